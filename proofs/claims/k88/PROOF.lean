import PyProof.Rows.All
import Wide.All
import OpenK.AllK
import Wide.FinOn
import Lean
import PyProof.EqAt
import PyProof.EqKinds
import PyProof.TupleCall
import PyProof.NeKinds
import PySem.Challenge.RW_helmsum_k88_not_seen
set_option Elab.async false
set_option linter.all false
set_option maxRecDepth 100000
abbrev aa:=@List.getD_eq_getElem?_getD
abbrev ae:=@List.getElem?_eq_getElem
abbrev af:=@Nat.le_trans
abbrev ag:=@List.length_map
abbrev ah:=@Nat.le_refl
abbrev ai:=@List.mem_of_getElem?
abbrev ao:=@List.length_append
abbrev ar:=@Nat.pow_le_pow_right
abbrev av:=@List.mem_map
abbrev aw:=@List.mem_cons
abbrev ax:=@Nat.mul_le_mul_right
abbrev ay:=@List.mem_append
abbrev aB:=@List.take_of_length_le
abbrev aD:=@List.getElem?_map
abbrev aE:=@List.not_mem_nil
abbrev aF:=@List.getElem_mem
abbrev aG:=@List.getElem?_eq_some_iff
abbrev aH:=@List.getElem?_eq_none
abbrev aI:=@Bool.false_ne_true
abbrev aK:=@Nat.lt_of_le_of_lt
abbrev aM:=@Rat.intCast_mul
abbrev aO:=@List.length_singleton
abbrev aP:=@Rat.intCast_natCast
abbrev aQ:=@PySem.boot_len
abbrev aS:=@Nat.zero_le
abbrev aT:=@List.size_toArray
abbrev aV:=@List.length_zipWith
abbrev aX:=@Nat.mul_comm
abbrev aY:=@Nat.lt_or_ge
abbrev aZ:=@Nat.mul_le_mul
abbrev a9:=@Nat.lt_of_lt_of_le
abbrev bh:=@List.length_take
abbrev bw:=@Nat.ne_of_lt
abbrev bA:=@List.length_cons
abbrev bB:=@List.getElem_of_mem
abbrev bD:=@List.mem_singleton
abbrev bG:=@List.mem_cons_of_mem
abbrev bK:=@Nat.one_le_two_pow
abbrev bL:=@List.mem_append_right
abbrev bM:=@List.getElem?_append_right
abbrev bO:=@Option.some.inj
abbrev bT:=@Nat.pow_add
abbrev bU:=@List.mem_of_mem_take
abbrev bV:=@List.length_replicate
abbrev bW:=@List.getElem?_zipWith
abbrev bX:=@Int.natAbs_natCast
abbrev bY:=@Nat.mul_assoc
abbrev bZ:=@Nat.le_mul_of_pos_left
abbrev b9:=@List.append_assoc
abbrev cm:=@List.length_range
abbrev cp:=@Int.fdiv_eq_ediv_of_nonneg
abbrev cx:=@Nat.mul_pos
abbrev cy:=@List.getElem?_range
abbrev cC:=@List.mem_or_eq_of_mem_set
abbrev cD:=@List.getElem?_append_left
abbrev cH:=@Nat.not_lt_zero
abbrev cK:=@List.mem_cons_self
abbrev cN:=@Nat.mul_le_mul_left
abbrev cO:=@List.nodup_cons
abbrev cP:=@List.nil_append
abbrev cQ:=@List.length_set
abbrev cX:=@Rat.intCast_neg
abbrev cZ:=@Nat.pow_succ
abbrev c6:=@Nat.le_of_lt
abbrev de:=@Nat.pow_lt_pow_right
abbrev dj:=@Rat.intCast_inj
abbrev dk:=@PySem.W.kia_one
abbrev dm:=@List.map_append
abbrev dw:=@Nat.succ_le_succ
abbrev dA:=@Bool.and_eq_true
abbrev dC:=@List.drop_eq_getElem_cons
abbrev dJ:=@Int.mul_assoc
abbrev dP:=@Nat.le_mul_of_pos_right
abbrev d6:=@Nat.lt_irrefl
abbrev eB:=@Rat.mul_comm
abbrev eC:=@Int.natAbs_mul
abbrev eL:=@List.append_nil
abbrev eQ:=@Int.natAbs_dvd_natAbs
abbrev eU:=@Nat.lt_succ_self
abbrev eV:=@List.length_drop
abbrev eX:=@List.cons_append
abbrev eY:=@Int.gcd_dvd_left
abbrev fj:=@PySem.F.type_list_append
abbrev fk:=@PySem.F.slot_list_append
abbrev fv:=@List.getElem_zipWith
abbrev fw:=@Int.mul_pos
abbrev fJ:=@PySem.F.plainAttrs_list
abbrev fK:=@List.nodup_append
abbrev fL:=@Int.gcd_dvd_right
abbrev fR:=@Int.mul_comm
abbrev gh:=@List.ext_getElem
abbrev gC:=@Nat.eq_zero_or_pos
abbrev gQ:=@Bool.beq_eq_decide_eq
abbrev ie:=@List.mem_filter
abbrev iq:=@Nat.succ_mul
abbrev ir:=@Nat.pow_pos
abbrev iu:=@Nat.add_comm
abbrev iB:=@List.map_cons
abbrev iC:=@List.eq_of_mem_replicate
abbrev iU:=@List.mem_range
abbrev iV:=@List.getElem_map
abbrev jg:=@Int.emod_lt_of_pos
abbrev jh:=@Bool.false_eq_true
abbrev jA:=@Nat.le_of_dvd
abbrev jZ:=@Nat.lt_trichotomy
abbrev j4:=@List.flatten_cons
abbrev kh:=@Nat.mul_add
abbrev ki:=@List.nodup_nil
abbrev kj:=@List.mem_of_mem_drop
abbrev kl:=@List.mem_append_left
abbrev ko:=@Int.natAbs_neg
abbrev kW:=@PySem.IsL.update
abbrev kY:=@Nat.dvd_mul_left
abbrev kZ:=@List.lookup_cons
abbrev k9:=@Int.gcd_comm
abbrev lM:=@PySem.F.plain_extend_loop
abbrev lN:=@PySem.mem_of_lookup
abbrev lO:=@Nat.pow_le_pow_left
abbrev lQ:=@List.replicate_succ
abbrev mi:=@List.getElem?_take_of_lt
abbrev mM:=@Int.emod_nonneg
abbrev mO:=@Bool.eq_iff_iff
abbrev mT:=@PySem.W.callWith_K
abbrev nM:=@List.getElem?_replicate
abbrev nN:=@Int.natCast_dvd_natCast
abbrev nO:=@Int.dvd_mul_of_dvd_left
abbrev oq:=@Rat.mul_zero
abbrev ot:=@Nat.sub_self
abbrev ou:=@Nat.ne_of_gt
abbrev ow:=@List.map_map
abbrev oy:=@List.forIn_nil
abbrev oz:=@List.ext_getElem?
abbrev pF:=@PySem.F.slot_zip_next
abbrev pG:=@Nat.min_le_right
abbrev pH:=@List.all_eq_true
abbrev qY:=@Rat.natCast_mul
abbrev qZ:=@List.length_zip
abbrev rg:=@List.forIn_cons
abbrev sU:=@List.filterMap_cons
abbrev tI:=@Int.eq_of_mul_eq_mul_right
abbrev ux:=@Int.mul_neg_of_pos_of_neg
abbrev ve:=@Nat.pow_mul
abbrev vf:=@Nat.one_mul
abbrev vg:=@Nat.le_succ
abbrev vh:=@Nat.dvd_mul_right
abbrev vn:=@Option.isSome_iff_exists
abbrev wU:=@Rat.intCast_eq_zero_iff
abbrev wV:=@Option.getD_some
abbrev wW:=@Nat.le_add_right
abbrev wX:=@Int.eq_ofNat_of_zero_le
abbrev xU:=@PySem.W.cellsFrom_some
abbrev xV:=@Nat.min_self
abbrev xW:=@List.length_pos_of_mem
abbrev xX:=@List.drop_of_length_le
abbrev xY:=@Int.zero_add
abbrev xZ:=@Int.dvd_refl
abbrev zZ:=@Rat.intCast_sub
abbrev z6:=@Rat.intCast_add
abbrev z7:=@PySem.W.exm_one
abbrev z8:=@List.range_succ
abbrev B6:=@Nat.add_mul
abbrev B9:=@Nat.add_le_add_right
abbrev D6:=@PySem.W.plainGet_of
abbrev D7:=@List.map_congr_left
abbrev F3:=@Nat.dvd_trans
abbrev F4:=@Int.natAbs_eq
abbrev F9:=@Rat.div_mul_cancel
abbrev Ge:=@Nat.sub_add_cancel
abbrev Gf:=@Nat.add_sub_cancel
abbrev Gg:=@List.mem_filterMap
abbrev Gh:=@List.getElem_range
abbrev Gi:=@List.filter_append
abbrev Gj:=@List.append_of_mem
abbrev Jy:=@Rat.add_zero
abbrev Jz:=@Nat.lt_succ_of_lt
abbrev JA:=@Nat.le_of_eq
abbrev Nc:=@List.map_id
abbrev Nd:=@Int.dvd_gcd
abbrev Nh:=@Rat.mul_eq_zero
abbrev Ni:=@Nat.le_antisymm
abbrev Nj:=@List.of_mem_zip
abbrev Nk:=@Int.gcd_pos_of_ne_zero_right
abbrev PX:=@Bool.and_false
abbrev RU:=@PySem.F.entry_extend_loop
abbrev RV:=@List.getElem?_zip_eq_some
abbrev RW:=@Int.natAbs_ediv_of_nonneg
abbrev Tx:=@PySem.F.args_zip_next_1
abbrev Tz:=@List.length_eq_zero_iff
abbrev TB:=@List.filter_cons_of_pos
abbrev TC:=@List.filter_cons_of_neg
abbrev LR9:=List (List Rat)
abbrev FG9:=PySem.W.Frag
namespace L2
open PySem PySem.Spec PyProof.Rows
abbrev Key:=Sum Int Str
def Pt:Key->Value->Bool
 | .inl k,v=>Value.isInt k v
 | .inr x,v=>Value.isStrOf x v
def T9 (w:World):Key->Int
 | .inl k=>hashInt k
 | .inr x=>hashStr w x
theorem fI:∀{k:Key} {v:Value},Pt k v=true->(∃i t,k=Sum.inl i/\v=Value.int i t)\/(∃x t,k=Sum.inr x/\v=Value.str x t)
 | .inl i,v,h=>by
  obtain ⟨t,e⟩:=Value.isInt_shape (k:=i) (v:=v) h;exact .inl ⟨i,t,rfl,e⟩
 | .inr x,v,h=>by
  obtain ⟨t,e⟩:=Value.isStrOf_shape (x:=x) (v:=v) h;exact .inr ⟨x,t,rfl,e⟩
theorem Q6 (a b:Int):decide ((Sum.inl a:Key)=Sum.inl b)=(a == b):=by
 by_cases e:a=b
 ·subst e;simp
 ·have h:¬(Sum.inl a:Key)=Sum.inl b:=λq=>e (Sum.inl.inj q)
  rw[decide_eq_false h];exact (beq_eq_false_iff_ne.mpr e).symm
theorem Q3 (a b:Str):decide ((Sum.inr a:Key)=Sum.inr b)=decide (a=b):=by
 by_cases e:a=b
 ·subst e;simp
 ·have h:¬(Sum.inr a:Key)=Sum.inr b:=λq=>e (Sum.inr.inj q)
  rw[decide_eq_false h,decide_eq_false e]
theorem Q5 (a:Int) (b:Str):decide ((Sum.inl a:Key)=Sum.inr b)=false:=decide_eq_false (λq=>nomatch q)
theorem Q4 (a:Str) (b:Int):decide ((Sum.inr a:Key)=Sum.inl b)=false:=decide_eq_false (λq=>nomatch q)
def IQ (prog:Program) (w:World):PySem.KeyKind prog w Key where
 is:=Pt
 hash:=T9 w
 inj:=λv a b ha hb=>by
  rcases fI ha with ⟨i,t,rfl,rfl⟩ | ⟨x,t,rfl,rfl⟩
  ·rcases fI hb with ⟨j,u,rfl,e⟩ | ⟨y,u,rfl,e⟩
   ·injection e with e1 _;rw[e1]
   ·exact nomatch e
  ·rcases fI hb with ⟨j,u,rfl,e⟩ | ⟨y,u,rfl,e⟩
   ·exact nomatch e
   ·injection e with e1 _;rw[e1]
 byValue:=λk v h=>by
  rcases fI h with ⟨i,t,rfl,rfl⟩ | ⟨x,t,rfl,rfl⟩ <;> rfl
 pyHash:=λhv h=>by
  rcases fI hv with ⟨i,t,rfl,rfl⟩ | ⟨x,t,rfl,rfl⟩
  ·exact wpAny_pyHash_int h
  ·exact wpAny_pyHash_str h
 eqBool:=λhu hv h=>by
  rcases fI hu with ⟨i,t,rfl,rfl⟩ | ⟨x,t,rfl,rfl⟩
  ·rcases fI hv with ⟨j,u,rfl,rfl⟩ | ⟨y,u,rfl,rfl⟩
   ·rw[Q6] at h;exact wpAny_eqBool_int h
   ·rw[Q5] at h;exact SeqAt.EqAt.int_str i t y u _ _ _ _ h
  ·rcases fI hv with ⟨j,u,rfl,rfl⟩ | ⟨y,u,rfl,rfl⟩
   ·rw[Q4] at h;exact SeqAt.EqAt.str_int x t j u _ _ _ _ h
   ·rw[Q3] at h;exact wpAny_eqBool_str h
 «strs»:=λk x t v h=>by
  rcases fI h with ⟨i,u,rfl,e⟩ | ⟨y,u,rfl,e⟩
  ·exact nomatch e
  ·injection e with e1 _
   subst e1;cases v <;> rfl
inductive V where
  | non | bl (b : Bool) | int (i : Int) | str (x : Str) | byt (b : Array UInt8) | flt (b : UInt64) | ref (a : Addr) | ty (n : String)
  deriving DecidableEq

def RelV:V->Value->Prop
 | .non,u=>u=Value.none
 | .bl b,u=>u=Value.bool b
 | .int i,u=>∃t,u=Value.int i t
 | .str x,u=>∃t,u=Value.str x t
 | .byt b,u=>∃t,u=Value.bytes b t
 | .flt b,u=>∃t,u=Value.float b t
 | .ref a,u=>u=Value.ref a
 | .ty n,u=>u=Value.type n
abbrev cJ:List V->List Value->Prop:=Paired RelV
theorem cJ.length (r:cJ xs us):xs.length=us.length:=Paired.length r
theorem cJ.get:∀{xs:List V} {us:List Value} {i:Nat} {x:V},cJ xs us->xs[i]?=some x->∃u,us[i]?=some u/\RelV x u
 | _,_,_,_,.nil,e=>by simp at e
 | _,_,0,_,.cons r _,e=>by simp at e;subst e;exact ⟨_,rfl,r⟩
 | _,_,i+1,x,.cons _ t,e=>by
  obtain ⟨u,h1,h2⟩:=cJ.get (i:=i) (x:=x) t (by simpa using e);exact ⟨u,by simpa using h1,h2⟩
theorem cJ.set {x:V} {u:Value} (r:RelV x u):∀{xs:List V} {us:List Value} (i:Nat),cJ xs us->cJ (xs.set i x) (us.set i u)
 | _,_,_,.nil=>.nil
 | _,_,0,.cons _ t=>.cons r t
 | _,_,i+1,.cons q t=>.cons q (cJ.set r i t)
theorem cJ.append:∀{xs ys:List V} {us ws:List Value},cJ xs us->cJ ys ws->cJ (xs++ys) (us++ws)
 | _,_,_,_,.nil,s=>s
 | _,_,_,_,.cons r t,s=>.cons r (cJ.append t s)
theorem cJ.take:∀{xs:List V} {us:List Value} (n:Nat),cJ xs us->cJ (xs.take n) (us.take n)
 | _,_,0,_=>.nil
 | _,_,_+1,.nil=>.nil
 | _,_,n+1,.cons r t=>.cons r (cJ.take n t)
theorem cJ.drop:∀{xs:List V} {us:List Value} (n:Nat),cJ xs us->cJ (xs.drop n) (us.drop n)
 | _,_,0,r=>r
 | _,_,_+1,.nil=>.nil
 | _,_,n+1,.cons _ t=>cJ.drop n t
def xx:Option V->Option Value->Prop
 | some v,some u=>RelV v u
 | none,none=>True
 | _,_=>False
def KV {κ:Type}:List (κ×V)->List (κ×Value)->Prop:=Paired λ(p:κ×V) (q:κ×Value)=>p.1=q.1/\RelV p.2 q.2
def kV:Key->V
 | .inl i=>.int i
 | .inr x=>.str x
inductive HO where
 | lst (xs:List V)
 | tup (xs:List V)
 | dK (kvs:List (Key×V)) | dT (kvs:List (List Key×V))
 | set (S:Int->Bool) (n:Nat)
 | ins (C dx:Addr) (fs:List (Str×V))
 | own (x:Addr)
 | xd (fs:List (Str×V))
 | met (f x:Addr)
 | rng (lo hi:Int)
 | frz (o:Obj) (u:HO)
 | tbl (ps:Array Value)
 | ext (φ:Heap->Prop)
abbrev Hp:=Addr->Option HO
def upd (H:Hp) (a:Addr) (o:HO):Hp:=λb=>if b=a then some o else H b
theorem az:upd H a o a=some o:=by unfold upd;rw[if_pos rfl]
theorem aJ (h:b≠a):upd H a o b=H b:=by unfold upd;rw[if_neg h]
theorem dg {H:Hp} (h:H a=some o) (h':H b=none):a≠b:=by
 intro e;subst e;rw[h] at h';cases h'
section
variable (P:Program) (w:World)
def fu (H:Hp) (h:Heap) (a:Addr):HO->Prop
 | .lst xs=>xs.length<=sizeLine/\∃(its:List Value) (n:Nat),cJ xs its/\h.get? a=some { cls:=.type "list",data:=.seq its.toArray n }
 | .tup xs=>xs.length<=sizeLine/\∃its:List Value,cJ xs its/\IsTup h a its.toArray
 | .dK kvs=>kvs.length<=sizeLine/\(a == sysModules)=false/\∃vs,KV kvs vs/\h.DictOf (IQ P w) a vs
 | .dT kvs=>kvs.length<=sizeLine/\(a == sysModules)=false/\∃xs:List (List Key×Addr×Value),
   Paired (λ(p:List Key×V) (q:List Key×Addr×Value)=>p.1=q.1/\H q.2.1=some (.tup (p.1.map kV))/\RelV p.2 q.2.2) kvs xs /\
   ∃o es ep,h.get? a=some o/\o.ExactDict/\o.data=.dict es ep/\es.toList=xs.map (entryOfKey (tupleKind (IQ P w)))/\(xs.map (·.1)).Nodup
 | .set S n=>h.SetOf (intKind P w) a S n
 | .ins C dx fs=>H dx=some (.own a)/\fs.length<=1000/\dx≠a/\h.get? a=some (PySem.W.instObj C dx) /\
   ∃mA,h.Ns1 dx mA/\(∀f,xx (fs.lookup f) (mA f))/\PySem.Within mA (fs.map (·.1))
 | .own _=>∃o,h.get? a=some o
 | .xd fs=>∃mA,h.Ns1 a mA/\∀f,xx (fs.lookup f) (mA f)
 | .rng lo hi=>∃t u v,h.get? a=some { cls:=.type "range",data:=.fields #[.int lo t,.int hi u,.int 1 v] }
 | .frz o u=>h.get? a=some o/\fu H h a u
 | .tbl ps=>h.get? a=some { cls:=.none,data:=.fields ps }
 | .met f x=>h.get? a=some (PySem.W.methodObj (.ref f) (.ref x))
 | .ext φ=>φ h/\(∃o,h.get? a=some o)/\∀h1 h2:Heap,φ h1->(∀o,h1.get? a=some o->h2.get? a=some o)->φ h2
def vm (H:Hp) (h:Heap):Prop:=∀a o,H a=some o->fu P w H h a o
end
section
variable {P:Program} {w:World} {H H':Hp} {h h':Heap} {a:Addr} {o:HO}
theorem fu.lt (x:fu P w H h a o):a < h.objs.size:=by
 cases o with
 | lst xs=>obtain ⟨_,_,_,_,e⟩:=x;exact Heap.lt_size e
 | tup xs=>obtain ⟨_,_,_,p⟩:=x;exact p.lt
 | dK kvs=>obtain ⟨_,_,_,_,o,_,_,e,_⟩:=x;exact Heap.lt_size e
 | dT kvs=>obtain ⟨_,_,_,_,o,_,_,e,_⟩:=x;exact Heap.lt_size e
 | set S n=>obtain ⟨o,_,_,_,e,_⟩:=x;exact Heap.lt_size e
 | ins C dx fs=>obtain ⟨_,_,_,e,_⟩:=x;exact Heap.lt_size e
 | own y=>obtain ⟨_,e⟩:=x;exact Heap.lt_size e
 | xd fs=>obtain ⟨_,⟨_,_,_,e,_⟩,_⟩:=x;exact Heap.lt_size e
 | rng lo hi=>obtain ⟨_,_,_,e⟩:=x;exact Heap.lt_size e
 | frz ob u=>obtain ⟨e,_⟩:=x;exact Heap.lt_size e
 | tbl ps=>exact Heap.lt_size (show h.get? a=some _ from x)
 | met f y=>exact Heap.lt_size (show h.get? a=some _ from x)
 | ext φ=>obtain ⟨_,⟨_,e⟩,_⟩:=x;exact Heap.lt_size e
theorem Paired.mapP {α β:Type} {F G:α->β->Prop}:∀{l₁:List α} {l₂:List β},Paired F l₁ l₂->(∀a b,F a b->G a b)->Paired G l₁ l₂
 | _,_,.nil,_=>.nil
 | _,_,.cons r t,f=>.cons (f _ _ r) (Paired.mapP t f)
theorem Paired.imp' {F G:α->β->Prop} (f:∀a b,F a b->G a b) {l₁:List α} {l₂:List β} (r:Paired F l₁ l₂):Paired G l₁ l₂:=Paired.mapP r f
theorem fu.stay (x:fu P w H h a o) (k:∀b u,(b=a\/H b=some (.own a))->h.get? b=some u->h'.get? b=some u)
  (ho:∀b,H b=some (.own a)->H' b=some (.own a)) (ht:∀b xs,H b=some (.tup xs)->H' b=some (.tup xs)):fu P w H' h' a o:=by
 induction o with
 | lst xs=>obtain ⟨z,its,n,r,e⟩:=x;exact ⟨z,its,n,r,k _ _ (.inl rfl) e⟩
 | tup xs=>obtain ⟨z,its,r,ob,e,c⟩:=x;exact ⟨z,its,r,ob,k _ _ (.inl rfl) e,c⟩
 | dK kvs=>obtain ⟨z,y,vs,r,ob,es,ep,e,c⟩:=x;exact ⟨z,y,vs,r,ob,es,ep,k _ _ (.inl rfl) e,c⟩
 | dT kvs =>
  obtain ⟨z,y,xs,r,ob,es,ep,e,c⟩:=x;exact ⟨z,y,xs,Paired.mapP r λp q z=>⟨z.1,ht _ _ z.2.1,z.2.2⟩,ob,es,ep,k _ _ (.inl rfl) e,c⟩
 | set S n=>obtain ⟨ob,es,ep,t,e,c⟩:=x;exact ⟨ob,es,ep,t,k _ _ (.inl rfl) e,c⟩
 | ins C dx fs =>
  obtain ⟨d,z,ne,e,mA,⟨od,es,ep,e2,c⟩,r⟩:=x;exact ⟨ho _ d,z,ne,k _ _ (.inl rfl) e,mA,⟨od,es,ep,k _ _ (.inr d) e2,c⟩,r⟩
 | own y=>obtain ⟨ob,e⟩:=x;exact ⟨ob,k _ _ (.inl rfl) e⟩
 | xd fs=>obtain ⟨mA,⟨od,es,ep,e,c⟩,r⟩:=x;exact ⟨mA,⟨od,es,ep,k _ _ (.inl rfl) e,c⟩,r⟩
 | rng lo hi=>obtain ⟨t,u,v,e⟩:=x;exact ⟨t,u,v,k _ _ (.inl rfl) e⟩
 | frz ob u ih=>obtain ⟨e,q⟩:=x;exact ⟨k _ _ (.inl rfl) e,ih q⟩
 | tbl ps =>
  have e:h.get? a=some { cls:=.none,data:=.fields ps }:=x;show h'.get? a=some { cls:=.none,data:=.fields ps }
  exact k a _ (.inl rfl) e
 | met f y =>
  have e:h.get? a=some (PySem.W.methodObj (.ref f) (.ref y)):=x;show h'.get? a=some (PySem.W.methodObj (.ref f) (.ref y))
  exact k a _ (.inl rfl) e
 | ext φ=>obtain ⟨p,⟨o,e⟩,st⟩:=x;exact ⟨st _ _ p λo q=>k _ _ (.inl rfl) q,⟨o,k _ _ (.inl rfl) e⟩,st⟩
theorem vm.lt (x:vm P w H h) (e:H a=some o):a < h.objs.size:=(x a o e).lt
theorem vm.fresh (x:vm P w H h) (e:h.objs.size<=a):H a=none:=by
 cases q:H a with
 | none=>rfl
 | some u=>exact absurd (a9 (x.lt q) e) (d6 _)
theorem vm.kept (x:vm P w H h) (k:∀b u,h.get? b=some u->h'.get? b=some u):vm P w H h':=λa o e =>
 (x a o e).stay (λb u _ q=>k b u q) (λ_ q=>q) λ_ _ q=>q
theorem vm.laid (x:vm P w H h) (k:∀b u,h.get? b=some u->h'.get? b=some u) (hp:h.objs.size<=a) (new:fu P w (upd H a o) h' a o):vm P w (upd H a o) h':=λb u e=>by
 have hn:=x.fresh hp;by_cases hb:b=a
 ·subst hb;rw[az] at e;cases e;exact new
 ·rw[aJ hb] at e;exact (x b u e).stay (λc v _ q=>k c v q) (λc q=>by rw[aJ (dg q hn)];exact q) λc xs q=>by rw[aJ (dg q hn)];exact q
end
def Rd (H:Hp) (a:Addr) (u:HO):Prop:=H a=some u\/∃o,H a=some (.frz o u)
theorem Rd.ok (r:Rd H a u) (x:vm P w H h):fu P w H h a u:=by
 rcases r with r | ⟨o,r⟩
 ·exact x a u r
 ·obtain ⟨_,q⟩:=x a _ r;exact q
def TU:Option HO->Prop
 | some (.lst _)=>True
 | some (.dK _)=>True
 | some (.dT _)=>True
 | some (.set _ _)=>True
 | some (.ins _ _ _)=>True
 | some (.ext _)=>True
 | _=>False
section
variable {P:Program} {w:World} {H:Hp} {h h':Heap} {x e:Addr} {o':HO}
theorem vm.write (ok:vm P w H h) (mu:TU (H x)) (he:e=x\/H e=some (.own x)) (k:∀b u,b≠e->h.get? b=some u->h'.get? b=some u) (heo:∃u,h'.get? e=some u)
  (new:fu P w (upd H x o') h' x o'):vm P w (upd H x o') h':=λb u q=>by
 have nown:∀c y,H c=some (.own y)->c≠x:=λc y r z=>by subst z;rw[r] at mu;exact mu
 have ntup:∀c xs,H c=some (.tup xs)->c≠x:=λc xs r z=>by subst z;rw[r] at mu;exact mu
 by_cases hb:b=x
 ·subst hb;rw[az] at q;cases q;exact new
 ·rw[aJ hb] at q;by_cases hbe:b=e
  ·have q':H b=some (.own x):=by
    rcases he with z | z
    ·exact absurd (hbe.trans z) hb
    ·rw[hbe];exact z
   rw[q] at q';cases q';obtain ⟨v,hv⟩:=heo;exact ⟨v,by rw[hbe];exact hv⟩
  ·refine (ok b u q).stay (λc v hc r=>k c v ?_ r) (λc r=>by rw[aJ (nown c b r)];exact r) λc xs r=>by rw[aJ (ntup c xs r)];exact r
   rcases hc with rfl | hc
   ·exact hbe
   ·rintro rfl;rcases he with z | z
    ·exact nown c b hc z
    ·rw[hc] at z;cases z;exact hb rfl
end
structure Un (fs ex:List Addr) (H H':Hp) (h h':Heap):Prop where
 keep:∀b o,h.get? b=some o->H b=none->b∉fs->b∉ex->h'.get? b=some o
 slot:∀b o,h.get? b=some o->H b=none->b∈fs->b∉ex->∃sl,h'.get? b=some { o with slots:=sl }
 free:∀b o,h.get? b=some o->H b=none->b∉ex->H' b=none
 there:∀b o,h.get? b=some o->b∉ex->∃o',h'.get? b=some o'
 tups:∀b xs,H b=some (.tup xs)->H' b=some (.tup xs)
 frzs:∀b o u,H b=some (.frz o u)->H' b=some (.frz o u)
 tbls:∀b ps,H b=some (.tbl ps)->∃more,H' b=some (.tbl (ps++more))
section
variable {fs fs' ex ex':List Addr} {H H1 H2:Hp} {h h1 h2 h':Heap} {a x e:Addr} {o:HO}
theorem Un.any (u:Un fs ex H H1 h h1) (q:h.get? b=some ob) (n:H b=none) (hx:b∉ex):∃sl,h1.get? b=some { ob with slots:=sl }:=by
 by_cases hb:b∈fs
 ·exact u.slot b ob q n hb hx
 ·exact ⟨ob.slots,u.keep b ob q n hb hx⟩
theorem Un.kept (k:∀b u,h.get? b=some u->h'.get? b=some u):Un fs ex H H h h' :=
 ⟨λb ob q _ _ _=>k b ob q,λb ob q _ _ _=>⟨ob.slots,k b ob q⟩,λ_ _ _ n _=>n,λb ob q _=>⟨ob,k b ob q⟩,λ_ _ q=>q,λ_ _ _ q=>q,λ_ ps q=>⟨#[],by rw[q];simp⟩⟩
theorem Un.refl:Un fs ex H H h h:=Un.kept λ_ _ q=>q
theorem Un.laid (k:∀b u,h.get? b=some u->h'.get? b=some u) (hp:h.objs.size<=a) (hn:H a=none):Un fs ex H (upd H a o) h h' where
 keep:=λb u q _ _ _=>k b u q
 slot:=λb u q _ _ _=>⟨u.slots,k b u q⟩
 free:=λb u q n _=>by rw[aJ (bw (a9 (Heap.lt_size q) hp))];exact n
 there:=λb u q _=>⟨u,k b u q⟩
 tups:=λb xs q=>by rw[aJ (dg q hn)];exact q
 frzs:=λb u xs q=>by rw[aJ (dg q hn)];exact q
 tbls:=λb ps q=>⟨#[],by rw[aJ (dg q hn),q];simp⟩
theorem Un.write (mu:TU (H x)) (he:e=x\/H e=some (.own x)) (k:∀b u,b≠e->h.get? b=some u->h'.get? b=some u) (heo:∃u,h'.get? e=some u):Un fs ex H (upd H x o) h h':=by
 have hx:∀b,H b=none->b≠x:=λb n z=>by subst z;rw[n] at mu;exact mu
 have hb:∀b,H b=none->b≠e:=λb n z=>by
  subst z;rcases he with r | r
  ·exact hx b n r
  ·rw[n] at r;cases r
 have hm:∀b u,H b=some u->¬TU (some u)->b≠x:=λb u q nm z=>by subst z;rw[q] at mu;exact nm mu
 refine ⟨λb u q n _ _=>k b u (hb b n) q,λb u q n _ _=>⟨u.slots,k b u (hb b n) q⟩,λb u q n _=>by rw[aJ (hx b n)];exact n,λb u q _=>?_,
  λb xs q=>by rw[aJ (hm b _ q λz=>z)];exact q,λb u xs q=>by rw[aJ (hm b _ q λz=>z)];exact q,λb ps q=>⟨#[],by rw[aJ (hm b _ q λz=>z),q];simp⟩⟩
 by_cases hbe:b=e
 ·subst hbe;exact heo
 ·exact ⟨u,k b u hbe q⟩
end
def TK (h:Heap) (H:Hp):List Addr:=(List.range h.objs.size).filter λa=>(H a).isSome
def Dc (h:Heap) (H:Hp):Heap:=PySem.W.hideAll h (TK h H)
theorem Kc (h:Heap) (H:Hp):(Dc h H).objs.size=h.objs.size:=PySem.W.hideAll_size _ _
theorem Ml (e:h.get? b=some o) (n:H b=none):(Dc h H).get? b=some o :=
 PySem.W.hideAll_get _ e λhm=>by
  have q:(H b).isSome=true:=(ie.mp hm).2;rw[n] at q;simp at q
theorem Ol (e:(Dc h H).get? b=some o):h.get? b=some o/\H b=none:=by
 have e':h.get? b=some o:=PySem.W.of_hideAll (TK h H) e;refine ⟨e',?_⟩;cases q:H b with
 | none=>rfl
 | some x =>
  have hm:b∈TK h H:=ie.mpr ⟨iU.mpr (Heap.lt_size e'),by simp [q]⟩;have z:(Dc h H).get? b=none:=PySem.W.hideAll_none (TK h H) hm;rw[z] at e;cases e
structure Mod (K:FG9) (mg:Str->Option Value) (base:Heap):Prop where
 kin:K.In base
 glob:base.Ns mainGlobals mg
 blt:∃mb,base.Ns builtinsNs mb/\∀x:Str,x≠"__name__"->mb x=bootBuiltins x
 nolimit:base.NoLimit
structure Cx where
 prog:Program
 w:World
 K:FG9
 mg:Str->Option Value
 base:Heap
 A:Around
 N:List Str
 s₀:Shared
 H₀:Hp
 env:Env
 outer:List Env
 stack:List Env
 ex:List Addr
 fn:Str->Bool
 calm:Bool
 pn:List (Addr×Obj)
 xe:Value->Shared->Prop
def uw (l:List Env):List Addr:=l.filterMap (·.frame)
abbrev Cx.fs (X:Cx):List Addr:=uw X.outer
def Ug (sc:Scope) (x:Str):Prop:=sc.names.lookup x=some .local\/sc.names.lookup x=some .cell\/sc.names.lookup x=some .free
def Loc (sc:Scope) (x:Str):Prop:=sc.names.lookup x=some .local\/sc.names.lookup x=some .cell
def Look (env:Env) (h:Heap) (m:Str->Option Value) (x:Str) (u:Value):Prop :=
 (env.kindOf x=some .local/\m x=some u)\/((env.kindOf x=some .cell\/env.kindOf x=some .free)/\∃c,env.cells.lookup x=some c/\h.IsCell c (some u))
structure Cx.Ok (X:Cx):Prop where
 mod:Mod X.K X.mg X.base
 kind:X.env.scope.kind=.function
 glob:X.env.globals=mainGlobals
 blt:X.env.builtins=builtinsNs
 above:X.s₀.heap.objs.size<=X.env.locals
 inj:∀x y c,X.env.cells.lookup x=some c->X.env.cells.lookup y=some c->x=y
 has:∀x,(X.env.kindOf x=some .cell\/X.env.kindOf x=some .free)->∃c,X.env.cells.lookup x=some c
 cab:∀x c,X.fn x=true->X.env.cells.lookup x=some c->X.s₀.heap.objs.size<=c
 hd:X.calm=true->X.A.handled=none
 frames:X.A.frames=some X.stack
 stk:X.stack=X.outer\/(X.stack=X.env :: X.outer/\X.env.frame=some X.env.locals)
 exf:∀b∈X.ex,b≠X.env.locals/\∀x c,X.env.cells.lookup x=some c->c≠b
 bs:∀b o,X.base.get? b=some o->X.s₀.heap.get? b=some o/\X.H₀ b=none
 bsz:X.base.objs.size<=X.s₀.heap.objs.size
 noex:∀b o,X.base.get? b=some o->b∉X.ex
 exfs:∀b∈X.ex,b∉X.fs
 funs:X.s₀.heap.FunFrames X.base X.outer
 frf:∀b∈X.fs,X.H₀ b=none
structure Inv (X:Cx) (pins:List (Addr×Obj)) (σ:List (Option V)) (H:Hp) (s:Shared):Prop where
 ok:X.Ok
 os:s.os=X.s₀.os
 bare:AllBare s.gens
 base:Un X.fs X.ex X.H₀ H X.s₀.heap s.heap
 loc:∃m,s.heap.Ns X.env.locals m/\∀(i:Nat) (x:Str) (v:V),X.N[i]?=some x->σ[i]?=some (some v)->Ug X.env.scope x->∃u,RelV v u/\Look X.env s.heap m x u
 cell:∀x c,X.env.cells.lookup x=some c->∃v,s.heap.IsCell c v
 free:H X.env.locals=none
 freeC:∀x c,X.env.cells.lookup x=some c->H c=none
 pin:∀p∈X.pn++pins,s.heap.get? p.1=some p.2/\H p.1=none/\p.1≠X.env.locals/\p.1∉X.fs/\∀v,p.2.data≠.cell v
 hok:vm X.prog X.w H s.heap
 len:σ.length=X.N.length
section
variable {X:Cx} {pins:List (Addr×Obj)} {σ:List (Option V)} {H H':Hp} {s:Shared} {h':Heap}
theorem Cx.Ok.nofr (ok:X.Ok) (e:X.base.get? b=some o):b∉X.fs:=λhb=>by
 have:=(ok.funs.mem hb).1;rw[e] at this;cases this
theorem Inv.bs (I:Inv X pins σ H s):∀b o,X.base.get? b=some o->s.heap.get? b=some o/\H b=none:=λb o e =>
 ⟨I.base.keep b o (I.ok.bs b o e).1 (I.ok.bs b o e).2 (I.ok.nofr e) (I.ok.noex b o e),I.base.free b o (I.ok.bs b o e).1 (I.ok.bs b o e).2 (I.ok.noex b o e)⟩
theorem Inv.bk (I:Inv X pins σ H s):∀b o,X.base.get? b=some o->s.heap.get? b=some o:=λb o e=>(I.bs b o e).1
theorem Inv.mod (I:Inv X pins σ H s):Mod X.K X.mg X.base:=I.ok.mod
theorem Inv.kIn (I:Inv X pins σ H s):X.K.In s.heap:=I.ok.mod.kin.keeps I.bk
theorem Inv.lt (I:Inv X pins σ H s):X.env.locals < s.heap.objs.size:=let ⟨_,hn,_⟩:=I.loc;hn.lt
theorem Inv.sz (I:Inv X pins σ H s):X.s₀.heap.objs.size<=s.heap.objs.size:=af I.ok.above (c6 I.lt)
theorem Inv.nofs (I:Inv X pins σ H s) {a:Addr} (h:s.heap.objs.size<=a):a∉X.fs:=λhb=>by
 obtain ⟨_,o,ho,_⟩:=I.ok.funs.mem hb;exact absurd (a9 (Heap.lt_size ho) (af I.sz h)) (d6 _)
theorem Inv.cne (I:Inv X pins σ H s):∀x c,X.env.cells.lookup x=some c->c≠X.env.locals:=λx c e z=>by
 obtain ⟨v,o,ho,hd⟩:=I.cell x c e;obtain ⟨m,⟨o',es,ep,ho',hd',_⟩,_⟩:=I.loc;rw[z,ho'] at ho;cases ho;rw[hd'] at hd;cases hd
theorem Inv.funs (I:Inv X pins σ H s):s.heap.FunFrames X.base X.outer:=by
 have all:∀(l:List Env),(∀b∈uw l,b∈X.fs)->X.s₀.heap.FunFrames X.base l->s.heap.FunFrames X.base l:=by
  intro l
  induction l with
  | nil=>intro _ _;trivial
  | cons env r ih =>
   intro hs hl;obtain ⟨hk,⟨L,o,hf,hn,ho,hd⟩,hr⟩:=hl;have hL:L∈X.fs:=hs L (by unfold uw;rw[sU,hf];exact cK);obtain ⟨sl,e⟩:=I.base.slot L o ho (I.ok.frf L hL) hL λz=>I.ok.exfs L z hL
   exact ⟨hk,⟨L,_,hf,hn,e,hd⟩,ih (λb hb=>hs b (by unfold uw;rw[sU,hf];exact bG _ hb)) hr⟩
 exact all X.outer (λ_ hb=>hb) I.ok.funs
theorem Inv.stack (I:Inv X pins σ H s):s.heap.FunFrames X.base X.stack:=by
 rcases I.ok.stk with e | ⟨e,hf⟩
 ·rw[e];exact I.funs
 ·rw[e];obtain ⟨m,hn,_⟩:=I.loc;refine .cons (by rw[I.ok.kind];decide) hf hn ?_ I.funs;exact Heap.get?_none_of_le (af I.ok.bsz I.ok.above)
theorem Inv.stkSub (I:Inv X pins σ H s):∀b∈uw X.stack,b∈X.env.locals :: X.fs:=λb hb=>by
 rcases I.ok.stk with e | ⟨e,hf⟩
 ·rw[e] at hb;exact bG _ hb
 ·rw[e] at hb;unfold uw at hb;rw[sU,hf] at hb;exact hb
theorem Inv.stkFree (I:Inv X pins σ H s):∀b∈uw X.stack,H b=none:=λb hb=>by
 rcases aw.mp (I.stkSub b hb) with e | hb
 ·rw[e];exact I.free
 ·obtain ⟨_,o,ho,_⟩:=I.ok.funs.mem hb;exact I.base.free b o ho (I.ok.frf b hb) λz=>I.ok.exfs b z hb
theorem Inv.step {ch:List Addr} (I:Inv X pins σ H s)
  (hch:∀b∈ch,(b∈X.ex\/X.s₀.heap.objs.size<=b)/\b≠X.env.locals/\(∀x c,X.env.cells.lookup x=some c->c≠b)/\∀p∈X.pn++pins,p.1≠b)
  (keep:∀b o,b≠X.env.locals->b∉X.fs->b∉ch->s.heap.get? b=some o->H b=none->h'.get? b=some o)
  (slot:∀b o,b≠X.env.locals->b∈X.fs->b∉ch->s.heap.get? b=some o->H b=none->∃sl,h'.get? b=some { o with slots:=sl }) (free:∀b o,b∉ch->s.heap.get? b=some o->H b=none->H' b=none)
  (there:∀b o,b∉ch->s.heap.get? b=some o->∃o',h'.get? b=some o')
  (tups:∀b xs,H b=some (.tup xs)->H' b=some (.tup xs)) (frzs:∀b o u,H b=some (.frz o u)->H' b=some (.frz o u)) (tbls:∀b ps,H b=some (.tbl ps)->∃more,H' b=some (.tbl (ps++more)))
  (ns:∀m,s.heap.Ns X.env.locals m->h'.Ns X.env.locals m) (hok:vm X.prog X.w H' h') (hg:AllBare g') :
  Inv X pins σ H' { s with heap:=h',gens:=g',drawn:=d',toks:=t' }:=by
 have neL:∀b o,X.s₀.heap.get? b=some o->b≠X.env.locals:=λb o e=>bw (a9 (Heap.lt_size e) I.ok.above)
 have neC:∀b o,X.s₀.heap.get? b=some o->b∉X.ex->b∉ch:=λb o e hx hb=>by
  rcases (hch b hb).1 with z | z
  ·exact hx z
  ·exact absurd (a9 (Heap.lt_size e) z) (d6 _)
 have cellK:∀x c,X.env.cells.lookup x=some c->∀v,s.heap.IsCell c v->h'.IsCell c v:=λx c e v ⟨o,ho,hd⟩=>by
  have nch:c∉ch:=λz=>(hch c z).2.2.1 x c e rfl
  by_cases hc:c∈X.fs
  ·obtain ⟨sl,q⟩:=slot c o (I.cne x c e) hc nch ho (I.freeC x c e);exact ⟨_,q,hd⟩
  ·exact ⟨o,keep c o (I.cne x c e) hc nch ho (I.freeC x c e),hd⟩
 refine ⟨I.ok,I.os,hg,⟨λb o e n hb hx=>?_,λb o e n hb hx=>?_,λb o e n hx=>?_,λb o e hx=>?_,λb xs e=>tups b xs (I.base.tups b xs e),λb o xs e=>frzs b o xs (I.base.frzs b o xs e),λb ps e=>?_⟩,?_,λx c e=>?_,?_,λx c e=>?_,λp hp=>?_,hok,I.len⟩
 ·exact keep b o (neL b o e) hb (neC b o e hx) (I.base.keep b o e n hb hx) (I.base.free b o e n hx)
 ·obtain ⟨sl,e1⟩:=I.base.slot b o e n hb hx;obtain ⟨sl',e2⟩:=slot b _ (neL b o e) hb (neC b o e hx) e1 (I.base.free b o e n hx);exact ⟨sl',e2⟩
 ·obtain ⟨o',e1⟩:=I.base.there b o e hx;exact free b o' (neC b o e hx) e1 (I.base.free b o e n hx)
 ·obtain ⟨o',e1⟩:=I.base.there b o e hx;exact there b o' (neC b o e hx) e1
 ·obtain ⟨m1,e1⟩:=I.base.tbls b ps e;obtain ⟨m2,e2⟩:=tbls b _ e1;exact ⟨m1++m2,by rw[e2,Array.append_assoc]⟩
 ·obtain ⟨m,hn,hl⟩:=I.loc;refine ⟨m,ns m hn,λi x v e1 e2 e3=>?_⟩;obtain ⟨u,r,l⟩:=hl i x v e1 e2 e3;refine ⟨u,r,?_⟩;rcases l with l | ⟨k,c,e,z⟩
  ·exact .inl l
  ·exact .inr ⟨k,c,e,cellK x c e _ z⟩
 ·obtain ⟨v,z⟩:=I.cell x c e;exact ⟨v,cellK x c e v z⟩
 ·obtain ⟨m,⟨o,_,_,ho,_⟩,_⟩:=I.loc;exact free _ o (λz=>(hch _ z).2.1 rfl) ho I.free
 ·obtain ⟨v,o,ho,hd⟩:=I.cell x c e;exact free c o (λz=>(hch c z).2.2.1 x c e rfl) ho (I.freeC x c e)
 ·obtain ⟨e,n,ne,nf,d⟩:=I.pin p hp;have nch:p.1∉ch:=λz=>(hch p.1 z).2.2.2 p hp rfl
  exact ⟨keep p.1 p.2 ne nf nch e n,free p.1 p.2 nch e n,ne,nf,d⟩
theorem Inv.un (I:Inv X pins σ H s) (u:Un X.fs [] H H' s.heap h') (hok:vm X.prog X.w H' h'):Inv X pins σ H' { s with heap:=h',toks:=t' }:=by
 obtain ⟨m,⟨o,es,ep,ho,r⟩,_⟩:=id I.loc;obtain ⟨sl,hL⟩:=u.any ho I.free (by simp)
 exact I.step (g':=s.gens) (d':=s.drawn) (ch:=[]) (λ_ z=>nomatch z) (λb o _ hb _ e n=>u.keep b o e n hb (by simp)) (λb o _ hb _ e n=>u.slot b o e n hb (by simp)) (λb o _ e n=>u.free b o e n (by simp)) (λb o _ e=>u.there b o e (by simp)) u.tups u.frzs u.tbls (λm' hm=>by
  obtain ⟨o',es',ep',ho',r'⟩:=hm;rw[ho] at ho';cases ho';exact ⟨_,es',ep',hL,r'⟩) hok I.bare
theorem Inv.call (I:Inv X pins σ H s) (u:Un (uw X.stack) ch H H' s.heap h') (hok:vm X.prog X.w H' h') (hg:AllBare g')
  (hch:∀b∈ch,(b∈X.ex\/X.s₀.heap.objs.size<=b)/\b≠X.env.locals/\(∀x c,X.env.cells.lookup x=some c->c≠b)/\∀p∈X.pn++pins,p.1≠b) :
  Inv X pins σ H' { s with heap:=h',gens:=g',drawn:=d',toks:=t' }:=by
 obtain ⟨m,⟨o,es,ep,ho,r⟩,_⟩:=id I.loc;obtain ⟨sl,hL⟩:=u.any ho I.free λz=>(hch _ z).2.1 rfl
 exact I.step (ch:=ch) hch (λb o hL hb hc e n=>u.keep b o e n (λz=>(aw.mp (I.stkSub b z)).elim hL hb) hc) (λb o _ _ hc e n=>u.any e n hc) (λb o hc e n=>u.free b o e n hc) (λb o hc e=>u.there b o e hc) u.tups u.frzs u.tbls (λm' hm=>by
  obtain ⟨o',es',ep',ho',r'⟩:=hm;rw[ho] at ho';cases ho';exact ⟨_,es',ep',hL,r'⟩) hok hg
theorem Inv.turned (I:Inv X pins σ H s) (k:∀b o,b≠it->s.heap.get? b=some o->h'.get? b=some o) (hn:H it=none) (hL:it≠X.env.locals)
  (h1:it∈X.ex\/X.s₀.heap.objs.size<=it) (h2:∀x c,X.env.cells.lookup x=some c->c≠it) (h3:∀p∈X.pn++pins,p.1≠it):Inv X pins σ H { s with heap:=h',toks:=t' }:=by
 have nit:∀b u,H b=some u->b≠it:=λb u e z=>by rw[z,hn] at e;cases e
 refine I.step (g':=s.gens) (d':=s.drawn) (ch:=[it]) (λb hb=>?_) (λb o _ _ hc e _=>k b o (λz=>hc (by simp [z])) e) (λb o _ _ hc e _=>⟨o.slots,k b o (λz=>hc (by simp [z])) e⟩) (λ_ _ _ _ n=>n)
  (λb o hc e=>⟨o,k b o (λz=>hc (by simp [z])) e⟩) (λ_ _ e=>e) (λ_ _ _ e=>e) (λb ps e=>⟨#[],by rw[e];simp⟩) (λm hm=>?_) (λb u e=>?_) I.bare
 ·have e:b=it:=by simpa using hb
  subst e;exact ⟨h1,hL,h2,h3⟩
 ·obtain ⟨o,es,ep,ho,r⟩:=hm;exact ⟨o,es,ep,k _ o (Ne.symm hL) ho,r⟩
 ·refine (I.hok b u e).stay (λc v hc q=>k c v ?_ q) (λ_ q=>q) λ_ _ q=>q
  rcases hc with z | z
  ·rw[z];exact nit b u e
  ·exact nit c _ z
theorem Inv.tok (I:Inv X pins σ H s) (t:Nat):Inv X pins σ H { s with toks:=t }:=I.un (h':=s.heap) (t':=t) Un.refl I.hok
theorem Inv.kept (I:Inv X pins σ H s) (k:∀b u,s.heap.get? b=some u->h'.get? b=some u):Inv X pins σ H { s with heap:=h',toks:=t' }:=I.un (Un.kept k) (I.hok.kept k)
theorem Inv.laid {a:Addr} (I:Inv X pins σ H s) (k:∀b u,s.heap.get? b=some u->h'.get? b=some u) (hp:s.heap.objs.size<=a) (new:fu X.prog X.w (upd H a o) h' a o) :
  Inv X pins σ (upd H a o) { s with heap:=h',toks:=t' }:=I.un (Un.laid k hp (I.hok.fresh hp)) (I.hok.laid k hp new)
theorem Inv.write (I:Inv X pins σ H s) (mu:TU (H x)) (he:e=x\/H e=some (.own x)) (k:∀b u,b≠e->s.heap.get? b=some u->h'.get? b=some u) (heo:∃u,h'.get? e=some u)
  (new:fu X.prog X.w (upd H x o) h' x o):Inv X pins σ (upd H x o) { s with heap:=h',toks:=t' }:=I.un (Un.write mu he k heo) (I.hok.write mu he k heo new)
theorem Inv.pins_of (I:Inv X pins σ H s) (h:∀p∈pins',s.heap.get? p.1=some p.2/\H p.1=none/\p.1≠X.env.locals/\p.1∉X.fs/\∀v,p.2.data≠.cell v):Inv X pins' σ H s :=
 ⟨I.ok,I.os,I.bare,I.base,I.loc,I.cell,I.free,I.freeC,λp hp=>(ay.mp hp).elim (λz=>I.pin p (kl _ z)) (h p),I.hok,I.len⟩
theorem EY {N:List Str} (hN:N.Nodup) {i j:Nat} (a:N[i]?=some x) (b:N[j]?=some x):i=j:=by
 obtain ⟨h1,e1⟩:=aG.mp a;obtain ⟨h2,e2⟩:=aG.mp b;exact (List.getElem_inj hN).mp (e1.trans e2.symm)
theorem Bc {M:Model} {A:Around} {E:Value->Shared->Prop} {i:Nat} {x:Str} {v:V} {u:Value} {Q:Unit->Shared->Prop} (I:Inv X pins σ H s) (hN:X.N.Nodup) (hi:X.N[i]?=some x) (hx:Loc X.env.scope x) (r:RelV v u)
  (h:∀s',Inv X pins (σ.set i (some v)) H s'->(∃a,Heap.SameBut a s.heap s'.heap/\(a=X.env.locals\/X.env.cells.lookup x=some a))->Q () s') (hf:X.fn x=true\/X.env.scope.names.lookup x=some .local:=by first | exact .inl rfl | exact .inr rfl | assumption):wpAny M A (storeName X.env x u) Q E s:=by
 obtain ⟨m,hn,hl⟩:=id I.loc;have hcls:(X.env.scope.kind == .class || (X.env.scope.kind == .module && X.env.locals != X.env.globals))=false:=by rw[I.ok.kind];rfl
 have hiσ:i < σ.length:=by rw[I.len];exact (aG.mp hi).1
 have cne:=I.cne
 have tracked:∀{a:Addr} {h':Heap},(∃o,s.heap.get? a=some o/\H a=none)->Heap.SameBut a s.heap h'->vm X.prog X.w H h':=λ{a h'} ha hs b ob e=>by
  obtain ⟨_,_,hfree⟩:=ha;refine (I.hok b ob e).stay (λc w' hc q=>(hs.2 c ?_).trans q) (λ_ q=>q) λ_ _ q=>q
  rintro rfl;rcases hc with rfl | hc
  ·rw[hfree] at e;cases e
  ·rw[hfree] at hc;cases hc
 rcases hx with hk | hk
 ·refine wpAny_storeName_local hk hn (λh' hn' hs=>?_) hcls;obtain ⟨oL,_,_,hoL,_⟩:=id hn;refine h _ ⟨I.ok,I.os,I.bare,⟨λb o e n hb hx=>?_,λb o e n hb hx=>?_,I.base.free,λb o e hx=>?_,I.base.tups,I.base.frzs,I.base.tbls⟩,⟨_,hn',λj y v' e1 e2 e3=>?_⟩,λy c e=>?_,I.free,I.freeC,λp hp=>?_,tracked ⟨oL,hoL,I.free⟩ hs,by simpa using I.len⟩ ⟨_,hs,.inl rfl⟩
  ·exact (hs.2 b (bw (a9 (Heap.lt_size e) I.ok.above))).trans (I.base.keep b o e n hb hx)
  ·obtain ⟨sl,e1⟩:=I.base.slot b o e n hb hx;exact ⟨sl,(hs.2 b (bw (a9 (Heap.lt_size e) I.ok.above))).trans e1⟩
  ·obtain ⟨o',e1⟩:=I.base.there b o e hx;exact ⟨o',(hs.2 b (bw (a9 (Heap.lt_size e) I.ok.above))).trans e1⟩
  ·by_cases hj:j=i
   ·subst hj;rw[hi] at e1;cases e1;rw[List.getElem?_set_self hiσ] at e2;cases e2;exact ⟨u,r,.inl ⟨hk,by simp⟩⟩
   ·rw[List.getElem?_set_ne (Ne.symm hj)] at e2;obtain ⟨u',r',q⟩:=hl j y v' e1 e2 e3;refine ⟨u',r',?_⟩;rcases q with ⟨k,e⟩ | ⟨k,c,e,z⟩
    ·refine .inl ⟨k,?_⟩;have:y≠x:=λe=>hj (EY hN e1 (e ▸ hi))
     simp [this,e]
    ·exact .inr ⟨k,c,e,z.sameBut hs (cne y c e)⟩
  ·obtain ⟨w',z⟩:=I.cell y c e;exact ⟨w',z.sameBut hs (cne y c e)⟩
  ·obtain ⟨e,n,ne,nf,d⟩:=I.pin p hp;exact ⟨(hs.2 p.1 ne).trans e,n,ne,nf,d⟩
 ·have hfn:X.fn x=true:=by
   rcases hf with z | z
   ·exact z
   ·rw[z] at hk;cases hk
  obtain ⟨c,hc⟩:=I.ok.has x (.inl hk);obtain ⟨w',z⟩:=I.cell x c hc;refine wpAny_storeName_cell I.ok.kind hk hc z (λh' hc' hs=>?_);obtain ⟨oc,hoc,hocd⟩:=id z;refine h { s with heap:=h' } ⟨I.ok,I.os,I.bare,⟨λb o e n hb hx=>?_,λb o e n hb hx=>?_,I.base.free,λb o e hx=>?_,I.base.tups,I.base.frzs,I.base.tbls⟩,⟨m,hn.sameBut hs (Ne.symm (cne x c hc)),λj y v' e1 e2 e3=>?_⟩,λy c' e=>?_,I.free,I.freeC,λp hp=>?_,tracked ⟨oc,hoc,I.freeC x c hc⟩ hs,by simpa using I.len⟩ ⟨c,hs,.inr hc⟩
  ·exact (hs.2 b (bw (a9 (Heap.lt_size e) (I.ok.cab x c hfn hc)))).trans (I.base.keep b o e n hb hx)
  ·obtain ⟨sl,e1⟩:=I.base.slot b o e n hb hx;exact ⟨sl,(hs.2 b (bw (a9 (Heap.lt_size e) (I.ok.cab x c hfn hc)))).trans e1⟩
  ·obtain ⟨o',e1⟩:=I.base.there b o e hx;exact ⟨o',(hs.2 b (bw (a9 (Heap.lt_size e) (I.ok.cab x c hfn hc)))).trans e1⟩
  ·by_cases hj:j=i
   ·subst hj;rw[hi] at e1;cases e1;rw[List.getElem?_set_self hiσ] at e2;cases e2;exact ⟨u,r,.inr ⟨.inl hk,c,hc,hc'⟩⟩
   ·rw[List.getElem?_set_ne (Ne.symm hj)] at e2;obtain ⟨u',r',q⟩:=hl j y v' e1 e2 e3;refine ⟨u',r',?_⟩;rcases q with q | ⟨k,c',e,z'⟩
    ·exact .inl q
    ·refine .inr ⟨k,c',e,z'.sameBut hs ?_⟩;rintro rfl;exact hj (EY hN e1 (I.ok.inj _ _ _ e hc ▸ hi))
  ·by_cases hcc:c'=c
   ·subst hcc;exact ⟨_,hc'⟩
   ·obtain ⟨w2,z2⟩:=I.cell y c' e;exact ⟨w2,z2.sameBut hs hcc⟩
  ·obtain ⟨e,n,ne,nf,d⟩:=I.pin p hp;refine ⟨(hs.2 p.1 ?_).trans e,n,ne,nf,d⟩;intro q;rw[q,hoc] at e;have q':oc=p.2:=bO e;exact d w' (by rw[<- q'];exact hocd)
theorem rC {M:Model} {A:Around} {E:Value->Shared->Prop} {i:Nat} {x:Str} {v:V} {u:Value} {Q:Unit->Shared->Prop} (I:Inv X pins σ H s) (hN:X.N.Nodup) (hi:X.N[i]?=some x) (hx:Loc X.env.scope x) (r:RelV v u)
  (h:∀s',Inv X pins (σ.set i (some v)) H s'->Q () s') (hf:X.fn x=true\/X.env.scope.names.lookup x=some .local:=by first | exact .inl rfl | exact .inr rfl | assumption):wpAny M A (storeName X.env x u) Q E s :=
 Bc I hN hi hx r (λs' I' _=>h s' I') hf
theorem Inv.call' (I:Inv X pins σ H s) (ho:s'.os=s.os) (u:Un (uw X.stack) ch H H' s.heap s'.heap) (hok:vm X.prog X.w H' s'.heap) (hg:AllBare s'.gens)
  (hch:∀b∈ch,(b∈X.ex\/X.s₀.heap.objs.size<=b)/\b≠X.env.locals/\(∀x c,X.env.cells.lookup x=some c->c≠b)/\∀p∈X.pn++pins,p.1≠b):Inv X pins σ H' s':=by
 obtain ⟨h',g',d',t',o'⟩:=s';have e:o'=s.os:=ho;subst e;exact I.call (g':=g') (t':=t') (d':=d') u hok hg hch
end
abbrev XK:=Value->Option Addr->Hp->Prop
abbrev St:=List (Option V)
abbrev VK:=V->Hp->Prop
abbrev TE:=St->Hp->VK->Prop
abbrev TT:=St->Hp->(Bool->Hp->Prop)->Prop
abbrev TA:=St->Hp->(List V->Hp->Prop)->Prop
structure Ends where
 nx:St->Hp->Prop
 rt:VK
 bk:St->Hp->Prop:=λ_ _=>False
 ct:St->Hp->Prop:=λ_ _=>False
abbrev TS:=Ends->St->Hp->Prop
def EP (X:Cx) (pins:List (Addr×Obj)) (σ:St) (Q:VK) (u:Value) (s':Shared):Prop:=∃v H',Inv X pins σ H' s'/\RelV v u/\Q v H'
def TP (X:Cx) (pins:List (Addr×Obj)) (σ:St) (Q:Bool->Hp->Prop) (b:Bool) (s':Shared):Prop:=∃H',Inv X pins σ H' s'/\Q b H'
def AP (X:Cx) (pins:List (Addr×Obj)) (σ:St) (Q:List V->Hp->Prop) (us:List Value) (s':Shared):Prop:=∃vs H',Inv X pins σ H' s'/\cJ vs us/\Q vs H'
def SP (X:Cx) (pins:List (Addr×Obj)) (D:Ends) (f:Flow) (s':Shared):Prop :=
 match f with
 | .next=>∃σ' H',Inv X pins σ' H' s'/\D.nx σ' H'
 | .brk=>∃σ' H',Inv X pins σ' H' s'/\D.bk σ' H'
 | .cont=>∃σ' H',Inv X pins σ' H' s'/\D.ct σ' H'
 | .ret u=>∃v σ' H',Inv X pins σ' H' s'/\RelV v u/\D.rt v H'
def PE (X:Cx) (e:Expr) (t:TE):Prop :=
 ∀(pins:List (Addr×Obj)) (s:Shared) (σ:St) (H:Hp) (Q:VK),Inv X pins σ H s->t σ H Q->wpAny (model X.prog X.w) X.A (eval e X.env) (EP X pins σ Q) X.xe s
def PT (X:Cx) (e:Expr) (t:TT):Prop :=
 ∀(pins:List (Addr×Obj)) (s:Shared) (σ:St) (H:Hp) (Q:Bool->Hp->Prop),Inv X pins σ H s->t σ H Q->wpAny (model X.prog X.w) X.A (isTrue e X.env (eval e X.env)) (TP X pins σ Q) X.xe s
def PW (X:Cx) (e:Expr) (t:TT):Prop :=
 ∀(whole:Sem Value) (pins:List (Addr×Obj)) (s:Shared) (σ:St) (H:Hp) (Q:Bool->Hp->Prop),Inv X pins σ H s->t σ H Q->wpAny (model X.prog X.w) X.A (isTrue e X.env whole) (TP X pins σ Q) X.xe s
theorem PW.pt (h:PW X e t):PT X e t:=h _
def PA (X:Cx) (es:List Expr) (t:TA):Prop :=
 ∀(pos:Pos) (pins:List (Addr×Obj)) (s:Shared) (σ:St) (H:Hp) (Q:List V->Hp->Prop),Inv X pins σ H s->t σ H Q->wpAny (model X.prog X.w) X.A (spliced (backTo pos (starEach es X.env))) (AP X pins σ Q) X.xe s
def PS (X:Cx) (st:Stmt) (t:TS):Prop :=
 ∀(pins:List (Addr×Obj)) (s:Shared) (σ:St) (H:Hp) (D:Ends),Inv X pins σ H s->t D σ H->wpAny (model X.prog X.w) X.A (exec st X.env) (SP X pins D) X.xe s
def A0 (X:Cx) (st:List Stmt) (t:TS):Prop :=
 ∀(pins:List (Addr×Obj)) (s:Shared) (σ:St) (H:Hp) (D:Ends),Inv X pins σ H s->t D σ H->wpAny (model X.prog X.w) X.A (execs st X.env) (SP X pins D) X.xe s
theorem fP {t:Sem α} {Q Q':α->Shared->Prop} (h:wpAny M A t Q E s) (hQ:∀a s,Q a s->Q' a s):wpAny M A t Q' E s:=wpAny_mono h hQ λ_ _ x=>x
section
variable {X:Cx}
def Qd (i:Nat):TE:=λσ H Q=>∃v,σ[i]?=some (some v)/\Q v H
def tC (v:V):TE:=λ_ H Q=>Q v H
theorem QU {i:Nat} {x:Str} {pos:Pos} (hN:X.N[i]?=some x) (hv:Ug X.env.scope x) (hd:(x == ("__debug__":Str))=false:=by decide) (hcd:(x == ("__classdict__":Str))=false:=by decide):PE X (.Name x pos) (Qd i):=by
 intro pins s σ H Q I h;obtain ⟨v,e,h⟩:=h;obtain ⟨m,hn,hl⟩:=I.loc;obtain ⟨u,r,l⟩:=hl i x v hN e hv;have fin:EP X pins σ Q u s:=⟨v,H,I,r,h⟩;rcases l with ⟨hk,hm⟩ | ⟨hk,c,hc,hcell⟩
 ·exact wpAny_Name (wpAny_loadName_local I.ok.kind hk hn hm fin) hd
 ·rcases hk with hk | hk
  ·exact wpAny_Name (wpAny_loadName_cell I.ok.kind hk hc hcell fin) hd
  ·exact wpAny_Name (wpAny_loadName_free I.ok.kind hk hc hcell fin hcd) hd
theorem aj:PE X (.Constant (.int i) j pos) (tC (.int i)):=λ_ _ _ H _ I h=>wpAny_Constant_int ⟨.int i,H,I.tok _,⟨_,rfl⟩,h⟩
theorem o5:PE X (.Constant (.bool b) j pos) (tC (.bl b)):=λ_ _ _ H _ I h=>Constant_bool ⟨.bl b,H,I,rfl,h⟩
theorem yN:PE X (.Constant .none j pos) (tC .non):=λ_ _ _ H _ I h=>Constant_none ⟨.non,H,I,rfl,h⟩
theorem GR:PE X (.Constant (.str x) j pos) (tC (.str x)):=λ_ _ _ H _ I h=>Calls.Constant_str ⟨.str x,H,I.tok _,⟨_,rfl⟩,h⟩
def Gl (X:Cx) (x:Str):Prop:=X.env.kindOf x=some .globalImplicit
theorem qG {E:Value->Shared->Prop} {pins:List (Addr×Obj)} {s:Shared} {σ:St} {H:Hp} {x:Str} {u:Value} {pos:Pos} {Q:Value->Shared->Prop} (I:Inv X pins σ H s) (hg:Gl X x) (hm:X.mg x=some u) (h:Q u s)
  (hd:(x == ("__debug__":Str))=false:=by decide):wpAny (model X.prog X.w) X.A (eval (.Name x pos) X.env) Q E s :=
 Calls.Name_function_global I.ok.kind hg (Calls.loadGlobal_global (by rw[I.ok.glob];exact I.mod.glob.keeps I.bk) hm h) hd
theorem kE {E:Value->Shared->Prop} {pins:List (Addr×Obj)} {s:Shared} {σ:St} {H:Hp} {x:Str} {u:Value} {pos:Pos} {Q:Value->Shared->Prop} (I:Inv X pins σ H s) (hg:Gl X x) (hm:X.mg x=none) (hv:bootBuiltins x=some u) (h:Q u s)
  (hn:x≠"__name__":=by decide) (hd:(x == ("__debug__":Str))=false:=by decide):wpAny (model X.prog X.w) X.A (eval (.Name x pos) X.env) Q E s:=by
 obtain ⟨mb,h1,h2⟩:=I.mod.blt;exact Calls.Name_function_global I.ok.kind hg (Calls.loadGlobal_builtin (by rw[I.ok.glob];exact I.mod.glob.keeps I.bk) hm (by rw[I.ok.blt];exact h1.keeps I.bk) ((h2 x hn).trans hv) h) hd
theorem jf {x:Str} {v:V} {u:Value} {pos:Pos} (hg:Gl X x) (hm:X.mg x=some u) (r:RelV v u) (hd:(x == ("__debug__":Str))=false:=by decide):PE X (.Name x pos) (tC v) :=
 λ_ _ _ H _ I h=>qG I hg hm ⟨v,H,I,r,h⟩ hd
theorem CN {x:Str} {v:V} {u:Value} {pos:Pos} (hg:Gl X x) (hm:X.mg x=none) (hv:bootBuiltins x=some u) (r:RelV v u) (hn:x≠"__name__":=by decide) (hd:(x == ("__debug__":Str))=false:=by decide):PE X (.Name x pos) (tC v) :=
 λ_ _ _ H _ I h=>kE I hg hm hv ⟨v,H,I,r,h⟩ hn hd
variable {a b:Expr} {ta tb:TE} {pos:Pos}
def tB (t:TE):TT:=λσ H Q=>t σ H λx H1=>∃c,x=.bl c/\Q c H1
theorem fA {e:Expr} {t:TE} (h:PE X e t) (he:∀whole,isTrue e X.env whole=(do let v <- whole;standAt e.pos;holding [v] (truthy v)):=by intro _;rfl):PT X e (tB t):=by
 intro pins s σ H Q I hw;refine isTrue_plain (fP (h pins s σ H _ I hw) λv s1 ⟨x,H1,I1,r1,q1⟩=>?_) (he _);obtain ⟨d,rfl,q⟩:=q1;cases r1;exact wpAny_truthy_bool ⟨H1,I1,q⟩
variable {tA tB':TT} {rest:List Expr}
def So (t u:TT):TT:=λσ H Q=>t σ H λc H1=>if c=true then u σ H1 Q else Q false H1
def tOr (t u:TT):TT:=λσ H Q=>t σ H λc H1=>if c=true then Q true H1 else u σ H1 Q
def Sj (t:TT):TT:=λσ H Q=>t σ H λc H1=>Q (!c) H1
theorem gF (ha:PT X a tA):PW X (.BoolOp .And [a] pos) tA:=by
 intro wh pins s σ H Q I h;refine isTrue_and (fP (ha pins s σ H Q I h) λc s1 e=>?_);cases c with
 | true=>exact isTrue_and_nil e
 | false=>exact e
theorem jG (ha:PT X a tA):PW X (.BoolOp .Or [a] pos) tA:=by
 intro wh pins s σ H Q I h;refine isTrue_or (fP (ha pins s σ H Q I h) λc s1 e=>?_);cases c with
 | false=>exact isTrue_or_nil e
 | true=>exact e
theorem gG (ha:PT X a tA) (hb:PW X (.BoolOp .And (b :: rest) pos) tB'):PW X (.BoolOp .And (a :: b :: rest) pos) (So tA tB'):=by
 intro wh pins s σ H Q I h;refine isTrue_and (fP (ha pins s σ H _ I h) λc s1 ⟨H1,I1,q1⟩=>?_);cases c with
 | true=>exact hb wh pins s1 σ H1 Q I1 q1
 | false=>exact ⟨H1,I1,q1⟩
theorem m6 (ha:PT X a tA) (hb:PW X (.BoolOp .Or (b :: rest) pos) tB'):PW X (.BoolOp .Or (a :: b :: rest) pos) (tOr tA tB'):=by
 intro wh pins s σ H Q I h;refine isTrue_or (fP (ha pins s σ H _ I h) λc s1 ⟨H1,I1,q1⟩=>?_);cases c with
 | true=>exact ⟨H1,I1,q1⟩
 | false=>exact hb wh pins s1 σ H1 Q I1 q1
theorem ia (ha:PT X a tA):PT X (.UnaryOp .Not a pos) (Sj tA):=by
 intro pins s σ H Q I h;exact isTrue_not (ha pins s σ H (λc H1=>Q (!c) H1) I h)
def Pg (ta tb:TE):TE:=λσ H Q=>ta σ H λx H1=>∃c,x=.bl c/\if c=true then tb σ H1 Q else Q (.bl false) H1
def Pb (ta:TE):TE:=λσ H Q=>ta σ H λx H1=>∃c,x=.bl c/\Q (.bl (!c)) H1
theorem CM (h:PE X a t):PE X (.BoolOp op [a] pos) t:=λpins s σ H Q I hw=>BoolOp_one (h pins s σ H Q I hw)
theorem CO (ha:PE X a ta) (hb:PE X (.BoolOp .And (b :: rest) pos) tb):PE X (.BoolOp .And (a :: b :: rest) pos) (Pg ta tb):=by
 intro pins s σ H Q I h;refine BoolOp_and (fP (ha pins s σ H _ I h) λv s1 ⟨x,H1,I1,r1,q1⟩=>?_);obtain ⟨c,rfl,q1⟩:=q1;cases r1;refine wpAny_truthy_bool ?_;cases c with
 | true=>exact hb pins s1 σ H1 Q I1 q1
 | false=>exact ⟨.bl false,H1,I1,rfl,q1⟩
theorem QV (ha:PE X a ta):PE X (.UnaryOp .Not a pos) (Pb ta):=by
 intro pins s σ H Q I h;refine UnaryOp_ (fP (ha pins s σ H _ I h) λv s1 ⟨x,H1,I1,r1,q1⟩=>?_);obtain ⟨c,rfl,q1⟩:=q1;cases r1;exact not_of (wpAny_truthy_bool ⟨.bl (!c),H1,I1,rfl,q1⟩)
def tIf (t:TT) (ta tb:TE):TE:=λσ H Q=>t σ H λc H1=>if c=true then ta σ H1 Q else tb σ H1 Q
theorem ER (hc:PT X c tA) (ha:PE X a ta) (hb:PE X b tb):PE X (.IfExp c a b pos) (tIf tA ta tb):=by
 intro pins s σ H Q I h;refine wpAny_IfExp (fP (hc pins s σ H _ I h) λd s1 ⟨H1,I1,q1⟩=>?_);cases d with
 | true=>exact ha pins s1 σ H1 Q I1 q1
 | false=>exact hb pins s1 σ H1 Q I1 q1
end
def bo (K:FG9) (H:Hp) (a:Addr) (xs:List V):Prop :=
 Rd H a (.lst xs) \/
  ∃(o:Obj) (its:Array Value) (n:Nat),K.lookup a=some o/\o.cls=.type "list"/\o.dict=none/\o.data=.seq its n/\its.size<=sizeLine/\cJ xs its.toList
def qO (K:FG9) (H:Hp) (a:Addr) (xs:List V):Prop :=
 Rd H a (.tup xs) \/
  ∃(o:Obj) (its:Array Value) (n:Nat),K.lookup a=some o/\o.cls=.type "tuple"/\o.data=.seq its n/\its.size<=sizeLine/\cJ xs its.toList
def Ue:Value->Option V
 | .none=>some .non
 | .bool b=>some (.bl b)
 | .int i _=>some (.int i)
 | .str x _=>some (.str x)
 | .bytes b _=>some (.byt b)
 | .float b _=>some (.flt b)
 | .ref a=>some (.ref a)
 | .type n=>some (.ty n)
 | _=>none
theorem RelV.abs (r:RelV x u):Ue u=some x:=by
 cases x with
 | non=>cases r;rfl
 | bl _=>cases r;rfl
 | int _=>obtain ⟨t,rfl⟩:=r;rfl
 | str _=>obtain ⟨t,rfl⟩:=r;rfl
 | byt _=>obtain ⟨t,rfl⟩:=r;rfl
 | flt _=>obtain ⟨t,rfl⟩:=r;rfl
 | ref _=>cases r;rfl
 | ty _=>cases r;rfl
theorem RelV.inj (r:RelV x u) (q:RelV y u):x=y:=bO (r.abs.symm.trans q.abs)
theorem cJ.inj:∀{xs ys:List V} {us:List Value},cJ xs us->cJ ys us->xs=ys
 | _,_,_,.nil,.nil=>rfl
 | _,_,_,.cons r t,.cons r' t'=>by rw[r.inj r',cJ.inj t t']
section
variable {X:Cx} {pins:List (Addr×Obj)} {σ:St} {H:Hp} {s:Shared} {a:Addr} {xs ys:List V}
theorem bo.of {K:FG9} (h:H a=some (.lst xs)):bo K H a xs:=.inl (.inl h)
theorem qO.of {K:FG9} (h:H a=some (.tup xs)):qO K H a xs:=.inl (.inl h)
theorem Inv.list (I:Inv X pins σ H s) (h:bo X.K H a xs):∃its:List Value,cJ xs its/\PlainL s.heap a its.toArray/\xs.length<=sizeLine:=by
 rcases h with h | ⟨o,its,n,hk,hc,hd,hs,hz,r⟩
 ·obtain ⟨z,its,n,r,e⟩:=h.ok I.hok;exact ⟨its,r,⟨_,n,e,rfl,rfl,rfl⟩,z⟩
 ·refine ⟨its.toList,r,⟨o,n,I.kIn a o hk,hc,hd,by simpa using hs⟩,?_⟩;have e:=r.length;simp only[Array.length_toList] at e
  lia
theorem Inv.tuple (I:Inv X pins σ H s) (h:qO X.K H a xs):∃its:List Value,cJ xs its/\IsTup s.heap a its.toArray/\xs.length<=sizeLine:=by
 rcases h with h | ⟨o,its,n,hk,hc,hs,hz,r⟩
 ·obtain ⟨z,its,r,p⟩:=h.ok I.hok;exact ⟨its,r,p,z⟩
 ·refine ⟨its.toList,r,⟨o,I.kIn a o hk,hc,n,by simpa using hs⟩,?_⟩;have e:=r.length;simp only[Array.length_toList] at e
  lia
theorem Inv.list_inj (I:Inv X pins σ H s) (h:bo X.K H a xs) (h':bo X.K H a ys):xs=ys:=by
 obtain ⟨its,r,⟨o,n,e,_,_,d⟩,_⟩:=I.list h;obtain ⟨its',r',⟨o',n',e',_,_,d'⟩,_⟩:=I.list h';rw[e] at e';cases e';rw[d] at d';injection d' with d1 _
 have:its=its':=by simpa using congrArg Array.toList d1
 subst this;exact r.inj r'
theorem Inv.tuple_inj (I:Inv X pins σ H s) (h:qO X.K H a xs) (h':qO X.K H a ys):xs=ys:=by
 obtain ⟨its,r,⟨o,e,_,n,d⟩,_⟩:=I.tuple h;obtain ⟨its',r',⟨o',e',_,n',d'⟩,_⟩:=I.tuple h';rw[e] at e';cases e';rw[d] at d';injection d' with d1 _
 have:its=its':=by simpa using congrArg Array.toList d1
 subst this;exact r.inj r'
end
abbrev Cx.wish (X:Cx) (E:Value->Shared->Prop):Cx:={ X with xe:=E }
abbrev Cx.nox (X:Cx):Cx:=X.wish λ_ _=>False
theorem Cx.Ok.wish {X:Cx} (ok:X.Ok) (E:Value->Shared->Prop):(X.wish E).Ok :=
 ⟨ok.mod,ok.kind,ok.glob,ok.blt,ok.above,ok.inj,ok.has,ok.cab,ok.hd,ok.frames,ok.stk,ok.exf,ok.bs,ok.bsz,ok.noex,ok.exfs,ok.funs,ok.frf⟩
theorem Cx.Ok.unwish {X:Cx} (ok:(X.wish E).Ok):X.Ok :=
 ⟨ok.mod,ok.kind,ok.glob,ok.blt,ok.above,ok.inj,ok.has,ok.cab,ok.hd,ok.frames,ok.stk,ok.exf,ok.bs,ok.bsz,ok.noex,ok.exfs,ok.funs,ok.frf⟩
section
variable {X:Cx} {pins:List (Addr×Obj)} {σ:St} {H:Hp} {s:Shared} {E:Value->Shared->Prop}
theorem Inv.wish (I:Inv X pins σ H s) (E:Value->Shared->Prop):Inv (X.wish E) pins σ H s:=⟨I.ok.wish E,I.os,I.bare,I.base,I.loc,I.cell,I.free,I.freeC,I.pin,I.hok,I.len⟩
theorem Inv.unwish (I:Inv (X.wish E) pins σ H s):Inv X pins σ H s:=⟨I.ok.unwish,I.os,I.bare,I.base,I.loc,I.cell,I.free,I.freeC,I.pin,I.hok,I.len⟩
theorem SP.unwish (h:SP (X.wish E) pins D f s'):SP X pins D f s':=by
 cases f with
 | next=>obtain ⟨σ',H',I,q⟩:=h;exact ⟨σ',H',I.unwish,q⟩
 | brk=>obtain ⟨σ',H',I,q⟩:=h;exact ⟨σ',H',I.unwish,q⟩
 | cont=>obtain ⟨σ',H',I,q⟩:=h;exact ⟨σ',H',I.unwish,q⟩
 | ret u=>obtain ⟨v,σ',H',I,r,q⟩:=h;exact ⟨v,σ',H',I.unwish,r,q⟩
theorem A0.nox {st:List Stmt} (h:A0 X.nox st t):A0 X st t:=λpins s σ H D I hw =>
 wpAny_mono (h pins s σ H D (I.wish _) hw) (λ_ _ q=>q.unwish) λ_ _ z=>False.elim z
end
section
variable {X:Cx} {st:Stmt} {rest:List Stmt} {t u:TS} {e:Expr} {te:TE} {pos:Pos}
def Pc:TS:=λD σ H=>D.nx σ H
def Sf (t u:TS):TS:=λD σ H=>t { D with nx:=u D } σ H
theorem bQ:A0 X [] Pc:=λ_ _ σ H _ I h=>wpAny_execs_nil ⟨σ,H,I,h⟩
theorem ak (h1:PS X st t) (h2:A0 X rest u):A0 X (st :: rest) (Sf t u):=by
 intro pins s σ H D I h;refine wpAny_execs_cons (fP (h1 pins s σ H { D with nx:=u D } I h) λf s1 q=>?_);cases f with
 | next =>
  obtain ⟨σ',H',I',q⟩:=q;exact h2 pins s1 σ' H' D I' q
 | ret v=>exact q
 | brk=>exact q
 | cont=>exact q
theorem au (h1:PS X st t):A0 X [st] t:=by
 intro pins s σ H D I h;refine wpAny_execs_cons (fP (h1 pins s σ H D I h) λf s1 q=>?_);cases f with
 | next=>exact wpAny_execs_nil q
 | ret v=>exact q
 | brk=>exact q
 | cont=>exact q
theorem Inv.quiet {σ:St} (I:Inv X pins σ H s):interactive X.env=false:=by simp [interactive,I.ok.kind]
def Pe (te:TE):TS:=λD σ H=>te σ H λ_ H1=>D.nx σ H1
theorem je (he:PE X e te) (hs:swapsWith e none pos.line X.env=pure false:=by rfl):PS X (.Expr e pos) (Pe te):=by
 intro pins s σ H D I h;exact wpAny_Expr_any (fP (he pins s σ H _ I h) λv s1 ⟨x,H1,I1,r1,q1⟩=>⟨σ,H1,I1,q1⟩) I.quiet hs
def Sg (te:TE):TS:=λD σ H=>te σ H D.rt
theorem aN (he:PE X e te):PS X (.Return (some e) pos) (Sg te):=by
 intro pins s σ H D I h;exact wpAny_Return_some (fP (he pins s σ H _ I h) λv s1 ⟨x,H1,I1,r1,q1⟩=>⟨x,σ,H1,I1,r1,q1⟩)
def Sl (c:TT) (t u:TS):TS:=λD σ H=>c σ H λb H1=>if b=true then t D σ H1 else u D σ H1
theorem cW (hc:PT X c tc) (ha:A0 X a t) (hb:A0 X b u):PS X (.If c a b pos) (Sl tc t u):=by
 intro pins s σ H D I h;refine wpAny_If (fP (hc pins s σ H _ I h) λd s1 ⟨H1,I1,q1⟩=>?_);cases d with
 | true=>exact ha pins s1 σ H1 D I1 q1
 | false=>exact hb pins s1 σ H1 D I1 q1
end
abbrev TG:=V->St->Hp->(St->Hp->Prop)->Prop
abbrev Nf:=List V->St->Hp->(St->Hp->Prop)->Prop
def PG (X:Cx) (target:Expr) (t:TG):Prop :=
 ∀(pins:List (Addr×Obj)) (s:Shared) (σ:St) (H:Hp) (v:V) (u:Value) (Q:St->Hp->Prop),Inv X pins σ H s->RelV v u->t v σ H Q →
  wpAny (model X.prog X.w) X.A (assign target X.env u) (λ_ s'=>∃σ' H',Inv X pins σ' H' s'/\Q σ' H') X.xe s
def Tq (X:Cx) (ts:List Expr) (t:Nf):Prop :=
 ∀(pins:List (Addr×Obj)) (s:Shared) (σ:St) (H:Hp) (vs:List V) (us:List Value) (Q:St->Hp->Prop),Inv X pins σ H s->cJ vs us->t vs σ H Q →
  wpAny (model X.prog X.w) X.A (assignInOrder ((assignEach ts X.env).map (·.2)) us) (λ_ s'=>∃σ' H',Inv X pins σ' H' s'/\Q σ' H') X.xe s
abbrev Ii:=V->V->V->Hp->(Hp->Prop)->Prop
def RK (X:Cx) (t:Ii):Prop :=
 ∀(pins:List (Addr×Obj)) (s:Shared) (σ:St) (H:Hp) (o i v:V) (ov iv u:Value) (Q:Hp->Prop),Inv X pins σ H s->RelV o ov->RelV i iv->RelV v u->t o i v H Q →
  wpAny (model X.prog X.w) X.A (setItem ov iv u) (λ_ s'=>∃H',Inv X pins σ H' s'/\Q H') X.xe s
abbrev To:=V->V->Hp->VK->Prop
def PIp (X:Cx) (op:Operator) (t:To):Prop :=
 ∀(pins:List (Addr×Obj)) (s:Shared) (σ:St) (H:Hp) (x y:V) (v u:Value) (Q:VK),Inv X pins σ H s->RelV x v->RelV y u->t x y H Q →
  wpAny (model X.prog X.w) X.A (inplaceOp op v u) (EP X pins σ Q) X.xe s
section
variable {X:Cx} {pos:Pos}
def BJ (i:Nat):TG:=λv σ H Q=>Q (σ.set i (some v)) H
theorem Oa {i:Nat} {x:Str} (hN:X.N.Nodup) (hi:X.N[i]?=some x:=by exact rfl) (hx:Loc X.env.scope x:=by exact Or.inl rfl) (hf:X.fn x=true\/X.env.scope.names.lookup x=some .local:=by first | exact .inl rfl | exact .inr rfl | assumption):PG X (.Name x pos) (BJ i):=by
 intro pins s σ H v u Q I r h;exact wpAny_assign_Name (rC I hN hi hx r (λs' I'=>⟨_,H,I',h⟩) hf)
def Te:Nf:=λvs σ H Q=>vs=[]/\Q σ H
def PB (t:TG) (u:Nf):Nf:=λvs σ H Q=>∃v r,vs=v :: r/\t v σ H λσ' H'=>u r σ' H' Q
theorem gH:Tq X [] Te:=by
 intro pins s σ H vs us Q I r h;obtain ⟨e,h⟩:=h;subst e;cases r;exact assignInOrder_nil ⟨σ,H,I,h⟩
theorem b6 {e:Expr} {es:List Expr} {t:TG} {u:Nf} (h1:PG X e t) (h2:Tq X es u)
  (hs:(assignEach (e :: es) X.env).map (·.2)=assign e X.env :: (assignEach es X.env).map (·.2):=by rfl):Tq X (e :: es) (PB t u):=by
 intro pins s σ H vs us Q I r h;obtain ⟨v,vr,e1,h⟩:=h;subst e1;cases r with
 | cons r rr =>
  rw[hs];refine assignInOrder_cons (fP (h1 pins s σ H _ _ _ I r h) λ_ s1 ⟨σ1,H1,I1,q1⟩=>?_);exact h2 pins s1 σ1 H1 _ _ Q I1 rr q1
def Rj (K:FG9) (n:Nat) (t:Nf):TG:=λv σ H Q=>∃a xs,v=.ref a/\qO K H a xs/\xs.length=n/\t xs σ H Q
theorem yM {es:List Expr} {k:Nat} {t:Nf} {n:Nat} (hc:X.calm=true) (h:Tq X es t)
  (hn:(assignEach es X.env).length=n:=by rfl) (hst:(assignEach es X.env).findIdx? (·.1)=none:=by rfl):PG X (.Tuple es k pos) (Rj X.K n t):=by
 intro pins s σ H v u Q I r hw;obtain ⟨a,xs,e1,hq,hl,hw⟩:=hw;subst e1;cases r;obtain ⟨its,rv,ht,hz⟩:=I.tuple hq;refine assign_Tuple_tuple (I.ok.hd hc) ht (by simp [hn,<- hl,rv.length]) hst λh' hx=>?_
 have I1:Inv X pins σ H { s with heap:=h' }:=I.kept (t':=s.toks) λb o e=>hx b o (bw (Heap.lt_size e)) e
 exact h pins _ σ H xs _ Q I1 (by simpa using rv) hw
def Td (to ti:TE) (t:Ii):TG:=λv σ H Q=>to σ H λo H1=>ti σ H1 λi H2=>t o i v H2 λH3=>Q σ H3
theorem fX {o i : Expr} {to ti : TE} {t : Ii} (ho : PE X o to) (hi : PE X i ti) (hs : RK X t)
    (ha : ∀ v, assign (.Subscript o i pos) X.env v = (do
      let ov <- holding [v] (eval o X.env)
      let iv <- holding [v, ov] (eval i X.env)
      standAt pos
      holding [v, ov, iv] (setItem ov iv v)
      release [v, ov, iv] []) := by intro _; rfl) : PG X (.Subscript o i pos) (Td to ti t) := by
  intro pins s σ H v u Q I r h;rw [ha];refine wpAny_bind (wpAny_holding (fP (ho pins s σ H _ I h) λov s1 ⟨x, H1, I1, r1, q1⟩ => ?_));refine wpAny_bind (wpAny_holding (fP (hi pins s1 σ H1 _ I1 q1) λiv s2 ⟨y, H2, I2, r2, q2⟩ => ?_));refine wpAny_bind (wpAny_standAt (wpAny_bind (wpAny_holding (fP (hs pins s2 σ H2 x y v ov iv u _ I2 r1 r2 r q2) λ_ s3 ⟨H3, I3, q3⟩ => ?_))));exact wpAny_release ⟨σ, H3, I3, q3⟩
def Lc (te:TE) (g:TG):TS:=λD σ H=>te σ H λx H1=>g x σ H1 D.nx
theorem fW {tg e:Expr} {te:TE} {g:TG} (he:PE X e te) (hg:PG X tg g) (hs:swapsWithSole [tg] e pos.line X.env=pure false:=by rfl) (hw:swappedStores [tg] e X.env=pure none:=by rfl)
  (h1:(assignEach [tg] X.env).map (·.2)=[assign tg X.env]:=by rfl):PS X (.Assign [tg] e pos) (Lc te g):=by
 intro pins s σ H D I h;refine wpAny_Assign_stores (fP (he pins s σ H _ I h) λv s1 ⟨x,H1,I1,r1,q1⟩=>?_) hs hw;rw[h1];exact fP (hg pins s1 σ H1 x v _ I1 r1 q1) λ_ s2 q=>q
theorem QP {i:Nat} {x:Str} {e:Expr} {te:TE} {pos':Pos} (hN:X.N.Nodup) (hi:X.N[i]?=some x) (hx:Loc X.env.scope x) (he:PE X e te) (hs:swapsWith e (some (.Name x pos')) pos.line X.env=pure false:=by rfl) (hf:X.fn x=true\/X.env.scope.names.lookup x=some .local:=by first | exact .inl rfl | exact .inr rfl | assumption) :
  PS X (.Assign [.Name x pos'] e pos) (Lc te (BJ i)):=by
 intro pins s σ H D I h;refine wpAny_Assign_Name (fP (he pins s σ H _ I h) λv s1 ⟨y,H1,I1,r1,q1⟩=>?_) hs;exact rC I1 hN hi hx r1 (λs2 I2=>⟨_,H1,I2,q1⟩) hf
def Sh (i j:Nat) (ta:TA):TS:=λD σ H=>ta σ H λvs H1=>∃v w,vs=[v,w]/\D.nx ((σ.set i (some v)).set j (some w)) H1
theorem LJ {i j:Nat} {x y:Str} {a b:Expr} {ta:TA} {px py pt:Pos} {kt k2 pt2} (hc:X.calm=true) (hN:X.N.Nodup) (hi:X.N[i]?=some x) (hj:X.N[j]?=some y) (hij:i≠j)
  (hx:X.env.scope.names.lookup x=some .local) (hy:X.env.scope.names.lookup y=some .local) (ha:PA X [a,b] ta)
  (hw:swappedStores [.Tuple [.Name x px,.Name y py] kt pt] (.Tuple [a,b] k2 pt2) X.env=pure (some [x,y]))
  (hs:swapsWithSole [.Tuple [.Name x px,.Name y py] kt pt] (.Tuple [a,b] k2 pt2) pos.line X.env=pure false:=by rfl) :
  PS X (.Assign [.Tuple [.Name x px,.Name y py] kt pt] (.Tuple [a,b] k2 pt2) pos) (Sh i j ta):=by
 intro pins s σ H D I h;rw[exec_Assign_arm];refine wpAny_bind (wpAny_standAt ?_);rw[hs];refine wpAny_bind (wpAny_pure ?_);rw[if_neg (by decide)];refine wpAny_bind (Tuple_ (fP (ha _ pins s σ H _ I h) λus s1 ⟨vs,H1,I1,r1,q1⟩=>?_));obtain ⟨v,w,e1,q1⟩:=q1;subst e1
 obtain ⟨u1,u2,rfl,rv,rw'⟩:∃u1 u2,us=[u1,u2]/\RelV v u1/\RelV w u2:=by
  cases r1 with
  | cons p q =>
   cases q with
   | cons p' q' =>
    cases q';exact ⟨_,_,rfl,p,p'⟩
 refine wpAny_newObj_type ?_ (by show 2<=sizeLine;decide);have I2:Inv X pins σ H1 { s1 with heap:=s1.heap.push { cls:=.type "tuple",data:=.seq [u1,u2].toArray } }:=I1.kept (t':=s1.toks) λb o e=>Heap.get?_push_of_some _ e
 rw[hw];refine wpAny_bind (wpAny_pure ?_);show wpAny (model X.prog X.w) X.A (do rule "assign.swapped-stores";let items <- unpackItems (.ref s1.heap.objs.size) 2 none;assignInOrder [λv=>bindName X.env y v,λv=>bindName X.env x v] items.reverse;pure Flow.next) _ _ _
 refine wpAny_bind (wpAny_rule (wpAny_bind (unpackItems_tuple (items:=#[u1,u2]) (I.ok.hd hc) (IsTup.new s1.heap _) λh' hx'=>?_)));have I3:=I2.kept (h':=h') (t':=s1.toks) λb o e=>hx' b o (bw (Heap.lt_size e)) e
 show wpAny _ _ (assignInOrder [λv=>bindName X.env y v,λv=>bindName X.env x v] [u2,u1] >>= λ_=>pure Flow.next) _ _ _
 refine wpAny_bind (assignInOrder_cons (wpAny_bindName (rC I3 hN hj (.inl hy) rw' (λs2 I4=>?_) (.inr hy))));refine assignInOrder_cons (wpAny_bindName (rC I4 hN hi (.inl hx) rv (λs3 I5=>assignInOrder_nil (wpAny_pure ?_)) (.inr hx)));rw[List.set_comm _ _ (Ne.symm hij)] at I5;exact ⟨_,H1,I5,q1⟩
def Pf (to ti te:TE) (tget:V->V->Hp->VK->Prop) (tip:To) (tset:Ii):TS:=λD σ H=>to σ H λo H1=>ti σ H1 λi H2=>tget o i H2 λx H3=>te σ H3 λy H4=>tip x y H4 λz H5=>tset o i z H5 λH6=>D.nx σ H6
def Tr (X:Cx) (t:V->V->Hp->VK->Prop):Prop :=
 ∀(pins:List (Addr×Obj)) (s:Shared) (σ:St) (H:Hp) (o i:V) (ov iv:Value) (Q:VK),Inv X pins σ H s->RelV o ov->RelV i iv->t o i H Q →
  wpAny (model X.prog X.w) X.A (getItem ov iv) (EP X pins σ Q) X.xe s
theorem N6 {o i e:Expr} {to ti te:TE} {tget:V->V->Hp->VK->Prop} {tip:To} {tset:Ii} {op:Operator} {tpos:Pos} (ho:PE X o to) (hi:PE X i ti) (hg:Tr X tget) (he:PE X e te) (hp:PIp X op tip) (hs:RK X tset)
  (ha:∀ov iv new,augStore i ov iv new=(do holding [new,ov,iv] (setItem ov iv new);release [new,ov,iv] [];pure .next):=by intros;rfl):PS X (.AugAssign (.Subscript o i tpos) op e pos) (Pf to ti te tget tip tset):=by
 intro pins s σ H D I h;refine wpAny_AugAssign_SubscriptAny (fP (ho pins s σ H _ I h) λov s1 ⟨x1,H1,I1,r1,q1⟩=>?_) ha;refine fP (hi pins s1 σ H1 _ I1 q1) λiv s2 ⟨x2,H2,I2,r2,q2⟩=>?_
 refine fP (hg pins s2 σ H2 x1 x2 ov iv _ I2 r1 r2 q2) λold s3 ⟨x3,H3,I3,r3,q3⟩=>?_
 refine fP (he pins s3 σ H3 _ I3 q3) λv s4 ⟨x4,H4,I4,r4,q4⟩=>?_
 refine fP (hp pins s4 σ H4 x3 x4 old v _ I4 r3 r4 q4) λnew s5 ⟨x5,H5,I5,r5,q5⟩=>?_
 exact fP (hs pins s5 σ H5 x1 x2 x5 ov iv new _ I5 r1 r2 r5 q5) λ_ s6 ⟨H6,I6,q6⟩=>⟨σ,H6,I6,q6⟩
def ipI (f:Int->Int->Int):To:=λx y H Q=>∃i j,x=.int i/\y=.int j/\Q (.int (f i j)) H
theorem Q8:PIp X .Add (ipI λi j=>i+j):=by
 intro pins s σ H x y v u Q I r1 r2 h;obtain ⟨i,j,e1,e2,q⟩:=h;subst e1;subst e2;obtain ⟨t,rfl⟩:=r1;obtain ⟨t',rfl⟩:=r2;exact iadd_int ⟨.int _,H,I.tok _,⟨_,rfl⟩,q⟩
end
section
variable {X:Cx} {pos:Pos}
def K8 (c:TT) (tb:TS):TS:=λD σ H=>∃W:Nat->St->Hp->Prop,(∃m,W m σ H)/\∀m σ H,W m σ H →
 c σ H λb H1=>if b=true then ∃N:St->Hp->Prop,(∀σ' H',N σ' H'->∃m',m' < m/\W m' σ' H')/\tb { D with nx:=N,ct:=N,bk:=D.nx } σ H1 else D.nx σ H1
theorem uJ (hp:PassesOwn (model X.prog X.w) X.A X.env X.xe) (hc:PT X c tc) (hb:A0 X body tb):PS X (.While c body [] pos) (K8 tc tb):=by
 intro pins s σ H D I h;obtain ⟨W,⟨m0,w0⟩,turn⟩:=h;refine wpAny_While (codeAny_whileLoop (λn s'=>∃σ' H',Inv X pins σ' H' s'/\W n σ' H') ?_ m0 ⟨σ,H,I,w0⟩);rintro n s1 ⟨σ1,H1,I1,w1⟩;refine wpAny_passesOwn hp (fP (hc pins s1 σ1 H1 _ I1 (turn n σ1 H1 w1)) λb s2 ⟨H2,I2,q2⟩=>?_);cases b with
 | true =>
  obtain ⟨N,hN,q2⟩:=q2;rw[if_pos rfl];refine wpAny_passesOwn hp (fP (hb pins s2 σ1 H2 _ I2 q2) λf s3 q3=>?_);cases f with
  | next =>
   obtain ⟨σ3,H3,I3,n3⟩:=q3;obtain ⟨m',hm,w3⟩:=hN σ3 H3 n3;exact ⟨m',hm,σ3,H3,I3,w3⟩
  | cont =>
   obtain ⟨σ3,H3,I3,n3⟩:=q3;obtain ⟨m',hm,w3⟩:=hN σ3 H3 n3;exact ⟨m',hm,σ3,H3,I3,w3⟩
  | brk=>exact q3
  | ret v=>exact q3
 | false =>
  rw[if_neg aI];exact wpAny_execs_nil ⟨σ1,H2,I2,q2⟩
end
structure It where
 go:Nat->Hp->Prop
 yld:Nat->Hp->V->Hp->Prop
 stop:Nat->Hp->Prop
def jY (X:Cx) (pins:List (Addr×Obj)) (H:Hp) (b:Addr):Prop :=
 H b=none/\b≠X.env.locals/\b∉X.fs/\(b∈X.ex\/X.s₀.heap.objs.size<=b)/\(∀x c,X.env.cells.lookup x=some c->c≠b)/\∀p∈X.pn++pins,p.1≠b
theorem Inv.fpOk {σ:St} {b:Addr} (I:Inv X pins σ H s) (hb:s.heap.objs.size<=b) (hn:H' b=none):jY X pins H' b:=by
 refine ⟨hn,ou (a9 I.lt hb),I.nofs hb,.inr (af I.sz hb),λx c e z=>?_,λp hp z=>?_⟩
 ·obtain ⟨v,q⟩:=I.cell x c e;exact absurd (a9 q.lt (by rw[z];exact hb)) (d6 _)
 ·exact absurd (a9 (Heap.lt_size (I.pin p hp).1) (by rw[z];exact hb)) (d6 _)
structure Turn (P:Program) (w:World) (K:FG9) (tg:Expr) (J:It) (fp:List Addr) (it:Addr) (tn:Nat->Heap->Prop):Prop where
 mem:it∈fp
 obj:∀i h,tn i h->∀b∈fp,∃o,h.get? b=some o/\∀v,o.data≠.cell v
 keep:∀i h h',tn i h->(∀b∈fp,∀o,h.get? b=some o->h'.get? b=some o)->tn i h'
 item:∀(X:Cx),X.prog=P->X.w=w->X.K=K->X.calm=true->∀(i:Nat) (pins:List (Addr×Obj)) (s:Shared) (σ:St) (H:Hp) (E:Value->Shared->Prop),Inv X pins σ H s->(∀b∈fp,jY X pins H b)->tn i s.heap->J.go i H →
  wpAny (model P w) X.A (pyNext (.ref it)) (λr s1=>∃u,r=some u /\
   wpAny (model P w) X.A (letOwnedTupleGo tg (.ref it) u) (λ_ s2=>∃x H',Inv X pins σ H' s2/\RelV x u/\J.yld i H x H'/\tn (i+1) s2.heap/\∀b∈fp,H' b=none) E s1) E s
 done:∀(X:Cx),X.prog=P->X.w=w->X.K=K->X.calm=true->∀(i:Nat) (pins:List (Addr×Obj)) (s:Shared) (σ:St) (H:Hp) (E:Value->Shared->Prop),Inv X pins σ H s->(∀b∈fp,jY X pins H b)->tn i s.heap->J.stop i H →
  wpAny (model P w) X.A (pyNext (.ref it)) (λr s1=>r=none/\Inv X pins σ H s1) E s
 self:∀(A:Around) (i:Nat) (s:Shared) (Q:Value->Shared->Prop) (E:Value->Shared->Prop),tn i s.heap->Q (.ref it) s->wpAny (model P w) A (pyIter (.ref it)) Q E s
abbrev TI:=St->Hp->(It->Hp->Prop)->Prop
def PIE (X:Cx) (pins:List (Addr×Obj)) (σ:St) (tg:Expr) (R:It->Hp->Prop) (itv:Value) (s2:Shared):Prop :=
 ∃(it:Addr) (fp:List Addr) (tn:Nat->Heap->Prop) (J:It) (H':Hp),itv=.ref it/\Inv X pins σ H' s2/\Turn X.prog X.w X.K tg J fp it tn/\tn 0 s2.heap/\(∀b∈fp,jY X pins H' b)/\R J H'
def PI (X:Cx) (tg iter:Expr) (wi:TI):Prop :=
 ∀(pins:List (Addr×Obj)) (s:Shared) (σ:St) (H:Hp) (R:It->Hp->Prop),Inv X pins σ H s->wi σ H R →
  wpAny (model X.prog X.w) X.A (eval iter X.env) (λv s1=>wpAny (model X.prog X.w) X.A (pyIter v) (PIE X pins σ tg R) X.xe s1) X.xe s
theorem Jb (ho:s.heap.get? it=some o) (hc:o.cls=.type n) (hd:o.data=.fields vs)
  (hn:["enumerate","zip","dict_itemiterator","dict_reverseitemiterator","odict_iterator","itertools.zip_longest","itertools.pairwise"].contains n=false) (hQ:Q () s):wpAny M A (letOwnedTupleGo tg (.ref it) u) Q E s:=by
 unfold letOwnedTupleGo
 cases tg <;> first
  | exact wpAny_pure hQ
  | (cases u <;> first | exact wpAny_pure hQ | (refine wpAny_bind (wpAny_load ho ?_);rw[hc,hd];show wpAny M A (if (["enumerate","zip","dict_itemiterator","dict_reverseitemiterator","odict_iterator","itertools.zip_longest","itertools.pairwise"].contains n && vs[0]? == some (rawInt _))=true then _ else _) Q E s;rw[if_neg (by intro h;rw[hn,Bool.false_and] at h;cases h)];exact wpAny_pure hQ))
def PU (K:FG9) (a:Addr):It :=
 ⟨λi H=>∃xs x,bo K H a xs/\xs[i]?=some x,λi H x H'=>H'=H/\∀xs,bo K H a xs->xs[i]?=some x,λi H=>∃xs,bo K H a xs/\xs.length<=i⟩
def RX (K:FG9) (a:Addr):It :=
 ⟨λi H=>∃xs x,qO K H a xs/\xs[i]?=some x,λi H x H'=>H'=H/\∀xs,qO K H a xs->xs[i]?=some x,λi H=>∃xs,qO K H a xs/\xs.length<=i⟩
def F8 (lo:Int) (n:Nat):It:=⟨λi _=>i < n,λi H x H'=>H'=H/\x=.int (lo+i),λi _=>n<=i⟩
theorem JD {P:Program} {w:World} {K:FG9} {tg:Expr} (a it:Addr):Turn P w K tg (PU K a) [it] it (λi h=>h.IsListIter it a i) where
 mem:=by simp
 obj:=λi h st b hb=>by
  have e:b=it:=by simpa using hb
  subst e;obtain ⟨o,e,c,d⟩:=st;exact ⟨o,e,λv z=>by rw[d] at z;cases z⟩
 keep:=λi h h' st k=>st.at λo e=>k it (by simp) o e
 item:=by
  intro X hP hw hK hc i pins s σ H E I hf st hg;subst hP hw hK;obtain ⟨xs,x,hq,hx⟩:=hg;obtain ⟨its,rv,p,hz⟩:=I.list hq;obtain ⟨u,hu,ru⟩:=rv.get hx;obtain ⟨f0,f1,f2,f3,f4,f5⟩:=hf it (by simp);refine wpAny_pyNext_list_item st p.isList (x:=u) (by simpa using hu) λh' st' sb=>?_
  have I1:Inv X pins σ H { s with heap:=h' }:=I.turned (t':=s.toks) (λb o hb e=>(sb.2 b hb).trans e) f0 f1 f3 f4 f5;obtain ⟨o,e,c,d⟩:=id st';exact ⟨u,rfl,Jb (s:={ s with heap:=h' }) e c d (by decide) ⟨x,H,I1,ru,⟨rfl,λys hy=>by rw[I.list_inj hy hq];exact hx⟩,st',λb hb=>(hf b hb).1⟩⟩
 done:=by
  intro X hP hw hK hc i pins s σ H E I hf st hg;subst hP hw hK;obtain ⟨xs,hq,hx⟩:=hg;obtain ⟨its,rv,p,hz⟩:=I.list hq;obtain ⟨f0,f1,f2,f3,f4,f5⟩:=hf it (by simp);have hl:=rv.length;exact wpAny_pyNext_list_end (I.ok.hd hc) st p.isList (by simp;lia) λh' eb=>⟨rfl,I.turned (t':=s.toks) (λb o hb e=>eb b o hb e) f0 f1 f3 f4 f5⟩
 self:=λ_ _ _ _ _ st h=>wpAny_pyIter_listiter st h
theorem Gu {P:Program} {w:World} {K:FG9} {tg:Expr} (a it:Addr):Turn P w K tg (RX K a) [it] it (λi h=>h.IsTupleIter it a i) where
 mem:=by simp
 obj:=λi h st b hb=>by
  have e:b=it:=by simpa using hb
  subst e;obtain ⟨o,e,c,d⟩:=st;exact ⟨o,e,λv z=>by rw[d] at z;cases z⟩
 keep:=λi h h' st k=>st.at λo e=>k it (by simp) o e
 item:=by
  intro X hP hw hK hc i pins s σ H E I hf st hg;subst hP hw hK;obtain ⟨xs,x,hq,hx⟩:=hg;obtain ⟨its,rv,p,hz⟩:=I.tuple hq;obtain ⟨u,hu,ru⟩:=rv.get hx;obtain ⟨f0,f1,f2,f3,f4,f5⟩:=hf it (by simp);refine wpAny_pyNext_tuple_item st (show s.heap.IsTuple a its.toArray from p) (x:=u) (by simpa using hu) λh' st' sb=>?_
  have I1:Inv X pins σ H { s with heap:=h' }:=I.turned (t':=s.toks) (λb o hb e=>(sb.2 b hb).trans e) f0 f1 f3 f4 f5;obtain ⟨o,e,c,d⟩:=id st';exact ⟨u,rfl,Jb (s:={ s with heap:=h' }) e c d (by decide) ⟨x,H,I1,ru,⟨rfl,λys hy=>by rw[I.tuple_inj hy hq];exact hx⟩,st',λb hb=>(hf b hb).1⟩⟩
 done:=by
  intro X hP hw hK hc i pins s σ H E I hf st hg;subst hP hw hK;obtain ⟨xs,hq,hx⟩:=hg;obtain ⟨its,rv,p,hz⟩:=I.tuple hq;obtain ⟨f0,f1,f2,f3,f4,f5⟩:=hf it (by simp);have hl:=rv.length;exact wpAny_pyNext_tuple_end (I.ok.hd hc) st (show s.heap.IsTuple a its.toArray from p) (by simp;lia) λh' eb=>⟨rfl,I.turned (t':=s.toks) (λb o hb e=>eb b o hb e) f0 f1 f3 f4 f5⟩
 self:=λ_ _ _ _ _ st h=>wpAny_pyIter_tupleiter st h
theorem Gv {P:Program} {w:World} {K:FG9} {tg:Expr} (it:Addr) (lo:Int) (n:Nat):Turn P w K tg (F8 lo n) [it] it (λi h=>IsRangeIter h it (lo+(i:Nat)*1) ((n:Int) - (i:Nat)) 1) where
 mem:=by simp
 obj:=λi h st b hb=>by
  have e:b=it:=by simpa using hb
  subst e
  exact ⟨_,st,λv z=>by
   have z':Data.fields _=Data.cell v:=z;cases z'⟩
 keep:=λi h h' st k=>k it (by simp) _ st
 item:=by
  intro X hP hw hK hc i pins s σ H E I hf st hg;subst hP hw hK;obtain ⟨f0,f1,f2,f3,f4,f5⟩:=hf it (by simp);have W:=Walks.range (prog:=X.prog) (w:=X.w) (I.ok.hd hc) it lo 1 n;refine W.item i s _ _ hg st λv h' tk hv st' kk=>?_
  obtain ⟨t,rfl⟩:=hv;have I1:Inv X pins σ H { s with heap:=h',toks:=tk }:=I.turned (λb o hb e=>kk b o (by simpa using hb) e) f0 f1 f3 f4 f5;refine ⟨_,rfl,Jb (s:={ s with heap:=h',toks:=tk }) (n:="range_iterator") st' rfl rfl (by decide) ⟨.int (lo+i),H,I1,⟨t,?_⟩,⟨rfl,rfl⟩,st',λb hb=>(hf b hb).1⟩⟩;rw[Int.mul_one]
 done:=by
  intro X hP hw hK hc i pins s σ H E I hf st hg;subst hP hw hK;obtain ⟨f0,f1,f2,f3,f4,f5⟩:=hf it (by simp);exact wpAny_pyNext_range_end (I.ok.hd hc) st (by have:n<=i:=hg;lia) λh' eb=>⟨rfl,I.turned (t':=s.toks) (λb o hb e=>eb b o hb e) f0 f1 f3 f4 f5⟩
 self:=λ_ _ _ _ _ st h=>wpAny_pyIter_rangeiter st h
section
variable {X:Cx} {tg:Expr}
def Mi (K:FG9) (tl:TE):TI:=λσ H R=>tl σ H λx H1=>∃a,x=.ref a/\(∃xs,bo K H1 a xs)/\R (PU K a) H1
def S6 (K:FG9) (tl:TE):TI:=λσ H R=>tl σ H λx H1=>∃a,x=.ref a/\(∃xs,qO K H1 a xs)/\R (RX K a) H1
theorem cL (hl:PE X l tl):PI X tg l (Mi X.K tl):=by
 intro pins s σ H R I h;refine fP (hl pins s σ H _ I h) λv s1 ⟨x,H1,I1,r1,q1⟩=>?_
 obtain ⟨a,e,⟨xs,hq⟩,q⟩:=q1;subst e;cases r1;obtain ⟨its,rv,p,hz⟩:=I1.list hq;refine wpAny_pyIter_list p.isList ?_;refine ⟨s1.heap.objs.size,[s1.heap.objs.size],_,_,H1,rfl,I1.kept (t':=s1.toks) λb o e=>Heap.get?_push_of_some _ e,JD a _,⟨_,Heap.get?_push_size _ rfl,rfl,rfl⟩,λb hb=>?_,q⟩;have e:b=s1.heap.objs.size:=by simpa using hb
 subst e;exact I1.fpOk (ah _) (I1.hok.fresh (ah _))
theorem QR (hl:PE X l tl):PI X tg l (S6 X.K tl):=by
 intro pins s σ H R I h;refine fP (hl pins s σ H _ I h) λv s1 ⟨x,H1,I1,r1,q1⟩=>?_
 obtain ⟨a,e,⟨xs,hq⟩,q⟩:=q1;subst e;cases r1;obtain ⟨its,rv,p,hz⟩:=I1.tuple hq;refine wpAny_pyIter_tuple (show s1.heap.IsTuple a its.toArray from p) ?_;refine ⟨s1.heap.objs.size,[s1.heap.objs.size],_,_,H1,rfl,I1.kept (t':=s1.toks) λb o e=>Heap.get?_push_of_some _ e,Gu a _,⟨_,Heap.get?_push_size _ rfl,rfl,rfl⟩,λb hb=>?_,q⟩;have e:b=s1.heap.objs.size:=by simpa using hb
 subst e;exact I1.fpOk (ah _) (I1.hok.fresh (ah _))
theorem EI {σ:St} {lo hi:Int} (I:Inv X pins σ H s) (h1:-(2^62)<=lo) (h2:lo < 2^62) (h3:-(2^62)<=hi) (h4:hi < 2^62)
  (q:R (F8 lo (hi - lo).toNat) H):wpAny (model X.prog X.w) X.A (pyIter (.ref s.heap.objs.size)) (PIE X pins σ tg R) E { s with heap:=s.heap.push { cls:=.type "range",data:=.fields #[.int lo t,.int hi u,.int 1 v] },toks:=tk }:=by
 refine wpAny_pyIter_range (IsRange.new ..) (small_one h1 h2 h3 h4) ?_;have I1:Inv X pins σ H { s with heap:=s.heap.push { cls:=.type "range",data:=.fields #[.int lo t,.int hi u,.int 1 v] },toks:=tk }:=I.kept λb o e=>Heap.get?_push_of_some _ e
 refine ⟨(s.heap.push { cls:=.type "range",data:=.fields #[.int lo t,.int hi u,.int 1 v] }).objs.size,[(s.heap.push { cls:=.type "range",data:=.fields #[.int lo t,.int hi u,.int 1 v] }).objs.size],_,_,H,rfl,
  I1.kept (t':=tk) λb o e=>Heap.get?_push_of_some _ e,Gv _ lo (hi - lo).toNat,?_,λb hb=>?_,q⟩
 ·have e1:lo+((0:Nat):Int)*1=lo:=by simp
  have e2:(((hi - lo).toNat:Nat):Int) - ((0:Nat):Int)=Builtin.Range.rangeSize lo hi 1:=by rw[rangeSize_one];split <;> lia
  show IsRangeIter _ _ (lo+((0:Nat):Int)*1) ((((hi - lo).toNat:Nat):Int) - ((0:Nat):Int)) 1
  rw[e1,e2];exact Heap.get?_push_size _ rfl
 ·have e:b=(s.heap.push { cls:=.type "range",data:=.fields #[.int lo t,.int hi u,.int 1 v] }).objs.size:=by simpa using hb
  subst e;exact I1.fpOk (ah _) (I1.hok.fresh (ah _))
def Px (ta:TA):TI:=λσ H R=>ta σ H λvs H1=>∃j:Int,vs=[.int j]/\-(2^62)<=j/\j < 2^62/\R (F8 0 j.toNat) H1
def Pw (ta:TA):TI:=λσ H R=>ta σ H λvs H1=>∃i j:Int,vs=[.int i,.int j]/\(-(2^62)<=i/\i < 2^62/\-(2^62)<=j/\j < 2^62)/\R (F8 i (j - i).toNat) H1
theorem cF {a:Expr} {ta:TA} {p pos:Pos} (hg:Gl X "range") (hm:X.mg "range"=none) (ha:PA X [a] ta) (hs:starEach [a] X.env=[(false,eval a X.env)]:=by rfl):PI X tg (.Call (.Name "range" p) [a] [] pos) (Px ta):=by
 intro pins s σ H R I h;refine Call_ (kE I hg hm boot_range (PyProof.Rows.callWith_type1 (fP (ha pos pins s σ H _ I h) λus s1 ⟨vs,H1,I1,r1,q1⟩=>?_) hs rfl));obtain ⟨j,e,q1,q2,q⟩:=q1;subst e;cases r1 with
 | cons r rr =>
  cases rr;obtain ⟨t,rfl⟩:=r;exact call_range_1 (EI I1 (by lia) (by lia) q1 q2 (by simpa using q))
theorem JS {a b:Expr} {ta:TA} {p pos:Pos} (hg:Gl X "range") (hm:X.mg "range"=none) (ha:PA X [a,b] ta) (hs:starEach [a,b] X.env=[(false,eval a X.env),(false,eval b X.env)]:=by rfl) (hs2:starEach [b] X.env=[(false,eval b X.env)]:=by rfl) :
  PI X tg (.Call (.Name "range" p) [a,b] [] pos) (Pw ta):=by
 intro pins s σ H R I h;refine Call_ (kE I hg hm boot_range (PyProof.Rows.callWith_type1 (fP (ha pos pins s σ H _ I h) λus s1 ⟨vs,H1,I1,r1,q1⟩=>?_) (by rw[hs,hs2]) (by rw[hs2];rfl)));obtain ⟨i,j,e,⟨q1,q2,q3,q4⟩,q⟩:=q1;subst e;cases r1 with
 | cons r rr =>
  cases rr with
  | cons r' rr =>
   cases rr;obtain ⟨t,rfl⟩:=r;obtain ⟨t',rfl⟩:=r';exact call_range_2 (EI I1 q1 q2 q3 q4 q)
def Sm (wi:TI) (g:TG) (tb:TS):TS:=λD σ H=>wi σ H λJ H1=>∃W:Nat->Nat->St->Hp->Prop,(∃m,W 0 m σ H1)/\∀i m σ H,W i m σ H →
 (J.stop i H/\D.nx σ H)\/(J.go i H/\∃N:St->Hp->Prop,(∀σ' H',N σ' H'->∃m',m' < m/\W (i+1) m' σ' H')/\∀x H',J.yld i H x H'->g x σ H' λσ2 H2=>tb { D with nx:=N,ct:=N,bk:=D.nx } σ2 H2)
def yK (fp:List Addr) (h:Heap):List (Addr×Obj):=fp.filterMap λb=>(h.get? b).map λo=>(b,o)
theorem qE (hb:b∈fp) (e:h.get? b=some o):(b,o)∈yK fp h:=Gg.mpr ⟨b,hb,by rw[e];rfl⟩
theorem JW (hp:p∈yK fp h):p.1∈fp/\h.get? p.1=some p.2:=by
 obtain ⟨b,hb,e⟩:=Gg.mp hp;cases q:h.get? b with
 | none=>rw[q] at e;cases e
 | some o =>
  rw[q] at e;have e':(b,o)=p:=bO e;subst e';exact ⟨hb,q⟩
theorem Inv.pinned {σ:St} (I:Inv X pins σ H s) (hf:∀b∈fp,jY X pins H b) (ho:∀b∈fp,∃o,s.heap.get? b=some o/\∀v,o.data≠.cell v):Inv X (pins++yK fp s.heap) σ H s :=
 I.pins_of λp hp=>(ay.mp hp).elim (λz=>I.pin p (bL _ z)) λz=>by
  obtain ⟨hb,e⟩:=JW z;obtain ⟨f0,f1,f2,_⟩:=hf p.1 hb;obtain ⟨o,e',d⟩:=ho p.1 hb;rw[e] at e';cases e';exact ⟨e,f0,f1,f2,d⟩
theorem Inv.unpinned {σ:St} (I:Inv X (pins++pl) σ H s):Inv X pins σ H s:=I.pins_of λp hp=>I.pin p (bL _ (kl _ hp))
theorem fB {iter:Expr} {body:List Stmt} {wi:TI} {g:TG} {tb:TS} {pos:Pos} (hp:PassesOwn (model X.prog X.w) X.A X.env X.xe) (hc:X.calm=true) (hi:PI X tg iter wi) (hg:PG X tg g) (hb:A0 X body tb)
  (hs:∀x,foldedSetIterable iter X.env x=pure x:=by intro _;rfl):PS X (.For tg iter body [] pos) (Sm wi g tb):=by
 intro pins s σ H D I h;refine wpAny_For (fP (hi pins s σ H _ I h) λv s1 h1=>fP h1 λitv s2 h2=>?_) hs;obtain ⟨it,fp,tn,J,H2,e,I2,T,st2,f2,W,⟨m0,w0⟩,turn⟩:=h2;subst e;have stat:∀{H':Hp},(∀b∈fp,H' b=none)->∀b∈fp,jY X pins H' b:=λhn b hb=>⟨hn b hb,(f2 b hb).2⟩
 refine codeAny_forLoop_any (λn s'=>∃i σ' H',Inv X pins σ' H' s'/\tn i s'.heap/\(∀b∈fp,H' b=none)/\W i n σ' H') ?_ m0 ⟨0,σ,H2,I2,st2,λb hb=>(f2 b hb).1,w0⟩;rintro n s3 ⟨i,σ3,H3,I3,st3,fr3,w3⟩;rcases turn i n σ3 H3 w3 with ⟨stop,qn⟩ | ⟨go,N,hN,step⟩
 ·refine wpAny_passesOwn hp (fP (T.done X rfl rfl rfl hc i pins s3 σ3 H3 X.xe I3 (stat fr3) st3 stop) λr s4 ⟨hr,I4⟩=>?_);subst hr;exact wpAny_execs_nil ⟨σ3,H3,I4,qn⟩
 ·refine wpAny_passesOwn hp (fP (T.item X rfl rfl rfl hc i pins s3 σ3 H3 X.xe I3 (stat fr3) st3 go) λr s4 ⟨u,hr,h4⟩=>?_);subst hr;refine wpAny_passesOwn hp (fP h4 λ_ s5 ⟨x,H5,I5,r5,y5,st5,fr5⟩=>?_);have I5':=I5.pinned (stat fr5) (T.obj _ _ st5);refine wpAny_passesOwn hp (fP (hg _ s5 σ3 H5 x u _ I5' r5 (step x H5 y5)) λ_ s6 ⟨σ6,H6,I6,q6⟩=>?_);refine wpAny_passesOwn hp (fP (hb _ s6 σ6 H6 _ I6 q6) λf s7 q7=>?_)
  have again:∀{σ7:St} {H7:Hp},Inv X (pins++yK fp s5.heap) σ7 H7 s7->N σ7 H7->∃m,m < n/\∃i σ' H',Inv X pins σ' H' s7/\tn i s7.heap/\(∀b∈fp,H' b=none)/\W i m σ' H':=λ{σ7 H7} I7 n7=>by
   obtain ⟨m',hm,w7⟩:=hN σ7 H7 n7;refine ⟨m',hm,i+1,σ7,H7,I7.unpinned,T.keep _ _ _ st5 λb hb o e=>(I7.pin (b,o) (bL _ (bL _ (qE hb e)))).1,λb hb=>?_,w7⟩;obtain ⟨o,e,d⟩:=T.obj _ _ st5 b hb;exact (I7.pin (b,o) (bL _ (bL _ (qE hb e)))).2.1
  cases f with
  | next=>obtain ⟨σ7,H7,I7,n7⟩:=q7;exact again I7 n7
  | cont=>obtain ⟨σ7,H7,I7,n7⟩:=q7;exact again I7 n7
  | brk=>obtain ⟨σ7,H7,I7,q7⟩:=q7;exact ⟨σ7,H7,I7.unpinned,q7⟩
  | ret v=>obtain ⟨x7,σ7,H7,I7,r7,q7⟩:=q7;exact ⟨x7,σ7,H7,I7.unpinned,r7,q7⟩
end
theorem sH {K:FG9} {g:TG} {tb:TS} {D:Ends} (Pv:Nat->St->Hp->Prop) (h0:Pv 0 σ H) (hl:∀i σ H,i<=xs.length->Pv i σ H->bo K H a xs)
  (hs:∀i x σ H,xs[i]?=some x->Pv i σ H->g x σ H λσ2 H2=>tb { D with nx:=Pv (i+1),ct:=Pv (i+1),bk:=D.nx } σ2 H2) (hd:∀σ H,Pv xs.length σ H->D.nx σ H) :
  ∃W:Nat->Nat->St->Hp->Prop,(∃m,W 0 m σ H)/\∀i m σ H,W i m σ H →
   ((PU K a).stop i H/\D.nx σ H)\/((PU K a).go i H/\∃N:St->Hp->Prop,(∀σ' H',N σ' H'->∃m',m' < m/\W (i+1) m' σ' H')/\∀x H',(PU K a).yld i H x H'->g x σ H' λσ2 H2=>tb { D with nx:=N,ct:=N,bk:=D.nx } σ2 H2):=by
 refine ⟨λi m σ H=>m=xs.length - i/\i<=xs.length/\Pv i σ H,⟨xs.length,by simp,aS _,h0⟩,?_⟩;rintro i m σ H ⟨rfl,hi,p⟩;have q:=hl i σ H hi p;by_cases hlt:i < xs.length
 ·refine .inr ⟨⟨xs,xs[i],q,by simp [hlt]⟩,Pv (i+1),λσ' H' p'=>⟨xs.length - (i+1),by lia,rfl,hlt,p'⟩,λx H' y=>?_⟩;obtain ⟨e,y⟩:=y;subst e;exact hs i x σ _ (y xs q) p
 ·have e:i=xs.length:=by lia
  subst e;exact .inl ⟨⟨xs,q,ah _⟩,hd σ H p⟩
theorem OA {K:FG9} {g:TG} {tb:TS} {D:Ends} (Pv:Nat->St->Hp->Prop) (h0:Pv 0 σ H) (hl:∀i σ H,i<=xs.length->Pv i σ H->qO K H a xs)
  (hs:∀i x σ H,xs[i]?=some x->Pv i σ H->g x σ H λσ2 H2=>tb { D with nx:=Pv (i+1),ct:=Pv (i+1),bk:=D.nx } σ2 H2) (hd:∀σ H,Pv xs.length σ H->D.nx σ H) :
  ∃W:Nat->Nat->St->Hp->Prop,(∃m,W 0 m σ H)/\∀i m σ H,W i m σ H →
   ((RX K a).stop i H/\D.nx σ H)\/((RX K a).go i H/\∃N:St->Hp->Prop,(∀σ' H',N σ' H'->∃m',m' < m/\W (i+1) m' σ' H')/\∀x H',(RX K a).yld i H x H'->g x σ H' λσ2 H2=>tb { D with nx:=N,ct:=N,bk:=D.nx } σ2 H2):=by
 refine ⟨λi m σ H=>m=xs.length - i/\i<=xs.length/\Pv i σ H,⟨xs.length,by simp,aS _,h0⟩,?_⟩;rintro i m σ H ⟨rfl,hi,p⟩;have q:=hl i σ H hi p;by_cases hlt:i < xs.length
 ·refine .inr ⟨⟨xs,xs[i],q,by simp [hlt]⟩,Pv (i+1),λσ' H' p'=>⟨xs.length - (i+1),by lia,rfl,hlt,p'⟩,λx H' y=>?_⟩;obtain ⟨e,y⟩:=y;subst e;exact hs i x σ _ (y xs q) p
 ·have e:i=xs.length:=by lia
  subst e;exact .inl ⟨⟨xs,q,ah _⟩,hd σ H p⟩
theorem BK {lo:Int} {g:TG} {tb:TS} {D:Ends} (Pv:Nat->St->Hp->Prop) (h0:Pv 0 σ H)
  (hs:∀i σ H,i < n->Pv i σ H->g (.int (lo+i)) σ H λσ2 H2=>tb { D with nx:=Pv (i+1),ct:=Pv (i+1),bk:=D.nx } σ2 H2) (hd:∀σ H,Pv n σ H->D.nx σ H) :
  ∃W:Nat->Nat->St->Hp->Prop,(∃m,W 0 m σ H)/\∀i m σ H,W i m σ H →
   ((F8 lo n).stop i H/\D.nx σ H)\/((F8 lo n).go i H/\∃N:St->Hp->Prop,(∀σ' H',N σ' H'->∃m',m' < m/\W (i+1) m' σ' H')/\∀x H',(F8 lo n).yld i H x H'->g x σ H' λσ2 H2=>tb { D with nx:=N,ct:=N,bk:=D.nx } σ2 H2):=by
 refine ⟨λi m σ H=>m=n - i/\i<=n/\Pv i σ H,⟨n,by simp,aS _,h0⟩,?_⟩;rintro i m σ H ⟨rfl,hi,p⟩;by_cases hlt:i < n
 ·refine .inr ⟨hlt,Pv (i+1),λσ' H' p'=>⟨n - (i+1),by lia,rfl,hlt,p'⟩,λx H' y=>?_⟩;obtain ⟨e,y⟩:=y;subst e y;exact hs i σ _ hlt p
 ·have e:i=n:=by lia
  subst e;exact .inl ⟨ah _,hd σ H p⟩
abbrev R2:=V->V->Hp->VK->Prop
def wO (X:Cx) (f:Value->Value->Sem Value) (r:R2):Prop :=
 ∀(pins:List (Addr×Obj)) (s:Shared) (σ:St) (H:Hp) (x y:V) (v u:Value) (Q:VK),Inv X pins σ H s->RelV x v->RelV y u->r x y H Q →
  wpAny (model X.prog X.w) X.A (f v u) (EP X pins σ Q) X.xe s
def Uh (X:Cx) (f:Value->Sem Value) (r:V->Hp->VK->Prop):Prop :=
 ∀(pins:List (Addr×Obj)) (s:Shared) (σ:St) (H:Hp) (x:V) (v:Value) (Q:VK),Inv X pins σ H s->RelV x v->r x H Q →
  wpAny (model X.prog X.w) X.A (f v) (EP X pins σ Q) X.xe s
def pC (X:Cx) (f:Value) (r:List V->Hp->VK->Prop):Prop :=
 ∀(pins:List (Addr×Obj)) (s:Shared) (σ:St) (H:Hp) (xs:List V) (us:List Value) (Q:VK),Inv X pins σ H s->cJ xs us->r xs H Q →
  wpAny (model X.prog X.w) X.A (call f us) (EP X pins σ Q) X.xe s
def Si (r:R2) (ta tb:TE):TE:=λσ H Q=>ta σ H λx H1=>tb σ H1 λy H2=>r x y H2 Q
def TL (r:V->Hp->VK->Prop) (ta:TE):TE:=λσ H Q=>ta σ H λx H1=>r x H1 Q
def rI (C:Int->Int->Prop) (g:Int->Int->V):R2:=λx y H Q=>∃i j,x=.int i/\y=.int j/\C i j/\Q (g i j) H
def N4 (g:Int->Int->V):R2:=λx y H Q=>∃i j,x=.int i/\y=.int j/\Q (g i j) H
def rU (g:Int->V):V->Hp->VK->Prop:=λx H Q=>∃i,x=.int i/\Q (g i) H
section
variable {X:Cx} {a b c:Expr} {ta tb tc:TE} {pos:Pos}
theorem RD (ha:PE X a ta) (hb:PE X b tb) {σ:St} {R:V->V->Hp->Prop} (I:Inv X pins σ H s)
  (h:ta σ H λx H1=>tb σ H1 λy H2=>R x y H2) {f:Value->Value->Sem Value}
  (hf:∀v u s2 x y H2,Inv X pins σ H2 s2->RelV x v->RelV y u->R x y H2->wpAny (model X.prog X.w) X.A (f v u) Q X.xe s2) :
  wpAny (model X.prog X.w) X.A (eval a X.env) (λv s₁=>wpAny (model X.prog X.w) X.A (eval b X.env) (λu s₂=>wpAny (model X.prog X.w) X.A (f v u) Q X.xe s₂) X.xe s₁) X.xe s:=by
 refine fP (ha pins s σ H _ I h) λv s1 ⟨x,H1,I1,r1,q1⟩=>?_
 refine fP (hb pins s1 σ H1 _ I1 q1) λu s2 ⟨y,H2,I2,r2,q2⟩=>?_
 exact hf v u s2 x y H2 I2 r1 r2 q2
theorem br (ho:wO X (binaryOp op) r) (ha:PE X a ta) (hb:PE X b tb):PE X (.BinOp a op b pos) (Si r ta tb):=by
 intro pins s σ H Q I h;exact wpAny_BinOp (RD ha hb I h λv u s2 x y H2 I2 rx ry q=>ho pins s2 σ H2 x y v u Q I2 rx ry q)
theorem qS (ho:Uh X (unaryOp op) r) (ha:PE X a ta):PE X (.UnaryOp op a pos) (TL r ta):=by
 intro pins s σ H Q I h;exact UnaryOp_ (fP (ha pins s σ H _ I h) λv s1 ⟨x,H1,I1,r1,q1⟩=>ho pins s1 σ H1 x v Q I1 r1 q1)
theorem TM {g:Int->Int->Int}
  (rule:∀(i j:Int) (t u:Tok) (s:Shared) (Q:Value->Shared->Prop) (E:Value->Shared->Prop),C i j->Q (.int (g i j) s.toks) { s with toks:=s.toks+1 }->wpAny (model X.prog X.w) X.A (f (.int i t) (.int j u)) Q E s) :
  wO X f (rI C λi j=>.int (g i j)):=by
 intro pins s σ H x y v u Q I rx ry h;obtain ⟨i,j,rfl,rfl,hc,q⟩:=h;obtain ⟨t,rfl⟩:=rx;obtain ⟨t',rfl⟩:=ry;exact rule i j t t' s _ _ hc ⟨.int (g i j),H,I.tok _,⟨_,rfl⟩,q⟩
theorem SN {g:Int->Int->Int}
  (rule:∀(i j:Int) (t u:Tok) (s:Shared) (Q:Value->Shared->Prop) (E:Value->Shared->Prop),Q (.int (g i j) s.toks) { s with toks:=s.toks+1 }->wpAny (model X.prog X.w) X.A (f (.int i t) (.int j u)) Q E s) :
  wO X f (N4 λi j=>.int (g i j)):=by
 intro pins s σ H x y v u Q I rx ry h;obtain ⟨i,j,rfl,rfl,q⟩:=h;obtain ⟨t,rfl⟩:=rx;obtain ⟨t',rfl⟩:=ry;exact rule i j t t' s _ _ ⟨.int (g i j),H,I.tok _,⟨_,rfl⟩,q⟩
theorem Oi {g:Int->Int->Bool}
  (rule:∀(i j:Int) (t u:Tok) (s:Shared) (Q:Value->Shared->Prop) (E:Value->Shared->Prop),Q (.bool (g i j)) s->wpAny (model X.prog X.w) X.A (f (.int i t) (.int j u)) Q E s) :
  wO X f (N4 λi j=>.bl (g i j)):=by
 intro pins s σ H x y v u Q I rx ry h;obtain ⟨i,j,rfl,rfl,q⟩:=h;obtain ⟨t,rfl⟩:=rx;obtain ⟨t',rfl⟩:=ry;exact rule i j t t' s _ _ ⟨.bl (g i j),H,I,rfl,q⟩
def RT (i j:Int):Prop:=(-(2^64) < i/\i < 2^64)\/(-(2^64) < j/\j < 2^64)
theorem RT.ok (h:RT i j):IntMulOk i j:=by
 rcases h with ⟨h1,h2⟩ | ⟨h1,h2⟩
 ·exact .of_left (intBits_le_64 h1 h2)
 ·exact .of_right (intBits_le_64 h1 h2)
theorem fD:wO X (binaryOp .Add) (N4 λi j=>.int (i+j)):=SN λ_ _ _ _ _ _ _ q=>add_int q
theorem ni:wO X (binaryOp .Sub) (N4 λi j=>.int (i - j)):=SN λ_ _ _ _ _ _ _ q=>sub_int q
theorem oQ:wO X (binaryOp .Mod) (rI (λ_ j=>0 < j) λi j=>.int (i % j)):=TM λi j _ _ _ _ _ hc q=>by
 have h1:(0:Int) < j:=hc;exact mod_int' (by lia) (by rw[Int.fmod_eq_emod_of_nonneg i (by lia)];exact q)
theorem Oh:wO X (binaryOp .Mod) (rI (λ_ j=>j≠0) λi j=>.int (i.fmod j)):=TM λ_ _ _ _ _ _ _ hc q=>mod_int' hc q
theorem unI {g:Int->Int}
  (rule:∀(i:Int) (t:Tok) (s:Shared) (Q:Value->Shared->Prop) (E:Value->Shared->Prop),Q (.int (g i) s.toks) { s with toks:=s.toks+1 }->wpAny (model X.prog X.w) X.A (f (.int i t)) Q E s) :
  Uh X f (rU λi=>.int (g i)):=by
 intro pins s σ H x v Q I rx h;obtain ⟨i,rfl,q⟩:=h;obtain ⟨t,rfl⟩:=rx;exact rule i t s _ _ ⟨.int (g i),H,I.tok _,⟨_,rfl⟩,q⟩
theorem lU:Uh X (unaryOp .USub) (rU λi=>.int (-i)):=unI λ_ _ _ _ _ q=>neg_int q
end
def Ss:V->V->Bool
 | .non,.non=>true | .non,.int _=>true | .int _,.non=>true | .non,.bl _=>true | .bl _,.non=>true | .non,.str _=>true | .str _,.non=>true
 | .int _,.int _=>true | .bl _,.bl _=>true | .str _,.str _=>true | .byt _,.byt _=>true
 | .int _,.str _=>true | .str _,.int _=>true | .bl _,.str _=>true | .str _,.bl _=>true
 | _,_=>false
def rEq:R2:=λx y H Q=>Ss x y=true/\Q (.bl (decide (x=y))) H
def rNe:R2:=λx y H Q=>Ss x y=true/\Q (.bl (!decide (x=y))) H
theorem Jk:decide (V.int i=V.int j)=(i == j):=by
 rw[mO];simp
theorem MM:decide (V.bl i=V.bl j)=(i == j):=by
 rw[mO];simp
theorem Jj:decide (V.str i=V.str j)=(i == j):=by
 rw[mO];simp
theorem Jl:decide (V.byt i=V.byt j)=(i.toList == j.toList):=by
 rw[mO];cases i;cases j;simp
section
variable {X:Cx} {a b c:Expr} {ta tb tc:TE} {pos:Pos}
theorem dh {σ:St} (I:Inv X pins σ H s) (q:Q (.bl k) H) (e:k=k'):EP X pins σ Q (.bool k') s:=by
 subst e;exact ⟨.bl k,H,I,rfl,q⟩
theorem gi:wO X (compareOp .Eq) rEq:=by
 intro pins s σ H x y v u Q I rx ry h;obtain ⟨hs,q⟩:=h;cases x with
 | non =>
  cases rx;cases y with
  | non=>cases ry;exact PySem.EqNone.eq_none_none (dh I q (by simp))
  | bl j=>cases ry;exact PySem.EqNone.eq_none_bool (dh I q (by simp))
  | int j=>obtain ⟨t',rfl⟩:=ry;exact PySem.EqNone.eq_none_int (dh I q (by simp))
  | str j=>obtain ⟨t',rfl⟩:=ry;exact PySem.EqNone.eq_none_str (dh I q (by simp))
  | _=>exact absurd (show false=true from hs) aI
 | bl i =>
  cases rx;cases y with
  | non=>cases ry;exact PySem.EqNone.eq_bool_none (dh I q (by simp))
  | bl j=>cases ry;exact eq_bool (dh I q MM)
  | str j=>obtain ⟨t',rfl⟩:=ry;exact PySem.EqMixed.eq_bool_str (dh I q (by simp))
  | _=>exact absurd (show false=true from hs) aI
 | int i =>
  obtain ⟨t,rfl⟩:=rx;cases y with
  | non=>cases ry;exact PySem.EqNone.eq_int_none (dh I q (by simp))
  | int j=>obtain ⟨t',rfl⟩:=ry;exact eq_int (dh I q Jk)
  | str j=>obtain ⟨t',rfl⟩:=ry;exact PySem.EqMixed.eq_int_str (dh I q (by simp))
  | _=>exact absurd (show false=true from hs) aI
 | str i =>
  obtain ⟨t,rfl⟩:=rx;cases y with
  | non=>cases ry;exact PySem.EqNone.eq_str_none (dh I q (by simp))
  | bl j=>cases ry;exact PySem.EqMixed.eq_str_bool (dh I q (by simp))
  | int j=>obtain ⟨t',rfl⟩:=ry;exact PySem.EqMixed.eq_str_int (dh I q (by simp))
  | str j=>obtain ⟨t',rfl⟩:=ry;exact eq_str (dh I q Jj)
  | _=>exact absurd (show false=true from hs) aI
 | byt i =>
  obtain ⟨t,rfl⟩:=rx;cases y with
  | byt j=>obtain ⟨t',rfl⟩:=ry;exact PySem.W.eq_bytes (dh I q Jl)
  | _=>exact absurd (show false=true from hs) aI
 | _=>cases y <;> exact absurd (show false=true from hs) aI
theorem wC:wO X (compareOp .NotEq) rNe:=by
 intro pins s σ H x y v u Q I rx ry h;obtain ⟨hs,q⟩:=h;cases x with
 | non =>
  cases rx;cases y with
  | non=>cases ry;exact PySem.EqNone.ne_none_none (dh I q (by simp))
  | bl j=>cases ry;exact PySem.EqNone.ne_none_bool (dh I q (by simp))
  | int j=>obtain ⟨t',rfl⟩:=ry;exact PySem.EqNone.ne_none_int (dh I q (by simp))
  | str j=>obtain ⟨t',rfl⟩:=ry;exact PySem.EqNone.ne_none_str (dh I q (by simp))
  | _=>exact absurd (show false=true from hs) aI
 | bl i =>
  cases rx;cases y with
  | non=>cases ry;exact PySem.EqNone.ne_bool_none (dh I q (by simp))
  | bl j=>cases ry;exact ne_bool (dh I q (congrArg not MM))
  | str j=>obtain ⟨t',rfl⟩:=ry;exact PySem.EqMixed.ne_bool_str (dh I q (by simp))
  | _=>exact absurd (show false=true from hs) aI
 | int i =>
  obtain ⟨t,rfl⟩:=rx;cases y with
  | non=>cases ry;exact PySem.EqNone.ne_int_none (dh I q (by simp))
  | int j=>obtain ⟨t',rfl⟩:=ry;exact ne_int (dh I q (congrArg not Jk))
  | str j=>obtain ⟨t',rfl⟩:=ry;exact PySem.EqMixed.ne_int_str (dh I q (by simp))
  | _=>exact absurd (show false=true from hs) aI
 | str i =>
  obtain ⟨t,rfl⟩:=rx;cases y with
  | non=>cases ry;exact PySem.EqNone.ne_str_none (dh I q (by simp))
  | bl j=>cases ry;exact PySem.EqMixed.ne_str_bool (dh I q (by simp))
  | int j=>obtain ⟨t',rfl⟩:=ry;exact PySem.EqMixed.ne_str_int (dh I q (by simp))
  | str j=>obtain ⟨t',rfl⟩:=ry;exact ne_str (dh I q (congrArg not Jj))
  | _=>exact absurd (show false=true from hs) aI
 | byt i =>
  obtain ⟨t,rfl⟩:=rx;cases y with
  | byt j=>obtain ⟨t',rfl⟩:=ry;exact PySem.W.ne_bytes (dh I q (congrArg not Jl))
  | _=>exact absurd (show false=true from hs) aI
 | _=>cases y <;> exact absurd (show false=true from hs) aI
theorem nY:wO X (compareOp .Lt) (N4 λi j=>.bl (decide (i < j))):=Oi λ_ _ _ _ _ _ _ q=>lt_int q
theorem SM:wO X (compareOp .LtE) (N4 λi j=>.bl (decide (i<=j))):=Oi λ_ _ _ _ _ _ _ q=>le_int q
theorem wD:wO X (compareOp .Gt) (N4 λi j=>.bl (decide (j < i))):=Oi λ_ _ _ _ _ _ _ q=>gt_int q
theorem yU:wO X (compareOp .GtE) (N4 λi j=>.bl (decide (j<=i))):=Oi λ_ _ _ _ _ _ _ q=>ge_int q
theorem CQ:wO X (compareOp .IsNot) (λx y H Q=>y=.non/\Q (.bl (!decide (x=.non))) H):=by
 intro pins s σ H x y v u Q I rx ry h;obtain ⟨rfl,q⟩:=h;cases ry;refine isnot_none_gen (dh I q ?_)
 cases x <;> first
  | (cases rx;rfl)
  | (obtain ⟨t,rfl⟩:=rx;rfl)
theorem bg (b:Expr) {op:CmpOp} (h:op≠.In:=by decide) (h2:op≠.NotIn:=by decide):behindInMarks op b=false:=by
 have e1:(op == CmpOp.In)=false:=by cases op <;> first | rfl | exact absurd rfl h
 have e2:(op == CmpOp.NotIn)=false:=by cases op <;> first | rfl | exact absurd rfl h2
 cases b <;> simp [behindInMarks,e1,e2]
theorem jJ (ho:wO X (compareOp op) r) (ha:PE X a ta) (hb:PE X b tb) (hm:behindInMarks op b=false):PE X (.Compare a [op] [b] pos) (Si r ta tb):=by
 intro pins s σ H Q I h;exact wpAny_Compare1 (RD ha hb I h λv u s2 x y H2 I2 rx ry q=>ho pins s2 σ H2 x y v u Q I2 rx ry q) hm
def O9 (t:TE):TT:=λσ H Q=>t σ H λx H'=>∃k,x=.bl k/\Q k H'
theorem aW (ho:wO X (compareOp op) r) (ha:PE X a ta) (hb:PE X b tb) (hm:behindInMarks op b=false):PT X (.Compare a [op] [b] pos) (O9 (Si r ta tb)):=by
 intro pins s σ H Q I h
 refine wpAny_isTrue_Compare1 (fP (ha pins s σ H _ I h) λv s1 ⟨x,H1,I1,r1,q1⟩=>fP (hb pins s1 σ H1 _ I1 q1) λu s2 ⟨y,H2,I2,r2,q2⟩ =>
  fP (ho pins s2 σ H2 x y v u _ I2 r1 r2 q2) λc s3 ⟨z,H3,I3,r3,k,e,q3⟩=>?_) hm
 subst e;cases r3;exact wpAny_truthy_bool ⟨H3,I3,q3⟩
theorem zz:(sizeLine:Nat) < 2^63:=by rw[sizeLine_eq];decide
theorem vals1 (r:cJ [x] us):∃u,us=[u]/\RelV x u:=by
 cases r with
 | cons r1 r2=>cases r2;exact ⟨_,rfl,r1⟩
theorem vals2 (r:cJ [x,y] us):∃u w',us=[u,w']/\RelV x u/\RelV y w':=by
 cases r with
 | cons r1 r2 =>
  cases r2 with
  | cons r3 r4=>cases r4;exact ⟨_,_,rfl,r1,r3⟩
theorem zO:pC X (.builtin "abs") (λxs H Q=>∃i,xs=[.int i]/\Q (.int (if i < 0 then -i else i)) H):=by
 intro pins s σ H xs us Q I r h;obtain ⟨i,rfl,q⟩:=h;obtain ⟨u,rfl,t,rfl⟩:=vals1 r;exact call_abs_int λu tk=>⟨.int (if i < 0 then -i else i),H,I.tok _,⟨_,rfl⟩,q⟩
theorem sZ (hc:X.calm=true):pC X (.builtin "min") (λxs H Q=>∃i j,xs=[.int i,.int j]/\Q (.int (if j < i then j else i)) H):=by
 intro pins s σ H xs us Q I r h;obtain ⟨i,j,rfl,q⟩:=h;obtain ⟨u,w',rfl,⟨t,rfl⟩,⟨t',rfl⟩⟩:=vals2 r;refine min_two_ints (I.ok.hd hc) λh' tk k=>⟨_,H,I.kept k,?_,q⟩
 by_cases hj:j < i
 ·rw[if_pos hj,if_pos hj];exact ⟨_,rfl⟩
 ·rw[if_neg hj,if_neg hj];exact ⟨_,rfl⟩
end
structure Il (h:Heap) (x dx C:Addr) (mA:Str->Option Value):Prop where
 obj:h.get? x=some (PySem.W.instObj C dx)
 ns:h.Ns1 dx mA
 ne:dx≠x
theorem BC {h:Heap} (n:h.Ns1 dx mA):∃od,h.get? dx=some od/\∀name,PySem.W.lookIn name od=some (mA name):=by
 obtain ⟨o,es,ep,ho,hd,hk,_,hm⟩:=n;refine ⟨o,ho,λname=>?_⟩;have e:=hm name;unfold nsFind findBy at e;rw[<- Array.find?_toList] at e;unfold PySem.W.lookIn;rw[hd]
 dsimp only
 split
 ·rename_i y q
  rw[q] at e;exact congrArg some e
 ·rename_i q
  rw[q] at e
  have a:es.toList.any (·.refKey)=false:=by
   rw[List.any_eq_false];intro y hy;obtain ⟨z,t,hkey⟩:=hk y (Array.mem_toList_iff.mp hy);simp [DictEntry.refKey,hkey]
  have a':¬es.toList.any (·.refKey)=true:=by rw[a];exact aI
  rw[if_neg a'];exact congrArg some e
theorem Il.look (I:Il h x dx C mA):∃od,PySem.W.InstAt h x (PySem.W.instObj C dx) C (some od)/\∀name,PySem.W.lookIn name od=some (mA name) :=
 let ⟨od,ho,hl⟩:=BC I.ns
 ⟨od,⟨I.obj,rfl,rfl,ho⟩,hl⟩
section
variable {prog:Program} {w:World} {A:Around} {E:Value->Shared->Prop} {s:Shared} {K:FG9} {x dx C f:Addr} {mA:Str->Option Value} {name:Str} {v:Value}
theorem get_map (X:K.In s.heap) (I:Il s.heap x dx C mA) (hg:PySem.W.plainGet K C name=true) (hh:PySem.W.hasDictIn K C=true)
  (ha:PySem.W.findIn K (.ref C) name=some none) (hv:mA name=some v) (hv':PySem.W.handedIn v=true) (h:Q v { s with toks:=s.toks+1 }) :
  wpAny (model prog w) A (getAttr (.ref x) name expr) Q E s:=by
 obtain ⟨od,J,hl⟩:=I.look;exact PySem.W.get_value X J (D6 hg).1 (PySem.W.findObj_own hh ha rfl (by rw[hl,hv])) hv' h
theorem Mn (X:K.In s.heap) (I:Il s.heap x dx C mA) (hg:PySem.W.plainGet K C name=true)
  (hf:PySem.W.findIn K (.ref C) name=some (some (.ref f))) (ht:PySem.W.isFn K (.ref f)=true) (hv:mA name=none) (h:Q (.ref f,[.ref x]) s) :
  wpAny (model prog w) A (getMethod (.ref x) name pl) Q E s:=by
 obtain ⟨od,J,hl⟩:=I.look;exact PySem.W.method_fn X J (D6 hg).1 (D6 hg).2 hf (beq_iff_eq.mp ht) (by show (PySem.W.lookIn name od).map (·.isSome)=some false;rw[hl,hv];rfl) h
theorem NA (X:K.In s.heap) (I:Il s.heap x dx C mA)
  (hs:PySem.W.findIn K (.ref C) "__setattr__"=some (some (.builtin "object.__setattr__"))) (hp:PySem.W.plainOver K C=true) (ht:PySem.W.takerIn K C name=some none) (hh:PySem.W.hasDictIn K C=true)
  (hw:PySem.Within mA ns) (hsz:ns.length<=sizeLine)
  (h:∀h',Il h' x dx C (λy=>if y=name then some v else mA y)->Heap.SameBut dx s.heap h'->Q () { s with heap:=h',toks:=s.toks+2 }) :
  wpAny (model prog w) A (setAttr (.ref x) name v) Q E s:=by
 obtain ⟨od,J,hl⟩:=I.look;refine PySem.W.set_plain X J hs (PySem.W.osa_open (s:={ s with toks:=s.toks+1 }) (r:=none) X J hp ht λb=>?_);obtain ⟨cd,hc,hd'⟩:=PySem.W.any_some hh;have hx:s.heap.get? x=some ⟨.ref C,some dx,.plain,#[]⟩:=I.obj;refine wpAny_bind (wpAny_pure (wpAny_bind (wpAny_bind (wpAny_loadPart hx (wpAny_bind (PySem.W.Looks.here (s:={ s with toks:=s.toks+1 }) (PySem.W.looks_clsIn X hc) ?_))))));rw[hd'];refine wpAny_pure (a:=some dx) (wpAny_bind (wpAny_pure (wpAny_bind ?_)));refine wpAny_nsSet1 (s:={ s with toks:=s.toks+1 }) I.ns λh' hn2 hs2=>?_
 obtain ⟨oD,esD,epD,hoD,hdD,hcD⟩:=hn2.count (PySem.Within.cons name v hw);refine wpAny_bind (wpAny_lookBehind hoD (by rw[hdD];exact pastItsLine_dict (af hcD (by rw[bA];lia))) ?_);exact wpAny_pure (h _ ⟨(hs2.2 _ (Ne.symm I.ne)).trans I.obj,hn2,I.ne⟩ hs2)
theorem E3 (X:K.In s.heap) (hm:PySem.W.makesIn K C=true)
  (hi:PySem.W.findIn K (.ref C) "__init__"=some (some (.ref f))) (hf:PySem.W.typeIn K (.ref f)=some (.type "function"))
  (h:codeAny (model prog w) (A.under (.builtin "type.__call__" ⟨.ref C :: vs,kw⟩)) (.call (.ref f) ⟨.ref (s.heap.objs.size+1) :: vs,kw⟩) (PySem.W.InitBack (s.heap.objs.size+1) R)
   { s with heap:=(s.heap.push PySem.W.emptyDict).push (PySem.W.instObj C s.heap.objs.size) }) :
  codeAny (model prog w) A (.call (.ref C) ⟨vs,kw⟩) R s:=by
 obtain ⟨hh,g,d,t,os⟩:=s;exact PySem.W.make_core (PySem.W.makes_of X hm) (PySem.W.looks_findIn X hi) (λself=>PySem.W.bind_fn X self hf) (.inl rfl) h
end
def bP (f:Str) (v:V):List (Str×V)->List (Str×V)
 | []=>[(f,v)]
 | (g,x) :: r=>if g=f then (g,v) :: r else (g,x) :: bP f v r
theorem a8 (f g:Str) (v:V):∀fs:List (Str×V),(bP f v fs).lookup g=if g=f then some v else fs.lookup g
 | []=>by
  show List.lookup g [(f,v)]=_
  by_cases h:g=f
  ·have hb:(g == f)=true:=beq_iff_eq.mpr h;simp only[List.lookup,hb,if_pos h]
  ·have hb:(g == f)=false:=beq_eq_false_iff_ne.mpr h;simp only[List.lookup,hb,if_neg h]
 | (k,x) :: r=>by
  have ih:=a8 f g v r;rw[show bP f v ((k,x) :: r)=(if k=f then (k,v) :: r else (k,x) :: bP f v r) from rfl];by_cases hk:k=f
  ·rw[if_pos hk];by_cases h:g=k
   ·have hb:(g == k)=true:=beq_iff_eq.mpr h;simp only[List.lookup,hb,if_pos (h.trans hk)]
   ·have hb:(g == k)=false:=beq_eq_false_iff_ne.mpr h;simp only[List.lookup,hb,if_neg (λe:g=f=>h (e.trans hk.symm))]
  ·rw[if_neg hk];by_cases h:g=k
   ·have hb:(g == k)=true:=beq_iff_eq.mpr h;simp only[List.lookup,hb,if_neg (λe:g=f=>hk (h.symm.trans e))]
   ·have hb:(g == k)=false:=beq_eq_false_iff_ne.mpr h;simp only[List.lookup,hb];exact ih
theorem vW (f:Str) (v:V):∀fs:List (Str×V),f∈(bP f v fs).map (·.1)/\∀g,g∈fs.map (·.1)->g∈(bP f v fs).map (·.1)
 | []=>⟨by simp [bP],λg h=>by simp at h⟩
 | (k,x) :: r=>by
  obtain ⟨i1,i2⟩:=vW f v r;rw[show bP f v ((k,x) :: r)=(if k=f then (k,v) :: r else (k,x) :: bP f v r) from rfl];by_cases hk:k=f
  ·rw[if_pos hk];subst hk;exact ⟨by simp,λg h=>by simpa using h⟩
  ·rw[if_neg hk];refine ⟨?_,λg h=>?_⟩
   ·rw[iB];exact bG _ i1
   ·rw[iB] at h ⊢;rcases aw.mp h with e | e
    ·exact aw.mpr (.inl e)
    ·exact bG _ (i2 g e)
theorem wM (f:Str) (v:V):∀fs:List (Str×V),(bP f v fs).length<=fs.length+1
 | []=>by simp [bP]
 | (k,x) :: r=>by
  have ih:=wM f v r;rw[show bP f v ((k,x) :: r)=(if k=f then (k,v) :: r else (k,x) :: bP f v r) from rfl];by_cases hk:k=f
  ·rw[if_pos hk,bA,bA];lia
  ·rw[if_neg hk,bA,bA];lia
theorem xx.some_of (r:xx (some v) o):∃u,o=some u/\RelV v u:=by
 cases o with
 | none=>exact (show False from r).elim
 | some u=>exact ⟨u,rfl,r⟩
theorem xx.none_of (r:xx none o):o=none:=by
 cases o with
 | none=>rfl
 | some u=>exact (show False from r).elim
theorem Kd (r:RelV v u):PySem.W.handedIn u=true:=by
 cases v with
 | non=>cases (show u=Value.none from r);rfl
 | bl b=>cases (show u=Value.bool b from r);rfl
 | int i=>obtain ⟨t,e⟩:=(show ∃t,u=Value.int i t from r);cases e;rfl
 | str x=>obtain ⟨t,e⟩:=(show ∃t,u=Value.str x t from r);cases e;rfl
 | byt b=>obtain ⟨t,e⟩:=(show ∃t,u=Value.bytes b t from r);cases e;rfl
 | flt b=>obtain ⟨t,e⟩:=(show ∃t,u=Value.float b t from r);cases e;rfl
 | ref a=>cases (show u=Value.ref a from r);rfl
 | ty n=>cases (show u=Value.type n from r);rfl
section
variable {P:Program} {w:World} {H H':Hp} {h h':Heap} {a C dx:Addr} {fs fs':List (Str×V)}
theorem xP (hok:vm P w H h) (e:H a=some (.ins C dx fs)):∃mA,Il h a dx C mA/\(∀f,xx (fs.lookup f) (mA f))/\PySem.Within mA (fs.map (·.1))/\fs.length<=1000/\H dx=some (.own a):=by
 obtain ⟨d,z,ne,ob,mA,n,r,q⟩:=(show fu P w H h a (.ins C dx fs) from hok a _ e);exact ⟨mA,⟨ob,n,ne⟩,r,q,z,d⟩
end
structure Ip (K:FG9) (C:Addr):Prop where
 pg:PySem.W.plainGet K C Str.empty=true
 hd:PySem.W.hasDictIn K C=true
 po:PySem.W.plainOver K C=true
 sa:PySem.W.findIn K (.ref C) "__setattr__"=some (some (.builtin "object.__setattr__"))
theorem Ip.get {K:FG9} (c:Ip K C) (f:Str):PySem.W.plainGet K C f=true:=c.pg
def gP (K:FG9) (C:Addr) (f:Str):Prop:=PySem.W.findIn K (.ref C) f=some none
theorem gP.taker {K:FG9} (n:gP K C f):PySem.W.takerIn K C f=some none:=by
 unfold PySem.W.takerIn;rw[show PySem.W.findIn K (.ref C) f=some none from n];rfl
structure M8 (K:FG9) (C:Addr) (m:Str) (f:Addr):Prop where
 at_:PySem.W.findIn K (.ref C) m=some (some (.ref f))
 fn:PySem.W.isFn K (.ref f)=true
 kp:PySem.W.keepIn K (.ref f)=true
section
variable {X:Cx} {pins:List (Addr×Obj)} {σ:St} {H:Hp} {s:Shared} {a C dx:Addr} {fs:List (Str×V)} {f:Str} {v:V} {A:Around} {E:Value->Shared->Prop}
theorem Ht (I:Inv X pins σ H s) (e:H a=some (.ins C dx fs)) (c:Ip X.K C) (n:gP X.K C f) (l:fs.lookup f=some v)
  (h:∀u s',Inv X pins σ H s'->RelV v u->Q u s'):wpAny (model X.prog X.w) A (getAttr (.ref a) f b) Q E s:=by
 obtain ⟨mA,O,r,_,_,_⟩:=xP I.hok e;obtain ⟨u,hu,ru⟩:=xx.some_of (v:=v) (o:=mA f) (by rw[<- l];exact r f);exact get_map I.kIn O (c.get f) c.hd n hu (Kd ru) (h u _ (I.tok _) ru)
theorem zC (I:Inv X pins σ H s) (e:H a=some (.ins C dx fs)) (c:Ip X.K C) (k:M8 X.K C m g) (l:fs.lookup m=none)
  (h:Q (.ref g,[.ref a]) s):wpAny (model X.prog X.w) A (getMethod (.ref a) m pl) Q E s:=by
 obtain ⟨mA,O,r,_,_,_⟩:=xP I.hok e;have hn:mA m=none:=xx.none_of (by rw[<- l];exact r m);exact Mn I.kIn O (c.get m) k.at_ k.fn hn h
theorem GC (I:Inv X pins σ H s) (e:H a=some (.ins C dx fs)) (c:Ip X.K C) (n:gP X.K C f) (hl:fs.length < 1000) (ry:RelV y u)
  (h:∀s',Inv X pins σ (upd H a (.ins C dx (bP f y fs))) s'->Q () s'):wpAny (model X.prog X.w) A (setAttr (.ref a) f u) Q E s:=by
 obtain ⟨mA,O,r,wi,_,ho⟩:=xP I.hok e;have hz:(fs.map (·.1)).length<=sizeLine:=by rw[ag,sizeLine_eq];lia
 refine NA I.kIn O c.sa c.po n.taker c.hd wi hz λh' O' sb=>h _ ?_
 have hd:∃o,h'.get? dx=some o:=let ⟨o,_,_,e',_⟩:=O'.ns;⟨o,e'⟩
 refine I.write (x:=a) (e:=dx) (by rw[e];exact True.intro) (.inr ho) (λb q hb z=>(sb.2 b hb).trans z) hd ?_;refine ⟨by rw[aJ O.ne];exact ho,?_,O.ne,O'.obj,_,O'.ns,λg=>?_,λg hg=>?_⟩
 ·have:=wM f y fs;lia
 ·show xx ((bP f y fs).lookup g) (if g=f then some u else mA g)
  rw[a8];by_cases q:g=f
  ·rw[if_pos q,if_pos q];exact ry
  ·rw[if_neg q,if_neg q];exact r g
 ·by_cases q:g=f
  ·rw[q];exact (vW f y fs).1
  ·refine (vW f y fs).2 g (wi g λz=>hg ?_);show (if g=f then some u else mA g)=none
   rw[if_neg q];exact z
theorem Inv.made (I:Inv X pins σ H s):Inv X pins σ (upd (upd H s.heap.objs.size (.own (s.heap.objs.size+1))) (s.heap.objs.size+1) (.ins C s.heap.objs.size []))
  { s with heap:=(s.heap.push PySem.W.emptyDict).push (PySem.W.instObj C s.heap.objs.size) }:=by
 have e1:(s.heap.push PySem.W.emptyDict).get? s.heap.objs.size=some PySem.W.emptyDict:=Heap.get?_push_size s.heap rfl
 have e2:((s.heap.push PySem.W.emptyDict).push (PySem.W.instObj C s.heap.objs.size)).get? (s.heap.objs.size+1)=some (PySem.W.instObj C s.heap.objs.size):=by
  have:=Heap.get?_push_size (s.heap.push PySem.W.emptyDict) (o:=PySem.W.instObj C s.heap.objs.size) rfl;rwa [Heap.size_push] at this
 have e3:(s.heap.push PySem.W.emptyDict).Ns s.heap.objs.size (λ_=>none):=⟨PySem.W.emptyDict,#[],_,e1,rfl,(λe he=>absurd he (by simp)),λ_=>rfl⟩;have I1:=I.laid (a:=s.heap.objs.size) (o:=.own (s.heap.objs.size+1)) (h':=s.heap.push PySem.W.emptyDict) (t':=s.toks) (λb u q=>Heap.get?_push_of_some _ q) (ah _) ⟨_,e1⟩;refine I1.laid (a:=s.heap.objs.size+1) (o:=.ins C s.heap.objs.size []) (t':=s.toks) (λb u q=>Heap.get?_push_of_some _ q) (JA (Heap.size_push _ _)) ?_;have ne:s.heap.objs.size≠s.heap.objs.size+1:=bw (eU _);refine ⟨by rw[aJ ne,az],aS _,ne,e2,λ_=>none,(Heap.Ns1.of_empty e3).at λo q=>Heap.get?_push_of_some _ q,λ_=>True.intro,λy hy=>absurd rfl hy⟩
theorem Jp (hb:attributeBase e f env (eval e env)=eval e env)
  (h:wpAny (model prog w) A (eval e env) (λo s₁=>wpAny (model prog w) A (getAttr o f true) Q E s₁) E s):wpAny (model prog w) A (eval (.Attribute e f pos) env) Q E s :=
 Attribute_any_ h (by rw[arm_eval_Attribute,hb])
end
def Qf (K:FG9) (ta:TE) (f:Str):TE:=λσ H Q=>ta σ H λx H1=>∃a C dx fs v,x=.ref a/\H1 a=some (.ins C dx fs)/\Ip K C/\gP K C f/\fs.lookup f=some v/\Q v H1
def Su (K:FG9) (ta tv:TE) (f:Str):TS:=λD σ H=>tv σ H λy H1=>ta σ H1 λx H2=>∃a C dx fs,x=.ref a/\H2 a=some (.ins C dx fs)/\Ip K C/\gP K C f/\fs.length < 1000 /\
 D.nx σ (upd H2 a (.ins C dx (bP f y fs)))
section
variable {X:Cx} {o e value:Expr} {f:Str} {pos pos' tpos:Pos} {ta tv:TE}
theorem ck (he:PE X e ta) (hb:attributeBase e f X.env (eval e X.env)=eval e X.env):PE X (.Attribute e f pos) (Qf X.K ta f):=by
 intro pins s σ H Q I h;refine Jp hb (fP (he pins s σ H _ I h) λu s1 ⟨x,H1,I1,rx,a,C,dx,fs,v,ex,ea,c,n,l,q⟩=>?_);subst ex;obtain rfl:u=Value.ref a:=rx;exact Ht I1 ea c n l λu' s2 I2 ru=>⟨v,H1,I2,ru,q⟩
theorem m7 (ha:PE X o ta) (hv:PE X value tv) (hs:swapsWith value (some (.Attribute o f pos')) pos.line X.env=pure false):PS X (.Assign [.Attribute o f pos'] value pos) (Su X.K ta tv f):=by
 intro pins s σ H D I h;refine plainObj_wpAny_Assign_Attribute (fP (hv pins s σ H _ I h) λu s1 ⟨y,H1,I1,ry,q⟩=>fP (ha pins s1 σ H1 _ I1 q) λov s2 ⟨x,H2,I2,rx,a,C,dx,fs,ex,ea,c,n,l,q2⟩=>?_) hs;subst ex;obtain rfl:ov=Value.ref a:=rx;exact GC I2 ea c n l ry λs3 I3=>⟨σ,_,I3,q2⟩
end
section
variable {X:Cx} {pins:List (Addr×Obj)} {σ:St} {H:Hp} {s:Shared} {A:Around} {E:Value->Shared->Prop} {Q:Value->Shared->Prop} {c:Value} {b:Bool}
inductive wb (K:FG9) (H:Hp):V->Value->Prop where
 | non:wb K H .non (.type "NoneType")
 | bl (x:Bool):wb K H (.bl x) (.type "bool")
 | int (i:Int):wb K H (.int i) (.type "int")
 | str (x:Str):wb K H (.str x) (.type "str")
 | flt (x:UInt64):wb K H (.flt x) (.type "float")
 | lst {a:Addr} {xs:List V} (e:H a=some (.lst xs)):wb K H (.ref a) (.type "list")
 | frz {a:Addr} {o:Obj} {xs:List V} (e:H a=some (.frz o (.lst xs))):wb K H (.ref a) (.type "list")
 | tup {a:Addr} {xs:List V} (e:H a=some (.tup xs)):wb K H (.ref a) (.type "tuple")
 | dK {a:Addr} {kvs:List (Key×V)} (e:H a=some (.dK kvs)):wb K H (.ref a) (.type "dict")
 | dT {a:Addr} {kvs:List (List Key×V)} (e:H a=some (.dT kvs)):wb K H (.ref a) (.type "dict")
 | ins {a C dx:Addr} {fs:List (Str×V)} (e:H a=some (.ins C dx fs)) (cl:Ip K C) (ha:PySem.W.findIn K (.ref C) "__class__"=some (some (.builtin "object.__class__")))
   (hn:PySem.W.specialIn K (.builtin "object.__class__") "__get__"=some (some (.builtin "getset_descriptor.__get__"))) (htk:PySem.W.takesIn K (.builtin "object.__class__")=some true)
   (hm:PySem.W.mroIn K C (.type "object")=some true):wb K H (.ref a) (.ref C)
theorem BG (I:Inv X pins σ H s) (rx:RelV x u) (ty:wb X.K H x t) (e:PySem.W.kitOne X.K t c=some b) (h:∀tk,Q (.bool b) { s with toks:=tk }) :
  wpAny (model X.prog X.w) A (call (.builtin "isinstance") [u,c]) Q E s:=by
 cases ty with
 | non=>cases (show u=Value.none from rx);exact dk PySem.W.kitx_none I.kIn True.intro e (λz=>nomatch z) h
 | bl y=>cases (show u=Value.bool y from rx);exact dk PySem.W.kitx_bool I.kIn True.intro e (λz=>nomatch z) h
 | int i=>obtain ⟨t,q⟩:=(show ∃t,u=Value.int i t from rx);cases q;exact dk PySem.W.kitx_int I.kIn True.intro e (λz=>nomatch z) h
 | str y=>obtain ⟨t,q⟩:=(show ∃t,u=Value.str y t from rx);cases q;exact dk PySem.W.kitx_str I.kIn True.intro e (λz=>nomatch z) h
 | flt y=>obtain ⟨t,q⟩:=(show ∃t,u=Value.float y t from rx);cases q;exact dk PySem.W.kitx_float I.kIn True.intro e (λz=>nomatch z) h
 | @lst a xs ea =>
  cases (show u=Value.ref a from rx);obtain ⟨_,_,n,_,h1⟩:=(show fu X.prog X.w H s.heap a (.lst xs) from I.hok a _ ea);exact dk PySem.W.kitx_list I.kIn ⟨_,h1,rfl⟩ e (λz=>nomatch z) h
 | @frz a ob xs ea =>
  cases (show u=Value.ref a from rx);obtain ⟨_,_,_,n,_,h1⟩:=(show fu X.prog X.w H s.heap a (.frz ob (.lst xs)) from I.hok a _ ea);exact dk PySem.W.kitx_list I.kIn ⟨_,h1,rfl⟩ e (λz=>nomatch z) h
 | @tup a xs ea =>
  cases (show u=Value.ref a from rx);obtain ⟨_,_,_,p⟩:=(show fu X.prog X.w H s.heap a (.tup xs) from I.hok a _ ea);obtain ⟨o,h1,h2,_⟩:=p;exact dk PySem.W.kitx_tuple I.kIn ⟨o,h1,h2⟩ e (λz=>nomatch z) h
 | @dK a kvs ea =>
  cases (show u=Value.ref a from rx);obtain ⟨_,_,vs,_,p⟩:=(show fu X.prog X.w H s.heap a (.dK kvs) from I.hok a _ ea);obtain ⟨o,es,ep,h1,h2,_⟩:=p;exact dk PySem.W.kitx_dict I.kIn ⟨o,h1,h2.1⟩ e (λz=>nomatch z) h
 | @dT a kvs ea =>
  cases (show u=Value.ref a from rx);obtain ⟨_,_,xs,_,o,es,ep,h1,h2,_⟩:=(show fu X.prog X.w H s.heap a (.dT kvs) from I.hok a _ ea);exact dk PySem.W.kitx_dict I.kIn ⟨o,h1,h2.1⟩ e (λz=>nomatch z) h
 | @ins a C dx fs ea cl ha hn htk hm =>
  cases (show u=Value.ref a from rx);obtain ⟨mA,O,_⟩:=xP I.hok ea;obtain ⟨od,J,_⟩:=O.look;exact dk (PySem.W.kitx_own (cl.get _) cl.hd ha hn htk hm) I.kIn J e (λz=>nomatch z) h
end
structure jv (k:Nat) (A:Around):Prop where
 hd:A.handled=none
 dp:A.depth+3*k+5 < recursionLimit
 un:A.units+16*k+200 < cLine
theorem jv.mono (r:jv k A) (h:j<=k):jv j A:=⟨r.hd,by have:=r.dp;lia,by have:=r.un;lia⟩
theorem jv.deeper (r:jv (k+1) A) (env:Env):jv k (A.deeper env) :=
 ⟨r.hd,by have:=r.dp;show A.depth+1+3*k+5 < _;lia,by have:=r.un;show A.units+3+16*k+200 < _;lia⟩
theorem Ho {A:Around}:(A.under (.builtin "type.__call__" ⟨.ref C :: us,kw⟩)).depth=A.depth+1:=by
 first | rfl | simp [Around.under,Code.weight,Code.isCreation,Code.isGuard,Code.isCaller,Code.frames,Code.isFrame,guardIds]
theorem GZ {A:Around}:(A.under (.builtin "type.__call__" ⟨.ref C :: us,kw⟩)).units=A.units+1:=by
 first | rfl | simp [Around.under,Code.cUnits,Code.frames,Code.isFrame]
theorem jv.make (r:jv (k+1) A) (C:Addr) (us:List Value) (kw:List (Str×Value)):jv k (A.under (.builtin "type.__call__" ⟨.ref C :: us,kw⟩)) :=
 ⟨r.hd,by have:=r.dp;rw[Ho];lia,by have:=r.un;rw[GZ];lia⟩
theorem jv.depth (r:jv k A):A.depth < recursionLimit:=by have:=r.dp;lia
theorem jv.units (r:jv k A):A.units+64 < cLine:=by have:=r.un;lia
def yd:TA:=λ_ H Q=>Q [] H
def iZ (ta:TE) (tr:TA):TA:=λσ H Q=>ta σ H λx H1=>tr σ H1 λxs H2=>Q (x :: xs) H2
section
variable {X:Cx} {e:Expr} {es:List Expr} {te:TE} {t:TA} {pos:Pos}
theorem kz:PA X [] yd:=λ_ _ _ _ H Q I h=>Calls.spliced_nil ⟨[],H,I,.nil,h⟩
theorem fF (ha:PE X e te) (hr:PA X es t) (hs:starEach (e :: es) X.env=(false,eval e X.env) :: starEach es X.env:=by rfl):PA X (e :: es) (iZ te t):=by
 intro pos pins s σ H Q I h;rw[hs];show wpAny _ _ (spliced ((false,eval e X.env) :: backTo pos (starEach es X.env))) _ _ s
 refine Calls.spliced_cons (fP (ha pins s σ H _ I h) λu s1 ⟨x,H1,I1,r1,q1⟩=>?_);exact fP (hr pos pins s1 σ H1 _ I1 q1) λus s2 ⟨xs,H2,I2,r2,q2⟩=>⟨x :: xs,H2,I2,.cons r1 r2,q2⟩
def Sb (t:TA):TE:=λσ H Q=>t σ H λxs H1=>xs.length<=sizeLine/\∀p,H1 p=none->Q (.ref p) (upd H1 p (.tup xs))
def Sk (t:TA):TE:=λσ H Q=>t σ H λxs H1=>xs.length<=sizeLine/\∀p,H1 p=none->Q (.ref p) (upd H1 p (.lst xs))
theorem dW (h:PA X es t):PE X (.Tuple es x1 pos) (Sb t):=by
 intro pins s σ H Q I hq;refine wpAny_Tuple_spliced (fP (h pos pins s σ H _ I hq) λus s1 ⟨xs,H1,I1,r,z,q⟩=>⟨by rw[<- r.length];exact z,?_⟩);have hf:H1 s1.heap.objs.size=none:=I1.hok.fresh (ah _);refine ⟨.ref s1.heap.objs.size,upd H1 s1.heap.objs.size (.tup xs),I1.laid (t':=s1.toks) (λb u e=>Heap.get?_push_of_some _ e) (ah _) ?_,rfl,q _ hf⟩;exact ⟨z,us,r,⟨_,Heap.get?_push_size _ rfl,rfl,_,rfl⟩⟩
theorem ib (h:PA X es t):PE X (.List es pos) (Sk t):=by
 intro pins s σ H Q I hq;refine wpAny_List_spliced (fP (h pos pins s σ H _ I hq) λus s1 ⟨xs,H1,I1,r,z,q⟩=>⟨by rw[<- r.length];exact z,?_⟩);have hf:H1 s1.heap.objs.size=none:=I1.hok.fresh (ah _);refine ⟨.ref s1.heap.objs.size,upd H1 s1.heap.objs.size (.lst xs),I1.laid (t':=s1.toks) (λb u e=>Heap.get?_push_of_some _ e) (ah _) ?_,rfl,q _ hf⟩;exact ⟨z,us,0,r,Heap.get?_push_size _ rfl⟩
end
abbrev Sp:=List V->Hp->VK->XK->Prop
abbrev Jx:=List Env->Hp->Shared->XK->Value->Shared->Prop
structure Io (P:Program) (w:World) (K:FG9) (mg:Str->Option Value) (base:Heap) (A:Around) (outer:List Env) (s:Shared) (H:Hp):Prop where
 frames:A.frames=some outer
 mod:Mod K mg base
 bs:∀b o,base.get? b=some o->s.heap.get? b=some o/\H b=none
 bsz:base.objs.size<=s.heap.objs.size
 funs:s.heap.FunFrames base outer
 frf:∀b∈uw outer,H b=none
 hok:vm P w H s.heap
 bare:AllBare s.gens
def CE (outer:List Env) (P:Program) (w:World) (H:Hp) (s:Shared) (Q:VK) (u:Value) (s':Shared):Prop :=
 ∃v H',s'.os=s.os/\AllBare s'.gens/\Un (uw outer) [] H H' s.heap s'.heap/\vm P w H' s'.heap/\RelV v u/\Q v H'
def CR (CX:Jx) (outer:List Env) (P:Program) (w:World) (H:Hp) (s:Shared) (Q:VK) (E:XK) (r:Result) (s':Shared):Prop :=
 match r with
 | .ok (.ret u)=>CE outer P w H s Q u s'
 | .ok _=>False
 | .error e=>CX outer H s E e s'
structure j9 (P:Program) (w:World) (K:FG9) (mg:Str->Option Value) (base:Heap) (CX:Jx) (k:Nat) (f:Addr) (fd:FuncData) (ps:List Str) (sp:Sp):Prop where
 len:∀vs H Q E,sp vs H Q E->vs.length=ps.length
 run:∀(A:Around) (outer:List Env) (s:Shared) (H:Hp) (args:Args) (us:List Value) (vs:List V) (Q:VK) (E:XK),jv k A->Io P w K mg base A outer s H->BindsTo s fd args (ps.zip us)->cJ vs us->sp vs H Q E →
  codeAny (model P w) A (.call (.ref f) args) (CR CX outer P w H s Q E) s
theorem Io.make {K:FG9} (e:Io P w K mg base A outer s H) (C:Addr) (us:List Value) (kw:List (Str×Value)) :
  Io P w K mg base (A.under (.builtin "type.__call__" ⟨.ref C :: us,kw⟩)) outer s H:=⟨by first | exact e.frames | (simpa [Around.under,Code.envs,Code.isFrame,pushEnvs] using e.frames),e.mod,e.bs,e.bsz,e.funs,e.frf,e.hok,e.bare⟩
section
variable {X:Cx} {pins:List (Addr×Obj)} {σ:St} {H:Hp} {s s':Shared}
theorem Inv.env0 (I:Inv X pins σ H s):Io X.prog X.w X.K X.mg X.base X.A X.stack s H :=
 ⟨I.ok.frames,I.ok.mod,I.bs,af I.ok.bsz I.sz,I.stack,I.stkFree,I.hok,I.bare⟩
theorem Inv.after (I:Inv X pins σ H s) (h:CE X.stack X.prog X.w H s Q u s'):EP X pins σ Q u s':=by
 obtain ⟨v,H',os,bare,un,hok,r,q⟩:=h;obtain ⟨hh,g,d,t,os'⟩:=s';obtain rfl:os'=s.os:=os;exact ⟨v,H',I.call (h':=hh) (g':=g) (d':=d) (t':=t) (ch:=[]) un hok bare (λb z=>absurd z (by simp)),r,q⟩
end
def Lb (sp:Sp) (dvs:List V) (E:XK) (t:TA):TE:=λσ H Q=>t σ H λvs H1=>sp (vs++dvs) H1 Q E
def K9 (C:Addr) (m:Str) (sp:Sp) (dvs:List V) (E:XK) (ta:TE) (t:TA):TE:=λσ H Q=>ta σ H λx H1=>∃a dx fs,x=.ref a/\H1 a=some (.ins C dx fs)/\fs.lookup m=none /\
 t σ H1 λvs H2=>sp (x :: (vs++dvs)) H2 Q E
def Pd (C:Addr) (sp:Sp) (dvs:List V) (E:XK) (t:TA):TE:=λσ H Q=>t σ H λvs H1=>∀x dx,H1 x=none->H1 dx=none->dx≠x →
 sp (.ref x :: (vs++dvs)) (upd (upd H1 dx (.own x)) x (.ins C dx [])) (λv H2=>v=.non/\Q (.ref x) H2) E
def Binds (K:FG9) (fd:FuncData) (ps:List Str) (ds:List Value):Prop :=
 ∀(s:Shared) (us:List Value),K.In s.heap->(us++ds).length=ps.length->BindsTo s fd ⟨us,[]⟩ (ps.zip (us++ds))
theorem Binds.all {K:FG9} (h:∀us:List Value,us.length=ps.length->bindArgs fd ⟨us,[]⟩=pure (ps.zip us)):Binds K fd ps []:=λs us _ hl=>by
 rw[eL] at hl ⊢;exact .of_eq (h us hl)
def sQ (CX:Jx) (X:Cx) (E:XK):Prop:=∀(pins:List (Addr×Obj)) (σ:St) (H:Hp) (s:Shared) (e:Value) (s':Shared),Inv X pins σ H s->CX X.stack H s E e s'->X.xe e s'
section
variable {X:Cx} {CX:Jx} {k:Nat} {f C:Addr} {fd:FuncData} {ps:List Str} {sp:Sp} {dvs:List V} {ds:List Value} {E:XK} {x m:Str} {p pos apos:Pos} {e o:Expr} {es:List Expr} {ta:TE} {t:TA}
theorem GJ {σ:St} (F:j9 X.prog X.w X.K X.mg X.base CX k f fd ps sp) (hr:jv k X.A) (hb:Binds X.K fd ps ds) (hd:cJ dvs ds) (hx:sQ CX X E)
  (I:Inv X pins σ H s) (r:cJ vs us) (h:sp (vs++dvs) H Q E):wpAny (model X.prog X.w) X.A (call (.ref f) us) (EP X pins σ Q) X.xe s:=by
 have r2:cJ (vs++dvs) (us++ds):=r.append hd;have hl:(us++ds).length=ps.length:=by rw[<- r2.length];exact F.len _ _ _ _ h
 refine wpAny_call (codeAny_mono (F.run X.A X.stack s H ⟨us,[]⟩ (us++ds) (vs++dvs) Q E hr I.env0 (hb s us I.kIn hl) r2 h) λr s' hq=>?_);cases r with
 | error e=>exact hx pins σ H s e s' I hq
 | ok fl =>
  cases fl with
  | ret u=>exact I.after hq
  | next=>exact False.elim hq
  | brk=>exact False.elim hq
  | cont=>exact False.elim hq
theorem xJ (F:j9 X.prog X.w X.K X.mg X.base CX k f fd ps sp) (hr:jv k X.A) (hg:Gl X x) (hm:X.mg x=some (.ref f)) (hk:PySem.W.keepIn X.K (.ref f)=true) (hb:Binds X.K fd ps ds) (hd:cJ dvs ds) (hx:sQ CX X E)
  (ha:PA X (e :: es) t) (hdb:(x == ("__debug__":Str))=false:=by decide) (he:starEach (e :: es) X.env=(false,eval e X.env) :: starEach es X.env:=by rfl) (hpl:(backTo pos (starEach es X.env)).any (·.1)=false:=by rfl) :
  PE X (.Call (.Name x p) (e :: es) [] pos) (Lb sp dvs E t):=by
 intro pins s σ H Q I h;refine wpAny_Call_Name_kw (qG I hg hm ?_ hdb);refine mT (h₀:=X.base) I.ok.mod.kin hk (fP (ha pos pins s σ H _ I h) λus s1 ⟨vs,H1,I1,r,q⟩=>⟨I1.kIn,?_⟩) he hpl;exact GJ F hr hb hd hx I1 r q
theorem Ob {pl : Sem Bool} (he : PE X o ta) (c : Ip X.K C) (hm : M8 X.K C m f) (F : j9 X.prog X.w X.K X.mg X.base CX k f fd ps sp) (hr : jv k X.A) (hb : Binds X.K fd ps ds) (hd : cJ dvs ds) (hx : sQ CX X E) (ha : PA X (e :: es) t)
    (hst : starEach (e :: es) X.env = (false, eval e X.env) :: starEach es X.env := by rfl) (hpl : (backTo pos (starEach es X.env)).any (·.1) = false := by rfl)
    (ht : eval (.Call (.Attribute o m apos) (e :: es) [] pos) X.env = (do
      let ov <- eval o X.env
      standAt apos.atName
      let (f, first) <- holding [ov] (getMethod ov m pl)
      callWith pos f first (backTo pos (starEach (e :: es) X.env)) (backToKw pos (keywordEach [] X.env))) := by rfl) :
    PE X (.Call (.Attribute o m apos) (e :: es) [] pos) (K9 C m sp dvs E ta t) := by
  intro pins s σ H Q I h;refine PySem.W.methodCall_KW (pl := pl) (fP (he pins s σ H _ I h) λu s1 ⟨x, H1, I1, rx, a, dx, fs, ex, ea, l, q⟩ => ?_) ht;subst ex;obtain rfl : u = Value.ref a := rx;refine zC I1 ea c hm l ?_;refine mT (first := [.ref a]) (h₀ := X.base) I.ok.mod.kin hm.kp (fP (ha pos pins s1 σ H1 _ I1 q) λus s2 ⟨vs, H2, I2, r, q2⟩ => ⟨I2.kIn, ?_⟩) hst hpl;exact GJ (us := .ref a :: us) (vs := .ref a :: vs) F hr hb hd hx I2 (.cons rfl r) q2
theorem EM {pl : Sem Bool} (he : PE X o ta) (c : Ip X.K C) (hm : M8 X.K C m f) (F : j9 X.prog X.w X.K X.mg X.base CX k f fd ps sp) (hr : jv k X.A) (hb : Binds X.K fd ps ds) (hd : cJ dvs ds) (hx : sQ CX X E)
    (ht : eval (.Call (.Attribute o m apos) [] [] pos) X.env = (do
      let ov <- eval o X.env
      standAt apos.atName
      let (f, first) <- holding [ov] (getMethod ov m pl)
      callWith pos f first (backTo pos (starEach [] X.env)) (backToKw pos (keywordEach [] X.env))) := by rfl) :
    PE X (.Call (.Attribute o m apos) [] [] pos) (K9 C m sp dvs E ta yd) := by
  intro pins s σ H Q I h;refine PySem.W.methodCall_KW (pl := pl) (fP (he pins s σ H _ I h) λu s1 ⟨x, H1, I1, rx, a, dx, fs, ex, ea, l, q⟩ => ?_) ht;subst ex;obtain rfl : u = Value.ref a := rx;refine zC I1 ea c hm l ?_;exact PySem.W.callWith_K0 (first := [.ref a]) I1.kIn hm.kp (GJ (us := [.ref a]) (vs := [.ref a]) F hr hb hd hx I1 (.cons rfl .nil) q)

structure Mk (K:FG9) (C f:Addr):Prop where
 makes:PySem.W.makesIn K C=true
 init:PySem.W.findIn K (.ref C) "__init__"=some (some (.ref f))
 fn:PySem.W.isFn K (.ref f)=true
 kp:PySem.W.keepIn K (.ref C)=true
theorem Lr {σ:St} (M:Mk X.K C f) (F:j9 X.prog X.w X.K X.mg X.base CX k f fd ps sp) (hr:jv (k+1) X.A) (hb:Binds X.K fd ps ds) (hd:cJ dvs ds)
  (hx:sQ CX X E) (I:Inv X pins σ H s) (r:cJ vs us)
  (h:∀x dx,H x=none->H dx=none->dx≠x->sp (.ref x :: (vs++dvs)) (upd (upd H dx (.own x)) x (.ins C dx [])) (λv H2=>v=.non/\Q (.ref x) H2) E) :
  wpAny (model X.prog X.w) X.A (call (.ref C) us) (EP X pins σ Q) X.xe s:=by
 have hq:=h (s.heap.objs.size+1) s.heap.objs.size (I.hok.fresh (vg _)) (I.hok.fresh (ah _)) (bw (eU _));have I2:=Inv.made (C:=C) I;have r2:cJ (V.ref (s.heap.objs.size+1) :: (vs++dvs)) (Value.ref (s.heap.objs.size+1) :: (us++ds)):=.cons rfl (r.append hd)
 have hl:(Value.ref (s.heap.objs.size+1) :: us++ds).length=ps.length:=by
  have e:=r2.length;rw[F.len _ _ _ _ hq] at e;exact e.symm
 refine wpAny_call (E3 (f:=f) I.kIn M.makes M.init (beq_iff_eq.mp M.fn) (codeAny_mono (F.run _ X.stack _ _ ⟨Value.ref (s.heap.objs.size+1) :: us,[]⟩ (Value.ref (s.heap.objs.size+1) :: (us++ds)) _ _ E (hr.make C us [])
  (I2.env0.make C us []) (hb _ (Value.ref (s.heap.objs.size+1) :: us) I2.kIn hl) r2 hq) λr s' hq'=>?_))
 cases r with
 | error e=>exact hx pins σ _ _ e s' I2 hq'
 | ok fl =>
  cases fl with
  | ret u =>
   obtain ⟨v,H',I3,rv,ev,q3⟩:=I2.after hq';subst ev;exact ⟨rv,⟨V.ref (s.heap.objs.size+1),H',I3,rfl,q3⟩⟩
  | next=>exact False.elim hq'
  | brk=>exact False.elim hq'
  | cont=>exact False.elim hq'
theorem xH (M:Mk X.K C f) (F:j9 X.prog X.w X.K X.mg X.base CX k f fd ps sp) (hr:jv (k+1) X.A) (hg:Gl X x) (hm:X.mg x=some (.ref C)) (hb:Binds X.K fd ps ds) (hd:cJ dvs ds) (hx:sQ CX X E)
  (ha:PA X (e :: es) t) (hdb:(x == ("__debug__":Str))=false:=by decide) (he:starEach (e :: es) X.env=(false,eval e X.env) :: starEach es X.env:=by rfl) (hpl:(backTo pos (starEach es X.env)).any (·.1)=false:=by rfl) :
  PE X (.Call (.Name x p) (e :: es) [] pos) (Pd C sp dvs E t):=by
 intro pins s σ H Q I h;refine wpAny_Call_Name_kw (qG I hg hm ?_ hdb);refine mT (h₀:=X.base) I.ok.mod.kin M.kp (fP (ha pos pins s σ H _ I h) λus s1 ⟨vs,H1,I1,r,q⟩=>⟨I1.kIn,?_⟩) he hpl;exact Lr M F hr hb hd hx I1 r q
end
structure qQ (N P:List Str) (sc:Scope):Prop where
 kind:sc.kind=.function
 co:sc.isCoroutine=false
 gen:sc.isGenerator=false
 nd:N.Nodup
 pre:N.take P.length=P
 par:∀x∈P,sc.names.lookup x=some .local\/sc.names.lookup x=some .cell
 nofree:∀y∈sc.names,y.2≠.free
theorem BU {kindOf:Str->Option NameKind} {x:Str}:∀{binds:List (Str×Value)} {m:Str->Option Value},(∀v,(x,v)∉binds)->bindL kindOf binds m x=m x
 | [],_,_=>rfl
 | (n,v) :: r,m,h=>by
  unfold bindL;rw[BU λw hw=>h w (bG _ hw)]
  split
  ·have:x≠n:=by rintro rfl;exact h v cK
   simp [this]
  ·rfl
theorem BW {kindOf:Str->Option NameKind} {x:Str}:∀{binds:List (Str×Value)} {m:Str->Option Value},(∀v,(x,v)∉binds)->bindC kindOf binds m x=m x
 | [],_,_=>rfl
 | (n,v) :: r,m,h=>by
  unfold bindC;rw[BW λw hw=>h w (bG _ hw)]
  split
  ·rfl
  ·have:x≠n:=by rintro rfl;exact h v cK
   simp [this]
theorem BV {kindOf:Str->Option NameKind} {x:Str} {v:Value}:∀{P:List Str} {vs:List Value} {i:Nat} {m:Str->Option Value},P.Nodup->P[i]?=some x->vs[i]?=some v->kindOf x=some .local →
  bindL kindOf (P.zip vs) m x=some v
 | [],_,_,_,_,h,_,_=>by simp at h
 | _ :: _,[],_,_,_,_,h,_=>by simp at h
 | p :: P,w :: vs,0,m,nd,h1,h2,hk=>by
  simp at h1 h2;subst h1;subst h2;show bindL kindOf ((p,w) :: P.zip vs) m p=_
  unfold bindL;rw[BU λv hv=>(cO.mp nd).1 (Nj hv).1,if_pos hk];simp
 | p :: P,w :: vs,i+1,m,nd,h1,h2,hk=>by
  show bindL kindOf ((p,w) :: P.zip vs) m x=_
  unfold bindL;exact BV (i:=i) (cO.mp nd).2 (by simpa using h1) (by simpa using h2) hk
theorem BX {kindOf:Str->Option NameKind} {x:Str} {v:Value}:∀{P:List Str} {vs:List Value} {i:Nat} {m:Str->Option Value},P.Nodup->P[i]?=some x->vs[i]?=some v->kindOf x≠some .local →
  bindC kindOf (P.zip vs) m x=some v
 | [],_,_,_,_,h,_,_=>by simp at h
 | _ :: _,[],_,_,_,_,h,_=>by simp at h
 | p :: P,w :: vs,0,m,nd,h1,h2,hk=>by
  simp at h1 h2;subst h1;subst h2;show bindC kindOf ((p,w) :: P.zip vs) m p=_
  unfold bindC;rw[BW λv hv=>(cO.mp nd).1 (Nj hv).1,if_neg hk];simp
 | p :: P,w :: vs,i+1,m,nd,h1,h2,hk=>by
  show bindC kindOf ((p,w) :: P.zip vs) m x=_
  unfold bindC;exact BX (i:=i) (cO.mp nd).2 (by simpa using h1) (by simpa using h2) hk
def start (N:List Str) (vs:List V):St:=vs.map some++List.replicate (N.length - vs.length) none
def Qk:List Str->List V->St
 | [],_=>[]
 | _ :: N,[]=>none :: Qk N []
 | _ :: N,v :: vs=>some v :: Qk N vs
theorem Cf:∀{N:List Str} {vs:List V},vs.length<=N.length->start N vs=Qk N vs
 | [],[],_=>rfl
 | [],_ :: _,h=>absurd h (Nat.not_succ_le_zero _)
 | _ :: N,[],_=>congrArg (none :: ·) (Cf (N:=N) (vs:=[]) (aS _))
 | _ :: N,v :: vs,h=>by
  show some v :: (vs.map some++List.replicate (N.length+1 - (vs.length+1)) none)=some v :: Qk N vs
  rw[Nat.add_sub_add_right,<- Cf (Nat.le_of_succ_le_succ h)];rfl
def zL (CX:Jx) (P:Program) (w:World) (K:FG9) (mg:Str->Option Value) (base:Heap) (N:List Str) (qual:Str) (scope:Scope) (f:Addr) (cd:Value) (A:Around) (outer:List Env) (s:Shared) (H:Hp) (E:XK):Cx where
 prog:=P
 w:=w
 K:=K
 mg:=mg
 base:=base
 A:=A.deeper (envOfC qual scope s.heap.objs.size f cd)
 N:=N
 s₀:=s
 H₀:=H
 env:=envOfC qual scope s.heap.objs.size f cd
 outer:=outer
 stack:=envOfC qual scope s.heap.objs.size f cd :: outer
 ex:=[]
 calm:=true
 fn:=λ_=>true
 pn:=[]
 xe:=λe s'=>wpAny (model P w) (A.deeper (envOfC qual scope s.heap.objs.size f cd)) (leaving (envOfC qual scope s.heap.objs.size f cd) e) (λ_ s''=>CX outer H s E e s'') (λe' s''=>CX outer H s E e' s'') s'
theorem Fz {sc:Scope} (h:sc.names.lookup x=some .cell):∃c,(cellsFrom n sc.names []).lookup x=some c:=by
 have q:=xU sc.names n [] (.inl h);exact vn.mp q
theorem Ka {K:FG9} 
  (S:qQ N ps scope) (hd:A.handled=none) (e0:Io P w K mg base A outer s H) (hl:vs.length=ps.length) (r:cJ vs us)
  (x:InCallC s s.heap.objs.size (bindL (envOfC qual scope s.heap.objs.size f cd).kindOf (ps.zip us) λ_=>none) (cellsFrom (s.heap.objs.size+1) scope.names []) (bindC (envOfC qual scope s.heap.objs.size f cd).kindOf (ps.zip us) λ_=>none) s1) :
  Inv (zL CX P w K mg base N qual scope f cd A outer s H E) [] (start N vs) H s1:=by
 have hpl:ps.length<=N.length:=by have:=congrArg List.length S.pre;rw[bh] at this;lia
 obtain ⟨h1,tk,rfl,hk⟩:=x.done;have noA:∀b:Addr,b∉(zL CX P w K mg base N qual scope f cd A outer s H E).ex:=λb z=>absurd (show b∈([]:List Addr) from z) (by simp)
 refine ⟨⟨e0.mod,S.kind,rfl,rfl,ah _,λy z c h1 h2=>?_,λy hy=>?_,λy c _ h=>?_,λ_=>hd,Around.frames_deeper e0.frames,.inr ⟨rfl,rfl⟩,λb z=>absurd z (noA b),e0.bs,e0.bsz,λb _ _=>noA b,λb z=>absurd z (noA b),e0.funs,e0.frf⟩,
  rfl,e0.bare,Un.kept hk,⟨_,x.toInCall.ns,λi y v h1 h2 h3=>?_⟩,λy c h=>⟨_,x.cell y c h⟩,e0.hok.fresh (ah _),λy c h=>?_,λp hp=>absurd (show p∈([]:List (Addr×Obj)) from hp) (by simp),e0.hok.kept hk,?_⟩
 ·exact name_of_addr x.apart (lN h1) (lN h2)
 ·have hy:scope.names.lookup y=some .cell\/scope.names.lookup y=some .free:=hy;rcases hy with hy | hy
  ·exact Fz hy
  ·exact absurd rfl (S.nofree _ (lN hy))
 ·exact c6 (x.above y c (lN h))
 ·have hi:i < vs.length:=by
   unfold start at h2;by_cases hi:i < vs.length
   ·exact hi
   ·rw[bM (by simpa using hi)] at h2;rw[nM] at h2
    split at h2 <;> cases h2
  have ha:vs[i]?=some v:=by
   unfold start at h2;rw[cD (by simpa using hi),aD] at h2;cases e:vs[i]? with
   | none=>rw[e] at h2;cases h2
   | some a=>rw[e] at h2;cases h2;rfl
  obtain ⟨u,hu,rv⟩:=r.get ha
  have hp:ps[i]?=some y:=by
   rw[<- S.pre,mi (by lia)];exact h1
  have ndP:ps.Nodup:=by rw[<- S.pre];exact S.nd.sublist (List.take_sublist _ _)
  refine ⟨u,rv,?_⟩;rcases S.par y (ai hp) with k | k
  ·exact .inl ⟨k,BV ndP hp hu k⟩
  ·obtain ⟨c,e⟩:=Fz (n:=s.heap.objs.size+1) k;refine .inr ⟨.inl k,c,e,?_⟩;have q:=x.cell y c e;rw[BX ndP hp hu (by show scope.names.lookup y≠_;rw[k];decide)] at q;exact q
 ·exact e0.hok.fresh (c6 (x.above y c (lN h)))
 ·unfold start;show _=N.length
  rw[ao,ag,bV]
  lia
theorem PC {K:FG9} {dV kV doc pm cdv ct oc:Value} 
 (lk:K.lookup f=some ⟨oc,od,.func (PySem.W.fnOf name qual params body scope dV kV doc pm an cdv ct),osl⟩) (hcd:PySem.W.codeIn K cdv qual=true) (S:qQ N ps scope)
  (len:∀vs H Q E,sp vs H Q E->vs.length=ps.length)
  (hbody:∀(A:Around) (outer:List Env) (s:Shared) (H:Hp) (vs:List V) (Q:VK) (E:XK),jv k (A.deeper (envOfC qual scope s.heap.objs.size f cdv))->sp vs H Q E →
   ∃t,A0 (zL CX P w K mg base N qual scope f cdv A outer s H E) body t/\t { nx:=λ_ H'=>Q .non H',rt:=Q } (start N vs) H) :
  j9 P w K mg base CX (k+1) f (PySem.W.fnOf name qual params body scope dV kV doc pm an cdv ct) ps sp:=by
 refine ⟨len,λA outer s H args us vs Q E hr e0 hb r hsp=>?_⟩;have hl:=len _ _ _ _ hsp;have KX:K.In s.heap:=e0.mod.kin.keeps λb o e=>(e0.bs b o e).1
 have lim:s.heap.NoLimit:=e0.mod.nolimit.keeps λb o e=>(e0.bs b o e).1
 have hkind:∀y∈ps.zip us,scope.names.lookup y.1=some .local\/(scope.names.lookup y.1=some .cell/\((cellsFrom (s.heap.objs.size+1) scope.names []).lookup y.1).isSome=true):=λ⟨n,v⟩ hy=>by
  rcases S.par n (Nj hy).1 with q | q
  ·exact .inl q
  ·exact .inr ⟨q,xU _ _ _ (.inl q)⟩
 refine codeAny_call_function hr.depth (KX _ _ lk) rfl S.co S.gen rfl (PySem.W.codeRec_of KX hcd) (hb _ _ _ _ ?_);refine wpAny_newFunctionEnv_cells S.kind hkind λenv he s1 x=>?_
 subst he;refine ⟨lim.keeps x.toInCall.keep,codeAny_func ?_⟩;obtain ⟨t,ht,hq⟩:=hbody A outer s H vs Q E (hr.deeper _) hsp;have I:Inv (zL CX P w K mg base N qual scope f cdv A outer s H E) [] (start N vs) H s1:=Ka S hr.hd e0 hl r x;refine wpAny_mono (ht [] s1 (start N vs) H _ I hq) (λfl s' hs=>?_) λe s' hs=>hs
 have fin:∀{σ':St} {H':Hp} {v:V} {u:Value},Inv (zL CX P w K mg base N qual scope f cdv A outer s H E) [] σ' H' s'->RelV v u->Q v H'->CE outer P w H s Q u s' :=
  λ{σ' H' v u} J rv q=>⟨v,H',J.os,J.bare,J.base,J.hok,rv,q⟩
 cases fl with
 | ret u =>
  obtain ⟨v,σ',H',J,rv,q⟩:=hs;exact fin J rv q
 | next =>
  obtain ⟨σ',H',J,q⟩:=hs;exact fin (v:=V.non) (u:=Value.none) J rfl q
 | brk =>
  obtain ⟨_,_,_,q⟩:=hs;exact False.elim q
 | cont =>
  obtain ⟨_,_,_,q⟩:=hs;exact False.elim q
section
variable {X:Cx} {x:Str} {p pos:Pos} {e:Expr} {es:List Expr} {t:TA} {id T:String} {r:List V->Hp->VK->Prop}
def T4 (r:List V->Hp->VK->Prop) (t:TA):TE:=λσ H Q=>t σ H λvs H1=>r vs H1 Q
theorem bf (hc:pC X (.builtin id) r) (hg:Gl X x) (hm:X.mg x=none) (hv:bootBuiltins x=some (.builtin id)) (ha:PA X (e :: es) t) (hn:x≠"__name__":=by decide) (hdb:(x == ("__debug__":Str))=false:=by decide)
  (he:starEach (e :: es) X.env=(false,eval e X.env) :: starEach es X.env:=by rfl) (hpl:(backTo pos (starEach es X.env)).any (·.1)=false:=by rfl):PE X (.Call (.Name x p) (e :: es) [] pos) (T4 r t):=by
 intro pins s σ H Q I h;refine wpAny_Call_Name_kw (kE I hg hm hv ?_ hn hdb);exact PyProof.Rows.callWith_builtin1 (fP (ha pos pins s σ H _ I h) λus s1 ⟨vs,H1,I1,r1,q1⟩=>hc pins s1 σ H1 vs us Q I1 r1 q1) he hpl
theorem iM (hc:pC X (.type T) r) (hg:Gl X x) (hm:X.mg x=none) (hv:bootBuiltins x=some (.type T)) (ha:PA X (e :: es) t) (hn:x≠"__name__":=by decide) (hdb:(x == ("__debug__":Str))=false:=by decide)
  (he:starEach (e :: es) X.env=(false,eval e X.env) :: starEach es X.env:=by rfl) (hpl:(backTo pos (starEach es X.env)).any (·.1)=false:=by rfl):PE X (.Call (.Name x p) (e :: es) [] pos) (T4 r t):=by
 intro pins s σ H Q I h;refine wpAny_Call_Name_kw (kE I hg hm hv ?_ hn hdb);exact PyProof.Rows.callWith_type1 (fP (ha pos pins s σ H _ I h) λus s1 ⟨vs,H1,I1,r1,q1⟩=>hc pins s1 σ H1 vs us Q I1 r1 q1) he hpl
end
end L2
namespace HT
open PySem PyProof.Rows
section
open PySem.SeqAt
open PySem.AutoSeq1 (wpAny_loadPart')
open PySem.MeetsSeq PySem.MeetsSeq2 PySem.MeetsSeq3
end
section
variable {prog:Program} {w:World} {A:Around} {E:Value->Shared->Prop} {s:Shared}
def CI (n d:Nat):Option Int->Nat
 | none=>d
 | some v=>if v < 0 then (v+(n:Int)).toNat else min v.toNat n
theorem rX (n d:Nat):CI n d none=d:=rfl
theorem CH (n d k:Nat):CI n d (some (k:Int))=min k n:=by
 show (if (k:Int) < 0 then ((k:Int)+(n:Int)).toNat else min (k:Int).toNat n)=min k n
 rw[if_neg (by lia),Int.toNat_natCast]
end
end HT
namespace L2
open PySem PySem.Spec PyProof.Rows
abbrev TO:=St->Hp->(Option Int->Hp->Prop)->Prop
def PO (X:Cx) (e:Option Expr) (t:TO):Prop :=
 ∀(pins:List (Addr×Obj)) (s:Shared) (σ:St) (H:Hp) (Q:Option Int->Hp->Prop),Inv X pins σ H s->t σ H Q →
  wpAny (model X.prog X.w) X.A (evalPart e X.env) (λu s'=>∃o H',Inv X pins σ H' s'/\IsPart u o/\Q o H') X.xe s
def Iv:TO:=λ_ H Q=>Q none H
def Pa (t:TE):TO:=λσ H Q=>t σ H λx H1=>∃i,x=.int i/\Q (some i) H1
theorem intsAre_of:∀{us:List Value},cJ (ns.map V.int) us->IntsAre us ns:=by
 induction ns with
 | nil=>intro us r;rw[List.map_nil] at r;cases r;exact .nil
 | cons n ns ih =>
  intro us r;rw[iB] at r;cases r with
  | cons r1 r2 =>
   obtain ⟨t,e⟩:=r1;subst e;exact .cons n t (ih r2)
section
variable {X:Cx} {e:Expr} {te:TE} {lo hi:Option Expr} {tl th:TO} {pos p2:Pos}
theorem qj:PO X none Iv:=by
 intro pins s σ H Q I h;rw[evalPart_none];exact wpAny_pure ⟨none,H,I,.none,h⟩
theorem qi (h:PE X e te):PO X (some e) (Pa te):=by
 intro pins s σ H Q I hw;rw[evalPart_some];refine fP (h pins s σ H _ I hw) λu s1 ⟨x,H1,I1,r1,q1⟩=>?_
 obtain ⟨i,rfl,q⟩:=q1;obtain ⟨t,rfl⟩:=r1;exact ⟨some i,H1,I1,.int i t,q⟩
def Uk (X:Cx) (r:V->Option Int->Option Int->Hp->VK->Prop):Prop :=
 ∀(pins:List (Addr×Obj)) (s:Shared) (σ:St) (H:Hp) (x:V) (v vl vu:Value) (lo hi:Option Int) (sl:Addr) (Q:VK),Inv X pins σ H s->RelV x v->s.heap.IsSliceOf sl vl vu .none->IsPart vl lo->IsPart vu hi->r x lo hi H Q →
  ∃T id,typeLookup (.type T) "__getitem__"=pure (some (.builtin id))/\s.TypeIs v T/\wpAny (model X.prog X.w) X.A (getItem v (.ref sl)) (EP X pins σ Q) X.xe s
def tSl (r:V->Option Int->Option Int->Hp->VK->Prop) (te:TE) (tl th:TO):TE:=λσ H Q=>te σ H λx H1=>tl σ H1 λl H2=>th σ H2 λu H3=>r x l u H3 Q
theorem m8 (hr:Uk X r) (he:PE X e te) (hl:PO X lo tl) (hu:PO X hi th):PE X (.Subscript e (.Slice lo hi none p2) pos) (tSl r te tl th):=by
 intro pins s σ H Q I h;refine Subscript_ (fP (he pins s σ H _ I h) λv s1 ⟨x,H1,I1,r1,q1⟩=>?_);refine wpAny_Slice (fP (hl pins s1 σ H1 _ I1 q1) λvl s2 ⟨l,H2,I2,pl,q2⟩=>fP (hu pins s2 σ H2 _ I2 q2) λvu s3 ⟨u,H3,I3,pu,q3⟩=>?_);rw[evalPart_none];refine wpAny_pure ?_;have I4:Inv X pins σ H3 { s3 with heap:=s3.heap.push { cls:=.type "slice",data:=.fields #[vl,vu,.none] } }:=I3.kept (t':=s3.toks) λb ob q=>Heap.get?_push_of_some _ q
 obtain ⟨T,id,hT,ht,hg⟩:=hr pins { s3 with heap:=s3.heap.push { cls:=.type "slice",data:=.fields #[vl,vu,.none] } } σ H3 x v vl vu l u s3.heap.objs.size Q I4 r1 (Heap.IsSliceOf.new ..) pl pu q3;show wpAny (model X.prog X.w) X.A (subscriptTail e (.Slice lo hi none p2) v (.ref s3.heap.objs.size)) (EP X pins σ Q) X.xe { s3 with heap:=s3.heap.push { cls:=.type "slice",data:=.fields #[vl,vu,.none] } }
 exact tail_any (ops:=[.ref s3.heap.objs.size,v]) ht hT hg (by with_unfolding_all rfl)
def o7 (xs:List V) (lo hi:Option Int):List V:=(xs.drop (HT.CI xs.length 0 lo)).take (HT.CI xs.length xs.length hi - HT.CI xs.length 0 lo)
theorem wN (xs:List V) (lo hi:Option Int):(o7 xs lo hi).length<=xs.length:=by
 unfold o7;rw[bh,eV]
 lia
end
def KQ (n:Nat) (i:Int):Option Nat:=if 0<=i then (if i < n then some i.toNat else none) else if -(n:Int)<=i then some (i+n).toNat else none
def F6 {α:Type} (xs:List α) (i:Int):Option α:=(KQ xs.length i).bind λj=>xs[j]?
theorem IY (h:KQ n i=some j):seqIndex? i n=some j/\j < n/\-(n:Int)<=i/\i < n:=by
 unfold KQ at h;by_cases h0:0<=i
 ·rw[if_pos h0] at h;by_cases h1:i < n
  ·rw[if_pos h1] at h;have e:i.toNat=j:=bO h;exact ⟨by rw[seqIndex_of h0 h1,e],by lia,by lia,h1⟩
  ·rw[if_neg h1] at h;cases h
 ·rw[if_neg h0] at h;by_cases h1:-(n:Int)<=i
  ·rw[if_pos h1] at h;have e:(i+n).toNat=j:=bO h;exact ⟨by rw[seqIndex_neg (by lia) h1,e],by lia,h1,by lia⟩
  ·rw[if_neg h1] at h;cases h
theorem DJ {xs:List α} {v:α} (h:F6 xs i=some v):∃j,seqIndex? i xs.length=some j/\xs[j]?=some v/\j < xs.length/\-(xs.length:Int)<=i/\i < xs.length:=by
 unfold F6 at h;cases e:KQ xs.length i with
 | none=>rw[e] at h;cases h
 | some j =>
  rw[e] at h;obtain ⟨h1,h2,h3,h4⟩:=IY e;exact ⟨j,h1,h,h2,h3,h4⟩
theorem dE {xs:List α} {j:Nat} {v:α} (h:xs[j]?=some v):F6 xs (j:Int)=some v:=by
 have hj:j < xs.length:=(aG.mp h).1
 have e:KQ xs.length (j:Int)=some j:=by
  unfold KQ;rw[if_pos (by lia),if_pos (by lia)];simp
 unfold F6;rw[e];exact h
theorem va (xs:List α) (v:α):F6 (xs++[v]) (-1)=some v:=by
 have hl:(xs++[v]).length=xs.length+1:=by simp
 have e:KQ (xs++[v]).length (-1)=some xs.length:=by
  unfold KQ;rw[hl,if_neg (by decide),if_pos (by lia)];congr 1
  lia
 unfold F6;rw[e];show (xs++[v])[xs.length]?=some v
 simp
def O4 (b:Expr):Prop:=∀o i,subscripted b false o i=operate [o,i] (getItem o i)
def Tu (X:Cx) (r:R2):Prop :=
 ∀(value slice:Expr) (pins:List (Addr×Obj)) (s:Shared) (σ:St) (H:Hp) (x y:V) (v u:Value) (Q:VK),Inv X pins σ H s->RelV x v->RelV y u->r x y H Q →
  subscripted slice false v u=operate [v,u] (getItem v u)->wpAny (model X.prog X.w) X.A (subscriptTail value slice v u) (EP X pins σ Q) X.xe s
def MtR (X:Cx) (id:String) (r:V->List V->Hp->VK->Prop):Prop :=
 ∀(pins:List (Addr×Obj)) (s:Shared) (σ:St) (H:Hp) (x:V) (xs:List V) (v:Value) (us:List Value) (Q:VK),Inv X pins σ H s->RelV x v->cJ xs us->r x xs H Q →
  wpAny (model X.prog X.w) X.A (call (.builtin id) (v :: us)) (EP X pins σ Q) X.xe s
section
variable {X:Cx} {a b:Expr} {ta tb:TE} {pos:Pos}
theorem aL {r:R2} (hr:Tu X r) (ha:PE X a ta) (hb:PE X b tb) (hs:O4 b:=by intro _ _;rfl):PE X (.Subscript a b pos) (Si r ta tb):=by
 intro pins s σ H Q I h;exact Subscript_ (RD ha hb I h λv u s2 x y H2 I2 rx ry q=>hr a b pins s2 σ H2 x y v u Q I2 rx ry q (hs _ _))
def QM (K:FG9):R2:=λx y H Q=>∃p xs i v,x=.ref p/\y=.int i/\bo K H p xs/\F6 xs i=some v/\Q v H
def QL (K:FG9):R2:=λx y H Q=>∃p xs i v,x=.ref p/\y=.int i/\qO K H p xs/\F6 xs i=some v/\Q v H
theorem bC:Tu X (QM X.K):=by
 intro value slice pins s σ H x y v u Q I rx ry h hs;obtain ⟨p,xs,i,z,rfl,rfl,hq,he,q⟩:=h;cases rx;obtain ⟨t,rfl⟩:=ry;obtain ⟨its,r,pl,hz⟩:=I.list hq;obtain ⟨j,h1,h2,h3,h4,h5⟩:=DJ he;obtain ⟨w,ew,rw'⟩:=r.get h2;have hl:=r.length;have hn:=zz;have fin:EP X pins σ Q w s:=⟨z,H,I,rw',q⟩;by_cases h0:0<=i
 ·have hj:i.toNat=j:=by
   rw[seqIndex_of h0 h5] at h1;exact bO h1
  exact item_listR pl.isList h0 (by lia) (by rw[hj];simpa using ew) fin hs
 ·have hj:(i+(its.toArray.size:Int)).toNat=j:=by
   rw[seqIndex_neg (by lia) h4] at h1;rw[aT,<- hl];exact bO h1
  exact subscriptTail_builtinR (x:=w) pl.isList.typeIs slot_list_getitem.lookup
   (wpAny_getItem_list_neg (Q:=λr s'=>r=w/\EP X pins σ Q r s') pl.isList (by lia) (by rw[aT] <;> lia) (by lia) (by rw[hj];simpa using ew) ⟨rfl,fin⟩) hs
theorem bE:Tu X (QL X.K):=by
 intro value slice pins s σ H x y v u Q I rx ry h hs;obtain ⟨p,xs,i,z,rfl,rfl,hq,he,q⟩:=h;cases rx;obtain ⟨t,rfl⟩:=ry;obtain ⟨its,r,pl,hz⟩:=I.tuple hq;obtain ⟨j,h1,h2,h3,h4,h5⟩:=DJ he;obtain ⟨w,ew,rw'⟩:=r.get h2;have hl:=r.length;have hn:=zz;have fin:EP X pins σ Q w s:=⟨z,H,I,rw',q⟩
 exact subscriptTail_builtinR (x:=w) pl.typeIs slot_tuple_getitem.lookup
  (getItem_tuple (j:=j) (Q:=λr s'=>r=w/\EP X pins σ Q r s') pl (by lia) (by lia) (by rw[aT,<- hl];exact h1) (by simpa using ew) ⟨rfl,fin⟩) hs
theorem GY (its:List Value) (n j:Nat) (u:Value):Obj.mapSeq (·.setIfInBounds j u) { cls:=.type "list",data:=.seq its.toArray n }={ cls:=.type "list",data:=.seq (its.set j u).toArray n }:=by
 simp [Obj.mapSeq]
theorem Inv.lst {pins:List (Addr×Obj)} {σ:St} {H:Hp} {s:Shared} {p:Addr} {xs:List V} (I:Inv X pins σ H s) (h:H p=some (.lst xs)) :
  ∃(its:List Value) (n:Nat),cJ xs its/\s.heap.get? p=some { cls:=.type "list",data:=.seq its.toArray n }/\xs.length<=sizeLine:=by
 obtain ⟨z,its,n,r,e⟩:=I.hok p _ h;exact ⟨its,n,r,e,z⟩
theorem Inv.lstUpd {σ:St} {its its':List Value} (I:Inv X pins σ H s) (h:H p=some (.lst xs))
  (ho:s.heap.get? p=some { cls:=.type "list",data:=.seq its.toArray n }) (hf:f { cls:=.type "list",data:=.seq its.toArray n }={ cls:=.type "list",data:=.seq its'.toArray n' }) (r:cJ ys its') (hz:ys.length<=sizeLine) (t:Nat) :
  Inv X pins σ (upd H p (.lst ys)) { s with heap:=s.heap.update p f,toks:=t }:=by
 have e:(s.heap.update p f).get? p=some { cls:=.type "list",data:=.seq its'.toArray n' }:=by
  rw[Heap.get?_update_self f ho (by rw[hf] <;> rfl),hf]
 refine I.write (x:=p) (e:=p) (by rw[h];trivial) (.inl rfl) (λb u hb q=>(Heap.get?_update_other _ _ (Ne.symm hb)).trans q) ⟨_,e⟩ ?_;exact ⟨hz,its',n',r,e⟩
def Pk:V->V->V->Hp->(Hp->Prop)->Prop:=λo i v H Q=>∃p xs k j,o=.ref p/\i=.int k/\H p=some (.lst xs)/\KQ xs.length k=some j/\Q (upd H p (.lst (xs.set j v)))
theorem set_list:RK X Pk:=by
 intro pins s σ H o i v ov iv u Q I ro ri rv h;obtain ⟨p,xs,k,j,rfl,rfl,hp,hj,q⟩:=h;cases ro;obtain ⟨t,rfl⟩:=ri;obtain ⟨its,n,r,ho,hz⟩:=I.lst hp;obtain ⟨h1,h2,h3,h4⟩:=IY hj;have hl:=r.length;have hn:=zz
 have I':Inv X pins σ (upd H p (.lst (xs.set j v))) { s with heap:=s.heap.update p (Obj.mapSeq (·.setIfInBounds j u)) } :=
  I.lstUpd hp ho (GY its n j u) (r.set rv j) (by rw[cQ];exact hz) s.toks
 by_cases h0:0<=k
 ·have hk:k.toNat=j:=by
   rw[seqIndex_of h0 h4] at h1;exact bO h1
  exact PySem.W.ki_setAt ho h0 (by lia) (by rw[aT,<- hl];exact h4) (by rw[hk];exact ⟨_,I',q⟩)
 ·have hk:(k+(its.toArray.size:Int)).toNat=j:=by
   rw[seqIndex_neg (by lia) h3] at h1;rw[aT,<- hl];exact bO h1
  exact PySem.W.ki_setBack ho (by lia) (by rw[aT,<- hl];exact h3) (by lia) (by rw[hk];exact ⟨_,I',q⟩)
theorem Ck (lo hi:Option Int) (n:Nat):(sliceBounds lo hi none n).1=((HT.CI n 0 lo:Nat):Int)/\(sliceBounds lo hi none n).2.1=((HT.CI n n hi:Nat):Int)/\(sliceBounds lo hi none n).2.2=1:=by
 refine ⟨?_,?_,rfl⟩
 ·cases lo with
  | none=>simp [sliceBounds,HT.CI]
  | some i =>
   simp only[sliceBounds,HT.CI,Option.getD_none,show (1:Int) > 0 by decide,if_true];by_cases h:i < 0
   ·simp only[h,if_true] <;> lia
   ·simp only[h,if_false] <;> lia
 ·cases hi with
  | none=>simp [sliceBounds,HT.CI]
  | some i =>
   simp only[sliceBounds,HT.CI,Option.getD_none,show (1:Int) > 0 by decide,if_true];by_cases h:i < 0
   ·simp only[h,if_true] <;> lia
   ·simp only[h,if_false] <;> lia
theorem Ac (its:List Value) (lo hi:Option Int):slicePick its.toArray lo hi none=((its.drop (HT.CI its.length 0 lo)).take (HT.CI its.length its.length hi - HT.CI its.length 0 lo)).toArray:=by
 obtain ⟨h1,h2,h3⟩:=Ck lo hi its.toArray.size;unfold slicePick;rw[h1,h2,h3];simp only[sliceRange_one,pick_run,aT] <;> rfl
def QK (K:FG9):V->Option Int->Option Int->Hp->VK->Prop:=λx lo hi H Q=>∃a xs,x=.ref a/\bo K H a xs/\∀p,H p=none->Q (.ref p) (upd H p (.lst (o7 xs lo hi)))
theorem pL:Uk X (QK X.K):=by
 intro pins s σ H x v vl vu lo hi sl Q I rx hs pl pu h;obtain ⟨a,xs,rfl,hx,q⟩:=h;cases rx;obtain ⟨its,r,ht,hz⟩:=I.list hx;have hlen:=r.length;refine ⟨"list",_,slot_list_getitem.lookup,ht.isList.typeIs,?_⟩;refine wpAny_getItem_list_slice ht.isList hs pl pu .none (by simp) ?_ (by rw[aT] <;> lia);rw[Ac,<- hlen];refine ⟨.ref s.heap.objs.size,_,I.laid (t':=s.toks) (o:=.lst (o7 xs lo hi)) (λb ob q=>Heap.get?_push_of_some _ q) (ah _) ?_,rfl,q _ (I.hok.fresh (ah _))⟩;exact ⟨af (wN xs lo hi) hz,_,0,(r.drop (HT.CI xs.length 0 lo)).take (HT.CI xs.length xs.length hi - HT.CI xs.length 0 lo),Heap.get?_push_size _ rfl⟩
def uY:V->Bool
 | .non=>true
 | .bl _=>true
 | .int _=>true
 | .str _=>true
 | _=>false
def PH:V->V->Bool
 | .non,.non=>true
 | .bl a,.bl b=>a == b
 | .bl a,.int b=>(if a then 1 else 0) == b
 | .int a,.bl b=>a == (if b then 1 else 0)
 | .int a,.int b=>a == b
 | .str a,.str b=>a == b
 | _,_=>false
theorem Rn (ry:RelV y u) (rx:RelV x v) (fy:uY y=true) (fx:uY x=true):SeqAt.EqAt A s u v (PH y x):=by
 cases y with
 | non =>
  cases ry;cases x with
  | non=>cases rx;exact SeqAt.EqAt.same _
  | bl b=>cases rx;exact SeqAt.EqAt.none_bool b
  | int b=>obtain ⟨t,rfl⟩:=rx;exact SeqAt.EqAt.none_int b t
  | str b=>obtain ⟨t,rfl⟩:=rx;exact SeqAt.EqAt.none_str b t
  | _=>exact absurd (show false=true from fx) aI
 | bl a =>
  cases ry;cases x with
  | non=>cases rx;exact SeqAt.EqAt.bool_none a
  | bl b=>cases rx;exact SeqAt.EqAt.bool_bool a b
  | int b=>obtain ⟨t,rfl⟩:=rx;exact SeqAt.EqAt.bool_int a b t
  | str b=>obtain ⟨t,rfl⟩:=rx;exact SeqAt.EqAt.bool_str a b t
  | _=>exact absurd (show false=true from fx) aI
 | int a =>
  obtain ⟨t',rfl⟩:=ry;cases x with
  | non=>cases rx;exact SeqAt.EqAt.int_none a t'
  | bl b=>cases rx;exact SeqAt.EqAt.int_bool a t' b
  | int b=>obtain ⟨t,rfl⟩:=rx;exact SeqAt.EqAt.int_int a t' b t
  | str b=>obtain ⟨t,rfl⟩:=rx;exact SeqAt.EqAt.int_str a t' b t
  | _=>exact absurd (show false=true from fx) aI
 | str a =>
  obtain ⟨t',rfl⟩:=ry;cases x with
  | non=>cases rx;exact SeqAt.EqAt.str_none a t'
  | bl b=>cases rx;exact SeqAt.EqAt.str_bool a t' b
  | int b=>obtain ⟨t,rfl⟩:=rx;exact SeqAt.EqAt.str_int a t' b t
  | str b=>obtain ⟨t,rfl⟩:=rx;exact SeqAt.EqAt.str_str a t' b t
  | _=>exact absurd (show false=true from fx) aI
 | _=>exact absurd (show false=true from fy) aI
def OF (x:V) (u:Value):Bool:=match u with
 | .none=>PH .non x
 | .bool b=>PH (.bl b) x
 | .int i _=>PH (.int i) x
 | .str z _=>PH (.str z) x
 | _=>false
theorem ME (r:RelV y u) (f:uY y=true):OF x u=PH y x:=by
 cases y with
 | non=>cases r;rfl
 | bl b=>cases r;rfl
 | int i=>obtain ⟨t,rfl⟩:=r;rfl
 | str z=>obtain ⟨t,rfl⟩:=r;rfl
 | _=>exact absurd (show false=true from f) aI
theorem DK {x:V}:∀{xs:List V} {us:List Value},cJ xs us->xs.all uY=true->us.any (OF x)=xs.any λy=>PH y x
 | _,_,.nil,_=>rfl
 | y :: xs,u :: us,.cons r t,f=>by
  rw[List.all_cons,dA] at f;rw[List.any_cons,List.any_cons,ME r f.1,DK t f.2]
theorem zo {A:Around} {s:Shared} {x:V} {v:Value} (rx:RelV x v) (fx:uY x=true):∀{xs:List V} {us:List Value},cJ xs us->xs.all uY=true->∀u∈us,SeqAt.EqAt A s u v (OF x u)
 | _,_,.nil,_=>λu hu=>by cases hu
 | y :: xs,u :: us,.cons r t,f=>λu' hu=>by
  rw[List.all_cons,dA] at f;rcases aw.mp hu with rfl | hu
  ·rw[ME r f.1];exact Rn r rx f.1 fx
  ·exact zo rx fx t f.2 u' hu
def TN (x:V) (xs:List V):Bool:=xs.any λy=>PH y x
def rIn (K:FG9) (neg:Bool):R2:=λx y H Q=>∃p xs,y=.ref p/\(bo K H p xs\/qO K H p xs)/\uY x=true/\xs.all uY=true/\Q (.bl (if neg then !TN x xs else TN x xs)) H
theorem CT:wO X (compareOp .NotIn) (rIn X.K true):=by
 intro pins s σ H x y v u Q I rx ry h;obtain ⟨p,xs,rfl,hq,fx,fs,q⟩:=h;cases ry;rcases hq with hq | hq
 ·obtain ⟨its,r,pl,hz⟩:=I.list hq;refine SeqAt.notIn_listAt (OF x) pl.isList (λw hw=>zo rx fx r fs w (by simpa using hw)) ⟨.bl _,H,I,rfl,?_⟩;rw[show its.toArray.any (OF x)=its.any (OF x) by simp,DK r fs];exact q
 ·obtain ⟨its,r,pl,hz⟩:=I.tuple hq;refine SeqAt.notIn_tupleAt (OF x) pl (λw hw=>zo rx fx r fs w (by simpa using hw)) ⟨.bl _,H,I,rfl,?_⟩;rw[show its.toArray.any (OF x)=its.any (OF x) by simp,DK r fs];exact q
theorem aU:pC X (.builtin "len") (λxs H Q=>∃p ys,xs=[.ref p]/\(bo X.K H p ys\/qO X.K H p ys)/\Q (.int ys.length) H):=by
 intro pins s σ H xs us Q I r h;obtain ⟨p,ys,rfl,hq,q⟩:=h;obtain ⟨u,rfl,rx⟩:=vals1 r;cases rx;have hn:=zz;rcases hq with hq | hq
 ·obtain ⟨its,r',pl,hz⟩:=I.list hq;have hlen:=r'.length;exact Calls.call_len_list pl.isList (by simp only[aT] <;> lia) ⟨.int ys.length,H,I.tok _,⟨s.toks+1,by rw[aT,hlen]⟩,q⟩
 ·obtain ⟨its,r',pl,hz⟩:=I.tuple hq;have hlen:=r'.length;exact len_tuple pl (by simp only[aT] <;> lia) ⟨.int ys.length,H,I.tok _,⟨s.toks+1,by rw[aT,hlen]⟩,q⟩
theorem mJ:pC X (.type "list") (λxs H Q=>∃p ys,xs=[.ref p]/\(bo X.K H p ys\/qO X.K H p ys)/\∀l,H l=none->Q (.ref l) (upd H l (.lst ys))):=by
 intro pins s σ H xs us Q I r h;obtain ⟨p,ys,rfl,hq,q⟩:=h;obtain ⟨u,rfl,rx⟩:=vals1 r;cases rx
 have fin:∀(its:List Value),cJ ys its->ys.length<=sizeLine->∀(h':Heap) (c':Nat),(∀b o',s.heap.get? b=some o'->h'.get? b=some o') →
   h'.get? s.heap.objs.size=some { cls:=.type "list",dict:=none,data:=.seq its.toArray c',slots:=#[] }->EP X pins σ Q (.ref s.heap.objs.size) { s with heap:=h' }:=λits r' hz h' c' kp e =>
  ⟨.ref s.heap.objs.size,_,I.laid (t':=s.toks) kp (ah _) (show fu X.prog X.w _ h' _ (.lst ys) from ⟨hz,its,c',r',e⟩),rfl,q _ (I.hok.fresh (ah _))⟩
 rcases hq with hq | hq
 ·obtain ⟨its,r',pl,hz⟩:=I.list hq;have hlen:=r'.length;obtain ⟨o,ho,hc,n,hd⟩:=pl.isList;exact call_list_seq p (.inl rfl) ho hc hd (λh' c' kp e=>fin its r' hz h' c' kp e) (by simp only[aT] <;> lia)
 ·obtain ⟨its,r',pl,hz⟩:=I.tuple hq;have hlen:=r'.length;obtain ⟨o,ho,hc,n,hd⟩:=pl;exact call_list_seq p (.inr rfl) ho hc hd (λh' c' kp e=>fin its r' hz h' c' kp e) (by simp only[aT] <;> lia)
def TY (K:FG9) (T:String) (x:V) (H:Hp):Prop:=match x with
 | .str _=>T="str"
 | .int _=>T="int"
 | .ref p=>(T="list"/\∃xs,bo K H p xs)\/(T="tuple"/\∃o,K.lookup p=some o/\o.cls=.type "tuple"/\o.dict=none) \/
   (T="dict"/\((∃kvs,H p=some (.dK kvs))\/∃kvs,H p=some (.dT kvs)))\/(T="set"/\∃S n,H p=some (.set S n))
 | _=>False
theorem P8 {σ:St} (I:Inv X pins σ H s) (r:RelV x v) (ty:TY X.K T x H) :
  s.TypeIs v T/\∀a,v=.ref a->∃ob,s.heap.get? a=some ob/\ob.dict=none:=by
 cases x with
 | str z =>
  obtain ⟨t,rfl⟩:=r;cases (show T="str" from ty);exact ⟨typeIs_str s z t,λ_ e=>nomatch e⟩
 | int i =>
  obtain ⟨t,rfl⟩:=r;cases (show T="int" from ty);exact ⟨typeIs_int s i t,λ_ e=>nomatch e⟩
 | ref p =>
  cases r;rcases ty with ⟨rfl,xs,hq⟩ | ⟨rfl,o,hk,hc,hd⟩ | ⟨rfl,hk⟩ | ⟨rfl,S,n,hk⟩
  ·obtain ⟨its,_,pl,_⟩:=I.list hq;refine ⟨pl.isList.typeIs,λa e=>?_⟩;cases e;obtain ⟨o,n,e,c,hd,_⟩:=pl;exact ⟨o,e,hd⟩
  ·refine ⟨⟨o,I.kIn p o hk,hc⟩,λa e=>?_⟩;cases e;exact ⟨o,I.kIn _ o hk,hd⟩
  ·have z:∃o,s.heap.get? p=some o/\o.ExactDict:=by
    rcases hk with ⟨kvs,hk⟩ | ⟨kvs,hk⟩
    ·obtain ⟨_,_,_,_,o,_,_,e,ex,_⟩:=I.hok p _ hk;exact ⟨o,e,ex⟩
    ·obtain ⟨_,_,_,_,o,_,_,e,ex,_⟩:=I.hok p _ hk;exact ⟨o,e,ex⟩
   obtain ⟨o,e,ex⟩:=z;refine ⟨⟨o,e,ex.1⟩,λa e2=>?_⟩;cases e2;exact ⟨o,e,ex.2.1⟩
  ·obtain ⟨o,_,_,_,e,ex,_⟩:=I.hok p _ hk;refine ⟨⟨o,e,ex.1⟩,λa e2=>?_⟩;cases e2;exact ⟨o,e,ex.2.1⟩
 | _=>exact False.elim ty
def tBM (K:FG9) (T:String) (r:V->List V->Hp->VK->Prop) (to:TE) (t:TA):TE:=λσ H Q=>to σ H λx H1=>TY K T x H1/\t σ H1 λxs H2=>r x xs H2 Q
variable {o e:Expr} {es:List Expr} {to:TE} {t:TA} {name:Str} {apos cpos:Pos} {T id:String} {r:V->List V->Hp->VK->Prop}
theorem By (pa:PlainAttrs T) (slot:Slot T name id) (hty:typeOf (.builtin id)=pure (.type "method_descriptor")) (hm:MtR X id r) (ho:PE X o to) (ha:PA X (e :: es) t)
  (hbase:attributeBase o name X.env (eval o X.env)=eval o X.env:=by rfl)
  (hfew:((backTo cpos (starEach (e :: es) X.env)).all (λx=>!x.1) && (backToKw cpos (keywordEach [] X.env)).all (λx=>x.1.isSome)
   && decide ((e :: es).length+([]:List Keyword).length+(if ([]:List Keyword).isEmpty then 0 else 1) < 30))=true:=by rfl)
  (hline:(apos.endLine == cpos.line)=true:=by rfl) (hs:starEach (e :: es) X.env=(false,eval e X.env) :: starEach es X.env:=by rfl) (hplain:(backTo cpos (starEach es X.env)).any (·.1)=false:=by rfl) :
  PE X (.Call (.Attribute o name apos) (e :: es) [] cpos) (tBM X.K T r to t):=by
 intro pins s σ H Q I h;refine wpAny_Call_method_late hbase hfew hline rfl (fP (ho pins s σ H _ I h) λv s1 ⟨x,H1,I1,r1,ty,q1⟩=>?_);obtain ⟨h1,h2⟩:=P8 I1 r1 ty;refine ⟨T,id,pa,slot,hty,h1,h2,?_⟩;have hA:=ha cpos pins s1 σ H1 _ I1 q1;rw[hs] at hA ⊢;refine Calls.callWith_builtin (by show (false || (backTo cpos (starEach es X.env)).any (·.1))=false;rw[hplain] <;> rfl) (Calls.evalArgs_plain ?_);exact fP hA λus s2 ⟨vs,H2,I2,r2,q2⟩=>hm pins s2 σ H2 x vs v us Q I2 r1 r2 q2
end
def MtM (X:Cx) (id:String) (r:V->List V->Hp->VK->Prop):Prop :=
 ∀(pins:List (Addr×Obj)) (s:Shared) (σ:St) (H:Hp) (x:V) (xs:List V) (v:Value) (us:List Value) (Q:VK),Inv X pins σ H s->RelV x v->cJ xs us->r x xs H Q →
  wpAny (model X.prog X.w) X.A (call (.builtin id) (v :: us)) (EP X pins σ Q) X.xe s
theorem cJ.one:∀{x:V} {us:List Value},cJ [x] us->∃u,us=[u]/\RelV x u
 | _,_,.cons r .nil=>⟨_,rfl,r⟩
theorem cJ.rep {xs:List V} {us:List Value} (h:cJ xs us):∀k:Nat,cJ (List.replicate k xs).flatten (List.replicate k us).flatten
 | 0=>.nil
 | k+1=>by
  rw[lQ,lQ,j4,j4];exact cJ.append h (cJ.rep h k)
theorem foldl_rep (its:List Value):∀(k:Nat) (acc:List Value),
  List.foldl (λx1 x2=>x1++x2) acc.toArray (List.replicate k its.toArray)=(acc++(List.replicate k its).flatten).toArray
 | 0,acc=>by simp
 | k+1,acc=>by
  have e:acc.toArray++its.toArray=(acc++its).toArray:=by simp
  have e2:(acc++its)++(List.replicate k its).flatten=acc++(List.replicate (k+1) its).flatten:=by
   rw[lQ,j4,b9]
  rw[<- e2,<- foldl_rep its k (acc++its),<- e,lQ,List.foldl_cons]
section
variable {X:Cx} {pins:List (Addr×Obj)} {σ:St} {H:Hp} {s:Shared} {l b:Addr} {xs ys zs:List V}
theorem Inv.lset {its its':List Value} (I:Inv X pins σ H s) (hH:H l=some (.lst xs))
  (e:s.heap.get? l=some { cls:=.type "list",data:=.seq its.toArray n }) (hf:f its.toArray=its'.toArray) (hv:cJ ys its') (hz:ys.length<=sizeLine) :
  Inv X pins σ (upd H l (.lst ys)) { s with heap:=s.heap.update l (Obj.mapSeq f),toks:=t' }:=by
 have q:=kW e f;rw[hf] at q;refine I.write (x:=l) (e:=l) (by rw[hH];exact trivial) (.inl rfl) (λb' u hb hu=>(Heap.get?_update_other s.heap (Obj.mapSeq f) (Ne.symm hb)).trans hu) ⟨_,q⟩ ?_;exact ⟨hz,its',_,hv,q⟩
theorem Inv.lnew (I:Inv X pins σ H s) (hv:cJ ys its) (hz:ys.length<=sizeLine) :
  Inv X pins σ (upd H s.heap.objs.size (.lst ys)) { s with heap:=s.heap.push { cls:=.type "list",data:=.seq its.toArray },toks:=t' } :=
 I.laid (λ_ _ q=>Heap.get?_push_of_some _ q) (ah _) ⟨hz,its,0,hv,Heap.get?_push_size _ rfl⟩
theorem Inv.fresh (I:Inv X pins σ H s):H s.heap.objs.size=none:=I.hok.fresh (ah _)
theorem Inv.lstM (I:Inv X pins σ H s) (hH:H l=some (.lst xs)):xs.length<=sizeLine/\∃(its:List Value) (n:Nat),cJ xs its/\xs.length=its.length/\s.heap.get? l=some { cls:=.type "list",data:=.seq its.toArray n }:=by
 obtain ⟨z,its,n,r,e⟩:=I.hok l _ hH;exact ⟨z,its,n,r,r.length,e⟩
theorem LW (h:n<=sizeLine):Builtin.List.listTooLong n=false:=by
 unfold Builtin.List.listTooLong;exact decide_eq_false (by lia)
end
section
variable {X:Cx}
def IH:V->List V->Hp->VK->Prop:=λx vs H Q=>∃l xs y,x=.ref l/\vs=[y]/\H l=some (.lst xs)/\xs.length < sizeLine/\Q .non (upd H l (.lst (xs++[y])))
theorem mS:MtM X "list.append" IH:=by
 intro pins s σ H x vs v us Q I rx rv h;obtain ⟨l,xs,y,rfl,rfl,hH,hz,q⟩:=h;cases rx;obtain ⟨u,rfl,ru⟩:=rv.one;obtain ⟨z,its,n,r,hl,e⟩:=I.lstM hH;refine call_meets F.slot_list_append ⟨_,e,rfl⟩ F.entry_list_append (F.args_list_append_2 _ _) (PySem.list_append l its.toArray n u (by rw[aT];lia)) ⟨e,?_⟩;refine ⟨.non,_,I.lset (its':=its++[u]) hH e (by simp) (r.append (.cons ru .nil)) ?_,rfl,q⟩;rw[ao,aO]
 lia
def SK:R2:=λx y H Q=>∃l b xs zs,x=.ref l/\y=.ref b/\H l=some (.lst xs)/\H b=some (.lst zs)/\xs.length+zs.length<=sizeLine/\∀p,H p=none->Q (.ref p) (upd H p (.lst (xs++zs)))
theorem oR:wO X (binaryOp .Add) SK:=by
 intro pins s σ H x y v u Q I rx ry h;obtain ⟨l,b,xs,zs,rfl,rfl,hH,hB,hz,q⟩:=h;cases rx;cases ry;obtain ⟨z,its,n,r,hl,e⟩:=I.lstM hH;obtain ⟨z2,its2,n2,r2,hl2,e2⟩:=I.lstM hB;refine PySem.P.add_list e e2 ?_ (by rw[aT,aT];lia);have ea:its.toArray++its2.toArray=(its++its2).toArray:=by simp
 rw[ea];exact ⟨.ref _,_,I.lnew (t':=s.toks) (r.append r2) (by rw[ao];lia),rfl,q _ I.fresh⟩
def SI:R2:=λx y H Q=>∃l k xs,x=.ref l/\y=.int k/\H l=some (.lst xs)/\-(2^63)<=k/\k < 2^63/\xs.length*k.toNat<=sizeLine /\
 ∀p,H p=none->Q (.ref p) (upd H p (.lst (List.replicate k.toNat xs).flatten))
theorem len_rep {α:Type} (xs:List α) (k:Nat):(List.replicate k xs).flatten.length=k*xs.length:=by
 induction k with
 | zero=>simp
 | succ k ih=>rw[lQ,j4,ao,ih,iq,iu]
theorem LO:wO X (binaryOp .Mult) SI:=by
 intro pins s σ H x y v u Q I rx ry h;obtain ⟨l,k,xs,rfl,rfl,hH,h1,h2,hz,q⟩:=h;cases rx;obtain ⟨t,rfl⟩:=ry;obtain ⟨z,its,n,r,hl,e⟩:=I.lstM hH;have hlen:its.toArray.size*k.toNat<=sizeLine:=by rw[aT,<- hl];exact hz
 have hcap:¬its.toArray.size*k.toNat > (2^63 - 1) / 8:=by
  have:(sizeLine:Nat)<=(2^63 - 1) / 8:=by decide
  lia
 have hfit:¬(!Builtin.List.listFitsIndex k)=true:=by
  rw[fitsIndex_both h1 h2];exact aI
 have hlong:¬Builtin.List.listTooLong (its.toArray.size*k.toNat)=true:=by
  rw[LW hlen];exact aI
 have hnew:List.foldl (λx1 x2=>x1++x2) #[] (List.replicate (if its.toArray.isEmpty=true then 0 else k.toNat) its.toArray)=(List.replicate k.toNat its).flatten.toArray:=by
  have f0:∀m:Nat,List.foldl (λx1 x2=>x1++x2) #[] (List.replicate m its.toArray)=(List.replicate m its).flatten.toArray:=λm=>by
   have:=foldl_rep its m [];rw[cP] at this;exact this
  rw[f0];cases its with
  | nil=>simp
  | cons a r'=>rw[if_neg (by simp)]
 refine wpAny_binaryOp_repeat_ref (T:="list") (U:="int") (by decide) ⟨_,e,rfl⟩ (λs'=>typeIs_int s' k t) noFill_list_mul F.fills_int_mul F.slot_int_rmul repeat_list F.slot_int_index.lookup
  (call_meets F.slot_int_rmul (typeIs_int s k t) F.entry_int_rmul (F.args_int_rmul_2 _ _) (int___rmul___int_list k t l its.toArray n)
   ⟨e,rfl,⟨_,e,rfl⟩,call_meets F.slot_list_mul ⟨_,e,rfl⟩ F.entry_list_mul (F.args_list_mul_2 _ _) (AutoListH.list___mul___list_int_3 l its.toArray n k t hfit hcap hlong) ⟨e,?_⟩⟩)
 rw[hnew];exact ⟨.ref _,_,I.lnew (t':=s.toks) (r.rep k.toNat) (by rw[len_rep,aX];exact hz),rfl,q _ I.fresh⟩
end
end L2
namespace Att
open PySem PySem.W PySem.Calls PyProof.Rows
theorem xg:∀(ns:List Int) (vs:List Value),WellAll P h vs (ns.map WData.int)->IntsAre vs ns:=by
 intro ns
 induction ns with
 | nil =>
  intro vs w;rw[List.map_nil] at w;cases w;exact .nil
 | cons n ns ih =>
  intro vs w;rw[iB] at w;cases w with
  | cons a b =>
   cases a;exact .cons _ _ (ih _ b)
theorem JL {l:OpenLaw} (hn:l.most=some n) 
  (hpre:l.row.toRowW.claim.pre args=true) (hwl:WellAll P h vals args) :
  ∃a vs ns,vals=[Value.ref a]/\args=[WData.list (ns.map WData.int)]/\h.get? a=some { cls:=.type "list",data:=.seq vs.toArray }/\IntsAre vs ns/\ns.length<=n:=by
 have hsh:WShape.hasAll [] args [.list .int]=true:=(pre_splitW hpre).1;have hc:l.pre.holds [] { args:=args }=true:=(pre_splitW hpre).2;obtain ⟨d,r,rfl,h1,h2⟩:=hasAllW_cons hsh;obtain rfl:=hasAllW_nil h2;obtain ⟨xs,rfl,h3⟩:=hasW_list h1;obtain ⟨ns,rfl⟩:=items_int h3
 have hlen:ns.length<=n:=by
  unfold OpenLaw.pre at hc
  have h4:(WTm.not (.lt (.lit (.int (n:Int))) (.len (.arg 0)))).holds [] { args:=[.list (ns.map .int)] }=true:=by
   have h4:=(holds_andW hc).1;rw[hn] at h4;exact h4
  have h5:=condW_of h4 (w_not (w_lt w_lit (w_len_list (w_arg rfl))));rw[ag] at h5;refine Nat.le_of_not_lt λq=>?_
  have q':(n:Int) < ((ns.length:Nat):Int):=by lia
  first
   | (rw[decide_eq_true q'] at h5;exact absurd h5 (by decide))
   | (simp at h5;lia)
 cases hwl with
 | cons w1 w2 =>
  cases w2;cases w1 with
  | list ho hall=>exact ⟨_,_,ns,rfl,rfl,ho,xg ns _ hall,hlen⟩
theorem JR (l:OpenLaw) (args:List WData):l.row.toRowW.claim.post args (.bool true) args=true :=
 postW_of (r:=l.row.toRowW) (X:=(true == true))
  (show WShape.has [] (.bool true) .bool=true by first | rfl | decide | simp [WShape.has,WShape.arms,WShape.armsAll])
  (show (WTm.eq .res (.lit (.bool true))).value [] { args:=args,res:=some (.bool true),after:=args }=some (.bool (true == true)) from w_eq_bool (w_res rfl) w_lit) rfl
theorem FF {l:OpenLaw} 
  (hn:l.most=some n) (hdf:d.params.defaults=[])
  (call:∀(w:World) (s₀ s₁:Shared) (mg mb:Str->Option Value) (fa:Addr) (o:Obj) (pm cd doc:Value) (a:Addr) (vs:List Value) (ns:List Int),
   Ground q loose [] XP w s₀ mg mb s₁.heap->YP w s₁.heap →
   s₁.heap.get? fa=some o->o.data=.func (docDef d.name d.params d.body d.scope pm cd doc)->s₁.heap.CodeRec cd d.name->mg d.name=some (.ref fa) →
   s₁.heap.get? a=some { cls:=.type "list",data:=.seq vs.toArray }->IntsAre vs ns->ns.length<=n->s₁.gens=#[] →
   codeAny (model l.prog w) callerA (.call (.ref fa) ⟨[.ref a],[]⟩) (λr s'=>r=.ok (.ret (.bool true))/\OldK s₁.heap s'.heap/\s'.os=s₁.os/\AllBare s'.gens) s₁) :
  WalkO q loose XP YP l.row.toRowW d [] (λf vs=>PySem.call f vs):=by
 intro w s₀ s₁ mg mb G Y fa o pm cd doc dV kV ho hd hcd hD hmg hg args vals as hpre hlay hrd hwl hlo;obtain rfl:dV=.none:=Dflts.none hD hdf;obtain rfl:kV=.none:=Dflts.noKw hD;obtain ⟨a,vs,ns,rfl,rfl,hobj,hints,hlen⟩:=JL hn hpre hwl;refine enter_call (codeAny_mono (call w s₀ s₁ mg mb fa o pm cd doc a vs ns G Y ho (fd_plain hd) hcd hmg hobj hints hlen hg) λr s' hq=>?_);obtain ⟨rfl,h2,h3,h4⟩:=hq;exact ⟨.inl ⟨.bool true,.bool true,[],rfl,λ_=>rfl,.bool true,JR l _,λ_=>⟨List.Pairwise.nil,λ_ hm=>(nomatch hm)⟩⟩,h2,h3,h4⟩
section
variable {prog:Program} {w:World} {A:Around} {E:Value->Shared->Prop} {s:Shared} {K:Frag}
end
end Att
namespace L2
open PySem PySem.Spec PyProof.Rows
theorem A4:∀{vs:List Value} {ns:List Int},IntsAre vs ns->cJ (ns.map V.int) vs
 | _,_,.nil=>.nil
 | _,_,.cons n t h=>.cons ⟨t,rfl⟩ (A4 h)
def RL (H:Hp):Prop:=∀b,H b=none\/∃o xs,H b=some (.frz o (.lst xs))
theorem L9 {K:FG9} 
  (KX:K.In s₁.heap) (hns:s₁.heap.Ns mainGlobals mg) (hb:s₁.heap.Ns builtinsNs mb) (hbb:∀x:Str,x≠"__name__"->mb x=bootBuiltins x) (hlim:s₁.heap.NoLimit) (hg:s₁.gens=#[])
  (ha:s₁.heap.get? a=some { cls:=.type "list",data:=.seq vs.toArray }) (hi:IntsAre vs ns) (hl:ns.length<=sizeLine) (hr:jv k callerA)
  (F:∀base:Heap,K.In base->base.Ns mainGlobals mg->j9 P w K mg base CX k fa fd [x] sp) (hbind:∀(s:Shared) (u:Value),BindsTo s fd ⟨[u],[]⟩ [(x,u)])
  (hsp:∀H:Hp,RL H->bo K H a (ns.map V.int)->sp [.ref a] H (λv _=>v=.bl true) λ_ _ _=>False)
  (hCX:∀H e s',CX [] H s₁ (λ_ _ _=>False) e s'->False) :
  codeAny (model P w) callerA (.call (.ref fa) ⟨[.ref a],[]⟩) (λr s'=>r=.ok (.ret (.bool true))/\OldK s₁.heap s'.heap/\s'.os=s₁.os/\AllBare s'.gens) s₁:=by
 have rv:=A4 hi;have lenV:=hi.length
 have core:∀H:Hp,RL H->bo K H a (ns.map V.int)->vm P w H s₁.heap->(∀b,H b≠none->b=a)->(H a≠none->K.lookup a=none) →
   codeAny (model P w) callerA (.call (.ref fa) ⟨[.ref a],[]⟩) (λr s'=>r=.ok (.ret (.bool true))/\OldK s₁.heap s'.heap/\s'.os=s₁.os/\AllBare s'.gens) s₁:=by
  intro H hO hS hok hA hK;have base_of:∀{b:Addr} {o:Obj},s₁.heap.get? b=some o->H b=none->(Dc s₁.heap H).get? b=some o:=λe n=>Ml e n
  have noA:∀{b:Addr} {o:Obj} {es:Array DictEntry} {ep:Nat},s₁.heap.get? b=some o->o.data=.dict es ep->H b=none:=λ{b o es ep} e d=>by
   cases q:H b with
   | none=>rfl
   | some u =>
    have e':b=a:=hA b (by rw[q];simp);subst e';rw[ha] at e;cases e;have d':Data.seq vs.toArray _=Data.dict es ep:=d;cases d'
  have nsK:∀{b:Addr} {m:Str->Option Value},s₁.heap.Ns b m->(Dc s₁.heap H).Ns b m:=λ{b m} ⟨o,es,ep,e,d,r⟩=>⟨o,es,ep,base_of e (noA e d),d,r⟩
  have hKb:K.In (Dc s₁.heap H):=λb o e=>base_of (KX b o e) (by
   cases q:H b with
   | none=>rfl
   | some u =>
    have e':b=a:=hA b (by rw[q];simp);subst e';rw[hK (by rw[q];simp)] at e;cases e)
  have hM:Mod K mg (Dc s₁.heap H):=⟨hKb,nsK hns,⟨mb,nsK hb,hbb⟩,let ⟨mc,h1,h2⟩:=hlim;⟨mc,nsK h1,h2⟩⟩;have e0:Io P w K mg (Dc s₁.heap H) callerA [] s₁ H:=⟨rfl,hM,λb o e=>Ol e,JA (Kc _ _),trivial,λb hb=>absurd (show b∈([]:List Addr) from hb) (by simp),hok,.of_eq hg⟩;refine codeAny_mono ((F _ hKb (nsK hns)).run callerA [] s₁ H ⟨[.ref a],[]⟩ [.ref a] [.ref a] _ _ hr e0 (hbind s₁ (.ref a)) (.cons rfl .nil) (hsp H hO hS)) λr s' h=>?_
  cases r with
  | error e=>exact (hCX H e s' h).elim
  | ok fl =>
   cases fl with
   | next=>exact False.elim h
   | brk=>exact False.elim h
   | cont=>exact False.elim h
   | ret u =>
    obtain ⟨v,H',os,bare,un,hok',r',q⟩:=h;have q':v=.bl true:=q;subst q';obtain rfl:u=Value.bool true:=r';refine ⟨rfl,OldK.of_keep λb o e=>?_,os,bare⟩;cases q:H b with
    | none=>exact un.keep b o e q (by intro z;exact absurd (show b∈([]:List Addr) from z) (by simp)) (by simp)
    | some u =>
     rcases hO b with z | ⟨ob,xs,z⟩
     ·rw[q] at z;cases z
     ·have z2:=un.frzs b ob _ z;obtain ⟨e1,_⟩:=hok b _ z;obtain ⟨e2,_⟩:=hok' b _ z2;rw[e] at e1;cases e1;exact e2
 cases hk:K.lookup a with
 | some o =>
  have e:=KX a o hk;rw[ha] at e;cases e;refine core (λ_=>none) (λ_=>.inl rfl) (.inr ⟨_,vs.toArray,_,hk,rfl,rfl,rfl,by rw[aT,lenV];exact hl,by simpa using rv⟩) (λb u z=>by have z':(none:Option HO)=some u:=z;cases z') (λb z=>absurd rfl z) λz=>absurd rfl z
 | none =>
  refine core (λb=>if b=a then some (.frz { cls:=.type "list",data:=.seq vs.toArray } (.lst (ns.map V.int))) else none) (λb=>?_) (.inl (.inr ⟨{ cls:=.type "list",data:=.seq vs.toArray },if_pos rfl⟩)) (λb u z=>?_) (λb z=>?_) λ_=>hk
  ·by_cases hb:b=a
   ·exact .inr ⟨_,_,if_pos hb⟩
   ·exact .inl (if_neg hb)
  ·by_cases hb:b=a
   ·have z':=(if_pos hb).symm.trans z;cases z';subst hb;exact ⟨ha,by rw[ag];exact hl,vs,_,rv,ha⟩
   ·have z':=(if_neg hb).symm.trans z;cases z'
  ·by_cases hb:b=a
   ·exact hb
   ·exact absurd (if_neg hb) z
theorem Nq {l:PySem.W.OpenLaw} {K:Params->FG9} {CX:World->Jx} {sp:World->Sp} 
  (hn:l.most=some n) (hn2:n<=sizeLine) (hdf:d.params.defaults=[]) (hr:jv k callerA)
  (hY:∀(w:World) (h:Heap),YP w h->(K w.params).In h)
  (F:∀(w:World) (mg:Str->Option Value) (fa:Addr) (h:Heap),(K w.params).In h->h.Ns mainGlobals mg->mg d.name=some (.ref fa) →
   ∃fd:FuncData,(∀(s:Shared) (u:Value),BindsTo s fd ⟨[u],[]⟩ [(x,u)]) /\
    ∀base:Heap,(K w.params).In base->base.Ns mainGlobals mg->j9 l.prog w (K w.params) mg base (CX w) k fa fd [x] (sp w))
  (hsp:∀(w:World) (H:Hp) (a:Addr) (ns:List Int),ns.length<=n->RL H->bo (K w.params) H a (ns.map V.int)->sp w [.ref a] H (λv _=>v=.bl true) λ_ _ _=>False)
  (hCX:∀(w:World) (H:Hp) (s:Shared) (e:Value) (s':Shared),CX w [] H s (λ_ _ _=>False) e s'->False) :
  PySem.W.WalkO q loose XP YP l.row.toRowW d [] (λf vs=>PySem.call f vs):=by
 refine Att.FF hn hdf λw s₀ s₁ mg mb fa o pm cd doc a vs ns G Y ho hd hcd hmg hobj hints hlen hg=>?_
 have KX:=hY w _ Y;obtain ⟨fd,hb,hF⟩:=F w mg fa _ KX G.T.g hmg;exact L9 KX G.T.g G.T.b G.T.builtins G.T.nolimit hg hobj hints (af hlen hn2) hr hF hb (λH hO hS=>hsp w H a ns hlen hO hS) λH e s'=>hCX w H s₁ e s'
end L2

namespace L2
open PySem PySem.Spec PyProof.Rows
def inClass (s:Stmt) (j:Nat):Stmt:=match s with
 | .ClassDef _ _ _ body _ _ _ _ _ _ _=>body.getD j (.Pass ⟨0,0,0,0⟩)
 | _=>.Pass ⟨0,0,0,0⟩
def il (s:Stmt):Arguments:=match s with
 | .FunctionDef _ a _ _ _ _ _ _ _ _=>a
 | _=>{ posonlyargs:=[],args:=[],vararg:=none,kwonlyargs:=[],kw_defaults:=[],kwarg:=none,defaults:=[] }
def eO (s:Stmt):List Stmt:=match s with
 | .FunctionDef _ _ b _ _ _ _ _ _ _=>b
 | _=>[]
def cG (s:Stmt):Scope:=match s with
 | .FunctionDef _ _ _ _ _ _ sc _ _ _=>sc
 | _=>{ kind:=.function,names:=[],isGenerator:=false,isCoroutine:=false }
abbrev F1:Jx:=λ_ _ _ _ _ _=>False
abbrev E0:XK:=λ_ _ _=>False
theorem yQ:sQ F1 X E0:=λ_ _ _ _ _ _ _ h=>h.elim
structure A2 (K:FG9) (x qual:Str) (st:Stmt) (f:Addr) (fd:FuncData):Prop where
 ex:∃(oc:Value) (od:Option Addr) (kV doc pm:Value) (an:Option Addr) (cdv ct:Value) (osl:Array (Option Value)),
  fd=PySem.W.fnOf x qual (il st) (eO st) (cG st) .none kV doc pm an cdv ct/\K.lookup f=some ⟨oc,od,.func fd,osl⟩/\PySem.W.codeIn K cdv qual=true
 kp:PySem.W.keepIn K (.ref f)=true
section
variable {P:Program} {w:World} {K:FG9} {mg:Str->Option Value} {base:Heap}
theorem A2.ok {st:Stmt} (F:A2 K x qual st f fd) (S:qQ N ps (cG st)) (len:∀vs H Q E,sp vs H Q E->vs.length=ps.length)
  (hbody:∀(cdv:Value) (A:Around) (outer:List Env) (s:Shared) (H:Hp) (vs:List V) (Q:VK) (E:XK),jv k (A.deeper (envOfC qual (cG st) s.heap.objs.size f cdv))->sp vs H Q E →
   ∃t,A0 (zL F1 P w K mg base N qual (cG st) f cdv A outer s H E).nox (eO st) t/\t { nx:=λ_ H'=>Q .non H',rt:=Q } (start N vs) H):j9 P w K mg base F1 (k+1) f fd ps sp:=by
 obtain ⟨oc,od,kV,doc,pm,an,cdv,ct,osl,rfl,lk,hcd⟩:=F.ex;refine PC lk hcd S len λA outer s H vs Q E hr hsp=>?_
 obtain ⟨t,h,q⟩:=hbody cdv A outer s H vs Q E hr hsp;exact ⟨t,h.nox,q⟩
theorem Lf {N ps:List Str} {vs:List V} (h:N.take ps.length=ps) (l:vs.length=ps.length):vs.length<=N.length:=by
 have:=congrArg List.length h;rw[bh] at this
 lia
theorem A2.k {x qual:Str} {st:Stmt} {f:Addr} {fd:FuncData} {N ps:List Str} {k:Nat} {sp:Sp} (F:A2 K x qual st f fd) (S:qQ N ps (cG st))
  (hbody:∀(cdv:Value) (A:Around) (outer:List Env) (s:Shared) (H:Hp) (vs:List V) (Q:VK) (E:XK) (hr:jv k (A.deeper (envOfC qual (cG st) s.heap.objs.size f cdv))) (h:sp vs H Q E),
   ∃t,A0 (zL F1 P w K mg base N qual (cG st) f cdv A outer s H E).nox (eO st) t/\t { nx:=λ_ H'=>Q .non H',rt:=Q } (Qk N vs) H) (len:∀vs H Q E,sp vs H Q E->vs.length=ps.length:=by walk_at "n"):j9 P w K mg base F1 (k+1) f fd ps sp :=
 F.ok S len λcdv A outer s H vs Q E hr h=>by
  rw[Cf (Lf S.pre (len _ _ _ _ h))];exact hbody cdv A outer s H vs Q E hr h
theorem A2.binds {st:Stmt} (F:A2 K x qual st f fd)
  (h:∀(kV doc pm:Value) (an:Option Addr) (cdv ct:Value) (us:List Value),us.length=ps.length->bindArgs (PySem.W.fnOf x qual (il st) (eO st) (cG st) .none kV doc pm an cdv ct) ⟨us,[]⟩=pure (ps.zip us)):Binds K fd ps []:=by
 obtain ⟨oc,od,kV,doc,pm,an,cdv,ct,osl,rfl,lk,hcd⟩:=F.ex;exact .all (h kV doc pm an cdv ct)
theorem sG {st:Stmt} {kV doc pm cdv ct:Value} (l:K.lookup f=some ⟨oc,od,.func (PySem.W.fnOf x qual (il st) (eO st) (cG st) .none kV doc pm an cdv ct),osl⟩)
  (c:PySem.W.codeIn K cdv qual=true) (k:PySem.W.keepIn K (.ref f)=true):A2 K x qual st f (PySem.W.fnOf x qual (il st) (eO st) (cG st) .none kV doc pm an cdv ct):=⟨⟨oc,od,kV,doc,pm,an,cdv,ct,osl,rfl,l,c⟩,k⟩
end
structure Df (K:FG9) (mg:Str->Option Value) (x:Str) (st:Stmt) (ps:List Str) (f:Addr) (fd:FuncData):Prop where
 m:mg x=some (.ref f)
 b:Binds K fd ps []
 F:A2 K x x st f fd
structure Dh (K:FG9) (x:Str) (st:Stmt) (f:Addr) (fd:FuncData):Prop where
 a:PySem.W.nsIn K mainGlobals x=some (some (.ref f))
 F:A2 K x x st f fd
theorem Tg {K:FG9} {st:Stmt} {kV doc pm cdv ct:Value} (a:PySem.W.nsIn K mainGlobals x=some (some (.ref f))) (l:K.lookup f=some ⟨oc,od,.func (PySem.W.fnOf x x (il st) (eO st) (cG st) .none kV doc pm an cdv ct),osl⟩) (c:PySem.W.codeIn K cdv x=true) (k:PySem.W.keepIn K (.ref f)=true):Dh K x st f (PySem.W.fnOf x x (il st) (eO st) (cG st) .none kV doc pm an cdv ct):=⟨a,sG l c k⟩
theorem Dh.D {K:FG9} {x:Str} {st:Stmt} {f:Addr} {fd:FuncData} {ps:List Str} {mg:Str->Option Value} {h:Heap} (d:Dh K x st f fd) (X:K.In h) (G:h.Ns mainGlobals mg) (hb:∀(kV doc pm:Value) (an:Option Addr) (cdv ct:Value) (us:List Value),us.length=ps.length->bindArgs (PySem.W.fnOf x x (il st) (eO st) (cG st) .none kV doc pm an cdv ct) ⟨us,[]⟩=pure (ps.zip us):=by walk_at "b"):Df K mg x st ps f fd:=⟨PySem.W.mg_of X G d.a,d.F.binds hb,d.F⟩
abbrev Df.o {K:FG9} {mg:Str->Option Value} {x:Str} {st:Stmt} {ps:List Str} {f:Addr} {fd:FuncData} (_:Df K mg x st ps f fd) (P:Program) (w:World) (base:Heap) (k:Nat) (sp:Sp):Prop:=j9 P w K mg base F1 k f fd ps sp
theorem cA {X:Cx} {k k':Nat} {f:Addr} {fd:FuncData} {ps:List Str} {sp:Sp} {x:Str} {st:Stmt} {p pos:Pos} {e:Expr} {es:List Expr} {t:TA} (F:j9 X.prog X.w X.K X.mg X.base F1 k f fd ps sp) (hr:jv k' X.A) (D:Df X.K X.mg x st ps f fd) (ha:PA X (e :: es) t) (hle:k<=k':=by decide) (hg:Gl X x:=by exact rfl) (hdb:(x == ("__debug__":Str))=false:=by decide) (he:starEach (e :: es) X.env=(false,eval e X.env) :: starEach es X.env:=by rfl) (hpl:(backTo pos (starEach es X.env)).any (·.1)=false:=by rfl):PE X (.Call (.Name x p) (e :: es) [] pos) (Lb sp [] E0 t):=xJ F (hr.mono hle) hg D.m D.F.kp D.b .nil yQ ha hdb he hpl
theorem dF (h:n<=1000):n < sizeLine:=aK h (by decide)
theorem j7 {n:Nat} (h:n<=1000:=by lia):n<=sizeLine:=c6 (dF h)
section
variable {X:Cx}
theorem pv (i:Nat) {x:Str} {pos:Pos} (hN:X.N[i]?=some x:=by rfl) (hv:Ug X.env.scope x:=by first | exact Or.inl rfl | exact Or.inr (Or.inl rfl) | exact Or.inr (Or.inr rfl)) (hd:(x == ("__debug__":Str))=false:=by decide)
  (hcd:(x == ("__classdict__":Str))=false:=by decide):PE X (.Name x pos) (Qd i):=QU hN hv hd hcd
end
theorem Ow {A B:Prop} (h:B):if false=true then A else B:=by
 rw[if_neg aI];exact h
theorem S0 {A B:Prop} (h:A):if true=true then A else B:=by
 rw[if_pos rfl];exact h
theorem jc {c A B:Prop} [Decidable c] (h1:c->A) (h2:¬c->B):if c then A else B:=by
 by_cases h:c
 ·rw[if_pos h];exact h1 h
 ·rw[if_neg h];exact h2 h
def aA (H H':Hp):Prop:=∀b o,H b=some o->H' b=some o
theorem aA.refl (H:Hp):aA H H:=λ_ _ h=>h
theorem aA.trans (a:aA H H1) (b:aA H1 H2):aA H H2:=λc o h=>b c o (a c o h)
theorem aA.free (e:aA H H') (h:H' l=Option.none):H l=Option.none:=by
 cases q:H l with
 | none=>rfl
 | some o =>
  rw[e l o q] at h;cases h
theorem aA.seq {K:FG9} (e:aA H H') (h:bo K H a xs):bo K H' a xs:=by
 rcases h with (h | ⟨o,h⟩) | h
 ·exact .inl (.inl (e _ _ h))
 ·exact .inl (.inr ⟨o,e _ _ h⟩)
 ·exact .inr h
end L2
namespace Nm
theorem Mr (a b:Int):Int.gcd b (a.fmod b)=Int.gcd a b:=by
 rw[Int.fmod_def,k9 a b];apply Nat.dvd_antisymm
 ·apply Nd
  ·exact eY ..
  ·have h1:=eY (a:=b) (b:=a - b*a.fdiv b);have h2:=fL (a:=b) (b:=a - b*a.fdiv b);have h3:=Int.dvd_add h2 (nO (c:=a.fdiv b) h1);rwa [Int.sub_add_cancel] at h3
 ·apply Nd
  ·exact eY ..
  ·exact Int.dvd_sub (fL ..) (nO (eY ..))
theorem Ms (a b:Int):Int.gcd b (a % b)=Int.gcd a b:=by
 rw[Int.emod_def,k9 a b];apply Nat.dvd_antisymm
 ·apply Nd
  ·exact eY ..
  ·have h1:=eY (a:=b) (b:=a - b*(a / b));have h2:=fL (a:=b) (b:=a - b*(a / b));have h3:=Int.dvd_add h2 (nO (c:=a / b) h1);rwa [Int.sub_add_cancel] at h3
 ·apply Nd
  ·exact eY ..
  ·exact Int.dvd_sub (fL ..) (nO (eY ..))
theorem OC (a b:Int) (h:b≠0):(a.fmod b).natAbs < b.natAbs:=by
 rcases Int.lt_or_gt_of_ne h with h | h
 ·have e:a.fmod b=-((-a).fmod (-b)):=by
   have:=Int.neg_fmod_neg (-a) (-b);simp only[Int.neg_neg] at this;exact this
  have h1:=Int.fmod_nonneg_of_pos (-a) (b:=-b) (by lia);have h2:=Int.fmod_lt_of_pos (-a) (b:=-b) (by lia)
  lia
 ·have h1:=Int.fmod_nonneg_of_pos a h;have h2:=Int.fmod_lt_of_pos a h
  lia
def g (t b:Int):Int:=(Int.gcd t b:Int)
def lo (t b:Int):Int:=t / g t b
def hi (t b:Int):Int:=b / g t b
theorem zD (h:b≠0):0 < g t b:=by
 unfold g;have:0 < Int.gcd t b:=Nk _ h
 lia
theorem zy (t b:Int):lo t b*g t b=t:=Int.ediv_mul_cancel (eY ..)
theorem vX (t b:Int):hi t b*g t b=b:=Int.ediv_mul_cancel (fL ..)
theorem Dd (h:0 < b):0 < hi t b:=by
 have h1:=zD (t:=t) (b:=b) (by lia);have h2:=vX t b;by_cases h3:0 < hi t b
 ·exact h3
 ·have:hi t b*g t b<=0:=Int.mul_nonpos_of_nonpos_of_nonneg (by lia) (by lia)
  lia
theorem zw (h:b≠0):Int.gcd (lo t b) (hi t b)=1:=by
 have h1:=zD (t:=t) h;have e:=Int.gcd_mul_right (lo t b) (g t b) (hi t b);rw[zy,vX] at e;have e2:(g t b).natAbs=Int.gcd t b:=by unfold g;simp
 rw[e2] at e;have h2:0 < Int.gcd t b:=Nk _ h;exact Nat.eq_of_mul_eq_mul_right h2 (by rw[<- e,vf])
theorem zx (t b:Int):lo t b*b=t*hi t b:=by
 have h1:=zy t b;have h2:=vX t b
 calc lo t b*b=lo t b*(hi t b*g t b):=by rw[h2]
  _=(lo t b*g t b)*hi t b:=by rw[fR (hi t b),<- dJ]
  _=t*hi t b:=by rw[h1]
theorem qI (h:Int.gcd a b=1) (hd:a∣b*c):a∣c:=by
 have h1:a.natAbs∣b.natAbs*c.natAbs:=by rw[<- eC];exact eQ.mpr hd
 have h2:Nat.Coprime a.natAbs b.natAbs:=h;exact eQ.mp (h2.dvd_of_dvd_mul_left h1)
theorem uniq (hb:0 < b) (hd:0 < d) (h1:Int.gcd a b=1) (h2:Int.gcd c d=1) (e:a*d=c*b):a=c/\b=d:=by
 have e1:b∣d:=by
  have:b∣a*d:=⟨c,by rw[e,fR]⟩;exact qI (by rw[k9];exact h1) this
 have e2:d∣b:=by
  have:d∣c*b:=⟨a,by rw[<- e,fR]⟩;exact qI (by rw[k9];exact h2) this
 have e3:b=d:=Int.dvd_antisymm (by lia) (by lia) e1 e2;subst e3;exact ⟨tI (by lia) e,rfl⟩
theorem Q1 (hb:0 < b) (hd:0 < d) (h2:Int.gcd c d=1) (e:t*d=c*b):lo t b=c/\hi t b=d:=by
 refine uniq (Dd hb) hd (zw (by lia)) h2 ?_;have h:=zx t b;have hb':b≠0:=by lia
 apply tI hb'
 calc lo t b*d*b=lo t b*b*d:=by rw[dJ,fR d b,<- dJ]
  _=t*hi t b*d:=by rw[h]
  _=t*d*hi t b:=by rw[dJ,fR (hi t b),<- dJ]
  _=c*b*hi t b:=by rw[e]
  _=c*hi t b*b:=by rw[dJ,fR b,<- dJ]
theorem Q2 (hb:0 < b) (h:Int.gcd a b=1):lo a b=a/\hi a b=b:=Q1 hb hb h rfl
theorem oS {a b:Int} (h:b≠0):a.natAbs<=(a*b).natAbs:=by
 rw[eC];exact dP _ (Int.natAbs_pos.mpr h)
theorem lo_le (h:b≠0):(lo t b).natAbs<=t.natAbs:=by
 have:=oS (a:=lo t b) (b:=g t b) (by have:=zD (t:=t) h;lia);rwa [zy] at this
theorem Pz (h:b≠0):(hi t b).natAbs<=b.natAbs:=by
 have:=oS (a:=hi t b) (b:=g t b) (by have:=zD (t:=t) h;lia);rwa [vX] at this
def Sz (k:Nat) (x:Int):Prop:=x.natAbs < 2^k
theorem Sz.mono (h:Sz j x) (l:j<=k):Sz k x:=a9 h (ar (by decide) l)
theorem Sz.mul (h1:Sz j x) (h2:Sz k y):Sz (j+k) (x*y):=by
 unfold Sz at *
 rw[eC,bT];exact Nat.mul_lt_mul'' h1 h2
theorem Sz.neg (h:Sz k x):Sz k (-x):=by unfold Sz at *;rw[ko];exact h
theorem Sz.le (h:Sz k y) (l:x.natAbs<=y.natAbs):Sz k x:=aK l h
theorem Sz.hi {k:Nat} {t b:Int} (h:Sz k b) (hb:b≠0):Sz k (hi t b):=h.le (Pz hb)
end Nm
namespace L2
open PySem PySem.Spec PyProof.Rows
structure Bk (env:Env) (scope:Scope) (own capN:List Str):Prop where
 kind:scope.kind=.function
 locs:∀y∈scope.names,y.2=.local->scope.names.lookup y.1=some .local
 ownk:∀x∈own,scope.names.lookup x=some .local\/scope.names.lookup x=some .cell
 cells:∀y∈scope.names,y.2=.cell->y.1∈own/\y.1∉capN
 frees:∀y∈scope.names,y.2=.free->y.1∈capN/\y.1∉own
 capf:∀x∈capN,scope.names.lookup x=some .free
 caps:∀x∈capN,env.kindOf x=some .cell\/env.kindOf x=some .free
def TQ (scope:Scope) (own capN:List Str):Bool :=
 decide (scope.kind=.function) && scope.names.all (λy=>decide (y.2=.local->scope.names.lookup y.1=some .local) && decide (y.2=.cell->y.1∈own/\y.1∉capN) && decide (y.2=.free->y.1∈capN/\y.1∉own)) &&
 own.all (λx=>decide (scope.names.lookup x=some .local\/scope.names.lookup x=some .cell)) && capN.all λx=>decide (scope.names.lookup x=some .free)
def BR (env:Env):List Str->Bool
 | []=>true
 | x :: r=>(match env.kindOf x with | some .cell=>true | some .free=>true | _=>false) && BR env r
theorem FA {env:Env}:∀{capN:List Str},BR env capN=true->∀x∈capN,env.kindOf x=some .cell\/env.kindOf x=some .free
 | [],_,_,h=>nomatch h
 | y :: r,h,x,hx=>by
  unfold BR at h;rw[dA] at h;rcases aw.mp hx with e | hx
  ·subst e;have h1:=h.1
   split at h1
   ·rename_i e;exact .inl e
   ·rename_i e;exact .inr e
   ·cases h1
  ·exact FA h.2 x hx
theorem Bk.of (h1:TQ scope own capN=true) (h2:BR env capN=true):Bk env scope own capN:=by
 unfold TQ at h1;rw[dA,dA,dA,pH,pH,pH] at h1;obtain ⟨⟨⟨a1,a2⟩,a3⟩,a4⟩:=h1
 have a2':∀y∈scope.names,(y.2=.local->scope.names.lookup y.1=some .local)/\(y.2=.cell->y.1∈own/\y.1∉capN)/\(y.2=.free->y.1∈capN/\y.1∉own):=λy hy=>by
  have q:=a2 y hy;rw[dA,dA] at q;exact ⟨of_decide_eq_true q.1.1,of_decide_eq_true q.1.2,of_decide_eq_true q.2⟩
 exact ⟨of_decide_eq_true a1,λy hy=>(a2' y hy).1,λx hx=>of_decide_eq_true (a3 x hx),λy hy=>(a2' y hy).2.1,λy hy=>(a2' y hy).2.2,λx hx=>of_decide_eq_true (a4 x hx),FA h2⟩
def dZ (env:Env):List (Str×NameKind)->List (Str×Addr)->List (Str×Addr)
 | [],acc=>acc
 | (n,k) :: r,acc=>if k == .free then dZ env r ((n,(env.cells.lookup n).getD 0) :: acc) else dZ env r acc
theorem iQ (env:Env):∀(names:List (Str×NameKind)) (acc:List (Str×Addr)),dZ env names acc=dZ env names []++acc
 | [],_=>rfl
 | (n,k) :: r,acc=>by
  unfold dZ
  split
  ·rw[iQ env r (_ :: acc),iQ env r [_],b9];rfl
  ·exact iQ env r acc
theorem qM (env:Env):∀(names:List (Str×NameKind)) {x:Str} {c:Addr},(x,c)∈dZ env names []->(x,NameKind.free)∈names/\c=(env.cells.lookup x).getD 0
 | [],_,_,h=>nomatch h
 | (n,k) :: r,x,c,h=>by
  unfold dZ at h
  split at h
  ·rename_i hk
   have ek:k=.free:=by simpa using hk
   subst ek;rw[iQ] at h;rcases ay.mp h with h | h
   ·have q:=qM env r h;exact ⟨bG _ q.1,q.2⟩
   ·have e:(x,c)=(n,(env.cells.lookup n).getD 0):=by simpa using h
    cases e;exact ⟨cK,rfl⟩
  ·have q:=qM env r h;exact ⟨bG _ q.1,q.2⟩
theorem jq {α:Type}:∀{l:List (Str×α)} {x:Str} {c:α},(x,c)∈l->∃d,l.lookup x=some d
 | (k,v) :: r,x,c,h=>by
  rw[kZ];cases hb:x == k with
  | true=>exact ⟨v,rfl⟩
  | false =>
   rcases aw.mp h with e | h
   ·cases e;simp at hb
   ·exact jq h
theorem qN (env:Env):∀(names:List (Str×NameKind)) {x:Str},(x,NameKind.free)∈names->∃c,(x,c)∈dZ env names []
 | (n,k) :: r,x,h=>by
  unfold dZ;rcases aw.mp h with e | h
  ·cases e;rw[if_pos (by decide),iQ];exact ⟨_,bL _ cK⟩
  ·obtain ⟨c,q⟩:=qN env r h
   split
   ·rw[iQ];exact ⟨c,kl _ q⟩
   ·exact ⟨c,q⟩
theorem zM (h:∀y∈scope.names,y.2=.free->∃c,env.cells.lookup y.1=some c):closureFor scope env=pure (dZ env scope.names []):=by
 have gen:∀(names:List (Str×NameKind)) (acc:List (Str×Addr)) (f:Str×NameKind->List (Str×Addr)->Sem (ForInStep (List (Str×Addr)))),
   (∀name kind cells,f (name,kind) cells=if kind == .free then (do let a <- cellOf env name;pure (.yield ((name,a) :: cells))) else pure (.yield cells)) →
   (∀y∈names,y.2=.free->∃c,env.cells.lookup y.1=some c)->forIn names acc f=pure (dZ env names acc):=by
  intro names
  induction names with
  | nil=>intro acc f hf _;rw[oy];rfl
  | cons y r ih =>
   intro acc f hf hh;obtain ⟨n,k⟩:=y;rw[rg,hf];unfold dZ;by_cases hk:(k == NameKind.free)=true
   ·obtain ⟨c,hc⟩:=hh (n,k) cK (by simpa using hk);have hc':env.cells.lookup n=some c:=hc;have e:cellOf env n=pure c:=by unfold cellOf;rw[hc']
    rw[if_pos hk,if_pos hk,e,hc'];simp only[pure_bind,wV];exact ih _ f hf λy hy=>hh y (bG _ hy)
   ·rw[if_neg hk,if_neg hk];simp only[pure_bind];exact ih _ f hf λy hy=>hh y (bG _ hy)
 simp only[closureFor];rw[gen scope.names [] _ (λname kind cells=>by cases hkc:kind == NameKind.free <;> simp [hkc]) h];rfl
theorem fO:∀(names:List (Str×NameKind)) (n:Nat) (acc:List (Str×Addr)),cellsFrom n names acc=cellsFrom n names []++acc
 | [],_,_=>rfl
 | (x,k) :: r,n,acc=>by
  unfold cellsFrom
  split
  ·rw[fO r (n+1) (_ :: acc),fO r (n+1) [_],b9];rfl
  ·exact fO r n acc
theorem kU:∀(names:List (Str×NameKind)) (n:Nat) {x:Str} {c:Addr},(x,c)∈cellsFrom n names []->(x,NameKind.cell)∈names
 | [],_,_,_,h=>nomatch h
 | (y,k) :: r,n,x,c,h=>by
  unfold cellsFrom at h
  split at h
  ·rename_i hk
   have ek:k=.cell:=by simpa using hk
   subst ek;rw[fO] at h;rcases ay.mp h with h | h
   ·exact bG _ (kU r _ h)
   ·have e:(x,c)=(y,n):=by simpa using h
    cases e;exact cK
  ·exact bG _ (kU r _ h)
def v7 (env:Env) (scope:Scope) (C:Addr):Env :=
 { scope:=relabel scope env,locals:=C,globals:=env.globals,cells:=cellsFrom (C+1) scope.names (dZ env scope.names []),qual:=env.qual,func:=none,code:=env.code,frame:=env.frame,builtins:=env.builtins }
theorem E2 
  (h:Q (newEnv scope s.heap.objs.size g (cellsFrom (s.heap.objs.size+1) scope.names cl) qual none .none (some env) builtinsNs) { s with heap:=pushCells (s.heap.push { cls:=.type "dict",data:=.dict #[] }) scope.names }) :
  wpAny M A (newFunctionEnv scope g cl [] qual none .none (some env)) Q E s:=by
 simp only[newFunctionEnv,Option.isSome_some,if_true];refine wpAny_bind (wpAny_alloc ?_);refine wpAny_bind (wpAny_layCells _ (λname kind cells=>by cases hkc:kind == NameKind.cell <;> simp [hkc]) _ _ _ _ ?_);rw[show ({ s with heap:=s.heap.push { cls:=.type "dict",data:=.dict #[] } }:Shared).heap.objs.size=s.heap.objs.size+1 from Heap.size_push ..];rw[oy];exact wpAny_bind (wpAny_pure (wpAny_pure h))
theorem uI:∀{k:NameKind},(relabel scope env).names.lookup x=some k->∃k0,scope.names.lookup x=some k0/\(k=k0\/(k0=.free/\k=.cell)):=by
 unfold relabel;show ∀{k:NameKind},(scope.names.map λ(n,k)=>if (k == NameKind.free && env.scope.kind == .function && env.kindOf n == some .cell) then (n,NameKind.cell) else (n,k)).lookup x=some k->_
 induction scope.names with
 | nil=>intro k h;cases h
 | cons y r ih =>
  intro k h;obtain ⟨n,k1⟩:=y;rw[iB,kZ] at h;rw[kZ];by_cases hc:(k1 == NameKind.free && env.scope.kind == .function && env.kindOf n == some .cell)=true
  ·simp only[hc,if_true] at h;cases hb:x == n with
   | true =>
    simp only[hb] at h
    have e1:k1=.free:=by
     rw[dA,dA] at hc;simpa using hc.1.1
    cases h;exact ⟨k1,rfl,.inr ⟨e1,rfl⟩⟩
   | false=>simp only[hb] at h;exact ih h
  ·have hc':(k1 == NameKind.free && env.scope.kind == .function && env.kindOf n == some .cell)=false:=by simpa using hc
   simp only[hc',jh,if_false] at h;cases hb:x == n with
   | true=>simp only[hb] at h;cases h;exact ⟨_,rfl,.inl rfl⟩
   | false=>simp only[hb] at h;exact ih h
theorem EF:scope.names.lookup x=some .free->(relabel scope env).names.lookup x=some .cell\/(relabel scope env).names.lookup x=some .free:=by
 unfold relabel;show _->(scope.names.map λ(n,k)=>if (k == NameKind.free && env.scope.kind == .function && env.kindOf n == some .cell) then (n,NameKind.cell) else (n,k)).lookup x=some .cell\/(scope.names.map λ(n,k)=>if (k == NameKind.free && env.scope.kind == .function && env.kindOf n == some .cell) then (n,NameKind.cell) else (n,k)).lookup x=some .free
 induction scope.names with
 | nil=>intro h;cases h
 | cons y r ih =>
  intro h;obtain ⟨n,k1⟩:=y;rw[kZ] at h;rw[iB];by_cases hc:(k1 == NameKind.free && env.scope.kind == .function && env.kindOf n == some .cell)=true
  ·simp only[hc,if_true,kZ];cases hb:x == n with
   | true=>exact .inl rfl
   | false=>rw[hb] at h;exact ih h
  ·have hc':(k1 == NameKind.free && env.scope.kind == .function && env.kindOf n == some .cell)=false:=by simpa using hc
   simp only[hc',jh,if_false,kZ];cases hb:x == n with
   | true=>rw[hb] at h;cases h;exact .inr rfl
   | false=>rw[hb] at h;exact ih h
structure Bz where
 s:Shared
 H:Hp
 fp:List Addr
 C:Addr
def xp (X:Cx) (own capN:List Str) (scope:Scope) (Z:Bz):Cx where
 prog:=X.prog
 w:=X.w
 K:=X.K
 mg:=X.mg
 base:=X.base
 A:=X.A
 N:=own++capN
 s₀:=Z.s
 H₀:=Z.H
 env:=v7 X.env scope Z.C
 outer:=X.stack
 stack:=X.stack
 ex:=Z.fp
 fn:=λx=>own.contains x
 calm:=true
 pn:=[]
 xe:=λ_ _=>False
section
variable {X:Cx} {pins:List (Addr×Obj)} {σ:St} {own capN:List Str} {scope:Scope} {Z:Bz}
theorem jy (B:Bk X.env scope own capN) (I:Inv X pins σ Z.H Z.s) (h:(v7 X.env scope Z.C).cells.lookup x=some c) :
  (x∈own/\(x,c)∈cellsFrom (Z.C+1) scope.names [])\/(x∈capN/\x∉own/\X.env.cells.lookup x=some c):=by
 have h':(cellsFrom (Z.C+1) scope.names (dZ X.env scope.names [])).lookup x=some c:=h;rw[fO] at h';rcases ay.mp (mem_of_lookup h') with m | m
 ·exact .inl ⟨(B.cells _ (kU _ _ m) rfl).1,m⟩
 ·obtain ⟨m1,e⟩:=qM _ _ m;obtain ⟨q1,q2⟩:=B.frees _ m1 rfl;obtain ⟨d,hd⟩:=I.ok.has x (B.caps x q1);rw[hd] at e;exact .inr ⟨q1,q2,by rw[hd,e];rfl⟩
theorem OW (B:Bk X.env scope own capN) (I:Inv X pins σ Z.H Z.s) (hx:x∈capN) (h:X.env.cells.lookup x=some c):(v7 X.env scope Z.C).cells.lookup x=some c:=by
 have hm:(x,NameKind.free)∈scope.names:=mem_of_lookup (B.capf x hx);obtain ⟨c1,m1⟩:=qN X.env scope.names hm
 have hs:∃d,(v7 X.env scope Z.C).cells.lookup x=some d:=by
  show ∃d,(cellsFrom (Z.C+1) scope.names (dZ X.env scope.names [])).lookup x=some d
  rw[fO];exact jq (bL _ m1)
 obtain ⟨d,hd⟩:=hs;rcases jy B I hd with ⟨q,m⟩ | ⟨_,_,q⟩
 ·exact absurd hx (B.cells _ (kU _ _ m) rfl).2
 ·rw[h] at q;cases q;exact hd
theorem JT (h:Heap) (C:Addr) (hC:h.objs.size=C+1) (names:List (Str×NameKind)):CellsOk (pushCells h names) (C+1) (cellsFrom (C+1) names []):=by
 have q:=cellsFrom_ok names h (C+1) [] ⟨λ_ _ hm=>(nomatch hm),List.Pairwise.nil⟩ (by rw[hC];exact ah _);rwa [hC] at q
theorem DI (I:Inv X pins σ Z.H Z.s) (h:X.env.cells.lookup x=some c):@LT.lt Nat instLTNat c Z.s.heap.objs.size:=by
 obtain ⟨v,q⟩:=I.cell x c h;exact q.lt
theorem RB (I:Inv X pins σ Z.H Z.s) (hc:X.calm=true) (B:Bk X.env scope own capN) (hC:Z.s.heap.objs.size<=Z.C) (hcl:CellsOk h1 (Z.C+1) (cellsFrom (Z.C+1) scope.names []))
  (hf:∀b∈Z.fp,jY X pins Z.H b/\@LT.lt Nat instLTNat b Z.s.heap.objs.size):(xp X own capN scope Z).Ok:=by
 refine ⟨I.ok.mod,B.kind,I.ok.glob,I.ok.blt,hC,λx y c h1 h2=>?_,λx hx=>?_,λx c hx h=>?_,λ_=>I.ok.hd hc,I.ok.frames,.inl rfl,λb hb=>⟨?_,λx c h=>?_⟩,I.bs,af I.ok.bsz I.sz,λb o e hb=>?_,λb hb hz=>?_,I.stack,I.stkFree⟩
 ·rcases jy B I h1 with ⟨q1,m1⟩ | ⟨q1,n1,m1⟩ <;> rcases jy B I h2 with ⟨q2,m2⟩ | ⟨q2,n2,m2⟩
  ·exact name_of_addr hcl.apart m1 m2
  ·have l1:=(hcl.empty _ _ m1).2;have l2:=DI I m2
   lia
  ·have l1:=(hcl.empty _ _ m2).2;have l2:=DI I m1
   lia
  ·exact I.ok.inj x y c m1 m2
 ·have hx':(relabel scope X.env).names.lookup x=some .cell\/(relabel scope X.env).names.lookup x=some .free:=hx
  have hk:scope.names.lookup x=some .cell\/scope.names.lookup x=some .free:=by
   rcases hx' with h | h
   ·obtain ⟨k0,e,q | ⟨q,_⟩⟩:=uI h
    ·exact .inl (by rw[e,<- q])
    ·exact .inr (by rw[e,q])
   ·obtain ⟨k0,e,q | ⟨_,q⟩⟩:=uI h
    ·exact .inr (by rw[e,<- q])
    ·cases q
  show ∃c,(cellsFrom (Z.C+1) scope.names (dZ X.env scope.names [])).lookup x=some c
  rcases hk with h | h
  ·exact vn.mp (xU scope.names (Z.C+1) _ (.inl h))
  ·obtain ⟨c,m⟩:=qN X.env scope.names (mem_of_lookup h);rw[fO];exact jq (bL _ m)
 ·have ho:x∈own:=by have hx':own.contains x=true:=hx;simpa using hx'
  rcases jy B I h with ⟨_,m⟩ | ⟨_,n,_⟩
  ·have:=(hcl.empty _ _ m).2;have hC':Z.s.heap.objs.size<=Z.C:=hC;show Z.s.heap.objs.size<=c
   lia
  ·exact absurd ho n
 ·intro e;have e':@Eq Nat b Z.C:=e;have:=(hf b hb).2
  lia
 ·have l:=(hf b hb).2;rcases jy B I h with ⟨_,m⟩ | ⟨_,_,m⟩
  ·intro e;have e':@Eq Nat c b:=e;have:=(hcl.empty _ _ m).2
   lia
  ·exact (hf b hb).1.2.2.2.2.1 x c m
 ·obtain ⟨_,_,_,f3,_⟩:=(hf b hb).1;rcases f3 with f3 | f3
  ·exact I.ok.noex b o e f3
  ·exact absurd (a9 (Heap.lt_size e) (af I.ok.bsz f3)) (d6 _)
 ·obtain ⟨_,f1,f2,_⟩:=(hf b hb).1;rcases aw.mp (I.stkSub b hz) with e | e
  ·exact f1 e
  ·exact f2 e
def KN (k:Nat) (cap:List Nat) (σ:St):St:=List.replicate k none++cap.map λj=>(σ[j]?).join
def wQ (X:Cx) (capN:List Str) (cap:List Nat):Prop:=cap.map (λj=>X.N[j]?)=capN.map some
theorem wQ.get (h:wQ X capN cap) {i:Nat} (e:capN[i]?=some x):∃j,cap[i]?=some j/\X.N[j]?=some x:=by
 have q:=congrArg (λl=>l[i]?) h;simp only[aD,e,Option.map_some] at q;cases hc:cap[i]? with
 | none=>rw[hc] at q;cases q
 | some j=>rw[hc] at q;exact ⟨j,rfl,by simpa using q⟩
theorem FC (I:Inv X pins σ Z.H Z.s) (B:Bk X.env scope own capN) (hcap:wQ X capN cap)
  (kc:∀x c,X.env.cells.lookup x=some c->∀v,Z.s.heap.IsCell c v->h'.IsCell c v) {i:Nat} (e1:(own++capN)[i]?=some x) (e2:(KN own.length cap σ)[i]?=some (some v)) :
  ∃u,RelV v u/\Look (v7 X.env scope Z.C) h' m x u:=by
 have hi:own.length<=i:=by
  by_cases hi:own.length<=i
  ·exact hi
  ·exfalso
   unfold KN at e2;rw[cD (by simpa using hi),nM] at e2
   split at e2 <;> cases e2
 rw[bM hi] at e1;unfold KN at e2;rw[bM (by simpa using hi),bV,aD] at e2;obtain ⟨j,hj,hN⟩:=hcap.get e1;rw[hj] at e2;have e3:(σ[j]?).join=some v:=by simpa using e2
 have e4:σ[j]?=some (some v):=by
  cases q:σ[j]? with
  | none=>rw[q] at e3;cases e3
  | some o=>rw[q] at e3;simp at e3;rw[e3]
 have hx:x∈capN:=ai e1;have hk:=B.caps x hx;obtain ⟨m0,_,hl⟩:=I.loc;obtain ⟨u,r,l⟩:=hl j x v hN e4 (.inr hk);refine ⟨u,r,.inr ⟨EF (B.capf x hx),?_⟩⟩;rcases l with ⟨hk2,_⟩ | ⟨_,c,hc,z⟩
 ·rcases hk with hk | hk
  ·rw[hk] at hk2;cases hk2
  ·rw[hk] at hk2;cases hk2
 ·exact ⟨c,OW B I hx hc,kc x c hc _ z⟩
theorem Tf (I:Inv X pins σ Z.H Z.s) (h:b∈uw X.stack):@LT.lt Nat instLTNat b Z.s.heap.objs.size:=by
 obtain ⟨_,o,ho,_⟩:=I.stack.mem h;exact Heap.lt_size ho
theorem OU {D:Addr} (I:Inv X pins σ Z.H Z.s) (hc:X.calm=true) (B:Bk X.env scope own capN) (hcap:wQ X capN cap) (hC:Z.s.heap.objs.size<=Z.C)
  (hcl:CellsOk h1 (Z.C+1) (cellsFrom (Z.C+1) scope.names [])) (hf:∀b∈Z.fp,jY X pins Z.H b/\@LT.lt Nat instLTNat b Z.s.heap.objs.size)
  (hk:∀b o,Z.s.heap.get? b=some o->h1.get? b=some o) (hn:h1.Ns Z.C λ_=>none) (hD:Z.s.heap.objs.size<=D) (hDC:D≠Z.C) (hoD:h1.get? D=some oD) (hdD:∀v,oD.data≠.cell v) :
  Inv (xp X own capN scope Z) [(D,oD)] (KN own.length cap σ) Z.H { Z.s with heap:=h1,toks:=t1 }:=by
 refine ⟨RB I hc B hC hcl hf,rfl,I.bare,Un.kept hk,⟨_,hn,λi x v e1 e2 _=>FC I B hcap (λx c _ v z=>z.keeps hk) e1 e2⟩,λx c h=>?_,I.hok.fresh hC,λx c h=>?_,λp hp=>?_,I.hok.kept hk,?_⟩
 ·rcases jy B I h with ⟨_,m⟩ | ⟨_,_,m⟩
  ·exact ⟨none,(hcl.empty _ _ m).1⟩
  ·obtain ⟨v,q⟩:=I.cell x c m;exact ⟨v,q.keeps hk⟩
 ·rcases jy B I h with ⟨_,m⟩ | ⟨_,_,m⟩
  ·exact I.hok.fresh (by have:=(hcl.empty _ _ m).2;lia)
  ·exact I.freeC x c m
 ·have e:p=(D,oD):=by simpa [xp] using hp
  subst e;exact ⟨hoD,I.hok.fresh hD,hDC,λz=>d6 _ (a9 (Tf I z) hD),hdD⟩
 ·show (KN own.length cap σ).length=(own++capN).length
  have:=congrArg List.length hcap;simp only[ag] at this;unfold KN;simp [this]
theorem MX {σ':St} (I:Inv X pins σ Z.H Z.s) (B:Bk X.env scope own capN) (hcap:wQ X capN cap) (hf:∀b∈Z.fp,jY X pins Z.H b/\@LT.lt Nat instLTNat b Z.s.heap.objs.size)
  (J:Inv (xp X own capN scope Z) pins' σ' H' s'):Inv (xp X own capN scope Z) pins' (KN own.length cap σ) H' s':=by
 refine ⟨J.ok,J.os,J.bare,J.base,?_,J.cell,J.free,J.freeC,J.pin,J.hok,?_⟩
 ·obtain ⟨m,hn,_⟩:=J.loc;refine ⟨m,hn,λi x v e1 e2 _=>FC I B hcap (λx c hx v z=>?_) e1 e2⟩;obtain ⟨o,ho,hd⟩:=z;obtain ⟨sl,e⟩:=J.base.any ho (I.freeC x c hx) λz=>(hf c z).1.2.2.2.2.1 x c hx rfl
  exact ⟨_,e,hd⟩
 ·show (KN own.length cap σ).length=(own++capN).length
  have:=congrArg List.length hcap;simp only[ag] at this;unfold KN;simp [this]
theorem OV {σ':St} {D:Addr} (I:Inv X pins σ Z.H Z.s) (hf:∀b∈Z.fp,jY X pins Z.H b/\@LT.lt Nat instLTNat b Z.s.heap.objs.size) (hD:Z.s.heap.objs.size<=D)
  (J:Inv (xp X own capN scope Z) [(D,{ cls:=.type "list",data:=.seq its.toArray n })] σ' H' s') (r:cJ ys its) (hz:ys.length<=sizeLine) :
  Inv X pins σ (upd H' D (.lst ys)) s':=by
 have pD:=J.pin (D,{ cls:=.type "list",data:=.seq its.toArray n }) (by simp);have ne:∀{b:Addr} {o:Obj},Z.s.heap.get? b=some o->b≠D:=λe z=>by subst z;exact d6 _ (a9 (Heap.lt_size e) hD)
 have nt:∀{b:Addr} {u:HO},H' b=some u->b≠D:=λe z=>by rw[z,pD.2.1] at e;cases e
 refine I.call' (ch:=Z.fp) J.os ⟨J.base.keep,J.base.slot,λb o e h hx=>?_,J.base.there,λb xs e=>?_,λb o u e=>?_,λb ps e=>?_⟩ (λb u e=>?_) J.bare λb hb=>?_
 ·rw[aJ (ne e)];exact J.base.free b o e h hx
 ·have q:=J.base.tups b xs e;rw[aJ (nt q)];exact q
 ·have q:=J.base.frzs b o u e;rw[aJ (nt q)];exact q
 ·obtain ⟨more,q⟩:=J.base.tbls b ps e;exact ⟨more,by rw[aJ (nt q)];exact q⟩
 ·by_cases hb:b=D
  ·subst hb;rw[az] at e;cases e;exact ⟨hz,its,n,r,pD.1⟩
  ·rw[aJ hb] at e;exact (J.hok b u e).stay (λc v _ q=>q) (λc q=>by rw[aJ (nt q)];exact q) λc xs q=>by rw[aJ (nt q)];exact q
 ·obtain ⟨_,f1,_,f3,f4,f5⟩:=(hf b hb).1;exact ⟨f3,f1,f4,f5⟩
end
theorem Qc {t:Sem α} {Q Q':α->Shared->Prop} (h:wpAny M A t Q (λ_ _=>False) s) (hQ:∀a s,Q a s->Q' a s):wpAny M A t Q' E s :=
 wpAny_mono h hQ λ_ _ z=>False.elim z
theorem DG (I:Nat->Shared->Prop)
  (turn:∀(E:Value->Shared->Prop) n s,I n s->wpAny (model prog w) A (pyNext it) (λr s₁=>match r with
   | none=>R (.ok .next) s₁
   | some v=>wpAny (model prog w) A (letOwnedTupleGo target it v) (λ_ s₂=>wpAny (model prog w) A (assign target env v) (λ_ s₃ =>
     wpAny (model prog w) A (forIn ifs true λc r=>if r=true then do let ok <- isTrue c env (eval c env);pure (ForInStep.yield ok) else pure (ForInStep.yield r)) (λok s₄ =>
      if ok=true then wpAny (model prog w) A (eval elt env) (λx s₅=>wpAny (model prog w) A (call (.builtin "list.append") [acc,x]) (λ_ s₆=>∃m,m < n/\I m s₆) E s₅) E s₄
      else ∃m,m < n/\I m s₄) E s₃) E s₂) E s₁) E s)
  (n:Nat) (h:I n s):codeAny (model prog w) A (.compLoop (.ListComp elt [⟨target,iter,ifs,0⟩] scope pos) 0 it acc env) R s:=by
 refine codeAny_loop rfl I (λn s hI=>?_) n h;show wpAny _ A ((compTurn (.ListComp elt [⟨target,iter,ifs,0⟩] scope pos) 0 it acc env).onRaise (λx=>do noteFrame x env;theTreesLotGoes x)) _ _ s
 refine wpAny_noted ?_;rw[compTurn_list];refine wpAny_bind (wpAny_standAt (wpAny_bind (wpAny_mono (turn _ n s hI) (λr s₁ h₁=>?_) λ_ _ h'=>h')));cases r with
 | none=>exact wpAny_pure h₁
 | some v =>
  refine wpAny_bind (wpAny_mono h₁ (λ_ s₂ h₂=>wpAny_bind (wpAny_mono h₂ (λ_ s₃ h₃=>wpAny_bind (wpAny_mono h₃ (λok s₄ h₄=>?_) λ_ _ h'=>h')) λ_ _ h'=>h')) λ_ _ h'=>h');cases ok with
  | false=>exact wpAny_pure ⟨rfl,h₄⟩
  | true =>
   exact wpAny_bind (wpAny_bind (wpAny_mono h₄ (λx s₅ h₅=>wpAny_bind (wpAny_mono h₅ (λ_ s₆ h₆=>wpAny_pure (wpAny_pure ⟨rfl,h₆⟩)) λ_ _ h'=>h')) λ_ _ h'=>h'))
def PF (X:Cx) (ifs:List Expr) (t:TT):Prop :=
 ∀(pins:List (Addr×Obj)) (s:Shared) (σ:St) (H:Hp) (Q:Bool->Hp->Prop),Inv X pins σ H s->t σ H Q →
  wpAny (model X.prog X.w) X.A (forIn ifs true λc r=>if r=true then do let ok <- isTrue c X.env (eval c X.env);pure (ForInStep.yield ok) else pure (ForInStep.yield r)) (TP X pins σ Q) X.xe s
def Sa:TT:=λ_ H Q=>Q true H
theorem cg:PF X [] Sa:=λ_ _ _ H _ I h=>wpAny_tests_nil ⟨H,I,h⟩
theorem GQ (h:PT X c t):PF X [c] t:=λpins s σ H Q I hw=>wpAny_tests_one (h pins s σ H Q I hw)
def rj (σ₀:St) (g:TG) (tf:TT) (te:TE) (x:V) (H:Hp) (NY:V->Hp->Prop) (NN:Hp->Prop):Prop :=
 g x σ₀ H λσ2 H2=>tf σ2 H2 λb H3=>if b=true then te σ2 H3 NY else NN H3
def sT (J:It) (σ₀:St) (g:TG) (tf:TT) (te:TE) (Q:VK) (H1:Hp):Prop :=
 ∃W:Nat->Nat->List V->Hp->Prop,(∃m,W 0 m [] H1)/\∀i m ys H,W i m ys H →
  (J.stop i H/\ys.length<=sizeLine/\∀p,H p=none->Q (.ref p) (upd H p (.lst ys))) \/
  (J.go i H/\ys.length < sizeLine/\∃(NY:V->Hp->Prop) (NN:Hp->Prop),(∀y H',NY y H'->∃m',m' < m/\W (i+1) m' (ys++[y]) H')/\(∀H',NN H'->∃m',m' < m/\W (i+1) m' ys H') /\
   ∀x H',J.yld i H x H'->rj σ₀ g tf te x H' NY NN)
def Ef (wi:TI) (k:Nat) (cap:List Nat) (g:TG) (tf:TT) (te:TE):TE:=λσ H Q=>wi σ H λJ H1=>sT J (KN k cap σ) g tf te Q H1
abbrev lobj (its:List Value) (n:Nat):Obj:={ cls:=.type "list",data:=.seq its.toArray n }
section
variable {X:Cx} {own capN:List Str} {cap:List Nat} {scope:Scope} {elt tg iter:Expr} {ifs:List Expr} {pos:Pos} {wi:TI} {g:TG} {tf:TT} {te:TE}
theorem BP (hc:X.calm=true) (B:Bk X.env scope own capN) (hcap:wQ X capN cap)
  (hi:PI X tg iter wi) (hg:∀Z,PG (xp X own capN scope Z) tg g) (hf:∀Z,PF (xp X own capN scope Z) ifs tf) (he:∀Z,PE (xp X own capN scope Z) elt te)
  (hs:∀x,foldedSetIterable iter X.env x=pure x) {σ:St} (I:Inv X pins σ H s) (h:Ef wi own.length cap g tf te σ H Q)
  (fin:∀(D C:Addr) (s':Shared) (H':Hp),Inv X pins σ H' s'->jY X pins H' C->(∃m,s'.heap.Ns C m)->Q (.ref D) H'->compPost (model X.prog X.w) X.A X.xe use Qe (.ref D) C (.ok .next) s') :
  wpAny (model X.prog X.w) X.A (comprehension (.ListComp elt [⟨tg,iter,ifs,0⟩] scope pos) scope X.env fpos (newList []) false (eval iter X.env) use) Qe X.xe s:=by
 refine wpAny_comprehension_free (use:=use) rfl hs (zM λy hy hk=>I.ok.has y.1 (B.caps _ (B.frees y hy hk).1)) B.kind B.locs ?_;refine fP (hi pins s σ H _ I h) λv s1 h1=>fP h1 λitv s2 h2=>?_
 obtain ⟨it,fp,tn,J,H2,e,I2,T,st2,f2,W,⟨m0,w0⟩,turn⟩:=h2;subst e;have hfp:∀b∈fp,jY X pins H2 b/\@LT.lt Nat instLTNat b s2.heap.objs.size:=λb hb=>⟨f2 b hb,let ⟨_,e,_⟩:=T.obj _ _ st2 b hb;Heap.lt_size e⟩
 refine wpAny_newObj_type (E2 ?_) (aS _);have es:(s2.heap.push { cls:=.type "list",data:=.seq ([]:List Value).toArray }).objs.size=s2.heap.objs.size+1:=Heap.size_push ..
 show codeAny _ _ (.compStart _ 0 (.ref it) (.ref s2.heap.objs.size) { newEnv scope (s2.heap.push { cls:=.type "list",data:=.seq ([]:List Value).toArray }).objs.size X.env.globals (cellsFrom ((s2.heap.push { cls:=.type "list",data:=.seq ([]:List Value).toArray }).objs.size+1) scope.names (dZ X.env scope.names [])) X.env.qual none .none (some X.env) builtinsNs with scope:=relabel scope X.env })
  (compPost (model X.prog X.w) X.A X.xe use Qe (.ref s2.heap.objs.size) (s2.heap.push { cls:=.type "list",data:=.seq ([]:List Value).toArray }).objs.size)
  { s2 with heap:=pushCells ((s2.heap.push { cls:=.type "list",data:=.seq ([]:List Value).toArray }).push { cls:=.type "dict",data:=.dict #[] }) scope.names }
 have hk1:∀b o,(s2.heap.push { cls:=.type "list",data:=.seq ([]:List Value).toArray }).get? b=some o->(pushCells ((s2.heap.push { cls:=.type "list",data:=.seq ([]:List Value).toArray }).push { cls:=.type "dict",data:=.dict #[] }) scope.names).get? b=some o :=
  λb o e=>pushCells_keeps _ _ _ _ (Heap.get?_push_of_some _ e)
 have hk:∀b o,s2.heap.get? b=some o->(pushCells ((s2.heap.push { cls:=.type "list",data:=.seq ([]:List Value).toArray }).push { cls:=.type "dict",data:=.dict #[] }) scope.names).get? b=some o:=λb o e=>hk1 b o (Heap.get?_push_of_some _ e)
 have hoD:=hk1 s2.heap.objs.size _ (Heap.get?_push_size s2.heap (o:={ cls:=.type "list",data:=.seq ([]:List Value).toArray }) rfl);have hn:=(Heap.Ns.new (s2.heap.push { cls:=.type "list",data:=.seq ([]:List Value).toArray }) (.type "dict")).keeps (pushCells_keeps scope.names _);have hcl:=JT ((s2.heap.push { cls:=.type "list",data:=.seq ([]:List Value).toArray }).push { cls:=.type "dict",data:=.dict #[] }) (s2.heap.objs.size+1) (by rw[Heap.size_push,es]) scope.names;rw[es] at hn ⊢;generalize pushCells ((s2.heap.push { cls:=.type "list",data:=.seq ([]:List Value).toArray }).push { cls:=.type "dict",data:=.dict #[] }) scope.names=h3 at hk hoD hn hcl ⊢;have Z:Bz:=⟨s2,H2,fp,s2.heap.objs.size+1⟩
 have I3:Inv (xp X own capN scope ⟨s2,H2,fp,s2.heap.objs.size+1⟩) [(s2.heap.objs.size,lobj [] 0)] (KN own.length cap σ) H2 { s2 with heap:=h3 } :=
  OU (Z:=⟨s2,H2,fp,s2.heap.objs.size+1⟩) (t1:=s2.toks) I2 hc B hcap (vg _) hcl hfp hk hn (ah _) (bw (eU _)) hoD (λv z=>nomatch z)
 have st3:tn 0 h3:=T.keep _ _ _ st2 λb _ o e=>hk b o e
 have loop:codeAny (model X.prog X.w) X.A (.compLoop (.ListComp elt [⟨tg,iter,ifs,0⟩] scope pos) 0 (.ref it) (.ref s2.heap.objs.size) (v7 X.env scope (s2.heap.objs.size+1))) (compPost (model X.prog X.w) X.A X.xe use Qe (.ref s2.heap.objs.size) (s2.heap.objs.size+1)) { s2 with heap:=h3 }:=by
  refine DG (λm s'=>∃i ys σ' H' its n,Inv (xp X own capN scope ⟨s2,H2,fp,s2.heap.objs.size+1⟩) [(s2.heap.objs.size,lobj its n)] σ' H' s'/\tn i s'.heap/\(∀b∈fp,H' b=none)/\cJ ys its/\W i m ys H') ?_ m0
   ⟨0,[],_,H2,[],0,I3,st3,λb hb=>(f2 b hb).1,.nil,w0⟩
  rintro E n s4 ⟨i,ys,σ4,H4,its,k,I4,st4,fr4,rv,w4⟩
  have fpo:∀{pp:List (Addr×Obj)} {H':Hp},(∀p∈pp,p.1=s2.heap.objs.size)->(∀b∈fp,H' b=none)->∀b∈fp,jY (xp X own capN scope ⟨s2,H2,fp,s2.heap.objs.size+1⟩) pp H' b:=λ{pp H'} hpp hn b hb=>by
   obtain ⟨e1,e2⟩:=I4.ok.exf b hb;refine ⟨hn b hb,e1,I4.ok.exfs b hb,.inl hb,e2,λp hp=>?_⟩;have hp':p∈pp:=by simpa [xp] using hp
   have l:=(hfp b hb).2;rw[hpp p hp'];exact λz=>d6 _ (by rw[<- z] at l;exact l)
  have pinD:∀{its:List Value} {n:Nat},∀p∈[(s2.heap.objs.size,lobj its n)],p.1=s2.heap.objs.size:=λp hp=>by simp at hp;rw[hp]
  rcases turn i n ys H4 w4 with ⟨stop,hz,q⟩ | ⟨go,hlt,NY,NN,hNY,hNN,step⟩
  ·refine fP (T.done (xp X own capN scope ⟨s2,H2,fp,s2.heap.objs.size+1⟩) rfl rfl rfl rfl i _ s4 σ4 H4 E I4 (fpo pinD fr4) st4 stop) λr s5 ⟨hr,I5⟩=>?_
   subst hr;have pD:=I5.pin (s2.heap.objs.size,lobj its k) (by simp);have I6:=OV (Z:=⟨s2,H2,fp,s2.heap.objs.size+1⟩) I2 hfp (ah _) I5 rv hz
   have hC:upd H4 s2.heap.objs.size (.lst ys) (s2.heap.objs.size+1)=none:=by
    rw[aJ (ou (eU _))];exact I5.free
   obtain ⟨m,hm,_⟩:=I5.loc;exact fin _ _ s5 _ I6 (I2.fpOk (vg _) hC) ⟨m,hm⟩ (q _ pD.2.1)
  ·refine fP (T.item (xp X own capN scope ⟨s2,H2,fp,s2.heap.objs.size+1⟩) rfl rfl rfl rfl i _ s4 σ4 H4 E I4 (fpo pinD fr4) st4 go) λr s5 ⟨u,hr,h5⟩=>?_
   subst hr;refine fP h5 λ_ s6 ⟨x,H6,I6,r6,y6,st6,fr6⟩=>?_
   have I6':=(MX (Z:=⟨s2,H2,fp,s2.heap.objs.size+1⟩) I2 B hcap hfp I6).pinned (fpo pinD fr6) (T.obj _ _ st6)
   have back:∀{σ7:St} {H7:Hp} {s7:Shared},Inv (xp X own capN scope ⟨s2,H2,fp,s2.heap.objs.size+1⟩) ([(s2.heap.objs.size,lobj its k)]++yK fp s6.heap) σ7 H7 s7 →
     Inv (xp X own capN scope ⟨s2,H2,fp,s2.heap.objs.size+1⟩) [(s2.heap.objs.size,lobj its k)] σ7 H7 s7/\tn (i+1) s7.heap/\∀b∈fp,H7 b=none:=λ{σ7 H7 s7} I7=>by
    refine ⟨I7.unpinned,T.keep _ _ _ st6 λb hb o e=>(I7.pin (b,o) (bL _ (bL _ (qE hb e)))).1,λb hb=>?_⟩;obtain ⟨o,e,d⟩:=T.obj _ _ st6 b hb;exact (I7.pin (b,o) (bL _ (bL _ (qE hb e)))).2.1
   refine Qc (hg _ _ s6 _ H6 x u _ I6' r6 (step x H6 y6)) λ_ s7 ⟨σ7,H7,I7,q7⟩=>?_
   refine Qc (hf _ _ s7 σ7 H7 _ I7 q7) λok s8 ⟨H8,I8,q8⟩=>?_
   cases ok with
   | false =>
    rw[if_neg aI] at q8 ⊢;obtain ⟨m',hm,w8⟩:=hNN H8 q8;obtain ⟨J1,J2,J3⟩:=back I8;exact ⟨m',hm,i+1,ys,σ7,H8,its,k,J1,J2,J3,rv,w8⟩
   | true =>
    rw[if_pos rfl] at q8 ⊢;refine Qc (he _ _ s8 σ7 H8 _ I8 q8) λz s9 ⟨y,H9,I9,r9,q9⟩=>?_
    obtain ⟨J1,J2,J3⟩:=back I9;obtain ⟨m',hm,w9⟩:=hNY y H9 q9;have pD:=J1.pin (s2.heap.objs.size,lobj its k) (by simp);have hl:=rv.length;refine call_meets F.slot_list_append ⟨_,pD.1,rfl⟩ F.entry_list_append (F.args_list_append_2 _ _) (PySem.list_append s2.heap.objs.size its.toArray k z (by rw[aT];lia)) ⟨pD.1,?_⟩;have e9:=kW pD.1 (λa=>a.push z);have e9':(its.toArray.push z)=(its++[z]).toArray:=by simp
    rw[e9'] at e9;obtain ⟨n',e9⟩:∃n',(s9.heap.update s2.heap.objs.size (Obj.mapSeq λa=>a.push z)).get? s2.heap.objs.size=some (lobj (its++[z]) n'):=⟨_,e9⟩
    have J4:Inv (xp X own capN scope ⟨s2,H2,fp,s2.heap.objs.size+1⟩) [] σ7 H9 { s9 with heap:=s9.heap.update s2.heap.objs.size (Obj.mapSeq λa=>a.push z),toks:=s9.toks } :=
     (J1.pins_of (pins':=[]) λp hp=>nomatch hp).turned (λb o hb e=>(Heap.get?_update_other s9.heap _ (Ne.symm hb)).trans e) pD.2.1 pD.2.2.1 (.inr (ah _)) (λx c hx z=>by
      rcases jy (Z:=⟨s2,H2,fp,s2.heap.objs.size+1⟩) B I2 hx with ⟨_,m⟩ | ⟨_,_,m⟩
      ·have:=(hcl.empty _ _ m).2;have z':@Eq Nat c s2.heap.objs.size:=z
       lia
      ·have:=DI (Z:=⟨s2,H2,fp,s2.heap.objs.size+1⟩) I2 m;rw[z] at this;exact d6 _ this) λp hp=>by simp [xp] at hp
    have nfp:∀b∈fp,b≠s2.heap.objs.size:=λb hb z=>by have:=(hfp b hb).2;rw[z] at this;exact d6 _ this
    refine ⟨m',hm,i+1,ys++[y],σ7,H9,its++[z],n',J4.pins_of λp hp=>?_,T.keep _ _ _ J2 λb hb o e=>(Heap.get?_update_other s9.heap _ (Ne.symm (nfp b hb))).trans e,J3,rv.append (.cons r9 .nil),w9⟩;have ep:p=(s2.heap.objs.size,lobj (its++[z]) n'):=by simpa using hp
    rw[ep];exact ⟨e9,pD.2.1,pD.2.2.1,pD.2.2.2.1,λv z=>nomatch z⟩
 exact codeAny_compStart_list loop (T.self _ _ _ _ _ st3 loop)
theorem b7 (own capN:List Str) (cap:List Nat) (hi:PI X tg iter wi) (hg:∀Z,PG (xp X own capN scope Z) tg g) (hf:∀Z,PF (xp X own capN scope Z) ifs tf) (he:∀Z,PE (xp X own capN scope Z) elt te)
  (h1:TQ scope own capN=true:=by decide +kernel) (h2:BR X.env capN=true:=by rfl) (hcap:wQ X capN cap:=by rfl) (hc:X.calm=true:=by rfl) (hs:∀x,foldedSetIterable iter X.env x=pure x:=by intro _;rfl) :
  PE X (.ListComp elt [⟨tg,iter,ifs,0⟩] scope pos) (Ef wi own.length cap g tf te):=by
 intro pins s σ H Q I h;rw[eval_ListComp];refine BP (use:=none) hc (Bk.of h1 h2) hcap hi hg hf he hs I h λD C s' H' I' fC hm q=>?_
 obtain ⟨m,hm⟩:=hm;refine ⟨m,hm,λh' hs'=>?_⟩;obtain ⟨f0,f1,f2,f3,f4,f5⟩:=fC;exact ⟨.ref D,H',I'.turned (t':=s'.toks) (λb o hb e=>(hs'.2 b hb).trans e) f0 f1 f3 f4 f5,rfl,q⟩
theorem mB (i:Nat) (own capN:List Str) (cap:List Nat) {x:Str} {pos' spos:Pos} (hN:X.N.Nodup) (hi':X.N[i]?=some x) (hx:X.env.scope.names.lookup x=some .local) (hi:PI X tg iter wi) (hg:∀Z,PG (xp X own capN scope Z) tg g) (hf:∀Z,PF (xp X own capN scope Z) ifs tf) (he:∀Z,PE (xp X own capN scope Z) elt te)
  (h1:TQ scope own capN=true:=by decide +kernel) (h2:BR X.env capN=true:=by rfl) (hcap:wQ X capN cap:=by rfl) (hc:X.calm=true:=by rfl) (hs:∀x,foldedSetIterable iter X.env x=pure x:=by intro _;rfl)
  (hsw:swapsWith (.ListComp elt [⟨tg,iter,ifs,0⟩] scope pos) (some (.Name x pos')) spos.line X.env=pure true:=by rfl) :
  PS X (.Assign [.Name x pos'] (.ListComp elt [⟨tg,iter,ifs,0⟩] scope pos) spos) (Lc (Ef wi own.length cap g tf te) (BJ i)):=by
 intro pins s σ H D I h;rw[exec_Assign_Name_used _ _ _ _ hsw];refine wpAny_bind (wpAny_standAt (wpAny_bind ?_));rw[arm_evalThenUse_ListComp];refine wpAny_bind (BP (Q:=λv H1=>D.nx (σ.set i (some v)) H1) (use:=some _) hc (Bk.of h1 h2) hcap hi hg hf he hs I h λL C s' H' I' fC hm q=>?_);obtain ⟨m,hm⟩:=hm;obtain ⟨f0,f1,f2,f3,f4,f5⟩:=fC;refine wpAny_assign_Name (Bc I' hN hi' (.inl hx) (v:=.ref L) rfl (λs'' I'' ⟨a,sb,ha⟩=>?_) (.inr hx))
 have hCa:C≠a:=by
  rcases ha with e | e
  ·rw[e];exact f1
  ·exact (f4 x a e).symm
 refine ⟨m,hm.at' λo e=>(sb.2 C hCa).trans e,λh' hs'=>?_⟩;have I3:=I''.turned (h':=h') (t':=s''.toks) (λb o hb e=>(hs'.2 b hb).trans e) f0 f1 f3 f4 f5;exact wpAny_pure (wpAny_pure ⟨_,H',I3,q⟩)
end
section
variable {K:FG9} {a:Addr} {xs:List V} {g:TG} {tf:TT} {te:TE} {Q:VK} {σ₀:St} {H:Hp}
theorem eT (Pv:Nat->List V->Hp->Prop) (hz:xs.length<=sizeLine) (h0:Pv 0 [] H) (hl:∀i ys H,i<=xs.length->Pv i ys H->bo K H a xs)
  (hs:∀i x ys H,xs[i]?=some x->ys.length<=i->Pv i ys H->rj σ₀ g tf te x H (λy H'=>Pv (i+1) (ys++[y]) H') (λH'=>Pv (i+1) ys H'))
  (hd:∀ys H,ys.length<=xs.length->Pv xs.length ys H->∀p,H p=none->Q (.ref p) (upd H p (.lst ys))):sT (PU K a) σ₀ g tf te Q H:=by
 refine ⟨λi m ys H=>m=xs.length - i/\i<=xs.length/\ys.length<=i/\Pv i ys H,⟨xs.length,by simp,aS _,aS _,h0⟩,?_⟩;rintro i m ys H ⟨rfl,hi,hy,p⟩;have q:=hl i ys H hi p;by_cases hlt:i < xs.length
 ·refine .inr ⟨⟨xs,xs[i],q,by simp [hlt]⟩,by lia,λy H'=>Pv (i+1) (ys++[y]) H',λH'=>Pv (i+1) ys H',λy H' p'=>⟨xs.length - (i+1),by lia,rfl,hlt,by rw[ao,aO];lia,p'⟩,λH' p'=>⟨xs.length - (i+1),by lia,rfl,hlt,by lia,p'⟩,λx H' y=>?_⟩;obtain ⟨e,y⟩:=y;subst e;exact hs i x ys _ (y xs q) hy p
 ·have e:i=xs.length:=by lia
  subst e;exact .inl ⟨⟨xs,q,ah _⟩,by lia,hd ys H hy p⟩
theorem qL {lo:Int} (Pv:Nat->List V->Hp->Prop) (hz:n<=sizeLine) (h0:Pv 0 [] H)
  (hs:∀i ys H,i < n->ys.length<=i->Pv i ys H->rj σ₀ g tf te (.int (lo+i)) H (λy H'=>Pv (i+1) (ys++[y]) H') (λH'=>Pv (i+1) ys H'))
  (hd:∀ys H,ys.length<=n->Pv n ys H->∀p,H p=none->Q (.ref p) (upd H p (.lst ys))):sT (F8 lo n) σ₀ g tf te Q H:=by
 refine ⟨λi m ys H=>m=n - i/\i<=n/\ys.length<=i/\Pv i ys H,⟨n,by simp,aS _,aS _,h0⟩,?_⟩;rintro i m ys H ⟨rfl,hi,hy,p⟩;by_cases hlt:i < n
 ·refine .inr ⟨hlt,by lia,λy H'=>Pv (i+1) (ys++[y]) H',λH'=>Pv (i+1) ys H',λy H' p'=>⟨n - (i+1),by lia,rfl,hlt,by rw[ao,aO];lia,p'⟩,λH' p'=>⟨n - (i+1),by lia,rfl,hlt,by lia,p'⟩,λx H' y=>?_⟩;obtain ⟨e,y⟩:=y;subst e y;exact hs i ys _ hlt hy p
 ·have e:i=n:=by lia
  subst e;exact .inl ⟨ah _,by lia,hd ys H hy p⟩
end
open Nm
def eK (i j:Int):Prop:=RT i j\/∃m n,Sz m i/\Sz n j/\m+n<=1000000
def qW (i j:Int):Prop:=j≠0/\Sz 8999 j
theorem zP (h:Sz k i):Builtin.Int.intBits i<=k:=by
 unfold Builtin.Int.intBits;by_cases e:i=0
 ·subst e;simp
 ·have e':(i == 0)=false:=by simpa using e
  rw[e'];have hn:i.natAbs≠0:=by lia
  have:=(Nat.log2_lt hn).mpr h;simp only[jh,if_false]
  lia
theorem eK.ok (h:eK i j):IntMulOk i j:=by
 rcases h with h | ⟨m,n,h1,h2,h3⟩
 ·exact h.ok
 ·have e:(2:Nat)^20=1048576:=by decide
  exact .of_bits (by have:=zP h1;lia) (by have:=zP h2;lia)
section
variable {X:Cx} {a b:Expr} {ta tb:TE} {pos:Pos}
theorem cw:wO X (binaryOp .Mult) (rI eK λi j=>.int (i*j)):=TM λ_ _ _ _ _ _ _ hc q=>mul_int q hc.ok
theorem jK:wO X (binaryOp .FloorDiv) (rI qW λi j=>.int (i.fdiv j)):=TM λi j _ _ _ _ _ hc q=>by
 refine floordiv_int hc.1 q (.inl (PyProof.noPylong_of_log2 ?_));have hn:j.natAbs≠0:=by have:=hc.1;lia
 have:=(Nat.log2_lt hn).mpr hc.2
 lia
def Se (t u:TS):TS:=λD σ H=>∃N:St->Hp->Prop,t { D with nx:=N } σ H/\∀σ' H',N σ' H'->u D σ' H'
theorem fV {st:Stmt} (h1:PS X st t) (h2:A0 X rest u):A0 X (st :: rest) (Se t u):=by
 intro pins s σ H D I h;obtain ⟨N,h,k⟩:=h;refine wpAny_execs_cons (fP (h1 pins s σ H { D with nx:=N } I h) λf s1 q=>?_);cases f with
 | next =>
  obtain ⟨σ',H',I',q⟩:=q;exact h2 pins s1 σ' H' D I' (k _ _ q)
 | ret v=>exact q
 | brk=>exact q
 | cont=>exact q
def Pl (K:FG9):V->V->Hp->VK->Prop:=λo i H Q=>∃p xs k v,o=.ref p/\i=.int k/\bo K H p xs/\F6 xs k=some v/\Q v H
theorem Mo:Tr X (Pl X.K):=by
 intro pins s σ H o i ov iv Q I ro ri h;obtain ⟨p,xs,k,z,rfl,rfl,hq,he,q⟩:=h;cases ro;obtain ⟨t,rfl⟩:=ri;obtain ⟨its,r,pl,hz⟩:=I.list hq;obtain ⟨j,h1,h2,h3,h4,h5⟩:=DJ he;obtain ⟨w,ew,rw'⟩:=r.get h2;have hl:=r.length;have hn:=zz;have fin:EP X pins σ Q w s:=⟨z,H,I,rw',q⟩;by_cases h0:0<=k
 ·have hj:k.toNat=j:=by
   rw[seqIndex_of h0 h5] at h1;exact bO h1
  exact wpAny_getItem_list pl.isList h0 (by lia) (by rw[hj];simpa using ew) fin
 ·have hj:(k+(its.toArray.size:Int)).toNat=j:=by
   rw[seqIndex_neg (by lia) h4] at h1;rw[aT,<- hl];exact bO h1
  exact wpAny_getItem_list_neg pl.isList (by lia) (by rw[aT] <;> lia) (by lia) (by rw[hj];simpa using ew) fin
def JQ (K:FG9) (T:String):V->Hp->VK->Prop:=λx H Q=>∃t b,wb K H x t/\PySem.W.kitOne K t (.type T)=some b/\Q (.bl b) H
theorem yP {c:Str} {T:String} {p p2:Pos} (hg:Gl X "isinstance") (hm:X.mg "isinstance"=none) (hb:bootBuiltins c=some (.type T)) (hmc:X.mg c=none) (ha:PE X a ta) (hgc:Gl X c:=by rfl) (hn:c≠"__name__":=by decide)
  (hd:(c == ("__debug__":Str))=false:=by decide) (he:starEach [a,.Name c p2] X.env=[(false,eval a X.env),(false,eval (.Name c p2) X.env)]:=by rfl)
  (hpl:(backTo pos (starEach [.Name c p2] X.env)).any (·.1)=false:=by rfl) (he2:starEach [.Name c p2] X.env=[(false,eval (.Name c p2) X.env)]:=by rfl):PE X (.Call (.Name "isinstance" p) [a,.Name c p2] [] pos) (TL (JQ X.K T) ta):=by
 intro pins s σ H Q I h;refine wpAny_Call_Name_kw (kE I hg hm PyProof.Rows.boot_isinstance ?_);have hA:PA X [a,.Name c p2] (iZ ta (iZ (tC (.ty T)) yd)):=fF ha (fF (CN hgc hmc hb rfl hn hd) kz he2) (by rw[he,he2])
 have hq:iZ ta (iZ (tC (.ty T)) yd) σ H (λvs H1=>∃x,vs=[x,.ty T]/\JQ X.K T x H1 Q):=by
  show ta σ H λx H1=>∃x',[x,V.ty T]=[x',V.ty T]/\JQ X.K T x' H1 Q
  have e:(λx H1=>∃x',[x,V.ty T]=[x',V.ty T]/\JQ X.K T x' H1 Q)=λx H1=>JQ X.K T x H1 Q:=by
   funext x H1;apply propext;constructor
   ·rintro ⟨x',e,q⟩;cases e;exact q
   ·intro q;exact ⟨x,rfl,q⟩
  rw[e];exact h
 refine PyProof.Rows.callWith_builtin1 (fP (hA pos pins s σ H _ I hq) λus s1 ⟨vs,H1,I1,r1,x,e,q1⟩=>?_) (by rw[he,he2]) hpl;subst e;obtain ⟨u,w',rfl,ru,rt⟩:=vals2 r1;cases rt;obtain ⟨t,bb,ty,ek,q⟩:=q1;exact BG I1 ru ty ek λtk=>⟨.bl bb,H1,I1.tok tk,rfl,q⟩
end
structure Kind (α:Type) [DecidableEq α] where
 R:FG9->Hp->V->α->Prop
 d:Nat
 inj:∀{X:Cx} {pins:List (Addr×Obj)} {σ:St} {H:Hp} {s:Shared} {x:V} {a b:α},Inv X pins σ H s->R X.K H x a->R X.K H x b->a=b
 rc:∀{X:Cx} {pins:List (Addr×Obj)} {σ:St} {H:Hp} {s:Shared} {x y:V} {v u:Value} {a b:α} {A:Around},Inv X pins σ H s->RelV x v->RelV y u->R X.K H x a->R X.K H y b->A.units+d < cLine->SeqAt.RcAt A s v u (decide (a=b))
 ne:∀{X:Cx} {pins:List (Addr×Obj)} {σ:St} {H:Hp} {s:Shared} {x y:V} {v u:Value} {a b:α} {A:Around},Inv X pins σ H s->RelV x v->RelV y u->R X.K H x a->R X.K H y b->A.units+d < cLine->SeqAt.RcNeAt A s v u (!decide (a=b))
 eq:∀{X:Cx} {pins:List (Addr×Obj)} {σ:St} {H:Hp} {s:Shared} {x y:V} {v u:Value} {a b:α} {A:Around},Inv X pins σ H s->RelV x v->RelV y u->R X.K H x a->R X.K H y b->A.units+d < cLine->SeqAt.EqAt A s v u (decide (a=b))
def Uc:Kind Int where
 R:=λ_ _ x i=>x=.int i
 d:=0
 inj:=λ_ h1 h2=>by rw[h1] at h2;cases h2;rfl
 rc:=λ{X pins σ H s x y v u a b A} I rx ry h1 h2 _=>by
  subst h1 h2;obtain ⟨t,rfl⟩:=rx;obtain ⟨t',rfl⟩:=ry;have q:=SeqAt.RcAt.int_int (A:=A) (s:=s) a t b t';rwa [gQ] at q
 ne:=λ{X pins σ H s x y v u a b A} I rx ry h1 h2 _=>by
  subst h1 h2;obtain ⟨t,rfl⟩:=rx;obtain ⟨t',rfl⟩:=ry;have q:=SeqAt.RcNeAt.int_int (A:=A) (s:=s) a t b t';rwa [gQ] at q
 eq:=λ{X pins σ H s x y v u a b A} I rx ry h1 h2 _=>by
  subst h1 h2;obtain ⟨t,rfl⟩:=rx;obtain ⟨t',rfl⟩:=ry;have q:=SeqAt.EqAt.int_int (A:=A) (s:=s) a t b t';rwa [gQ] at q
theorem ky {α β:Type} {F:α->β->Prop}:∀{l1:List α} {l2:List β} {i:Nat} (_:Paired F l1 l2) (h1:i < l1.length) (h2:i < l2.length),F l1[i] l2[i]
 | _,_,_,.nil,h1,_=>absurd h1 (cH _)
 | _,_,0,.cons r _,_,_=>r
 | _,_,i+1,.cons _ t,h1,h2=>ky (i:=i) t (Nat.lt_of_succ_lt_succ h1) (Nat.lt_of_succ_lt_succ h2)
theorem m9 {α β:Type} {F:α->β->Prop} (hF:∀a b x,F a x->F b x->a=b):∀{l1 l2:List α} {l:List β},Paired F l1 l->Paired F l2 l->l1=l2
 | _,_,_,.nil,.nil=>rfl
 | _,_,_,.cons r t,.cons r' t'=>by rw[hF _ _ _ r r',m9 hF t t']
theorem u0 {α:Type} [DecidableEq α] (as bs:List α) (h:as.length=bs.length):(List.range as.length).all (λj=>decide (as[j]?=bs[j]?))=decide (as=bs):=by
 rw[mO,pH,decide_eq_true_iff];constructor
 ·intro q;apply oz;intro i;by_cases hi:i < as.length
  ·exact of_decide_eq_true (q i (iU.mpr hi))
  ·rw[aH (by lia),aH (by lia)]
 ·rintro rfl i _;simp
section
variable {α:Type} [DecidableEq α] (k:Kind α)
theorem Kind.items {X:Cx} {pins:List (Addr×Obj)} {σ:St} {H:Hp} {s:Shared} {A:Around} (I:Inv X pins σ H s) (hA:A.units+k.d < cLine) {xs ys:List V} {us ws:List Value} {as bs:List α}
  (rx:cJ xs us) (ry:cJ ys ws) (ha:Paired (λa x=>k.R X.K H x a) as xs) (hb:Paired (λa x=>k.R X.K H x a) bs ys) :
  ∀j (h1:j < us.toArray.size) (h2:j < ws.toArray.size),SeqAt.EqAt A s us.toArray[j] ws.toArray[j] (decide (as[j]?=bs[j]?)):=λj h1 h2=>by
 have l1:j < us.length:=by simpa using h1
 have l2:j < ws.length:=by simpa using h2
 have e1:=rx.length;have e2:=ry.length;have e3:=ha.length;have e4:=hb.length;obtain ⟨u,hu,ru⟩:=rx.get (i:=j) (x:=xs[j]'(by lia)) (by simp);obtain ⟨w,hw,rw'⟩:=ry.get (i:=j) (x:=ys[j]'(by lia)) (by simp);have q:=k.eq (A:=A) I ru rw' (ky ha (by lia) (by lia)) (ky hb (by lia) (by lia)) hA
 have eu:us.toArray[j]=u:=by
  have:=hu;rw[ae l1] at this;simpa using this
 have ew:ws.toArray[j]=w:=by
  have:=hw;rw[ae l2] at this;simpa using this
 rw[eu,ew,ae (show j < as.length by lia),ae (show j < bs.length by lia)];have e5:decide (some as[j]=some bs[j])=decide (as[j]=bs[j]):=by simp
 rw[e5];exact q
theorem Cb {α:Type} [DecidableEq α] (as bs:List α) {n m:Nat} (h1:as.length=n) (h2:bs.length=m):((List.range (min n m)).all (λj=>decide (as[j]?=bs[j]?)) && n == m)=decide (as=bs):=by
 subst h1 h2;by_cases e:as.length=bs.length
 ·rw[show min as.length bs.length=as.length by lia,u0 as bs e];simp [e]
 ·have h1:(as.length == bs.length)=false:=by simpa using e
  rw[h1,PX];exact (decide_eq_false λz=>e (by rw[z])).symm
def Ua:Kind (List α) where
 R:=λK H x as=>∃p xs,x=.ref p/\qO K H p xs/\Paired (λa x=>k.R K H x a) as xs
 d:=k.d+1
 inj:=λ{X pins σ H s x a b} I h1 h2=>by
  obtain ⟨p,xs,rfl,hp,pa⟩:=h1;obtain ⟨q,ys,e,hq,pb⟩:=h2;cases e;have e:=I.tuple_inj hp hq;subst e;exact m9 (F:=λa x=>k.R X.K H x a) (λa b x=>k.inj I) pa pb
 rc:=λ{X pins σ H s x y v u a b A} I rx ry h1 h2 hA=>by
  obtain ⟨p,xs,rfl,hp,pa⟩:=h1;obtain ⟨q,ys,rfl,hq,pb⟩:=h2;cases rx;cases ry;obtain ⟨us,r1,t1,_⟩:=I.tuple hp;obtain ⟨ws,r2,t2,_⟩:=I.tuple hq;have z:=SeqAt.RcAt.tuples (A:=A) (e:=λj=>decide (a[j]?=b[j]?)) (show s.heap.IsTuple p us.toArray from t1) (show s.heap.IsTuple q ws.toArray from t2) (by lia) (k.items (A:=A.in1) I (by show A.units+1+k.d < cLine;lia) r1 r2 pa pb);rwa [Cb a b (by rw[pa.length,r1.length];simp) (by rw[pb.length,r2.length];simp)] at z
 ne:=λ{X pins σ H s x y v u a b A} I rx ry h1 h2 hA=>by
  obtain ⟨p,xs,rfl,hp,pa⟩:=h1;obtain ⟨q,ys,rfl,hq,pb⟩:=h2;cases rx;cases ry;obtain ⟨us,r1,t1,_⟩:=I.tuple hp;obtain ⟨ws,r2,t2,_⟩:=I.tuple hq;have z:=SeqAt.RcNeAt.tuples (A:=A) (e:=λj=>decide (a[j]?=b[j]?)) (show s.heap.IsTuple p us.toArray from t1) (show s.heap.IsTuple q ws.toArray from t2) (by lia) (k.items (A:=A.in1) I (by show A.units+1+k.d < cLine;lia) r1 r2 pa pb);rwa [Cb a b (by rw[pa.length,r1.length];simp) (by rw[pb.length,r2.length];simp)] at z
 eq:=λ{X pins σ H s x y v u a b A} I rx ry h1 h2 hA=>by
  obtain ⟨p,xs,rfl,hp,pa⟩:=h1;obtain ⟨q,ys,rfl,hq,pb⟩:=h2;cases rx;cases ry;by_cases e:p=q
  ·subst e;have e:=I.tuple_inj hp hq;subst e;rw[m9 (F:=λa x=>k.R X.K H x a) (λa b x=>k.inj I) pa pb,decide_eq_true rfl];exact SeqAt.EqAt.same _
  ·obtain ⟨us,r1,t1,_⟩:=I.tuple hp;obtain ⟨ws,r2,t2,_⟩:=I.tuple hq;have z:=SeqAt.RcAt.tuples (A:=A) (e:=λj=>decide (a[j]?=b[j]?)) (show s.heap.IsTuple p us.toArray from t1) (show s.heap.IsTuple q ws.toArray from t2) (by lia) (k.items (A:=A.in1) I (by show A.units+1+k.d < cLine;lia) r1 r2 pa pb);rw[Cb a b (by rw[pa.length,r1.length];simp) (by rw[pb.length,r2.length];simp)] at z;exact .of_refs e z
theorem Hq {X:Cx} {pins:List (Addr×Obj)} {σ:St} {H:Hp} {s:Shared} {p q:Addr} {xs ys:List V} {a b:List α} {A:Around} (I:Inv X pins σ H s) (hp:bo X.K H p xs) (hq:bo X.K H q ys)
  (pa:Paired (λa x=>k.R X.K H x a) a xs) (pb:Paired (λa x=>k.R X.K H x a) b ys) (hA:A.units+(k.d+1) < cLine) :
  SeqAt.RcAt A s (.ref p) (.ref q) (decide (a=b))/\SeqAt.RcNeAt A s (.ref p) (.ref q) (!decide (a=b)):=by
 obtain ⟨us,r1,t1,_⟩:=I.list hp;obtain ⟨ws,r2,t2,_⟩:=I.list hq;have l1:=r1.length;have l2:=r2.length;have l3:=pa.length;have l4:=pb.length;by_cases e:us.length=ws.length
 ·have it:=k.items (A:=A.in1) I (by show A.units+1+k.d < cLine;lia) r1 r2 pa pb;have z:=SeqAt.RcAt.lists (A:=A) (e:=λj=>decide (a[j]?=b[j]?)) t1.isList t2.isList (by simpa using e) (by lia) it;have z2:=SeqAt.RcNeAt.lists (A:=A) (e:=λj=>decide (a[j]?=b[j]?)) t1.isList t2.isList (by simpa using e) (by lia) it;have e1:us.toArray.size=a.length:=by rw[aT];lia
  rw[e1,u0 a b (by lia)] at z z2;exact ⟨z,z2⟩
 ·have hne:¬a=b:=λz=>e (by have:=congrArg List.length z;lia)
  rw[decide_eq_false hne];exact ⟨SeqAt.RcAt.lists_lengths t1.isList t2.isList (by simpa using e) (by lia),SeqAt.RcNeAt.lists_lengths t1.isList t2.isList (by simpa using e) (by lia)⟩
def SY:Kind (List α) where
 R:=λK H x as=>∃p xs,x=.ref p/\bo K H p xs/\Paired (λa x=>k.R K H x a) as xs
 d:=k.d+1
 inj:=λ{X pins σ H s x a b} I h1 h2=>by
  obtain ⟨p,xs,rfl,hp,pa⟩:=h1;obtain ⟨q,ys,e,hq,pb⟩:=h2;cases e;have e:=I.list_inj hp hq;subst e;exact m9 (F:=λa x=>k.R X.K H x a) (λa b x=>k.inj I) pa pb
 rc:=λ{X pins σ H s x y v u a b A} I rx ry h1 h2 hA=>by
  obtain ⟨p,xs,rfl,hp,pa⟩:=h1;obtain ⟨q,ys,rfl,hq,pb⟩:=h2;cases rx;cases ry;exact (Hq k I hp hq pa pb hA).1
 ne:=λ{X pins σ H s x y v u a b A} I rx ry h1 h2 hA=>by
  obtain ⟨p,xs,rfl,hp,pa⟩:=h1;obtain ⟨q,ys,rfl,hq,pb⟩:=h2;cases rx;cases ry;exact (Hq k I hp hq pa pb hA).2
 eq:=λ{X pins σ H s x y v u a b A} I rx ry h1 h2 hA=>by
  obtain ⟨p,xs,rfl,hp,pa⟩:=h1;obtain ⟨q,ys,rfl,hq,pb⟩:=h2;cases rx;cases ry;by_cases e:p=q
  ·subst e;have e:=I.list_inj hp hq;subst e;rw[m9 (F:=λa x=>k.R X.K H x a) (λa b x=>k.inj I) pa pb,decide_eq_true rfl];exact SeqAt.EqAt.same _
  ·exact .of_refs e (Hq k I hp hq pa pb hA).1
def Kind.via {β:Type} [DecidableEq β] (f:β->α) (fi:∀a b,f a=f b->a=b) (R':FG9->Hp->V->β->Prop) (im:∀{K H x b},R' K H x b->k.R K H x (f b)):Kind β where
 R:=R'
 d:=k.d
 inj:=λI h1 h2=>fi _ _ (k.inj I (im h1) (im h2))
 rc:=λ{X pins σ H s x y v u a b A} I rx ry h1 h2 hA=>by
  have z:=k.rc (A:=A) I rx ry (im h1) (im h2) hA;rwa [decide_eq_decide.mpr (show f a=f b↔a=b from ⟨fi a b,λe=>by rw[e]⟩)] at z
 ne:=λ{X pins σ H s x y v u a b A} I rx ry h1 h2 hA=>by
  have z:=k.ne (A:=A) I rx ry (im h1) (im h2) hA;rwa [decide_eq_decide.mpr (show f a=f b↔a=b from ⟨fi a b,λe=>by rw[e]⟩)] at z
 eq:=λ{X pins σ H s x y v u a b A} I rx ry h1 h2 hA=>by
  have z:=k.eq (A:=A) I rx ry (im h1) (im h2) hA;rwa [decide_eq_decide.mpr (show f a=f b↔a=b from ⟨fi a b,λe=>by rw[e]⟩)] at z
end
def FX (K:FG9) (H:Hp) (x:V) (n:Int×Int):Prop:=∃p,x=.ref p/\qO K H p [.int n.1,.int n.2]
def SX:Kind (Int×Int):=(Ua Uc).via (λn=>[n.1,n.2]) (λa b e=>by cases a;cases b;simp at e;rw[e.1,e.2]) FX λ⟨p,e,h⟩=>⟨p,_,e,h,.cons rfl (.cons rfl .nil)⟩
def T8 (K:FG9):R2:=λx y H Q=>∃(α:Type) (_:DecidableEq α) (k:Kind α) (a b:α),k.d<=50/\k.R K H x a/\k.R K H y b/\Q (.bl (decide (a=b))) H
def SJ (K:FG9):R2:=λx y H Q=>∃(α:Type) (_:DecidableEq α) (k:Kind α) (a b:α),k.d<=50/\k.R K H x a/\k.R K H y b/\Q (.bl (!decide (a=b))) H
theorem yV (hu:X.A.units+50 < cLine):wO X (compareOp .Eq) (T8 X.K):=by
 intro pins s σ H x y v u Q I rx ry h;obtain ⟨α,_,k,a,b,hd,ha,hb,q⟩:=h;exact k.rc (A:=X.A) I rx ry ha hb (by lia) _ _ _ _ ⟨.bl (decide (a=b)),H,I,rfl,q⟩
theorem yT (hu:X.A.units+50 < cLine):wO X (compareOp .NotEq) (SJ X.K):=by
 intro pins s σ H x y v u Q I rx ry h;obtain ⟨α,_,k,a,b,hd,ha,hb,q⟩:=h;exact k.ne (A:=X.A) I rx ry ha hb (by lia) _ _ _ _ ⟨.bl (!decide (a=b)),H,I,rfl,q⟩
theorem Aw (hr:jv k A):A.units+50 < cLine:=by have:=hr.units;lia
def Inner (H:Hp) (p q:Addr):Prop:=∃a b c:Int,H p=some (.lst [.int a,.int b,.int c,.ref q])
def dB (p:Addr) (H H':Hp):Prop:=(∀b o,H b=some o->b≠p->H' b=some o)/\∀q,Inner H p q->Inner H' p q
theorem dB.refl (H:Hp):dB p H H:=⟨λ_ _ h _=>h,λ_ h=>h⟩
theorem dB.trans (a:dB p H H1) (b:dB p H1 H2):dB p H H2:=⟨λc o h n=>b.1 c o (a.1 c o h n) n,λq h=>b.2 q (a.2 q h)⟩
theorem Inner.inj (h:Inner H p q) (h':Inner H p q'):q=q':=by
 obtain ⟨a,b,c,e⟩:=h;obtain ⟨a',b',c',e'⟩:=h';rw[e] at e';have:=HO.lst.inj (bO e');simp at this;exact this.2.2.2
theorem dB.set (h:H p=some (.lst [.int a,.int b,.int c,.ref q])):dB p H (upd H p (.lst [.int a',.int b',.int c',.ref q])) :=
 ⟨λb u h n=>by rw[aJ n];exact h,λq' h'=>by
  rw[(Inner.inj ⟨a,b,c,h⟩ h').symm];exact ⟨a',b',c',az⟩⟩
theorem aA.upto (h:aA H H'):dB p H H':=⟨λb o e _=>h b o e,λq ⟨a,b,c,e⟩=>⟨a,b,c,h _ _ e⟩⟩
theorem aA.new (h:H p=Option.none):aA H (upd H p o):=λb u e=>by rw[aJ (dg e h)];exact e
theorem aA.sqt {K:FG9} (e:aA H H') (h:qO K H a xs):qO K H' a xs:=by
 rcases h with (h | ⟨o,h⟩) | h
 ·exact .inl (.inl (e _ _ h))
 ·exact .inl (.inr ⟨o,e _ _ h⟩)
 ·exact .inr h
theorem aA.num {K:FG9} (e:aA H H') (h:FX K H x n):FX K H' x n:=by obtain ⟨p,q,r⟩:=h;exact ⟨p,q,e.sqt r⟩
section
variable {σ:St} {H:Hp} {D:Ends}
theorem lg {t:TS} (e:σ0=σ) (h:t D σ H):t D σ0 H:=by rw[e];exact h
theorem Qr (h:t { D with nx:=u D } σ H):Sf t u D σ H:=h
theorem NK (h:D.nx σ H):Pc D σ H:=h
theorem QI {g:TG} (h:te σ H λx H1=>g x σ H1 D.nx):Lc te g D σ H:=h
theorem LG (h:Q (σ.set i (some v)) H):BJ i v σ H Q:=h
theorem Qs (h:te σ H D.rt):Sg te D σ H:=h
theorem QC (h:c σ H λb H1=>if b=true then t D σ H1 else u D σ H1):Sl c t u D σ H:=h
theorem NU (h:te σ H λ_ H1=>D.nx σ H1):Pe te D σ H:=h
theorem Qt (h:ta σ H λvs H1=>∃v w,vs=[v,w]/\D.nx ((σ.set i (some v)).set j (some w)) H1):Sh i j ta D σ H:=h
theorem NZ 
  (h:to σ H λo H1=>ti σ H1 λi H2=>tget o i H2 λx H3=>te σ H3 λy H4=>tip x y H4 λz H5=>tset o i z H5 λH6=>D.nx σ H6):Pf to ti te tget tip tset D σ H:=h
theorem Qz (h:Q (.int (f i j)) H):ipI f (.int i) (.int j) H Q:=⟨i,j,rfl,rfl,h⟩
theorem QE {g:TG} (h:wi σ H λJ H1=>∃W:Nat->Nat->St->Hp->Prop,(∃m,W 0 m σ H1)/\∀i m σ H,W i m σ H →
  (J.stop i H/\D.nx σ H)\/(J.go i H/\∃N:St->Hp->Prop,(∀σ' H',N σ' H'->∃m',m' < m/\W (i+1) m' σ' H')/\∀x H',J.yld i H x H'->g x σ H' λσ2 H2=>tb { D with nx:=N,ct:=N,bk:=D.nx } σ2 H2)):Sm wi g tb D σ H:=h
variable {Q:VK} {QA:List V->Hp->Prop} {QB:Bool->Hp->Prop}
theorem Qo (e:σ[i]?=some (some v)) (h:Q v H):Qd i σ H Q:=⟨v,e,h⟩
theorem T5 (h:Q v H):tC v σ H Q:=h
theorem SD (h:ta σ H λx H1=>tb σ H1 λy H2=>r x y H2 Q):Si r ta tb σ H Q:=h
theorem Sv (h:ta σ H λx H1=>r x H1 Q):TL r ta σ H Q:=h
theorem SH {g:Int->Int->V} (h:Q (g i j) H):N4 g (.int i) (.int j) H Q:=⟨i,j,rfl,rfl,h⟩
theorem eZ {g:Int->Int->V} (hc:C i j) (h:Q (g i j) H):rI C g (.int i) (.int j) H Q:=⟨i,j,rfl,rfl,hc,h⟩
theorem T6 {g:Int->V} (h:Q (g i) H):rU g (.int i) H Q:=⟨i,rfl,h⟩
theorem QG (h:Q (.bl (decide (i=j))) H):rEq (.int i) (.int j) H Q:=⟨rfl,by
 have e:decide (V.int i=V.int j)=decide (i=j):=by simp
 rw[e];exact h⟩
theorem Qw (h:Q (.bl (!decide (i=j))) H):rNe (.int i) (.int j) H Q:=⟨rfl,by
 have e:decide (V.int i=V.int j)=decide (i=j):=by simp
 rw[e];exact h⟩
theorem NG (h:t σ H λx H'=>∃k,x=.bl k/\QB k H'):O9 t σ H QB:=h
theorem Sw (h:t σ H λx H'=>∃k,x=.bl k/\QB k H'):tB t σ H QB:=h
theorem QJ (h:t σ H λc H1=>if c=true then u σ H1 QB else QB false H1):So t u σ H QB:=h
theorem SA (h:t σ H λc H1=>if c=true then QB true H1 else u σ H1 QB):tOr t u σ H QB:=h
theorem Qu (h:t σ H λc H1=>QB (!c) H1):Sj t σ H QB:=h
theorem N2 (h:t σ H λx H1=>∃c,x=.bl c/\if c=true then u σ H1 Q else Q (.bl false) H1):Pg t u σ H Q:=h
theorem NJ (h:t σ H λx H1=>∃c,x=.bl c/\Q (.bl (!c)) H1):Pb t σ H Q:=h
theorem QD (h:c σ H λb H1=>if b=true then ta σ H1 Q else tb σ H1 Q):tIf c ta tb σ H Q:=h
theorem Qn (h:QB true H):Sa σ H QB:=h
theorem Qv (h:QA [] H):yd σ H QA:=h
theorem NV (h:ta σ H λx H1=>tr σ H1 λxs H2=>QA (x :: xs) H2):iZ ta tr σ H QA:=h
theorem NX (h:t σ H λvs H1=>sp vs H1 Q E):Lb sp [] E t σ H Q:=by
 have e:(λvs H1=>sp (vs++[]) H1 Q E)=λvs H1=>sp vs H1 Q E:=by funext vs H1;rw[eL]
 show t σ H λvs H1=>sp (vs++[]) H1 Q E
 rw[e];exact h
theorem SE (h:t σ H λvs H1=>r vs H1 Q):T4 r t σ H Q:=h
theorem Qy {K:FG9} (hx:qO K H p xs) (e:F6 xs i=some v) (h:Q v H):QL K (.ref p) (.int i) H Q:=⟨p,xs,i,v,rfl,rfl,hx,e,h⟩
theorem bS {K:FG9} (hx:bo K H p xs) (e:F6 xs i=some v) (h:Q v H):QM K (.ref p) (.int i) H Q:=⟨p,xs,i,v,rfl,rfl,hx,e,h⟩
theorem NT {K:FG9} (hx:bo K H p xs) (e:F6 xs i=some v) (h:Q v H):Pl K (.ref p) (.int i) H Q:=⟨p,xs,i,v,rfl,rfl,hx,e,h⟩
theorem d9 (hx:H p=some (.lst xs)) (e:KQ xs.length i=some j) (ey:xs.set j v=ys) (h:QH (upd H p (.lst ys))):Pk (.ref p) (.int i) v H QH:=⟨p,xs,i,j,rfl,rfl,hx,e,by rw[ey];exact h⟩
theorem NR (h:to σ H λo H1=>ti σ H1 λi H2=>t o i v H2 λH3=>QS σ H3):Td to ti t v σ H QS:=h
theorem LH (h:t v σ H λσ' H'=>u r σ' H' QS):PB t u (v :: r) σ H QS:=⟨v,r,rfl,h⟩
theorem NS (h:QS σ H):Te [] σ H QS:=⟨rfl,h⟩
theorem NQ {K:FG9} (hx:qO K H a xs) (hl:xs.length=n) (h:t xs σ H QS):Rj K n t (.ref a) σ H QS:=⟨a,xs,rfl,hx,hl,h⟩
theorem Sy (h:te σ H λx H1=>tl σ H1 λl H2=>th σ H2 λu H3=>r x l u H3 Q):tSl r te tl th σ H Q:=h
theorem JO (h:QO none H):Iv σ H QO:=h
theorem NI (h:t σ H λx H1=>∃i,x=.int i/\QO (some i) H1):Pa t σ H QO:=h
variable {R:It->Hp->Prop} {K:FG9}
theorem LC (h:tl σ H λx H1=>∃a,x=.ref a/\(∃xs,bo K H1 a xs)/\R (PU K a) H1):Mi K tl σ H R:=h
theorem NP (h:tl σ H λx H1=>∃a,x=.ref a/\(∃xs,qO K H1 a xs)/\R (RX K a) H1):S6 K tl σ H R:=h
theorem LB (h:ta σ H λvs H1=>∃j:Int,vs=[.int j]/\-(2^62)<=j/\j < 2^62/\R (F8 0 j.toNat) H1):Px ta σ H R:=h
theorem LA (h:ta σ H λvs H1=>∃i j:Int,vs=[.int i,.int j]/\(-(2^62)<=i/\i < 2^62/\-(2^62)<=j/\j < 2^62)/\R (F8 i (j - i).toNat) H1):Pw ta σ H R:=h
theorem NW {g:TG} (e:KN k cap σ=σ₀) (h:wi σ H λJ H1=>sT J σ₀ g tf te Q H1):Ef wi k cap g tf te σ H Q:=by
 unfold Ef;rw[e];exact h
theorem NF {g:TG} {NY:V->Hp->Prop} (h:g x σ H λσ2 H2=>tf σ2 H2 λb H3=>if b=true then te σ2 H3 NY else NN H3):rj σ g tf te x H NY NN:=h
theorem SG (h:to σ H λx H1=>TY K T x H1/\t σ H1 λxs H2=>r x xs H2 Q):tBM K T r to t σ H Q:=h
def Ts (Q:VK) (xs:List V) (H:Hp):Prop:=xs.length<=sizeLine/\∀p,H p=none->Q (.ref p) (upd H p (.tup xs))
def Tt (Q:VK) (xs:List V) (H:Hp):Prop:=xs.length<=sizeLine/\∀p,H p=none->Q (.ref p) (upd H p (.lst xs))
theorem Qp (h:t σ H (Ts Q)):Sb t σ H Q:=h
theorem Qx (h:t σ H (Tt Q)):Sk t σ H Q:=h
theorem i5 (h:Nat.ble n 1000=true):n<=sizeLine:=c6 (dF (Nat.le_of_ble_eq_true h))
theorem cM {xs:List V} (h:∀p H',aA H H'->H' p=some (.tup xs)->Q (.ref p) H') (hl:Nat.ble xs.length 1000=true:=by rfl):Ts Q xs H :=
 ⟨i5 hl,λp hp=>h p _ (aA.new hp) az⟩
theorem fg {xs:List V} (h:∀p H',aA H H'->H p=none->H' p=some (.lst xs)->Q (.ref p) H') (hl:Nat.ble xs.length 1000=true:=by rfl):Tt Q xs H :=
 ⟨i5 hl,λp hp=>h p _ (aA.new hp) hp az⟩
theorem S3 {A B:Prop} (h:B):if (!true)=true then A else B:=Ow h
theorem S4 {A B:Prop} (h:A):if (!false)=true then A else B:=S0 h
def WB (tb:TS) (D:Ends) (Pv:St->Hp->Prop) (μ:St->Hp->Nat) (n:Nat) (σ:St) (H:Hp):Prop:=∃N:St->Hp->Prop,(∀σ' H',N σ' H'->∃m',m' < n/\(m'=μ σ' H'/\Pv σ' H'))/\tb { D with nx:=N,ct:=N,bk:=D.nx } σ H
theorem Pj (h:tb { D with nx:=λσ' H'=>Pv σ' H'/\μ σ' H' < n,ct:=λσ' H'=>Pv σ' H'/\μ σ' H' < n,bk:=D.nx } σ H):WB tb D Pv μ n σ H :=
 ⟨_,λσ' H' ⟨p,l⟩=>⟨_,l,rfl,p⟩,h⟩
theorem xC (Pv:St->Hp->Prop) (μ:St->Hp->Nat) (h0:Pv σ H) (hs:∀σ H,Pv σ H->c σ H λb H1=>if b=true then WB tb D Pv μ (μ σ H) σ H1 else D.nx σ H1):K8 c tb D σ H:=by
 refine ⟨λm σ H=>m=μ σ H/\Pv σ H,⟨_,rfl,h0⟩,?_⟩;rintro m σ H ⟨rfl,p⟩;exact hs σ H p
end
def lK (H:Hp) (p:Addr):Prop:=∃(q:Addr) (a b c:Int) (cs:List Int),H p=some (.lst [.int a,.int b,.int c,.ref q])/\H q=some (.lst (cs.map V.int))/\0<=a/\0<=c/\c<=(cs.length:Int)/\∀x∈cs,(0:Int)<=x
theorem Kz {H:Hp} {cs:List Int} (hp:H p=some (.lst [.int a,.int b,.int c,.ref q])) (hq:H q=some (.lst (cs.map V.int))):q≠p:=λe=>by
 rw[e,hp] at hq;have h:=HO.lst.inj (bO hq);cases cs with
 | nil=>cases h
 | cons x1 cs=>cases cs with
  | nil=>cases h
  | cons x2 cs=>cases cs with
   | nil=>cases h
   | cons x3 cs=>cases cs with
    | nil=>cases h
    | cons x4 cs=>simp at h
theorem lK.same (h:lK H p) (e:aA H H'):lK H' p:=by obtain ⟨q,a,b,c,cs,h1,h2,r⟩:=h;exact ⟨q,a,b,c,cs,e _ _ h1,e _ _ h2,r⟩
theorem dB.tup {H H':Hp} {p r:Addr} {xs:List V} (u:dB p H H') (B:lK H p) (h:H r=some (.tup xs)):H' r=some (.tup xs):=by
 obtain ⟨q,a,b,c,cs,h1,_⟩:=B;exact u.1 r _ h λe=>by rw[e,h1] at h;cases h
theorem dB.other (u:dB p H H') (n:r≠p) (h:H r=some o):H' r=some o:=u.1 r _ h n
theorem lK.inner (h:lK H p):∃q,Inner H p q/\∃xs,H q=some (.lst xs):=by obtain ⟨q,a,b,c,cs,h1,h2,_⟩:=h;exact ⟨q,⟨a,b,c,h1⟩,_,h2⟩
theorem lK.upd (h:lK H p) (hi:Inner H p q) (n1:r≠p) (n2:r≠q):lK (L2.upd H r o) p:=by
 obtain ⟨q',a,b,c,cs,h1,h2,z⟩:=h;have e:q'=q:=Inner.inj ⟨a,b,c,h1⟩ hi;subst e;exact ⟨q',a,b,c,cs,by rw[aJ n1.symm];exact h1,by rw[aJ n2.symm];exact h2,z⟩
theorem Inner.upd (hi:Inner H p q) (n1:r≠p):Inner (L2.upd H r o) p q:=by obtain ⟨a,b,c,h⟩:=hi;exact ⟨a,b,c,by rw[aJ n1.symm];exact h⟩
def Ny:Sp:=λvs H Q _=>∃p n,vs=[.ref p,.int n]/\lK H p/\0 < n/\n < 2^64/\∀v H',0<=v->v < n->lK H' p->dB p H H'->Q (.int v) H'
inductive Lk (K:FG9) (vs:List V) (H:Hp) (Q:VK) (E9:XK):Prop
 | mk (a:Addr) (ns:List Int):vs=[.ref a]->bo K H a (ns.map V.int)->ns.length<=63->(∀p H',H p=none->lK H' p->aA H H'->Q (.ref p) H')->Lk K vs H Q E9
inductive yv (K:FG9) (vs:List V) (H:Hp) (Q:VK) (E9:XK):Prop
 | mk (a:Addr) (ns:List Int):vs=[.ref a]->bo K H a (ns.map V.int)->ns.length<=63->(∀H',Q (.bl true) H')->yv K vs H Q E9
def Qm:Sp:=λvs H Q _=>∃t b,vs=[.int t,.int b]/\0 < b/\Sz 8999 b/\∀r H',aA H H'->H' r=some (.tup [.int (lo t b),.int (hi t b)])->Q (.ref r) H'
def Sr:Sp:=λvs H Q _=>∃a b,vs=[.int a,.int b]/\Q (.int (g a b)) H
def JI:Sp:=λvs H Q _=>∃t b,vs=[.int t,.int b]/\b≠0/\Sz 8999 b/\∀r H',aA H H'->H' r=some (.tup [.int (lo (if b < 0 then -t else t) (if b < 0 then -b else b)),.int (hi (if b < 0 then -t else t) (if b < 0 then -b else b))])->Q (.ref r) H'
def PD (a b c d:Int):Int:=a*d+c*b
def Mz (a b c d:Int):Int:=a*d - c*b
def My (a _b c _d:Int):Int:=a*c
def IF (K:FG9) (f:Int->Int->Int->Int->Int):Sp:=λvs H Q _=>∃p q a b c d,vs=[.ref p,.ref q]/\qO K H p [.int a,.int b]/\qO K H q [.int c,.int d]/\0 < b/\0 < d/\Sz 4000 a/\Sz 4000 b/\Sz 4000 c/\Sz 4000 d /\
 ∀r H',aA H H'->H' r=some (.tup [.int (lo (f a b c d) (b*d)),.int (hi (f a b c d) (b*d))])->Q (.ref r) H'
def Nz (K:FG9):Sp:=λvs H Q _=>∃p q a b c d,vs=[.ref p,.ref q]/\qO K H p [.int a,.int b]/\qO K H q [.int c,.int d]/\0 < b/\0 < d/\c≠0/\Sz 4000 a/\Sz 4000 b/\Sz 4000 c/\Sz 4000 d /\
 ∀r H',aA H H'->H' r=some (.tup [.int (lo (if c < 0 then 0 - a*d else a*d) (if c < 0 then 0 - b*c else b*c)),.int (hi (if c < 0 then 0 - a*d else a*d) (if c < 0 then 0 - b*c else b*c))])->Q (.ref r) H'
theorem bR {α β:Type} {F:α->β->Prop}:∀{l1 l1':List α} {l2 l2':List β},Paired F l1 l2->Paired F l1' l2'->Paired F (l1++l1') (l2++l2')
 | _,_,_,_,.nil,h=>h
 | _,_,_,_,.cons r t,h=>.cons r (bR t h)
theorem cY {h:Heap} (ha:h.get? a=some o) (hb:h.get? b=some u) (hc:o.cls≠u.cls):a≠b:=λe=>by
 subst e;rw[ha] at hb;cases hb;exact hc rfl
theorem md (h:a≠b):Value.type a≠Value.type b:=λe=>h (by injection e)
theorem A3 {z TI TO i1 i2 l1 l2:Addr} (hz:IsZip h z TI TO f0) (hTI:IsPair h TI (.ref i1) (.ref i2)) (hTO:IsPair h TO a b)
  (h1:h.IsListIter i1 l1 k1) (h2:h.IsListIter i2 l2 k2) (hl1:h.IsList l1 xs) (hl2:h.IsList l2 ys) (hT:TI≠TO) (hi:i1≠i2):ZipApart z TI TO i1 i2 l1 l2:=by
 obtain ⟨o1,g1,c1,_⟩:=h1;obtain ⟨o2,g2,c2,_⟩:=h2;obtain ⟨p1,q1,d1,_⟩:=hl1;obtain ⟨p2,q2,d2,_⟩:=hl2;refine ⟨cY hTI hz ?_,cY hTO hz ?_,cY g1 hz ?_,cY g2 hz ?_,hT,cY hTI g1 ?_,cY hTI g2 ?_,cY hTO g1 ?_,cY hTO g2 ?_,hi,cY q1 hz ?_,cY q1 hTO ?_,cY q1 g1 ?_,cY q1 g2 ?_,cY q2 hz ?_,cY q2 hTO ?_,cY q2 g1 ?_,cY q2 g2 ?_⟩
 all_goals first
  | (rw[d1];first | (rw[c1];exact md (by decide)) | (rw[c2];exact md (by decide)) | exact md (by decide))
  | (rw[d2];first | (rw[c1];exact md (by decide)) | (rw[c2];exact md (by decide)) | exact md (by decide))
  | (rw[c1];exact md (by decide))
  | (rw[c2];exact md (by decide))
  | exact md (by decide)
def RO (K : FG9) (l1 l2 : Addr) : It :=
  ⟨λi H => ∃ xs ys x y, bo K H l1 xs /\ bo K H l2 ys /\ xs[i]? = some x /\ ys[i]? = some y,
   λi H v H' => ∃ p x y, v = .ref p /\ H p = none /\ H' = upd H p (.tup [x, y]) /\ (∀ xs, bo K H l1 xs → xs[i]? = some x) /\ ∀ ys, bo K H l2 ys → ys[i]? = some y,
   λi H => ∃ xs ys, bo K H l1 xs /\ bo K H l2 ys /\ (xs.length ≤ i \/ ys.length ≤ i)⟩
def tnZ (z TI TO i1 i2 l1 l2:Addr) (i:Nat) (h:Heap):Prop:=IsZip h z TI TO .none/\IsPair h TI (.ref i1) (.ref i2)/\(∃a b,IsPair h TO a b)/\h.IsListIter i1 l1 i/\h.IsListIter i2 l2 i
theorem K4 {P:Program} {w:World} {K:FG9} {elts:List Expr} {kk:Nat} {tpos:Pos} (z TI TO i1 i2 l1 l2:Addr) (hT:TI≠TO) (hi:i1≠i2):Turn P w K (.Tuple elts kk tpos) (RO K l1 l2) [z,TI,TO,i1,i2] z (tnZ z TI TO i1 i2 l1 l2) where
 mem:=by simp
 obj:=λi h st b hb=>by
  obtain ⟨hz,hTI,⟨a,c,hTO⟩,⟨o1,g1,c1,d1⟩,⟨o2,g2,c2,d2⟩⟩:=st;simp only[aw,aE,or_false] at hb;rcases hb with rfl | rfl | rfl | rfl | rfl
  ·exact ⟨_,hz,λv q=>nomatch q⟩
  ·exact ⟨_,hTI,λv q=>nomatch q⟩
  ·exact ⟨_,hTO,λv q=>nomatch q⟩
  ·exact ⟨o1,g1,λv q=>by rw[d1] at q;cases q⟩
  ·exact ⟨o2,g2,λv q=>by rw[d2] at q;cases q⟩
 keep:=λi h h' st k=>by
  obtain ⟨hz,hTI,⟨a,c,hTO⟩,h1,h2⟩:=st;exact ⟨k z (by simp) _ hz,k TI (by simp) _ hTI,⟨a,c,k TO (by simp) _ hTO⟩,h1.at λo e=>k i1 (by simp) o e,h2.at λo e=>k i2 (by simp) o e⟩
 item:=by
  intro X hP hw hK hc i pins s σ H E I hf st hg;subst hP hw hK;obtain ⟨hz,hTI,⟨a,c,hTO⟩,h1,h2⟩:=st;obtain ⟨xs,ys,x,y,qx,qy,ex,ey⟩:=hg;obtain ⟨us,rx,px,_⟩:=I.list qx;obtain ⟨ws,ry,py,_⟩:=I.list qy;obtain ⟨u,eu,ru⟩:=rx.get ex;obtain ⟨v,ev,rv⟩:=ry.get ey;have D:=A3 hz hTI hTO h1 h2 px.isList py.isList hT hi;refine wpAny_pyNext_zip_item D hz hTI hTO h1 h2 px.isList py.isList (x:=u) (y:=v) (by simpa using eu) (by simpa using ev) λh' a1 a2 a3 a4 a5 a6 hk=>?_
  refine ⟨_,rfl,wpAny_letOwnedTupleGo_zip a1 λh'' hz'' hs=>?_⟩;have hT0:H s.heap.objs.size=none:=I.hok.fresh (ah _);have zne:s.heap.objs.size≠z:=ou (Heap.lt_size hz)
  have up:∀b o,b∉[z,TO,i1,i2]->s.heap.get? b=some o->h''.get? b=some o:=λb o hb e=>by
   simp only[aw,aE,or_false,not_or] at hb;exact (hs.2 b hb.1).trans (hk b o hb.1 hb.2.1 hb.2.2.1 hb.2.2.2 e)
  have fx:∀b∈[z,TO,i1,i2],jY X pins H b:=λb hb=>hf b (by
   simp only[aw,aE,or_false] at hb ⊢;rcases hb with rfl | rfl | rfl | rfl <;> simp)
  have nx:∀b o,H b=some o->b∉[z,TO,i1,i2]:=λb o e hb=>by
   have:=(fx b hb).1;rw[this] at e;cases e
  have nT:∀{b:Addr} {o:HO},H b=some o->b≠s.heap.objs.size:=λe q=>by rw[q,hT0] at e;cases e
  have tup:h''.get? s.heap.objs.size=some { cls:=.type "tuple",data:=.seq #[u,v] }:=(hs.2 _ zne).trans a5
  have I2:Inv X pins σ (upd H s.heap.objs.size (.tup [x,y])) { s with heap:=h'' }:=by
   refine I.step (g':=s.gens) (d':=s.drawn) (t':=s.toks) (ch:=[z,TO,i1,i2]) (λb hb=>?_) (λb o _ _ hb e _=>up b o hb e) (λb o _ _ hb e _=>⟨o.slots,up b o hb e⟩) (λb o hb e n=>?_)
    (λb o hb e=>⟨o,up b o hb e⟩) (λb q e=>by rw[aJ (nT e)];exact e) (λb o q e=>by rw[aJ (nT e)];exact e) (λb q e=>⟨#[],by rw[aJ (nT e),e];simp⟩) (λm hm=>?_) (λb o e=>?_) I.bare
   ·obtain ⟨_,f1,_,f3,f4,f5⟩:=fx b hb;exact ⟨f3,f1,f4,f5⟩
   ·rw[aJ (bw (Heap.lt_size e))];exact n
   ·obtain ⟨o,es,ep,ho,r⟩:=hm;exact ⟨o,es,ep,up _ o (λz=>(fx _ z).2.1 rfl) ho,r⟩
   ·by_cases hb:b=s.heap.objs.size
    ·subst hb;rw[az] at e;cases e;exact ⟨i5 rfl,[u,v],.cons ru (.cons rv .nil),⟨_,tup,rfl,_,rfl⟩⟩
    ·rw[aJ hb] at e;refine (I.hok b o e).stay (λc v' hc q=>up c v' ?_ q) (λc q=>by rw[aJ (nT q)];exact q) λc xs q=>by rw[aJ (nT q)];exact q
     rcases hc with rfl | hc
     ·exact nx _ _ e
     ·exact nx _ _ hc
  refine ⟨.ref s.heap.objs.size,_,I2,rfl,⟨_,x,y,rfl,hT0,rfl,λxs' q=>by rw[I.list_inj q qx];exact ex,λys' q=>by rw[I.list_inj q qy];exact ey⟩,?_,λb hb=>?_⟩
  ·refine ⟨hz'',(hs.2 _ D.TIz).trans (hk _ _ D.TIz D.TITO D.TIi1 D.TIi2 hTI),⟨_,_,(hs.2 _ D.TOz).trans a2⟩,a3.at λo e=>(hs.2 _ D.i1z).trans e,a4.at λo e=>(hs.2 _ D.i2z).trans e⟩
  ·obtain ⟨o,e,_⟩:∃o,s.heap.get? b=some o/\True:=by
    obtain ⟨o1,g1,_⟩:=h1;obtain ⟨o2,g2,_⟩:=h2;simp only[aw,aE,or_false] at hb;rcases hb with rfl | rfl | rfl | rfl | rfl
    ·exact ⟨_,hz,trivial⟩
    ·exact ⟨_,hTI,trivial⟩
    ·exact ⟨_,hTO,trivial⟩
    ·exact ⟨_,g1,trivial⟩
    ·exact ⟨_,g2,trivial⟩
   rw[aJ (bw (Heap.lt_size e))];exact (hf b hb).1
 done:=by
  intro X hP hw hK hc i pins s σ H E I hf st hg;subst hP hw hK;obtain ⟨hz,hTI,⟨a,c,hTO⟩,h1,h2⟩:=st;obtain ⟨xs,ys,qx,qy,hend⟩:=hg;obtain ⟨us,rx,px,_⟩:=I.list qx;obtain ⟨ws,ry,py,_⟩:=I.list qy;have lx:=rx.length;have ly:=ry.length;have D:=A3 hz hTI hTO h1 h2 px.isList py.isList hT hi
  refine wpAny_pyNext_zip_end (I.ok.hd hc) D hz hTI hTO h1 h2 px.isList py.isList (by
   rcases hend with q | q
   ·exact .inl (by simp;lia)
   ·exact .inr (by simp;lia)) λh' hk=>⟨rfl,?_⟩
  have up:∀b o,b∉[z,TO,i1,i2]->s.heap.get? b=some o->h'.get? b=some o:=λb o hb e=>by
   simp only[aw,aE,or_false,not_or] at hb;exact hk b o hb.1 hb.2.1 hb.2.2.1 hb.2.2.2 e
  have fx:∀b∈[z,TO,i1,i2],jY X pins H b:=λb hb=>hf b (by
   simp only[aw,aE,or_false] at hb ⊢;rcases hb with rfl | rfl | rfl | rfl <;> simp)
  have nx:∀b o,H b=some o->b∉[z,TO,i1,i2]:=λb o e hb=>by
   have:=(fx b hb).1;rw[this] at e;cases e
  refine I.step (g':=s.gens) (d':=s.drawn) (t':=s.toks) (ch:=[z,TO,i1,i2]) (λb hb=>?_) (λb o _ _ hb e _=>up b o hb e) (λb o _ _ hb e _=>⟨o.slots,up b o hb e⟩) (λb o hb e n=>n)
   (λb o hb e=>⟨o,up b o hb e⟩) (λb q e=>e) (λb o q e=>e) (λb q e=>⟨#[],by rw[e];simp⟩) (λm hm=>?_) (λb o e=>?_) I.bare
  ·obtain ⟨_,f1,_,f3,f4,f5⟩:=fx b hb;exact ⟨f3,f1,f4,f5⟩
  ·obtain ⟨o,es,ep,ho,r⟩:=hm;exact ⟨o,es,ep,up _ o (λz=>(fx _ z).2.1 rfl) ho,r⟩
  ·refine (I.hok b o e).stay (λc v' hc q=>up c v' ?_ q) (λc q=>q) λc xs q=>q
   rcases hc with rfl | hc
   ·exact nx _ _ e
   ·exact nx _ _ hc
 self:=λ_ _ _ _ _ st h=>wpAny_pyIter_zip st.1 h
section
variable {X:Cx}
def Q9 (K:FG9) (ta:TA):TI:=λσ H R=>ta σ H λvs H1=>∃l1 l2,vs=[.ref l1,.ref l2]/\(∃xs,bo K H1 l1 xs)/\(∃ys,bo K H1 l2 ys)/\R (RO K l1 l2) H1
theorem nW {a b:Expr} {ta:TA} {p pos tpos:Pos} {elts:List Expr} {kk:Nat} (hg:Gl X "zip") (hm:X.mg "zip"=none) (ha:PA X [a,b] ta) (hs:starEach [a,b] X.env=[(false,eval a X.env),(false,eval b X.env)]:=by rfl) (hs2:starEach [b] X.env=[(false,eval b X.env)]:=by rfl) :
  PI X (.Tuple elts kk tpos) (.Call (.Name "zip" p) [a,b] [] pos) (Q9 X.K ta):=by
 intro pins s σ H R I h;refine Call_ (kE I hg hm boot_zip (PyProof.Rows.callWith_type1 (fP (ha pos pins s σ H _ I h) λus s1 ⟨vs,H1,I1,r1,q1⟩=>?_) (by rw[hs,hs2]) (by rw[hs2];rfl)));obtain ⟨l1,l2,e,⟨xs,qx⟩,⟨ys,qy⟩,q⟩:=q1;subst e;obtain ⟨u,v,rfl,ru,rv⟩:=vals2 r1;cases ru;cases rv;obtain ⟨us,rx,px,_⟩:=I1.list qx;obtain ⟨ws,ry,py,_⟩:=I1.list qy;refine call_zip_2 px.isList py.isList λh' a1 a2 a3 a4 a5 a6 hk=>wpAny_pyIter_zip a1 ?_
 have I2:Inv X pins σ H1 { s1 with heap:=h' }:=I1.kept (t':=s1.toks) hk;refine ⟨_,[s1.heap.objs.size+4,s1.heap.objs.size+2,s1.heap.objs.size+3,s1.heap.objs.size,s1.heap.objs.size+1],_,_,H1,rfl,I2,K4 (s1.heap.objs.size+4) (s1.heap.objs.size+2) (s1.heap.objs.size+3) s1.heap.objs.size (s1.heap.objs.size+1) l1 l2 (bw (eU _)) (bw (eU _)),⟨a1,a2,⟨_,_,a3⟩,a4,a5⟩,λb hb=>?_,q⟩
 have hb':s1.heap.objs.size<=b:=by
  simp only[aw,aE,or_false] at hb;rcases hb with rfl | rfl | rfl | rfl | rfl <;> first | exact wW _ _ | exact ah _
 exact I1.fpOk hb' (I1.hok.fresh hb')
theorem FE (hc:X.calm=true):pC X (.builtin "all") (λxs H Q=>∃(p:Addr) (bs:List Bool),xs=[.ref p]/\bo X.K H p (bs.map V.bl)/\Q (.bl (bs.all id)) H):=by
 intro pins s σ H xs us Q I r h;obtain ⟨p,bs,rfl,hp,q⟩:=h;obtain ⟨u,rfl,ru⟩:=vals1 r;cases ru;obtain ⟨vs,rv,pl,hz⟩:=I.list hp
 have hb:PyProof.Rows.LSm.BoolsAre vs bs:=by
  clear q hp pl hz
  induction bs generalizing vs with
  | nil=>cases rv;exact .nil
  | cons b bs ih =>
   rw[iB] at rv;cases rv with
   | cons r1 r2=>cases r1;exact .cons b (ih _ r2)
 have hlt:p < s.heap.objs.size:=by obtain ⟨_,e,_⟩:=pl.isList;exact Heap.lt_size e
 refine call_all_walk (wpAny_pyIter_list pl.isList ?_)
 refine ⟨s.heap.objs.size,[s.heap.objs.size,p],[s.heap.objs.size],vs.toArray.size,_,_,λi=>(bs[i]?).getD true,rfl,Walks.list (A:=X.A.in1) (I.ok.hd hc) _ p (bw hlt) vs.toArray,
  ⟨⟨_,Heap.get?_push_size _ rfl,rfl,rfl⟩,pl.isList.push _⟩,λi v s' Q' E' hP hQ=>?_,λh' tk hk=>?_⟩
 ·obtain ⟨b,e,rfl⟩:=hb.get i v (by simpa using hP);simp only[e,wV] at hQ;exact wpAny_truthy_bool hQ
 ·have e:((List.range vs.toArray.size).all λi=>(bs[i]?).getD true)=bs.all id:=by
   rw[aT,hb.length];exact PyProof.Rows.LSm.range_all bs
  rw[e];exact ⟨.bl _,H,I.kept (t':=tk) (PyProof.Rows.LSm.kept_iter hk),rfl,q⟩
theorem FD (hc:X.calm=true):pC X (.builtin "sum") (λxs H Q=>∃(p:Addr) (ns:List Int),xs=[.ref p]/\bo X.K H p (ns.map V.int)/\Q (.int ns.sum) H):=by
 intro pins s σ H xs us Q I r h;obtain ⟨p,ns,rfl,hp,q⟩:=h;obtain ⟨u,rfl,ru⟩:=vals1 r;cases ru;obtain ⟨vs,rv,pl,_⟩:=I.list hp;have hi:IntsAre vs ns:=intsAre_of rv;obtain ⟨xs,hx⟩:=hi.allInts.items;have hl':s.heap.IsList p (intItems xs):=hx ▸ pl.isList;refine sum_intListG (I.ok.hd hc) hl' λh' tk t' hk=>?_
 have e1:ns=xs.toList.map (·.1):=by
  rw[<- nums_intItems,<- hx];exact (show numsOf vs.toArray.toList=ns from hi.numsOf).symm
 have e2:preSum (numAt xs) xs.size=ns.sum:=by
  rw[preSum_eq,aB (by simp),e1]
 rw[e2];exact ⟨.int _,H,I.kept (t':=tk) hk,⟨_,rfl⟩,q⟩
end
section
variable {K:FG9} {l1 l2:Addr} {xs ws:List V} {g:TG} {tf:TT} {te:TE} {Q:VK} {σ₀:St} {H:Hp}
theorem nG (Pv:Nat->List V->Hp->Prop) (hz:xs.length<=sizeLine) (hw:ws.length=xs.length) (h0:Pv 0 [] H) (hl:∀i ys H,i<=xs.length->Pv i ys H->bo K H l1 xs/\bo K H l2 ws)
  (hs:∀i x y ys H p,xs[i]?=some x->ws[i]?=some y->ys.length<=i->Pv i ys H->H p=none->rj σ₀ g tf te (.ref p) (upd H p (.tup [x,y])) (λy H'=>Pv (i+1) (ys++[y]) H') (λH'=>Pv (i+1) ys H'))
  (hd:∀ys H,ys.length<=xs.length->Pv xs.length ys H->∀p,H p=none->Q (.ref p) (upd H p (.lst ys))):sT (RO K l1 l2) σ₀ g tf te Q H:=by
 refine ⟨λi m ys H=>m=xs.length - i/\i<=xs.length/\ys.length<=i/\Pv i ys H,⟨xs.length,by simp,aS _,aS _,h0⟩,?_⟩;rintro i m ys H ⟨rfl,hi,hy,p⟩;obtain ⟨q1,q2⟩:=hl i ys H hi p;by_cases hlt:i < xs.length
 ·refine .inr ⟨⟨xs,ws,xs[i],ws[i]'(by lia),q1,q2,by simp [hlt],by simp⟩,by lia,λy H'=>Pv (i+1) (ys++[y]) H',λH'=>Pv (i+1) ys H',λy H' p'=>⟨xs.length - (i+1),by lia,rfl,hlt,by rw[ao,aO];lia,p'⟩,λH' p'=>⟨xs.length - (i+1),by lia,rfl,hlt,by lia,p'⟩,λx H' y=>?_⟩;obtain ⟨r,x',y',rfl,hr,rfl,e1,e2⟩:=y;exact hs i x' y' ys _ r (e1 xs q1) (e2 ws q2) hy p hr
 ·have e:i=xs.length:=by lia
  subst e;exact .inl ⟨⟨xs,ws,q1,q2,.inl (ah _)⟩,by lia,hd ys H hy p⟩
theorem Oz {tb:TS} {D:Ends} (Pv:Nat->St->Hp->Prop) (hw:ws.length=xs.length) (h0:Pv 0 σ H) (hl:∀i σ H,i<=xs.length->Pv i σ H->bo K H l1 xs/\bo K H l2 ws)
  (hs:∀i x y σ H p,xs[i]?=some x->ws[i]?=some y->Pv i σ H->H p=none->g (.ref p) σ (upd H p (.tup [x,y])) λσ2 H2=>tb { D with nx:=Pv (i+1),ct:=Pv (i+1),bk:=D.nx } σ2 H2) (hd:∀σ H,Pv xs.length σ H->D.nx σ H) :
  ∃W:Nat->Nat->St->Hp->Prop,(∃m,W 0 m σ H)/\∀i m σ H,W i m σ H →
   ((RO K l1 l2).stop i H/\D.nx σ H)\/((RO K l1 l2).go i H/\∃N:St->Hp->Prop,(∀σ' H',N σ' H'->∃m',m' < m/\W (i+1) m' σ' H')/\∀x H',(RO K l1 l2).yld i H x H'->g x σ H' λσ2 H2=>tb { D with nx:=N,ct:=N,bk:=D.nx } σ2 H2):=by
 refine ⟨λi m σ H=>m=xs.length - i/\i<=xs.length/\Pv i σ H,⟨xs.length,by simp,aS _,h0⟩,?_⟩;rintro i m σ H ⟨rfl,hi,p⟩;obtain ⟨q1,q2⟩:=hl i σ H hi p;by_cases hlt:i < xs.length
 ·refine .inr ⟨⟨xs,ws,xs[i],ws[i]'(by lia),q1,q2,by simp [hlt],by simp⟩,Pv (i+1),λσ' H' p'=>⟨xs.length - (i+1),by lia,rfl,hlt,p'⟩,λx H' y=>?_⟩;obtain ⟨r,x',y',rfl,hr,rfl,e1,e2⟩:=y;exact hs i x' y' σ _ r (e1 xs q1) (e2 ws q2) p hr
 ·have e:i=xs.length:=by lia
  subst e;exact .inl ⟨⟨xs,ws,q1,q2,.inl (ah _)⟩,hd σ H p⟩
end
section
variable {X:Cx}
theorem jI (K:FG9) (n:Nat) {es:List Expr} {k:Nat} {pos:Pos} {t:Nf} (h:Tq X es t) (hK:X.K=K:=by rfl) (hc:X.calm=true:=by rfl)
  (hn:(assignEach es X.env).length=n:=by rfl) (hst:(assignEach es X.env).findIdx? (·.1)=none:=by rfl):PG X (.Tuple es k pos) (Rj K n t):=by subst hK;exact yM hc h hn hst
theorem uU (K:FG9) (hK:X.K=K):Tu X (QL K):=by subst hK;exact bE
theorem lE (K:FG9) (hK:X.K=K):Tu X (QM K):=by subst hK;exact bC
theorem Og (K:FG9) (hK:X.K=K) (hu:X.A.units+50 < cLine):wO X (compareOp .NotEq) (SJ K):=by subst hK;exact yT hu
theorem yL (K:FG9) {tg l:Expr} {tl:TE} (hl:PE X l tl) (hK:X.K=K:=by rfl):PI X tg l (Mi K tl):=by subst hK;exact cL hl
theorem Ll (K:FG9) (hK:X.K=K):Uk X (QK K):=by subst hK;exact pL
end
theorem eG {X:Cx} {e e':Expr} {es:List Expr} {te:TE} {t:TA} (h:e=e') (ha:PE X e' te) (hr:PA X es t) (hs:∀l,starEach (e' :: l) X.env=(false,eval e' X.env) :: starEach l X.env:=by intro _;rfl):PA X (e :: es) (iZ te t):=by subst h;exact fF ha hr (hs _)
section
variable {σ:St} {H:Hp} {D:Ends} {Q:VK}
theorem mQ (hl:H l=some (.lst xs)) (hz:xs.length < sizeLine) (h:Q .non (upd H l (.lst (xs++[y])))):IH (.ref l) [y] H Q:=⟨l,xs,y,rfl,rfl,hl,hz,h⟩
theorem NO {K:FG9} (h:ta σ H λvs H1=>∃l1 l2,vs=[.ref l1,.ref l2]/\(∃xs,bo K H1 l1 xs)/\(∃ys,bo K H1 l2 ys)/\R (RO K l1 l2) H1):Q9 K ta σ H R:=h
theorem oP (h1:H l=some (.lst xs)) (h2:H b=some (.lst zs)) (hz:xs.length+zs.length<=sizeLine) (h:∀p H',aA H H'->H p=none->H' p=some (.lst (xs++zs))->Q (.ref p) H'):SK (.ref l) (.ref b) H Q :=
 ⟨l,b,xs,zs,rfl,rfl,h1,h2,hz,λp hp=>h p _ (aA.new hp) hp az⟩
theorem vP {K:FG9} {lo hi:Option Int} (h1:bo K H a xs) (h:∀p H',aA H H'->H p=none->H' p=some (.lst (o7 xs lo hi))->Q (.ref p) H'):QK K (.ref a) lo hi H Q :=
 ⟨a,xs,rfl,h1,λp hp=>h p _ (aA.new hp) hp az⟩
theorem sO {xs:List α} {i:Int} (h0:0<=i) (h1:i < xs.length):∃v,F6 xs i=some v/\v∈xs/\xs[i.toNat]?=some v:=by
 have hj:i.toNat < xs.length:=by lia
 refine ⟨xs[i.toNat],?_,aF hj,by simp [hj]⟩;have:=dE (xs:=xs) (j:=i.toNat) (v:=xs[i.toNat]) (by simp [hj]);rwa [Int.toNat_of_nonneg h0] at this
end
theorem fe {α β:Type} {F:α->β->Prop}:∀{l1:List α} {l2:List β} {y:β},Paired F l1 l2->y∈l2->∃x∈l1,F x y
 | _,_,_,.nil,h=>nomatch h
 | _,_,_,.cons r t,h=>by
  rcases aw.mp h with rfl | h
  ·exact ⟨_,cK,r⟩
  ·obtain ⟨x,hx,q⟩:=fe t h;exact ⟨x,bG _ hx,q⟩
theorem bN {F:α->β->Prop} {l1:List α} {l2:List β} {i:Nat} {y:β} (h:Paired F l1 l2) (e:l2[i]?=some y):∃x,l1[i]?=some x/\F x y:=by
 have hl:=h.length;have hi:i < l2.length:=(aG.mp e).1;refine ⟨l1[i]'(by lia),by simp,?_⟩;have:=ky h (i:=i) (by lia) hi;have e2:l2[i]=y:=(aG.mp e).2;rwa [e2] at this
def zW (n:Int×Int):Prop:=0 < n.2/\Int.gcd n.1 n.2=1/\Sz 8000 n.1/\Sz 8000 n.2
theorem take_snoc {α:Type} {l:List α} {v:α} (h:l[i]?=some v):l.take (i+1)=l.take i++[v]:=by rw[List.take_add_one,h];rfl
theorem aA.after (s:aA H H') (h:H r=Option.none):aA H (upd H' r o):=λb u e=>by rw[aJ (dg e h)];exact s b u e
theorem dB.after (s:dB b H H') (h:H r=Option.none):dB b H (upd H' r o):=⟨λc u e n=>by rw[aJ (dg e h)];exact s.1 c u e n,λq hi=>(s.2 q hi).upd λz=>by obtain ⟨_,_,_,e⟩:=hi;rw[<- z,h] at e;cases e⟩
theorem dB.same (s:dB b H H') (e:aA H' H''):dB b H H'':=s.trans e.upto
theorem Jq {α:Type} {Pr:α->Prop} {l:List α} {a:α} (h:∀n∈l,Pr n) (ha:Pr a):∀n∈l++[a],Pr n:=λn hn=>by
 rcases ay.mp hn with hn | hn
 ·exact h n hn
 ·have e:n=a:=by simpa using hn
  rw[e];exact ha
abbrev zU (h:Heap) (z TI TO:Addr) (f0 f1:Value):Prop:=h.get? z=some { cls:=.type "zip",dict:=none,data:=.fields #[f0,f1,.bool false,.ref TI,.ref TO],slots:=#[] }
section
variable {prog:Program} {w:World} {A:Around} {E:Value->Shared->Prop} {s:Shared}
theorem HX (e:s.heap.get? a=some o) (h:Q (some o) s):wpAny (model prog w) A (loadIfAlive a) Q E s:=by
 intro Γ p hp;show Sem.wp _ _ (.loadIfAlive a .pure) _ _ _ _
 simp only[Sem.wp_loadIfAlive,e];exact wpAny_pure h Γ p hp
theorem yS {z TI TO T:Addr} (zr:zU s.heap z TI TO (rawInt T) (.bool b1)) (al:s.heap.get? T=some o)
  (h:∀h',zU h' z TI TO (rawInt T) (.bool true)->Heap.SameBut z s.heap h'->Q false { s with heap:=h' }):wpAny (model prog w) A (Builtin.SmallTypes.ownedTupleIsFree (.ref z)) Q E s:=by
 unfold Builtin.SmallTypes.ownedTupleIsFree;refine wpAny_bind (wpAny_field zr rfl (x:=rawInt T) rfl ?_);refine wpAny_bind (HX (a:=T) al ?_);refine wpAny_bind (wpAny_field zr rfl (x:=.bool b1) rfl ?_);cases b1 with
 | true=>exact wpAny_pure (h _ zr (.refl ..))
 | false=>exact wpAny_bind (wpAny_setField_rec zr (by simp) λh' zr' sb=>wpAny_pure (h h' zr' sb))
theorem J8 {z TI TO T i1 i2 l1 l2:Addr} {Q:Value->Shared->Prop} (D:ZipApart z TI TO i1 i2 l1 l2) (zr:zU s.heap z TI TO (rawInt T) (.bool b1)) (al:s.heap.get? T=some o)
  (pt:IsPair s.heap TI (.ref i1) (.ref i2)) (j1:s.heap.IsListIter i1 l1 k1) (j2:s.heap.IsListIter i2 l2 k2) (m1:s.heap.IsList l1 us) (m2:s.heap.IsList l2 ws) (eu:us[k1]?=some u) (ev:ws[k2]?=some v)
  (hQ:∀h',zU h' z TI TO (rawInt T) (.bool true)->h'.IsListIter i1 l1 (k1+1)->h'.IsListIter i2 l2 (k2+1)->IsPair h' s.heap.objs.size u v->(∀c o,c≠z->c≠i1->c≠i2->s.heap.get? c=some o->h'.get? c=some o)->Q (.ref s.heap.objs.size) { s with heap:=h' }) :
  wpAny (model prog w) A (Builtin.«zip.__next__» ⟨[.ref z],[]⟩) (λfin s'=>∃v,fin=.done (.ret v)/\Q v s') E s:=by
 change wpAny _ _ (field (Value.ref z) 2 >>= _) _ _ s
 refine wpAny_bind (wpAny_field zr rfl (x:=.bool false) rfl ?_)
 change wpAny _ _ (field (Value.ref z) 3 >>= _) _ _ s
 refine wpAny_bind (wpAny_field zr rfl (x:=.ref TI) rfl (wpAny_bind (wpAny_seqItems pt rfl ?_)))
 change wpAny _ _ (Builtin.SmallTypes.ownedTupleIsFree (Value.ref z) >>= _) _ _ s
 refine wpAny_bind (yS zr al λg1 zr1 sb1=>?_);simp only[jh,if_false];refine wpAny_bind ?_;rw[<- Array.forIn_toList];simp only[rg,oy];have j1':=j1.extBut sb1.extBut D.i1z;have m1':=m1.extBut sb1.extBut D.l1z;refine wpAny_bind (wpAny_bind (wpAny_holding ?_))
 change wpAny _ _ (Builtin.SmallTypes.nextOf (Value.ref i1) >>= _) _ _ _
 refine wpAny_bind (wpAny_nextOf_list_item j1' m1' eu λg2 j1a sb2=>wpAny_pure ?_);refine wpAny_pure ?_;have j2':=(j2.extBut sb1.extBut D.i2z).extBut sb2.extBut D.i12.symm;have m2':=(m2.extBut sb1.extBut D.l2z).extBut sb2.extBut D.l2i1;refine wpAny_bind (wpAny_bind (wpAny_holding ?_))
 change wpAny _ _ (Builtin.SmallTypes.nextOf (Value.ref i2) >>= _) _ _ _
 refine wpAny_bind (wpAny_nextOf_list_item j2' m2' ev λg3 j2a sb3=>wpAny_pure ?_);refine wpAny_pure (wpAny_pure ?_);refine wpAny_bind (wpAny_newTuple (hsz:=i5 rfl) ?_);have sz:g3.objs.size=s.heap.objs.size:=by rw[sb3.1,sb2.1,sb1.1]
 have up:∀c o,c≠z->c≠i1->c≠i2->s.heap.get? c=some o->g3.get? c=some o:=λc o c1 c2 c3 e=>sb3.extBut _ _ c3 (sb2.extBut _ _ c2 (sb1.extBut _ _ c1 e))
 have zr3:zU g3 z TI TO (rawInt T) (.bool true):=sb3.extBut _ _ D.i2z.symm (sb2.extBut _ _ D.i1z.symm zr1);refine wpAny_pure ⟨_,rfl,?_⟩
 change Q (.ref g3.objs.size) { s with heap:=g3.push { cls:=.type "tuple",data:=.seq #[u,v] } }
 have last:=hQ (g3.push { cls:=.type "tuple",data:=.seq #[u,v] }) (Heap.get?_push_of_some _ zr3) ((j1a.extBut sb3.extBut D.i12).at λo e=>Heap.get?_push_of_some _ e) (j2a.at λo e=>Heap.get?_push_of_some _ e)
  (by rw[<- sz];exact Heap.get?_push_size _ rfl) λc o c1 c2 c3 e=>Heap.get?_push_of_some _ (up c o c1 c2 c3 e)
 rw[sz];exact last
theorem L4 {z TI TO T i1 i2 l1 l2:Addr} (hh:A.handled=none) (D:ZipApart z TI TO i1 i2 l1 l2) (zr:zU s.heap z TI TO (rawInt T) (.bool b1)) (al:s.heap.get? T=some o)
  (pt:IsPair s.heap TI (.ref i1) (.ref i2)) (j1:s.heap.IsListIter i1 l1 k1) (m1:s.heap.IsList l1 us) (eu:us[k1]?=none)
  (hE:∀h' e,(∀c o,c≠z->c≠i1->c≠i2->s.heap.get? c=some o->h'.get? c=some o)->(∃o,h'.get? e=some o/\o.cls=.type "StopIteration")->E (.ref e) { s with heap:=h' }) :
  wpAny (model prog w) A (Builtin.«zip.__next__» ⟨[.ref z],[]⟩) Q E s:=by
 change wpAny _ _ (field (Value.ref z) 2 >>= _) _ _ s
 refine wpAny_bind (wpAny_field zr rfl (x:=.bool false) rfl ?_)
 change wpAny _ _ (field (Value.ref z) 3 >>= _) _ _ s
 refine wpAny_bind (wpAny_field zr rfl (x:=.ref TI) rfl (wpAny_bind (wpAny_seqItems pt rfl ?_)))
 change wpAny _ _ (Builtin.SmallTypes.ownedTupleIsFree (Value.ref z) >>= _) _ _ s
 refine wpAny_bind (yS zr al λg1 zr1 sb1=>?_);simp only[jh,if_false];refine wpAny_bind ?_;rw[<- Array.forIn_toList];simp only[rg,oy];refine wpAny_bind (wpAny_bind (wpAny_holding ?_))
 change wpAny _ _ (Builtin.SmallTypes.nextOf (Value.ref i1) >>= _) _ _ _
 exact wpAny_bind (wpAny_nextOf_list_end hh (j1.extBut sb1.extBut D.i1z) (m1.extBut sb1.extBut D.l1z) eu λg2 e xb he=>hE g2 e (λc o c1 c2 _ q=>xb _ _ c2 (sb1.extBut _ _ c1 q)) he)
theorem JZ {z TI TO T i1 i2 l1 l2:Addr} (D:ZipApart z TI TO i1 i2 l1 l2) (zr:zU s.heap z TI TO (rawInt T) (.bool b1)) (al:s.heap.get? T=some o)
  (pt:IsPair s.heap TI (.ref i1) (.ref i2)) (j1:s.heap.IsListIter i1 l1 k1) (j2:s.heap.IsListIter i2 l2 k2) (m1:s.heap.IsList l1 us) (m2:s.heap.IsList l2 ws) (eu:us[k1]?=some u) (ev:ws[k2]?=some v)
  (hQ:∀h',zU h' z TI TO (rawInt T) (.bool true)->h'.IsListIter i1 l1 (k1+1)->h'.IsListIter i2 l2 (k2+1)->IsPair h' s.heap.objs.size u v->(∀c o,c≠z->c≠i1->c≠i2->s.heap.get? c=some o->h'.get? c=some o)->Q (some (.ref s.heap.objs.size)) { s with heap:=h' }) :
  wpAny (model prog w) A (pyNext (.ref z)) Q E s:=by
 have ty:s.TypeIs (.ref z) "zip":=⟨_,zr,rfl⟩;unfold pyNext;refine wpAny_bind (wpAny_attempt (wpAny_callSpecial?_slot (name:=Str.ofString "__next__") ty pF (wpAny_call_entry pF ty PySem.F.entry_zip_next ?_ (Tx _))));exact J8 D zr al pt j1 j2 m1 m2 eu ev λh' a1 a2 a3 a4 a5=>wpAny_pure (hQ h' a1 a2 a3 a4 a5)
theorem JY {z TI TO T i1 i2 l1 l2:Addr} (hh:A.handled=none) (D:ZipApart z TI TO i1 i2 l1 l2) (zr:zU s.heap z TI TO (rawInt T) (.bool b1)) (al:s.heap.get? T=some o)
  (pt:IsPair s.heap TI (.ref i1) (.ref i2)) (j1:s.heap.IsListIter i1 l1 k1) (m1:s.heap.IsList l1 us) (eu:us[k1]?=none)
  (hQ:∀h',(∀c o,c≠z->c≠i1->c≠i2->s.heap.get? c=some o->h'.get? c=some o)->Q none { s with heap:=h' }):wpAny (model prog w) A (pyNext (.ref z)) Q E s:=by
 have ty:s.TypeIs (.ref z) "zip":=⟨_,zr,rfl⟩;unfold pyNext;refine wpAny_bind (wpAny_attempt (wpAny_callSpecial?_slot (name:=Str.ofString "__next__") ty pF (wpAny_call_entry pF ty PySem.F.entry_zip_next ?_ (Tx _))));refine L4 hh D zr al pt j1 m1 eu λh' e kk ⟨oe,he,hc⟩=>?_
 exact wpAny_bind (wpAny_isInstance (T:="StopIteration") (b:=true) ⟨oe,he,hc⟩ isSubtype_stop (wpAny_pure (hQ _ kk)))
end
section
variable {X:Cx} {pins:List (Addr×Obj)} {σ:St} {H:Hp} {s:Shared}
theorem Inv.moved {ch:List Addr} (I:Inv X pins σ H s) (fx:∀b∈ch,jY X pins H b) (up:∀b o,b∉ch->s.heap.get? b=some o->h'.get? b=some o) (hg:AllBare g') :
  Inv X pins σ H { s with heap:=h',gens:=g',drawn:=d',toks:=t' }:=by
 have nx:∀b o,H b=some o->b∉ch:=λb o e hb=>by have:=(fx b hb).1;rw[this] at e;cases e
 refine I.step (ch:=ch) (λb hb=>?_) (λb o _ _ hb e _=>up b o hb e) (λb o _ _ hb e _=>⟨o.slots,up b o hb e⟩) (λb o hb e n=>n) (λb o hb e=>⟨o,up b o hb e⟩) (λb q e=>e) (λb o q e=>e) (λb q e=>⟨#[],by rw[e];simp⟩) (λm hm=>?_) (λb o e=>?_) hg
 ·obtain ⟨_,f1,_,f3,f4,f5⟩:=fx b hb;exact ⟨f3,f1,f4,f5⟩
 ·obtain ⟨o,es,ep,ho,r⟩:=hm;exact ⟨o,es,ep,up _ o (λz=>(fx _ z).2.1 rfl) ho,r⟩
 ·refine (I.hok b o e).stay (λc v' hc q=>up c v' ?_ q) (λc q=>q) λc xs q=>q
  rcases hc with rfl | hc
  ·exact nx _ _ e
  ·exact nx _ _ hc
theorem Inv.track (I:Inv X pins σ H s) (fp:jY X pins H p) (new:fu X.prog X.w (upd H p o) s.heap p o):Inv X pins σ (upd H p o) s:=by
 have nt:∀{b:Addr} {u:HO},H b=some u->b≠p:=λe z=>by rw[z,fp.1] at e;cases e
 refine I.step (h':=s.heap) (g':=s.gens) (d':=s.drawn) (t':=s.toks) (ch:=[p]) (λb hb=>?_) (λb o _ _ _ e _=>e) (λb o _ _ _ e _=>⟨o.slots,e⟩) (λb o hb e n=>?_) (λb o _ e=>⟨o,e⟩) (λb q e=>by rw[aJ (nt e)];exact e) (λb o q e=>by rw[aJ (nt e)];exact e)
  (λb q e=>⟨#[],by rw[aJ (nt e),e];simp⟩) (λm hm=>hm) (λb u e=>?_) I.bare
 ·have e:b=p:=by simpa using hb
  subst e;obtain ⟨_,f1,_,f3,f4,f5⟩:=fp;exact ⟨f3,f1,f4,f5⟩
 ·rw[aJ λz=>hb (by simp [z])];exact n
 ·by_cases hb:b=p
  ·subst hb;rw[az] at e;cases e;exact new
  ·rw[aJ hb] at e;exact (I.hok b u e).stay (λc v _ q=>q) (λc q=>by rw[aJ (nt q)];exact q) λc xs q=>by rw[aJ (nt q)];exact q
end
def PN (H:Hp) (p:V×V) (x:V):Prop:=∃T,x=.ref T/\H T=some (.tup [p.1,p.2])
theorem PN.same (h:PN H p x) (e:aA H H'):PN H' p x:=by obtain ⟨T,q,g⟩:=h;exact ⟨T,q,e _ _ g⟩
def Zst (h:Heap) (z TI TO:Addr) (base:Nat):Prop:=(∃a b,IsPair h TO a b)/\(IsZip h z TI TO .none\/∃(T:Addr) (b1:Bool) (o:Obj),zU h z TI TO (rawInt T) (.bool b1)/\h.get? T=some o/\@LE.le Nat instLENat base T)
theorem Ca {z TI TO i1 i2 l1 l2:Addr} (hz:zU h z TI TO f0 f1) (hTI:IsPair h TI (.ref i1) (.ref i2)) (hTO:IsPair h TO a b) (h1:h.IsListIter i1 l1 k1) (h2:h.IsListIter i2 l2 k2) (hl1:h.IsList l1 xs) (hl2:h.IsList l2 ys) (hT:TI≠TO) (hi:i1≠i2):ZipApart z TI TO i1 i2 l1 l2:=by
 obtain ⟨o1,g1,c1,_⟩:=h1;obtain ⟨o2,g2,c2,_⟩:=h2;obtain ⟨p1,q1,d1,_⟩:=hl1;obtain ⟨p2,q2,d2,_⟩:=hl2;have zt:Value.type "zip"≠.type "tuple":=md (by decide);have it:Value.type "list_iterator"≠.type "tuple":=md (by decide);have iz:Value.type "list_iterator"≠.type "zip":=md (by decide);have lz:Value.type "list"≠.type "zip":=md (by decide);have lt:Value.type "list"≠.type "tuple":=md (by decide);have li:Value.type "list"≠.type "list_iterator":=md (by decide)
 exact ⟨cY hTI hz zt.symm,cY hTO hz zt.symm,cY g1 hz (by rw[c1];exact iz),cY g2 hz (by rw[c2];exact iz),hT,cY hTI g1 (by rw[c1];exact it.symm),cY hTI g2 (by rw[c2];exact it.symm),cY hTO g1 (by rw[c1];exact it.symm),cY hTO g2 (by rw[c2];exact it.symm),hi,
  cY q1 hz (by rw[d1];exact lz),cY q1 hTO (by rw[d1];exact lt),cY q1 g1 (by rw[d1,c1];exact li),cY q1 g2 (by rw[d1,c2];exact li),cY q2 hz (by rw[d2];exact lz),cY q2 hTO (by rw[d2];exact lt),cY q2 g1 (by rw[d2,c1];exact li),cY q2 g2 (by rw[d2,c2];exact li)⟩
section
variable {X:Cx} {pins:List (Addr×Obj)} {σ:St}
theorem jY.heap (f:jY X pins H b) (e:H' b=none):jY X pins H' b:=⟨e,f.2⟩
structure D1 where
 z:Addr
 TI:Addr
 TO:Addr
 i1:Addr
 i2:Addr
 S:Addr
 base:Nat
def D1.all (a:D1):List Addr:=[a.z,a.TI,a.TO,a.i1,a.i2,a.S]
structure D1.Ok (a:D1):Prop where
 tt:a.TI≠a.TO
 ii:a.i1≠a.i2
 Sz:a.S≠a.z
 STI:a.S≠a.TI
 STO:a.S≠a.TO
 Si1:a.S≠a.i1
 Si2:a.S≠a.i2
 lt:∀b∈a.all,@LT.lt Nat instLTNat b a.base
structure O5 (X:Cx) (pins:List (Addr×Obj)) (σ:St) (H1:Hp) (a:D1) (l1 l2:Addr) (i:Nat) (H:Hp) (s:Shared):Prop where
 inv:Inv X pins σ H s
 same:aA H1 H
 fps:∀b∈a.all,jY X pins H b
 sz:a.base<=s.heap.objs.size
 zst:Zst s.heap a.z a.TI a.TO a.base
 pt:IsPair s.heap a.TI (.ref a.i1) (.ref a.i2)
 j1:s.heap.IsListIter a.i1 l1 i
 j2:s.heap.IsListIter a.i2 l2 i
variable {a:D1} {l1 l2:Addr} {H1 H:Hp} {s:Shared} {i:Nat} {xs ys:List V}
theorem O5.push (L:O5 X pins σ H1 a l1 l2 i H s) (O:a.Ok) (k:∀b o,b≠a.S->s.heap.get? b=some o->h'.get? b=some o) (hz:h'.objs.size=s.heap.objs.size):O5 X pins σ H1 a l1 l2 i H { s with heap:=h' }:=by
 refine ⟨L.inv.moved (g':=s.gens) (d':=s.drawn) (t':=s.toks) (ch:=[a.S]) (λb hb=>?_) (λb o hb e=>k b o (λz=>hb (by simp [z])) e) L.inv.bare,L.same,L.fps,by show a.base<=h'.objs.size;rw[hz];exact L.sz,?_,k _ _ O.STI.symm L.pt,L.j1.at λo e=>k _ o O.Si1.symm e,L.j2.at λo e=>k _ o O.Si2.symm e⟩
 ·have e:b=a.S:=by simpa using hb
  rw[e];exact L.fps _ (by simp [D1.all])
 ·obtain ⟨⟨c,d,z0⟩,z4⟩:=L.zst;refine ⟨⟨c,d,k _ _ O.STO.symm z0⟩,?_⟩;rcases z4 with z1 | ⟨T,b1,o,z1,z2,z3⟩
  ·exact .inl (k _ _ O.Sz.symm z1)
  ·refine .inr ⟨T,b1,o,k _ _ O.Sz.symm z1,k _ _ (λe=>?_) z2,z3⟩;have:=O.lt a.S (by simp [D1.all]);rw[<- e] at this;exact absurd this (Nat.not_lt.mpr z3)
theorem KY (O:a.Ok) (q1:bo X.K H1 l1 xs) (q2:bo X.K H1 l2 ys) (ex:xs[i]?=some x) (ey:ys[i]?=some y) (L:O5 X pins σ H1 a l1 l2 i H s)
  (hQ:∀s',O5 X pins σ H1 a l1 l2 (i+1) (upd H s.heap.objs.size (.tup [x,y])) s'->(∀c o,c∉[a.z,a.TO,a.i1,a.i2]->s.heap.get? c=some o->s'.heap.get? c=some o)->H s.heap.objs.size=none->Q (some (.ref s.heap.objs.size)) s'):wpAny (model X.prog X.w) A' (pyNext (.ref a.z)) Q E s:=by
 obtain ⟨I,sm,fps,sz,zst,pt,j1,j2⟩:=id L;obtain ⟨us,ru,pu,_⟩:=I.list (sm.seq q1);obtain ⟨ws,rw',pw,_⟩:=I.list (sm.seq q2);obtain ⟨u,eu,r1⟩:=ru.get ex;obtain ⟨v,ev,r2⟩:=rw'.get ey;have fx:∀b∈[a.z,a.TO,a.i1,a.i2],jY X pins H b:=λb hb=>fps b (by simp only[D1.all,aw,aE,or_false] at hb ⊢;rcases hb with e | e | e | e <;> simp [e])
 have hT0:H s.heap.objs.size=none:=I.hok.fresh (ah _);have fT:jY X pins H s.heap.objs.size:=I.fpOk (ah _) hT0;have lt:∀b∈a.all,b≠s.heap.objs.size:=λb hb e=>by have:=O.lt b hb;rw[e] at this;exact absurd this (Nat.not_lt.mpr sz)
 have fin:∀h',(∀c o,c∉[a.z,a.TO,a.i1,a.i2]->s.heap.get? c=some o->h'.get? c=some o)->IsPair h' s.heap.objs.size u v->IsPair h' a.TI (.ref a.i1) (.ref a.i2)->h'.IsListIter a.i1 l1 (i+1)->h'.IsListIter a.i2 l2 (i+1)->Zst h' a.z a.TI a.TO a.base →
   Q (some (.ref s.heap.objs.size)) { s with heap:=h' }:=λh' up pr pt' j1' j2' zst'=>by
  have I2:Inv X pins σ H { s with heap:=h' }:=I.moved (g':=s.gens) (d':=s.drawn) (t':=s.toks) fx up I.bare;have I3:Inv X pins σ (upd H s.heap.objs.size (.tup [x,y])) { s with heap:=h' }:=I2.track fT ⟨i5 rfl,[u,v],.cons r1 (.cons r2 .nil),⟨_,pr,rfl,_,rfl⟩⟩;refine hQ _ ⟨I3,sm.trans (aA.new hT0),λb hb=>(fps b hb).heap (by rw[aJ (lt b hb)];exact (fps b hb).1),?_,zst',pt',j1',j2'⟩ up hT0;exact af sz (c6 (Heap.lt_size pr))
 obtain ⟨⟨c,d,z0⟩,z4⟩:=zst;rcases z4 with z1 | ⟨T,b1,o,z1,z2,z3⟩
 ·have D:=Ca z1 pt z0 j1 j2 pu.isList pw.isList O.tt O.ii;refine wpAny_pyNext_zip_item D z1 pt z0 j1 j2 pu.isList pw.isList (x:=u) (y:=v) (by simpa using eu) (by simpa using ev) λh' a1 a2 a3 a4 a5 a6 hk=>?_
  have up:∀c o,c∉[a.z,a.TO,a.i1,a.i2]->s.heap.get? c=some o->h'.get? c=some o:=λc o hc e=>by
   simp only[aw,aE,or_false,not_or] at hc;exact hk c o hc.1 hc.2.1 hc.2.2.1 hc.2.2.2 e
  exact fin h' up a5 (hk _ _ D.TIz D.TITO D.TIi1 D.TIi2 pt) a3 a4 ⟨⟨_,_,a2⟩,.inr ⟨s.heap.objs.size,false,_,a1,a5,sz⟩⟩
 ·have D:=Ca z1 pt z0 j1 j2 pu.isList pw.isList O.tt O.ii;refine JZ D z1 z2 pt j1 j2 pu.isList pw.isList (u:=u) (v:=v) (by simpa using eu) (by simpa using ev) λh' a1 a3 a4 a5 hk=>?_
  have up:∀c o,c∉[a.z,a.TO,a.i1,a.i2]->s.heap.get? c=some o->h'.get? c=some o:=λc o hc e=>by
   simp only[aw,aE,or_false,not_or] at hc;exact hk c o hc.1 hc.2.2.1 hc.2.2.2 e
  have Tn:∀b∈a.all,T≠b:=λb hb e=>by have:=O.lt b hb;rw[<- e] at this;exact absurd this (Nat.not_lt.mpr z3)
  exact fin h' up a5 (hk _ _ D.TIz D.TIi1 D.TIi2 pt) a3 a4 ⟨⟨_,_,hk _ _ D.TOz D.TOi1 D.TOi2 z0⟩,.inr ⟨T,true,o,a1,hk _ _ (Tn _ (by simp [D1.all])) (Tn _ (by simp [D1.all])) (Tn _ (by simp [D1.all])) z2,z3⟩⟩
theorem KW (hh:A'.handled=none) (O:a.Ok) (q1:bo X.K H1 l1 xs) (q2:bo X.K H1 l2 ys) (hi:xs.length<=i) (L:O5 X pins σ H1 a l1 l2 i H s)
  (hQ:∀s',Inv X pins σ H s'->(∀c o,c∉[a.z,a.TO,a.i1,a.i2]->s.heap.get? c=some o->s'.heap.get? c=some o)->Q none s'):wpAny (model X.prog X.w) A' (pyNext (.ref a.z)) Q E s:=by
 obtain ⟨I,sm,fps,sz,zst,pt,j1,j2⟩:=id L;obtain ⟨us,ru,pu,_⟩:=I.list (sm.seq q1);obtain ⟨ws,rw',pw,_⟩:=I.list (sm.seq q2);have lx:=ru.length;have none1:us.toArray[i]?=none:=by simp;lia
 have fx:∀b∈[a.z,a.TO,a.i1,a.i2],jY X pins H b:=λb hb=>fps b (by simp only[D1.all,aw,aE,or_false] at hb ⊢;rcases hb with e | e | e | e <;> simp [e])
 have fin:∀h',(∀c o,c∉[a.z,a.TO,a.i1,a.i2]->s.heap.get? c=some o->h'.get? c=some o)->Q none { s with heap:=h' }:=λh' up=>hQ _ (I.moved (g':=s.gens) (d':=s.drawn) (t':=s.toks) fx up I.bare) up
 obtain ⟨⟨c,d,z0⟩,z4⟩:=zst;rcases z4 with z1 | ⟨T,b1,o,z1,z2,z3⟩
 ·have D:=Ca z1 pt z0 j1 j2 pu.isList pw.isList O.tt O.ii;refine wpAny_pyNext_zip_end hh D z1 pt z0 j1 j2 pu.isList pw.isList (.inl none1) λh' hk=>fin h' λc o hc e=>?_
  simp only[aw,aE,or_false,not_or] at hc;exact hk c o hc.1 hc.2.1 hc.2.2.1 hc.2.2.2 e
 ·have D:=Ca z1 pt z0 j1 j2 pu.isList pw.isList O.tt O.ii;refine JY hh D z1 z2 pt j1 pu.isList none1 λh' hk=>fin h' λc o hc e=>?_
  simp only[aw,aE,or_false,not_or] at hc;exact hk c o hc.1 hc.2.2.1 hc.2.2.2 e
theorem K2 (hh:A'.handled=none) (O:a.Ok) (hz:xs.length<=sizeLine) (hl:ys.length=xs.length) (q1:bo X.K H1 l1 xs) (q2:bo X.K H1 l2 ys)
  (fin:∀s' H' ts acc c,Inv X pins σ H' s'->aA H1 H'->jY X pins H' a.S->s'.heap.get? a.S=some (lobj acc c)->cJ ts acc->Paired (PN H') (xs.zip ys) ts->R (.ok (.ret .none)) s') :
  ∀(k i:Nat) (s:Shared) (H:Hp) (ts:List V) (acc:List Value) (c:Nat),xs.length - i=k->i<=xs.length->O5 X pins σ H1 a l1 l2 i H s->s.heap.get? a.S=some (lobj acc c)->cJ ts acc->Paired (PN H) ((xs.zip ys).take i) ts →
   codeAny (model X.prog X.w) A' (.builtin "list.extend.loop" ⟨[.ref a.S,.ref a.z,.none],[]⟩) R s:=by
 have Sn:a.S∉[a.z,a.TO,a.i1,a.i2]:=λh=>by
  simp only[aw,aE,or_false] at h;rcases h with e | e | e | e
  ·exact O.Sz e
  ·exact O.STO e
  ·exact O.Si1 e
  ·exact O.Si2 e
 intro k
 induction k with
 | zero =>
  intro i s H ts acc c hk hi L gS rv prs;have e:i=xs.length:=by lia
  refine codeAny_builtin RU ?_;rw[Around.under_plainId lM _]
  change wpAny _ A'.in1 (pyNext (Value.ref a.z) >>= _) _ _ s
  refine wpAny_bind (KW hh O q1 q2 (by lia) L λs' I' up=>wpAny_pure (fin s' H ts acc c I' L.same (L.fps _ (by simp [D1.all])) (up _ _ Sn gS) rv ?_));rwa [aB (by rw[qZ];lia)] at prs
 | succ k ih =>
  intro i s H ts acc c hk hi L gS rv prs;have hlt:i < xs.length:=by lia
  have lt:=prs.length;have la:=rv.length;refine codeAny_builtin RU ?_;rw[Around.under_plainId lM _]
  change wpAny _ A'.in1 (pyNext (Value.ref a.z) >>= _) _ _ s
  refine wpAny_bind (KY O q1 q2 (x:=xs[i]) (y:=ys[i]'(by lia)) (by simp [hlt]) (by simp) L λs' L' up hT=>?_);have gS':=up _ _ Sn gS
  change wpAny _ A'.in1 (updateSeq a.S (·.push (Value.ref s.heap.objs.size)) >>= _) _ _ s'
  have small:acc.length<=sizeLine:=by
   rw[bh,qZ] at lt
   lia
  refine wpAny_bind (wpAny_updateSeq gS' rfl (wpAny_pure ⟨plainId_quiet lM _,?_⟩) (by rw[aT];exact small) (by
   show (acc.toArray.push (Value.ref s.heap.objs.size)).size<=sizeLine+1
   rw[Array.size_push,aT]
   lia))
  have gS2:=kW gS' (λb=>b.push (Value.ref s.heap.objs.size));have e2:(acc.toArray.push (Value.ref s.heap.objs.size))=(acc++[Value.ref s.heap.objs.size]).toArray:=by simp
  rw[e2] at gS2;refine ih (i+1) _ (upd H s.heap.objs.size (.tup [xs[i],ys[i]'(by lia)])) (ts++[.ref s.heap.objs.size]) (acc++[.ref s.heap.objs.size]) _ (by lia) hlt (L'.push O (λb o hb e=>(Heap.get?_update_other _ _ (Ne.symm hb)).trans e) (Heap.size_update ..)) gS2 (rv.append (show cJ [V.ref s.heap.objs.size] [Value.ref s.heap.objs.size] from .cons rfl .nil)) ?_;have zp:(xs.zip ys)[i]?=some (xs[i],ys[i]'(by lia)):=by simp [RV,hlt]
  rw[take_snoc zp];exact (Paired.imp' (λ_ _ z=>z.same (aA.new hT)) prs).snoc ⟨_,rfl,az⟩
theorem Gn:typeLookup (.type "zip") "__len__"=pure Option.none:=by rw[typeLookup_type,builtinLookup_eq_fast];kernel_rfl
theorem Ea:typeLookup (.type "zip") "__length_hint__"=pure Option.none:=by rw[typeLookup_type,builtinLookup_eq_fast];kernel_rfl
theorem KZ (hh:A'.handled=none) (O:a.Ok) (hz:xs.length<=sizeLine) (hl:ys.length=xs.length) (q1:bo X.K H1 l1 xs) (q2:bo X.K H1 l2 ys) (L:O5 X pins σ H1 a l1 l2 0 H s) (gS:s.heap.get? a.S=some (lobj [] 0)) (z0:IsZip s.heap a.z a.TI a.TO .none)
  (fin:∀s' H' ts acc c,Inv X pins σ H' s'->aA H1 H'->jY X pins H' a.S->s'.heap.get? a.S=some (lobj acc c)->cJ ts acc->Paired (PN H') (xs.zip ys) ts->R (.ok (.ret .none)) s') :
  wpAny (model X.prog X.w) A'.in1 (Builtin.«list.__init__» ⟨[.ref a.S,.ref a.z],[]⟩) (λfl s'=>match fl with | .done f=>R (.ok f) s' | .again c'=>c'.quiet=true/\codeAny (model X.prog X.w) A' c' R s') (λe s'=>R (.error e) s') s:=by
 change wpAny _ A'.in1 (do let old <- Builtin.List.listItems (Value.ref a.S);Builtin.List.listUpdate (Value.ref a.S) (λ_=>#[]);letGo old.toList.reverse;Builtin.List.listExtendWith (Value.ref a.S) (Value.ref a.z) Value.none) _ _ s
 refine wpAny_bind ?_;unfold Builtin.List.listItems;refine wpAny_bind (wpAny_seqItems gS rfl (wpAny_pure ?_))
 change wpAny _ A'.in1 (updateSeq a.S (λ_=>#[]) >>= λ_=>letGo (#[]:Array Value).toList.reverse >>= λ_=>Builtin.List.listExtendWith (Value.ref a.S) (Value.ref a.z) Value.none) _ _ s
 refine wpAny_bind (wpAny_updateSeq gS rfl ?_);have g1:=kW gS (λ_=>(#[]:Array Value));obtain ⟨n1,g1⟩:∃n1,(s.heap.update a.S (Obj.mapSeq λ_=>(#[]:Array Value))).get? a.S=some (lobj [] n1):=⟨_,g1⟩;have L1:=L.push (h':=s.heap.update a.S (Obj.mapSeq λ_=>(#[]:Array Value))) O (λb o hb e=>(Heap.get?_update_other _ _ (Ne.symm hb)).trans e) (Heap.size_update ..);have z1:IsZip (s.heap.update a.S (Obj.mapSeq λ_=>(#[]:Array Value))) a.z a.TI a.TO .none:=(Heap.get?_update_other _ _ O.Sz).trans z0;refine wpAny_bind (wpAny_letGo ?_);unfold Builtin.List.listExtendWith;have ty:Shared.TypeIs { s with heap:=s.heap.update a.S (Obj.mapSeq λ_=>(#[]:Array Value)) } (.ref a.z) "zip":=⟨_,z1,rfl⟩;refine wpAny_bind (wpAny_typeOf ty ?_);have h1:Builtin.List.listSameRef (.ref a.S) (.ref a.z)=false:=by simp [Builtin.List.listSameRef,O.Sz]
 have h2:(Value.type "zip" == Value.type "list")=false:=by decide
 have h3:(Value.type "zip" == Value.type "tuple")=false:=by decide
 simp only[h1,h2,h3,Bool.or_false,jh,if_false];refine wpAny_bind (wpAny_pyIter_zip z1 (wpAny_bind (wpAny_holding ?_)));unfold Builtin.List.listLengthHint;refine wpAny_bind (wpAny_specialOf ty Gn ?_)
 change wpAny _ A'.in1 (specialOf (Value.ref a.z) (Str.ofString "__length_hint__") >>= _) _ _ _
 refine wpAny_bind (wpAny_specialOf ty Ea (wpAny_pure ?_))
 change wpAny _ A'.in1 (rule "list.extend.makes-room" >>= λ_=>Builtin.List.listTouch (Value.ref a.S) >>= λ_=>again (.builtin "list.extend.loop" ⟨[Value.ref a.S,Value.ref a.z,Value.none],[]⟩)) _ _ _
 refine wpAny_bind (wpAny_rule (wpAny_bind ?_))
 change wpAny _ A'.in1 (updateSeq a.S (·.push Value.none) >>= λ_=>updateSeq a.S (·.pop)) _ _ _
 refine wpAny_bind (wpAny_updateSeq g1 rfl ?_);have g2:=kW g1 (λb=>b.push Value.none);obtain ⟨n2,g2⟩:∃n2,((s.heap.update a.S (Obj.mapSeq λ_=>(#[]:Array Value))).update a.S (Obj.mapSeq λb=>b.push Value.none)).get? a.S=some (lobj [Value.none] n2):=⟨_,g2⟩;have L2:=L1.push (h':=(s.heap.update a.S (Obj.mapSeq λ_=>(#[]:Array Value))).update a.S (Obj.mapSeq λb=>b.push Value.none)) O (λb o hb e=>(Heap.get?_update_other _ _ (Ne.symm hb)).trans e) (Heap.size_update ..);refine wpAny_updateSeq g2 rfl ?_ (i5 rfl);have g3:=kW g2 (λb=>b.pop);have L3:=L2.push (h':=((s.heap.update a.S (Obj.mapSeq λ_=>(#[]:Array Value))).update a.S (Obj.mapSeq λb=>b.push Value.none)).update a.S (Obj.mapSeq λb=>b.pop)) O (λb o hb e=>(Heap.get?_update_other _ _ (Ne.symm hb)).trans e) (Heap.size_update ..);exact wpAny_pure ⟨plainId_quiet lM _,K2 hh O hz hl q1 q2 fin _ 0 _ H [] [] _ rfl (aS _) L3 g3 .nil .nil⟩
end
section
variable {X:Cx}
theorem P0 (n:Nat):D1.Ok ⟨n+4,n+2,n+3,n,n+1,n+5,n+5+1⟩:=by
 have ne:∀p q:Nat,p≠q->@Ne Addr p q:=λ_ _ h=>h
 refine ⟨ne (n+2) (n+3) (by lia),ne n (n+1) (by lia),ne (n+5) (n+4) (by lia),ne (n+5) (n+2) (by lia),ne (n+5) (n+3) (by lia),ne (n+5) n (by lia),ne (n+5) (n+1) (by lia),λb hb=>?_⟩;have hb':b∈[n+4,n+2,n+3,n,n+1,n+5]:=hb;show @LT.lt Nat instLTNat b (n+5+1)
 simp only[aw,aE,or_false] at hb';rcases hb' with e | e | e | e | e | e <;> (rw[e];exact a9 (eU _) (by lia))
def Ee (K:FG9) (ta:TA):TE:=λσ H Q=>ta σ H λvs H1=>∃(l1 l2:Addr) (xs ys:List V),vs=[.ref l1,.ref l2]/\bo K H1 l1 xs/\bo K H1 l2 ys/\ys.length=xs.length /\
 ∀L ts H',aA H1 H'->H1 L=none->H' L=some (.lst ts)->Paired (PN H') (xs.zip ys) ts->Q (.ref L) H'
theorem yO {e1 e2:Expr} {ta:TA} {p p2 pos pos2:Pos} (hg:Gl X "list") (hm:X.mg "list"=none) (hg2:Gl X "zip") (hm2:X.mg "zip"=none) (ha:PA X [e1,e2] ta) (hc:X.calm=true:=by rfl)
  (hs:starEach [e1,e2] X.env=[(false,eval e1 X.env),(false,eval e2 X.env)]:=by rfl) (hs2:starEach [e2] X.env=[(false,eval e2 X.env)]:=by rfl)
  (hs3:starEach [Expr.Call (.Name "zip" p2) [e1,e2] [] pos2] X.env=[(false,eval (.Call (.Name "zip" p2) [e1,e2] [] pos2) X.env)]:=by rfl) :
  PE X (.Call (.Name "list" p) [.Call (.Name "zip" p2) [e1,e2] [] pos2] [] pos) (Ee X.K ta):=by
 intro pins s σ H Q I h;refine wpAny_Call_Name_kw (kE I hg hm boot_list ?_);refine PyProof.Rows.callWith_type1 ?_ (by rw[hs3];rfl) rfl;rw[hs3];show wpAny _ _ (spliced ((false,eval (.Call (.Name "zip" p2) [e1,e2] [] pos2) X.env) :: [])) _ _ s
 refine Calls.spliced_cons ?_;refine Call_ (kE I hg2 hm2 boot_zip (PyProof.Rows.callWith_type1 (fP (ha pos2 pins s σ H _ I h) λus s1 ⟨vs,H1,I1,r1,q1⟩=>?_) (by rw[hs,hs2]) (by rw[hs2];rfl)));obtain ⟨l1,l2,xs,ys,e,qx,qy,hl,q⟩:=q1;subst e;obtain ⟨u,v,rfl,ru,rv⟩:=vals2 r1;cases ru;cases rv;obtain ⟨us,rx,px,hz⟩:=I1.list qx;obtain ⟨ws,ry,py,_⟩:=I1.list qy;refine call_zip_2 px.isList py.isList λh' a1 a2 a3 a4 a5 a6 hk=>?_
 refine Calls.spliced_nil ?_;have I2:Inv X pins σ H1 { s1 with heap:=h' }:=I1.kept (t':=s1.toks) hk;have up:∀b o,h'.get? b=some o->(h'.push { cls:=.type "list",data:=.seq #[] }).get? b=some o:=λb o e=>Heap.get?_push_of_some _ e
 have O:D1.Ok ⟨s1.heap.objs.size+4,s1.heap.objs.size+2,s1.heap.objs.size+3,s1.heap.objs.size,s1.heap.objs.size+1,h'.objs.size,h'.objs.size+1⟩:=by
  rw[a6];exact P0 s1.heap.objs.size
 have old:∀b∈(D1.mk (s1.heap.objs.size+4) (s1.heap.objs.size+2) (s1.heap.objs.size+3) s1.heap.objs.size (s1.heap.objs.size+1) h'.objs.size (h'.objs.size+1)).all,s1.heap.objs.size<=b:=λb hb=>by
  rw[a6] at hb;simp only[D1.all,aw,aE,or_false] at hb;rcases hb with rfl | rfl | rfl | rfl | rfl | rfl <;> first | exact wW _ _ | exact ah _
 have gS:(h'.push { cls:=.type "list",data:=.seq #[] }).get? h'.objs.size=some (lobj [] 0):=Heap.get?_push_size _ rfl;refine callType_codes (Q₁:=λob t=>ob=.ref h'.objs.size/\t={ s1 with heap:=h'.push { cls:=.type "list",data:=.seq #[] } }) PySem.F.called_list (PySem.F.typeCall_list_1 _) PySem.F.entry_list_init (code_list_new _ ⟨rfl,rfl⟩) λob t ht=>?_
 obtain ⟨rfl,rfl⟩:=ht;refine ⟨⟨_,gS,rfl⟩,PySem.F.args_list_init_2 _ _,?_⟩
 have L:O5 X pins σ H1 ⟨s1.heap.objs.size+4,s1.heap.objs.size+2,s1.heap.objs.size+3,s1.heap.objs.size,s1.heap.objs.size+1,h'.objs.size,h'.objs.size+1⟩ l1 l2 0 H1 { s1 with heap:=h'.push { cls:=.type "list",data:=.seq #[] } } :=
  ⟨I2.kept (t':=s1.toks) up,aA.refl _,λb hb=>I1.fpOk (old b hb) (I1.hok.fresh (old b hb)),by rw[Heap.size_push];exact ah _,⟨⟨_,_,up _ _ a3⟩,.inl (up _ _ a1)⟩,up _ _ a2,a4.at λo e=>up _ o e,a5.at λo e=>up _ o e⟩
 refine KZ (A':=X.A.in1) (I.ok.hd hc) O hz hl qx qy L gS (up _ _ a1) λs' H' ts acc c I' sm fS gS' vs' prs=>⟨rfl,?_⟩
 have nS:H1 h'.objs.size=none:=I1.hok.fresh (old _ (by simp [D1.all]));have lt:=prs.length;rw[qZ] at lt;exact ⟨.ref h'.objs.size,_,I'.track (o:=.lst ts) fS ⟨by lia,acc,c,vs',gS'⟩,rfl,q _ ts _ (sm.trans (aA.new fS.1)) nS az (Paired.imp' (λ_ _ z=>z.same (aA.new fS.1)) prs)⟩
end
end L2
namespace Nm
def vV:List Int->Int->Int
 | [],m=>m
 | b :: r,m=>vV r (m*(b / g m b))
theorem uS (hm:0 < m) (hb:0 < b):0 < m*(b / g m b):=fw hm (Dd (t:=m) hb)
theorem C7:b∣m*(b / g m b):=by
 have h1:=zy m b;refine ⟨lo m b,?_⟩;have h2:b / g m b*g m b=b:=vX m b
 calc m*(b / g m b)=lo m b*g m b*(b / g m b):=by rw[h1]
  _=lo m b*(b / g m b*g m b):=by rw[dJ,fR (g m b)]
  _=b*lo m b:=by rw[h2,fR]
theorem zA:∀{bs:List Int} {m:Int},0 < m->(∀b∈bs,0 < b)->0 < vV bs m
 | [],_,hm,_=>hm
 | b :: r,m,hm,h=>zA (bs:=r) (uS hm (h b cK)) λc hc=>h c (bG _ hc)
theorem E5:∀{bs:List Int} {m:Int},m∣vV bs m
 | [],_=>xZ _
 | b :: r,m=>Int.dvd_trans (Int.dvd_mul_right m _) (E5 (bs:=r))
theorem E4:∀{bs:List Int} {m b:Int},b∈bs->b∣vV bs m
 | c :: r,m,b,h=>by
  rcases aw.mp h with rfl | h
  ·exact Int.dvd_trans C7 (E5 (bs:=r))
  ·exact E4 (bs:=r) h
end Nm
namespace L2
open PySem PySem.Spec PyProof.Rows Nm
def Ij (K:FG9) (H:Hp) (p:Addr) (ns:List (Int×Int)):Prop:=∃xs,H p=some (.lst xs)/\Paired (λn x=>FX K H x n) ns xs
theorem Ij.same {K:FG9} (h:Ij K H p ns) (e:aA H H'):Ij K H' p ns:=by obtain ⟨xs,g,q⟩:=h;exact ⟨xs,e _ _ g,Paired.imp' (λ_ _ z=>e.num z) q⟩
def EJ (K:FG9) (T:String):V->Hp->VK->Prop:=λx H Q=>JQ K T x H Q\/∃a xs b,x=.ref a/\qO K H a xs/\PySem.W.kitOne K (.type "tuple") (.type T)=some b/\Q (.bl b) H
theorem BD:∀{bs:List Int} {m b:Int},vV (bs++[b]) m=vV bs m*(b / g (vV bs m) b)
 | [],_,_=>rfl
 | c :: r,m,b=>BD (bs:=r)
def dD (ns:List (Int×Int)) (B:Int):List Int:=ns.map λn=>n.1*(B / n.2)
def eJ (ns:List (Int×Int)):Int:=vV (ns.map (·.2)) 1
def HI (ns ms:List (Int×Int)):Int:=(List.zipWith (λx y=>x*y) (dD ns (eJ ns)) (dD ms (eJ ms))).sum
theorem o9 (h:n∈ns):n.2∣eJ ns:=E4 (av.mpr ⟨n,h,rfl⟩)
theorem GP {K:FG9} (h:ta σ H λvs H1=>∃(l1 l2:Addr) (xs ys:List V),vs=[.ref l1,.ref l2]/\bo K H1 l1 xs/\bo K H1 l2 ys/\ys.length=xs.length /\
 ∀L ts H',aA H1 H'->H1 L=none->H' L=some (.lst ts)->Paired (PN H') (xs.zip ys) ts->Q (.ref L) H'):Ee K ta σ H Q:=h
theorem Ud (hb:0 < b) (h:Sz k b):Sz k (g m b):=h.le (by
 have h1:(g m b).natAbs=Int.gcd m b:=by unfold g;simp
 rw[h1];exact jA (by lia) (by have:=fL (a:=m) (b:=b);exact eQ.mpr this |> λz=>by simpa using z))
theorem Iq {ts us:List Int} {i:Nat} (h:((ts.map V.int).zip (us.map V.int))[i]?=some pq):∃t u,ts[i]?=some t/\us[i]?=some u/\pq=(.int t,.int u):=by
 rw[RV,aD,aD] at h;obtain ⟨h1,h2⟩:=h;cases e1:ts[i]? with
 | none=>rw[e1] at h1;cases h1
 | some t =>
  cases e2:us[i]? with
  | none=>rw[e2] at h2;cases h2
  | some u =>
   rw[e1] at h1;rw[e2] at h2;refine ⟨t,u,rfl,rfl,?_⟩;cases pq;simp at h1 h2;rw[h1,h2]
def JK (K:FG9):Sp:=λvs H Q _=>∃x n,vs=[x]/\FX K H x n/\zW n/\∀H',aA H H'->Q (.bl true) H'
inductive vz (K:FG9) (vs:List V) (H:Hp) (Q:VK) (E9:XK):Prop
 | mk (p:Addr) (ns:List (Int×Int)):vs=[.ref p,.int ns.length]->Ij K H p ns->ns.length<=1000->(∀n∈ns,zW n)->(∀H',aA H H'->Q (.bl true) H')->vz K vs H Q E9
theorem xI {X:Cx} {a:Expr} {ta:TE} {pos:Pos} {c:Str} {T:String} {p p2:Pos} (hg:Gl X "isinstance") (hm:X.mg "isinstance"=none) (hb:bootBuiltins c=some (.type T)) (hmc:X.mg c=none) (ha:PE X a ta) (hgc:Gl X c:=by rfl) (hn:c≠"__name__":=by decide)
  (hd:(c == ("__debug__":Str))=false:=by decide) (he:starEach [a,.Name c p2] X.env=[(false,eval a X.env),(false,eval (.Name c p2) X.env)]:=by rfl)
  (hpl:(backTo pos (starEach [.Name c p2] X.env)).any (·.1)=false:=by rfl) (he2:starEach [.Name c p2] X.env=[(false,eval (.Name c p2) X.env)]:=by rfl):PE X (.Call (.Name "isinstance" p) [a,.Name c p2] [] pos) (TL (EJ X.K T) ta):=by
 intro pins s σ H Q I h;refine wpAny_Call_Name_kw (kE I hg hm PyProof.Rows.boot_isinstance ?_);have hA:PA X [a,.Name c p2] (iZ ta (iZ (tC (.ty T)) yd)):=fF ha (fF (CN hgc hmc hb rfl hn hd) kz he2) (by rw[he,he2])
 have hq:iZ ta (iZ (tC (.ty T)) yd) σ H (λvs H1=>∃x,vs=[x,.ty T]/\EJ X.K T x H1 Q):=by
  show ta σ H λx H1=>∃x',[x,V.ty T]=[x',V.ty T]/\EJ X.K T x' H1 Q
  have e:(λx H1=>∃x',[x,V.ty T]=[x',V.ty T]/\EJ X.K T x' H1 Q)=λx H1=>EJ X.K T x H1 Q:=by
   funext x H1;apply propext;constructor
   ·rintro ⟨x',e,q⟩;cases e;exact q
   ·intro q;exact ⟨x,rfl,q⟩
  rw[e];exact h
 refine PyProof.Rows.callWith_builtin1 (fP (hA pos pins s σ H _ I hq) λus s1 ⟨vs,H1,I1,r1,x,e,q1⟩=>?_) (by rw[he,he2]) hpl;subst e;obtain ⟨u,w',rfl,ru,rt⟩:=vals2 r1;cases rt;rcases q1 with ⟨t,bb,ty,ek,q⟩ | ⟨ad,xs,bb,rfl,hs,ek,q⟩
 ·exact BG I1 ru ty ek λtk=>⟨.bl bb,H1,I1.tok tk,rfl,q⟩
 ·cases ru;obtain ⟨its,_,⟨o,g1,g2,_⟩,_⟩:=I1.tuple hs;exact dk PySem.W.kitx_tuple I1.kIn ⟨o,g1,g2⟩ ek (λz=>nomatch z) λtk=>⟨.bl bb,H1,I1.tok tk,rfl,q⟩
theorem Lz (h:H l=some (.lst [x])) (hk:k<=1000) (q:∀p H',aA H H'->H p=none->H' p=some (.lst (List.replicate k x))->Q (.ref p) H'):SI (.ref l) (.int k) H Q :=
 ⟨l,k,[x],rfl,rfl,h,by lia,by lia,c6 (dF (by simp;lia)),λp hp=>q p _ (aA.new hp) hp (by rw[az];simp)⟩
theorem RA {k:Nat} (h:k<=xs.length):o7 xs none (some (k:Int))=xs.take k:=by
 unfold o7;rw[HT.rX,HT.CH,Nat.min_eq_left h];simp
theorem Fx {k:Nat}:o7 xs (some (k:Int)) none=xs.drop k:=by
 unfold o7;rw[HT.rX,HT.CH];by_cases h:k<=xs.length
 ·rw[Nat.min_eq_left h,aB (by simp)]
 ·rw[Nat.min_eq_right (by lia),xX (by lia),xX (by lia)];simp
theorem uc {α β:Type} {F:α->β->Prop} {x:α} {y:β} (h:F x y):∀m:Nat,Paired F (List.replicate m x) (List.replicate m y)
 | 0=>.nil
 | m+1=>.cons h (uc h m)
theorem eN (h:a < n):KQ n (a:Int)=some a:=by
 unfold KQ;rw[if_pos (by lia),if_pos (by lia),Int.toNat_natCast]
theorem Fw {k:Nat}:o7 xs none (some (k:Int))=xs.take k:=by
 by_cases h:k<=xs.length
 ·exact RA h
 ·unfold o7;rw[HT.rX,HT.CH,Nat.min_eq_right (by lia),aB (by simp),aB (by lia)];rfl
theorem nX {α β:Type} {F:α->β->Prop}:∀{l1:List α} {l2:List β} (_:Paired F l1 l2) (k:Nat),Paired F (l1.take k) (l2.take k)
 | _,_,.nil,k=>by simp;exact .nil
 | _,_,.cons h r,0=>.nil
 | _,_,.cons h r,k+1=>.cons h (nX r k)
def N3 (K:FG9):List V->Hp->VK->Prop:=λxs H Q=>∃p ys,xs=[.ref p]/\(bo K H p ys\/qO K H p ys)/\∀l,H l=none->Q (.ref l) (upd H l (.lst ys))
theorem oV (K:FG9) (hK:X.K=K):pC X (.type "list") (N3 K):=by subst hK;exact mJ
theorem aA.none (s:aA H H') (h:H' l=Option.none):H l=Option.none:=by
 cases e:H l with
 | none=>rfl
 | some o=>have:=s _ _ e;rw[h] at this;cases this
theorem Ld (h:b.natAbs<=1000000):Sz 20 b:=aK h (by decide)
theorem dB.none (u:dB b H H') (B:lK H' b) (h:H' l=Option.none):H l=Option.none:=by
 cases e:H l with
 | none=>rfl
 | some o =>
  by_cases z:l=b
  ·obtain ⟨_,_,_,_,_,e2,_⟩:=B;rw[<- z,h] at e2;cases e2
  ·have:=u.1 l o e z;rw[h] at this;cases this
end L2
namespace Nm
def nm (q:Rat):Int×Int:=(q.num,(q.den:Int))
theorem gJ (q:Rat):0 < (nm q).2:=by have:=q.den_pos;show 0 < (q.den:Int);lia
theorem C4 (q:Rat):Int.gcd (nm q).1 (nm q).2=1:=q.reduced
theorem QZ (h:nm p=nm q):p=q:=by
 have h1:p.num=q.num:=congrArg Prod.fst h;have h2:(p.den:Int)=q.den:=congrArg Prod.snd h;exact Rat.ext h1 (by lia)
theorem kK (q:Rat):(q.num:Rat)=q*(q.den:Rat):=by
 have h:=Rat.num_divInt_den q;rw[Rat.divInt_eq_div] at h
 have hd:((q.den:Int):Rat)≠0:=by
  intro z;have z:=wU.mp z;have:=q.den_pos
  lia
 have e:((q.den:Int):Rat)=(q.den:Rat):=aP _
 calc (q.num:Rat)=(q.num:Rat) / ((q.den:Int):Rat)*((q.den:Int):Rat):=(F9 hd).symm
  _=q*(q.den:Rat):=by rw[h,e]
theorem SQ (hb:0 < b) (hg:Int.gcd a b=1) (e:q*(b:Rat)=(a:Rat)):(a,b)=nm q:=by
 have h1:a*(q.den:Int)=q.num*b:=by
  apply dj.mp;rw[aM,aM,<- e,kK,aP];grind
 obtain ⟨e1,e2⟩:=uniq hb (gJ q) hg (C4 q) h1;exact Prod.ext e1 e2
theorem qF {t b:Int} (hb:0 < b) (e:q*(b:Rat)=(t:Rat)):(lo t b,hi t b)=nm q:=by
 refine SQ (Dd hb) (zw (by lia)) ?_;have h:=zx t b;have hb':(b:Rat)≠0:=λz=>by have:=wU.mp z;lia
 have h2:((lo t b:Int):Rat)*(b:Rat)=(t:Rat)*((hi t b:Int):Rat):=by rw[<- aM,h,aM]
 rw[<- e] at h2;have h3:(q*((hi t b:Int):Rat) - ((lo t b:Int):Rat))*(b:Rat)=0:=by grind
 rcases Nh.mp h3 with h4 | h4
 ·grind
 ·exact absurd h4 hb'
def Fr (M V:Nat) (q:Rat):Prop:=∃z:Int,q*(M:Rat)=(z:Rat)/\z.natAbs<=V*M
theorem Fr.mono (h:Fr M V q) (l:V<=V'):Fr M V' q:=by obtain ⟨z,e,b⟩:=h;exact ⟨z,e,af b (ax _ l)⟩
theorem Fr.scale (h:Fr M V q) (k:Nat):Fr (M*k) V q:=by
 obtain ⟨z,e,b⟩:=h;refine ⟨z*k,?_,?_⟩
 ·rw[qY,aM,<- e,aP,Rat.mul_assoc]
 ·rw[eC,bX,<- bY];exact ax _ b
theorem Fr.scaleL (h:Fr M V q) (k:Nat):Fr (k*M) V q:=by rw[aX];exact h.scale k
theorem Fr.dvd (h:Fr M V q) (d:M∣N):Fr N V q:=by obtain ⟨k,rfl⟩:=d;exact h.scale k
theorem Fr.add (h:Fr M V p) (h':Fr M W q):Fr M (V+W) (p+q):=by
 obtain ⟨z,e,b⟩:=h;obtain ⟨z',e',b'⟩:=h';refine ⟨z+z',by rw[z6,<- e,<- e',Rat.add_mul],?_⟩;rw[B6];have:=Int.natAbs_add_le z z'
 lia
theorem Fr.neg (h:Fr M V q):Fr M V (-q):=by
 obtain ⟨z,e,b⟩:=h;exact ⟨-z,by rw[cX,<- e,Rat.neg_mul],by rw[ko];exact b⟩
theorem Fr.mul (h:Fr M V p) (h':Fr N W q):Fr (M*N) (V*W) (p*q):=by
 obtain ⟨z,e,b⟩:=h;obtain ⟨z',e',b'⟩:=h';refine ⟨z*z',?_,?_⟩
 ·rw[qY,aM,<- e,<- e'];grind
 ·rw[eC]
  calc z.natAbs*z'.natAbs<=(V*M)*(W*N):=aZ b b'
   _=V*W*(M*N):=by rw[bY,Nat.mul_left_comm M,<- bY]
theorem Fr.zero:Fr M V 0:=⟨0,by simp,by simp⟩
theorem Fr.int {i:Int} (h:i.natAbs<=V):Fr M V (i:Rat):=⟨i*M,by rw[aM,aP],by rw[eC,bX];exact ax _ h⟩
theorem Fr.den (h:Fr M V q):(q.den:Int)∣(M:Int):=by
 obtain ⟨z,e,b⟩:=h
 have h1:q.num*(M:Int)=z*(q.den:Int):=by
  apply dj.mp;rw[aM,aM,<- e,kK,aP,aP];grind
 have h2:(q.den:Int)∣q.num*(M:Int):=⟨z,by rw[h1,fR]⟩;exact qI (by rw[k9];exact C4 q) h2
theorem Fr.den_le (h:Fr M V q) (hM:0 < M):q.den<=M:=jA hM (nN.mp h.den)
theorem Fr.num_le (h:Fr M V q) (hM:0 < M):q.num.natAbs<=V*M:=by
 have hd:=h.den;obtain ⟨z,e,b⟩:=h;obtain ⟨k,hk⟩:=nN.mp hd;have hk0:k≠0:=λz=>by rw[z,Nat.mul_zero] at hk;lia
 have h1:z=q.num*(k:Int):=by
  apply dj.mp;rw[aM,<- e,kK,aP,hk,qY];grind
 rw[h1] at b;exact af (oS (by lia)) b
theorem Fr.own (q:Rat) (h:q.num.natAbs<=V):Fr q.den V q:=⟨q.num,(kK q).symm,af h (dP _ q.den_pos)⟩
theorem Fr.sz (h:Fr M V q) (hM:0 < M) (h1:M<=2^k) (h2:V<=2^j):Sz (j+k+1) (nm q).1/\Sz (k+1) (nm q).2:=by
 constructor
 ·show q.num.natAbs < 2^(j+k+1)
  have h3:=h.num_le hM;have h4:V*M<=2^j*2^k:=aZ h2 h1;rw[cZ,bT];have:=Nat.two_pow_pos (j+k);rw[bT] at this
  lia
 ·show (q.den:Int).natAbs < 2^(k+1)
  have h3:=h.den_le hM;rw[bX,cZ];have:=Nat.two_pow_pos k
  lia
theorem Fr.sum {M V:Nat}:∀{l:List Rat},(∀x∈l,Fr M V x)->Fr M (l.length*V) l.sum
 | [],_=>by simp;exact Fr.zero
 | x :: r,h=>by
  rw[List.sum_cons,bA,iq,iu];exact (h x (.head _)).add (Fr.sum λy hy=>h y (.tail _ hy))
def eI (xs ys:List Rat):Rat:=(List.zipWith (λx y=>x*y) xs ys).sum
theorem Fr.dot (h:∀x∈xs,Fr M V x) (h':∀y∈ys,Fr N W y):Fr (M*N) (xs.length*(V*W)) (eI xs ys):=by
 have q:=Fr.sum (M:=M*N) (V:=V*W) (l:=List.zipWith (λx y=>x*y) xs ys) λz hz=>by
  obtain ⟨i,hi,e⟩:=bB hz;rw[fv] at e;rw[<- e];exact (h _ (aF _)).mul (h' _ (aF _))
 exact q.mono (ax _ (by rw[aV];lia))
theorem Ki (xs ys:List Rat):eI xs ys=eI ys xs:=by
 unfold eI;rw[List.zipWith_comm];congr 2;funext a b;exact eB ..
theorem xN:∀{bs:List Int} {m M:Int},0 < m->m∣M->(∀b∈bs,0 < b/\b∣M)->vV bs m∣M
 | [],_,_,_,h,_=>h
 | b :: r,m,M,hm,h,hb=>by
  have b1:=hb b cK;refine xN (bs:=r) (uS hm b1.1) ?_ λc hc=>hb c (bG _ hc)
  have gp:0 < g m b:=zD (by lia);have e1:=zy m b;have e2:=vX m b;obtain ⟨u,hu⟩:=h;obtain ⟨v,hv⟩:=b1.2
  have h3:lo m b*u=hi m b*v:=by
   apply tI (show g m b≠0 by lia)
   calc lo m b*u*g m b=lo m b*g m b*u:=by rw[dJ,fR u,<- dJ]
    _=m*u:=by rw[e1]
    _=M:=hu.symm
    _=b*v:=hv
    _=hi m b*g m b*v:=by rw[e2]
    _=hi m b*v*g m b:=by rw[dJ,fR (g m b),<- dJ]
  have h4:hi m b∣lo m b*u:=⟨v,h3⟩;have h5:hi m b∣u:=qI (by rw[k9];exact zw (by lia)) h4;obtain ⟨w,hw⟩:=h5;refine ⟨w,?_⟩;show M=m*hi m b*w
  rw[hu,hw,dJ]
theorem Dj (hb:0 < b) (d:a∣b) (h:Sz k b):Sz k a:=h.le (jA (by lia) (eQ.mpr d))
end Nm
namespace Nm
def Dr (W:Nat) (x:Rat):Prop:=x.num.natAbs<=W/\x.den<=W
def Bx:List Nat->Nat
 | []=>1
 | a :: r=>a*Bx r
theorem Bu:∀{l:List Nat},(∀a∈l,0 < a)->0 < Bx l
 | [],_=>Nat.one_pos
 | a :: r,h=>cx (h a (.head _)) (Bu λb hb=>h b (.tail _ hb))
theorem Bw:∀{l:List Nat} {a:Nat},a∈l->a∣Bx l
 | b :: r,a,h=>by
  rcases aw.mp h with rfl | h
  ·exact vh ..
  ·exact F3 (Bw h) (kY ..)
theorem EL {k:Nat}:∀{l:List Nat},(∀a∈l,a<=2^k)->Bx l<=2^(k*l.length)
 | [],_=>by simp [Bx]
 | a :: r,h=>by
  rw[bA,Nat.mul_succ,bT,aX (2^(k*r.length))];exact aZ (h a (.head _)) (EL λb hb=>h b (.tail _ hb))
def GF (M V:Nat) (rows:LR9):Prop:=∀xs∈rows,∀x∈xs,Fr M V x
def bu (rows:LR9) (w:Nat):LR9:=(List.range w).map λj=>rows.map λxs=>xs.getD j 0
def iD (one other:LR9) (w:Nat):LR9:=one.map λxs=>(bu other w).map λys=>eI ys xs
theorem cT:(bu rows w).length=w:=by simp [bu]
theorem mP:∀ys∈bu rows w,ys.length=rows.length:=λys hy=>by
 obtain ⟨j,_,rfl⟩:=av.mp hy;exact ag ..
end Nm
namespace L2
open PySem PySem.Spec PyProof.Rows Nm
theorem dB.sqt {K:FG9} (u:dB b H H') (B:lK H b) (h:qO K H a xs):qO K H' a xs:=by
 rcases h with (h | ⟨o,h⟩) | h
 ·exact .inl (.inl (u.tup B h))
 ·exact .inl (.inr ⟨o,u.other (λz=>by obtain ⟨_,_,_,_,_,e,_⟩:=B;rw[z,e] at h;cases h) h⟩)
 ·exact .inr h
theorem Lg {K:FG9} (h:qO K H a xs) (hl:H l=some (.lst ys)):qO K (upd H l o) a xs:=by
 rcases h with (h | ⟨o,h⟩) | h
 ·exact .inl (.inl (by rw[aJ λz=>by rw[z,hl] at h;cases h];exact h))
 ·exact .inl (.inr ⟨o,by rw[aJ λz=>by rw[z,hl] at h;cases h];exact h⟩)
 ·exact .inr h
def cf (K:FG9) (H:Hp) (q:Rat) (x:V):Prop:=FX K H x (nm q)
section
variable {K:FG9} {H H':Hp} {q:Rat} {x:V} {b l p:Addr} {qs:List Rat}
theorem cf.same (h:cf K H q x) (e:aA H H'):cf K H' q x:=e.num h
theorem cf.upto (h:cf K H q x) (u:dB b H H') (B:lK H b):cf K H' q x:=by obtain ⟨p,e,s⟩:=h;exact ⟨p,e,u.sqt B s⟩
theorem cf.updL (h:cf K H q x) (hl:H l=some (.lst ys)):cf K (upd H l o) q x:=by obtain ⟨p,e,s⟩:=h;exact ⟨p,e,Lg s hl⟩
theorem cf.mk (h:H r=some (.tup [.int a,.int c])) (e:(a,c)=nm q):cf K H q (.ref r):=⟨r,rfl,by rw[<- e];exact qO.of h⟩
def c7 (K:FG9) (H:Hp) (p:Addr) (qs:List Rat):Prop:=∃xs,H p=some (.lst xs)/\Paired (cf K H) qs xs
theorem c7.same (h:c7 K H p qs) (e:aA H H'):c7 K H' p qs:=by obtain ⟨xs,g,r⟩:=h;exact ⟨xs,e _ _ g,Paired.imp' (λ_ _ z=>z.same e) r⟩
theorem c7.upto (h:c7 K H p qs) (u:dB b H H') (B:lK H b) (n:p≠b):c7 K H' p qs:=by obtain ⟨xs,g,r⟩:=h;exact ⟨xs,u.other n g,Paired.imp' (λ_ _ z=>z.upto u B) r⟩
theorem c7.updL (h:c7 K H p qs) (hl:H l=some (.lst ys)) (n:p≠l):c7 K (upd H l o) p qs:=by obtain ⟨xs,g,r⟩:=h;exact ⟨xs,by rw[aJ n];exact g,Paired.imp' (λ_ _ z=>z.updL hl) r⟩
theorem wB {α β γ:Type} {F:α->β->Prop} {f:γ->α}:∀{l:List γ} {l2:List β},Paired (λc x=>F (f c) x) l l2->Paired F (l.map f) l2
 | _,_,.nil=>.nil
 | _,_,.cons r t=>.cons r (wB t)
theorem c7.rowK (h:c7 K H p qs):Ij K H p (qs.map nm):=by obtain ⟨xs,g,r⟩:=h;exact ⟨xs,g,wB (F:=λn x=>FX K H x n) r⟩
def cS (K:FG9) (H0 H:Hp) (qs:List Rat) (x:V):Prop:=∃q,x=V.ref q/\H0 q=none/\c7 K H q qs
def bx (K:FG9) (H0 H:Hp) (p:Addr) (rows:LR9):Prop:=∃xs,H p=some (.lst xs)/\Paired (cS K H0 H) rows xs/\V.ref p∉xs
theorem ij {rows:LR9} (h:∃H2,H2 p=none/\Paired (cS K H0 H2) rows ys):V.ref p∉ys:=λhm=>by
 obtain ⟨H2,e,pr⟩:=h;obtain ⟨qs,_,q,z,_,xs,g,_⟩:=fe pr hm;cases z;rw[e] at g;cases g
variable {H0:Hp} {rows:LR9}
theorem cS.same (h:cS K H0 H qs x) (e:aA H H'):cS K H0 H' qs x:=by obtain ⟨q,a,b,c⟩:=h;exact ⟨q,a,b,c.same e⟩
theorem cS.upto (h:cS K H0 H qs x) (u:dB b H H') (B:lK H b) (nb:H0 b≠none):cS K H0 H' qs x:=by obtain ⟨q,a,c,d⟩:=h;exact ⟨q,a,c,d.upto u B λz=>nb (by rw[<- z];exact c)⟩
theorem cS.weak (h:cS K H0 H qs x) (e:aA H1 H0):cS K H1 H qs x:=by obtain ⟨q,a,b,c⟩:=h;exact ⟨q,a,e.none b,c⟩
theorem bx.same (h:bx K H0 H p rows) (e:aA H H'):bx K H0 H' p rows:=by obtain ⟨xs,g,r,n⟩:=h;exact ⟨xs,e _ _ g,Paired.imp' (λ_ _ z=>z.same e) r,n⟩
theorem bx.weak (h:bx K H0 H p rows) (e:aA H1 H0):bx K H1 H p rows:=by obtain ⟨xs,g,r,n⟩:=h;exact ⟨xs,g,Paired.imp' (λ_ _ z=>z.weak e) r,n⟩
end
def IX:Kind Rat:=SX.via nm (λ_ _ e=>QZ e) (λK H x q=>cf K H q x) id
def BF:Kind (List Rat):=SY IX
def C9:Kind (LR9):=SY BF
theorem c7.kind {K:FG9} (h:c7 K H p qs):BF.R K H (.ref p) qs:=by obtain ⟨xs,g,q⟩:=h;exact ⟨p,xs,rfl,bo.of g,q⟩
theorem bx.kind {K:FG9} (h:bx K H0 H p rows):C9.R K H (.ref p) rows:=by obtain ⟨xs,g,q,_⟩:=h;exact ⟨p,xs,rfl,bo.of g,Paired.imp' (λ_ _ ⟨q,a,_,c⟩=>by rw[a];exact c.kind) q⟩
def kd (x:Rat):Prop:=Sz 4000 (nm x).1/\Sz 4000 (nm x).2
def Fits (l:List Rat):Prop:=∃M V:Nat,0 < M/\M<=2^900/\V<=2^900/\∀x∈l,Fr M V x
theorem Fits.szn (h:Fits l) (hx:x∈l):kd x:=by
 obtain ⟨M,V,h0,h1,h2,h3⟩:=h;obtain ⟨a,b⟩:=(h3 x hx).sz h0 h1 h2;exact ⟨a.mono (by decide),b.mono (by decide)⟩
theorem Fits.ok (h:Fits l) (hx:x∈l):zW (nm x):=⟨gJ x,C4 x,(h.szn hx).1.mono (by decide),(h.szn hx).2.mono (by decide)⟩
theorem De {M V:Nat} (h0:0 < M) (h1:M<=2^1800) (h2:V<=2^1810) (h:Fr M V x):kd x:=by
 obtain ⟨a,b⟩:=h.sz h0 h1 h2;exact ⟨a.mono (by decide),b.mono (by decide)⟩
theorem Cd (h:kd x):zW (nm x):=⟨gJ x,C4 x,h.1.mono (by decide),h.2.mono (by decide)⟩
inductive mW (K:FG9) (f:Rat->Rat->Rat) (vs:List V) (H:Hp) (Q:VK) (E9:XK):Prop
 | mk (u v:V) (x y:Rat):vs=[u,v]->cf K H x u->cf K H y v->kd x->kd y->(∀r H',aA H H'->cf K H' (f x y) (.ref r)->Q (.ref r) H')->mW K f vs H Q E9
section
variable {K:FG9} {vs:List V} {H:Hp} {Q:VK} {E:XK}
theorem GS (hf:∀x y:Rat,(f x y)*(((nm x).2*(nm y).2:Int):Rat)=((F (nm x).1 (nm x).2 (nm y).1 (nm y).2:Int):Rat)) (h:mW K f vs H Q E):IF K F vs H Q E:=by
 obtain ⟨u,v,x,y,rfl,⟨p,rfl,hp⟩,⟨q,rfl,hq⟩,⟨s1,s2⟩,⟨s3,s4⟩,k⟩:=h;refine ⟨p,q,_,_,_,_,rfl,hp,hq,gJ x,gJ y,s1,s2,s3,s4,λr H' s g=>k r H' s (cf.mk g ?_)⟩;exact qF (fw (gJ x) (gJ y)) (hf x y)
theorem qB (x:Rat):(((nm x).1:Int):Rat)=x*(((nm x).2:Int):Rat):=by
 show (x.num:Rat)=x*(((x.den:Nat):Int):Rat)
 rw[kK,aP]
theorem xT (h:mW K (λx y=>x+y) vs H Q E):IF K PD vs H Q E:=GS (λx y=>by
 unfold PD;rw[z6,aM,aM,aM,qB,qB];grind) h
theorem xG (h:mW K (λx y=>x - y) vs H Q E):IF K Mz vs H Q E:=GS (λx y=>by
 unfold Mz;rw[zZ,aM,aM,aM,qB,qB];grind) h
theorem xK (h:mW K (λx y=>x*y) vs H Q E):IF K My vs H Q E:=GS (λx y=>by
 unfold My;rw[aM,aM,qB,qB];grind) h
end
def FW (M:Int) (ns:List (Int×Int)):Prop:=0 < M/\Sz 4400 M/\∀n∈ns,0 < n.2/\n.2∣M/\Sz 4400 n.1
theorem FW.bot (h:FW M ns):0 < eJ ns/\Sz 4400 (eJ ns):=by
 have hb:∀b∈ns.map (·.2),0 < b/\b∣M:=λb hb=>by
  obtain ⟨n,hn,rfl⟩:=av.mp hb;exact ⟨(h.2.2 n hn).1,(h.2.2 n hn).2.1⟩
 exact ⟨zA (by decide) λb q=>(hb b q).1,Dj h.1 (xN (by decide) (Int.one_dvd _) hb) h.2.1⟩
inductive Li (K:FG9) (vs:List V) (H:Hp) (Q:VK) (E9:XK):Prop
 | mk (p:Addr) (bs:List Int) (M:Int):vs=[.ref p]->bo K H p (bs.map V.int)->0 < M->Sz 4400 M->((∀b∈bs,0 < b/\b∣M))->Q (.int (vV bs 1)) H->Li K vs H Q E9
inductive Lj (K:FG9) (vs:List V) (H:Hp) (Q:VK) (E9:XK):Prop
 | mk (p:Addr) (ns:List (Int×Int)) (M:Int):vs=[.ref p]->Ij K H p ns->ns.length<=1000->FW M ns->(∀H',aA H H'->Q (.int (eJ ns)) H')->Lj K vs H Q E9
inductive Ei (K:FG9) (vs:List V) (H:Hp) (Q:VK) (E9:XK):Prop
 | mk (p:Addr) (ns:List (Int×Int)) (M:Int) (B:Int):vs=[.ref p,.int B]->Ij K H p ns->ns.length<=1000->FW M ns->0 < B->Sz 4400 B->(∀r H',H r=none->aA H H'->H' r=some (.lst ((dD ns B).map V.int))->Q (.ref r) H')->Ei K vs H Q E9
theorem uA (h:FW M ns) (hB:0 < B) (sB:Sz 4400 B) (ht:t∈dD ns B):Sz 8800 t:=by
 obtain ⟨n,hn,rfl⟩:=av.mp ht;have hp:=h.2.2 n hn
 have sq:Sz 4400 (B / n.2):=sB.le (by
  rw[RW (by lia)];exact Nat.div_le_self ..)
 exact (hp.2.2.mul sq).mono (by lia)
theorem rh (h:(nm x).2∣B):(((nm x).1*(B / (nm x).2):Int):Rat)=x*(B:Rat):=by
 obtain ⟨k,rfl⟩:=h;have hp:=gJ x;rw[Int.mul_ediv_cancel_left _ (by lia),aM,aM,qB];grind
theorem Fd {B C:Int}:∀{xs ys:List Rat},(∀x∈xs,(nm x).2∣B)->(∀y∈ys,(nm y).2∣C)->(((List.zipWith (λx y=>x*y) (dD (xs.map nm) B) (dD (ys.map nm) C)).sum:Int):Rat)=eI xs ys*((B:Rat)*(C:Rat))
 | [],ys,_,_=>by simp [dD,eI]
 | x :: xs,[],_,_=>by simp [dD,eI]
 | x :: xs,y :: ys,h1,h2=>by
  have ih:=Fd (B:=B) (C:=C) (xs:=xs) (ys:=ys) (λz hz=>h1 z (.tail _ hz)) (λz hz=>h2 z (.tail _ hz));have e1:=rh (h1 x (.head _));have e2:=rh (h2 y (.head _));have e3:(List.zipWith (λx y=>x*y) (dD ((x :: xs).map nm) B) (dD ((y :: ys).map nm) C)).sum=((nm x).1*(B / (nm x).2))*((nm y).1*(C / (nm y).2))+(List.zipWith (λx y=>x*y) (dD (xs.map nm) B) (dD (ys.map nm) C)).sum:=rfl;have e4:eI (x :: xs) (y :: ys)=x*y+eI xs ys:=rfl;rw[e3,e4,z6,aM,ih,e1,e2];grind
theorem Jg (h1:0 < eJ (xs.map nm)) (h2:0 < eJ (ys.map nm)):(lo (HI (xs.map nm) (ys.map nm)) (eJ (xs.map nm)*eJ (ys.map nm)),hi (HI (xs.map nm) (ys.map nm)) (eJ (xs.map nm)*eJ (ys.map nm)))=nm (eI xs ys):=by
 refine qF (fw h1 h2) ?_;unfold HI;rw[Fd (λx hx=>o9 (av.mpr ⟨x,hx,rfl⟩)) (λx hx=>o9 (av.mpr ⟨x,hx,rfl⟩)),aM]
inductive Eh (K:FG9) (vs:List V) (H:Hp) (Q:VK) (E9:XK):Prop
 | mk (p:Addr) (w:Nat) (H0:Hp) (rows:LR9):vs=[.ref p,.int w]->bx K H0 H p rows->rows.length<=1000->w<=1000->(∀xs∈rows,xs.length=w)->(∀r H',H r=none->aA H H'->bx K H H' r (bu rows w)->Q (.ref r) H')->Eh K vs H Q E9
def Ec (m:Nat) (a:Int):List Rat:=(List.range m).map λ(i:Nat)=>if ((i:Nat):Int)=a then 1 else 0
inductive Eg (K:FG9) (vs:List V) (H:Hp) (Q:VK) (E9:XK):Prop
 | mk (m:Nat) (a:Int):vs=[.int m,.int a]->m<=1000->(∀r H',H r=none->aA H H'->c7 K H' r (Ec m a)->Q (.ref r) H')->Eg K vs H Q E9
inductive yu (K:FG9) (vs:List V) (H:Hp) (Q:VK) (E9:XK):Prop
 | mk (b:Addr) (w:Nat):vs=[.ref b,.int w]->lK H b->1<=w->w<=1000000->(∀r x H',Dr (max w 6) x->cf K H' x (.ref r)->lK H' b->dB b H H'->Q (.ref r) H')->yu K vs H Q E9
inductive Et (K:FG9) (vs:List V) (H:Hp) (Q:VK) (E9:XK):Prop
 | mk (b:Addr) (m w:Nat):vs=[.ref b,.int m,.int w]->lK H b->m<=1000->1<=w->w<=1000000->(∀r xs H',H r=none->c7 K H' r xs->xs.length=m->(∀x∈xs,Dr (max w 6) x)->lK H' b->dB b H H'->Q (.ref r) H')->Et K vs H Q E9
inductive yt (K:FG9) (vs:List V) (H:Hp) (Q:VK) (E9:XK):Prop
 | mk (p q:Addr) (xs ys:List Rat):vs=[.ref p,.ref q]->c7 K H p xs->c7 K H q ys->ys.length=xs.length->xs.length<=1000->(∀x∈xs,kd x)->(∀y∈ys,kd y)->(∀r H',H r=none->aA H H'->c7 K H' r (List.zipWith (λx y=>x+y) xs ys)->Q (.ref r) H')->yt K vs H Q E9
inductive GB (K:FG9) (vs:List V) (H:Hp) (Q:VK) (E9:XK):Prop
 | mk (u:V) (q:Addr) (c:Rat) (ys:List Rat):vs=[u,.ref q]->cf K H c u->kd c->c7 K H q ys->ys.length<=1000->(∀y∈ys,kd y)->(∀r H',H r=none->aA H H'->c7 K H' r (ys.map λy=>c*y)->Q (.ref r) H')->GB K vs H Q E9
inductive yy (K:FG9) (vs:List V) (H:Hp) (Q:VK) (E9:XK):Prop
 | mk (p:Addr) (H0:Hp) (rows:LR9):vs=[.ref p]->bx K H0 H p rows->rows.length<=1000->(∀xs∈rows,xs.length<=1000)->(∀r H',H r=none->aA H H'->bx K H H' r rows->Q (.ref r) H')->yy K vs H Q E9
section
variable {K:FG9} {a:Addr} {xs:List V} {g:TG} {tf:TT} {te:TE} {Q:VK} {σ₀:St} {H:Hp} {α β:Type}
theorem dH {F:Hp->α->V->Prop} (G:Hp->β->V->Prop) (f:α->β) (hx:H a=some (.lst xs)) (pf:Paired (F H) as xs) (hl:as.length<=1000)
  (hF:∀{H H' c x},F H c x->aA H H'->F H' c x) (hG:∀{H H' c x},G H c x->aA H H'->G H' c x)
  (hs:∀(i:Nat) c x H' NY NN,as[i]?=some c->aA H H'->F H' c x->(∀y H2,aA H' H2->G H2 (f c) y->NY y H2)->rj σ₀ g tf te x H' NY NN)
  (hd:∀ys H' p,H p=none->aA H H'->H' p=some (.lst ys)->Paired (G H') (as.map f) ys->(∃H2,H2 p=none/\Paired (G H2) (as.map f) ys)->Q (.ref p) H'):sT (PU K a) σ₀ g tf te Q H:=by
 have lx:=pf.length;refine eT (K:=K) (xs:=xs) (λi ys H'=>aA H H'/\Paired (G H') ((as.take i).map f) ys) j7 ⟨aA.refl _,.nil⟩ (λi ys H' _ ⟨s,_⟩=>bo.of (s _ _ hx)) ?_ ?_
 ·rintro i x ys H' hx' hlen ⟨s,pr⟩;obtain ⟨c,ec,hc⟩:=bN pf hx';refine hs i c x H' _ _ ec s (hF hc s) λy H2 s2 gy=>⟨s.trans s2,?_⟩
  rw[take_snoc ec,dm];exact bR (Paired.imp' (λ_ _ z=>hG z s2) pr) (.cons gy .nil)
 ·rintro ys H' hy ⟨s,pr⟩ p hp;rw[aB (by lia)] at pr;exact hd ys _ p (s.none hp) (s.trans (aA.new hp)) az (Paired.imp' (λ_ _ z=>hG z (aA.new hp)) pr) ⟨H',hp,pr⟩
theorem kG (G:Hp->β->V->Prop) (f:Nat->β) (hl:n<=1000) (hG:∀{H H' c x},G H c x->aA H H'->G H' c x)
  (hs:∀(i:Nat) H' NY NN,i < n->aA H H'->(∀y H2,aA H' H2->G H2 (f i) y->NY y H2)->rj σ₀ g tf te (.int i) H' NY NN)
  (hd:∀ys H' p,H p=none->aA H H'->H' p=some (.lst ys)->Paired (G H') ((List.range n).map f) ys->(∃H2,H2 p=none/\Paired (G H2) ((List.range n).map f) ys)->Q (.ref p) H'):sT (F8 0 n) σ₀ g tf te Q H:=by
 refine qL (λi ys H'=>aA H H'/\Paired (G H') ((List.range i).map f) ys) j7 ⟨aA.refl _,.nil⟩ ?_ ?_
 ·rintro i ys H' hi hlen ⟨s,pr⟩;rw[xY];refine hs i H' _ _ hi s λy H2 s2 gy=>⟨s.trans s2,?_⟩
  rw[z8,dm];exact bR (Paired.imp' (λ_ _ z=>hG z s2) pr) (.cons gy .nil)
 ·rintro ys H' hy ⟨s,pr⟩ p hp;exact hd ys _ p (s.none hp) (s.trans (aA.new hp)) az (Paired.imp' (λ_ _ z=>hG z (aA.new hp)) pr) ⟨H',hp,pr⟩
theorem Kw (G:Hp->β->V->Prop) (C:β->Prop) (hB:lK H b) (hl:n<=1000) (hG:∀{H' H'' c x},G H' c x->dB b H' H''->lK H' b->G H'' c x)
  (hs:∀(i:Nat) H' NY NN,i < n->dB b H H'->lK H' b->(∀y c H2,dB b H' H2->lK H2 b->C c->G H2 c y->NY y H2)->rj σ₀ g tf te (.int i) H' NY NN)
  (hd:∀ys cs H' p,H p=none->dB b H H'->lK H' b->H' p=some (.lst ys)->cs.length=n->(∀c∈cs,C c)->Paired (G H') cs ys->(∃H2,H2 p=none/\Paired (G H2) cs ys)->Q (.ref p) H'):sT (F8 0 n) σ₀ g tf te Q H:=by
 refine qL (λi ys H'=>dB b H H'/\lK H' b/\∃cs,cs.length=i/\(∀c∈cs,C c)/\Paired (G H') cs ys) j7 ⟨(aA.refl _).upto,hB,[],rfl,(λ_ z=>nomatch z),.nil⟩ ?_ ?_
 ·rintro i ys H' hi hlen ⟨u,B,cs,lc,hc,pr⟩;rw[xY];refine hs i H' _ _ hi u B λy c H2 u2 B2 cc gy=>⟨u.trans u2,B2,cs++[c],by simp [lc],Jq hc cc,bR (Paired.imp' (λ_ _ z=>hG z u2 B) pr) (.cons gy .nil)⟩
 ·rintro ys H' hy ⟨u,B,cs,lc,hc,pr⟩ p hp;have s:aA H' (upd H' p (.lst ys)):=aA.new hp;exact hd ys cs _ p (u.none B hp) (u.same s) (B.same s) az lc hc (Paired.imp' (λ_ _ z=>hG z s.upto B) pr) ⟨H',hp,pr⟩
end
section
variable {X:Cx}
theorem eF {g:TG} {tb:TS} {D:Ends} (Pv:Nat->St->Hp->Prop) (h0:Pv 0 σ H)
  (hs:∀(i:Nat) σ H,i < n->Pv i σ H->g (.int i) σ H λσ2 H2=>tb { D with nx:=Pv (i+1),ct:=Pv (i+1),bk:=D.nx } σ2 H2) (hd:∀σ H,Pv n σ H->D.nx σ H) :
  ∃W:Nat->Nat->St->Hp->Prop,(∃m,W 0 m σ H)/\∀i m σ H,W i m σ H →
   ((F8 0 n).stop i H/\D.nx σ H)\/((F8 0 n).go i H/\∃N:St->Hp->Prop,(∀σ' H',N σ' H'->∃m',m' < m/\W (i+1) m' σ' H')/\∀x H',(F8 0 n).yld i H x H'->g x σ H' λσ2 H2=>tb { D with nx:=N,ct:=N,bk:=D.nx } σ2 H2) :=
 BK (lo:=0) Pv h0 (λi σ H hi p=>by rw[xY];exact hs i σ H hi p) hd
theorem v5:pC X (.type "int") (λxs H Q=>∃b:Bool,xs=[.bl b]/\Q (.int (if b=true then 1 else 0)) H):=by
 intro pins s σ H xs us Q I r h;obtain ⟨b,rfl,q⟩:=h;obtain ⟨u,rfl,ru⟩:=vals1 r;cases ru;exact call_int_bool ⟨.int _,H,I.tok _,⟨_,rfl⟩,q⟩
theorem AJ (K:FG9) (hK:X.K=K):pC X (.builtin "len") (λxs H Q=>∃p ys,xs=[.ref p]/\(bo K H p ys\/qO K H p ys)/\Q (.int ys.length) H):=by subst hK;exact aU
theorem LK {st:Stmt}:PS X st (λ_ _ _=>False):=λ_ _ _ _ _ _ h=>h.elim
end
theorem L8 {t b:Int} (hb:0 < b) (h1:t.natAbs<=W) (h2:b.natAbs<=W):∃q:Rat,(lo t b,hi t b)=nm q/\Dr W q/\q*(b:Rat)=(t:Rat):=by
 have hb':(b:Rat)≠0:=λz=>by have:=wU.mp z;lia
 have e:(t:Rat) / (b:Rat)*(b:Rat)=t:=F9 hb';have h:=qF hb e;refine ⟨_,h,⟨?_,?_⟩,e⟩
 ·have:=congrArg Prod.fst h;have z:=lo_le (t:=t) (b:=b) (by lia);show ((nm ((t:Rat) / (b:Rat))).1).natAbs<=W
  rw[<- this];exact af z h1
 ·have:=congrArg Prod.snd h;have z:=Pz (t:=t) (b:=b) (by lia);have hd:(((t:Rat) / (b:Rat)).den:Int)=hi t b:=this.symm;have hp:=Dd (t:=t) hb
  lia
theorem F5 {K:FG9} (h:Paired (cf K H) qs xs) (hj:j < qs.length):∃v,F6 xs (j:Int)=some v/\cf K H (qs.getD j 0) v:=by
 have hl:=h.length;refine ⟨xs[j]'(by lia),dE (by simp),?_⟩;have:=ky h (i:=j) hj (by lia);rwa [aa,ae hj]
theorem BO {xs ys:List Rat} (h1:i < xs.length) (h2:i < ys.length):eI (xs.take (i+1)) (ys.take (i+1))=eI (xs.take i) (ys.take i)+xs.getD i 0*ys.getD i 0:=by
 have e1:xs[i]?=some (xs.getD i 0):=by rw[aa,ae h1];rfl
 have e2:ys[i]?=some (ys.getD i 0):=by rw[aa,ae h2];rfl
 unfold eI;rw[take_snoc e1,take_snoc e2,List.zipWith_append (by simp;lia),List.sum_append];simp [Jy]
theorem getD_mem {xs:List Rat} (h:i < xs.length):xs.getD i 0∈xs:=by
 rw[aa,ae h];exact aF h
theorem JB {xs ys:List Rat} (h:ys.length=xs.length):List.zipWith (λx y=>x+y) xs ys=(List.range xs.length).map λi=>xs.getD i 0+ys.getD i 0:=by
 apply oz;intro i;rw[bW,aD];by_cases hi:i < xs.length
 ·rw[cy hi,ae hi,ae (show i < ys.length by lia)];simp [aa,ae hi,ae (show i < ys.length by lia)]
 ·rw[aH (show (List.range xs.length).length<=i by simp;lia),aH (show xs.length<=i by lia)];rfl
theorem cS.updL {K:FG9} (h:cS K H0 H qs x) (hl:H l=some (.lst ys)) (nl:H0 l≠none):cS K H0 (upd H l o) qs x:=by obtain ⟨q,a,b,c⟩:=h;exact ⟨q,a,b,c.updL hl λz=>nl (by rw[<- z];exact b)⟩
theorem lK.at (B:lK H b):H b≠none:=by obtain ⟨_,_,_,_,_,e,_⟩:=B;rw[e];simp
theorem Inner.at (B:lK H b) (i:Inner H b q):H q≠none:=by
 obtain ⟨q',i',xs,e⟩:=B.inner;rw[<- Inner.inj i' i,e];simp
theorem Qg {M V:Nat} (h:Fr M V x) (h0:0 < M) (h1:M<=2^300) (h2:V<=2^100):kd x:=De h0 (af h1 (ar (by decide) (by decide))) (af h2 (ar (by decide) (by decide))) h
theorem ff {F:α->β->Prop} {l1:List α} {l2:List β} (h:Paired F l1 l2) (hi:i < l1.length):∃x y,l1[i]?=some x/\l2[i]?=some y/\x∈l1/\F x y:=by
 have hl:=h.length;exact ⟨l1[i],l2[i]'(by lia),by simp,by simp,aF _,ky h hi (by lia)⟩
theorem Jn (h1:-(2^64) < i) (h2:i < 2^64):eK i j:=.inl (.inl ⟨h1,h2⟩)
theorem OR (h1:-(2^64) < j) (h2:j < 2^64):eK i j:=.inl (.inr ⟨h1,h2⟩)
def RP (K : FG9) (l : Addr) : It :=
  ⟨λi H => ∃ xs x, bo K H l xs /\ xs[i]? = some x,
   λi H v H' => ∃ p x, v = .ref p /\ H p = none /\ H' = upd H p (.tup [.int i, x]) /\ ∀ xs, bo K H l xs → xs[i]? = some x,
   λi H => ∃ xs, bo K H l xs /\ xs.length ≤ i⟩
def tnE (e it l:Addr) (i:Nat) (h:Heap):Prop:=(∃old,IsEnum h e it i old)/\h.IsListIter it l i
theorem JE {P:Program} {w:World} {K:FG9} {elts:List Expr} {kk:Nat} {tpos:Pos} (e it l:Addr) (hei:e≠it):Turn P w K (.Tuple elts kk tpos) (RP K l) [e,it] e (tnE e it l) where
 mem:=by simp
 obj:=λi h st b hb=>by
  obtain ⟨⟨old,he⟩,⟨o1,g1,c1,d1⟩⟩:=st;simp only[aw,aE,or_false] at hb;rcases hb with rfl | rfl
  ·exact ⟨_,he,λv q=>nomatch q⟩
  ·exact ⟨o1,g1,λv q=>by rw[d1] at q;cases q⟩
 keep:=λi h h' st k=>by
  obtain ⟨⟨old,he⟩,h1⟩:=st;exact ⟨⟨old,k e (by simp) _ he⟩,h1.at λo q=>k it (by simp) o q⟩
 item:=by
  intro X hP hw hK hc i pins s σ H E I hf st hg;subst hP hw hK;obtain ⟨⟨old,he⟩,h1⟩:=st;obtain ⟨xs,x,qx,ex⟩:=hg;obtain ⟨us,rx,px,_⟩:=I.list qx;obtain ⟨u,eu,ru⟩:=rx.get ex;refine wpAny_pyNext_enum_item he h1 px.isList (x:=u) (by simpa using eu) hei λh' a1 a2 a3 a4 hk=>?_
  refine ⟨_,rfl,wpAny_letOwnedTupleGo_enum a1 λh'' he'' hs=>?_⟩;have hT0:H s.heap.objs.size=none:=I.hok.fresh (ah _);have ene:s.heap.objs.size≠e:=ou (Heap.lt_size he)
  have up:∀b o,b∉[e,it]->s.heap.get? b=some o->h''.get? b=some o:=λb o hb q=>by
   simp only[aw,aE,or_false,not_or] at hb;exact (hs.2 b hb.1).trans (hk b o hb.1 hb.2 q)
  have tup:h''.get? s.heap.objs.size=some { cls:=.type "tuple",data:=.seq #[.int i s.toks,u] }:=(hs.2 _ ene).trans a3;have I1:Inv X pins σ H { s with heap:=h'',toks:=s.toks+1 }:=I.moved (g':=s.gens) (d':=s.drawn) (t':=s.toks+1) (ch:=[e,it]) hf up I.bare;have fT:jY X pins H s.heap.objs.size:=I.fpOk (ah _) hT0;have I2:=I1.track (o:=.tup [.int i,x]) fT ⟨i5 rfl,[.int i s.toks,u],.cons ⟨_,rfl⟩ (.cons ru .nil),⟨_,tup,rfl,_,rfl⟩⟩;refine ⟨.ref s.heap.objs.size,_,I2,rfl,⟨_,x,rfl,hT0,rfl,λxs' q=>by rw[I.list_inj q qx];exact ex⟩,?_,λb hb=>?_⟩
  ·exact ⟨⟨_,by simpa using he''⟩,a2.at λo q=>(hs.2 _ hei.symm).trans q⟩
  ·rw[aJ]
   ·exact (hf b hb).1
   ·obtain ⟨o1,g1,_⟩:=h1;simp only[aw,aE,or_false] at hb;rcases hb with rfl | rfl
    ·exact ene.symm
    ·exact bw (Heap.lt_size g1)
 done:=by
  intro X hP hw hK hc i pins s σ H E I hf st hg;subst hP hw hK;obtain ⟨⟨old,he⟩,h1⟩:=st;obtain ⟨xs,qx,hend⟩:=hg;obtain ⟨us,rx,px,_⟩:=I.list qx;have lx:=rx.length;refine wpAny_pyNext_enum_end (I.ok.hd hc) he h1 px.isList (by simp;lia) λh' hk=>⟨rfl,?_⟩
  exact I.moved (g':=s.gens) (d':=s.drawn) (t':=s.toks) (ch:=[e,it]) hf (λb o hb q=>hk b o (λz=>hb (by simp [z])) q) I.bare
 self:=λ_ _ _ _ _ st h=>let ⟨⟨_,he⟩,_⟩:=st;wpAny_pyIter_enum he h
section
variable {X:Cx}
def Py (K:FG9) (ta:TA):TI:=λσ H R=>ta σ H λvs H1=>∃l,vs=[.ref l]/\(∃xs,bo K H1 l xs)/\R (RP K l) H1
theorem IK {a:Expr} {ta:TA} {p pos tpos:Pos} {elts:List Expr} {kk:Nat} (hg:Gl X "enumerate") (hm:X.mg "enumerate"=none) (ha:PA X [a] ta) (hs:starEach [a] X.env=[(false,eval a X.env)]:=by rfl) :
  PI X (.Tuple elts kk tpos) (.Call (.Name "enumerate" p) [a] [] pos) (Py X.K ta):=by
 intro pins s σ H R I h;refine Call_ (kE I hg hm boot_enumerate (PyProof.Rows.callWith_type1 (fP (ha pos pins s σ H _ I h) λus s1 ⟨vs,H1,I1,r1,q1⟩=>?_) (by rw[hs];rfl) rfl));obtain ⟨l,e,⟨xs,qx⟩,q⟩:=q1;subst e;obtain ⟨u,rfl,ru⟩:=vals1 r1;cases ru;obtain ⟨us,rx,px,_⟩:=I1.list qx;refine call_enumerate_list px.isList λh' a1 a2 a3 hk=>wpAny_pyIter_enum a1 ?_
 have I2:Inv X pins σ H1 { s1 with heap:=h' }:=I1.kept (t':=s1.toks) hk;refine ⟨_,[s1.heap.objs.size+1,s1.heap.objs.size],_,_,H1,rfl,I2,JE (s1.heap.objs.size+1) s1.heap.objs.size l (Nat.succ_ne_self _),⟨⟨_,a1⟩,a2⟩,λb hb=>?_,q⟩
 have hb':s1.heap.objs.size<=b:=by
  simp only[aw,aE,or_false] at hb;rcases hb with rfl | rfl <;> first | exact vg _ | exact ah _
 exact I1.fpOk hb' (I1.hok.fresh hb')
end
theorem LD {K:FG9} (h:ta σ H λvs H1=>∃l,vs=[.ref l]/\(∃xs,bo K H1 l xs)/\R (RP K l) H1):Py K ta σ H R:=h
theorem Mw {K:FG9} {g:TG} {tb:TS} {D:Ends} (Pv:Nat->St->Hp->Prop) (h0:Pv 0 σ H) (hl:∀i σ H,i<=xs.length->Pv i σ H->bo K H l xs)
  (hs:∀i x σ H p,xs[i]?=some x->Pv i σ H->H p=none->g (.ref p) σ (upd H p (.tup [.int i,x])) λσ2 H2=>tb { D with nx:=Pv (i+1),ct:=Pv (i+1),bk:=D.nx } σ2 H2) (hd:∀σ H,Pv xs.length σ H->D.nx σ H) :
  ∃W:Nat->Nat->St->Hp->Prop,(∃m,W 0 m σ H)/\∀i m σ H,W i m σ H →
   ((RP K l).stop i H/\D.nx σ H)\/((RP K l).go i H/\∃N:St->Hp->Prop,(∀σ' H',N σ' H'->∃m',m' < m/\W (i+1) m' σ' H')/\∀x H',(RP K l).yld i H x H'->g x σ H' λσ2 H2=>tb { D with nx:=N,ct:=N,bk:=D.nx } σ2 H2):=by
 refine ⟨λi m σ H=>m=xs.length - i/\i<=xs.length/\Pv i σ H,⟨xs.length,by simp,aS _,h0⟩,?_⟩;rintro i m σ H ⟨rfl,hi,p⟩;have q1:=hl i σ H hi p;by_cases hlt:i < xs.length
 ·refine .inr ⟨⟨xs,xs[i],q1,by simp [hlt]⟩,Pv (i+1),λσ' H' p'=>⟨xs.length - (i+1),by lia,rfl,hlt,p'⟩,λx H' y=>?_⟩;obtain ⟨r,x',rfl,hr,rfl,e1⟩:=y;exact hs i x' σ _ r (e1 xs q1) p hr
 ·have e:i=xs.length:=by lia
  subst e;exact .inl ⟨⟨xs,q1,ah _⟩,hd σ H p⟩
section
variable {X:Cx}
theorem Oc (K:FG9) {e:Expr} {f:Str} {pos:Pos} {ta:TE} (he:PE X e ta) (hb:attributeBase e f X.env (eval e X.env)=eval e X.env) (hK:X.K=K:=by rfl):PE X (.Attribute e f pos) (Qf K ta f):=by subst hK;exact ck he hb
end
theorem QF {K:FG9} (h:ta σ H λx H1=>∃a C dx fs v,x=.ref a/\H1 a=some (.ins C dx fs)/\Ip K C/\gP K C f/\fs.lookup f=some v/\Q v H1):Qf K ta f σ H Q:=h
theorem NH {K:FG9} (h:tv σ H λy H1=>ta σ H1 λx H2=>∃a C dx fs,x=.ref a/\H2 a=some (.ins C dx fs)/\Ip K C/\gP K C f/\fs.length < 1000 /\
 D.nx σ (upd H2 a (.ins C dx (bP f y fs)))):Su K ta tv f D σ H:=h
theorem NL (h:ta σ H λx H1=>∃a dx fs,x=.ref a/\H1 a=some (.ins C dx fs)/\fs.lookup m=none /\
 t σ H1 λvs H2=>sp (x :: vs) H2 Q E):K9 C m sp [] E ta t σ H Q:=by
 have e:(λ(x:V) H1=>∃a dx fs,x=.ref a/\H1 a=some (.ins C dx fs)/\fs.lookup m=none/\t σ H1 λvs H2=>sp (x :: (vs++[])) H2 Q E)=λx H1=>∃a dx fs,x=.ref a/\H1 a=some (.ins C dx fs)/\fs.lookup m=none/\t σ H1 λvs H2=>sp (x :: vs) H2 Q E:=by
  funext x H1;simp only[eL]
 show ta σ H (λ(x:V) H1=>∃a dx fs,x=.ref a/\H1 a=some (.ins C dx fs)/\fs.lookup m=none/\t σ H1 λvs H2=>sp (x :: (vs++[])) H2 Q E)
 rw[e];exact h
theorem NM (h:t σ H λvs H1=>∀x dx,H1 x=none->H1 dx=none->dx≠x →
 sp (.ref x :: vs) (upd (upd H1 dx (.own x)) x (.ins C dx [])) (λv H2=>v=.non/\Q (.ref x) H2) E):Pd C sp [] E t σ H Q:=by
 have e:(λvs (H1:Hp)=>∀x dx,H1 x=none->H1 dx=none->dx≠x->sp (.ref x :: (vs++[])) (upd (upd H1 dx (.own x)) x (.ins C dx [])) (λv H2=>v=.non/\Q (.ref x) H2) E)=λvs H1=>∀x dx,H1 x=none->H1 dx=none->dx≠x->sp (.ref x :: vs) (upd (upd H1 dx (.own x)) x (.ins C dx [])) (λv H2=>v=.non/\Q (.ref x) H2) E:=by
  funext vs H1;simp only[eL]
 show t σ H (λvs (H1:Hp)=>∀x dx,H1 x=none->H1 dx=none->dx≠x->sp (.ref x :: (vs++[])) (upd (upd H1 dx (.own x)) x (.ins C dx [])) (λv H2=>v=.non/\Q (.ref x) H2) E)
 rw[e];exact h
def D4 (x:Addr) (H H':Hp):Prop:=∀b o,H b=some o->b≠x->H' b=some o
theorem D4.upd:D4 x H (L2.upd H x o):=λb u h n=>by rw[aJ n];exact h
def tH (H:Hp) (x:Addr):Prop:=∃C dx fs,H x=some (.ins C dx fs)
section
variable {K:FG9} {H H' H0:Hp} {q:Rat} {v:V} {x p:Addr} {qs:List Rat} {rows:LR9}
theorem cf.exc (h:cf K H q v) (e:D4 x H H') (hx:tH H x):cf K H' q v:=by
 obtain ⟨C,dx,fs,hx⟩:=hx;obtain ⟨r,er,s⟩:=h;refine ⟨r,er,?_⟩;rcases s with (h | ⟨o,h⟩) | h
 ·exact .inl (.inl (e _ _ h λz=>by rw[z,hx] at h;cases h))
 ·exact .inl (.inr ⟨o,e _ _ h λz=>by rw[z,hx] at h;cases h⟩)
 ·exact .inr h
theorem c7.exc (h:c7 K H p qs) (e:D4 x H H') (hx:tH H x):c7 K H' p qs:=by
 obtain ⟨xs,g,r⟩:=h;have hx':=hx;obtain ⟨C,dx,fs,hx⟩:=hx;exact ⟨xs,e _ _ g (λz=>by rw[z,hx] at g;cases g),Paired.imp' (λ_ _ z=>z.exc e hx') r⟩
theorem cS.exc (h:cS K H0 H qs v) (e:D4 x H H') (hx:tH H x):cS K H0 H' qs v:=by obtain ⟨q,a,b,c⟩:=h;exact ⟨q,a,b,c.exc e hx⟩
theorem bx.exc (h:bx K H0 H p rows) (e:D4 x H H') (hx:tH H x):bx K H0 H' p rows:=by
 obtain ⟨xs,g,r,n⟩:=h;have hx':=hx;obtain ⟨C,dx,fs,hx⟩:=hx;exact ⟨xs,e _ _ g (λz=>by rw[z,hx] at g;cases g),Paired.imp' (λ_ _ z=>z.exc e hx') r,n⟩
end
def mV (a b c:Addr) (n i o:Nat):List (Str×V):=bP "outs" (.int o) (bP "look" (.ref c) (bP "ins" (.int i) (bP "put" (.ref b) (bP "states" (.int n) (bP "move" (.ref a) [])))))
section
variable {a b c:Addr} {n i o:Nat}
theorem rA:(mV a b c n i o).lookup ("look":Str)=some (.ref c):=by
 unfold mV;rw[a8,if_neg (by decide +kernel),a8,if_pos rfl]
theorem uB:(mV a b c n i o).lookup ("ins":Str)=some (.int i):=by
 unfold mV;rw[a8,if_neg (by decide +kernel),a8,if_neg (by decide +kernel),a8,if_pos rfl]
theorem sV:(mV a b c n i o).lookup ("put":Str)=some (.ref b):=by
 unfold mV;rw[a8,if_neg (by decide +kernel),a8,if_neg (by decide +kernel),a8,if_neg (by decide +kernel),a8,if_pos rfl]
theorem cE:(mV a b c n i o).lookup ("states":Str)=some (.int n):=by
 unfold mV;rw[a8,if_neg (by decide +kernel),a8,if_neg (by decide +kernel),a8,if_neg (by decide +kernel),a8,if_neg (by decide +kernel),a8,if_pos rfl]
theorem rn:(mV a b c n i o).lookup ("move":Str)=some (.ref a):=by
 unfold mV;rw[a8,if_neg (by decide +kernel),a8,if_neg (by decide +kernel),a8,if_neg (by decide +kernel),a8,if_neg (by decide +kernel),a8,if_neg (by decide +kernel),a8,if_pos rfl]
theorem Le {m:Str} (h1:¬m="outs") (h2:¬m="look") (h3:¬m="ins") (h4:¬m="put") (h5:¬m="states") (h6:¬m="move"):(mV a b c n i o).lookup m=none:=by
 unfold mV;rw[a8,if_neg h1,a8,if_neg h2,a8,if_neg h3,a8,if_neg h4,a8,if_neg h5,a8,if_neg h6];rfl
theorem JF:(mV a b c n i o).lookup ("moved":Str)=none:=Le (by decide +kernel) (by decide +kernel) (by decide +kernel) (by decide +kernel) (by decide +kernel) (by decide +kernel)
theorem yg:(mV a b c n i o).lookup ("turned":Str)=none:=Le (by decide +kernel) (by decide +kernel) (by decide +kernel) (by decide +kernel) (by decide +kernel) (by decide +kernel)
end
theorem dn {k:Str} {v:V}:∀{l:List (Str×V)},(bP k v l).length<=l.length+1
 | []=>ah _
 | (x,y) :: r=>by
  unfold bP
  split
  ·simp
  ·have:=dn (k:=k) (v:=v) (l:=r);simp only[bA]
   lia
structure gV (mv pt lk:LR9):Prop where
 n8:mv.length<=8
 i4:pt.length<=4
 o4:lk.length<=4
 mw:∀xs∈mv,xs.length=mv.length
 pw:∀xs∈pt,xs.length=mv.length
 lw:∀xs∈lk,xs.length=mv.length
def tG (mv pt lk:LR9):Prop:=∃M V:Nat,0 < M/\M<=2^800/\V<=2^400/\GF M V mv/\GF M V pt/\GF M V lk
def lI (K:FG9) (H0 H:Hp) (C p:Addr) (mv pt lk:LR9):Prop:=∃dx a b c,H p=some (.ins C dx (mV a b c mv.length pt.length lk.length))/\H0 a=none/\H0 b=none/\H0 c=none/\bx K H0 H a mv/\bx K H0 H b pt/\bx K H0 H c lk
section
variable {K:FG9} {H H' H0 H1:Hp} {C p b:Addr} {mv pt lk:LR9}
theorem lI.same (h:lI K H0 H C p mv pt lk) (e:aA H H'):lI K H0 H' C p mv pt lk:=by obtain ⟨dx,a,b,c,g,n1,n2,n3,g1,g2,g3⟩:=h;exact ⟨dx,a,b,c,e _ _ g,n1,n2,n3,g1.same e,g2.same e,g3.same e⟩
theorem lI.weak (h:lI K H0 H C p mv pt lk) (e:aA H1 H0):lI K H1 H C p mv pt lk:=by obtain ⟨dx,a,b,c,g,n1,n2,n3,g1,g2,g3⟩:=h;exact ⟨dx,a,b,c,g,e.none n1,e.none n2,e.none n3,g1.weak e,g2.weak e,g3.weak e⟩
theorem tG.fits (h:tG mv pt lk) (hl:∀x∈l,(∃xs∈mv,x∈xs)\/(∃xs∈pt,x∈xs)\/(∃xs∈lk,x∈xs)\/x=0):Fits l:=by
 obtain ⟨M,V,h0,h1,h2,h3,h4,h5⟩:=h;refine ⟨M,V,h0,af h1 (ar (by decide) (by decide)),af h2 (ar (by decide) (by decide)),λx hx=>?_⟩;rcases hl x hx with ⟨xs,a,b⟩ | ⟨xs,a,b⟩ | ⟨xs,a,b⟩ | rfl
 ·exact h3 xs a x b
 ·exact h4 xs a x b
 ·exact h5 xs a x b
 ·exact Fr.zero
theorem tG.turn (h:tG mv pt lk):tG (bu mv mv.length) lk pt:=by
 obtain ⟨M,V,h0,h1,h2,h3,h4,h5⟩:=h;refine ⟨M,V,h0,h1,h2,λys hy y hy'=>?_,h5,h4⟩;obtain ⟨j,_,rfl⟩:=av.mp hy;obtain ⟨xs,hx,rfl⟩:=av.mp hy';by_cases hj:j < xs.length
 ·rw[aa,ae hj];exact h3 xs hx _ (aF hj)
 ·rw[aa,aH (by lia)];exact Fr.zero
theorem gV.turn (h:gV mv pt lk):gV (bu mv mv.length) lk pt:=⟨by rw[cT];exact h.n8,h.o4,h.i4,λxs hx=>by rw[mP xs hx,cT],λxs hx=>by rw[cT];exact h.lw xs hx,λxs hx=>by rw[cT];exact h.pw xs hx⟩
end
def JG:Sp:=λvs H Q _=>∃i:Int,vs=[.int i]/\Q (.bl true) H
def JJ (K:FG9):Sp:=λvs H Q _=>∃x n,vs=[x]/\FX K H x n/\zW n/\∀H',aA H H'->Q (.bl true) H'
inductive Iz (vs:List V) (H:Hp) (Q:VK) (E9:XK):Prop
 | mk (p:Addr) (xs:List V) (a m:Int):vs=[.ref p,.int a,.int m]->H p=some (.lst xs)->(xs.length:Int)<=m->Q .non H->Iz  vs H Q E9
inductive IE (K:FG9) (vs:List V) (H:Hp) (Q:VK) (E9:XK):Prop
 | mk (p:Addr) (H0:Hp) (rows:LR9) (w:Nat):vs=[.ref p,.int w]->bx K H0 H p rows->rows.length<=1000->w<=1000->((∀xs∈rows,xs.length=w/\∀x∈xs,zW (nm x)))->(∀r H',H r=none->aA H H'->bx K H H' r rows->Q (.ref r) H')->IE K vs H Q E9
def KU (rows:LR9):Prop:=∀xs∈rows,∀x∈xs,zW (nm x)
inductive IB (K:FG9) (C:Addr) (vs:List V) (H:Hp) (Q:VK) (E9:XK):Prop
 | mk (x dx p q r:Addr) (Hb H0 H1 H2:Hp) (mv pt lk:LR9):vs=[.ref x,.ref p,.ref q,.ref r]->Hb x=none->Hb dx=none->dx≠x->H=upd (upd Hb dx (.own x)) x (.ins C dx [])->bx K H0 Hb p mv->bx K H1 Hb q pt->bx K H2 Hb r lk->gV mv pt lk->KU mv->KU pt->KU lk->(∀H',aA Hb H'->lI K Hb H' C x mv pt lk->Q .non H')->IB K C vs H Q E9
def jm (mv pt:LR9) (st pu:List Rat):List Rat:=List.zipWith (λline col=>eI (line++col) (st++pu)) mv (bu pt mv.length)
inductive yj (K:FG9) (C:Addr) (vs:List V) (H:Hp) (Q:VK) (E9:XK):Prop
 | mk (x:Addr) (H0:Hp) (mv pt lk:LR9):vs=[.ref x]->lI K H0 H C x mv pt lk->gV mv pt lk->tG mv pt lk->(∀r H',H r=none->aA H H'->lI K H H' C r (bu mv mv.length) lk pt->Q (.ref r) H')->yj K C vs H Q E9
theorem tG.ok (h:tG mv pt lk):KU mv/\KU pt/\KU lk :=
 ⟨λxs hx x hx'=>(h.fits (l:=xs) λy hy=>.inl ⟨xs,hx,hy⟩).ok hx',λxs hx x hx'=>(h.fits (l:=xs) λy hy=>.inr (.inl ⟨xs,hx,hy⟩)).ok hx',λxs hx x hx'=>(h.fits (l:=xs) λy hy=>.inr (.inr (.inl ⟨xs,hx,hy⟩))).ok hx'⟩
def gW (K:FG9) (A:Addr->Prop) (H:Hp) (n:Nat) (C:Rat->Prop) (x:V):Prop:=∃q qs,x=V.ref q/\A q/\c7 K H q qs/\qs.length=n/\∀y∈qs,C y
section
variable {K:FG9} {A A':Addr->Prop} {H H' H0:Hp} {n:Nat} {C C':Rat->Prop} {x v:V} {q b l p:Addr} {xs zs:List V} {y:Rat} {o:HO}
theorem gW.same (h:gW K A H n C x) (e:aA H H'):gW K A H' n C x:=by obtain ⟨q,qs,a,c,r,z⟩:=h;exact ⟨q,qs,a,c,r.same e,z⟩
theorem gW.upto (h:gW K A H n C x) (u:dB b H H') (B:lK H b) (nb:¬A b):gW K A H' n C x:=by obtain ⟨q,qs,a,c,r,z⟩:=h;exact ⟨q,qs,a,c,r.upto u B (λe=>nb (by rw[<- e];exact c)),z⟩
theorem gW.other (h:gW K A H n C x) (hl:H l=some (.lst zs)) (nl:¬A l):gW K A (upd H l o) n C x:=by obtain ⟨q,qs,a,c,r,z⟩:=h;exact ⟨q,qs,a,c,r.updL hl (λe=>nl (by rw[<- e];exact c)),z⟩
theorem gW.weak (h:gW K A H n C x) (w:∀q,A q->A' q) (wc:∀y,C y->C' y):gW K A' H n C' x:=by obtain ⟨q,qs,a,c,r,l,z⟩:=h;exact ⟨q,qs,a,w q c,r,l,λy hy=>wc y (z y hy)⟩
theorem yR {α β:Type} {F:α->β->Prop} {a:α} {b:β} (h:F a b):∀{l1:List α} {l2:List β} (j:Nat),Paired F l1 l2->Paired F (l1.set j a) (l2.set j b)
 | _,_,_,.nil=>.nil
 | _,_,0,.cons _ t=>.cons h t
 | _,_,j+1,.cons r t=>.cons r (yR h j t)
theorem gW.put (h:gW K A H n C x) (hq:H q=some (.lst zs)) (hv:cf K H y v) (hc:C y) (j:Nat):gW K A (upd H q (.lst (zs.set j v))) n C x:=by
 obtain ⟨q1,qs,rfl,a,⟨zs1,g1,pr⟩,l1,c1⟩:=h;by_cases e:q1=q
 ·subst e;rw[hq] at g1;cases g1;refine ⟨q1,qs.set j y,rfl,a,⟨_,az,yR (hv.updL hq) j (Paired.imp' (λ_ _ z=>z.updL hq) pr)⟩,by rw[cQ];exact l1,λz hz=>?_⟩;rcases cC hz with hz | rfl
  ·exact c1 z hz
  ·exact hc
 ·exact ⟨q1,qs,rfl,a,⟨zs1,by rw[aJ e];exact g1,Paired.imp' (λ_ _ z=>z.updL hq) pr⟩,l1,c1⟩
theorem gW.at (h:gW K A H n C x):∃q zs qs,x=V.ref q/\A q/\H q=some (.lst zs)/\zs.length=n/\Paired (cf K H) qs zs/\qs.length=n/\∀y∈qs,C y:=by obtain ⟨q,qs,a,c,⟨zs,g,pr⟩,l,z⟩:=h;exact ⟨q,zs,qs,a,c,g,by rw[<- pr.length];exact l,pr,l,z⟩
end
theorem sI {i:Int} (h:i.natAbs<=W) (hW:1<=W):Dr W (i:Rat):=⟨h,hW⟩
def Tw (K:FG9) (A:Addr->Prop) (H:Hp) (n:Nat) (C:Rat->Prop) (p:Addr) (m:Nat):Prop:=∃us,H p=some (.lst us)/\us.length=m/\¬A p/\∀x∈us,gW K A H n C x
structure Im (A:Addr->Prop) (m p l b q0:Addr):Prop where
 am:¬A m
 ap:¬A p
 al:¬A l
 ab:¬A b
 aq:¬A q0
 mb:m≠b
 pb:p≠b
 lb:l≠b
 mp:m≠p
 ml:m≠l
 mq:m≠q0
theorem Jd {M:Nat} {z:Int} (h:z.natAbs<=2):Fr 1 2 (z:Rat):=Fr.int h
theorem Dg {z:Int} (hz:z.natAbs<=2) (ha:Fr M W a) (hc:Fr M W c):Fr M (3*W) (a+(z:Rat)*c):=by
 have h:=(Jd (M:=M) hz).mul hc;rw[vf] at h;exact (ha.add h).mono (by lia)
theorem Ce {z:Int} (h:z.natAbs<=1000):kd (z:Rat):=De (M:=1) (V:=1000) (by decide) (bK) (af (show 1000<=2^10 by decide) (ar (by decide) (by decide))) (Fr.int h)
theorem yf {z:Int} (hz:z.natAbs<=2) (hc:Fr M W c) (h0:0 < M) (h1:M<=2^800) (hW:W<=2^140):kd ((z:Rat)*c):=by
 have h:=(Jd (M:=M) hz).mul hc;rw[vf] at h;refine De h0 (af h1 (ar (by decide) (by decide))) (af (cN 2 hW) ?_) h;rw[show 2*2^140=2^141 by rw[cZ,aX]];exact ar (by decide) (by decide)
def iT (A:Addr->Prop) (b m:Addr) (H H':Hp):Prop:=∀c u,H c=some u->c≠b->¬A c->c≠m->H' c=some u
theorem iT.same (h:iT A b m H H1) (s:aA H1 H2):iT A b m H H2:=λc u e n1 n2 n3=>s _ _ (h c u e n1 n2 n3)
theorem iT.upto (h:iT A b m H H1) (s:dB b H1 H2):iT A b m H H2:=λc u e n1 n2 n3=>s.1 _ _ (h c u e n1 n2 n3) n1
theorem iT.upd (h:iT A b m H H1) (hq:A q\/q=m):iT A b m H (L2.upd H1 q o):=λc u e n1 n2 n3=>by
 rw[aJ]
 ·exact h c u e n1 n2 n3
 ·rintro rfl;rcases hq with hq | hq
  ·exact n2 hq
  ·exact n3 hq
theorem iT.new (h:iT A b m H H1) (hA:∀q,H q=none->A q) (B:lK H1 b) (hm:H1 m≠none) (hr:H1 r=none):A r:=by
 by_cases z:A r
 ·exact z
 ·cases e:H r with
  | none=>exact hA r e
  | some u =>
   have:=h r u e (λy=>B.at (by rw[<- y];exact hr)) z (λy=>hm (by rw[<- y];exact hr));rw[hr] at this;cases this
structure Jv (K:FG9) (A:Addr->Prop) (n:Nat) (C:Rat->Prop) (r p b q0:Addr) (us:List V) (H0 H:Hp):Prop where
 gr:H r=some (.lst us)
 ru:∀x∈us,gW K A H n C x
 rp:gW K A H n C (.ref p)
 bag:lK H b
 inn:Inner H b q0
 up:dB b H0 H
section
variable {K:FG9} {A:Addr->Prop} {n:Nat} {C:Rat->Prop} {r p b q0:Addr} {us:List V} {H0 H H':Hp} {y:Rat} {v:V}
theorem Jv.same (h:Jv K A n C r p b q0 us H0 H) (e:aA H H'):Jv K A n C r p b q0 us H0 H':=⟨e _ _ h.gr,λx hx=>(h.ru x hx).same e,h.rp.same e,h.bag.same e,(e.upto (p:=b)).2 _ h.inn,h.up.same e⟩
theorem Jv.upto (h:Jv K A n C r p b q0 us H0 H) (u:dB b H H') (B:lK H' b) (nb:¬A b) (rb:r≠b):Jv K A n C r p b q0 us H0 H':=⟨u.other rb h.gr,λx hx=>(h.ru x hx).upto u h.bag nb,h.rp.upto u h.bag nb,B,u.2 _ h.inn,h.up.trans u⟩
theorem Jv.put (h:Jv K A n C r p b q0 us H0 H) (ap:A p) (nr:¬A r) (nb:¬A b) (nq:¬A q0) (hp:H0 p=none) (hv:cf K H y v) (hc:C y) (j:Nat):∃zs,H p=some (.lst zs)/\zs.length=n/\Jv K A n C r p b q0 us H0 (upd H p (.lst (zs.set j v))):=by
 obtain ⟨q,zs,qs,e,a,g,l,_⟩:=h.rp.at;cases e;have ne:∀{z},¬A z->z≠p:=λh e=>h (by rw[e];exact ap)
 exact ⟨zs,g,l,by rw[aJ (ne nr)];exact h.gr,λx hx=>(h.ru x hx).put g hv hc j,h.rp.put g hv hc j,h.bag.upd h.inn (ne nb).symm (ne nq).symm,h.inn.upd (ne nb).symm,h.up.after hp⟩
end
theorem yJ {K:FG9} (h:∀x∈us,gW K A H n C x):∃rows:LR9,Paired (λqs x=>∃q,x=V.ref q/\A q/\c7 K H q qs) rows us/\rows.length=us.length/\∀qs∈rows,qs.length=n/\∀y∈qs,C y:=by
 induction us with
 | nil=>exact ⟨[],.nil,rfl,λ_ z=>nomatch z⟩
 | cons u us ih =>
  obtain ⟨rows,pr,l,hr⟩:=ih λx hx=>h x (.tail _ hx)
  obtain ⟨q,qs,e,a,r,l1,c⟩:=h u (.head _);refine ⟨qs :: rows,.cons ⟨q,e,a,r⟩ pr,by simp [l],λzs hz=>?_⟩;rcases aw.mp hz with rfl | hz
  ·exact ⟨l1,c⟩
  ·exact hr zs hz
theorem GL {K:FG9} {rows:LR9} (pr:Paired (λqs x=>∃q,x=V.ref q/\A q/\c7 K H q qs) rows us) (h:∀qs∈rows,qs.length=n/\∀y∈qs,C y):∀x∈us,gW K A H n C x:=λx hx=>by
 obtain ⟨qs,hq,q,e,a,r⟩:=fe pr hx;exact ⟨q,qs,e,a,r,(h qs hq).1,(h qs hq).2⟩
theorem BL {n:Nat}:∀{rows:LR9},(∀xs∈rows,xs.length=n)->rows.flatten.length=rows.length*n
 | [],_=>by simp
 | xs :: rows,h=>by
  rw[j4,ao,h xs (.head _),BL λys hy=>h ys (.tail _ hy),bA,iq,iu]
theorem ND {rows:LR9} (h:∀qs∈rows,qs.length=n/\∀y∈qs,Dr (2^c) y):∃M:Nat,0 < M/\M<=2^(c*(rows.length*n))/\∀qs∈rows,∀y∈qs,Fr M (2^c) y:=by
 have fl:rows.flatten.length=rows.length*n:=BL λys hy=>(h ys hy).1
 have hm:∀a∈rows.flatten.map (·.den),0 < a/\a<=2^c:=λa ha=>by
  obtain ⟨y,hy,rfl⟩:=av.mp ha;obtain ⟨qs,hq,hy⟩:=List.mem_flatten.mp hy;exact ⟨y.den_pos,((h qs hq).2 y hy).2⟩
 refine ⟨Bx (rows.flatten.map (·.den)),Bu λa ha=>(hm a ha).1,?_,λqs hq y hy=>?_⟩
 ·have:=EL (k:=c) (l:=rows.flatten.map (·.den)) λa ha=>(hm a ha).2
  rwa [ag,fl] at this
 ·exact (Fr.own y ((h qs hq).2 y hy).1).dvd (Bw (av.mpr ⟨y,List.mem_flatten.mpr ⟨qs,hq,hy⟩,rfl⟩))
theorem uh {K:FG9} (h:Tw K A H n C p m) (w:∀q,A q->H0 q=none):∃rows,bx K H0 H p rows/\rows.length=m/\∀qs∈rows,qs.length=n/\∀y∈qs,C y:=by
 obtain ⟨us,g,l,a,r⟩:=h;obtain ⟨rows,pr,lr,hr⟩:=yJ r;refine ⟨rows,⟨us,g,Paired.imp' (λ_ _ ⟨q,e,aq,rq⟩=>⟨q,e,w q aq,rq⟩) pr,λhm=>?_⟩,by rw[lr,l],hr⟩;obtain ⟨q,_,e,aq,_⟩:=r _ hm;cases e;exact a aq
theorem iT.trans (h:iT A b m H H1) (h':iT A b m H1 H2):iT A b m H H2:=λc u e n1 n2 n3=>h' c u (h c u e n1 n2 n3) n1 n2 n3
theorem Lx {K:FG9} {rows:LR9} (pr:Paired (cS K H0 H) rows us) (h:∀qs∈rows,qs.length=n/\∀y∈qs,C y) (w:∀q,V.ref q∈us->H0 q=none->H q≠none->A q):∀x∈us,gW K A H n C x:=λx hx=>by
 obtain ⟨qs,hq,q,e,a,r⟩:=fe pr hx;subst e;exact ⟨q,qs,rfl,w q hx a (by obtain ⟨_,g,_⟩:=r;rw[g];simp),r,(h qs hq).1,(h qs hq).2⟩
def qP (K:FG9) (H0 H:Hp) (r:Addr) (mv pt lk:LR9):Prop:=∃m p l,H r=some (.tup [.ref m,.ref p,.ref l])/\H0 m=none/\H0 p=none/\H0 l=none/\bx K H0 H m mv/\bx K H0 H p pt/\bx K H0 H l lk
section
variable {K:FG9} {H H' H0 H1:Hp} {r b:Addr} {mv pt lk:LR9}
theorem qP.same (h:qP K H0 H r mv pt lk) (e:aA H H'):qP K H0 H' r mv pt lk:=by obtain ⟨m,p,l,g,n1,n2,n3,g1,g2,g3⟩:=h;exact ⟨m,p,l,e _ _ g,n1,n2,n3,g1.same e,g2.same e,g3.same e⟩
end
inductive yn (K:FG9) (C:Addr) (vs:List V) (H:Hp) (Q:VK) (E9:XK):Prop
 | mk (r:Addr) (H0:Hp) (mv pt lk:LR9):vs=[.ref r]->qP K H0 H r mv pt lk->gV mv pt lk->tG mv pt lk->(∀x H',H x=none->aA H H'->lI K H H' C x mv pt lk->Q (.ref x) H')->yn K C vs H Q E9
theorem Nr (h:i < w):(bu rows w)[i]?=some (rows.map λxs=>xs.getD i 0):=by
 unfold bu;rw[aD,cy h];rfl
theorem MH (h:as.length=xs.length):eI (as++bs) (xs++ys)=eI as xs+eI bs ys:=by
 unfold eI;rw[List.zipWith_append h,List.sum_append]
inductive ym (K:FG9) (vs:List V) (H:Hp) (Q:VK) (E9:XK):Prop
 | mk (r:Addr) (H0:Hp) (mv pt lk:LR9):vs=[.ref r]->qP K H0 H r mv pt lk->gV mv pt lk->(∀q,H q=none->H0 q=none)->(∀t H',aA H H'->qP K H0 H' t (bu mv mv.length) lk pt->Q (.ref t) H')->ym K vs H Q E9
def ph (k j:Nat) (l:List Rat):Prop:=∃M V:Nat,0 < M/\M<=2^k/\V<=2^j/\∀x∈l,Fr M V x
section
variable {k j k' j':Nat} {l xs ys:List Rat} {x y:Rat}
theorem ph.szn (h:ph k j l) (hx:x∈l) (hk:k+j<=3950:=by decide):kd x:=by
 obtain ⟨M,V,h0,h1,h2,h3⟩:=h;obtain ⟨a,b⟩:=(h3 x hx).sz h0 h1 h2;exact ⟨a.mono (by lia),b.mono (by lia)⟩
theorem ph.rowM (h:ph k j l) (hk:k+j<=4200:=by decide):∃M,FW M (l.map nm):=by
 obtain ⟨M,V,h0,h1,h2,h3⟩:=h;refine ⟨M,by lia,?_,λn hn=>?_⟩
 ·show ((M:Nat):Int).natAbs < 2^4400
  rw[bX];exact aK h1 (de (by decide) (by lia))
 ·obtain ⟨x,hx,rfl⟩:=av.mp hn;obtain ⟨a,_⟩:=(h3 x hx).sz h0 h1 h2;exact ⟨gJ x,(h3 x hx).den,a.mono (by lia)⟩
theorem ph.one (h:ph k j l) (hx:x∈l):ph k j [x]:=by
 obtain ⟨M,V,h0,h1,h2,h3⟩:=h;exact ⟨M,V,h0,h1,h2,λy hy=>by rw[bD.mp hy];exact h3 x hx⟩
theorem MG (h:ph k j xs) (h':ph k' j' ys) (hl:xs.length<=1000) (i:Nat) (hk:(k+k')+(j+j')<=3930:=by decide):kd (eI (xs.take i) (ys.take i)):=by
 obtain ⟨M,V,h0,h1,h2,h3⟩:=h;obtain ⟨N,W,k0,k1,k2,k3⟩:=h'
 have e:1000*(V*W)<=2^(10+(j+j')):=by
  rw[bT 2 10];exact aZ (by decide) (af (aZ h2 k2) (by rw[<- bT];exact ah _))
 obtain ⟨a,b⟩:=((Fr.dot (λx hx=>h3 x (bU hx)) (λy hy=>k3 y (bU hy))).mono (ax _ (show (xs.take i).length<=1000 by rw[bh];lia))).sz (cx h0 k0) (af (aZ h1 k1) (by rw[<- bT];exact ah _)) e;exact ⟨a.mono (by lia),b.mono (by lia)⟩
theorem LX (hx:ph k j [x]) (hy:ph k' j' [y]) (hk:(k+k')+(j+j')<=3930:=by decide):kd (x*y):=by
 obtain ⟨M,V,h0,h1,h2,h3⟩:=hx;obtain ⟨N,W,k0,k1,k2,k3⟩:=hy;obtain ⟨a,b⟩:=((h3 x (.head _)).mul (k3 y (.head _))).sz (cx h0 k0) (af (aZ h1 k1) (by rw[<- bT];exact ah _)) (af (aZ h2 k2) (by rw[<- bT];exact ah _));exact ⟨a.mono (by lia),b.mono (by lia)⟩
def wd (xs ys:List Rat):Prop:=∃k j k' j':Nat,ph k j xs/\ph k' j' ys/\(k+k')+(j+j')<=3930
theorem wd.sys (h:ph 400 120 xs) (h':ph 1500 1800 ys):wd xs ys:=⟨_,_,_,_,h,h',by decide⟩
end
def F7 (mv pt lk:LR9):Prop:=∃M V:Nat,0 < M/\M<=2^400/\V<=2^120/\GF M V mv/\GF M V pt/\GF M V lk
section
variable {mv pt lk:LR9}
theorem F7.fits (h:F7 mv pt lk) (hl:∀x∈l,(∃xs∈mv,x∈xs)\/(∃xs∈pt,x∈xs)\/(∃xs∈lk,x∈xs)\/x=0):ph 400 120 l:=by
 obtain ⟨M,V,h0,h1,h2,g1,g2,g3⟩:=h;refine ⟨M,V,h0,h1,h2,λx hx=>?_⟩;rcases hl x hx with ⟨xs,a,b⟩ | ⟨xs,a,b⟩ | ⟨xs,a,b⟩ | rfl
 ·exact g1 xs a x b
 ·exact g2 xs a x b
 ·exact g3 xs a x b
 ·exact Fr.zero
theorem F7.sf (h:F7 mv pt lk):tG mv pt lk:=by obtain ⟨M,V,a,b,c,d⟩:=h;exact ⟨M,V,a,af b (ar (by decide) (by decide)),af c (ar (by decide) (by decide)),d⟩
end
inductive Cj (K:FG9) (vs:List V) (H:Hp) (Q:VK) (E9:XK):Prop
 | mk (p q:Addr) (xs ys:List Rat):vs=[.ref p,.ref q]->c7 K H p xs->c7 K H q ys->ys.length=xs.length->xs.length<=1000->wd xs ys->(∀r H',aA H H'->cf K H' (eI xs ys) (.ref r)->Q (.ref r) H')->Cj K vs H Q E9
inductive Ci (K:FG9) (vs:List V) (H:Hp) (Q:VK) (E9:XK):Prop
 | mk (p q:Addr) (H0:Hp) (rows:LR9) (ys:List Rat):vs=[.ref p,.ref q]->bx K H0 H p rows->c7 K H q ys->rows.length<=1000->ys.length<=1000->((∀xs∈rows,xs.length=ys.length/\wd xs ys))->(∀r H',H r=none->aA H H'->c7 K H' r (rows.map λxs=>eI xs ys)->Q (.ref r) H')->Ci K vs H Q E9
inductive Bm (K:FG9) (C:Addr) (vs:List V) (H:Hp) (Q:VK) (E9:XK):Prop
 | mk (x p q:Addr) (H0:Hp) (mv pt lk:LR9) (st pu:List Rat):vs=[.ref x,.ref p,.ref q]->lI K H0 H C x mv pt lk->gV mv pt lk->F7 mv pt lk->c7 K H p st->c7 K H q pu->st.length=mv.length->pu.length=pt.length->ph 1500 1800 (st++pu)->(∀r H',H r=none->aA H H'->c7 K H' r (jm mv pt st pu)->Q (.ref r) H')->Bm K C vs H Q E9
section
variable {mv pt lk pus:LR9} {st:List Rat} {k:Nat}
theorem xD (h:GF M W rows):GF M W (bu rows w):=λys hy y hy'=>by
 obtain ⟨j,_,rfl⟩:=av.mp hy;obtain ⟨xs,hx,rfl⟩:=av.mp hy';rw[aa];cases e:xs[j]? with
 | none=>exact Fr.zero
 | some z=>exact h xs hx z (ai e)
end
theorem kJ {α β:Type} {F:α->β->Prop}:∀{l1:List α} {l2:List β} (_:Paired F l1 l2) (k:Nat),Paired F (l1.drop k) (l2.drop k)
 | _,_,h,0=>h
 | _,_,.nil,_+1=>.nil
 | _,_,.cons _ r,k+1=>kJ r k
end L2
namespace L2
abbrev jz:=Nat->Rat
def Aa (F:List jz->Rat) (r:Nat):List jz->List jz->Rat->Rat
 | _,[],_=>0
 | pre,v :: post,s=>s*v r*F (pre++post)+Aa F r (pre++[v]) post (-s)
def qX:List Nat->List jz->Rat
 | [],[]=>1
 | [],_ :: _=>0
 | r :: rs,vs=>Aa (λws=>qX rs ws) r [] vs 1
theorem Dl:qX [] (a++x :: b)=0:=by
 cases a <;> rfl
theorem C6 {F:List jz->Rat} {r:Nat} {f g h:jz} {x y:Rat} (hF:∀a b,F (a++h :: b)=x*F (a++f :: b)+y*F (a++g :: b)):∀(b p q:List jz) (s:Rat),Aa F r (p++h :: q) b s=x*Aa F r (p++f :: q) b s+y*Aa F r (p++g :: q) b s
 | [],p,q,s=>by simp only[Aa,oq,Jy]
 | v :: b,p,q,s=>by
  have i1:=hF p (q++b);have i2:=C6 (r:=r) hF b p (q++[v]) (-s);simp only[Aa,b9,eX] at i1 i2 ⊢;rw[i1,i2];grind
theorem IS {F:List jz->Rat} {r:Nat} {f g h:jz} {x y:Rat} (hF:∀a b,F (a++h :: b)=x*F (a++f :: b)+y*F (a++g :: b)) (hr:h r=x*f r+y*g r):∀(a pre b:List jz) (s:Rat),Aa F r pre (a++h :: b) s=x*Aa F r pre (a++f :: b) s+y*Aa F r pre (a++g :: b) s
 | [],pre,b,s=>by
  have i2:=C6 (r:=r) hF b pre [] (-s);simp only[Aa,cP] at i2 ⊢;rw[i2,hr];grind
 | v :: a,pre,b,s=>by
  have i1:=hF (pre++a) b;have i2:=IS hF hr a (pre++[v]) b (-s);simp only[Aa,b9,eX] at i1 i2 ⊢;rw[i1,i2];grind
theorem uk {f g h:jz} {x y:Rat}:∀{rs:List Nat},(∀r∈rs,h r=x*f r+y*g r)->∀a b,qX rs (a++h :: b)=x*qX rs (a++f :: b)+y*qX rs (a++g :: b)
 | [],_,a,b=>by rw[Dl,Dl,Dl];grind
 | r :: rs,hr,a,b=>IS (λa b=>uk (λr' h'=>hr r' (.tail _ h')) a b) (hr r (.head _)) a [] b 1
theorem Dk (hr:∀r∈rs,h r=0) (a b:List jz):qX rs (a++h :: b)=0:=by
 rw[uk (f:=h) (g:=h) (x:=0) (y:=0) (λr h'=>by rw[hr r h'];grind) a b];grind
theorem IT {F:List jz->Rat} {r:Nat} {x:jz} (hF:∀a b,F (a++x :: x :: b)=0):∀(b p q:List jz) (s:Rat),Aa F r (p++x :: x :: q) b s=0
 | [],p,q,s=>rfl
 | v :: b,p,q,s=>by
  have i1:=hF p (q++b);have i2:=IT (r:=r) hF b p (q++[v]) (-s);simp only[Aa,b9,eX] at i1 i2 ⊢;rw[i1,i2];grind
theorem IU {F:List jz->Rat} {r:Nat} {x:jz} (hF:∀a b,F (a++x :: x :: b)=0):∀(a pre b:List jz) (s:Rat),Aa F r pre (a++x :: x :: b) s=0
 | [],pre,b,s=>by
  have i2:=IT (r:=r) hF b pre [] (- -s);simp only[Aa,cP,b9,eX] at i2 ⊢;rw[i2];grind
 | v :: a,pre,b,s=>by
  have i1:=hF (pre++a) b;have i2:=IU (r:=r) hF a (pre++[v]) b (-s);simp only[Aa,b9,eX] at i1 i2 ⊢;rw[i1,i2];grind
theorem zI {x:jz}:∀{rs:List Nat} (a b:List jz),qX rs (a++x :: x :: b)=0
 | [],a,b=>Dl
 | r :: rs,a,b=>IU (λa b=>zI a b) a [] b 1
theorem OH (a b:List jz):qX rs (a++x :: y :: b)=- qX rs (a++y :: x :: b):=by
 have hr:∀r∈rs,(λr=>1*x r+1*y r) r=1*x r+1*y r:=λ_ _=>rfl
 have h0:=zI (x:=λr=>1*x r+1*y r) (rs:=rs) a b;have h1:=uk hr a ((λr=>1*x r+1*y r) :: b);have h2:=uk hr (a++[x]) b;have h3:=uk hr (a++[y]) b;have h4:=zI (x:=x) (rs:=rs) a b;have h5:=zI (x:=y) (rs:=rs) a b;simp only[b9,eX,cP] at h0 h1 h2 h3 h4 h5;rw[h1,h2,h3,h4,h5] at h0;grind
theorem Dm {x:jz} {rs:List Nat}:∀(b a c:List jz),qX rs (a++x :: (b++x :: c))=0
 | [],a,c=>zI a c
 | y :: b,a,c=>by
  have:=Dm (x:=x) (rs:=rs) b (a++[y]) c;simp only[b9,eX,cP] at this;rw[eX,OH,this];rfl
def bc:Nat->(Nat->Rat)->Rat
 | 0,_=>0
 | k+1,f=>bc k f+f k
theorem aR {f g:Nat->Rat}:∀{k:Nat},(∀j,j < k->f j=g j)->bc k f=bc k g
 | 0,_=>rfl
 | k+1,h=>by
  show bc k f+f k=bc k g+g k
  rw[aR λj hj=>h j (by lia),h k (by lia)]
theorem oY {f g:Nat->Rat}:∀{k:Nat},bc k (λj=>f j+g j)=bc k f+bc k g
 | 0=>by show (0:Rat)=0+0;grind
 | k+1=>by
  show bc k (λj=>f j+g j)+_=(bc k f+f k)+(bc k g+g k)
  rw[oY];grind
theorem cI {f:Nat->Rat} {c:Rat}:∀{k:Nat},bc k (λj=>c*f j)=c*bc k f
 | 0=>by show (0:Rat)=c*0;grind
 | k+1=>by
  show bc k (λj=>c*f j)+_=c*(bc k f+f k)
  rw[cI];grind
theorem cu {f:Nat->Rat}:∀{k:Nat},(∀j,j < k->f j=0)->bc k f=0
 | 0,_=>rfl
 | k+1,h=>by
  show bc k f+f k=0
  rw[cu λj hj=>h j (by lia),h k (by lia)];grind
theorem iE {f:Nat->Rat} {i:Nat}:∀{k:Nat},i < k->(∀j,j < k->j≠i->f j=0)->bc k f=f i
 | k+1,hi,h=>by
  show bc k f+f k=f i
  by_cases e:i=k
  ·subst e;rw[cu λj hj=>h j (by lia) (by lia)];grind
  ·rw[iE (by lia) λj hj=>h j (by lia),h k (by lia) (λz=>e z.symm)];grind
theorem gX {f:Nat->Nat->Rat} {m:Nat}:∀{k:Nat},bc k (λi=>bc m (f i))=bc m (λj=>bc k λi=>f i j)
 | 0=>(cu λ_ _=>rfl).symm
 | k+1=>by
  show bc k (λi=>bc m (f i))+bc m (f k)=bc m (λj=>bc k (λi=>f i j)+f k j)
  rw[gX,oY]
theorem HG {rs:List Nat} {W:jz} {v:Nat->jz} {c:Nat->Rat} (a b:List jz):∀{k:Nat} {W:jz},(∀r∈rs,W r=bc k λj=>c j*v j r)->qX rs (a++W :: b)=bc k λj=>c j*qX rs (a++v j :: b)
 | 0,W,h=>Dk h a b
 | k+1,W,h=>by
  rw[uk (f:=λr=>bc k λj=>c j*v j r) (g:=v k) (x:=1) (y:=c k) (λr hr=>by rw[h r hr];show bc k _+_=_;grind) a b,HG a b (k:=k) (W:=λr=>bc k λj=>c j*v j r) λr _=>rfl];show _=bc k _+_
  grind
end L2
namespace L2
open Nm
def vO (f:Nat->Nat):Nat->List Nat
 | 0=>[]
 | k+1=>f k :: vO f k
def qK (v:Nat->jz):Nat->List jz
 | 0=>[]
 | k+1=>v k :: qK v k
def KS (v:Nat->jz) (i:Nat):Nat->List jz
 | 0=>[]
 | k+1=>if k<=i then [] else v k :: KS v i k
theorem rY {f:Nat->Nat}:∀{k:Nat},(vO f k).length=k
 | 0=>rfl
 | k+1=>by show (vO f k).length+1=_;rw[rY]
theorem cw_len {v:Nat->jz}:∀{k:Nat},(qK v k).length=k
 | 0=>rfl
 | k+1=>by show (qK v k).length+1=_;rw[cw_len]
theorem oO {f:Nat->Nat} {r:Nat}:∀{k:Nat},r∈vO f k->∃t,t < k/\r=f t
 | k+1,h=>by
  rcases aw.mp h with h | h
  ·exact ⟨k,by lia,h⟩
  ·obtain ⟨t,a,b⟩:=oO h;exact ⟨t,by lia,b⟩
theorem EE {f g:Nat->Nat}:∀{k:Nat},(∀j,j < k->f j=g j)->vO f k=vO g k
 | 0,_=>rfl
 | k+1,h=>by
  show f k :: vO f k=g k :: vO g k
  rw[h k (by lia),EE λj hj=>h j (by lia)]
theorem cw_congr {f g:Nat->jz}:∀{k:Nat},(∀j,j < k->f j=g j)->qK f k=qK g k
 | 0,_=>rfl
 | k+1,h=>by
  show f k :: qK f k=g k :: qK g k
  rw[h k (by lia),cw_congr λj hj=>h j (by lia)]
theorem cw_mem {v:Nat->jz} {j:Nat}:∀{k:Nat},j < k->v j∈qK v k
 | k+1,h=>by
  by_cases e:j=k
  ·subst e;exact .head _
  ·exact .tail _ (cw_mem (by lia))
theorem cw_in {v:Nat->jz} {x:jz}:∀{k:Nat},x∈qK v k->∃t,t < k/\x=v t
 | k+1,h=>by
  rcases aw.mp h with h | h
  ·exact ⟨k,by lia,h⟩
  ·obtain ⟨t,a,b⟩:=cw_in h;exact ⟨t,by lia,b⟩
theorem MQ {v:Nat->jz} {i j:Nat} (h1:i < j):∀{k:Nat},j < k->v j∈KS v i k
 | k+1,h=>by
  show v j∈if k<=i then [] else v k :: KS v i k
  rw[if_neg (by lia)];by_cases e:j=k
  ·subst e;exact .head _
  ·exact .tail _ (MQ h1 (by lia))
theorem Fv {v:Nat->jz} {i:Nat} {x:jz}:∀{k:Nat},x∈KS v i k->∃t,t < k/\x=v t
 | k+1,h=>by
  have h:x∈if k<=i then [] else v k :: KS v i k:=h
  split at h
  ·cases h
  ·rcases aw.mp h with h | h
   ·exact ⟨k,by lia,h⟩
   ·obtain ⟨t,a,b⟩:=Fv h;exact ⟨t,by lia,b⟩
theorem cw_split {v:Nat->jz} {i:Nat}:∀{k:Nat},i < k->qK v k=KS v i k++v i :: qK v i
 | k+1,h=>by
  show v k :: qK v k=(if k<=i then [] else v k :: KS v i k)++_
  by_cases e:i=k
  ·subst e;rw[if_pos (ah _)];rfl
  ·rw[if_neg (by lia),cw_split (k:=k) (i:=i) (by lia)];rfl
theorem BN {c:Nat->Rat} (hi:i < k) (hW:∀r∈rs,W r=bc k λj=>c j*v j r):qX rs (KS v i k++W :: qK v i)=c i*qX rs (qK v k):=by
 rw[HG (v:=v) (c:=c) (W:=W) _ _ hW,iE hi λj hj ne=>?_,cw_split hi];rcases aY j i with h | h
 ·obtain ⟨s,t,e⟩:=Gj (cw_mem (v:=v) h);rw[e,Dm];grind
 ·obtain ⟨s,t,e⟩:=Gj (MQ (v:=v) (show i < j by lia) hj);have:=Dm (x:=v j) (rs:=rs) t s (qK v i);rw[e,b9,eX,this];grind
theorem Rw {c:Nat->Rat} (hW:∀r∈rs,W r=bc k λj=>c j*v j r):qX rs (W :: qK v k)=0:=by
 have:=HG (v:=v) (c:=c) (W:=W) [] (qK v k) hW;rw[cP] at this;rw[this];refine cu λj hj=>?_
 obtain ⟨s,t,e⟩:=Gj (cw_mem (v:=v) hj);have:=Dm (x:=v j) (rs:=rs) s [] t;rw[cP] at this;rw[e,cP,this];grind
theorem Kh {c:Nat->Rat} (hi:i∉rs) (h1:W i=bc k (λj=>c j*v j i)+s) (hW:∀r∈rs,W r=bc k λj=>c j*v j r):qX (i :: rs) (W :: qK v k)=s*qX rs (qK v k):=by
 have e:=uk (rs:=i :: rs) (h:=W) (f:=λr=>bc k λj=>c j*v j r) (g:=λr=>if r=i then 1 else 0) (x:=1) (y:=s) (λr hr=>by
  rcases aw.mp hr with rfl | hr
  ·rw[h1,if_pos rfl];grind
  ·rw[hW r hr,if_neg (λz=>hi (by rw[<- z];exact hr))];grind) [] (qK v k)
 rw[cP,cP,cP,Rw (c:=c) λr _=>rfl] at e
 have e2:qX (i :: rs) ((λr=>if r=i then (1:Rat) else 0) :: qK v k)=qX rs (qK v k):=by
  show 1*(if i=i then (1:Rat) else 0)*qX rs ([]++qK v k)+Aa (λws=>qX rs ws) i ([]++[λr=>if r=i then (1:Rat) else 0]) (qK v k) (-1)=_
  have hF:∀a b,(λws=>qX rs ws) (a++(λr=>if r=i then (1:Rat) else 0) :: b)=0*(λws=>qX rs ws) (a++(λr=>if r=i then (1:Rat) else 0) :: b)+0*(λws=>qX rs ws) (a++(λr=>if r=i then (1:Rat) else 0) :: b):=λa b=>by
   have:=Dk (h:=λr=>if r=i then (1:Rat) else 0) (rs:=rs) (λr hr=>if_neg λz=>hi (by rw[<- z];exact hr)) a b
   dsimp only
   rw[this];grind
  have:=C6 (r:=i) hF (qK v k) [] [] (-1);rw[this,if_pos rfl,cP];grind
 rw[e2] at e;rw[e];grind
theorem Pq {F:List jz->Rat} {r B W:Nat}:∀{post pre:List jz} {s:Rat},(∀ws,(∀w∈ws,w∈pre++post)->ws.length+1=(pre++post).length->Fr 1 B (F ws))->(∀w∈post,Fr 1 W (w r))->Fr 1 1 s->Fr 1 (post.length*(W*B)) (Aa F r pre post s)
 | [],pre,s,_,_,_=>by show Fr 1 _ 0;exact Fr.zero
 | v :: post,pre,s,hF,hw,hs=>by
  have t1:Fr 1 (W*B) (s*v r*F (pre++post)):=by
   have:=(hs.mul (hw v (.head _))).mul (hF (pre++post) (λw h=>by
    rcases ay.mp h with h | h
    ·exact kl _ h
    ·exact bL _ (.tail _ h)) (by simp only[ao,bA];lia))
   simpa using this
  have t2:=Pq (F:=F) (r:=r) (B:=B) (W:=W) (post:=post) (pre:=pre++[v]) (s:=-s) (λws h h'=>hF ws (λw hw=>by simpa using h w hw) (by simpa using h')) (λw h=>hw w (.tail _ h)) (by simpa using hs.neg);exact (t1.add t2).mono (by rw[bA,iq];lia)
theorem zG {W N:Nat}:∀{rs:List Nat} {vs:List jz},vs.length<=N->(∀v∈vs,∀r∈rs,Fr 1 W (v r))->Fr 1 ((N*W)^rs.length) (qX rs vs)
 | [],[],_,_=>by show Fr 1 1 1;exact (Fr.int (i:=1) (by decide))
 | [],_ :: _,_,_=>by show Fr 1 _ 0;exact Fr.zero
 | r :: rs,vs,hl,h=>by
  have:=Pq (F:=λws=>qX rs ws) (r:=r) (B:=(N*W)^rs.length) (W:=W) (post:=vs) (pre:=[]) (s:=1) (λws h1 h2=>zG (by rw[cP] at h2;lia) λv hv r' hr'=>h v (by simpa using h1 v hv) r' (.tail _ hr')) (λw hw=>h w hw r (.head _)) (Fr.int (i:=1) (by decide));refine this.mono ?_;rw[bA,cZ,aX ((N*W)^rs.length),bY N];exact ax _ hl
structure xy (a:Nat->Nat->Rat) (m k:Nat) (pm p:Nat->Nat) (l:Nat->Nat->Rat) (d:Rat):Prop where
 inj:∀i j,i < m->j < m->pm i=pm j->i=j
 rng:∀i,i < m->pm i < m
 km:k<=m
 d0:d≠0
 det:d=qX (vO pm k) (qK (λj r=>a r (p j)) k)
 eqs:∀i,i < m->∀c,d*a (pm i) c=bc k (λj=>a (pm i) (p j)*l j c)+if i < k then 0 else l i c
 unit:∀i,i < m->∀j,j < k->l i (p j)=if i=j then d else 0
section
variable {a l:Nat->Nat->Rat} {m k:Nat} {pm p:Nat->Nat} {d:Rat}
theorem xy.start (h:∀i,i < m->pm i=i):xy a m 0 pm p a 1 where
 inj i j hi hj e:=by rw[h i hi,h j hj] at e;exact e
 rng i hi:=by rw[h i hi];exact hi
 km:=aS _
 d0:=by decide
 det:=rfl
 eqs i hi c:=by
  rw[h i hi,if_neg (by lia)];show 1*a i c=0+a i c
  grind
 unit i _ j hj:=absurd hj (by lia)
theorem xy.coef (B:xy a m k pm p l d) (hi:i < m):a (pm i) c=bc k (λj=>(l j c / d)*a (pm i) (p j))+if i < k then 0 else l i c / d:=by
 have h:=B.eqs i hi c;have d0:=B.d0
 have e:bc k (λj=>(l j c / d)*a (pm i) (p j))=(1 / d)*bc k (λj=>a (pm i) (p j)*l j c):=by
  rw[<- cI];exact aR λj _=>by grind
 rw[e]
 split at h
 ·rw[if_pos (by assumption)];grind
 ·rw[if_neg (by assumption)];grind
theorem xy.old (B:xy a m k pm p l d) (hi:i < k):l i c=qX (vO pm k) (KS (λj r=>a r (p j)) i k++(λr=>a r c) :: qK (λj r=>a r (p j)) i):=by
 have km:=B.km;have d0:=B.d0;rw[BN (v:=λj r=>a r (p j)) (c:=λj=>l j c / d) hi λr hr=>?_,<- B.det]
 ·grind
 ·obtain ⟨t,ht,rfl⟩:=oO hr;have:=B.coef (i:=t) (c:=c) (by lia);rw[if_pos ht] at this;rw[this];grind
theorem xy.new (B:xy a m k pm p l d) (h1:k<=i) (hi:i < m):l i c=qX (pm i :: vO pm k) ((λr=>a r c) :: qK (λj r=>a r (p j)) k):=by
 have km:=B.km;have d0:=B.d0
 have hn:pm i∉vO pm k:=λhm=>by
  obtain ⟨t,ht,e⟩:=oO hm;have:=B.inj i t hi (by lia) e
  lia
 have e1:a (pm i) c=bc k (λj=>(l j c / d)*a (pm i) (p j))+l i c / d:=by
  have:=B.coef (i:=i) (c:=c) hi;rwa [if_neg (by lia)] at this
 have e2:∀r∈vO pm k,a r c=bc k (λj=>(l j c / d)*a r (p j)):=λr hr=>by
  obtain ⟨t,ht,rfl⟩:=oO hr;have:=B.coef (i:=t) (c:=c) (by lia);rw[if_pos ht] at this;rw[this];grind
 rw[Kh (v:=λj r=>a r (p j)) (c:=λj=>l j c / d) (W:=λr=>a r c) (s:=l i c / d) hn e1 e2,<- B.det];grind
theorem xy.fr (B:xy a m k pm p l d) (hN:k < N) (hW:1<=W) (ha:∀i,i < m->∀c,Fr 1 W (a i c)) (hi:i < m):Fr 1 ((N*W)^(k+1)) (l i c):=by
 have km:=B.km;have mono:∀t,t<=k+1->(N*W)^t<=(N*W)^(k+1):=λt ht=>ar (cx (by lia) hW) ht
 have ha':∀r∈vO pm k,∀c,Fr 1 W (a r c):=λr hr c=>by
  obtain ⟨t,ht,rfl⟩:=oO hr;exact ha _ (B.rng t (by lia)) c
 by_cases h:i < k
 ·rw[B.old h];refine (zG (W:=W) (N:=N) ?_ ?_).mono (mono _ (by rw[rY];lia))
  ·have:=congrArg List.length (cw_split (v:=λj r=>a r (p j)) h);rw[ao,bA,cw_len] at this;rw[ao,bA]
   lia
  ·intro v hv r hr;rcases ay.mp hv with hv | hv
   ·obtain ⟨t,_,rfl⟩:=Fv hv;exact ha' r hr _
   ·rcases aw.mp hv with rfl | hv
    ·exact ha' r hr _
    ·obtain ⟨t,_,rfl⟩:=cw_in hv;exact ha' r hr _
 ·rw[B.new (by lia) hi];refine (zG (W:=W) (N:=N) ?_ ?_).mono (mono _ (by rw[bA,rY];lia))
  ·rw[bA,cw_len]
   lia
  ·intro v hv r hr
   have hr':∀c,Fr 1 W (a r c):=λc=>by
    rcases aw.mp hr with rfl | hr
    ·exact ha _ (B.rng i hi) c
    ·exact ha' r hr c
   rcases aw.mp hv with rfl | hv
   ·exact hr' _
   ·obtain ⟨t,_,rfl⟩:=cw_in hv;exact hr' _
theorem xy.dfr (B:xy a m k pm p l d) (hN:k<=N) (ha:∀i,i < m->∀c,Fr 1 W (a i c)):Fr 1 ((N*W)^k) d:=by
 have km:=B.km;rw[B.det]
 have:=zG (W:=W) (N:=N) (rs:=vO pm k) (vs:=qK (λj r=>a r (p j)) k) (by rw[cw_len];exact hN) λv hv r hr=>by
  obtain ⟨t,ht,rfl⟩:=oO hr;obtain ⟨t',_,rfl⟩:=cw_in hv;exact ha _ (B.rng t (by lia)) _
 rwa [rY] at this
def iS (k t i:Nat):Nat:=if i=k then t else if i=t then k else i
theorem nQ (hk:k < m) (ht:t < m) (hi:i < m):iS k t i < m:=by
 unfold iS
 split
 ·exact ht
 ·split
  ·exact hk
  ·exact hi
theorem Qi (h:iS k t i=iS k t j):i=j:=by
 unfold iS at h
 split at h <;> split at h <;> (try split at h) <;> (try split at h) <;> lia
theorem tK (h:k<=t) (hi:i < k):iS k t i=i:=by
 unfold iS;rw[if_neg (by lia),if_neg (by lia)]
theorem uC (h:k<=t) (hi:k<=i):k<=iS k t i:=by
 unfold iS
 split
 ·exact h
 ·split <;> lia
theorem xy.swap (B:xy a m k pm p l d) {t:Nat} (h:k<=t) (ht:t < m):xy a m k (λi=>pm (iS k t i)) p (λi=>l (iS k t i)) d where
 inj i j hi hj e:=Qi (B.inj _ _ (nQ (by lia) ht hi) (nQ (by lia) ht hj) e)
 rng i hi:=B.rng _ (nQ (by lia) ht hi)
 km:=B.km
 d0:=B.d0
 det:=by rw[B.det,EE (f:=pm) (g:=λi=>pm (iS k t i)) λj hj=>by rw[tK h hj]]
 eqs i hi c:=by
  have e:=B.eqs (iS k t i) (nQ (by lia) ht hi) c;have e1:bc k (λj=>a (pm (iS k t i)) (p j)*l (iS k t j) c)=bc k (λj=>a (pm (iS k t i)) (p j)*l j c):=aR λj hj=>by rw[tK h hj]
  rw[e1];by_cases hk:i < k
  ·rw[tK h hk] at e ⊢;exact e
  ·rw[if_neg hk];rw[if_neg (by have:=uC h (show k<=i by lia);lia)] at e;exact e
 unit i hi j hj:=by
  rw[B.unit _ (nQ (by lia) ht hi) j hj];by_cases hk:i < k
  ·rw[tK h hk]
  ·have:=uC h (show k<=i by lia);rw[if_neg (by lia),if_neg (by lia)]
theorem xy.step (B:xy a m k pm p l d) {c0:Nat} (hk:k < m) (h0:l k c0≠0):xy a m (k+1) pm (λj=>if j=k then c0 else p j) (λi c=>if i=k then l k c else (l k c0*l i c - l i c0*l k c) / d) (l k c0) where
 inj:=B.inj
 rng:=B.rng
 km:=hk
 d0:=h0
 det:=by
  rw[B.new (ah _) hk];show _=qX (pm k :: vO pm k) ((λr=>a r (if k=k then c0 else p k)) :: qK _ k)
  rw[if_pos rfl];congr 2;exact cw_congr λj hj=>by rw[if_neg (show j≠k by lia)]
 eqs i hi c:=by
  have d0:=B.d0;have e1:=B.eqs i hi c;have e2:=B.eqs i hi c0;show l k c0*a (pm i) c=(bc k _+_)+_
  have s1:bc k (λj=>a (pm i) (if j=k then c0 else p j)*(if j=k then l k c else (l k c0*l j c - l j c0*l k c) / d))=(l k c0 / d)*bc k (λj=>a (pm i) (p j)*l j c)+(- l k c / d)*bc k (λj=>a (pm i) (p j)*l j c0):=by
   rw[<- cI,<- cI,<- oY];refine aR λj hj=>?_
   rw[if_neg (show j≠k by lia),if_neg (show j≠k by lia)];grind
  rw[s1];simp only[if_true];generalize bc k (λj=>a (pm i) (p j)*l j c)=S1 at e1 ⊢;generalize bc k (λj=>a (pm i) (p j)*l j c0)=S2 at e2 ⊢;rcases jZ i k with h | h | h
  ·rw[if_pos h] at e1 e2;rw[if_pos (by lia)];grind
  ·subst h;rw[if_neg (by lia)] at e1 e2;rw[if_pos (by lia)];grind
  ·rw[if_neg (by lia)] at e1 e2;rw[if_neg (by lia),if_neg (by lia)];grind
 unit i hi j hj:=by
  have d0:=B.d0;by_cases e:j=k
  ·subst e;simp only[if_true];by_cases ei:i=j
   ·rw[if_pos ei,if_pos ei]
   ·rw[if_neg ei,if_neg ei];grind
  ·have hj':j < k:=by lia
   rw[if_neg e];by_cases ei:i=k
   ·rw[if_pos ei,B.unit k hk j hj',if_neg (by lia),if_neg (by lia)]
   ·rw[if_neg ei,B.unit i hi j hj',B.unit k hk j hj',if_neg (show k≠j by lia)]
    split
    ·grind
    ·grind
end
def c9 (m:Nat) (a:Nat->Nat->Rat) (x:Nat->Rat):Prop:=∃w:Nat->Rat,∀c,x c=bc m λt=>w t*a t c
section
variable {m m' k n:Nat} {a b:Nat->Nat->Rat} {x y:Nat->Rat}
theorem c9.row (hi:i < m):c9 m a (a i):=⟨λt=>if t=i then 1 else 0,λc=>by
 rw[iE hi λj _ ne=>by dsimp only;rw[if_neg ne];grind]
 dsimp only
 rw[if_pos rfl];grind⟩
theorem c9.lin (α β:Rat) (hx:c9 m a x) (hy:c9 m a y):c9 m a λc=>α*x c+β*y c:=by
 obtain ⟨w,hw⟩:=hx;obtain ⟨v,hv⟩:=hy;refine ⟨λt=>α*w t+β*v t,λc=>?_⟩
 dsimp only
 rw[hw c,hv c,<- cI,<- cI,<- oY];exact aR λj _=>by grind
theorem c9.congr (h:∀c,x c=y c) (hx:c9 m a x):c9 m a y:=by obtain ⟨w,hw⟩:=hx;exact ⟨w,λc=>by rw[<- h c];exact hw c⟩
theorem c9.trans (h:∀t,t < m'->c9 m a (b t)) (hx:c9 m' b x):c9 m a x:=by
 obtain ⟨v,hv⟩:=hx
 have h2:∀t,∃w:Nat->Rat,t < m'->∀c,b t c=bc m λs=>w s*a s c:=λt=>by
  by_cases ht:t < m'
  ·obtain ⟨w,hw⟩:=h t ht;exact ⟨w,λ_=>hw⟩
  ·exact ⟨λ_=>0,λz=>absurd z ht⟩
 have hc:=Classical.axiomOfChoice h2;obtain ⟨w,hw⟩:=hc;refine ⟨λs=>bc m' λt=>v t*w t s,λc=>?_⟩;rw[hv c];have e1:bc m' (λt=>v t*b t c)=bc m' (λt=>bc m λs=>v t*(w t s*a s c)):=aR λt ht=>by rw[hw t ht c,<- cI]
 rw[e1,gX];refine aR λs _=>?_
 have:bc m' (λt=>v t*w t s)*a s c=a s c*bc m' (λt=>v t*w t s):=eB ..;rw[this,<- cI];exact aR λt _=>by grind
theorem c9.zero (h:∀c,x c=0):c9 m a x:=⟨λ_=>0,λc=>by rw[h c,cu λ_ _=>by grind]⟩
end
structure BZ (m n:Nat) (a:Nat->Nat->Rat) (k:Nat) (p:Nat->Nat) (R:Nat->Nat->Rat):Prop where
 inc:∀i j,i < j->j < k->p i < p j
 low:∀j,j < k->p j < n
 unit:∀i,i < k->∀j,j < k->R i (p j)=if i=j then 1 else 0
 lead:∀i,i < k->∀c,c < p i->R i c=0
 span:∀i,i < m->c9 k R (a i)
 back:∀i,i < k->c9 m a (R i)
section
variable {m m' k k' n:Nat} {a a' R R':Nat->Nat->Rat} {p p':Nat->Nat} {x:Nat->Rat}
theorem BZ.coef (h:BZ m n a k p R) (hx:c9 k R x) (c:Nat):x c=bc k λj=>x (p j)*R j c:=by
 obtain ⟨w,hw⟩:=hx;rw[hw c];refine aR λj hj=>?_
 rw[hw (p j),iE hj λt ht ne=>by rw[h.unit t ht j hj,if_neg ne];grind,h.unit j hj j hj,if_pos rfl];grind
theorem BZ.lead_in (h:BZ m n a k p R) (hx:c9 k R x) (h1:x c≠0) (h0:∀c',c' < c->x c'=0):∃j,j < k/\p j=c:=by
 refine Classical.byContradiction λhn=>h1 ?_
 rw[h.coef hx c];refine cu λj hj=>?_
 rcases jZ (p j) c with z | z | z
 ·rw[h0 _ z];grind
 ·exact absurd ⟨j,hj,z⟩ hn
 ·rw[h.lead j hj c z];grind
theorem inc_le (h1:∀i j,i < j->j < k->p i < p j) (h2:∀i j,i < j->j < k'->p' i < p' j) (hs:∀j,j < k'->∃i,i < k/\p i=p' j):∀{j:Nat},j < k'->∀{i:Nat},i < k->p i=p' j->j<=i
 | 0,_,_,_,_=>aS _
 | j+1,hj,i,hi,e=>by
  obtain ⟨i0,hi0,e0⟩:=hs j (by lia);have:=inc_le h1 h2 hs (j:=j) (by lia) hi0 e0;have lt:=h2 j (j+1) (by lia) hj;rcases jZ i0 i with z | z | z
  ·lia
  ·subst z;lia
  ·have:=h1 i i0 z hi0;lia
theorem Mf (h1:∀i j,i < j->j < k->p i < p j) (h:i<=j) (hj:j < k):p i<=p j:=by
 rcases aY i j with z | z
 ·exact c6 (h1 i j z hj)
 ·have:i=j:=by lia
  rw[this];exact ah _
theorem Ja (h1:∀i j,i < j->j < k->p i < p j) (h2:∀i j,i < j->j < k'->p' i < p' j) (hs:∀j,j < k'->∃i,i < k/\p i=p' j):k'<=k/\∀j,j < k'->p j<=p' j:=by
 refine ⟨?_,λj hj=>?_⟩
 ·rcases gC k' with z | z
  ·lia
  ·obtain ⟨i,hi,e⟩:=hs (k' - 1) (by lia);have:=inc_le h1 h2 hs (j:=k' - 1) (by lia) hi e
   lia
 ·obtain ⟨i,hi,e⟩:=hs j hj;rw[<- e];exact Mf h1 (inc_le h1 h2 hs hj hi e) hi
theorem BZ.uniq (h:BZ m n a k p R) (h':BZ m' n a' k' p' R') (s1:∀i,i < m->c9 m' a' (a i)) (s2:∀i,i < m'->c9 m a (a' i)):k=k'/\(∀j,j < k->p j=p' j)/\∀i,i < k->∀c,R i c=R' i c:=by
 have x1:∀i,i < k->c9 k' R' (R i):=λi hi=>c9.trans (λt ht=>h'.span t ht) (c9.trans s1 (h.back i hi))
 have x2:∀i,i < k'->c9 k R (R' i):=λi hi=>c9.trans (λt ht=>h.span t ht) (c9.trans s2 (h'.back i hi))
 have y1:∀j,j < k->∃i,i < k'/\p' i=p j:=λj hj=>h'.lead_in (x1 j hj) (by rw[h.unit j hj j hj,if_pos rfl];decide) (h.lead j hj)
 have y2:∀j,j < k'->∃i,i < k/\p i=p' j:=λj hj=>h.lead_in (x2 j hj) (by rw[h'.unit j hj j hj,if_pos rfl];decide) (h'.lead j hj)
 obtain ⟨z1,w1⟩:=Ja h'.inc h.inc y1;obtain ⟨z2,w2⟩:=Ja h.inc h'.inc y2;have ek:k=k':=Ni z1 z2;subst ek;have ep:∀j,j < k->p j=p' j:=λj hj=>Ni (w2 j hj) (w1 j hj)
 refine ⟨rfl,ep,λi hi c=>?_⟩;rw[h.coef (x2 i hi) c,iE hi λj hj ne=>by rw[ep j hj,h'.unit i hi j hj,if_neg (λz=>ne z.symm)];grind,ep i hi,h'.unit i hi i hi,if_pos rfl];grind
end
structure mL (a:Nat->Nat->Rat) (m k P:Nat) (p:Nat->Nat) (l:Nat->Nat->Rat) (d:Rat):Prop where
 km:k<=m
 d0:d≠0
 unit:∀i,i < m->∀j,j < k->l i (p j)=if i=j then d else 0
 inc:∀i j,i < j->j < k->p i < p j
 low:∀j,j < k->p j < P
 zero:∀i,k<=i->i < m->∀c,c < P->l i c=0
 lead:∀j,j < k->∀c,c < p j->l j c=0
 there:∀i,i < m->c9 m l (a i)
 back:∀i,i < m->c9 m a (l i)
section
variable {m k n P:Nat} {a l l':Nat->Nat->Rat} {p:Nat->Nat} {d d':Rat}
theorem mL.start:mL a m 0 0 p a 1 where
 km:=aS _
 d0:=by decide
 unit _ _ j hj:=absurd hj (by lia)
 inc _ j _ hj:=absurd hj (by lia)
 low j hj:=absurd hj (by lia)
 zero _ _ _ c hc:=absurd hc (by lia)
 lead j hj:=absurd hj (by lia)
 there i hi:=c9.row hi
 back i hi:=c9.row hi
theorem mL.skip (E:mL a m k P p l d) (h:∀i,k<=i->i < m->l i P=0):mL a m k (P+1) p l d :=
 ⟨E.km,E.d0,E.unit,E.inc,λj hj=>Jz (E.low j hj),λi h1 h2 c hc=>by
  by_cases e:c=P
  ·rw[e];exact h i h1 h2
  ·exact E.zero i h1 h2 c (by lia),E.lead,E.there,E.back⟩
theorem Sq:iS k t (iS k t i)=i:=by
 unfold iS
 split
 ·split <;> (try split) <;> lia
 ·split
  ·rw[if_pos rfl];lia
  ·rfl
theorem mL.swap (E:mL a m k P p l d) {t:Nat} (h:k<=t) (ht:t < m):mL a m k P p (λi=>l (iS k t i)) d where
 km:=E.km
 d0:=E.d0
 unit i hi j hj:=by
  rw[E.unit _ (nQ (by lia) ht hi) j hj];by_cases hk:i < k
  ·rw[tK h hk]
  ·have:=uC h (show k<=i by lia);rw[if_neg (by lia),if_neg (by lia)]
 inc:=E.inc
 low:=E.low
 zero i h1 h2 c hc:=E.zero _ (uC h h1) (nQ (by lia) ht h2) c hc
 lead j hj c hc:=by rw[tK h hj];exact E.lead j hj c hc
 there i hi:=c9.trans (λs hs=>c9.congr (λc=>by rw[Sq]) (c9.row (a:=λi=>l (iS k t i)) (i:=iS k t s) (nQ (by lia) ht hs))) (E.there i hi)
 back i hi:=E.back _ (nQ (by lia) ht hi)
theorem mL.step (E:mL a m k P p l d) (hk:k < m) (h0:d'≠0) (unit':∀i,i < m->∀j,j < k+1->l' i (if j=k then P else p j)=if i=j then d' else 0)
  (hl:∀i,i < m->∃β γ:Rat,β≠0/\(i=k->γ=0)/\∀c,l' i c=β*l i c+γ*l k c):mL a m (k+1) (P+1) (λj=>if j=k then P else p j) l' d' where
 km:=hk
 d0:=h0
 unit:=unit'
 inc i j hij hj:=by
  by_cases e:j=k
  ·rw[if_pos e,if_neg (by lia)];exact E.low i (by lia)
  ·rw[if_neg e,if_neg (by lia)];exact E.inc i j hij (by lia)
 low j hj:=by
  by_cases e:j=k
  ·rw[if_pos e];lia
  ·rw[if_neg e];exact Jz (E.low j (by lia))
 zero i h1 h2 c hc:=by
  by_cases e:c=P
  ·have:=unit' i h2 k (by lia);rw[if_pos rfl,if_neg (by lia)] at this;rw[e];exact this
  ·obtain ⟨β,γ,_,_,q⟩:=hl i h2;rw[q c,E.zero i (by lia) h2 c (by lia),E.zero k (ah _) hk c (by lia)];grind
 lead j hj c hc:=by
  have km:=E.km;obtain ⟨β,γ,_,_,q⟩:=hl j (by lia);by_cases e:j=k
  ·rw[if_pos e] at hc;rw[q c,e,E.zero k (ah _) hk c hc];grind
  ·rw[if_neg e] at hc;have:=E.low j (by lia);rw[q c,E.lead j (by lia) c hc,E.zero k (ah _) hk c (by lia)];grind
 there i hi:=by
  refine c9.trans (λs hs=>?_) (E.there i hi);obtain ⟨β,γ,b0,_,q⟩:=hl s hs;obtain ⟨βk,γk,bk0,gk,qk⟩:=hl k hk;have g0:=gk rfl;refine c9.congr (λc=>?_) (c9.lin (1 / β) (-(γ / β) / βk) (c9.row (a:=l') hs) (c9.row (a:=l') hk));rw[q c,qk c,g0];grind
 back i hi:=by
  obtain ⟨β,γ,_,_,q⟩:=hl i hi;exact c9.congr (λc=>(q c).symm) (c9.lin β γ (E.back i hi) (E.back k hk))
theorem mL.done (E:mL a m k n p l d) (ha:∀i,i < m->∀c,n<=c->a i c=0):BZ m n a k p (λi c=>l i c / d) where
 inc:=E.inc
 low:=E.low
 unit i hi j hj:=by
  have d0:=E.d0;have km:=E.km;rw[E.unit i (by lia) j hj]
  split
  ·grind
  ·grind
 lead i hi c hc:=by
  rw[E.lead i hi c hc];grind
 span i hi:=by
  have d0:=E.d0;refine c9.trans (λs hs=>?_) (E.there i hi);by_cases z:s < k
  ·refine c9.congr (λc=>?_) (c9.lin d 0 (c9.row (a:=λi c=>l i c / d) z) (c9.row (a:=λi c=>l i c / d) z));grind
  ·refine c9.zero λc=>?_
   by_cases hc:c < n
   ·exact E.zero s (by lia) hs c hc
   ·obtain ⟨w,hw⟩:=E.back s hs;rw[hw c,cu λt ht=>by rw[ha t ht c (by lia)];grind]
 back i hi:=by
  have km:=E.km;have d0:=E.d0;refine c9.congr (λc=>?_) (c9.lin (1 / d) 0 (E.back i (by lia)) (E.back i (by lia)));grind
end
def d5 (ls:List (List Int)) (i c:Nat):Rat:=(((ls.getD i []).getD c 0:Int):Rat)
def bI (rows:LR9) (i c:Nat):Rat:=(rows.getD i []).getD c 0
def pK (ls:List (List Int)) (k t:Nat):List (List Int):=(ls.set k (ls.getD t [])).set t (ls.getD k [])
def Fy (ls:List (List Int)) (k c:Nat) (b:Int):List (List Int):=(ls.map λzs=>List.zipWith (λx y=>((ls.getD k []).getD c 0*x - zs.getD c 0*y).fdiv b) zs (ls.getD k [])).set k (ls.getD k [])
section
variable {ls ls0:List (List Int)} {k t n P c:Nat} {b d:Int} {ps:List Nat}
theorem lH {α:Type} {l:List α} {x e:α} (hi:i < l.length):(l.set i x).getD j e=if j=i then x else l.getD j e:=by
 rw[aa,aa,List.getElem?_set];by_cases h:j=i
 ·subst h;rw[if_pos rfl,if_pos hi,if_pos rfl];rfl
 ·rw[if_neg (λz=>h z.symm),if_neg h]
theorem vq:(pK ls k t).length=ls.length:=by unfold pK;rw[cQ,cQ]
theorem MS:(Fy ls k c b).length=ls.length:=by unfold Fy;rw[cQ,ag]
theorem getD_in {α:Type} {l:List α} {e:α} (h:i < l.length):l.getD i e∈l:=by
 rw[aa,ae h];exact aF h
theorem Iw (w:∀zs∈ls,zs.length=n) (hk:k < ls.length) (ht:t < ls.length):∀zs∈pK ls k t,zs.length=n:=λzs hz=>by
 unfold pK at hz;rcases cC hz with h | h
 ·rcases cC h with h | h
  ·exact w zs h
  ·rw[h];exact w _ (getD_in ht)
 ·rw[h];exact w _ (getD_in hk)
theorem Jo (w:∀zs∈ls,zs.length=n) (hk:k < ls.length):∀zs∈Fy ls k c b,zs.length=n:=λzs hz=>by
 unfold Fy at hz;rcases cC hz with h | h
 ·obtain ⟨y,hy,rfl⟩:=av.mp h;rw[aV,w y hy,w _ (getD_in hk)]
  lia
 ·rw[h];exact w _ (getD_in hk)
theorem uX (hk:k < ls.length) (ht:t < ls.length) (i c:Nat):d5 (pK ls k t) i c=d5 ls (iS k t i) c:=by
 unfold d5 pK iS;rw[lH (by rw[cQ];exact ht),lH hk];by_cases h1:i=t
 ·rw[if_pos h1];by_cases h2:i=k
  ·rw[if_pos h2,<- h1,<- h2]
  ·rw[if_neg h2,if_pos h1]
 ·rw[if_neg h1];by_cases h2:i=k
  ·rw[if_pos h2,if_pos h2]
  ·rw[if_neg h2,if_neg h2,if_neg h1]
theorem uj (w:∀zs∈ls,zs.length=n) (hc:n<=c):d5 ls i c=0:=by
 unfold d5;by_cases h:i < ls.length
 ·have:=w _ (getD_in (e:=[]) h);rw[aa (l:=ls.getD i []),aH (by lia)];rfl
 ·rw[aa (l:=ls),aH (by lia)];rfl
theorem sL {x:Int} (h:(x:Rat)=0):x=0:=by
 have:(x:Rat)=((0:Int):Rat):=h;exact dj.mp this
theorem Hy {x b:Int} (hb:b≠0) (hq:∃z:Int,q=(z:Rat)) (e:(x:Rat)=(b:Rat)*q):((x.fdiv b:Int):Rat)=q:=by
 obtain ⟨z,rfl⟩:=hq;rw[<- aM] at e;have:=dj.mp e;rw[this,Int.mul_fdiv_cancel_left _ hb]
theorem uW (h:Fr 1 W q):∃z:Int,q=(z:Rat):=by
 obtain ⟨z,e,_⟩:=h;exact ⟨z,by rw[<- e];simp⟩
theorem ui {z:Int} (h:Fr 1 W (z:Rat)):z.natAbs<=W:=by
 obtain ⟨y,e,b⟩:=h;have:(z:Rat)=(y:Rat):=by rw[<- e];simp
 rw[dj.mp this];simpa using b
theorem Mx (w:∀zs∈ls,zs.length=n) (hk:k < ls.length) (hb:b≠0) (hi:i < ls.length) (hz:∀c,∃z:Int,(d5 ls k P*d5 ls i c - d5 ls i P*d5 ls k c) / (b:Rat)=(z:Rat)) (c:Nat) :
  d5 (Fy ls k P b) i c=if i=k then d5 ls k c else (d5 ls k P*d5 ls i c - d5 ls i P*d5 ls k c) / (b:Rat):=by
 by_cases e:i=k
 ·rw[if_pos e];unfold d5 Fy;rw[lH (by rw[ag];exact hk),if_pos e]
 ·rw[if_neg e];by_cases hc:c < n
  ·have hb':(b:Rat)≠0:=λz=>hb (sL z)
   have lk:=w _ (getD_in (e:=[]) hk);have li:=w _ (getD_in (e:=[]) hi)
   have e1:d5 (Fy ls k P b) i c=(((((ls.getD k []).getD P 0*(ls.getD i []).getD c 0 - (ls.getD i []).getD P 0*(ls.getD k []).getD c 0).fdiv b:Int)):Rat):=by
    unfold Fy;rw[d5,lH (by rw[ag];exact hk),if_neg e];rw[aa (l:=List.map _ ls),aD,ae hi];show ((((List.zipWith _ ls[i] (ls.getD k [])).getD c 0:Int)):Rat)=_
    have ei:ls.getD i []=ls[i]:=by rw[aa,ae hi];rfl
    rw[<- ei];rw[aa (l:=List.zipWith _ _ _),bW,aa (l:=ls.getD i []) (i:=c),aa (l:=ls.getD k []) (i:=c),ae (show c < (ls.getD i []).length by lia),ae (show c < (ls.getD k []).length by lia)];rfl
   rw[e1];refine Hy hb (hz c) ?_;rw[zZ,aM,aM];show _=(b:Rat)*((d5 ls k P*d5 ls i c - d5 ls i P*d5 ls k c) / (b:Rat))
   show d5 ls k P*d5 ls i c - d5 ls i P*d5 ls k c=_
   grind
  ·rw[uj (Jo w hk) (show n<=c by lia),uj w (i:=i) (show n<=c by lia),uj w (i:=k) (show n<=c by lia)];grind
end
section
variable {m k n P:Nat} {a l l2:Nat->Nat->Rat} {pm p p2:Nat->Nat} {d:Rat}
theorem xy.congr (B:xy a m k pm p l d) (hp:∀j,j < k->p2 j=p j) (hl:∀i,i < m->∀c,l2 i c=l i c):xy a m k pm p2 l2 d where
 inj:=B.inj
 rng:=B.rng
 km:=B.km
 d0:=B.d0
 det:=by rw[B.det,cw_congr (f:=λj r=>a r (p j)) (g:=λj r=>a r (p2 j)) λj hj=>by rw[hp j hj]]
 eqs i hi c:=by
  have km:=B.km;rw[B.eqs i hi c,hl i hi c];congr 1;exact aR λj hj=>by rw[hp j hj,hl j (by lia) c]
 unit i hi j hj:=by rw[hp j hj,hl i hi];exact B.unit i hi j hj
theorem c9.rows (h:∀i,i < m->∀c,l2 i c=l i c) (hx:c9 m l x):c9 m l2 x:=by obtain ⟨w,hw⟩:=hx;exact ⟨w,λc=>by rw[hw c];exact aR λt ht=>by rw[h t ht c]⟩
theorem mL.congr (E:mL a m k P p l d) (hp:∀j,j < k->p2 j=p j) (hl:∀i,i < m->∀c,l2 i c=l i c):mL a m k P p2 l2 d where
 km:=E.km
 d0:=E.d0
 unit i hi j hj:=by rw[hp j hj,hl i hi];exact E.unit i hi j hj
 inc i j hij hj:=by rw[hp i (by lia),hp j hj];exact E.inc i j hij hj
 low j hj:=by rw[hp j hj];exact E.low j hj
 zero i h1 h2 c hc:=by rw[hl i h2];exact E.zero i h1 h2 c hc
 lead j hj c hc:=by
  have km:=E.km;rw[hp j hj] at hc;rw[hl j (by lia)];exact E.lead j hj c hc
 there i hi:=(E.there i hi).rows hl
 back i hi:=(E.back i hi).congr λc=>(hl i hi c).symm
theorem mL.kP (E:mL a m k P p l d):k<=P:=by
 have:∀j,j < k->j<=p j:=by
  intro j
  induction j with
  | zero=>intro _;exact aS _
  | succ j ih =>
   intro hj;have:=ih (by lia);have:=E.inc j (j+1) (by lia) hj
   lia
 rcases gC k with z | z
 ·lia
 ·have h1:=this (k - 1) (by lia);have h2:=E.low (k - 1) (by lia)
  lia
end
structure BY (ls0:List (List Int)) (n P:Nat) (ls:List (List Int)) (ps:List Nat) (d:Int):Prop where
 len:ls.length=ls0.length
 wide:∀zs∈ls,zs.length=n
 bar:∃pm,xy (d5 ls0) ls0.length ps.length pm (λj=>ps.getD j 0) (d5 ls) d
 el:mL (d5 ls0) ls0.length ps.length P (λj=>ps.getD j 0) (d5 ls) d
section
variable {ls0 ls:List (List Int)} {n P:Nat} {ps:List Nat} {d:Int}
theorem BY.start (w:∀zs∈ls0,zs.length=n):BY ls0 n 0 ls0 [] 1:=⟨rfl,w,⟨λi=>i,xy.start λ_ _=>rfl⟩,mL.start⟩
theorem BY.d0 (h:BY ls0 n P ls ps d):d≠0:=λz=>h.el.d0 (by rw[z];rfl)
theorem BY.skip (h:BY ls0 n P ls ps d) (hz:∀i,ps.length<=i->i < ls.length->d5 ls i P=0):BY ls0 n (P+1) ls ps d:=⟨h.len,h.wide,h.bar,h.el.skip λi h1 h2=>hz i h1 (by rw[h.len];exact h2)⟩
theorem getD_snoc (hj:j < l.length+1):(l++[x]).getD j 0=if j=l.length then x else l.getD j 0:=by
 rw[aa,aa];by_cases e:j=l.length
 ·rw[if_pos e,e,bM (ah _),ot];rfl
 ·rw[if_neg e,cD (by lia)]
theorem BY.int (h:BY ls0 n P ls ps d) (hW:1<=W) (h0:∀i,i < ls0.length->∀c,Fr 1 W (d5 ls0 i c)) (ht:ps.length<=t) (ht2:t < ls.length) (hne:d5 ls t P≠0) :
  ∀i,i < ls.length->i≠ps.length->∀c,∃z:Int,(d5 (pK ls ps.length t) ps.length P*d5 (pK ls ps.length t) i c - d5 (pK ls ps.length t) i P*d5 (pK ls ps.length t) ps.length c) / (d:Rat)=(z:Rat):=λi hi ne c=>by
 obtain ⟨pm,B⟩:=h.bar;have hl:=h.len;have hk:ps.length < ls.length:=by lia
 have B1:=(B.swap ht (by lia)).congr (p2:=λj=>ps.getD j 0) (l2:=d5 (pK ls ps.length t)) (λ_ _=>rfl) (λi _ c=>uX hk ht2 i c)
 have h1:d5 (pK ls ps.length t) ps.length P≠0:=by
  rw[uX hk ht2];unfold iS;rw[if_pos rfl];exact hne
 have B2:=B1.step (c0:=P) (by lia) h1;have:=B2.fr (W:=W) (N:=ps.length+2) (by lia) hW h0 (i:=i) (c:=c) (by lia);rw[if_neg ne] at this;exact uW this
theorem BY.step (h:BY ls0 n P ls ps d) (hW:1<=W) (h0:∀i,i < ls0.length->∀c,Fr 1 W (d5 ls0 i c)) (ht:ps.length<=t) (ht2:t < ls.length) (hne:d5 ls t P≠0) :
  BY ls0 n (P+1) (Fy (pK ls ps.length t) ps.length P d) (ps++[P]) (((Fy (pK ls ps.length t) ps.length P d).getD ps.length []).getD P 0):=by
 obtain ⟨pm,B⟩:=h.bar;have hl:=h.len;have hk:ps.length < ls.length:=by lia
 have hz:=h.int hW h0 ht ht2 hne;have w1:=Iw h.wide hk ht2;have k1:ps.length < (pK ls ps.length t).length:=by rw[vq];exact hk
 have B1:=(B.swap ht (by lia)).congr (p2:=λj=>ps.getD j 0) (l2:=d5 (pK ls ps.length t)) (λ_ _=>rfl) (λi _ c=>uX hk ht2 i c);have E1:=(h.el.swap ht (by lia)).congr (p2:=λj=>ps.getD j 0) (l2:=d5 (pK ls ps.length t)) (λ_ _=>rfl) (λi _ c=>uX hk ht2 i c)
 have h1:d5 (pK ls ps.length t) ps.length P≠0:=by
  rw[uX hk ht2];unfold iS;rw[if_pos rfl];exact hne
 have B2:=B1.step (c0:=P) (by lia) h1
 have fc:∀i,i < ls0.length->∀c,d5 (Fy (pK ls ps.length t) ps.length P d) i c=if i=ps.length then d5 (pK ls ps.length t) ps.length c else (d5 (pK ls ps.length t) ps.length P*d5 (pK ls ps.length t) i c - d5 (pK ls ps.length t) i P*d5 (pK ls ps.length t) ps.length c) / (d:Rat):=λi hi c=>by
  by_cases e:i=ps.length
  ·rw[if_pos e];unfold d5 Fy;rw[lH (by rw[ag];exact k1),if_pos e]
  ·have:=Mx w1 k1 h.d0 (i:=i) (by rw[vq];lia) (hz i (by lia) e) c;rw[this]
 have ed:(((((Fy (pK ls ps.length t) ps.length P d).getD ps.length []).getD P 0:Int)):Rat)=d5 (pK ls ps.length t) ps.length P:=by
  have:=fc ps.length (by lia) P;rw[if_pos rfl] at this;exact this
 have lp:(ps++[P]).length=ps.length+1:=by rw[ao];rfl
 have hp:∀j,j < ps.length+1->(ps++[P]).getD j 0=if j=ps.length then P else ps.getD j 0:=λj hj=>getD_snoc hj
 refine ⟨by rw[MS,vq];exact hl,Jo w1 k1,⟨λi=>pm (iS ps.length t i),?_⟩,?_⟩
 ·rw[ed,lp];exact B2.congr hp fc
 ·rw[ed,lp];refine mL.congr (E1.step (d':=d5 (pK ls ps.length t) ps.length P) (l':=λi c=>if i=ps.length then d5 (pK ls ps.length t) ps.length c else (d5 (pK ls ps.length t) ps.length P*d5 (pK ls ps.length t) i c - d5 (pK ls ps.length t) i P*d5 (pK ls ps.length t) ps.length c) / (d:Rat)) (by lia) h1 B2.unit λi hi=>?_) hp fc;have d0:=h.el.d0;by_cases e:i=ps.length
  ·refine ⟨1,0,by decide,λ_=>rfl,λc=>?_⟩;rw[if_pos e,e];grind
  ·refine ⟨d5 (pK ls ps.length t) ps.length P / (d:Rat),-(d5 (pK ls ps.length t) i P) / (d:Rat),?_,λz=>absurd z e,λc=>?_⟩
   ·intro z;apply h1;grind
   ·rw[if_neg e];grind
theorem BY.sz (h:BY ls0 n P ls ps d) (hW:1<=W) (h0:∀i,i < ls0.length->∀c,Fr 1 W (d5 ls0 i c)) (hP:P<=n) (hr:min ls0.length n<=r) (r15:r<=15):(d.natAbs<=(16*W)^r)/\∀zs∈ls,∀z∈zs,z.natAbs<=(16*W)^r:=by
 obtain ⟨pm,B⟩:=h.bar;have kP:=h.el.kP;have km:=B.km;have hl:=h.len;have mono:∀{s t:Nat},s<=t->(16*W)^s<=(16*W)^t:=λhs=>ar (cx (by decide) hW) hs
 refine ⟨af (ui (B.dfr (W:=W) (N:=16) (by lia) h0)) (mono (by lia)),λzs hz z hz'=>?_⟩;obtain ⟨i,hi,rfl⟩:=bB hz;obtain ⟨c,hc,rfl⟩:=bB hz';have hw:=h.wide _ (aF hi)
 have ez:d5 ls i c=(((ls[i])[c]:Int):Rat):=by
  unfold d5;rw[aa (l:=ls),ae hi];show ((ls[i].getD c 0:Int):Rat)=_
  rw[aa,ae hc];rfl
 by_cases hk:i < ps.length
 ·have:Fr 1 ((16*W)^ps.length) (d5 ls i c):=by
   have hd:=B.d0;rw[B.old hk]
   have:=zG (W:=W) (N:=16) (rs:=vO pm ps.length) (vs:=KS (λj r=>d5 ls0 r (ps.getD j 0)) i ps.length++(λr=>d5 ls0 r c) :: qK (λj r=>d5 ls0 r (ps.getD j 0)) i) (by
    have:=congrArg List.length (cw_split (v:=λj r=>d5 ls0 r (ps.getD j 0)) hk);rw[ao,bA,cw_len] at this;rw[ao,bA]
    lia) (by
    intro v hv r hr
    have hr':∀c,Fr 1 W (d5 ls0 r c):=λc=>by
     obtain ⟨t,ht,rfl⟩:=oO hr;exact h0 _ (B.rng t (by lia)) c
    rcases ay.mp hv with hv | hv
    ·obtain ⟨t,_,rfl⟩:=Fv hv;exact hr' _
    ·rcases aw.mp hv with rfl | hv
     ·exact hr' _
     ·obtain ⟨t,_,rfl⟩:=cw_in hv;exact hr' _)
   rwa [rY] at this
  rw[ez] at this;exact af (ui this) (mono (by lia))
 ·by_cases hn:ps.length < n
  ·have:=B.fr (W:=W) (N:=16) (by lia) hW h0 (i:=i) (c:=c) (by lia);rw[ez] at this;exact af (ui this) (mono (by lia))
  ·have:=h.el.zero i (by lia) (by lia) c (by lia);rw[ez] at this;rw[sL this];exact aS _
end
def Tp (M W:Nat) (q:Rat):Prop:=∃z:Int,q*(M:Rat)=(z:Rat)/\z.natAbs<=W
theorem Tp.of {M V W:Nat} (h:Fr M V q) (hW:V*M<=W):Tp M W q:=by obtain ⟨z,a,b⟩:=h;exact ⟨z,a,af b hW⟩
theorem Tp.mono (h:Tp M W q) (hW:W<=W'):Tp M W' q:=by obtain ⟨z,a,b⟩:=h;exact ⟨z,a,af b hW⟩
theorem Tp.fr (h:Tp M W q) (h0:0 < M):Fr M W q:=by obtain ⟨z,a,b⟩:=h;exact ⟨z,a,af b (dP _ h0)⟩
def AZ (rows:LR9) (n w:Nat):Prop:=∃M W:Nat,0 < M/\M<=2^4300/\1<=W/\W<=2^w/\(∀xs∈rows,∀x∈xs,Tp M W x)/\w<=4300/\min rows.length n<=15/\min rows.length n*(w+4)<=8900
def iw (xs:List Rat):List Int:=dD (xs.map nm) (eJ (xs.map nm))
theorem oW:(iw xs).length=xs.length:=by unfold iw dD;rw[ag,ag]
theorem o8 {xs:List Rat}:0 < eJ (xs.map nm):=zA (by decide) λb hb=>by
 obtain ⟨n,hn,rfl⟩:=av.mp hb;obtain ⟨x,_,rfl⟩:=av.mp hn;exact gJ x
theorem Nu:(((iw xs).getD c 0:Int):Rat)=xs.getD c 0*((eJ (xs.map nm):Int):Rat):=by
 unfold iw dD;rw[aa,aa,aD,aD];cases e:xs[c]? with
 | none=>show ((0:Int):Rat)=0*_;rw[Rat.zero_mul];rfl
 | some x=>exact rh (o9 (av.mpr ⟨x,ai e,rfl⟩))
section
variable {rows:LR9} {n w i c:Nat} {xs:List Rat}
theorem we (hi:i < rows.length):d5 (rows.map iw) i c=((eJ ((rows.getD i []).map nm):Int):Rat)*bI rows i c:=by
 unfold d5 bI
 have e:(rows.map iw).getD i []=iw (rows.getD i []):=by
  rw[aa,aa,aD,ae hi];rfl
 rw[e,Nu,eB]
theorem Hu (hw:∀xs∈rows,xs.length=n) (hc:n<=c):bI rows i c=0:=by
 unfold bI;by_cases h:i < rows.length
 ·have:=hw _ (getD_in (e:=[]) h);rw[aa (l:=rows.getD i []),aH (by lia)];rfl
 ·rw[aa (l:=rows),aH (by lia)];rfl
theorem xB (i:Nat) (hi:i < rows.length):c9 rows.length (d5 (rows.map iw)) (bI rows i):=by
 have h0:((eJ ((rows.getD i []).map nm):Int):Rat)≠0:=λz=>by
  have:=o8 (xs:=rows.getD i []);have:=sL z
  lia
 refine c9.congr (λc=>?_) (c9.lin (1 / ((eJ ((rows.getD i []).map nm):Int):Rat)) 0 (c9.row (a:=d5 (rows.map iw)) hi) (c9.row (a:=d5 (rows.map iw)) hi));rw[we hi];grind
theorem xA (i:Nat) (hi:i < rows.length):c9 rows.length (bI rows) (d5 (rows.map iw) i):=by
 refine c9.congr (λc=>?_) (c9.lin ((eJ ((rows.getD i []).map nm):Int):Rat) 0 (c9.row (a:=bI rows) hi) (c9.row (a:=bI rows) hi));rw[we hi];grind
theorem pJ (h:Tp M W x):(nm x).2∣(M:Int):=by
 obtain ⟨z,e,b⟩:=h
 exact Fr.den (V:=z.natAbs) (M:=M) ⟨z,e,by
  rcases gC M with h | h
  ·subst h;have:(z:Rat)=0:=by rw[<- e];simp
   rw[sL this];simp
  ·exact dP _ h⟩
theorem tJ (h:Tp M W x) (h0:0 < M) (hB:0 < B) (d1:(nm x).2∣B) (d2:B∣(M:Int)):∃t:Int,x*(B:Rat)=(t:Rat)/\t.natAbs<=W:=by
 obtain ⟨z,e,b⟩:=h;obtain ⟨s,es⟩:=d2;refine ⟨(nm x).1*(B / (nm x).2),(rh d1).symm,?_⟩
 have s0:0 < s:=by
  rcases Int.lt_trichotomy s 0 with h | h | h
  ·have:=ux hB h
   lia
  ·rw[h] at es;lia
  ·exact h
 have e2:(((nm x).1*(B / (nm x).2)*s:Int):Rat)=(z:Rat):=by
  rw[aM,rh d1,<- e,<- aP,es,aM];grind
 have e3:=dj.mp e2;have:((nm x).1*(B / (nm x).2)).natAbs*s.natAbs=z.natAbs:=by rw[<- eC,e3]
 have h1:1<=s.natAbs:=by lia
 have:=dP ((nm x).1*(B / (nm x).2)).natAbs h1
 lia
theorem xS (h0:0 < M) (h:∀x∈xs,Tp M W x):eJ (xs.map nm)∣(M:Int):=xN (by decide) (Int.one_dvd _) λb hb=>by
 obtain ⟨n,hn,rfl⟩:=av.mp hb;obtain ⟨x,hx,rfl⟩:=av.mp hn;exact ⟨gJ x,pJ (h x hx)⟩
theorem AZ.rowM (F:AZ rows n w) (hx:xs∈rows):∃M,FW M (xs.map nm):=by
 obtain ⟨M,W,h0,h1,hW,h2,h3,h4,_⟩:=F;refine ⟨M,by lia,?_,λy hy=>?_⟩
 ·show ((M:Nat):Int).natAbs < 2^4400
  rw[bX];exact aK h1 (de (by decide) (by decide))
 ·obtain ⟨x,hx',rfl⟩:=av.mp hy;have t:=h3 xs hx x hx';refine ⟨gJ x,pJ t,?_⟩;obtain ⟨s,e,b⟩:=tJ t h0 (gJ x) (xZ _) (pJ t);have e2:(((nm x).1:Int):Rat)=(s:Rat):=by rw[<- e];exact kK x
  rw[dj.mp e2];exact aK (af b h2) (de (by decide) (by lia))
theorem AZ.ent (F:AZ rows n w):∃W:Nat,1<=W/\W<=2^w/\∀i,i < (rows.map iw).length->∀c,Fr 1 W (d5 (rows.map iw) i c):=by
 obtain ⟨M,W,h0,h1,hW,h2,h3,h4,_⟩:=F;refine ⟨W,hW,h2,λi hi c=>?_⟩;rw[ag] at hi;have hx:=getD_in (e:=[]) hi;rw[we hi];unfold bI;generalize rows.getD i []=xs at hx ⊢;by_cases hc:c < xs.length
 ·have t:=h3 xs hx _ (getD_in (e:=0) hc);obtain ⟨s,e,b⟩:=tJ t h0 (o8 (xs:=xs)) (o9 (av.mpr ⟨_,getD_in (e:=0) hc,rfl⟩)) (xS h0 (h3 xs hx));rw[eB,e];exact Fr.int b
 ·rw[aa,aH (by lia)];show Fr 1 W (_*0)
  rw[oq];exact Fr.zero
end
def bF (rows:LR9) (n:Nat) (R:LR9) (ps:List Nat):Prop:=R.length=ps.length/\(∀xs∈R,xs.length=n)/\BZ rows.length n (bI rows) ps.length (λj=>ps.getD j 0) (bI R)
structure Uj (rows:LR9) (n w:Nat) (R:LR9) (ps:List Nat) (d:Int) (ls:List (List Int)):Prop where
 rr:bF rows n R ps
 d0:d≠0
 len:ls.length=ps.length
 wide:∀zs∈ls,zs.length=n
 val:∀i c,d5 ls i c=(d:Rat)*bI R i c
 dsz:d.natAbs<=2^(min rows.length n*(w+4))
 zsz:∀zs∈ls,∀z∈zs,z.natAbs<=2^(min rows.length n*(w+4))
 tp:∀xs∈R,∀x∈xs,Tp d.natAbs (2^(min rows.length n*(w+4))) x
 km:ps.length<=rows.length
theorem BZ.congrR {a R R2:Nat->Nat->Rat} (h:BZ m n a k p R) (hr:∀i,i < k->∀c,R2 i c=R i c):BZ m n a k p R2 :=
 ⟨h.inc,h.low,λi hi j hj=>by rw[hr i hi];exact h.unit i hi j hj,λi hi c hc=>by rw[hr i hi];exact h.lead i hi c hc,λi hi=>(h.span i hi).rows hr,λi hi=>(h.back i hi).congr λc=>(hr i hi c).symm⟩
theorem BZ.other (h:BZ m n a k p R) (s1:∀i,i < m->c9 m' a' (a i)) (s2:∀i,i < m'->c9 m a (a' i)):BZ m' n a' k p R :=
 ⟨h.inc,h.low,h.unit,h.lead,λi hi=>c9.trans h.span (s2 i hi),λi hi=>c9.trans s1 (h.back i hi)⟩
theorem vQ (h:W<=2^w):(16*W)^r<=2^(r*(w+4)):=by
 calc (16*W)^r<=(2^(w+4))^r:=lO (by rw[bT];lia) _
  _=2^(r*(w+4)):=by rw[<- ve,aX]
theorem BY.done (h:BY (rows.map iw) n n ls ps d) (hw:∀xs∈rows,xs.length=n) (F:AZ rows n w) :
  ∃R,Uj rows n w R ps d (ls.take ps.length):=by
 obtain ⟨W,hW,W2,ent⟩:=F.ent;obtain ⟨_,_,_,_,_,_,_,_,r15,_⟩:=F;have hl:=h.len;have d0:=h.d0;have d0':(d:Rat)≠0:=λz=>d0 (sL z)
 have km:=h.el.km;have hm:(rows.map iw).length=rows.length:=ag ..;obtain ⟨s1,s2⟩:=h.sz (r:=min rows.length n) hW ent (ah _) (by rw[hm];exact ah _) r15;have s2':∀zs∈ls,∀z∈zs,z.natAbs<=2^(min rows.length n*(w+4)):=λzs hz z hz'=>af (s2 zs hz z hz') (vQ W2)
 have er:∀i c,bI ((ls.take ps.length).map λzs=>zs.map λ(z:Int)=>(z:Rat) / (d:Rat)) i c=d5 (ls.take ps.length) i c / (d:Rat):=λi c=>by
  unfold bI d5;rw[aa (l:=List.map _ _),aD,aa (l:=List.take _ _)];cases e:(ls.take ps.length)[i]? with
  | none=>show (0:Rat)=((0:Int):Rat) / _;grind
  | some zs =>
   show (zs.map λ(z:Int)=>(z:Rat) / (d:Rat)).getD c 0=((zs.getD c 0:Int):Rat) / (d:Rat)
   rw[aa,aa,aD];cases e2:zs[c]? with
   | none=>show (0:Rat)=((0:Int):Rat) / _;grind
   | some z=>rfl
 have et:∀i,i < ps.length->∀c,d5 (ls.take ps.length) i c=d5 ls i c:=λi hi c=>by
  unfold d5;rw[aa (l:=List.take _ _),mi hi,<- aa]
 have RR:=(h.el.done λi hi c hc=>uj (n:=n) (λzs hz=>by
  obtain ⟨xs,hx,rfl⟩:=av.mp hz;rw[oW];exact hw xs hx) hc).congrR (R2:=bI ((ls.take ps.length).map λzs=>zs.map λ(z:Int)=>(z:Rat) / (d:Rat))) λi hi c=>by rw[er,et i hi]
 rw[hm] at RR;refine ⟨(ls.take ps.length).map λzs=>zs.map λ(z:Int)=>(z:Rat) / (d:Rat),⟨by rw[ag,bh];lia,λxs hx=>?_,RR.other xA xB⟩,d0,by rw[bh];lia,λzs hz=>h.wide zs (bU hz),λi c=>?_,af s1 (vQ W2),λzs hz=>s2' zs (bU hz),λxs hx x hx'=>?_,by lia⟩
 ·obtain ⟨zs,hz,rfl⟩:=av.mp hx;rw[ag];exact h.wide zs (bU hz)
 ·rw[er];grind
 ·obtain ⟨zs,hz,rfl⟩:=av.mp hx;obtain ⟨z,hz',rfl⟩:=av.mp hx';have b:=s2' zs (bU hz) z hz';rcases F4 d with e | e
  ·refine ⟨z,?_,b⟩;have:((d.natAbs:Nat):Rat)=(d:Rat):=by rw[<- aP,<- e]
   rw[this];grind
  ·refine ⟨-z,?_,by rw[ko];exact b⟩;have:((d.natAbs:Nat):Rat)=-(d:Rat):=by rw[<- aP,<- cX];congr 1;lia
   rw[this,cX];grind
theorem Mu (hl:R.length=R'.length) (w1:∀xs∈R,xs.length=n) (w2:∀xs∈R',xs.length=n) (h:∀i,i < R.length->∀c,bI R i c=bI R' i c):R=R':=by
 apply gh hl;intro i h1 h2;apply gh (by rw[w1 _ (aF h1),w2 _ (aF h2)]);intro c h3 h4;have:=h i h1 c;unfold bI at this;rw[aa (l:=R),aa (l:=R'),ae h1,ae h2] at this;have this:(R[i]).getD c 0=(R'[i]).getD c 0:=this;rw[aa,aa,ae h3,ae h4] at this;exact this
theorem bF.uniq (h:bF rows n R ps) (h':bF rows' n R' ps') (s1:∀i,i < rows.length->c9 rows'.length (bI rows') (bI rows i)) (s2:∀i,i < rows'.length->c9 rows.length (bI rows) (bI rows' i)):R=R'/\ps=ps':=by
 obtain ⟨l1,w1,r1⟩:=h;obtain ⟨l2,w2,r2⟩:=h';obtain ⟨ek,ep,eR⟩:=r1.uniq r2 s1 s2;refine ⟨Mu (by lia) w1 w2 λi hi c=>eR i (by lia) c,?_⟩;apply gh ek;intro j h1 h2;have:=ep j h1;rw[aa,aa,ae h1,ae h2] at this;exact this
theorem bF.same (h:bF rows n R ps) (h':bF rows n R' ps'):R=R'/\ps=ps':=h.uniq h' (λ_ hi=>c9.row hi) (λ_ hi=>c9.row hi)
open PySem PySem.Spec PyProof.Rows
def Jt (l:Addr) (H:Hp) (zs:List Int) (v:V):Prop:=∃q,v=V.ref q/\q≠l/\H q=some (.lst (zs.map V.int))
def sR (l:Addr) (H:Hp) (p:Addr) (ls:List (List Int)):Prop:=p≠l/\∃xs,H p=some (.lst xs)/\Paired (Jt l H) ls xs
theorem Jt.same (h:Jt l H zs v) (e:aA H H'):Jt l H' zs v:=by obtain ⟨q,a,n,b⟩:=h;exact ⟨q,a,n,e _ _ b⟩
theorem Jt.upd {l:Addr} {H:Hp} {zs:List Int} {v:V} {o:HO} (h:Jt l H zs v):Jt l (upd H l o) zs v:=by obtain ⟨q,a,n,b⟩:=h;exact ⟨q,a,n,by rw[aJ n];exact b⟩
theorem sR.upd {l:Addr} {H:Hp} {p:Addr} {ls:List (List Int)} {o:HO} (h:sR l H p ls):sR l (upd H l o) p ls:=by obtain ⟨n,xs,a,b⟩:=h;exact ⟨n,xs,by rw[aJ n];exact a,Paired.imp' (λ_ _ z=>z.upd) b⟩
theorem ne_old {H:Hp} (h:H l≠none) (n:H r=none):r≠l:=λz=>h (by rw[<- z];exact n)
theorem gI {α β:Type} {F:α->β->Prop}:∀{l1:List α} {l2:List β} (_:Paired F l1 l2) (i:Nat) {x:α} {y:β},F x y->Paired F (l1.set i x) (l2.set i y)
 | _,_,.nil,_,_,_,_=>.nil
 | _,_,.cons _ r,0,_,_,h=>.cons h r
 | _,_,.cons a r,i+1,_,_,h=>.cons a (gI r i h)
theorem P1 (h:ls[i]?=some zs):d5 ls i c=((zs.getD c 0:Int):Rat):=by
 unfold d5;rw[aa (l:=ls),h];rfl
theorem TX:((z:Int):Rat)≠0↔z≠0:=⟨λh e=>h (by rw[e];rfl),λh e=>h (sL e)⟩
theorem D9 {zs:List Int} (h:c < zs.length):F6 (zs.map V.int) (c:Int)=some (V.int (zs.getD c 0)):=dE (by rw[aD,aa,ae h];rfl)
inductive Bq (vs:List V) (H:Hp) (Q:VK) (E9:XK):Prop
 | mk (l p:Addr) (ls:List (List Int)) (b c:Nat):vs=[.ref p,.int b,.int c]->sR l H p ls->ls.length<=1000->b<=1000->(∀zs∈ls,c < zs.length)->(∀t:Nat,b<=t->t < ls.length->d5 ls t c≠0->Q (.int t) H)->((∀t,b<=t->t < ls.length->d5 ls t c=0)->Q .non H)->Bq  vs H Q E9
inductive wA (vs:List V) (H:Hp) (Q:VK) (E9:XK):Prop
 | mk (l p:Addr) (ls:List (List Int)) (t k:Nat):vs=[.ref p,.int t,.int k]->H l≠none->sR l H p ls->ls.length<=1000->t < ls.length->k < ls.length->(∀r H',H r=none->aA H H'->sR l H' r (pK ls k t)->Q (.ref r) H')->wA  vs H Q E9
inductive Br (vs:List V) (H:Hp) (Q:VK) (E9:XK):Prop
 | mk (l p:Addr) (ls:List (List Int)) (k c n:Nat) (b:Int):vs=[.ref p,.int k,.int c,.int b]->H l≠none->sR l H p ls->ls.length<=1000->k < ls.length->(∀zs∈ls,zs.length=n)->n<=1000->c < n->b≠0->Sz 8999 b->(∀zs∈ls,∀z∈zs,Sz 8999 z)->(∀r H',H r=none->aA H H'->sR l H' r (Fy ls k c b)->Q (.ref r) H')->Br  vs H Q E9
theorem LN (K:FG9) {X:Cx} {a b:Expr} {ta:TA} {p pos tpos:Pos} {elts:List Expr} {kk:Nat} (hg:Gl X "zip") (hm:X.mg "zip"=none) (ha:PA X [a,b] ta) (hK:X.K=K:=by rfl) (hs:starEach [a,b] X.env=[(false,eval a X.env),(false,eval b X.env)]:=by rfl) (hs2:starEach [b] X.env=[(false,eval b X.env)]:=by rfl) :
  PI X (.Tuple elts kk tpos) (.Call (.Name "zip" p) [a,b] [] pos) (Q9 K ta):=by subst hK;exact nW hg hm ha hs hs2
def dM (ps:List Nat):List V:=ps.map λ(j:Nat)=>V.int (j:Int)
inductive Bf (K:FG9) (vs:List V) (H:Hp) (Q:VK) (E9:XK):Prop
 | mk (p:Addr) (n w:Nat) (H0:Hp) (rows:LR9):vs=[.ref p,.int n]->bx K H0 H p rows->rows.length<=100->n<=100->(∀xs∈rows,xs.length=n)->AZ rows n w->(∀t lp qp R ps d ls H',H' t=some (.tup [.ref lp,.ref qp])->H' qp=some (.lst (dM ps))->sR qp H' lp ls->aA H H'->Uj rows n w R ps d ls->Q (.ref t) H')->Bf K vs H Q E9
inductive wu (K:FG9) (vs:List V) (H:Hp) (Q:VK) (E9:XK):Prop
 | mk (p:Addr) (n w:Nat) (H0:Hp) (rows:LR9):vs=[.ref p,.int n]->bx K H0 H p rows->rows.length<=100->n<=100->(∀xs∈rows,xs.length=n)->AZ rows n w->(∀r R ps M H',H r=none->aA H H'->bx K H H' r R->bF rows n R ps->ps.length<=rows.length->0 < M->M<=2^(min rows.length n*(w+4))->(∀xs∈R,∀x∈xs,Tp M (2^(min rows.length n*(w+4))) x)->Q (.ref r) H')->wu K vs H Q E9
def xo (rows:LR9) (i:Nat):Rat:=((eJ ((rows.getD i []).map nm):Int):Rat)
theorem u9:xo rows i≠0:=λz=>by
 have:=o8 (xs:=rows.getD i []);have:=sL z
 lia
structure FY (rows:LR9) (n P:Nat) (rs:LR9) (ps:List Nat):Prop where
 len:rs.length=rows.length
 wide:∀xs∈rs,xs.length=n
 ex:∃pm l d,xy (d5 (rows.map iw)) rows.length ps.length pm (λj=>ps.getD j 0) l d/\mL (d5 (rows.map iw)) rows.length ps.length P (λj=>ps.getD j 0) l d/\∀i,i < rows.length->∀c,bI rs i c=l i c / (d*if i < ps.length then 1 else xo rows (pm i))
section
variable {rows rs rs':LR9} {n P w a:Nat} {ps:List Nat}
theorem L7 {k i j:Nat} (h:d≠0):d*(if i < k then 1 else xo rows j)≠0:=by
 have:=u9 (rows:=rows) (i:=j)
 split <;> grind
theorem FY.start (hw:∀xs∈rows,xs.length=n):FY rows n 0 rows []:=⟨rfl,hw,λi=>i,d5 (rows.map iw),1,xy.start λ_ _=>rfl,mL.start,λi hi c=>by
 rw[we hi,if_neg (by show ¬i < 0;lia)];have:=u9 (rows:=rows) (i:=i);show bI rows i c=xo rows i*bI rows i c / (1*xo rows i)
 grind⟩
theorem FY.skip (h:FY rows n P rs ps) (hz:∀i,ps.length<=i->i < rs.length->bI rs i P=0):FY rows n (P+1) rs ps:=by
 obtain ⟨len,wide,pm,l,d,B,E,v⟩:=h;refine ⟨len,wide,pm,l,d,B,E.skip λi h1 h2=>?_,v⟩;have:=v i h2 P;rw[hz i h1 (by lia)] at this;have ne:=L7 (rows:=rows) (i:=i) (j:=pm i) (k:=ps.length) B.d0;generalize d*(if i < ps.length then 1 else xo rows (pm i))=D at this ne;grind
theorem FY.km (h:FY rows n P rs ps):ps.length<=rows.length/\ps.length<=P:=by obtain ⟨_,_,_,_,_,_,E,_⟩:=h;exact ⟨E.km,E.kP⟩
theorem FY.step (h:FY rows n P rs ps) (ht:ps.length<=t) (ht2:t < rs.length) (hne:bI rs t P≠0) (l':rs'.length=rows.length) (w':∀xs∈rs',xs.length=n)
  (hv:∀i,i < rows.length->∀c,bI rs' i c=if i=ps.length then 1 / bI rs t P*bI rs t c else bI rs (iS ps.length t i) c - bI rs (iS ps.length t i) P*(1 / bI rs t P*bI rs t c)):FY rows n (P+1) rs' (ps++[P]):=by
 obtain ⟨len,wide,pm,l,d,B,E,v⟩:=h;have hk:ps.length < rows.length:=by lia
 have B1:=B.swap ht (by lia);have E1:=E.swap ht (by lia);have d0:=B.d0
 have v1:∀i,i < rows.length->∀c,bI rs (iS ps.length t i) c=l (iS ps.length t i) c / (d*if i < ps.length then 1 else xo rows (pm (iS ps.length t i))):=λi hi c=>by
  rw[v _ (nQ hk (by lia) hi) c];by_cases z:i < ps.length
  ·rw[tK ht z,if_pos z]
  ·rw[if_neg z,if_neg (by have:=uC ht (show ps.length<=i by lia);lia)]
 have sk:iS ps.length t ps.length=t:=by unfold iS;rw[if_pos rfl]
 have vt:∀c,bI rs t c=l (iS ps.length t ps.length) c / (d*xo rows (pm (iS ps.length t ps.length))):=λc=>by
  have:=v1 ps.length hk c;rw[if_neg (by lia),sk] at this;rw[sk];exact this
 have bt:=u9 (rows:=rows) (i:=pm (iS ps.length t ps.length));have h1:l (iS ps.length t ps.length) P≠0:=λz=>hne (by rw[vt P,z];grind)
 have B2:=B1.step (c0:=P) hk h1;have lp:(ps++[P]).length=ps.length+1:=by rw[ao];rfl
 have hp:∀j,j < ps.length+1->(ps++[P]).getD j 0=if j=ps.length then P else ps.getD j 0:=λj hj=>getD_snoc hj
 refine ⟨l',w',λi=>pm (iS ps.length t i),_,_,by rw[lp];exact B2.congr (l2:=λi c=>if i=ps.length then l (iS ps.length t ps.length) c else (l (iS ps.length t ps.length) P*l (iS ps.length t i) c - l (iS ps.length t i) P*l (iS ps.length t ps.length) c) / d) hp (λ_ _ _=>rfl),?_,λi hi c=>?_⟩
 ·rw[lp];refine mL.congr (E1.step (d':=l (iS ps.length t ps.length) P) (l':=λi c=>if i=ps.length then l (iS ps.length t ps.length) c else (l (iS ps.length t ps.length) P*l (iS ps.length t i) c - l (iS ps.length t i) P*l (iS ps.length t ps.length) c) / d) hk h1 B2.unit λi hi=>?_) hp (λ_ _ _=>rfl);by_cases e:i=ps.length
  ·refine ⟨1,0,by decide,λ_=>rfl,λc=>?_⟩;rw[if_pos e,e];grind
  ·refine ⟨l (iS ps.length t ps.length) P / d,-(l (iS ps.length t i) P) / d,?_,λz=>absurd z e,λc=>?_⟩
   ·intro z;apply h1;grind
   ·rw[if_neg e];grind
 ·rw[hv i hi c,lp,vt c,vt P];by_cases e:i=ps.length
  ·rw[if_pos e,if_pos e,if_pos (by lia)];grind
  ·rw[if_neg e,if_neg e,v1 i hi c,v1 i hi P];have ne:=L7 (rows:=rows) (i:=i) (j:=pm (iS ps.length t i)) (k:=ps.length) d0;by_cases z:i < ps.length
   ·rw[if_pos z,if_pos (by lia)];grind
   ·have bi:=u9 (rows:=rows) (i:=pm (iS ps.length t i));rw[if_neg z,if_neg (by lia)];grind
theorem FY.done (h:FY rows n n rs ps) (hw:∀xs∈rows,xs.length=n):bF rows n (rs.take ps.length) ps:=by
 obtain ⟨len,wide,pm,l,d,B,E,v⟩:=h;have km:=E.km;refine ⟨by rw[bh];lia,λxs hx=>wide xs (bU hx),BZ.other ((E.done λi hi c hc=>?_).congrR λi hi c=>?_) xA xB⟩
 ·exact uj (n:=n) (λzs hz=>by
   obtain ⟨xs,hx,rfl⟩:=av.mp hz;rw[oW];exact hw xs hx) hc
 ·have e:bI (rs.take ps.length) i c=bI rs i c:=by
   unfold bI;rw[aa (l:=List.take _ _),mi hi,<- aa]
  rw[e,v i (by lia) c,if_pos hi,Rat.mul_one]
def PR (rows:LR9) (n w a:Nat):Prop:=∃M W:Nat,0 < M/\M<=2^a/\1<=W/\W<=2^w/\(∀xs∈rows,∀x∈xs,Tp M W x)/\min rows.length n<=15/\2*(min rows.length n*(w+4)+a)<=3990
theorem PR.ent (F:PR rows n w a):∃W:Nat,1<=W/\W<=2^w/\∀i,i < rows.length->∀c,Fr 1 W (d5 (rows.map iw) i c):=by
 obtain ⟨M,W,h0,h1,hW,h2,h3,_⟩:=F;refine ⟨W,hW,h2,λi hi c=>?_⟩;have hx:=getD_in (e:=[]) hi;rw[we hi];unfold bI;generalize rows.getD i []=xs at hx ⊢;by_cases hc:c < xs.length
 ·have t:=h3 xs hx _ (getD_in (e:=0) hc);obtain ⟨s,e,b⟩:=tJ t h0 (o8 (xs:=xs)) (o9 (av.mpr ⟨_,getD_in (e:=0) hc,rfl⟩)) (xS h0 (h3 xs hx));rw[eB,e];exact Fr.int b
 ·rw[aa,aH (by lia)];show Fr 1 W (_*0)
  rw[oq];exact Fr.zero
theorem PR.bot (F:PR rows n w a) (hi:i < rows.length):∃b:Nat,0 < b/\b<=2^a/\xo rows i=(b:Rat):=by
 obtain ⟨M,W,h0,h1,hW,h2,h3,_⟩:=F;have hx:=getD_in (e:=[]) hi;have p:=o8 (xs:=rows.getD i []);have dv:=xS h0 (h3 _ hx);refine ⟨(eJ ((rows.getD i []).map nm)).natAbs,by lia,af (jA h0 ?_) h1,?_⟩
 ·have:=eQ.mpr dv;rwa [bX] at this
 ·unfold xo;rw[<- aP];congr 1
  lia
theorem Qb {z y:Int} (hl:l=(z:Rat)) (hD:D=(y:Rat)) (h0:D≠0) (hz:z.natAbs<=W):Tp y.natAbs W (l / D):=by
 rcases F4 y with e | e
 ·refine ⟨z,?_,hz⟩;have:((y.natAbs:Nat):Rat)=D:=by rw[<- aP,<- e,hD]
  rw[this,hl];grind
 ·refine ⟨-z,?_,by rw[ko];exact hz⟩;have:((y.natAbs:Nat):Rat)=-D:=by rw[<- aP,hD,<- cX];congr 1;lia
  rw[this,hl,cX];grind
theorem FY.sz (h:FY rows n P rs ps) (F:PR rows n w a) (hP:P<=n) (hi:i < rows.length):∃D:Nat,0 < D/\D<=2^(min rows.length n*(w+4)+a)/\∀c,Tp D (2^(min rows.length n*(w+4))) (bI rs i c):=by
 obtain ⟨len,wide,pm,l,d,B,E,v⟩:=h;obtain ⟨W,hW,W2,ent⟩:=F.ent;obtain ⟨_,_,_,_,_,_,_,r15,_⟩:=id F;have kP:=E.kP;have km:=B.km;have mono:∀{s t:Nat},s<=t->(16*W)^s<=(16*W)^t:=λhs=>ar (cx (by decide) hW) hs
 obtain ⟨y,ey⟩:=uW (B.dfr (W:=W) (N:=16) (by lia) ent);have hy:=B.dfr (W:=W) (N:=16) (by lia) ent;rw[ey] at hy;have yb:y.natAbs<=2^(min rows.length n*(w+4)):=af (ui hy) (af (mono (show ps.length<=min rows.length n by lia)) (vQ W2));have y0:y≠0:=λz=>B.d0 (by rw[ey,z];rfl)
 have lb:∀c,∃z:Int,l i c=(z:Rat)/\z.natAbs<=2^(min rows.length n*(w+4)):=λc=>by
  by_cases hk:i < ps.length
  ·have f:Fr 1 ((16*W)^ps.length) (l i c):=by
    rw[B.old hk]
    have:=zG (W:=W) (N:=16) (rs:=vO pm ps.length) (vs:=KS (λj r=>d5 (rows.map iw) r (ps.getD j 0)) i ps.length++(λr=>d5 (rows.map iw) r c) :: qK (λj r=>d5 (rows.map iw) r (ps.getD j 0)) i) (by
     have:=congrArg List.length (cw_split (v:=λj r=>d5 (rows.map iw) r (ps.getD j 0)) hk);rw[ao,bA,cw_len] at this;rw[ao,bA]
     lia) (by
     intro v hv r hr
     have hr':∀c,Fr 1 W (d5 (rows.map iw) r c):=λc=>by
      obtain ⟨t,ht,rfl⟩:=oO hr;exact ent _ (B.rng t (by lia)) c
     rcases ay.mp hv with hv | hv
     ·obtain ⟨t,_,rfl⟩:=Fv hv;exact hr' _
     ·rcases aw.mp hv with rfl | hv
      ·exact hr' _
      ·obtain ⟨t,_,rfl⟩:=cw_in hv;exact hr' _)
    rwa [rY] at this
   obtain ⟨z,ez⟩:=uW f;rw[ez] at f;exact ⟨z,ez,af (ui f) (af (mono (by lia)) (vQ W2))⟩
  ·by_cases hn:ps.length < n
   ·have f:=B.fr (W:=W) (N:=16) (by lia) hW ent (i:=i) (c:=c) hi;obtain ⟨z,ez⟩:=uW f;rw[ez] at f;exact ⟨z,ez,af (ui f) (af (mono (by lia)) (vQ W2))⟩
   ·refine ⟨0,?_,aS _⟩;by_cases hc:c < n
    ·rw[E.zero i (by lia) hi c (by lia)];rfl
    ·have:=v i hi c;rw[Hu wide (by lia)] at this;have ne:=L7 (rows:=rows) (i:=i) (j:=pm i) (k:=ps.length) B.d0;generalize d*(if i < ps.length then 1 else xo rows (pm i))=D at this ne;show l i c=0
     grind
 obtain ⟨b,b0,b1,eb⟩:∃b:Nat,0 < b/\b<=2^a/\(if i < ps.length then 1 else xo rows (pm i))=(b:Rat):=by
  by_cases hk:i < ps.length
  ·exact ⟨1,by decide,bK,by rw[if_pos hk];rfl⟩
  ·obtain ⟨b,x1,x2,x3⟩:=F.bot (B.rng i hi);exact ⟨b,x1,x2,by rw[if_neg hk,x3]⟩
 have eD:d*(b:Rat)=((y*b:Int):Rat):=by rw[aM,ey,aP]
 refine ⟨(y*b).natAbs,?_,?_,λc=>?_⟩
 ·rw[eC,bX];exact cx (by lia) b0
 ·rw[eC,bX,bT];exact aZ yb b1
 ·obtain ⟨z,ez,bz⟩:=lb c;rw[v i hi c,eb];refine Qb ez eD (λq=>?_) bz;rw[eD] at q;have:=sL q;rcases Int.mul_eq_zero.mp this with q | q
  ·exact y0 q
  ·lia
end
theorem oA (h:Tp M W x) (h0:0 < M) (h1:M<=2^3995) (h2:W<=2^3995):kd x:=by
 refine ⟨?_,?_⟩
 ·obtain ⟨s,e,b⟩:=tJ h h0 (gJ x) (xZ _) (pJ h);have e2:(((nm x).1:Int):Rat)=(s:Rat):=by rw[<- e];exact kK x
  rw[dj.mp e2];exact aK (af b h2) (de (by decide) (by decide))
 ·have:=jA h0 (nN.mp (pJ h));show ((x.den:Nat):Int).natAbs < _
  rw[bX];exact aK (af this h1) (de (by decide) (by decide))
theorem Tp.mul (h:Tp M W x) (h':Tp M' W' y):Tp (M*M') (W*W') (x*y):=by
 obtain ⟨z,e,b⟩:=h;obtain ⟨z',e',b'⟩:=h';refine ⟨z*z',?_,by rw[eC];exact aZ b b'⟩;rw[aM,<- e,<- e',qY];grind
theorem Nw (h:kd x) (h0:x≠0):kd (1 / x):=by
 have n0:x.num≠0:=λz=>h0 (Rat.num_eq_zero.mp z)
 have e:=kK x;have e1:(1 / x)*(x.num:Rat)=(x.den:Rat):=by rw[e];grind
 have t:Tp x.num.natAbs x.den (1 / x):=by
  rcases F4 x.num with q | q
  ·refine ⟨x.den,?_,by simp⟩;have:((x.num.natAbs:Nat):Rat)=(x.num:Rat):=by rw[<- aP,<- q]
   rw[this,e1,aP]
  ·refine ⟨-(x.den:Int),?_,by simp⟩;have:((x.num.natAbs:Nat):Rat)=-(x.num:Rat):=by rw[<- aP,<- cX];congr 1;lia
   rw[this,cX,aP,<- e1];grind
 obtain ⟨h1,h2⟩:=h;have h1:x.num.natAbs < 2^4000:=h1;have h2:((x.den:Nat):Int).natAbs < 2^4000:=h2;rw[bX] at h2;refine ⟨?_,?_⟩
 ·obtain ⟨s,e,b⟩:=tJ t (by lia) (gJ (1 / x)) (xZ _) (pJ t);have e2:(((nm (1 / x)).1:Int):Rat)=(s:Rat):=by rw[<- e];exact kK (1 / x)
  rw[dj.mp e2];exact aK b h2
 ·have:=jA (show 0 < x.num.natAbs by lia) (nN.mp (pJ t));show (((1 / x).den:Nat):Int).natAbs < _
  rw[bX];exact aK this h1
theorem IG {K:FG9} {H H':Hp} {L:Addr}:∀{rows:LR9} {ys:List V},Paired (cS K H H') rows ys->V.ref L∉ys->Paired (λxs x=>∃q,x=V.ref q/\H q=none/\q≠L/\c7 K H' q xs) rows ys
 | _,_,.nil,_=>.nil
 | _,_,.cons ⟨q,a,b,c⟩ r,n=>.cons ⟨q,a,b,λz=>n (by rw[a,z];exact .head _),c⟩ (IG r λz=>n (.tail _ z))
def fq (K:FG9) (H:Hp) (l:Addr) (H':Hp) (xs:List Rat) (x:V):Prop:=∃q,x=V.ref q/\H q=none/\q≠l/\c7 K H' q xs
section
variable {K:FG9} {H H' H2:Hp} {l:Addr} {xs:List Rat} {x:V}
theorem fq.same (h:fq K H l H' xs x) (e:aA H' H2):fq K H l H2 xs x:=by obtain ⟨q,a,b,c,d⟩:=h;exact ⟨q,a,b,c,d.same e⟩
theorem fq.upd {ys:List V} {o:HO} (h:fq K H l H' xs x) (hl:H' l=some (.lst ys)):fq K H l (upd H' l o) xs x:=by obtain ⟨q,a,b,c,d⟩:=h;exact ⟨q,a,b,c,d.updL hl c⟩
theorem fq.rowF (h:fq K H l H' xs x):cS K H H' xs x:=by obtain ⟨q,a,b,_,d⟩:=h;exact ⟨q,a,b,d⟩
end
inductive yr (K:FG9) (vs:List V) (H:Hp) (Q:VK) (E9:XK):Prop
 | mk (u v:V) (x y:Rat):vs=[u,v]->cf K H x u->cf K H y v->kd x->kd y->y≠0->(∀r H',aA H H'->cf K H' (x / y) (.ref r)->Q (.ref r) H')->yr K vs H Q E9
theorem EK {K:FG9} (h:yr K vs H Q E):Nz K vs H Q E:=by
 obtain ⟨u,v,x,y,rfl,⟨p,rfl,hp⟩,⟨q,rfl,hq⟩,⟨s1,s2⟩,⟨s3,s4⟩,y0,k⟩:=h;have n0:(nm y).1≠0:=λz=>y0 (Rat.num_eq_zero.mp z)
 have px:=gJ x;have py:=gJ y;have e1:=qB x;have e2:=qB y;have dx:(((nm x).2:Int):Rat)≠0:=λz=>by have:=sL z;lia
 have dy:(((nm y).2:Int):Rat)≠0:=λz=>by have:=sL z;lia
 refine ⟨p,q,_,_,_,_,rfl,hp,hq,px,py,n0,s1,s2,s3,s4,λr H' s g=>k r H' s (cf.mk g ?_)⟩;by_cases hc:(nm y).1 < 0
 ·rw[if_pos hc,if_pos hc];refine qF (by have:=ux px hc;lia) ?_;rw[zZ,zZ,aM,aM,e1,e2];show x / y*(((0:Int):Rat) - _)=((0:Int):Rat) - _
  grind
 ·rw[if_neg hc,if_neg hc];refine qF (fw px (by lia)) ?_;rw[aM,aM,e1,e2];grind
inductive vw (K:FG9) (vs:List V) (H:Hp) (Q:VK) (E9:XK):Prop
 | mk (p q:Addr) (xs ys:List Rat):vs=[.ref p,.ref q]->c7 K H p xs->c7 K H q ys->ys.length=xs.length->xs.length<=1000->(∀x∈xs,kd x)->(∀y∈ys,kd y)->(∀r H',H r=none->aA H H'->c7 K H' r (List.zipWith (λx y=>x - y) xs ys)->Q (.ref r) H')->vw K vs H Q E9
def A5 (xs:List Rat) (P:Nat):List Rat:=xs.map λy=>1 / xs.getD P 0*y
def Fc (rs:LR9) (k t P:Nat):LR9:=(List.range rs.length).map λi=>if i=k then A5 (rs.getD t []) P else List.zipWith (λx y=>x - y) (rs.getD (iS k t i) []) ((A5 (rs.getD t []) P).map λy=>(rs.getD (iS k t i) []).getD P 0*y)
theorem Rf {xs ys:List Rat} (h:xs.length=ys.length):(List.zipWith (λx y=>x - y) xs ys).getD c 0=xs.getD c 0 - ys.getD c 0:=by
 rw[aa,aa,aa,bW];by_cases hc:c < xs.length
 ·rw[ae hc,ae (show c < ys.length by lia)];rfl
 ·rw[aH (by lia),aH (by lia)];show (0:Rat)=0 - 0
  grind
theorem Mq {xs:List Rat}:(xs.map λy=>q*y).getD c 0=q*xs.getD c 0:=by
 rw[aa,aa,aD];cases xs[c]? with
 | none=>show (0:Rat)=q*0;grind
 | some x=>rfl
theorem Ru:(Fc rs k t P).length=rs.length:=by unfold Fc;rw[ag,cm]
theorem PJ (hi:i < rs.length):(Fc rs k t P).getD i []=if i=k then A5 (rs.getD t []) P else List.zipWith (λx y=>x - y) (rs.getD (iS k t i) []) ((A5 (rs.getD t []) P).map λy=>(rs.getD (iS k t i) []).getD P 0*y):=by
 unfold Fc;rw[aa,aD,cy hi];rfl
theorem OG (w:∀xs∈rs,xs.length=n) (hk:k < rs.length) (ht:t < rs.length):∀xs∈Fc rs k t P,xs.length=n:=λxs hx=>by
 obtain ⟨i,hi,rfl⟩:=av.mp hx;have hi:=iU.mp hi;have wt:=w _ (getD_in (e:=[]) ht)
 split
 ·unfold A5;rw[ag];exact wt
 ·rw[aV,ag,w _ (getD_in (nQ hk ht hi))];unfold A5;rw[ag,wt]
  lia
theorem Ro (w:∀xs∈rs,xs.length=n) (hk:k < rs.length) (ht:t < rs.length) (hi:i < rs.length) (c:Nat):bI (Fc rs k t P) i c=if i=k then 1 / bI rs t P*bI rs t c else bI rs (iS k t i) c - bI rs (iS k t i) P*(1 / bI rs t P*bI rs t c):=by
 unfold bI;rw[PJ hi];have wt:=w _ (getD_in (e:=[]) ht);have wi:=w _ (getD_in (e:=[]) (nQ hk ht hi))
 split
 ·unfold A5;rw[Mq]
 ·rw[Rf (by rw[wi,ag];unfold A5;rw[ag,wt]),Mq];unfold A5;rw[Mq]
inductive Bo (K:FG9) (vs:List V) (H:Hp) (Q:VK) (E9:XK):Prop
 | mk (p:Addr) (n w a:Nat) (H0:Hp) (rows:LR9):vs=[.ref p,.int n]->bx K H0 H p rows->rows.length<=100->n<=100->(∀xs∈rows,xs.length=n)->PR rows n w a->(∀r R ps H',H r=none->aA H H'->bx K H H' r R->bF rows n R ps->ps.length<=rows.length->Q (.ref r) H')->Bo K vs H Q E9
inductive Eo (K:FG9) (vs:List V) (H:Hp) (Q:VK) (E9:XK):Prop
 | mk (p:Addr) (n:Nat) (H0:Hp) (R:LR9) (ps:List Nat):vs=[.ref p]->bx K H0 H p R->R.length<=100->n<=100->(∃rows,bF rows n R ps)->(∀r H',H r=none->aA H H'->H' r=some (.lst (dM ps))->Q (.ref r) H')->Eo K vs H Q E9
theorem Gk {xs ys:List Rat} (h:ys.length=xs.length):List.zipWith (λx y=>x - y) xs ys=(List.range xs.length).map λi=>xs.getD i 0 - ys.getD i 0:=by
 apply oz;intro i;rw[bW,aD];by_cases hi:i < xs.length
 ·rw[cy hi,ae hi,ae (show i < ys.length by lia)];simp [aa,ae hi,ae (show i < ys.length by lia)]
 ·rw[aH (show (List.range xs.length).length<=i by simp;lia),aH (show xs.length<=i by lia)];rfl
theorem Qj {rs:LR9} (hk:k < rs.length) (ht:t < rs.length) (i:Nat):((rs.set k (rs.getD t [])).set t (rs.getD k [])).getD i []=rs.getD (iS k t i) []:=by
 unfold iS;rw[lH (by rw[cQ];exact ht),lH hk];by_cases h1:i=t
 ·rw[if_pos h1];by_cases h2:i=k
  ·rw[if_pos h2,<- h1,<- h2]
  ·rw[if_neg h2,if_pos h1]
 ·rw[if_neg h1];by_cases h2:i=k
  ·rw[if_pos h2,if_pos h2]
  ·rw[if_neg h2,if_neg h2,if_neg h1]
theorem Ed {α:Type} {B A:List α} (h:A.length=B.length):(B.take s++A.drop s)[i]?=if i < s then B[i]? else A[i]?:=by
 by_cases hs:s<=B.length
 ·by_cases hi:i < s
  ·rw[if_pos hi,cD (by rw[bh];lia),mi hi]
  ·rw[if_neg hi,bM (by rw[bh];lia),bh,List.getElem?_drop];congr 1
   lia
 ·rw[aB (by lia),List.drop_eq_nil_of_le (by lia),eL];by_cases hi:i < s
  ·rw[if_pos hi]
  ·rw[if_neg hi,aH (by lia),aH (by lia)]
theorem Nt {α:Type} {B A:List α} (h:A.length=B.length) {x:α} (hb:B[s]?=some x):(B.take s++A.drop s).set s x=B.take (s+1)++A.drop (s+1):=by
 apply oz;intro i;have hs:s < B.length:=(aG.mp hb).1;rw[List.getElem?_set,Ed h,Ed h];by_cases e:s=i
 ·subst e;rw[if_pos rfl,if_pos (by rw[ao,bh,eV];lia),if_pos (by lia),hb]
 ·rw[if_neg e];by_cases hi:i < s
  ·rw[if_pos hi,if_pos (by lia)]
  ·rw[if_neg hi,if_neg (by lia)]
theorem Iu {α:Type} {B A:List α} (h:A.length=B.length) (e:A[s]?=B[s]?):B.take s++A.drop s=B.take (s+1)++A.drop (s+1):=by
 apply oz;intro i;rw[Ed h,Ed h];by_cases q:i=s
 ·subst q;rw[if_neg (by lia),if_pos (by lia),e]
 ·by_cases hi:i < s
  ·rw[if_pos hi,if_pos (by lia)]
  ·rw[if_neg hi,if_neg (by lia)]
theorem TV {xs ys:List Rat} (h:xs.length=ys.length):List.zipWith (λx y=>x - y) xs (ys.map λy=>0*y)=xs:=by
 apply gh (by rw[aV,ag];lia);intro i h1 h2;rw[fv,iV];grind
theorem BH {K:FG9} {rows:LR9} (pr:Paired (cS K H0 H) rows vs) (s:aA H H') (n:H q=none) (g:H' q=some (.lst vs)):bx K H0 H' q rows :=
 ⟨vs,g,Paired.imp' (λ_ _ z=>z.same s) pr,λz=>by
  obtain ⟨_,_,q',e,_,_,g',_⟩:=fe pr z;cases e;rw[n] at g';cases g'⟩
theorem Di (h:rs.getD i []=xs) (hx:x∈xs):∃c,bI rs i c=x:=by
 obtain ⟨c,hc,rfl⟩:=bB hx;refine ⟨c,?_⟩;unfold bI;rw[h,aa,ae hc];rfl
theorem Nv:kd 1:=oA (M:=1) (W:=1) ⟨1,by simp,by decide⟩ (by decide) bK bK
theorem bF.le (h:bF rows n R ps):ps.length<=n:=by
 obtain ⟨_,_,rr⟩:=h;rcases aY n ps.length with z | z
 ·have inc:∀j,j < ps.length->j<=ps.getD j 0:=by
   intro j
   induction j with
   | zero=>intro _;exact aS _
   | succ j ih =>
    intro hj;have:=ih (by lia);have:=rr.inc j (j+1) (by lia) hj
    lia
  have h1:=inc (ps.length - 1) (by lia);have h2:=rr.low (ps.length - 1) (by lia)
  lia
 ·exact z
theorem Tp.zero:Tp M W 0:=⟨0,by simp,by simp⟩
theorem Tp.add (h:Tp M W x) (h':Tp M W' y):Tp M (W+W') (x+y):=by
 obtain ⟨z,e,b⟩:=h;obtain ⟨z',e',b'⟩:=h';refine ⟨z+z',?_,af (Int.natAbs_add_le _ _) (Nat.add_le_add b b')⟩;rw[z6,<- e,<- e'];grind
theorem Tp.sum {M W:Nat} {f:Nat->Rat}:∀{k:Nat},(∀j,j < k->Tp M W (f j))->Tp M (k*W) (bc k f)
 | 0,_=>Tp.zero
 | k+1,h=>by
  have:=(Tp.sum (k:=k) λj hj=>h j (by lia)).add (h k (by lia));exact this.mono (by rw[iq];exact ah _)
theorem pI {xs:List Rat} (h:∀x∈xs,Tp M W x) (c:Nat):Tp M W (xs.getD c 0):=by
 by_cases hc:c < xs.length
 ·exact h _ (getD_in hc)
 ·rw[aa,aH (by lia)];exact Tp.zero
theorem O7 (h:∀xs∈R,∀x∈xs,Tp M W x) (i c:Nat):Tp M W (bI R i c):=by
 unfold bI;by_cases hi:i < R.length
 ·exact pI (h _ (getD_in hi)) c
 ·rw[aa (l:=R),aH (by lia)];exact Tp.zero
theorem Kv {K:FG9} {g:TG} (Pv:Nat->List V->Hp->Prop) (hz:xs.length<=sizeLine) (h0:Pv 0 [] H) (hl:∀i ys H,i<=xs.length->Pv i ys H->bo K H l xs)
  (hs:∀i x ys H p,xs[i]?=some x->ys.length<=i->Pv i ys H->H p=none->rj σ₀ g tf te (.ref p) (upd H p (.tup [.int i,x])) (λy H'=>Pv (i+1) (ys++[y]) H') (λH'=>Pv (i+1) ys H'))
  (hd:∀ys H,ys.length<=xs.length->Pv xs.length ys H->∀p,H p=none->Q (.ref p) (upd H p (.lst ys))):sT (RP K l) σ₀ g tf te Q H:=by
 refine ⟨λi m ys H=>m=xs.length - i/\i<=xs.length/\ys.length<=i/\Pv i ys H,⟨xs.length,by simp,aS _,aS _,h0⟩,?_⟩;rintro i m ys H ⟨rfl,hi,hy,p⟩;have q1:=hl i ys H hi p;by_cases hlt:i < xs.length
 ·refine .inr ⟨⟨xs,xs[i],q1,by simp [hlt]⟩,by lia,λy H'=>Pv (i+1) (ys++[y]) H',λH'=>Pv (i+1) ys H',λy H' p'=>⟨xs.length - (i+1),by lia,rfl,hlt,by rw[ao,aO];lia,p'⟩,λH' p'=>⟨xs.length - (i+1),by lia,rfl,hlt,by lia,p'⟩,λx H' y=>?_⟩;obtain ⟨r,x',rfl,hr,rfl,e1⟩:=y;exact hs i x' ys _ r (e1 xs q1) hy p hr
 ·have e:i=xs.length:=by lia
  subst e;exact .inl ⟨⟨xs,q1,ah _⟩,by lia,hd ys H hy p⟩
section
variable {X:Cx}
theorem BS (hc:X.calm=true):pC X (.builtin "min") (λxs H Q=>∃(p:Addr) (ns:List Int),xs=[.ref p]/\bo X.K H p (ns.map V.int)/\0 < ns.length/\∀M,M∈ns->(∀a,a∈ns->M<=a)->Q (.int M) H):=by
 intro pins s σ H xs us Q I r h;obtain ⟨p,ns,rfl,hp,hne,q⟩:=h;obtain ⟨u,rfl,ru⟩:=vals1 r;cases ru;obtain ⟨its,r2,pl,_⟩:=I.list hp;have hi:=intsAre_of r2;have hl:=pl.isList;obtain ⟨xs,e⟩:=hi.allInts.items
 have hns:ns=xs.toList.map (·.1):=by
  rw[<- hi.numsOf,<- nums_intItems,<- e]
 have hsz:0 < xs.size:=by
  have h3:=hne;rw[hns,ag,Array.length_toList] at h3;exact h3
 rw[e] at hl;refine min_intList (I.ok.hd hc) hl hsz λv h' tk hv hk=>?_
 obtain ⟨t,rfl⟩:=intItems_at hv;obtain ⟨h1,h2⟩:=argBest_lt (numAt xs) (xs.size - 1);refine ⟨.int _,H,I.kept hk,⟨_,rfl⟩,q _ ?_ λa ha=>?_⟩
 ·rw[hns,numAt_eq];exact getD_in (by rw[ag,Array.length_toList];lia)
 ·rw[hns] at ha;obtain ⟨j,hj,rfl⟩:=mem_getD ha;rw[ag,Array.length_toList] at hj;rw[<- numAt_eq];exact h2 j (by lia)
theorem Ak (K:FG9) (hK:X.K=K):wO X (compareOp .NotIn) (rIn K true):=by subst hK;exact CT
end
theorem Mg {j:Nat}:TN (.int (j:Int)) (dM ps)=decide (j∈ps):=by
 unfold TN dM;rw[List.any_map,mO,List.any_eq_true,decide_eq_true_iff];constructor
 ·rintro ⟨x,hx,e⟩;have e:((x:Int) == (j:Int))=true:=e;have:(x:Int)=j:=by simpa using e
  have:x=j:=by lia
  rw[<- this];exact hx
 ·intro h;exact ⟨j,h,by show ((j:Int) == (j:Int))=true;simp⟩
theorem J5:(dM ps).all uY=true:=by
 unfold dM;rw[List.all_map];exact pH.mpr λ_ _=>rfl
theorem zm:(dM ps).length=ps.length:=ag ..
def IZ (ps:List Nat):List Int:=ps.map λ(j:Nat)=>(j:Int)
theorem J0:dM ps=(IZ ps).map V.int:=by unfold dM IZ;rw[ow];rfl
theorem IP {i:Nat} (h:(dM ps)[i]?=some v):∃j,ps[i]?=some j/\v=V.int (j:Int):=by
 unfold dM at h;rw[aD] at h;cases e:ps[i]? with
 | none=>rw[e] at h;cases h
 | some x=>rw[e] at h;exact ⟨x,rfl,(bO h).symm⟩
def KO (xs:List Rat) (i:Nat):List Nat:=(List.range i).filter λc=>decide (xs.getD c 0≠0)
theorem IL:KO xs (i+1)=if xs.getD i 0≠0 then KO xs i++[i] else KO xs i:=by
 unfold KO;rw[z8,Gi];by_cases h:xs.getD i 0≠0
 ·rw[if_pos h,TB (by simpa using h)];rfl
 ·rw[if_neg h,TC (by simpa using h)];simp
def xj (ps:List Nat) (i:Nat):List Nat:=(List.range i).filter λc=>decide (c∉ps)
theorem zE:xj ps (i+1)=if i∉ps then xj ps i++[i] else xj ps i:=by
 unfold xj;rw[z8,Gi];by_cases h:i∉ps
 ·rw[if_pos h,TB (by simpa using h)];rfl
 ·rw[if_neg h,TC (by simpa using h)];simp
theorem Rm:(xj ps i).length<=i:=by
 unfold xj;exact af (List.length_filter_le ..) (by rw[cm];exact ah _)
inductive En (K:FG9) (vs:List V) (H:Hp) (Q:VK) (E9:XK):Prop
 | mk (p:Addr) (xs:List Rat) (j:Nat):vs=[.ref p]->c7 K H p xs->xs.length<=1000->j < xs.length->xs.getD j 0≠0->(∀c,c < j->xs.getD c 0=0)->(∀H',aA H H'->Q (.int (j:Int)) H')->En K vs H Q E9
inductive Es (K:FG9) (vs:List V) (H:Hp) (Q:VK) (E9:XK):Prop
 | mk (p:Addr) (n:Nat) (H0:Hp) (R:LR9) (ps:List Nat):vs=[.ref p,.int n]->bx K H0 H p R->R.length<=100->n<=100->(∃rows,bF rows n R ps)->(∀r H',H r=none->aA H H'->H' r=some (.lst (dM (xj ps n)))->Q (.ref r) H')->Es K vs H Q E9
def IM (R:LR9) (ps:List Nat) (n at_ j:Nat):List Rat:=(List.range n).map λc=>if c=at_ then 1 else bc j λi=>if ps.getD i 0=c then -(bI R i at_) else 0
def KP (R:LR9) (ps:List Nat) (n at_:Nat):List Rat:=IM R ps n at_ ps.length
def cR (R:LR9) (ps:List Nat) (n:Nat):LR9:=(xj ps n).map (KP R ps n)
section
variable {R rows:LR9} {ps:List Nat} {n a j:Nat}
theorem su:(IM R ps n a j).length=n:=by unfold IM;rw[ag,cm]
theorem Pn (h:c < n):(IM R ps n a j).getD c 0=if c=a then 1 else bc j λi=>if ps.getD i 0=c then -(bI R i a) else 0:=by
 unfold IM;rw[aa,aD,cy h];rfl
theorem Om:IM R ps n a 0=Ec n a:=by
 unfold IM Ec;refine D7 λc _=>?_
 by_cases e:c=a
 ·subst e;simp
 ·rw[if_neg e];show (0:Rat)=_
  have:¬(c:Int)=(a:Int):=by lia
  simp [this]
theorem Oo (RR:bF rows n R ps) (hj:j < ps.length) (ha:a∉ps):(IM R ps n a j).set (ps.getD j 0) (-(bI R j a))=IM R ps n a (j+1):=by
 obtain ⟨_,_,rr⟩:=RR;have low:=rr.low j hj;have pm:ps.getD j 0∈ps:=getD_in hj;apply gh (by rw[cQ,su,su]);intro c h1 h2;rw[su] at h2;have e1:(IM R ps n a j)[c]'(by rw[su];exact h2)=if c=a then 1 else bc j λi=>if ps.getD i 0=c then -(bI R i a) else 0:=by simp only[IM,iV,Gh]
 have e2:(IM R ps n a (j+1))[c]'(by rw[su];exact h2)=if c=a then 1 else bc (j+1) λi=>if ps.getD i 0=c then -(bI R i a) else 0:=by simp only[IM,iV,Gh]
 rw[List.getElem_set,e2];have es:bc (j+1) (λi=>if ps.getD i 0=c then -(bI R i a) else 0)=bc j (λi=>if ps.getD i 0=c then -(bI R i a) else 0)+if ps.getD j 0=c then -(bI R j a) else 0:=rfl
 by_cases q:ps.getD j 0=c
 ·rw[if_pos q,if_neg (λz=>ha (by rw[<- z,<- q];exact pm)),es,if_pos q,cu λi hi=>?_,Rat.zero_add];rw[if_neg];intro z;have:=rr.inc i j hi hj
  lia
 ·rw[if_neg q,e1];by_cases z:c=a
  ·rw[if_pos z,if_pos z]
  ·rw[if_neg z,if_neg z,es,if_neg q,Jy]
theorem Oq (hc:c < n) (hp:c∉ps):(KP R ps n a).getD c 0=if c=a then 1 else 0:=by
 unfold KP;rw[Pn hc];by_cases e:c=a
 ·rw[if_pos e,if_pos e]
 ·rw[if_neg e,if_neg e,cu λi hi=>?_];rw[if_neg (λz=>hp (by rw[<- z];exact getD_in hi))]
theorem eH:∀{xs ys:List Rat},xs.length=ys.length->eI xs ys=bc xs.length λc=>xs.getD c 0*ys.getD c 0:=by
 intro xs ys h
 have key:∀k,k<=xs.length->eI (xs.take k) (ys.take k)=bc k λc=>xs.getD c 0*ys.getD c 0:=by
  intro k
  induction k with
  | zero=>intro _;rfl
  | succ k ih =>
   intro hk;rw[BO (by lia) (by lia),ih (by lia)];rfl
 have:=key xs.length (ah _);rwa [aB (ah _),aB (by lia)] at this
theorem QY (RR:bF rows n R ps) (ha:a < n) (hp:a∉ps) {i:Nat} (hr:rows[i]?=some row) (hw:row.length=n):eI row (KP R ps n a)=0:=by
 obtain ⟨_,_,rr⟩:=RR;have hi:=(aG.mp hr).1;have ef:∀c,bI rows i c=row.getD c 0:=λc=>by unfold bI;rw[aa (l:=rows),hr];rfl
 have co:=rr.coef (rr.span i hi) a;rw[ef] at co;rw[eH (by unfold KP;rw[su,hw]),hw]
 have e1:bc n (λc=>row.getD c 0*(KP R ps n a).getD c 0)=bc n (λc=>(if c=a then row.getD a 0 else 0)+bc ps.length λj=>if ps.getD j 0=c then row.getD (ps.getD j 0) 0*-(bI R j a) else 0):=by
  refine aR λc hc=>?_
  unfold KP;rw[Pn hc];by_cases e:c=a
  ·rw[if_pos e,if_pos e,e,cu λj hj=>?_]
   ·grind
   ·rw[if_neg (λz=>hp (by rw[<- z];exact getD_in hj))]
  ·rw[if_neg e,if_neg e,<- cI,Rat.zero_add];refine aR λj _=>?_
   split
   ·rename_i q;rw[q]
   ·grind
 rw[e1,oY,iE (i:=a) ha (λj _ ne=>if_neg ne),if_pos rfl,<- gX]
 have e2:bc ps.length (λj=>bc n λc=>if ps.getD j 0=c then row.getD (ps.getD j 0) 0*-(bI R j a) else 0)=bc ps.length λj=>-1*(bI rows i (ps.getD j 0)*bI R j a):=by
  refine aR λj hj=>?_
  rw[iE (i:=ps.getD j 0) (rr.low j hj) λc _ ne=>if_neg λz=>ne z.symm,if_pos rfl,ef];grind
 rw[e2,cI,co];grind
theorem SO (h0:0 < M) (hW:M<=W) (tp:∀xs∈R,∀x∈xs,Tp M W x) (RR:bF rows n R ps):∀x∈KP R ps n a,Tp M W x:=λx hx=>by
 obtain ⟨_,_,rr⟩:=RR;obtain ⟨c,hc,rfl⟩:=av.mp hx
 split
 ·exact ⟨M,by rw[Rat.one_mul,aP],by simpa using hW⟩
 ·by_cases hp:∃j,j < ps.length/\ps.getD j 0=c
  ·obtain ⟨j,hj,e⟩:=hp;rw[iE hj λi hi ne=>if_neg λz=>?_,if_pos e]
   ·obtain ⟨z,ez,b⟩:=O7 tp j a;exact ⟨-z,by rw[cX,<- ez];grind,by rw[ko];exact b⟩
   ·rcases jZ i j with q | q | q
    ·have:=rr.inc i j q hj;lia
    ·exact ne q
    ·have:=rr.inc j i q hi;lia
  ·rw[cu λj hj=>if_neg λz=>hp ⟨j,hj,z⟩];exact Tp.zero
theorem xQ:c∈xj ps n↔c < n/\c∉ps:=by
 unfold xj;rw[ie,iU,decide_eq_true_iff]
end
inductive Bj (K:FG9) (vs:List V) (H:Hp) (Q:VK) (E9:XK):Prop
 | mk (p:Addr) (n a:Nat) (H0:Hp) (R:LR9) (ps:List Nat):vs=[.ref p,.int n,.int a]->bx K H0 H p R->R.length<=100->n<=100->(∃rows,bF rows n R ps)->a < n->a∉ps->(∀xs∈R,∀x∈xs,kd x)->(∀r H',H r=none->aA H H'->c7 K H' r (KP R ps n a)->Q (.ref r) H')->Bj K vs H Q E9
theorem ye:kd 0:=oA (M:=1) (W:=1) Tp.zero (by decide) bK bK
theorem vT (h:xs∈cR R ps n):∃a,a < n/\a∉ps/\xs=KP R ps n a:=by
 obtain ⟨a,ha,rfl⟩:=av.mp h;obtain ⟨h1,h2⟩:=xQ.mp ha;exact ⟨a,h1,h2,rfl⟩
def SV:Kind Str where
 R:=λ_ _ x i=>x=.str i
 d:=0
 inj:=λ_ h1 h2=>by rw[h1] at h2;cases h2;rfl
 rc:=λ{X pins σ H s x y v u a b A} I rx ry h1 h2 _=>by
  subst h1 h2;obtain ⟨t,rfl⟩:=rx;obtain ⟨t',rfl⟩:=ry;have q:=SeqAt.RcAt.str_str (A:=A) (s:=s) a t b t';rwa [gQ] at q
 ne:=λ{X pins σ H s x y v u a b A} I rx ry h1 h2 _=>by
  subst h1 h2;obtain ⟨t,rfl⟩:=rx;obtain ⟨t',rfl⟩:=ry;have q:=SeqAt.RcNeAt.str_str (A:=A) (s:=s) a t b t';rwa [gQ] at q
 eq:=λ{X pins σ H s x y v u a b A} I rx ry h1 h2 _=>by
  subst h1 h2;obtain ⟨t,rfl⟩:=rx;obtain ⟨t',rfl⟩:=ry;have q:=SeqAt.EqAt.str_str (A:=A) (s:=s) a t b t';rwa [gQ] at q
theorem OK {q:Rat} (h:q.den<=9):q.den∣2520:=by
 have:=q.den_pos;generalize q.den=d at h this;have:d=1\/d=2\/d=3\/d=4\/d=5\/d=6\/d=7\/d=8\/d=9:=by lia
 rcases this with rfl | rfl | rfl | rfl | rfl | rfl | rfl | rfl | rfl <;> decide
theorem Rx (h:Dr 9 q) (hM:2520∣M):Fr M 9 q:=(Fr.own q h.1).dvd (F3 (OK h.2) hM)
theorem L5:((List.range n).map λ_=>(0:Rat))=List.replicate n 0:=by rw[List.map_const',cm]
def Ql (K:FG9):Sp:=λvs H Q _=>∃m:Nat,vs=[.int m]/\m<=100/\∀r H',H r=none->aA H H'->c7 K H' r (List.replicate m 0)->Q (.ref r) H'
theorem bx.any {K:FG9} (h:bx K H0 H p rows):bx K (λ_=>none) H p rows:=by obtain ⟨xs,g,r,n⟩:=h;exact ⟨xs,g,Paired.imp' (λ_ _ ⟨q,a,_,c⟩=>⟨q,a,rfl,c⟩) r,n⟩
section
variable {rows:LR9} {ws xs row:List Rat} {n j:Nat}
theorem yc (hc:c < n):(bu rows n)[c]?=some (rows.map λxs=>xs.getD c 0):=by
 unfold bu;rw[aD,cy hc];rfl
theorem L6:(rows.map λxs=>xs.getD c 0).getD i 0=bI rows i c:=by
 unfold bI;rw[aa,aD,aa (l:=rows)];cases rows[i]? with
 | none=>rfl
 | some y=>rfl
end
theorem Fr.up {M V M' V':Nat} (h:Fr M V x) (hd:M∣M') (hv:V<=V'):Fr M' V' x:=(h.dvd hd).mono hv
section
variable {rows R:LR9} {due:List Rat} {ps:List Nat} {n:Nat}
theorem OI {M V D B:Nat} (h:ys.length=xs.length) (hx:∀x∈xs,Fr M V x) (hy:∀y∈ys,Fr D B y):Fr (M*D) (xs.length*(V*B)) (eI xs ys):=by
 rw[eH h.symm]
 have key:∀j,j<=xs.length->Fr (M*D) (j*(V*B)) (bc j λc=>xs.getD c 0*ys.getD c 0):=by
  intro j
  induction j with
  | zero=>intro _;exact Fr.zero
  | succ j ih =>
   intro hj;exact ((ih (by lia)).add ((hx _ (getD_in (by lia))).mul (hy _ (getD_in (by lia))))).mono (JA (iq j (V*B)).symm)
 exact key _ (ah _)
end
def pe (K:FG9) (P:Addr->Prop) (H:Hp) (xs:List Rat) (v:V):Prop:=∃q,v=.ref q/\P q/\c7 K H q xs
section
variable {K:FG9} {P:Addr->Prop} {H H':Hp} {xs:List Rat} {v:V} {b l:Addr}
theorem pe.same (h:pe K P H xs v) (s:aA H H'):pe K P H' xs v:=by obtain ⟨q,a,c,d⟩:=h;exact ⟨q,a,c,d.same s⟩
theorem pe.updL (h:pe K P H xs v) (hl:H l=some (.lst ys)) (nb:∀q,P q->q≠l):pe K P (upd H l o) xs v:=by obtain ⟨q,a,c,d⟩:=h;exact ⟨q,a,c,d.updL hl (nb q c)⟩
theorem bx.ofE {rows:LR9} (g:H l=some (.lst us)) (h:Paired (pe K P H) rows us) (h0:∀q,P q->H0 q=none) (hn:∀q,P q->q≠l):bx K H0 H l rows :=
 ⟨us,g,Paired.imp' (λ_ _ ⟨q,a,c,d⟩=>⟨q,a,h0 q c,d⟩) h,λz=>by
  obtain ⟨_,_,q,e,c,_⟩:=fe h z;cases e;exact hn _ c rfl⟩
end
section
variable {rows rows' R R':LR9} {n w W:Nat} {ps ps':List Nat}
theorem vv (hw:∀xs∈rows,xs.length=n) (hW:1<=W) (ent:∀i,i < (rows.map iw).length->∀c,Fr 1 W (d5 (rows.map iw) i c)):∀P,P<=n->∃ls ps d,BY (rows.map iw) n P ls ps d:=by
 intro P
 induction P with
 | zero=>intro _;exact ⟨_,_,_,BY.start λzs hz=>by obtain ⟨x,hx,rfl⟩:=av.mp hz;rw[oW];exact hw x hx⟩
 | succ P ih =>
  intro hP;obtain ⟨ls,ps,d,I⟩:=ih (by lia);by_cases e:∃t,ps.length<=t/\t < ls.length/\d5 ls t P≠0
  ·obtain ⟨t,h1,h2,h3⟩:=e;exact ⟨_,_,_,I.step hW ent h1 h2 h3⟩
  ·exact ⟨_,_,_,I.skip λi h1 h2=>by
    by_cases z:d5 ls i P=0
    ·exact z
    ·exact absurd ⟨i,h1,h2,z⟩ e⟩
theorem Bs (hw:∀xs∈rows,xs.length=n) (F:AZ rows n w):∃R ps d ls,Uj rows n w R ps d ls:=by
 obtain ⟨W,hW,W2,ent⟩:=F.ent;obtain ⟨ls,ps,d,I⟩:=vv hw hW ent n (ah _);obtain ⟨R,S⟩:=I.done hw F;exact ⟨R,ps,d,_,S⟩
theorem Ph (hw:∀xs∈rows,xs.length=n) (F:AZ rows n w) (RR:bF rows n R ps):ps.length<=rows.length/\∃M,0 < M/\M<=2^(min rows.length n*(w+4))/\∀xs∈R,∀x∈xs,Tp M (2^(min rows.length n*(w+4))) x:=by
 obtain ⟨R2,ps2,d,ls,S⟩:=Bs hw F;obtain ⟨rfl,rfl⟩:=S.rr.same RR;exact ⟨S.km,d.natAbs,Int.natAbs_pos.mpr S.d0,S.dsz,S.tp⟩
theorem Kb {p q:Nat->Nat} (hp:∀i j,i < j->j < k->p i < p j) (hq:∀i j,i < j->j < k->q i < q j) (hs:∀i,i < k->∃j,j < k/\q j=p i):∀i,i < k->p i=q i:=by
 have hqm:∀i j,i<=j->j < k->q i<=q j:=λi j h hj=>by
  rcases aY i j with z | z
  ·exact c6 (hq i j z hj)
  ·have:i=j:=by lia
   rw[this];exact ah _
 have hqi:∀i j,i < k->j < k->q i < q j->i < j:=λi j hi hj h=>by
  rcases aY i j with z | z
  ·exact z
  ·have:=hqm j i z hi
   lia
 have key:∀i,i < k->∀j,j < k->q j=p i->i<=j:=by
  intro i
  induction i with
  | zero=>intro _ j _ _;exact aS _
  | succ i ih =>
   intro hi j hj e;obtain ⟨j',hj',e'⟩:=hs i (by lia);have h1:=ih (by lia) j' hj' e';have h2:=hp i (i+1) (by lia) hi;have:=hqi j' j hj' hj (by lia)
   lia
 have key2:∀t i,i+t+1=k->∀j,j < k->q j=p i->j<=i:=by
  intro t
  induction t with
  | zero=>intro i e j hj _;lia
  | succ t ih =>
   intro i e j hj ej;obtain ⟨j',hj',e'⟩:=hs (i+1) (by lia);have h1:=ih (i+1) (by lia) j' hj' e';have h2:=hp i (i+1) (by lia) (by lia);have:=hqi j j' hj hj' (by lia)
   lia
 intro i hi;obtain ⟨j,hj,e⟩:=hs i hi;have h1:=key i hi j hj e;have h2:=key2 (k - 1 - i) i (by lia) j hj e;have:j=i:=by lia
 rw[<- e,this]
theorem JN (h:bF rows n R ps) (h':bF rows' n R' ps') (hl:ps.length=ps'.length) (hs:∀i,i < ps.length->c9 ps'.length (bI R') (bI R i)):R=R'/\ps=ps':=by
 obtain ⟨l1,w1,r1⟩:=h;obtain ⟨l2,w2,r2⟩:=h'
 have ep:∀i,i < ps.length->ps.getD i 0=ps'.getD i 0:=Kb r1.inc (by rw[hl];exact r2.inc) λi hi=>by
  have u:=r1.unit i hi i hi;rw[if_pos rfl] at u;obtain ⟨j,hj,e⟩:=r2.lead_in (hs i hi) (c:=ps.getD i 0) (by rw[u];decide) (λc hc=>r1.lead i hi c hc);exact ⟨j,by lia,e⟩
 have eps:ps=ps':=by
  apply gh hl;intro i a b;have:=ep i a;rw[aa,aa,ae a,ae b] at this;exact this
 refine ⟨Mu (n:=n) (by lia) w1 w2 λi hi c=>?_,eps⟩;rw[l1] at hi;rw[r2.coef (hs i hi) c,<- hl,iE hi λj hj hj'=>?_]
 ·rw[<- ep i hi];have u:=r1.unit i hi i hi;rw[if_pos rfl] at u;rw[u];grind
 ·rw[<- ep j hj];have u:=r1.unit i hi j hj;rw[if_neg (Ne.symm hj')] at u;rw[u];grind
end
def lY (mv:LR9) (x:List Rat):List Rat:=mv.map λxs=>eI xs x
def fQ (mv pt:LR9):Nat->LR9
 | 0=>[]
 | t+1=>pt++(fQ mv pt t).map (lY mv)
section
variable {mv pt R R' S X Y:LR9} {n t m i c:Nat} {ps ps':List Nat} {a:Nat->Nat->Rat}
theorem lX:(lY mv x).length=mv.length:=ag ..
theorem BA (lm:mv.length=n) (wm:∀xs∈mv,xs.length=n) (wR:∀xs∈R,xs.length=n) (hi:i < R.length) (c:Nat):bI (R.map (lY mv)) i c=bc n λj=>bI mv c j*bI R i j:=by
 have wi:=wR _ (aF hi);have e1:(R.map (lY mv)).getD i []=lY mv R[i]:=by rw[aa,aD,ae hi];rfl
 have e2:R.getD i []=R[i]:=by rw[aa,ae hi];rfl
 by_cases hc:c < n
 ·have wc:=wm _ (aF (show c < mv.length by lia));have e3:mv.getD c []=mv[c]'(by lia):=by rw[aa,ae (by lia)];rfl
  have e4:(lY mv R[i]).getD c 0=eI (mv[c]'(by lia)) R[i]:=by
   unfold lY;rw[aa,aD,ae (by lia)];rfl
  unfold bI;rw[e1,e2,e3,e4,eH (by lia),wc]
 ·have e3:mv.getD c []=[]:=by rw[aa,aH (by lia)];rfl
  unfold bI
  rw[e1,e3,aa,aH (by rw[lX];lia),cu λj _=>by
   show ([]:List Rat).getD j 0*_=0
   rw[aa];show (0:Rat)*_=0
   grind]
  rfl
theorem yh (lm:mv.length=n) (wm:∀xs∈mv,xs.length=n) (wR:∀xs∈R,xs.length=n) (wS:∀xs∈S,xs.length=n) (hi:i < R.length) (h:c9 S.length (bI S) (bI R i)):c9 (S.map (lY mv)).length (bI (S.map (lY mv))) (bI (R.map (lY mv)) i):=by
 obtain ⟨w,hw⟩:=h;refine ⟨w,λc=>?_⟩;rw[BA lm wm wR hi,ag]
 have e1:bc n (λj=>bI mv c j*bI R i j)=bc n (λj=>bc S.length λs=>w s*(bI mv c j*bI S s j)):=aR λj _=>by
  rw[hw j,<- cI];exact aR λs _=>by grind
 rw[e1,gX];exact aR λs hs=>by rw[cI,BA lm wm wS hs]
theorem zR (h:i < X.length):bI (X++Y) i=bI X i:=by
 funext c;unfold bI;rw[aa (l:=X++Y),cD h,<- aa]
theorem HW:bI (X++Y) (X.length+i)=bI Y i:=by
 funext c;unfold bI;rw[aa (l:=X++Y),bM (by lia),show X.length+i - X.length=i by lia,<- aa]
theorem sW (h1:∀i,i < X.length->c9 m a (bI X i)) (h2:∀i,i < Y.length->c9 m a (bI Y i)):∀i,i < (X++Y).length->c9 m a (bI (X++Y) i):=λi hi=>by
 rw[ao] at hi;by_cases h:i < X.length
 ·rw[zR h];exact h1 i h
 ·obtain ⟨j,rfl⟩:∃j,i=X.length+j:=⟨i - X.length,by lia⟩;rw[HW];exact h2 j (by lia)
theorem rE (h:i < X.length):c9 (X++Y).length (bI (X++Y)) (bI X i):=by
 have:=c9.row (a:=bI (X++Y)) (m:=(X++Y).length) (i:=i) (by rw[ao];lia);rwa [zR h] at this
theorem oZ (h:c9 Y.length (bI Y) x):c9 (X++Y).length (bI (X++Y)) x:=c9.trans (λs hs=>by
 have:=c9.row (a:=bI (X++Y)) (m:=(X++Y).length) (i:=X.length+s) (by rw[ao];lia);rwa [HW] at this) h
theorem gU (lm:mv.length=n) (wp:∀xs∈pt,xs.length=n):∀t,∀xs∈fQ mv pt t,xs.length=n:=by
 intro t
 induction t with
 | zero=>intro xs hx;cases hx
 | succ t ih =>
  intro xs hx;rcases ay.mp hx with hx | hx
  ·exact wp xs hx
  ·obtain ⟨y,_,rfl⟩:=av.mp hx;rw[lX,lm]
theorem uT (lm:mv.length=n) (wm:∀xs∈mv,xs.length=n) (wp:∀xs∈pt,xs.length=n) (RR:bF (fQ mv pt t) n R ps) (RR':bF (pt++R.map (lY mv)) n R' ps'):bF (fQ mv pt (t+1)) n R' ps':=by
 have wk:=gU (mv:=mv) lm wp t;refine ⟨RR'.1,RR'.2.1,RR'.2.2.other ?_ ?_⟩
 ·refine sW (λi hi=>rE hi) λi hi=>oZ ?_
  rw[ag] at hi;exact yh lm wm RR.2.1 wk hi (RR.2.2.back i (by rw[<- RR.1];exact hi))
 ·refine sW (λi hi=>rE hi) λi hi=>oZ ?_
  rw[ag] at hi;have:=RR.2.2.span i hi;rw[<- RR.1] at this;exact yh lm wm wk RR.2.1 hi this
theorem Mb (lm:mv.length=n) (wm:∀xs∈mv,xs.length=n) (wp:∀xs∈pt,xs.length=n):∀t i,i < (fQ mv pt t).length->c9 (fQ mv pt (t+1)).length (bI (fQ mv pt (t+1))) (bI (fQ mv pt t) i):=by
 intro t
 induction t with
 | zero=>intro i hi;cases hi
 | succ t ih =>
  refine sW (λi hi=>rE hi) λi hi=>oZ ?_
  rw[ag] at hi;exact yh lm wm (gU lm wp t) (gU lm wp (t+1)) hi (ih i hi)
theorem zB (lm:mv.length=n) (wm:∀xs∈mv,xs.length=n) (wp:∀xs∈pt,xs.length=n) (RR:bF (fQ mv pt t) n R ps) (RR':bF (fQ mv pt (t+1)) n R' ps'):∀i,i < ps.length->c9 ps'.length (bI R') (bI R i):=λi hi =>
 c9.trans (λs hs=>RR'.2.2.span s hs) (c9.trans (Mb lm wm wp t) (RR.2.2.back i hi))
theorem BE (lm:mv.length=n) (wm:∀xs∈mv,xs.length=n) (wp:∀xs∈pt,xs.length=n) (RR:bF (fQ mv pt t) n R ps) (RR':bF (pt++R.map (lY mv)) n R' ps') (hl:ps'.length=ps.length):∀s,bF (fQ mv pt (t+s)) n R ps:=by
 have K1:=uT lm wm wp RR RR';obtain ⟨e1,e2⟩:=JN RR K1 hl.symm (zB lm wm wp RR K1);subst e1 e2;intro s
 induction s with
 | zero=>exact RR
 | succ s ih=>exact uT lm wm wp ih RR'
theorem E7 (lm:mv.length=n) (wm:∀xs∈mv,xs.length=n) (wp:∀xs∈pt,xs.length=n) (RR:bF (fQ mv pt t) n R ps) (RR':bF (fQ mv pt (t+1)) n R' ps'):ps.length<=ps'.length:=by
 have h:=zB lm wm wp RR RR'
 have hs:∀i,i < ps.length->∃j,j < ps'.length/\ps'.getD j 0=ps.getD i 0:=λi hi=>by
  have u:=RR.2.2.unit i hi i hi;rw[if_pos rfl] at u;exact RR'.2.2.lead_in (h i hi) (c:=ps.getD i 0) (by rw[u];decide) (λc hc=>RR.2.2.lead i hi c hc)
 rcases aY ps'.length ps.length with z | z
 ·exfalso
  have key:∀i,i < ps.length->∀j,j < ps'.length->ps'.getD j 0=ps.getD i 0->i<=j:=by
   intro i
   induction i with
   | zero=>intro _ j _ _;exact aS _
   | succ i ih =>
    intro hi j hj e;obtain ⟨j',hj',e'⟩:=hs i (by lia);have h1:=ih (by lia) j' hj' e';have h2:=RR.2.2.inc i (i+1) (by lia) hi;rcases aY j' j with y | y
    ·lia
    ·rcases aY j j' with x | x
     ·have:=RR'.2.2.inc j j' x hj'
      lia
     ·have:j=j':=by lia
      rw[this] at e
      lia
  obtain ⟨j,hj,e⟩:=hs (ps.length - 1) (by lia);have:=key (ps.length - 1) (by lia) j hj e
  lia
 ·exact z
theorem C8 {M V c:Nat} (lm:mv.length=n) (wm:∀xs∈mv,xs.length=n) (wp:∀xs∈pt,xs.length=n) (hc:(n+1)*V<=2^c) (fm:GF M V mv) (fp:GF M V pt):∀t,∀xs∈fQ mv pt t,∀x∈xs,Fr (M^t) (2^(c*t)) x:=by
 intro t
 induction t with
 | zero=>intro xs hx;cases hx
 | succ t ih =>
  intro xs hx x hx';have hV:V<=2^c:=af (bZ _ (by lia)) hc;rcases ay.mp hx with hx | hx
  ·refine Fr.up (fp xs hx x hx') (by rw[cZ];exact kY _ _) (af hV (ar (by decide) (dP _ (by lia))))
  ·obtain ⟨y,hy,rfl⟩:=av.mp hx;unfold lY at hx';obtain ⟨r,hr,rfl⟩:=av.mp hx';have wr:=wm r hr;have wy:=gU (mv:=mv) lm wp t y hy;have f:=OI (by lia) (fm r hr) (ih y hy);rw[cZ,aX (M^t)];refine f.mono ?_;rw[kh,Nat.mul_one,bT,aX (2^(c*t)),<- bY,wr];exact ax _ (af (ax _ (by lia)) hc)
def lJ (mv pt:LR9) (a c:Nat):Prop:=∃M V:Nat,0 < M/\M<=2^a/\(mv.length+1)*V<=2^c/\GF M V mv/\GF M V pt/\a<=400/\c<=40/\mv.length*(mv.length*(a+c)+4)<=1740/\mv.length*(mv.length*(mv.length*(a+c)+4)+a+c+4)<=8900
theorem lJ.swf {a c:Nat} (F:lJ mv pt a c) (D:mv.length<=8) (wm:∀xs∈mv,xs.length=mv.length) (wp:∀xs∈pt,xs.length=mv.length) (ht:t<=mv.length):AZ (fQ mv pt t) mv.length (mv.length*(a+c)):=by
 obtain ⟨M,V,M0,Ma,hV,fm,fp,a3,c3,e14,e89⟩:=F;have f:=C8 rfl wm wp hV fm fp t;have h1:mv.length*(a+c)<=8*440:=aZ D (by lia);have hM:M^t<=2^(a*mv.length):=af (lO Ma _) (by rw[<- ve];exact ar (by decide) (cN _ ht));have h2:a*mv.length<=mv.length*(a+c):=by rw[aX];exact cN _ (by lia)
 have h3:mv.length=0\/mv.length*(a+c)<=1740:=by
  rcases gC mv.length with z | z
  ·exact .inl z
  ·right
   have:=bZ (mv.length*(a+c)+4) z
   lia
 have h4:mv.length*(a+c)<=1740:=by
  rcases h3 with z | z
  ·rw[z];lia
  ·exact z
 refine ⟨M^t,2^(mv.length*(a+c)),ir M0,af hM (ar (by decide) (by lia)),bK,ah _,λxs hx x hx'=>Tp.of (f xs hx x hx') ?_,by lia,by lia,?_⟩
 ·refine af (aZ (ar (by decide) (cN c ht)) hM) ?_;rw[<- bT];refine ar (by decide) ?_;rw[aX c,aX a,<- kh,iu c];exact ah _
 ·exact af (ax _ (pG _ _)) (by lia)
theorem lJ.tp {a c:Nat} (F:lJ mv pt a c) (D:mv.length<=8) (wm:∀xs∈mv,xs.length=mv.length) (wp:∀xs∈pt,xs.length=mv.length) (ht:t<=mv.length) (RR:bF (fQ mv pt t) mv.length R ps):∃M,0 < M/\M<=2^(mv.length*(mv.length*(a+c)+4))/\∀xs∈R,∀x∈xs,Tp M (2^(mv.length*(mv.length*(a+c)+4))) x:=by
 obtain ⟨_,M,h0,h1,h2⟩:=Ph (gU rfl wp t) (F.swf D wm wp ht) RR;have le:2^(min (fQ mv pt t).length mv.length*(mv.length*(a+c)+4))<=2^(mv.length*(mv.length*(a+c)+4)):=ar (by decide) (ax _ (pG _ _));exact ⟨M,h0,af h1 le,λxs hx x hx'=>(h2 xs hx x hx').mono le⟩
theorem lJ.step {a c:Nat} (F:lJ mv pt a c) (D:mv.length<=8) (wm:∀xs∈mv,xs.length=mv.length) (wp:∀xs∈pt,xs.length=mv.length) (ht:t<=mv.length) (RR:bF (fQ mv pt t) mv.length R ps):AZ (pt++R.map (lY mv)) mv.length (mv.length*(mv.length*(a+c)+4)+a+c):=by
 obtain ⟨N,N0,N1,tN⟩:=F.tp D wm wp ht RR;obtain ⟨M,V,M0,Ma,hV,fm,fp,a3,c3,e14,e89⟩:=F;generalize mv.length*(mv.length*(a+c)+4)=e at *
 have V1:V<=2^c:=af (bZ _ (by lia)) hV;have eW:(2:Nat)^(e+a+c)=2^c*(2^a*2^e):=by rw[<- bT,<- bT];congr 1;lia
 refine ⟨N*M,2^(e+a+c),cx N0 M0,?_,bK,ah _,λxs hx x hx'=>?_,by lia,by lia,?_⟩
 ·exact af (aZ N1 Ma) (by rw[<- bT];exact ar (by decide) (by lia))
 ·rcases ay.mp hx with hx | hx
  ·refine Tp.of ((fp xs hx x hx').scaleL N) ?_;rw[eW,aX N];exact aZ V1 (aZ Ma N1)
  ·obtain ⟨y,hy,rfl⟩:=av.mp hx;unfold lY at hx';obtain ⟨r,hr,rfl⟩:=av.mp hx';have wr:=wm r hr;have wy:=RR.2.1 y hy;rw[eH (by lia),wr];have t1:∀j,Tp M (V*M) (r.getD j 0):=λj=>pI (λx hx=>Tp.of (fm r hr x hx) (ah _)) j
   have t2:∀j,Tp N (2^e) (y.getD j 0):=λj=>pI (tN y hy) j
   have:=Tp.sum (k:=mv.length) (M:=N*M) (W:=V*M*2^e) (f:=λj=>r.getD j 0*y.getD j 0) λj _=>by
    have:=(t1 j).mul (t2 j);rwa [aX M N] at this
   refine this.mono ?_;rw[eW,bY V,<- bY mv.length];exact aZ (af (ax _ (by lia)) hV) (ax _ Ma)
 ·exact af (ax _ (pG _ _)) (by rw[show e+a+c+4=e+a+c+4 from rfl];exact e89)
theorem lJ.fit {a c:Nat} (F:lJ mv pt a c) (D:mv.length<=8) (wm:∀xs∈mv,xs.length=mv.length) (wp:∀xs∈pt,xs.length=mv.length) (ht:t<=mv.length) (RR:bF (fQ mv pt t) mv.length R ps):∀xs∈mv,∀r∈R,wd xs r:=λxs hx r hr=>by
 obtain ⟨N,N0,N1,tN⟩:=F.tp D wm wp ht RR;obtain ⟨M,V,M0,Ma,hV,fm,fp,a3,c3,e14,e89⟩:=F;have V1:V<=2^c:=af (bZ _ (by lia)) hV;have p14:=ar (show 0 < 2 by decide) e14;exact ⟨400,40,1740,1740,⟨M,V,M0,af Ma (ar (by decide) a3),af V1 (ar (by decide) c3),fm xs hx⟩,⟨N,2^1740,N0,af N1 p14,ah _,λx hx=>((tN r hr x hx).mono p14).fr N0⟩,by decide⟩
end
inductive Bl (K:FG9) (C:Addr) (vs:List V) (H:Hp) (Q:VK) (E9:XK):Prop
 | mk (x p:Addr) (H0 H1:Hp) (mv pt lk R:LR9):vs=[.ref x,.ref p]->lI K H0 H C x mv pt lk->gV mv pt lk->bx K H1 H p R->R.length<=100->(∀r∈R,r.length=mv.length)->(∀xs∈mv,∀r∈R,wd xs r)->(∀r H',H r=none->aA H H'->bx K H H' r (R.map (lY mv))->Q (.ref r) H')->Bl K C vs H Q E9
structure zX (mv pt:LR9) (Rs:List (LR9)):Prop where
 ne:Rs≠[]
 rr:∀t R,Rs[t]?=some R->∃ps,bF (fQ mv pt t) mv.length R ps
 up:∀t R R',Rs[t]?=some R->Rs[t+1]?=some R'->R.length < R'.length
def GrL (K:FG9) (H0 H:Hp) (l:Addr) (Rs:List (LR9)):Prop:=∃us,H l=some (.lst us)/\Paired (λR v=>∃q,v=V.ref q/\H0 q=none/\q≠l/\bx K H0 H q R) Rs us
inductive Bp (K:FG9) (C:Addr) (vs:List V) (H:Hp) (Q:VK) (E9:XK):Prop
 | mk (x:Addr) (a c st:Nat) (H0:Hp) (mv pt lk:LR9):vs=[.ref x,.int st]->st<=1000->lI K H0 H C x mv pt lk->gV mv pt lk->lJ mv pt a c->(∀r Rs H',H r=none->aA H H'->GrL K H H' r Rs->zX mv pt Rs->Rs.length<=st+1->(∀R,Rs.getLast?=some R->∀s,(Rs.length - 1=st/\s=st\/Rs.length - 1 < st/\Rs.length - 1<=s)->∃ps,bF (fQ mv pt s) mv.length R ps)->Q (.ref r) H')->Bp K C vs H Q E9
inductive Bg (K:FG9) (C:Addr) (vs:List V) (H:Hp) (Q:VK) (E9:XK):Prop
 | mk (x:Addr) (a c st:Nat) (H0:Hp) (mv pt lk:LR9):vs=[.ref x,.int st]->st<=1000->lI K H0 H C x mv pt lk->gV mv pt lk->lJ mv pt a c->(∀r R ps H',H r=none->aA H H'->bx K H H' r R->bF (fQ mv pt st) mv.length R ps->Q (.ref r) H')->Bg K C vs H Q E9
section
variable {K:FG9} {H0 H1 H H':Hp} {p l:Addr} {rows mv pt R R':LR9} {Rs:List (LR9)} {t:Nat}
theorem bx.weakN (h:bx K H0 H p rows) (hn:∀q,H0 q=none->H1 q=none):bx K H1 H p rows:=by obtain ⟨xs,g,r,n⟩:=h;exact ⟨xs,g,Paired.imp' (λ_ _ ⟨q,a,b,c⟩=>⟨q,a,hn q b,c⟩) r,n⟩
theorem bx.updL (h:bx K H0 H p rows) (hl:H l=some (.lst ys)) (nl:H0 l≠none) (pl:p≠l):bx K H0 (upd H l o) p rows:=by obtain ⟨xs,g,r,n⟩:=h;exact ⟨xs,by rw[aJ pl];exact g,Paired.imp' (λ_ _ z=>cS.updL z hl nl) r,n⟩
theorem GK:bF [] n [] []:=⟨rfl,(λ_ h=>by cases h),(λ_ _ _ h=>absurd h (cH _)),(λ_ h=>absurd h (cH _)),(λ_ h=>absurd h (cH _)),(λ_ h=>absurd h (cH _)),(λ_ h=>absurd h (cH _)),(λ_ h=>absurd h (cH _))⟩
theorem zX.len (h:zX mv pt Rs):∀(t:Nat) (R:LR9),Rs[t]?=some R->t<=R.length:=by
 intro t
 induction t with
 | zero=>intro R _;exact aS _
 | succ t ih =>
  intro R e;have ht:=(aG.mp e).1;have e0:=ae (show t < Rs.length by lia);have:=ih _ e0;have:=h.up t _ R e0 e
  lia
theorem zX.snoc (h:zX mv pt (Rs++[R])) (h1:bF (fQ mv pt (Rs.length+1)) mv.length R' ps') (h2:R.length < R'.length):zX mv pt ((Rs++[R])++[R']):=by
 have l1:(Rs++[R]).length=Rs.length+1:=by rw[ao];rfl
 refine ⟨by simp,λt S e=>?_,λt S S' e e'=>?_⟩
 ·rcases aY t (Rs.length+1) with z | z
  ·rw[cD (by lia)] at e;exact h.rr t S e
  ·have ht:=(aG.mp e).1;rw[ao,aO] at ht;have:t=Rs.length+1:=by lia
   subst this;rw[bM (by lia),l1,ot] at e;cases e;exact ⟨ps',h1⟩
 ·have ht:=(aG.mp e').1;rw[ao,aO] at ht;rw[cD (by lia)] at e;rcases aY (t+1) (Rs.length+1) with z | z
  ·rw[cD (by lia)] at e';exact h.up t S S' e e'
  ·have:t=Rs.length:=by lia
   subst this;rw[bM (by lia),l1,ot] at e';cases e';rw[bM (ah _),ot] at e;cases e;exact h2
end
theorem BB {α:Type} {v:α}:∀{l:List α},l.Nodup->v∉l->∀j,(l.set j v).Nodup
 | [],_,_,_=>ki
 | a :: l,h,hn,0=>by
  rw[cO] at h;rw[List.set_cons_zero,cO];exact ⟨λz=>hn (.tail _ z),h.2⟩
 | a :: l,h,hn,j+1=>by
  rw[cO] at h;rw[List.set_cons_succ,cO];refine ⟨λz=>?_,BB h.2 (λz=>hn (.tail _ z)) j⟩;rcases cC z with z | z
  ·exact h.1 z
  ·exact hn (by rw[z];exact .head _)
structure j8 (K:FG9) (A:Addr->Prop) (H:Hp) (n:Nat) (C:V->Rat->Prop) (m p l b q0:Addr) (us ws vs:List V):Prop where
 bag:lK H b
 inn:Inner H b q0
 gm:H m=some (.lst us)
 gp:H p=some (.lst ws)
 gl:H l=some (.lst vs)
 lm:us.length=n
 row:∀x∈us++vs++ws,gW K A H n (C x) x
 nd:(us++vs++ws).Nodup
section
variable {K:FG9} {A:Addr->Prop} {H H':Hp} {n:Nat} {C C':V->Rat->Prop} {m p l b q0 q:Addr} {us ws vs zs:List V} {y:Rat} {v:V}
theorem j8.same (h:j8 K A H n C m p l b q0 us ws vs) (e:aA H H'):j8 K A H' n C m p l b q0 us ws vs :=
 ⟨h.bag.same e,(e.upto (p:=b)).2 _ h.inn,e _ _ h.gm,e _ _ h.gp,e _ _ h.gl,h.lm,λx hx=>(h.row x hx).same e,h.nd⟩
theorem j8.upto (h:j8 K A H n C m p l b q0 us ws vs) (M:Im A m p l b q0) (u:dB b H H') (B':lK H' b):j8 K A H' n C m p l b q0 us ws vs :=
 ⟨B',u.2 _ h.inn,u.other M.mb h.gm,u.other M.pb h.gp,u.other M.lb h.gl,h.lm,λx hx=>(h.row x hx).upto u h.bag M.ab,h.nd⟩
theorem j8.weak (h:j8 K A H n C m p l b q0 us ws vs) (w:∀x∈us++vs++ws,∀y,C x y->C' x y):j8 K A H n C' m p l b q0 us ws vs :=
 ⟨h.bag,h.inn,h.gm,h.gp,h.gl,h.lm,λx hx=>(h.row x hx).weak (λ_ z=>z) (w x hx),h.nd⟩
theorem j8.put (h:j8 K A H n C m p l b q0 us ws vs) (M:Im A m p l b q0) (aq:A q) (hq:H q=some (.lst zs)) (hv:cf K H y v) (hc:C (.ref q) y) (j:Nat):j8 K A (upd H q (.lst (zs.set j v))) n C m p l b q0 us ws vs:=by
 have ne:∀{z},¬A z->z≠q:=λh e=>h (by rw[e];exact aq)
 refine ⟨h.bag.upd h.inn (ne M.ab).symm (ne M.aq).symm,h.inn.upd (ne M.ab).symm,by rw[aJ (ne M.am)];exact h.gm,by rw[aJ (ne M.ap)];exact h.gp,by rw[aJ (ne M.al)];exact h.gl,h.lm,λx hx=>?_,h.nd⟩;by_cases e:x=.ref q
 ·subst e;exact (h.row _ hx).put hq hv hc j
 ·obtain ⟨q1,qs,rfl,a1,r1,l1,c1⟩:=h.row x hx;exact ⟨q1,qs,rfl,a1,r1.updL hq (λz=>e (by rw[z])),l1,c1⟩
theorem j8.set (h:j8 K A H n C m p l b q0 us ws vs) (M:Im A m p l b q0) (hx:gW K A H n (C v) v) (hn:v∉us++vs++ws) (j:Nat):j8 K A (upd H m (.lst (us.set j v))) n C m p l b q0 (us.set j v) ws vs:=by
 have mem:∀x∈us.set j v++vs++ws,x=v\/x∈us++vs++ws:=λx hx=>by
  rcases ay.mp hx with hx | hx
  ·rcases ay.mp hx with hx | hx
   ·rcases cC hx with hx | hx
    ·exact .inr (by simp [hx])
    ·exact .inl hx
   ·exact .inr (by simp [hx])
  ·exact .inr (by simp [hx])
 refine ⟨h.bag.upd h.inn M.mb M.mq,h.inn.upd M.mb,az,by rw[aJ M.mp.symm];exact h.gp,by rw[aJ M.ml.symm];exact h.gl,by rw[cQ];exact h.lm,λx hx'=>?_,?_⟩
 ·rcases mem x hx' with rfl | hx'
  ·exact hx.other h.gm M.am
  ·exact (h.row x hx').other h.gm M.am
 ·have nd:=h.nd;rw[b9] at nd hn ⊢;obtain ⟨n1,n2,n3⟩:=fK.mp nd;refine fK.mpr ⟨?_,n2,λa ha c hc=>?_⟩
  ·rcases aY j us.length with z | z
   ·exact BB n1 (λz'=>hn (ay.mpr (.inl z'))) j
   ·rw[List.set_eq_of_length_le z];exact n1
  ·rcases cC ha with ha | rfl
   ·exact n3 a ha c hc
   ·exact λz=>hn (ay.mpr (.inr (by rw[z];exact hc)))
end
theorem Je (h0:0 < M) (h1:M<=2^800) (hW:W<=2^140) (h:Fr M W x):kd x :=
 De h0 (af h1 (ar (by decide) (by decide))) (af hW (ar (by decide) (by decide))) h
theorem N7 {t V c:Nat} (ht:t<=3) (hV:V<=2^20) (hc:c<=9):c*(9^t*V)<=2^140:=by
 have h1:9^t<=9^3:=ar (by decide) ht;have h2:c*(9^t*V)<=9*(9^3*2^20):=aZ hc (aZ h1 hV);exact af h2 (af (show 9*(9^3*2^20)<=2^40 by decide) (ar (by decide) (by decide)))
theorem zj {α:Type} {l:List α} {v:α} (h:l.Nodup) (hn:v∉l):(l++[v]).Nodup:=fK.mpr ⟨h,by simp,λa ha c hc=>by rw[bD.mp hc];exact λz=>hn (by rw[<- z];exact ha)⟩
section
variable {K:FG9} {a:Addr} {xs:List V} {g:TG} {tf:TT} {te:TE} {Q:VK} {σ₀:St} {H:Hp} {α β:Type}
theorem BQ (G:Hp->β->V->Prop) (C:β->Prop) (hB:lK H b) (hl:n<=1000) (hG:∀{H' H'' c x},G H' c x->dB b H' H''->lK H' b->G H'' c x)
  (hA:∀{H' c x},G H' c x->∃q,x=V.ref q/\H' q≠none)
  (hs:∀(i:Nat) H' NY NN,i < n->dB b H H'->lK H' b->(∀y c H2,dB b H' H2->lK H2 b->C c->G H2 c y->(∃q,y=V.ref q/\H' q=none)->NY y H2)->rj σ₀ g tf te (.int i) H' NY NN)
  (hd:∀ys cs H' p,H p=none->dB b H H'->lK H' b->H' p=some (.lst ys)->cs.length=n->ys.Nodup->(∀c∈cs,C c)->Paired (G H') cs ys->(∃H2,H2 p=none/\Paired (G H2) cs ys)->Q (.ref p) H'):sT (F8 0 n) σ₀ g tf te Q H:=by
 refine qL (λi ys H'=>dB b H H'/\lK H' b/\∃cs,cs.length=i/\ys.Nodup/\(∀c∈cs,C c)/\Paired (G H') cs ys) j7 ⟨(aA.refl _).upto,hB,[],rfl,ki,(λ_ z=>nomatch z),.nil⟩ ?_ ?_
 ·rintro i ys H' hi hlen ⟨u,B,cs,lc,nd,hc,pr⟩;rw[xY];refine hs i H' _ _ hi u B λy c H2 u2 B2 cc gy ⟨q,ey,nq⟩=>⟨u.trans u2,B2,cs++[c],by simp [lc],zj nd (λz=>by obtain ⟨c',_,gc⟩:=fe pr z;obtain ⟨q',e',h'⟩:=hA gc;rw[ey] at e';cases e';exact h' nq),Jq hc cc,bR (Paired.imp' (λ_ _ z=>hG z u2 B) pr) (.cons gy .nil)⟩
 ·rintro ys H' hy ⟨u,B,cs,lc,nd,hc,pr⟩ p hp;have s:aA H' (upd H' p (.lst ys)):=aA.new hp;exact hd ys cs _ p (u.none B hp) (u.same s) (B.same s) az lc nd hc (Paired.imp' (λ_ _ z=>hG z s.upto B) pr) ⟨H',hp,pr⟩
end
structure Ik (K:FG9) (A:Addr->Prop) (n:Nat) (C:Rat->Prop) (m p l b q0:Addr) (us ws vs:List V) (H0 H:Hp):Prop where
 mix:j8 K A H n (λ_=>C) m p l b q0 us ws vs
 gp:H p=some (.lst ws)
 gl:H l=some (.lst vs)
 kp:iT A b m H0 H
section
variable {K:FG9} {A:Addr->Prop} {n:Nat} {C:Rat->Prop} {m p l b q0 q:Addr} {us ws vs:List V} {H0 H H':Hp} {y:Rat} {v:V}
theorem Ik.same (h:Ik K A n C m p l b q0 us ws vs H0 H) (e:aA H H'):Ik K A n C m p l b q0 us ws vs H0 H':=⟨h.mix.same e,e _ _ h.gp,e _ _ h.gl,h.kp.same e⟩
theorem Ik.upto (h:Ik K A n C m p l b q0 us ws vs H0 H) (M:Im A m p l b q0) (u:dB b H H') (B:lK H' b):Ik K A n C m p l b q0 us ws vs H0 H':=⟨h.mix.upto M u B,u.other M.pb h.gp,u.other M.lb h.gl,h.kp.upto u⟩
theorem Ik.row (h:Ik K A n C m p l b q0 us ws vs H0 H) (hx:x∈ws\/x∈vs):gW K A H n C x:=h.mix.row x (by rcases hx with hx | hx <;> simp [hx])
theorem Ik.put (h:Ik K A n C m p l b q0 us ws vs H0 H) (M:Im A m p l b q0) (hx:V.ref q∈ws\/V.ref q∈vs) (hv:cf K H y v) (hc:C y) (j:Nat):∃zs,H q=some (.lst zs)/\zs.length=n/\Ik K A n C m p l b q0 us ws vs H0 (upd H q (.lst (zs.set j v))):=by
 obtain ⟨q',zs,qs,e,a,g,lz,_⟩:=(h.row hx).at;cases e;have ne:∀{z},¬A z->z≠q:=λh e=>h (by rw[e];exact a)
 exact ⟨zs,g,lz,h.mix.put M a g hv hc j,by rw[aJ (ne M.ap)];exact h.gp,by rw[aJ (ne M.al)];exact h.gl,h.kp.upd (.inl a)⟩
end
inductive El (K:FG9) (vs:List V) (H:Hp) (Q:VK) (E9:XK):Prop
 | mk (b:Addr) (n w:Nat) (way first:Int):vs=[.ref b,.int n,.int way,.int first,.int w]->lK H b->n<=8->1<=w->w<=1000000->(∀r us H',H r=none->H' r=some (.lst us)->us.length=n->us.Nodup->(∀x∈us,gW K (λq=>H q=none/\q≠r) H' n (Dr (max w 6)) x)->lK H' b->dB b H H'->Q (.ref r) H')->El K vs H Q E9
theorem Md (lm:mv.length=n) (wm:∀xs∈mv,xs.length=n) (wp:∀xs∈pt,xs.length=n) (RR:bF (fQ mv pt t) n R ps) (RR':bF (fQ mv pt (t+1)) n R' ps'):bF (pt++R.map (lY mv)) n R' ps':=by
 have wk:=gU (mv:=mv) lm wp t;refine ⟨RR'.1,RR'.2.1,RR'.2.2.other ?_ ?_⟩
 ·refine sW (λi hi=>rE hi) λi hi=>oZ ?_
  rw[ag] at hi;have:=RR.2.2.span i hi;rw[<- RR.1] at this;exact yh lm wm wk RR.2.1 hi this
 ·refine sW (λi hi=>rE hi) λi hi=>oZ ?_
  rw[ag] at hi;exact yh lm wm RR.2.1 wk hi (RR.2.2.back i (by rw[<- RR.1];exact hi))
theorem Pp {F G:List jz->Rat} {r:Nat} {σ:Nat->Nat} (hF:∀ws:List jz,F (ws.map λv i=>v (σ i))=G ws):∀(post pre:List jz) (s:Rat),Aa F r (pre.map λv i=>v (σ i)) (post.map λv i=>v (σ i)) s=Aa G (σ r) pre post s
 | [],_,_=>rfl
 | v :: post,pre,s=>by
  have i1:=hF (pre++post);have i2:=Pp (r:=r) hF post (pre++[v]) (-s);simp only[dm,iB,List.map_nil,Aa] at i1 i2 ⊢;rw[i1,i2]
theorem PK {σ:Nat->Nat}:∀(rs:List Nat) (vs:List jz),qX rs (vs.map λv i=>v (σ i))=qX (rs.map σ) vs
 | [],[]=>rfl
 | [],_ :: _=>rfl
 | r :: rs,vs=>Pp (λws=>PK rs ws) vs [] 1
theorem Ly {σ:Nat->Nat}:∀{k:Nat},(vO (λi=>i) k).map σ=vO σ k
 | 0=>rfl
 | k+1=>by show σ k :: _=_;rw[Ly];rfl
theorem cw_map {τ:jz->jz} {v:Nat->jz}:∀{k:Nat},(qK v k).map τ=qK (λj=>τ (v j)) k
 | 0=>rfl
 | k+1=>by show τ (v k) :: _=_;rw[cw_map];rfl
theorem Rv:qX (vO σ k) (qK v k)=qX (vO (λi=>i) k) (qK (λj i=>v j (σ i)) k):=by
 rw[<- Ly,<- PK,cw_map]
structure Vb (r n:Nat) (Pm Y Z:Nat->Nat->Rat) (d:Rat) (W:Nat):Prop where
 d0:d≠0
 det:d=qX (vO (λi=>i) r) (qK (λj i=>Pm i j) r)
 eq:∀i,i < r->∀c,c < n->Z i c=bc r λs=>Pm i s*Y s c
 pf:∀i,i < r->∀s,s < r->Fr 1 W (Pm i s)
 zf:∀i,i < r->∀c,c < n->Fr 1 W (Z i c)
section
variable {rows fs ls:LR9} {n r M W Wv Wb k P:Nat} {Pm Y Z B E a:Nat->Nat->Rat} {d:Rat} {ps:List Nat} {rs:LR9}
end
section
variable {rows R R1 R2 mv pt:LR9} {n r M V1 W W' Wv Wb k P:Nat} {Pm Y Z B E a:Nat->Nat->Rat} {d:Rat} {ps ps1 ps2:List Nat} {rs:LR9}
theorem K6 (h0:0 < M) (h3:∀xs∈rows,∀x∈xs,Tp M W x):∀i,i < rows.length->∀c,Fr 1 W (d5 (rows.map iw) i c):=λi hi c=>by
 have hx:=getD_in (e:=[]) hi;rw[we hi];unfold bI;generalize rows.getD i []=xs at hx ⊢;by_cases hc:c < xs.length
 ·have t:=h3 xs hx _ (getD_in (e:=0) hc);obtain ⟨s,e,b⟩:=tJ t h0 (o8 (xs:=xs)) (o9 (av.mpr ⟨_,getD_in (e:=0) hc,rfl⟩)) (xS h0 (h3 xs hx));rw[eB,e];exact Fr.int b
 ·rw[aa,aH (by lia)];show Fr 1 W (_*0)
  rw[oq];exact Fr.zero
theorem Vb.of (hw:∀xs∈rows,xs.length=n) (hW:1<=W) (h0:0 < M) (h3:∀xs∈rows,∀x∈xs,Tp M W x) (RR:bF rows n R ps):∃Pm Z d,Vb ps.length n Pm (bI R) Z d W:=by
 have ent:=K6 h0 h3;obtain ⟨ls,ps2,d,I⟩:=vv hw hW (by rw[ag];exact ent) n (ah _);obtain ⟨_,_,⟨pm,B⟩,E⟩:=I;rw[ag] at B E
 have RF:BZ rows.length n (bI rows) ps2.length (λj=>ps2.getD j 0) (λi c=>d5 ls i c / d):=BZ.other (E.done λi hi c hc=>uj (n:=n) (λzs hz=>by
  obtain ⟨xs,hx,rfl⟩:=av.mp hz;rw[oW];exact hw xs hx) hc) xA xB
 obtain ⟨e1,e2,e3⟩:=RF.uniq RR.2.2 (λ_ hi=>c9.row hi) (λ_ hi=>c9.row hi);refine ⟨λi s=>d5 (rows.map iw) (pm i) (ps2.getD s 0),λi c=>d5 (rows.map iw) (pm i) c,d,?_⟩;rw[<- e1];have km:=B.km;refine ⟨B.d0,?_,λi hi c hc=>?_,λi hi s hs=>ent _ (B.rng i (by lia)) _,λi hi c hc=>ent _ (B.rng i (by lia)) _⟩
 ·rw[B.det];exact Rv
 ·have:=B.coef (i:=i) (c:=c) (by lia);rw[if_pos hi,Jy] at this;rw[this];exact aR λs hs=>by rw[<- e3 s hs c];exact eB _ _
end
section
variable {rows R R1 R2 mv pt:LR9} {n t t2 a c:Nat} {ps ps1 ps2:List Nat}
theorem CJ (RR:bF rows n R ps):bF R n R ps:=⟨RR.1,RR.2.1,RR.2.2.other (λi hi=>by rw[RR.1];exact RR.2.2.span i hi) (λi hi=>RR.2.2.back i (by rw[<- RR.1];exact hi))⟩
theorem CK (RR:bF rows n R ps) (e:ps.length=n) (hi:i < n) (c:Nat):bI R i c=if c=i then 1 else 0:=by
 have lo:∀j,j < n->j<=ps.getD j 0:=by
  intro j
  induction j with
  | zero=>intro _;exact aS _
  | succ j ih =>
   intro hj;have:=ih (by lia);have:=RR.2.2.inc j (j+1) (by lia) (by lia)
   lia
 have hi2:∀s j,j+s+1=n->ps.getD j 0<=j:=by
  intro s
  induction s with
  | zero =>
   intro j hj;have:=RR.2.2.low j (by lia)
   lia
  | succ s ih =>
   intro j hj;have:=ih (j+1) (by lia);have:=RR.2.2.inc j (j+1) (by lia) (by lia)
   lia
 have ep:∀j,j < n->ps.getD j 0=j:=λj hj=>Ni (hi2 (n - 1 - j) j (by lia)) (lo j hj)
 by_cases hc:c < n
 ·have:=RR.2.2.unit i (by lia) c (by lia);rw[ep c hc] at this;rw[this];by_cases z:i=c
  ·rw[if_pos z,if_pos z.symm]
  ·rw[if_neg z,if_neg (Ne.symm z)]
 ·rw[Hu RR.2.1 (by lia),if_neg (by lia)]
theorem Jf (h:∀i,i < rows.length->∀c,Tp M W (bI rows i c)):∀xs∈rows,∀x∈xs,Tp M W x:=λxs hx x hx'=>by
 obtain ⟨i,hi,rfl⟩:=bB hx;obtain ⟨c,hc,rfl⟩:=bB hx';have:=h i hi c;unfold bI at this;rw[aa (l:=rows),ae hi] at this;have e:(some rows[i]).getD []=rows[i]:=rfl;rw[e,aa,ae hc] at this;exact this
theorem lJ.vb (F:lJ mv pt a c) (wm:∀xs∈mv,xs.length=mv.length) (wp:∀xs∈pt,xs.length=mv.length) (ht:t<=ps.length) (RR:bF (fQ mv pt t) mv.length R ps):∃Pm Z d w,Vb ps.length mv.length Pm (bI R) Z d (2^w)/\(ps.length < mv.length/\w=(mv.length - 1)*(a+c)\/ps.length=mv.length/\w=0):=by
 have le:=RR.le;rcases aY ps.length mv.length with z | z
 ·obtain ⟨M,V,M0,Ma,hV,fm,fp,_⟩:=F;have f:=C8 rfl wm wp hV fm fp t
  obtain ⟨Pm,Z,d,vb⟩:=Vb.of (gU rfl wp t) (bK (n:=(mv.length - 1)*(a+c))) (ir M0 (n:=t)) (λxs hx x hx'=>Tp.of (f xs hx x hx') (by
   refine af (cN _ (lO Ma t)) ?_;rw[<- ve,<- bT];refine ar (by decide) ?_;rw[<- B6,aX,iu c];exact ax _ (by lia))) RR
  exact ⟨Pm,Z,d,_,vb,.inl ⟨z,rfl⟩⟩
 ·have e:ps.length=mv.length:=by lia
  obtain ⟨Pm,Z,d,vb⟩:=Vb.of (W:=2^0) (M:=1) RR.2.1 (by decide) (by decide) (Jf λi hi c=>by
   rw[RR.1,e] at hi;rw[CK RR e hi c]
   split
   ·exact ⟨1,by rw[Rat.one_mul];rfl,by decide⟩
   ·exact ⟨0,by rw[Rat.zero_mul];rfl,by decide⟩) (CJ RR)
  exact ⟨Pm,Z,d,0,vb,.inr ⟨e,rfl⟩⟩
end
def Gd (mv pt:LR9) (i:Nat) (R:LR9) (ps:List Nat):Prop:=bF (fQ mv pt i) mv.length R ps/\∃t,t<=ps.length/\t<=i/\bF (fQ mv pt t) mv.length R ps/\(t=i\/∀s,bF (fQ mv pt (t+s)) mv.length R ps)
section
variable {mv pt R R':LR9} {i:Nat} {ps ps':List Nat}
theorem Gd.start:Gd mv pt 0 [] []:=⟨GK,0,ah _,ah _,GK,.inl rfl⟩
theorem Lu (wm:∀xs∈mv,xs.length=mv.length) (wp:∀xs∈pt,xs.length=mv.length) (h:bF (fQ mv pt i) mv.length R ps) (h':bF (fQ mv pt (i+1)) mv.length R' ps') (e:ps'.length=ps.length):∀s,bF (fQ mv pt (i+s)) mv.length R ps:=BE rfl wm wp h (Md rfl wm wp h h') e
theorem Gd.step (wm:∀xs∈mv,xs.length=mv.length) (wp:∀xs∈pt,xs.length=mv.length) (h:Gd mv pt i R ps) (h':bF (fQ mv pt (i+1)) mv.length R' ps'):Gd mv pt (i+1) R' ps'/\(mv.length<=i->R'=R):=by
 obtain ⟨h0,t,t1,t2,ht,hs⟩:=h
 have st:(∀s,bF (fQ mv pt (t+s)) mv.length R ps)->Gd mv pt (i+1) R' ps'/\(mv.length<=i->R'=R):=λhs=>by
  have:=hs (i+1 - t);rw[show t+(i+1 - t)=i+1 by lia] at this;obtain ⟨rfl,rfl⟩:=this.same h';exact ⟨⟨h',t,t1,by lia,ht,.inr hs⟩,λ_=>rfl⟩
 rcases hs with rfl | hs
 ·have gr:=E7 rfl wm wp h0 h';by_cases e:ps'.length=ps.length
  ·exact st (Lu wm wp h0 h' e)
  ·refine ⟨⟨h',t+1,by lia,ah _,h',.inl rfl⟩,λhn=>?_⟩;have:=h'.le
   lia
 ·exact st hs
end
section
variable {rows R X K0:LR9} {due L:List Rat} {n m M W D E W0 W1:Nat} {ps:List Nat}
theorem MF (hl:vs.length<=N) (h:∀v∈vs,∀r∈rs,Fr 1 Wx (v r)):∃z:Int,qX rs vs=(z:Rat)/\z.natAbs<=(N*Wx)^rs.length:=by
 have f:=zG hl h;obtain ⟨z,ez⟩:=uW f;rw[ez] at f;exact ⟨z,ez,ui f⟩
end
def jH (mv:LR9):Nat->List Rat->List Rat
 | 0,x=>x
 | t+1,x=>lY mv (jH mv t x)
section
variable {mv pt lk pus:LR9} {st pu go:List Rat} {n t T c:Nat}
theorem CL (h:st.length=mv.length):∀t,(jH mv t st).length=mv.length
 | 0=>h
 | _+1=>lX
theorem LZ (D:gV mv pt lk) (h:st.length=mv.length) (hp:pu.length=pt.length) (hc:c < mv.length):(jm mv pt st pu).getD c 0=bc mv.length (λj=>bI mv c j*st.getD j 0)+bc pt.length λi=>pu.getD i 0*bI pt i c:=by
 have wc:=D.mw _ (aF hc)
 have e:(jm mv pt st pu).getD c 0=eI (mv[c]++pt.map λxs=>xs.getD c 0) (st++pu):=by
  unfold jm;rw[aa,bW,ae hc,yc hc];rfl
 rw[e,MH (by lia),eH (by lia),eH (by rw[ag];lia),wc,ag];congr 1
 ·refine aR λj _=>?_
  unfold bI;rw[aa (l:=mv),ae hc];rfl
 ·refine aR λi hi=>?_
  rw[eB];congr 1;unfold bI;rw[aa,aD,aa (l:=pt),ae hi];rfl
theorem xO:∀t,(fQ mv pt t).length=t*pt.length
 | 0=>by rw[Nat.zero_mul];rfl
 | t+1=>by
  show (pt++(fQ mv pt t).map (lY mv)).length=_
  rw[ao,ag,xO t,iq,iu]
end
section
variable {K:FG9} {H0 H H':Hp} {l p q:Addr} {R:LR9} {v:V} {mv pt:LR9} {u T:Nat}
def RG (mv pt:LR9) (u:Nat):List (LR9):=(List.range u).map λs=>pt.map (jH mv s)
theorem OX:RG mv pt (u+1)=RG mv pt u++[pt.map (jH mv u)]:=by unfold RG;rw[z8,dm];rfl
theorem Jr:∀u,(RG mv pt u).flatten=fQ mv pt u
 | 0=>rfl
 | u+1=>by
  have e:RG mv pt (u+1)=pt :: (RG mv pt u).map (List.map (lY mv)):=by
   unfold RG;rw[List.range_succ_eq_map,iB,ow];congr 1
   ·exact Nc pt
   ·rw[ow];refine D7 λs _=>?_
    show pt.map (jH mv (s+1))=(pt.map (jH mv s)).map (lY mv)
    rw[ow];rfl
  rw[e,j4,<- List.map_flatten,Jr u];rfl
theorem RE (h:xs∈pt.map (jH mv s)):xs∈fQ mv pt (s+1):=by
 rw[<- Jr,OX,List.flatten_append];exact bL _ (by simpa using h)
theorem lJ.fitP (F:lJ mv pt a c) (wm:∀xs∈mv,xs.length=mv.length) (wp:∀xs∈pt,xs.length=mv.length) (hs:s+1<=mv.length):∀xs∈mv,∀r∈pt.map (jH mv s),wd xs r:=λxs hx r hr=>by
 obtain ⟨M,V,M0,Ma,hV,fm,fp,a3,c3,e14,_⟩:=F;have f:=C8 rfl wm wp hV fm fp (s+1) r (RE hr);have V1:V<=2^c:=af (bZ _ (by lia)) hV;have e1:(s+1)*(a+c)<=mv.length*(a+c):=ax _ hs;have e2:mv.length*(a+c)+4<=mv.length*(mv.length*(a+c)+4):=bZ _ (by lia);have e3:(s+1)*(a+c)=a*(s+1)+c*(s+1):=by rw[kh,aX,aX c]
 refine ⟨a,c,a*(s+1),c*(s+1),⟨M,V,M0,Ma,V1,fm xs hx⟩,⟨M^(s+1),2^(c*(s+1)),ir M0,?_,ah _,f⟩,by lia⟩;exact af (lO Ma _) (by rw[<- ve];exact ah _)
end
theorem Tp.up (h:Tp M W q) (k:Nat) (hx:W*k<=x):Tp (M*k) x q:=by
 obtain ⟨z,e,b⟩:=h;exact ⟨z*k,by rw[qY,aM,<- e,aP];grind,by rw[eC,bX];exact af (ax _ b) hx⟩
section
variable {mv pt lk rows R N Hd:LR9} {st pr go:List Rat} {n r t T a c W B:Nat} {ps psd:List Nat} {Pm Y Z:Nat->Nat->Rat} {d:Rat}
theorem Vb.tp (V:Vb r n Pm Y Z d W) (r15:r<=15) (w1:1<=W):∃q:Nat,0 < q/\q<=(16*W)^r/\∀s,s < r->∀c,c < n->Tp q ((16*W)^r) (Y s c):=by
 have rlt:∀i∈vO (λi=>i) r,i < r:=λi hi=>by
  obtain ⟨t,ht,e⟩:=oO hi;have e:i=t:=e
  lia
 obtain ⟨q,eq,bq⟩:=MF (N:=16) (Wx:=W) (rs:=vO (λi=>i) r) (vs:=qK (λj i=>Pm i j) r) (by rw[cw_len];lia) λw hw i hi=>by
  obtain ⟨s,hs,rfl⟩:=cw_in hw;exact V.pf i (rlt i hi) s hs
 rw[rY] at bq;rw[<- V.det] at eq;have q0:q≠0:=λz=>V.d0 (by rw[eq,z];rfl)
 refine ⟨q.natAbs,by lia,bq,λs hs c hc=>?_⟩
 have cr:=BN (rs:=vO (λi=>i) r) (v:=λj i=>Pm i j) (c:=λj=>Y j c) (W:=λi=>Z i c) hs (λi hi=>by
  rw[V.eq i (rlt i hi) c hc];exact aR λj _=>eB _ _)
 obtain ⟨z,ez,bz⟩:=MF (N:=16) (Wx:=W) (rs:=vO (λi=>i) r) (vs:=KS (λj i=>Pm i j) s r++(λi=>Z i c) :: qK (λj i=>Pm i j) s) (by
  have:=congrArg List.length (cw_split (v:=λj i=>Pm i j) hs);rw[ao,bA,cw_len] at this;rw[ao,bA]
  lia) λw hw i hi=>by
   rcases ay.mp hw with hw | hw
   ·obtain ⟨s',hs',rfl⟩:=Fv hw;exact V.pf i (rlt i hi) s' hs'
   ·rcases aw.mp hw with rfl | hw
    ·exact V.zf i (rlt i hi) c hc
    ·obtain ⟨s',hs',rfl⟩:=cw_in hw;exact V.pf i (rlt i hi) s' (by lia)
 rw[rY] at bz;rw[ez,<- V.det,eq] at cr;have key:Y s c*(q:Rat)=(z:Rat):=cr.symm;rcases F4 q with h | h
 ·have hq:((q.natAbs:Nat):Rat)=(q:Rat):=by rw[<- aP,<- h]
  exact ⟨z,by rw[hq,key],bz⟩
 ·have hq:((q.natAbs:Nat):Rat)=-(q:Rat):=by rw[<- aP,<- cX];congr 1;lia
  exact ⟨-z,by rw[hq,cX,<- key];grind,by rw[ko];exact bz⟩
theorem Rg (F:lJ mv pt a c) (D8:mv.length<=8) (wm:∀xs∈mv,xs.length=mv.length) (wp:∀xs∈pt,xs.length=mv.length):∀T,∃R ps,Gd mv pt T R ps:=by
 intro T
 induction T with
 | zero=>exact ⟨_,_,Gd.start⟩
 | succ T ih =>
  obtain ⟨R,ps,G⟩:=ih;obtain ⟨RR,t,t1,t2,RRt,hs⟩:=id G;have le:=RR.le
  obtain ⟨R',ps',d,ls,S⟩:=Bs (n:=mv.length) (rows:=pt++R.map (lY mv)) (λxs hx=>by
   rcases ay.mp hx with hx | hx
   ·exact wp xs hx
   ·obtain ⟨y,_,rfl⟩:=av.mp hx;exact lX) (F.step D8 wm wp (t:=t) (by lia) RRt)
  have RR':=uT rfl wm wp RR S.rr;exact ⟨R',ps',(G.step wm wp RR').1⟩
theorem Tc (F:lJ mv pt a c) (D8:mv.length<=8) (wm:∀xs∈mv,xs.length=mv.length) (wp:∀xs∈pt,xs.length=mv.length) (RR:bF (fQ mv pt T) mv.length R ps):Gd mv pt T R ps:=by
 obtain ⟨R',ps',G⟩:=Rg F D8 wm wp T;obtain ⟨rfl,rfl⟩:=RR.same G.1;exact G
theorem lJ.rtp (F:lJ mv pt a c) (D8:mv.length<=8) (wm:∀xs∈mv,xs.length=mv.length) (wp:∀xs∈pt,xs.length=mv.length) (RR:bF (fQ mv pt T) mv.length R ps):∃q,0 < q/\q<=2^(ps.length*((mv.length - 1)*(a+c)+4))/\∀xs∈R,∀x∈xs,Tp q (2^(ps.length*((mv.length - 1)*(a+c)+4))) x:=by
 obtain ⟨_,t,t1,_,RRt,_⟩:=Tc F D8 wm wp RR;obtain ⟨Pm,Z,d,w,vb,hw⟩:=F.vb wm wp t1 RRt;have le:=RR.le;obtain ⟨q,q0,q1,q2⟩:=vb.tp (by lia) bK
 have up:(16*2^w)^ps.length<=2^(ps.length*((mv.length - 1)*(a+c)+4)):=by
  have e:(16*2^w)^ps.length=2^(ps.length*(w+4)):=by rw[show (16:Nat)=2^4 from rfl,<- bT,<- ve,aX ps.length,iu w]
  rw[e];refine ar (by decide) (cN _ ?_);rcases hw with ⟨_,rfl⟩ | ⟨_,rfl⟩ <;> lia
 refine ⟨q,q0,af q1 up,Jf λi hi e=>?_⟩;by_cases he:e < mv.length
 ·exact (q2 i (by rw[<- RR.1];exact hi) e he).mono up
 ·rw[Hu RR.2.1 (by lia)];exact Tp.zero
theorem JP (hw:∀xs∈N,xs.length=n) (hW:1<=W) (h0:0 < M) (h3:∀xs∈N,∀x∈xs,Tp M W x) (f:Nat->Nat) (hf:∀i,i < N.length->bI N i (f i)≠0/\∀j,j < N.length->j≠i->bI N j (f i)=0) (hn:∀i,i < N.length->f i < n) (RR:bF N n Hd psd):psd.length=N.length:=by
 have ent:=K6 h0 h3;obtain ⟨ls,ps2,d,I⟩:=vv hw hW (by rw[ag];exact ent) n (ah _);obtain ⟨_,_,⟨pm,B⟩,E⟩:=I;rw[ag] at B E
 have RF:BZ N.length n (bI N) ps2.length (λj=>ps2.getD j 0) (λi c=>d5 ls i c / d):=BZ.other (E.done λi hi c hc=>uj (n:=n) (λzs hz=>by
  obtain ⟨xs,hx,rfl⟩:=av.mp hz;rw[oW];exact hw xs hx) hc) xA xB
 obtain ⟨e1,_,_⟩:=RF.uniq RR.2.2 (λ_ hi=>c9.row hi) (λ_ hi=>c9.row hi);rw[<- e1];have km:=B.km;rcases aY ps2.length N.length with z | z
 ·exfalso
  have hk:=B.rng ps2.length z;obtain ⟨f1,f2⟩:=hf _ hk
  have low:∀i,i < ps2.length->d5 (N.map iw) (pm i) (f (pm ps2.length))=0:=λi hi=>by
   rw[we (B.rng i (by lia)),f2 _ (B.rng i (by lia)) (λe=>by have:=B.inj i ps2.length (by lia) z e;lia),oq]
  have lz:∀j,j < ps2.length->d5 ls j (f (pm ps2.length))=0:=λj hj=>by
   rw[B.old hj]
   exact Dk (λr hr=>by
    obtain ⟨t,ht,rfl⟩:=oO hr;exact low t ht) _ _
  have:=B.eqs ps2.length z (f (pm ps2.length));rw[if_neg (d6 _),E.zero ps2.length (ah _) z _ (hn _ hk),cu λj hj=>by rw[lz j hj,oq],we hk] at this;have bne:=u9 (rows:=N) (i:=pm ps2.length);have d0:=B.d0;rcases Nh.mp (this.trans (by grind)) with q | q
  ·exact d0 q
  ·rcases Nh.mp q with q | q
   ·exact bne q
   ·exact f1 q
 ·lia
theorem Rl (h1:∀i j,i < j->j < ps.length->ps.getD i 0 < ps.getD j 0) (h2:∀j,j < ps.length->ps.getD j 0 < n):(xj ps n).length+ps.length=n:=by
 have key:∀i,∃k,k<=ps.length/\(xj ps i).length+k=i/\(∀j,j < k->ps.getD j 0 < i)/\∀j,k<=j->j < ps.length->i<=ps.getD j 0:=by
  intro i
  induction i with
  | zero=>exact ⟨0,aS _,rfl,λj hj=>absurd hj (cH _),λj _ _=>aS _⟩
  | succ i ih =>
   obtain ⟨k,k1,k2,k3,k4⟩:=ih;rw[zE];by_cases hk:k < ps.length/\ps.getD k 0=i
   ·have hm:i∈ps:=by rw[<- hk.2];exact getD_in hk.1
    rw[if_neg (λz=>z hm)];refine ⟨k+1,hk.1,by lia,λj hj=>?_,λj hj hl=>?_⟩
    ·rcases aY j k with z | z
     ·have:=k3 j z;lia
     ·rw[show j=k by lia,hk.2];lia
    ·have:=h1 k j (by lia) hl
     lia
   ·have hm:i∉ps:=λz=>by
     obtain ⟨j,hj,ej⟩:=bB z;have ej':ps.getD j 0=i:=by rw[aa,ae hj];exact ej
     rcases aY j k with y | y
     ·have:=k3 j y;lia
     ·rcases aY k j with x | x
      ·have:=h1 k j x hj;have:=k4 k (ah _) (by lia)
       lia
      ·exact hk ⟨by lia,by rw[show k=j by lia];exact ej'⟩
    rw[if_pos hm];refine ⟨k,k1,by rw[ao,aO];lia,λj hj=>by have:=k3 j hj;lia,λj hj hl=>?_⟩;have:=k4 j hj hl;rcases aY i (ps.getD j 0) with y | y
    ·exact y
    ·exact absurd (by rw[show i=ps.getD j 0 by lia];exact getD_in hl) hm
 obtain ⟨k,k1,k2,k3,k4⟩:=key n;rcases aY k ps.length with z | z
 ·have:=k4 k (ah _) z;have:=h2 k z
  lia
 ·lia
theorem C3:∀xs∈cR R ps n,xs.length=n:=λxs hx=>by
 obtain ⟨_,_,_,rfl⟩:=vT hx;exact su
theorem vU (RR:bF rows n R ps):(cR R ps n).length+ps.length=n:=by
 unfold cR;rw[ag];exact Rl RR.2.2.inc RR.2.2.low
theorem GW (RR:bF rows n R ps) (hW:1<=W) (h0:0 < M) (h3:∀xs∈cR R ps n,∀x∈xs,Tp M W x) (RN:bF (cR R ps n) n Hd psd):psd.length+ps.length=n:=by
 have fn:∀i,i < (cR R ps n).length->∀c,c < n->c∉ps->bI (cR R ps n) i c=if c=(xj ps n).getD i 0 then 1 else 0:=λi hi c hc hp=>by
  unfold cR at hi ⊢;rw[ag] at hi;unfold bI;rw[aa (l:=List.map _ _),aD,ae hi];show (KP R ps n (xj ps n)[i]).getD c 0=_
  rw[Oq hc hp,aa,ae hi];rfl
 have fm:∀i,i < (cR R ps n).length->(xj ps n).getD i 0 < n/\(xj ps n).getD i 0∉ps:=λi hi=>by
  unfold cR at hi;rw[ag] at hi;exact xQ.mp (getD_in hi)
 have nd:(xj ps n).Nodup:=by
  unfold xj;exact List.Nodup.sublist List.filter_sublist List.nodup_range
 rw[JP C3 hW h0 h3 (λi=>(xj ps n).getD i 0) (λi hi=>⟨?_,λj hj ne=>?_⟩) (λi hi=>(fm i hi).1) RN,vU RR]
 ·rw[fn i hi _ (fm i hi).1 (fm i hi).2,if_pos rfl];decide
 ·rw[fn j hj _ (fm i hi).1 (fm i hi).2,if_neg λz=>ne ?_];unfold cR at hi hj;rw[ag] at hi hj;rw[aa,aa,ae hi,ae hj] at z;have z:(xj ps n)[i]=(xj ps n)[j]:=z;have pw:=List.pairwise_iff_getElem.mp nd;rcases jZ i j with y | y | y
  ·exact absurd z (pw i j hi hj y)
  ·exact y.symm
  ·exact absurd z.symm (pw j i hj hi y)
theorem Gs (RR:bF rows n R ps) (RN:bF (cR R ps n) n Hd psd):∀h∈Hd,∀r∈R,eI h r=0:=λh hh r hr=>by
 obtain ⟨i,hi,rfl⟩:=bB hh;have wr:=RR.2.1 r hr;have wh:=RN.2.1 _ (aF hi);obtain ⟨v,hv⟩:=RN.2.2.back i (by rw[<- RN.1];exact hi);rw[eH (by lia),wh]
 have fnh:∀c,Hd[i].getD c 0=bI Hd i c:=λc=>by
  unfold bI;rw[aa (l:=Hd),ae hi];rfl
 have e1:(bc n λc=>Hd[i].getD c 0*r.getD c 0)=bc (cR R ps n).length λt=>v t*bc n λc=>bI (cR R ps n) t c*r.getD c 0:=by
  have q:∀c,c < n->Hd[i].getD c 0*r.getD c 0=bc (cR R ps n).length λt=>v t*(bI (cR R ps n) t c*r.getD c 0):=λc _=>by
   rw[fnh c,hv c,eB,<- cI];exact aR λt _=>by grind
  rw[aR q,gX];exact aR λt _=>cI
 rw[e1];refine cu λt ht=>?_
 have mt:=aF ht;obtain ⟨at_,ha,hp,en⟩:=vT mt;obtain ⟨j,hj,rfl⟩:=bB hr;have dz:=QY (CJ RR) ha hp (ae hj) wr;rw[<- en] at dz;have wn:(cR R ps n)[t].length=n:=C3 _ mt;rw[eH (by lia),wr] at dz
 have q:(bc n λc=>bI (cR R ps n) t c*R[j].getD c 0)=0:=by
  refine Eq.trans (aR λc _=>?_) dz
  have:bI (cR R ps n) t c=(cR R ps n)[t].getD c 0:=by
   unfold bI;rw[aa (l:=cR R ps n),ae ht];rfl
  rw[this];exact eB _ _
 rw[q,oq]
end
structure Bd (mv pt:LR9) (M1 M2 V a1 a2 c:Nat):Prop where
 m1:0 < M1
 m2:0 < M2
 b1:M1<=2^a1
 b2:M2<=2^a2
 gm:GF M1 V mv
 gp:GF M2 V pt
 vc:(mv.length+4)*V<=2^c
section
variable {mv pt lk pus:LR9} {st pu go:List Rat} {M1 M2 V a1 a2 c N Np p t T ν k:Nat}
theorem QQ (gm:GF M1 V mv) (wm:∀xs∈mv,xs.length=mv.length) (vc:(mv.length+4)*V<=2^c) (ls:st.length=mv.length) (hs:∀x∈st,Fr N (2^p) x):∀t,∀x∈jH mv t st,Fr (M1^t*N) (2^(c*t+p)) x:=by
 intro t
 induction t with
 | zero =>
  intro x hx;rw[Nat.pow_zero,vf,Nat.mul_zero,Nat.zero_add];exact hs x hx
 | succ t ih =>
  intro x hx;obtain ⟨row,hr,rfl⟩:=av.mp (show x∈mv.map λxs=>eI xs (jH mv t st) from hx);have f:=Fr.dot (gm row hr) ih;rw[<- bY,aX M1,<- cZ] at f;refine f.mono ?_;rw[wm row hr,<- bY,show c*(t+1)+p=c+(c*t+p) by rw[kh];lia,bT 2 c];exact ax _ (af (ax V (show mv.length<=mv.length+4 by lia)) vc)
end
section
variable {X:Cx}
end
theorem LY (ws vs:List V) (M1 M2 M3:Nat):∃μ:V->Nat,(∀x∈ws,μ x=M2)/\(∀x∈vs,x∉ws->μ x=M3)/\(∀x,x∉ws->x∉vs->μ x=M1)/\∀x,μ x=M1\/μ x=M2\/μ x=M3:=by
 classical
 refine ⟨λx=>if x∈ws then M2 else if x∈vs then M3 else M1,λx h=>if_pos h,λx h h'=>?_,λx h h'=>?_,λx=>?_⟩
 ·show (if x∈ws then M2 else if x∈vs then M3 else M1)=M3
  rw[if_neg h',if_pos h]
 ·show (if x∈ws then M2 else if x∈vs then M3 else M1)=M1
  rw[if_neg h,if_neg h']
 ·show (if x∈ws then M2 else if x∈vs then M3 else M1)=M1\/(if x∈ws then M2 else if x∈vs then M3 else M1)=M2\/(if x∈ws then M2 else if x∈vs then M3 else M1)=M3
  by_cases h:x∈ws
  ·rw[if_pos h];exact .inr (.inl rfl)
  ·rw[if_neg h];by_cases h':x∈vs
   ·rw[if_pos h'];exact .inr (.inr rfl)
   ·rw[if_neg h'];exact .inl rfl
theorem j8.apart {K:FG9} (h:j8 K A H n C m p l b q0 us ws vs):(∀x∈us,x∉ws/\x∉vs)/\∀x∈vs,x∉ws:=by
 obtain ⟨n1,n2,n3⟩:=fK.mp h.nd;obtain ⟨n4,n5,n6⟩:=fK.mp n1;exact ⟨λx hx=>⟨λz=>n3 x (ay.mpr (.inl hx)) x z rfl,λz=>n6 x hx x z rfl⟩,λx hx z=>n3 x (ay.mpr (.inr hx)) x z rfl⟩
theorem j8.fr3 {K:FG9} (h:j8 K A H n (λ_=>Dr (2^c)) m p l b q0 us ws vs):∃M1 M2 M3,0 < M1/\0 < M2/\0 < M3/\M1<=2^(c*(n*n))/\M2<=2^(c*(ws.length*n))/\M3<=2^(c*(vs.length*n))/\(∀x∈us,gW K A H n (Fr M1 (2^c)) x)/\(∀x∈ws,gW K A H n (Fr M2 (2^c)) x)/\∀x∈vs,gW K A H n (Fr M3 (2^c)) x:=by
 have one:∀l:List V,(∀x∈l,x∈us++vs++ws)->∃M,0 < M/\M<=2^(c*(l.length*n))/\∀x∈l,gW K A H n (Fr M (2^c)) x:=λl hl=>by
  obtain ⟨ra,pa,la,ha⟩:=yJ λx hx=>h.row x (hl x hx)
  obtain ⟨M,m0,m1,m2⟩:=ND (c:=c) (n:=n) (rows:=ra) ha;exact ⟨M,m0,by rw[la] at m1;exact m1,GL pa λqs hq=>⟨(ha qs hq).1,m2 qs hq⟩⟩
 obtain ⟨M1,a1,a2,a3⟩:=one us λx hx=>by simp [hx]
 obtain ⟨M2,b1,b2,b3⟩:=one ws λx hx=>by simp [hx]
 obtain ⟨M3,c1,c2,c3⟩:=one vs λx hx=>by simp [hx]
 rw[h.lm] at a2;exact ⟨M1,M2,M3,a1,b1,c1,a2,b2,c2,a3,b3,c3⟩
inductive Bn (K:FG9) (xs:List V) (H:Hp) (Q:VK) (E9:XK):Prop
 | mk (b m p l q0:Addr) (n V1:Nat) (μ:V->Nat) (A:Addr->Prop) (us ws vs:List V):xs=[.ref b,.ref m,.ref p,.ref l]->Im A m p l b q0->j8 K A H n (λx=>Fr (μ x) V1) m p l b q0 us ws vs->n<=8->ws.length<=4->vs.length<=4->(∀x,0 < μ x)->(∀x,μ x<=2^800)->(∃M,∀x,x∉ws->x∉vs->μ x=M)->V1<=2^20->(∀q,H q=none->A q)->(∀r us' H',H' r=some (.tup [.ref m,.ref p,.ref l])->j8 K A H' n (λx=>Fr (μ x) (9^3*V1)) m p l b q0 us' ws vs->iT A b m H H'->Q (.ref r) H')->Bn K xs H Q E9
def PtG (n i o w c:Nat) (mv pt lk:LR9):Prop:=∃M1 M2 M3 V1:Nat,0 < M1/\0 < M2/\0 < M3/\GF M1 V1 mv/\GF M2 V1 pt/\GF M3 V1 lk/\((w<=9/\M1=2520/\M2=2520/\M3=2520/\V1=9^3*9)\/(9 < w/\M1<=2^(c*(n*n))/\M2<=2^(c*(i*n))/\M3<=2^(c*(o*n))/\V1=9^3*2^c))
inductive Bh (K:FG9) (vs:List V) (H:Hp) (Q:VK) (E9:XK):Prop
 | mk (b:Addr) (n i o w c:Nat):vs=[.ref b,.int n,.int i,.int o,.int w]->lK H b->n<=8->i<=4->o<=4->1<=w->w<=1000000->max w 6<=2^c->c<=20->c*((n+i+o)*n)<=800->(∀r mv pt lk H',qP K H H' r mv pt lk->mv.length=n->pt.length=i->lk.length=o->gV mv pt lk->PtG n i o w c mv pt lk->lK H' b->dB b H H'->Q (.ref r) H')->Bh K vs H Q E9
open PySem.MeetsSeq
section
variable {rows rows0 fs l2 R Hd:LR9} {hd:List Rat} {n P:Nat} {ps psd:List Nat}
theorem Tp.neg (h:Tp M W x):Tp M W (-x):=by
 obtain ⟨z,e,b⟩:=h;exact ⟨-z,by rw[Rat.neg_mul,e];exact (cX z).symm,by rw[ko];exact b⟩
end
inductive Bi (K:FG9) (vs:List V) (H:Hp) (Q:VK) (E9:XK):Prop
 | mk (p:Addr) (n w:Nat) (H0:Hp) (rows R:LR9) (ps:List Nat):vs=[.ref p,.int n]->bx K H0 H p R->R.length<=100->n<=100->bF rows n R ps->AZ R n w->(∀xs∈R,∀x∈xs,kd x)->(∀r H',H r=none->aA H H'->bx K H H' r (cR R ps n)->Q (.ref r) H')->Bi K vs H Q E9
structure TR (A lk:LR9) (e:Nat):Prop where
 n8:A.length<=8
 wm:∀xs∈A,xs.length=A.length
 wp:∀xs∈lk,xs.length=A.length
 kf:∃a c,lJ A lk a c/\A.length*((A.length - 1)*(a+c)+4)<=900/\∀p,p<=A.length->(A.length - p)*(p*((A.length - 1)*(a+c)+4)+4)<=e
 e1:e<=1650
def sP (A lk:LR9) (n t e:Nat) (Hd:LR9):Prop:=∃R ps psd M,bF (fQ A lk t) n R ps/\bF (cR R ps n) n Hd psd/\psd.length+ps.length=n/\0 < M/\M<=2^e/\∀xs∈Hd,∀x∈xs,Tp M (2^e) x
section
variable {A lk R Hd:LR9} {e T n t:Nat} {ps psd:List Nat}
theorem TR.sw (h:TR A lk e) (RR:bF (fQ A lk T) A.length R ps):(∃w,AZ R A.length w)/\(∀xs∈R,∀x∈xs,kd x)/\∃w,AZ (cR R ps A.length) A.length w/\min (cR R ps A.length).length A.length*(w+4)<=e/\∃q,0 < q/\∀xs∈cR R ps A.length,∀x∈xs,Tp q (2^w) x:=by
 obtain ⟨a,c,KF,b1,b2⟩:=h.kf;obtain ⟨q,q0,q1,q2⟩:=KF.rtp h.n8 h.wm h.wp RR;have n8:=h.n8;have le:=RR.le;have lR:=RR.1;have cnt:=vU RR;have e1:=h.e1;have bp:=b2 ps.length le;generalize (A.length - 1)*(a+c)+4=E at b1 b2 q1 q2 bp;have pE:ps.length*E<=900:=af (ax _ le) b1;have up:∀{m:Nat},900<=m->2^(ps.length*E)<=2^m:=λh=>ar (by decide) (by lia)
 have tn:∀xs∈cR R ps A.length,∀x∈xs,Tp q (2^(ps.length*E)) x:=λxs hx x hx'=>by
  obtain ⟨a,_,_,rfl⟩:=vT hx;exact SO q0 q1 q2 RR x hx'
 have bn:min (cR R ps A.length).length A.length*(ps.length*E+4)<=e:=af (ax _ (show min (cR R ps A.length).length A.length<=A.length - ps.length by lia)) bp;refine ⟨⟨ps.length*E,q,2^(ps.length*E),q0,af q1 (up (by decide)),bK,ah _,q2,by lia,by lia,?_⟩,λxs hx x hx'=>oA (q2 xs hx x hx') q0 (af q1 (up (by decide))) (up (by decide)),ps.length*E,⟨q,2^(ps.length*E),q0,af q1 (up (by decide)),bK,ah _,tn,by lia,by lia,by lia⟩,bn,q,q0,tn⟩;have:min R.length A.length*(ps.length*E+4)<=8*904:=aZ (by lia) (by lia)
 lia
end
inductive yi (K:FG9) (C:Addr) (vs:List V) (H:Hp) (Q:VK) (E9:XK):Prop
 | mk (x:Addr) (T e:Nat) (H0:Hp) (mv pt lk:LR9):vs=[.ref x,.int T]->T<=99->lI K H0 H C x mv pt lk->gV mv pt lk->F7 mv pt lk->TR (bu mv mv.length) lk e->(∀r Hd H',H r=none->aA H H'->bx K H H' r Hd->sP (bu mv mv.length) lk mv.length T e Hd->Q (.ref r) H')->yi K C vs H Q E9
theorem sP.dot (h:sP A lk n t e Hd) (hw:∀xs∈fQ A lk t,xs.length=n):∀x∈Hd,∀y∈fQ A lk t,eI x y=0:=λx hx y hy=>by
 obtain ⟨R,ps,psd,M,RR,RN,_⟩:=h;obtain ⟨i,hi,rfl⟩:=bB hy;have wx:=RN.2.1 x hx;have wy:=hw _ hy;obtain ⟨v,hv⟩:=RR.2.2.span i hi;rw[eH (by lia),wx]
 have e1:∀c,c < n->x.getD c 0*(fQ A lk t)[i].getD c 0=bc ps.length λs=>v s*(x.getD c 0*bI R s c):=λc _=>by
  have:(fQ A lk t)[i].getD c 0=bI (fQ A lk t) i c:=by
   unfold bI;rw[aa (l:=fQ A lk t),ae hi];rfl
  rw[this,hv c,<- cI];exact aR λs _=>by grind
 rw[aR e1,gX,cu λs hs=>?_];rw[cI];have hs':s < R.length:=by rw[RR.1];exact hs
 have wr:=RR.2.1 _ (aF hs');have dz:=Gs RR RN x hx _ (aF hs');rw[eH (by lia),wx] at dz
 have:(bc n λc=>x.getD c 0*bI R s c)=0:=by
  refine Eq.trans (aR λc _=>?_) dz;unfold bI;rw[aa (l:=R),ae hs'];rfl
 rw[this];grind
theorem sP.cnt (h:sP A lk n t e Hd) (RR:bF (fQ A lk t) n R' ps'):Hd.length+R'.length=n:=by
 obtain ⟨R,ps,psd,M,RR0,RN,c,_⟩:=h;obtain ⟨rfl,rfl⟩:=RR.same RR0;rw[RN.1,RR.1];exact c
theorem sP.szn (h:sP A lk n t e Hd) (he:e<=1650):(∀xs∈Hd,xs.length=n)/\Hd.length<=n/\(∀xs∈Hd,∀x∈xs,kd x)/\∀xs∈Hd,ph e e xs:=by
 obtain ⟨R,ps,psd,M,RR0,RN,c,M0,M1,tp⟩:=h;have up:2^e<=2^3995:=ar (by decide) (by lia);exact ⟨RN.2.1,by rw[RN.1];lia,λxs hx x hx'=>oA (tp xs hx x hx') M0 (af M1 up) up,λxs hx=>⟨M,2^e,M0,M1,ah _,λx hx'=>(tp xs hx x hx').fr M0⟩⟩
theorem F7.turn (h:F7 mv pt lk):F7 (bu mv mv.length) lk pt:=by
 obtain ⟨M,V,a,b,c,d,e,f⟩:=h;exact ⟨M,V,a,b,c,xD d,f,e⟩
section
theorem xF {M V:Nat} {f:Nat->Rat}:∀k,(∀i,i < k->Fr M V (f i))->Fr M (k*V) (bc k f)
 | 0,_=>Fr.zero
 | k+1,h=>by
  rw[iq];exact (xF k λi hi=>h i (by lia)).add (h k (by lia))
variable {d j n w M:Nat} {go ws:List Rat} {rows:LR9}
end
def Ub:Kind Unit where
 R:=λ_ _ x _=>x=.non
 d:=0
 inj:=λ_ _ _=>rfl
 rc:=λ{X pins σ H s x y v u a b A} I rx ry h1 h2 _=>by
  subst h1 h2;cases rx;cases ry;exact SeqAt.RcAt.none_none
 ne:=λ{X pins σ H s x y v u a b A} I rx ry h1 h2 _=>by
  subst h1 h2;cases rx;cases ry;exact SeqAt.RcNeAt.none_none
 eq:=λ{X pins σ H s x y v u a b A} I rx ry h1 h2 _=>by
  subst h1 h2;cases rx;cases ry;exact SeqAt.EqAt.same _
section
variable {α β γ:Type} [DecidableEq α] [DecidableEq β] [DecidableEq γ] (k1:Kind α) (k2:Kind β) (k3:Kind γ)
theorem vals3 (r:cJ [x,y,z] us):∃u v w,us=[u,v,w]/\RelV x u/\RelV y v/\RelV z w:=by
 cases r with
 | cons a r=>cases r with
  | cons b r=>cases r with
   | cons c r=>cases r;exact ⟨_,_,_,rfl,a,b,c⟩
end
section
variable {rows ends:LR9} {row due:List Rat} {n:Nat}
theorem uy (h:∀xs∈rows,∀x∈xs,Tp M W x):∀xs∈bu rows n,∀x∈xs,Tp M W x:=λxs hx x hx'=>by
 obtain ⟨c,_,rfl⟩:=av.mp hx;obtain ⟨ys,hy,rfl⟩:=av.mp hx';exact pI (h ys hy) c
end
section
variable {rows ends:LR9} {n M D c d:Nat}
theorem wo (h:Tp M W x) (M0:0 < M) (h1:M<=2^a) (h2:W<=2^a) (ha:a<=3995):kd x:=oA h M0 (af h1 (ar (by decide) ha)) (af h2 (ar (by decide) ha))
end
def JH:Sp:=λvs H Q _=>∃b,vs=[.ref b]/\lK H b/\∀r (n i o w:Nat) H',H' r=some (.tup [.int n,.int i,.int o,.int w])->n<=5->i<=4->o<=4->(w=4\/w=9\/(w=1000/\n<=2))->(n=5->i<=2/\o<=2)->lK H' b->dB b H H'->Q (.ref r) H'
def uV (n:Nat) (f:Nat->Nat->Rat):LR9:=(List.range n).map λi=>(List.range n).map λj=>f i j
section
variable {n:Nat} {f g:Nat->Nat->Rat}
theorem BI:(uV n f).length=n:=by unfold uV;rw[ag,cm]
theorem Ox:∀xs∈uV n f,xs.length=n:=λxs hx=>by obtain ⟨i,_,rfl⟩:=av.mp hx;rw[ag,cm]
theorem Mm (h:i < n):(uV n f)[i]?=some ((List.range n).map λj=>f i j):=by unfold uV;rw[aD,cy h];rfl
theorem Ke (h:i < (uV n f).length):(uV n f)[i]=(List.range n).map λj=>f i j:=by
 have:=Mm (f:=f) (n:=n) (i:=i) (by rw[BI] at h;exact h);rw[ae h] at this;exact bO this
end
section
variable {mv:LR9} {M:Int}
theorem Ir:(Ec n a).length=n:=by unfold Ec;rw[ag,cm]
end
def DH (mv pt F:LR9):LR9:=uV mv.length λa b=>bI mv a b+bc pt.length λk=>bI pt k a*bI F k b
section
variable {mv pt lk F R:LR9} {n m:Nat} {ps:List Nat} {x:Nat->Rat} {st pu:List Rat}
theorem oi:(DH mv pt F).length=mv.length:=BI
theorem Th:∀xs∈DH mv pt F,xs.length=mv.length:=Ox
theorem OS (hw:∀xs∈mv,xs.length=mv.length) (lF:F.length=pt.length):List.zipWith (λline more=>List.zipWith (λx y=>x+y) line more) mv (iD (bu pt mv.length) F mv.length)=DH mv pt F:=by
 have l1:(iD (bu pt mv.length) F mv.length).length=mv.length:=by unfold iD;rw[ag,cT]
 apply gh (by rw[aV,l1,oi,xV]);intro a h1 h2;have ha:a < mv.length:=by rw[oi] at h2;exact h2
 rw[fv];unfold DH at h2 ⊢;rw[Ke h2]
 have ea:(iD (bu pt mv.length) F mv.length)[a]'(by rw[l1];exact ha)=(bu F mv.length).map λys=>eI ys (pt.map λxs=>xs.getD a 0):=by
  have:(iD (bu pt mv.length) F mv.length)[a]?=some ((bu F mv.length).map λys=>eI ys (pt.map λxs=>xs.getD a 0)):=by
   unfold iD;rw[aD,yc ha];rfl
  rw[ae (by rw[l1];exact ha)] at this;exact bO this
 rw[ea];have wa:=hw _ (aF ha);apply gh (by rw[aV,ag,ag,cT,cm,wa,xV]);intro b h3 h4;rw[ag,cm] at h4;rw[fv,iV,iV,Gh]
 have e1:mv[a][b]'(by rw[wa];exact h4)=bI mv a b:=by
  unfold bI;rw[aa (l:=mv),ae ha];show _=(mv[a]).getD b 0
  rw[aa,ae (by rw[wa];exact h4)];rfl
 have e2:(bu F mv.length)[b]'(by rw[cT];exact h4)=F.map λxs=>xs.getD b 0:=by
  have:=yc (rows:=F) (n:=mv.length) h4;rw[ae (by rw[cT];exact h4)] at this;exact bO this
 rw[e1,e2,eH (by rw[ag,ag,lF]),ag,lF];congr 1;exact aR λk _=>by rw[L6,L6];exact eB _ _
theorem uD {a:Nat->Nat->Rat} {f:Nat->Nat->Rat} {w:Nat->Rat}:∀k,(∀i,i < k->c9 m a (f i))->c9 m a λc=>bc k λi=>w i*f i c
 | 0,_=>c9.zero λ_=>rfl
 | k+1,h=>by
  have:=c9.lin 1 (w k) (uD (w:=w) k λi hi=>h i (by lia)) (h k (by lia));exact this.congr λc=>by show _=bc k _+_;grind
end
section
variable {mv pt lk F:LR9} {M1 M2 M3 E V1 V0 a c n0 n:Nat}
theorem zF {M V i j:Nat} (h:GF M V rows):Fr M V (bI rows i j):=by
 unfold bI;rw[aa (l:=rows)];cases ei:rows[i]? with
 | none=>show Fr M V (([]:List Rat).getD j 0);exact Fr.zero
 | some xs =>
  show Fr M V (xs.getD j 0)
  rw[aa];cases ej:xs[j]? with
  | none=>exact Fr.zero
  | some y=>exact h xs (ai ei) y (ai ej)
theorem Cl81.sysd (D:gV mv pt lk):gV (DH mv pt F) pt lk:=⟨by rw[oi];exact D.n8,D.i4,D.o4,λxs hx=>by rw[oi];exact Th xs hx,λxs hx=>by rw[oi];exact D.pw xs hx,λxs hx=>by rw[oi];exact D.lw xs hx⟩
end
inductive yw (K:FG9) (vs:List V) (H:Hp) (Q:VK) (E9:XK):Prop
 | mk (p q:Addr) (w:Nat) (H0 H1:Hp) (one other:LR9):vs=[.ref p,.ref q,.int w]->bx K H0 H p one->bx K H1 H q other->one.length<=1000->other.length<=1000->w<=1000->((∀xs∈one,xs.length=other.length/\∀ys∈bu other w,wd ys xs))->(∀xs∈other,xs.length=w)->(∀r H',H r=none->aA H H'->bx K H H' r (iD one other w)->Q (.ref r) H')->yw K vs H Q E9
inductive iY {α:Type}:Sem α->Prop
 | pure (a:α):iY (.pure a)
 | raise (e:Value):iY (.raise e)
 | uns (w:String):iY (.unsupported w)
 | rule {t:String} {k:Unit->Sem α} (h:∀u,iY (k u)):iY (.rule t k)
 | load {a:Addr} {p:Option Value} {k:Obj->Sem α} (h:∀o,iY (k o)):iY (.load a p k)
 | update {a:Addr} {p:Option Value} {f:Obj->Obj} {k:Unit->Sem α} (hf:∀o,(f o).dict=o.dict) (h:∀u,iY (k u)):iY (.update a p f k)
 | alloc {o:Obj} {k:Addr->Sem α} (h:∀a,iY (k a)):iY (.alloc o k)
 | alive {a:Addr} {k:Option Obj->Sem α} (h:∀o,iY (k o)):iY (.loadIfAlive a k)
 | stack {k:List (Code×Pos)->Sem α} (h:∀l,iY (k l)):iY (.stack k)
 | reg {a:Addr} {k:Unit->Sem α}:iY (.register a k)
 | ask {k:Setting->Sem α} (h:∀x,iY (k x)):iY (.ask k)
theorem iY.bind {m:Sem α} {f:α->Sem β} (hm:iY m) (hf:∀a,iY (f a)):iY (m >>= f):=by
 show iY (Sem.bind m f)
 induction hm with
 | pure a=>exact hf a
 | raise e=>exact .raise e
 | uns w=>exact .uns w
 | rule _ ih=>exact .rule λu=>ih u
 | load _ ih=>exact .load λu=>ih u
 | update hg _ ih=>exact .update hg λu=>ih u
 | alloc _ ih=>exact .alloc λu=>ih u
 | alive _ ih=>exact .alive λu=>ih u
 | stack _ ih=>exact .stack λu=>ih u
 | reg=>exact .reg
 | ask _ ih=>exact .ask λu=>ih u
def jd (e:Addr) (d:Option Addr) (h:Heap):Prop:=e < h.objs.size/\∀o,h.objs[e]?=some o->o.dict=d
theorem jd.get (x:jd e d h) (q:h.get? e=some o):o.dict=d:=by
 unfold Heap.get? at q
 split at q
 ·cases q
 ·exact x.2 o q
theorem jd.of (q:h.get? e=some o):jd e o.dict h:=by
 refine ⟨Heap.lt_size q,λo' q'=>?_⟩;unfold Heap.get? at q
 split at q
 ·cases q
 ·rw[q'] at q;cases q;rfl
theorem jd.update (x:jd e d h) (hf:∀o,(f o).dict=o.dict):jd e d (h.update a f):=by
 obtain ⟨objs,l⟩:=h;refine ⟨by show e < (objs.modify a f).size;rw[Array.size_modify];exact x.1,λo q=>?_⟩;have q:(objs.modify a f)[e]?=some o:=q;rw[Array.getElem?_modify] at q
 split at q
 ·obtain ⟨o',q',rfl⟩:=Option.map_eq_some_iff.mp q;rw[hf];exact x.2 o' q'
 ·exact x.2 o q
theorem jd.push (x:jd e d h):jd e d (h.push o):=by
 obtain ⟨objs,l⟩:=h;refine ⟨by show e < (objs.push o).size;rw[Array.size_push];exact Jz x.1,λo' q=>?_⟩;have q:(objs.push o)[e]?=some o':=q;rw[Array.getElem?_push,if_neg (bw x.1)] at q;exact x.2 o' q
section
variable {M:Model} {e:Addr} {d:Option Addr}
theorem Nn {t:Sem α} (ht:iY t) {Q:α->Pos->Shared->Prop}:∀{p:Pos} {s:Shared},Sem.wp M Γ t Q E p s->jd e d s.heap →
  Sem.wp M Γ t (λa p s'=>Q a p s'/\jd e d s'.heap) (λv p s'=>E v p s'/\jd e d s'.heap) p s:=by
 induction ht with
 | pure a=>exact λh x=>⟨h,x⟩
 | raise v=>exact λh x=>⟨h,x⟩
 | uns w=>exact λh _=>h
 | reg=>exact λh _=>h
 | rule _ ih=>exact λh x=>ih () h x
 | load _ ih=>exact λ⟨o,ho,h⟩ x=>⟨o,ho,ih o h x⟩
 | update hf _ ih=>exact λ⟨ha,h⟩ x=>⟨ha,ih () h (x.update hf)⟩
 | alloc _ ih=>exact λh x=>ih _ h x.push
 | alive _ ih=>exact λh x=>ih _ h x
 | stack _ ih=>exact λh x=>ih _ h x
 | ask _ ih=>exact λh x=>ih _ h x
theorem mU {t:Sem α} (ht:iY t) {Q:α->Shared->Prop} (h:wpAny M A t Q E s) (x:jd e d s.heap) :
  wpAny M A t (λa s'=>Q a s'/\jd e d s'.heap) (λv s'=>E v s'/\jd e d s'.heap) s:=λΓ p hΓ=>Nn ht (h Γ p hΓ) x
end
theorem MJ (a:Addr) (p:Option Value):iY (Sem.load a p Sem.pure):=.load λo=>.pure o
theorem Ff (v:Value):iY (fieldsOf v):=by
 unfold fieldsOf;cases v <;> try exact .uns _
 refine iY.bind (MJ _ _) λo=>?_
 cases o.data <;> first | exact .pure _ | exact .uns _
theorem uZ (v:Value) (i:Nat):iY (field v i):=by
 unfold field;refine iY.bind (Ff v) λvs=>?_
 split
 ·exact .pure _
 ·exact .uns _
theorem zu (f:Array Value->Array Value) (o:Obj):(o.mapFields f).dict=o.dict:=by
 obtain ⟨c,d,dt,sl⟩:=o;cases dt <;> rfl
theorem sJ (v:Value) (i:Nat) (x:Value):iY (setField v i x):=by
 unfold setField;cases v <;> try exact .uns _
 show iY (updateField _ i x)
 unfold updateField;refine iY.bind (MJ _ _) λo=>?_
 cases o.data <;> try exact .uns _
 dsimp only
 split
 ·exact .update (λo=>zu _ o) λu=>.pure u
 ·exact .uns _
theorem qJ (e:Value) (f:Option Addr):iY (setFlight e f):=by
 unfold setFlight;refine iY.bind (uZ e 1) λtb=>?_
 split
 ·exact sJ _ _ _
 ·exact .pure _
theorem Kj (env:Env) (l:List Env):iY (behindIsImport env l):=by
 unfold behindIsImport
 split
 ·exact .pure _
 ·split
  ·exact .pure _
  ·exact iY.bind (uZ _ _) λ_=>.pure _
theorem OJ (env:Env) (b:Bool):∀l:List Env,iY (keptBack env b l)
 | []=>by
  simp only[keptBack]
  split
  ·exact .pure _
  ·refine iY.bind ?_ λ_=>.pure _
   unfold underTheClaimsCaller;exact iY.bind (.stack λl=>.pure l) λ_=>.pure _
 | _ :: _=>.pure _
theorem Fe:∀l:List Env,iY (readyFrames l)
 | []=>.pure _
 | env :: outer=>by
  unfold readyFrames
  split
  ·refine iY.bind (MJ _ _) λo=>?_
   split
   ·exact .pure _
   ·refine iY.bind (Kj _ _) λb=>iY.bind (OJ _ _ _) λv=>iY.bind (.update (λ_=>rfl) λu=>.pure u) λ_=>Fe outer
  ·exact .uns _
theorem HJ (env:Env):iY (PySem.frameOf env):=by
 unfold PySem.frameOf;refine iY.bind (iY.bind (.stack λl=>.pure l) λ_=>.pure _) λl=>iY.bind ?_ λo=>?_
 ·unfold frameObject
  split
  ·exact .pure _
  ·exact iY.bind (Fe _) λ_=>.pure _
 ·cases o
  ·exact .uns _
  ·exact .pure _
theorem MI (f:Addr) (b:Bool):iY (entryPlaceOf f b):=by
 unfold entryPlaceOf;refine iY.bind (.stack λl=>.pure l) λl=>?_
 split <;> exact .pure _
theorem MK (a b c d e:Value) (l:List Value):iY (EntryCells.newEntry a b c d e l):=by
 unfold EntryCells.newEntry newFields;generalize ([a,b,c,d,e]++if l.isEmpty then List.replicate 6 Value.none else l).toArray=vs;have fin:iY (newObjAsIs (.type "traceback") (.fields vs)):=iY.bind (.alloc λa=>.pure a) λ_=>.pure _
 unfold newObj
 dsimp only
 split
 ·exact iY.bind (.uns _) λ_=>fin
 ·exact fin
theorem Jh (e:Value) (env:Env):iY (noteFrame e env):=by
 unfold noteFrame
 split
 ·refine iY.bind (uZ e 1) λh=>?_
  have last:∀f:Addr,iY (do setField e 1 (<- EntryCells.newEntry h (<- PySem.frameOf env) .none (rawInt f) .none (<- entryPlaceOf f (h != .none)))):=λf =>
   iY.bind (HJ env) λ_=>iY.bind (MI _ _) λ_=>iY.bind (MK _ _ _ _ _ _) λ_=>sJ _ _ _
  split
  ·refine iY.bind (uZ _ _) λv=>?_
   split
   ·exact .pure _
   ·exact iY.bind (sJ _ _ _) λ_=>last _
  ·exact last _
 ·exact .uns _
theorem zJ (env:Env) (e:Value):iY (leaving env e):=iY.bind (Jh e env) λ_=>qJ e none
theorem fu.there (x:fu P w H h a o):∃u,h.get? a=some u:=by
 cases o with
 | lst xs=>obtain ⟨_,_,_,_,e⟩:=x;exact ⟨_,e⟩
 | tup xs=>obtain ⟨_,_,_,o,e,_⟩:=x;exact ⟨_,e⟩
 | dK kvs=>obtain ⟨_,_,_,_,o,_,_,e,_⟩:=x;exact ⟨_,e⟩
 | dT kvs=>obtain ⟨_,_,_,_,o,_,_,e,_⟩:=x;exact ⟨_,e⟩
 | set S n=>obtain ⟨o,_,_,_,e,_⟩:=x;exact ⟨_,e⟩
 | ins C dx fs=>obtain ⟨_,_,_,e,_⟩:=x;exact ⟨_,e⟩
 | own y=>exact x
 | xd fs=>obtain ⟨_,⟨_,_,_,e,_⟩,_⟩:=x;exact ⟨_,e⟩
 | rng lo hi=>obtain ⟨_,_,_,e⟩:=x;exact ⟨_,e⟩
 | frz ob u=>obtain ⟨e,_⟩:=x;exact ⟨_,e⟩
 | tbl ps=>exact ⟨_,(show h.get? a=some _ from x)⟩
 | met f y=>exact ⟨_,(show h.get? a=some _ from x)⟩
 | ext φ=>exact x.2.1
section
variable {P:Program} {w:World} {fs:List Addr} {H H1 H2:Hp} {h0 h1 h2 B:Heap}
theorem Hw (U:Un fs [] H H1 h0 h1) (ok:vm P w H1 h1) (hB1:B.StaysIn h1) (hB2:B.StaysIn h2) (up:h1.UpToSlots h2)
  (c1:∀b u,H1 b=some u->∃o,B.get? b=some o) (c2:∀b o,h0.get? b=some o->b∉fs->∃o',B.get? b=some o')
  (hf:∀b∈fs,H b=none) (hd:∀b∈fs,∀o,h0.get? b=some o->∀vs,o.data≠.fields vs):Un fs [] H H1 h0 h2/\vm P w H1 h2:=by
 have same:∀b o,h1.get? b=some o->(∃o',B.get? b=some o')->h2.get? b=some o:=λb o e ⟨o',eb⟩=>by
  have z:=hB1 _ _ eb;rw[e] at z;cases z;exact hB2 _ _ eb
 have slot:∀b o,h0.get? b=some o->b∈fs->∃sl,h2.get? b=some { o with slots:=sl }:=λb o e hb=>by
  obtain ⟨sl,e1⟩:=U.slot b o e (hf b hb) hb (by simp);obtain ⟨sl2,e2⟩:=up b _ e1 (hd b hb o e);exact ⟨sl2,e2⟩
 refine ⟨⟨λb o e n hb hx=>same b o (U.keep b o e n hb hx) (c2 b o e hb),λb o e n hb _=>slot b o e hb,U.free,λb o e hx=>?_,U.tups,U.frzs,U.tbls⟩,λa o e=>?_⟩
 ·by_cases hb:b∈fs
  ·obtain ⟨sl,q⟩:=slot b o e hb;exact ⟨_,q⟩
  ·obtain ⟨o',q⟩:=c2 b o e hb;exact ⟨o',hB2 _ _ q⟩
 ·refine (ok a o e).stay (λb u hb q=>same b u q ?_) (λ_ q=>q) λ_ _ q=>q
  rcases hb with z | z
  ·rw[z];exact c1 a o e
  ·exact c1 b _ z
theorem Un.inner {L:Addr} (a:Un fs [] H H1 h0 h1) (b:Un (L :: fs) [] H1 H2 h1 h2) (hL:h0.get? L=none):Un fs [] H H2 h0 h2 where
 keep:=λc o q n hc hx=>b.keep c o (a.keep c o q n hc hx) (a.free c o q n hx) (λz=>(aw.mp z).elim (λe=>by rw[e,hL] at q;cases q) hc) hx
 slot:=λc o q n hc hx=>by
  obtain ⟨sl,e1⟩:=a.slot c o q n hc hx;obtain ⟨sl',e2⟩:=b.slot c _ e1 (a.free c o q n hx) (bG _ hc) hx;exact ⟨sl',e2⟩
 free:=λc o q n hx=>by
  obtain ⟨o',e1⟩:=a.there c o q hx;exact b.free c o' e1 (a.free c o q n hx) hx
 there:=λc o q hx=>by
  obtain ⟨o',e1⟩:=a.there c o q hx;exact b.there c o' e1 hx
 tups:=λc xs q=>b.tups c xs (a.tups c xs q)
 frzs:=λc o xs q=>b.frzs c o xs (a.frzs c o xs q)
 tbls:=λc ps q=>by
  obtain ⟨m1,e1⟩:=a.tbls c ps q;obtain ⟨m2,e2⟩:=b.tbls c _ e1;exact ⟨m1++m2,by rw[e2,Array.append_assoc]⟩
end
structure RQ (P:Program) (w:World) (outer:List Env) (H:Hp) (s:Shared) (H':Hp) (ea t:Addr) (cls:Value) (B:Heap) (s':Shared):Prop where
 os:s'.os=s.os
 bare:AllBare s'.gens
 un:Un (uw outer) [] H H' s.heap s'.heap
 hok:vm P w H' s'.heap
 fly:Heap.FlyingW B outer ea cls (.ref t) s'.heap
 c1:∀b u,H' b=some u->∃o,B.get? b=some o
 c2:∀b o,s.heap.get? b=some o->b∉uw outer->∃o',B.get? b=some o'
structure Fly (P:Program) (w:World) (outer:List Env) (H:Hp) (s:Shared) (H':Hp) (ea t:Addr) (cls:Value) (dx:Option Addr) (B:Heap) (s':Shared):Prop extends RQ P w outer H s H' ea t cls B s' where
 dct:jd ea dx s'.heap
def M9 (P:Program) (w:World):Jx:=λouter H s E e s'=>∃ea t cls dx H' B,e=.ref ea/\Fly P w outer H s H' ea t cls dx B s'/\E cls dx H'
section
variable {P:Program} {w:World} {K:FG9} {mg:Str->Option Value} {base:Heap} {N:List Str} {qual:Str} {scope:Scope} {f:Addr} {cd:Value} {A:Around} {outer:List Env} {s:Shared} {H:Hp} {E:XK}
theorem E8 (hf:env.frame=some L):uw (env :: outer)=L :: uw outer:=by unfold uw;rw[sU,hf]
theorem uK:sQ (M9 P w) (zL (M9 P w) P w K mg base N qual scope f cd A outer s H E) E:=by
 rintro pins σ H1 s1 e s' I ⟨ea,t,cls,dx,H',B,rfl,F,hE⟩;have hfr:(A.deeper (envOfC qual scope s.heap.objs.size f cd)).frames=some (envOfC qual scope s.heap.objs.size f cd :: outer):=I.ok.frames;have nL:∀b o,s.heap.get? b=some o->b≠s.heap.objs.size:=λb o q=>bw (Heap.lt_size q)
 have hf:uw (envOfC qual scope s.heap.objs.size f cd :: outer)=s.heap.objs.size :: uw outer:=E8 rfl;have un:Un (s.heap.objs.size :: uw outer) [] H1 H' s1.heap s'.heap:=hf ▸ F.un;have hU:Un (uw outer) [] H H1 s.heap s1.heap:=I.base;have U1:Un (uw outer) [] H H' s.heap s'.heap:=hU.inner un (Heap.get?_none_of_le (ah _));refine wpAny_mono (mU (e:=ea) (d:=dx) (zJ _ _) (wpAny_leaves_onW (E:=λ_ _=>False) (Q:=λ_ s2=>RQ P w outer H s H' ea t cls B s2) hfr rfl F.fly λh2 x1 x2=>?_) F.dct) (λ_ s2 ⟨F0,dc⟩=>⟨ea,t,cls,dx,H',B,rfl,⟨F0,dc⟩,hE⟩) (λ_ _ z=>z.1.elim)
 have c2:∀b o,s.heap.get? b=some o->b∉uw outer->∃o',B.get? b=some o':=λb o q hb=>by
  obtain ⟨o',e⟩:=I.base.there b o q (aE);refine F.c2 b o' e λz=>?_
  have z:b∈uw (envOfC qual scope s.heap.objs.size f cd :: outer):=z;rw[hf] at z;rcases aw.mp z with z | z
  ·exact nL b o q z
  ·exact hb z
 obtain ⟨U2,ok2⟩:=Hw U1 F.hok F.fly.1 x1.1 x2 F.c1 c2 I.ok.frf (λb hb o q=>by
  obtain ⟨_,o',e',d⟩:=I.ok.funs.mem hb;have e':s.heap.get? b=some o':=e';rw[q] at e';cases e';exact d)
 exact ⟨F.os.trans I.os,F.bare,U2,ok2,x1,F.c1,c2⟩
end
abbrev vo:List Value:=[.type "ValueError",.type "Exception",.type "BaseException",.type "object"]
theorem OD {K:FG9} (X':K.In h) (hk:PySem.W.excIn K C vo "ValueError.__new__"=true) :
  ∃bm N nm q bs hdct sn sub ab col dd k0 k1 k2 k3 k5 mN,h.get? C=some (excClassObj nm q C N bs bm hdct sn sub ab col dd k0 k1 k2 k3 k5 "ValueError.__new__")/\h.Ns N mN/\mN "__init__"=none/\OwnTail h vo bm:=by
 unfold PySem.W.excIn at hk
 split at hk
 ·rename_i dd cd sl ho
  split at hk
  ·rename_i C' bm k0 k1 k2 k3 n k5 hm hs
   simp only[dA,beq_iff_eq,Bool.not_eq_true'] at hk;obtain ⟨⟨⟨⟨⟨rfl,rfl⟩,hdel⟩,ht⟩,hok⟩,hni⟩:=hk;obtain ⟨nm,bs,mro,ns,qn,hd',sn,sub,ab,col,del⟩:=cd
   dsimp only at hm hdel hok hni
   subst hm hdel
   have hsl:sl=#[k0,k1,k2,k3,some (.builtin "ValueError.__new__"),k5]:=by
    obtain ⟨l⟩:=sl;simp only at hs;rw[hs]
   subst hsl;exact ⟨bm,ns,nm,qn,bs,hd',sn,sub,ab,col,dd,k0,k1,k2,k3,k5,_,X' _ _ ho,.of_isNs (PySem.W.isNs_of_in X' hok),PySem.W.nsMap_none_of_in X' hok hni,PySem.W.tail_of_in X' ht⟩
  ·cases hk
 ·cases hk
abbrev Cx.tr (X:Cx) (pn:List (Addr×Obj)) (xe:Value->Shared->Prop):Cx:={ X with pn:=pn,xe:=xe }
abbrev Cx.sm (X:Cx) (ea:Addr):Cx:={ X with A:=X.A.mark (some (.ref ea)),calm:=false,xe:=λ_ _=>False }
section
variable {X:Cx} {pins:List (Addr×Obj)} {σ:St} {H H':Hp} {s:Shared}
theorem Inv.tr (I:Inv X pins σ H s) (xe:Value->Shared->Prop):Inv (X.tr (X.pn++pins) xe) [] σ H s :=
 ⟨⟨I.ok.mod,I.ok.kind,I.ok.glob,I.ok.blt,I.ok.above,I.ok.inj,I.ok.has,I.ok.cab,I.ok.hd,I.ok.frames,I.ok.stk,I.ok.exf,I.ok.bs,I.ok.bsz,I.ok.noex,I.ok.exfs,I.ok.funs,I.ok.frf⟩,
  I.os,I.bare,I.base,I.loc,I.cell,I.free,I.freeC,λp hp=>I.pin p (by simpa using hp),I.hok,I.len⟩
theorem Inv.untr (I:Inv (X.tr (X.pn++pins) xe) ps σ H s):Inv X pins σ H s :=
 ⟨⟨I.ok.mod,I.ok.kind,I.ok.glob,I.ok.blt,I.ok.above,I.ok.inj,I.ok.has,I.ok.cab,I.ok.hd,I.ok.frames,I.ok.stk,I.ok.exf,I.ok.bs,I.ok.bsz,I.ok.noex,I.ok.exfs,I.ok.funs,I.ok.frf⟩,
  I.os,I.bare,I.base,I.loc,I.cell,I.free,I.freeC,λp hp=>I.pin p (kl _ hp),I.hok,I.len⟩
theorem Inv.sm (I:Inv X pins σ H s) (ea:Addr):Inv (X.sm ea) pins σ H s :=
 ⟨⟨I.ok.mod,I.ok.kind,I.ok.glob,I.ok.blt,I.ok.above,I.ok.inj,I.ok.has,I.ok.cab,λz=>Bool.noConfusion z,I.ok.frames,I.ok.stk,I.ok.exf,I.ok.bs,I.ok.bsz,I.ok.noex,I.ok.exfs,I.ok.funs,I.ok.frf⟩,
  I.os,I.bare,I.base,I.loc,I.cell,I.free,I.freeC,I.pin,I.hok,I.len⟩
theorem Inv.forget (ok:X.Ok) (I:Inv (X.sm ea) pins σ H s) (hn:h'.Ns X.env.locals m') (hs:Heap.SameBut X.env.locals s.heap h') :
  Inv X pins (List.replicate X.N.length none) H { s with heap:=h',toks:=t' }:=by
 have neL:∀b o,X.s₀.heap.get? b=some o->b≠X.env.locals:=λb o e=>bw (a9 (Heap.lt_size e) ok.above)
 refine ⟨ok,I.os,I.bare,⟨λb o e n hb hx=>(hs.2 b (neL b o e)).trans (I.base.keep b o e n hb hx),λb o e n hb hx=>?_,I.base.free,λb o e hx=>?_,I.base.tups,I.base.frzs,I.base.tbls⟩,⟨m',hn,λi x v e1 e2 e3=>?_⟩,λx c e=>?_,I.free,I.freeC,λp hp=>?_,λb u e=>?_,bV⟩
 ·obtain ⟨sl,e1⟩:=I.base.slot b o e n hb hx;exact ⟨sl,(hs.2 b (neL b o e)).trans e1⟩
 ·obtain ⟨o',e1⟩:=I.base.there b o e hx;exact ⟨o',(hs.2 b (neL b o e)).trans e1⟩
 ·rw[nM] at e2
  split at e2 <;> cases e2
 ·obtain ⟨v,z⟩:=I.cell x c e;exact ⟨v,z.sameBut hs (I.cne x c e)⟩
 ·obtain ⟨e,n,ne,nf,d⟩:=I.pin p hp;exact ⟨(hs.2 p.1 ne).trans e,n,ne,nf,d⟩
 ·have fr:H X.env.locals=none:=I.free;refine (I.hok b u e).stay (λc v hc q=>(hs.2 c ?_).trans q) (λ_ q=>q) λ_ _ q=>q
  rintro rfl;rcases hc with z | z
  ·rw[<- z,fr] at e;cases e
  ·rw[fr] at z;cases z
theorem Inv.trackO (I:Inv X pins σ H s) (hn:H a=none) (new:fu X.prog X.w (upd H a o) s.heap a o) (n0:X.s₀.heap.get? a=none) (nL:a≠X.env.locals) (nC:∀x c,X.env.cells.lookup x=some c->c≠a)
  (nP:∀p∈X.pn++pins,p.1≠a):Inv X pins σ (upd H a o) s:=by
 have ne:∀b u,H b=some u->b≠a:=λb u q=>dg q hn
 refine ⟨I.ok,I.os,I.bare,⟨I.base.keep,I.base.slot,λb ob e n hx=>?_,I.base.there,λb xs q=>?_,λb ob u q=>?_,λb ps q=>?_⟩,I.loc,I.cell,?_,λx c e=>?_,λp hp=>?_,λb u e=>?_,I.len⟩
 ·rw[aJ (λz=>by rw[z,n0] at e;cases e)];exact I.base.free b ob e n hx
 ·have q':=I.base.tups b xs q;rw[aJ (ne _ _ q')];exact q'
 ·have q':=I.base.frzs b ob u q;rw[aJ (ne _ _ q')];exact q'
 ·obtain ⟨m,q'⟩:=I.base.tbls b ps q;exact ⟨m,by rw[aJ (ne _ _ q')];exact q'⟩
 ·rw[aJ (Ne.symm nL)];exact I.free
 ·rw[aJ (nC x c e)];exact I.freeC x c e
 ·obtain ⟨e,n,r⟩:=I.pin p hp;exact ⟨e,by rw[aJ (nP p hp)];exact n,r⟩
 ·by_cases hb:b=a
  ·subst hb;rw[az] at e;cases e;exact new
  ·rw[aJ hb] at e;exact (I.hok b u e).stay (λc v _ q=>q) (λc q=>by rw[aJ (ne _ _ q)];exact q) λc xs q=>by rw[aJ (ne _ _ q)];exact q
end
def BM (a:Addr) (cls:Value) (dx:Option Addr):HO:=.ext λh=>∃o vs,h.get? a=some o/\o.cls=cls/\o.data=.fields vs/\o.dict=dx
def Ju (CX:Jx) (X:Cx) (E:St->XK):Prop:=∀(pins:List (Addr×Obj)) (σ:St) (H:Hp) (s:Shared) (e:Value) (s':Shared),Inv X pins σ H s->CX X.stack H s (E σ) e s'->X.xe e s'
section
variable {X:Cx} {CX:Jx} {k:Nat} {f C:Addr} {fd:FuncData} {ps:List Str} {sp:Sp} {dvs:List V} {ds:List Value} {E:St->XK} {x n:Str} {p pos hpos np:Pos} {e:Expr} {es:List Expr} {t:TA}
structure A1 (X:Cx) (pins:List (Addr×Obj)) (σ:St) (H0:Hp) (s0:Shared) (H':Hp) (ea t:Addr) (cls:Value) (dx:Option Addr) (B:Heap) (s1:Shared):Prop where
 I:Inv X pins σ H0 s0
 F:Fly X.prog X.w X.stack H0 s0 H' ea t cls dx B s1
section
variable {pins:List (Addr×Obj)} {σ:St} {H0 H':Hp} {s0 s1:Shared} {ea tt:Addr} {cls:Value} {dx:Option Addr} {B h:Heap}
theorem A1.inv (L:A1 X pins σ H0 s0 H' ea tt cls dx B s1) (fl:Heap.FlyingW B X.stack ea cls (.ref tt) h) (up:s1.heap.UpToSlots h):Inv X pins σ H' { s1 with heap:=h }:=by
 obtain ⟨U,ok⟩:=Hw L.F.un L.F.hok L.F.fly.1 fl.1 up L.F.c1 L.F.c2 L.I.stkFree (λb hb o q=>by
  obtain ⟨_,o',e',d⟩:=L.I.stack.mem hb;rw[q] at e';cases e';exact d)
 have os:s1.os=s0.os:=L.F.os;have bare:AllBare s1.gens:=L.F.bare;obtain ⟨hh,g,d,t,os'⟩:=s1
 dsimp only at os bare
 subst os;exact Inv.call (s:=s0) (h':=h) (g':=g) (d':=d) (t':=t) (ch:=[]) L.I U ok bare (λb z=>absurd z (by simp))
theorem A1.new (L:A1 X pins σ H0 s0 H' ea tt cls dx B s1):s0.heap.get? ea=none:=by
 obtain ⟨_,n,fr,oe,vs,T,oT,ts,he,hc,hd,_⟩:=L.F.fly;cases q:s0.heap.get? ea with
 | none=>rfl
 | some o =>
  by_cases hb:ea∈uw X.stack
  ·obtain ⟨_,o',e',d⟩:=fr.mem hb;rw[he] at e';cases e';exact absurd hd (d vs)
  ·obtain ⟨o',e'⟩:=L.F.c2 ea o q hb;rw[n] at e';cases e'
theorem A1.none_ (L:A1 X pins σ H0 s0 H' ea tt cls dx B s1):H' ea=none:=by
 cases q:H' ea with
 | none=>rfl
 | some u =>
  obtain ⟨o,e⟩:=L.F.c1 ea u q;rw[L.F.fly.2.1] at e;cases e
theorem A1.track (L:A1 X pins σ H0 s0 H' ea tt cls dx B s1) (hex:X.ex=[]) (fl:Heap.FlyingW B X.stack ea cls (.ref tt) h) (up:s1.heap.UpToSlots h) (dc:jd ea dx h):Inv X pins σ (upd H' ea (BM ea cls dx)) { s1 with heap:=h }:=by
 have nw:=L.new;have some_ne:∀b o,s0.heap.get? b=some o->b≠ea:=λb o q z=>by rw[z,nw] at q;cases q
 refine (L.inv fl up).trackO L.none_ ?_ ?_ ?_ (λx c e=>?_) (λp hp=>?_)
 ·obtain ⟨_,_,_,oe,vs,T,oT,ts,he,hc,hd,_⟩:=fl;exact ⟨⟨oe,vs,he,hc.1,hd,dc.get he⟩,⟨oe,he⟩,λh1 h2 ⟨o,vs,a,b⟩ k=>⟨o,vs,k o a,b⟩⟩
 ·cases q:X.s₀.heap.get? ea with
  | none=>rfl
  | some o =>
   obtain ⟨o',e'⟩:=L.I.base.there ea o q (by rw[hex];exact aE);rw[nw] at e';cases e'
 ·obtain ⟨m,⟨o,_,_,ho,_⟩,_⟩:=L.I.loc;exact Ne.symm (some_ne _ o ho)
 ·obtain ⟨v,o,ho,_⟩:=L.I.cell x c e;exact some_ne _ o ho
 ·exact some_ne _ _ (L.I.pin p hp).1
end
def HB (X:Cx) (hs:List ExceptHandler) (hr:Ends->St->Value->Option Addr->Hp->Prop):Prop :=
 ∀(pins:List (Addr×Obj)) (σ:St) (H0:Hp) (s0:Shared) (H':Hp) (ea tt:Addr) (cls:Value) (dx:Option Addr) (B:Heap) (s1:Shared) (h:Heap) (D:Ends),A1 X pins σ H0 s0 H' ea tt cls dx B s1->Heap.FlyingW B X.stack ea cls (.ref tt) h->s1.heap.UpToSlots h->jd ea dx h →
  hr D σ cls dx H'->wpAny (model X.prog X.w) X.A (handleBy (.ref ea) X.env hs) (SP X pins D) X.xe { s1 with heap:=h }
def Ls (D:Ends):Ends:={ nx:=λ_ _=>False,rt:=D.rt }
def Tb:Ends->St->Value->Option Addr->Hp->Prop:=λ_ _ _ _ _=>False
theorem Rc:HB X [] Tb:=λ_ _ _ _ _ _ _ _ _ _ _ _ _ _ _ _ _ z=>False.elim z
def hAs (K:FG9) (C:Addr) (i:Nat) (ts:Addr->TS) (hr:Ends->St->Value->Option Addr->Hp->Prop):Ends->St->Value->Option Addr->Hp->Prop:=λD σ cls dx H =>
 (PySem.W.exmOne K cls (.ref C)=some true/\∀ea,H ea=none->ts ea (Ls D) (σ.set i (some (.ref ea))) (upd H ea (BM ea cls dx)))\/(PySem.W.exmOne K cls (.ref C)=some false/\hr D σ cls dx H)
theorem Ta {i:Nat} {b₀:Stmt} {suite:List Stmt} {rest:List ExceptHandler} {ts:Addr->TS} {hr:Ends->St->Value->Option Addr->Hp->Prop} (hex:X.ex=[]) (hg:Gl X x) (hm:X.mg x=some (.ref C)) (nd:X.N.Nodup) (hi:X.N[i]?=some n)
  (hl:X.env.scope.names.lookup n=some .local) (hs:∀ea,A0 (X.sm ea) (b₀ :: suite) (ts ea)) (hrest:HB X rest hr) (hdb:(x == ("__debug__":Str))=false:=by decide) :
  HB X (.ExceptHandler (some (.Name x np)) (some n) (b₀ :: suite) hpos :: rest) (hAs X.K C i ts hr):=by
 intro pins σ H0 s0 H' ea tt cls dx B s1 h D L fl up dc hq;have J:=L.inv fl up;refine wpAny_handleBy_cons (codeAny_handlers_test (qG (X:=X.sm ea) (J.sm ea) hg hm ?_ hdb)) (by intro q;cases q)
 have LT:PySem.W.Looks (model X.prog X.w) h (typeOf (.ref ea)) cls:=by
  obtain ⟨o,e,c⟩:=fl.there;exact c ▸ (PySem.W.Looks.ld e).andThen .now
 rcases hq with ⟨hb,hts⟩ | ⟨hb,hq⟩
 ·refine (z7 (show X.K.In h from J.kIn) LT hb) _ _ _ _ (λ_ _ q=>q) ?_;refine codeAny_handlers_suite_as ?_;refine wpAny_mono (mU (e:=ea) (d:=dx) (qJ _ _) (lands_againW (E:=λ_ _=>False) (Q:=λ_ s2=>∃h6,s2={ s1 with heap:=h6 }/\Heap.FlyingW B X.stack ea cls (.ref tt) h6/\h.UpToSlots h6) fl λh6 fl6 up6=>⟨h6,rfl,fl6,up6⟩) dc) ?_ (λ_ _ z=>z.1.elim);rintro _ _ ⟨⟨h6,rfl,fl6,up6⟩,dc6⟩;have J6:=(L.track hex fl6 (up.trans up6) dc6).sm ea;refine rC (X:=X.sm ea) J6 nd hi (.inl hl) (show RelV (.ref ea) (.ref ea) from rfl) (λs' I'=>?_) (.inr hl);refine wpAny_mono (hs ea pins s' _ _ _ I' (hts ea L.none_)) (λf s2 hsp=>?_) λ_ _ z=>False.elim z
  cases f with
  | next=>obtain ⟨_,_,_,z⟩:=hsp;exact False.elim z
  | brk=>obtain ⟨_,_,_,z⟩:=hsp;exact False.elim z
  | cont=>obtain ⟨_,_,_,z⟩:=hsp;exact False.elim z
  | ret u =>
   obtain ⟨v,σ',H2,J2,rv,q⟩:=hsp;obtain ⟨m,hn,_⟩:=id J2.loc;refine wpAny_nameGoes hl hn (by rw[L.I.ok.kind];rfl) λh' m' hn' hs'=>?_
   exact ⟨v,_,H2,J2.forget L.I.ok hn' hs',rv,q⟩
 ·refine (z7 (show X.K.In h from J.kIn) LT hb) _ _ _ _ (λ_ _ q=>q) ?_;exact hrest pins σ H0 s0 H' ea tt cls dx B s1 h D L fl up dc hq
def Sd (hr:Ends->St->Value->Option Addr->Hp->Prop) (tb:(St->XK)->TS):TS:=λD σ H=>tb (hr D) D σ H
theorem QN (hst:X.stack=X.env :: X.outer) (hfr:X.env.frame=some X.env.locals)
  (hb:∀pn xe E,Ju (M9 X.prog X.w) (X.tr pn xe) E->A0 (X.tr pn xe) body (tb E)) (hh:HB X (h₀ :: hs) hr):PS X (.Try body (h₀ :: hs) [] [] pos) (Sd hr tb):=by
 intro pins s σ H D I h;refine wpAny_Try_except ?_;refine wpAny_mono (hb (X.pn++pins) (λe s1=>∃σ' H0 s0 H' ea t cls dx B,e=.ref ea/\A1 X pins σ' H0 s0 H' ea t cls dx B s1/\hr D σ' cls dx H') (hr D) ?_ [] s σ H D (I.tr _) h) (λf s1 hsp=>?_) (λe s1 hx=>?_)
 ·rintro ps σ' H1 s1 e s' J ⟨ea,t,cls,dx,H',B,rfl,F,hE⟩;exact ⟨σ',H1,s1,H',ea,t,cls,dx,B,rfl,⟨J.untr,F⟩,hE⟩
 ·cases f with
  | next=>obtain ⟨σ',H',J,q⟩:=hsp;exact wpAny_execs_nil ⟨σ',H',J.untr,q⟩
  | brk=>obtain ⟨σ',H',J,q⟩:=hsp;exact ⟨σ',H',J.untr,q⟩
  | cont=>obtain ⟨σ',H',J,q⟩:=hsp;exact ⟨σ',H',J.untr,q⟩
  | ret u=>obtain ⟨v,σ',H',J,r,q⟩:=hsp;exact ⟨v,σ',H',J.untr,r,q⟩
 ·obtain ⟨σ',H0,s0,H',ea,t,cls,dx,B,rfl,L,hq⟩:=hx;have hfrm:X.A.frames=some (X.env :: X.outer):=by rw[<- hst];exact L.I.ok.frames
  have fl:Heap.FlyingW B (X.env :: X.outer) ea cls (.ref t) s1.heap:=by rw[<- hst];exact L.F.fly
  refine wpAny_mono (mU (e:=ea) (d:=dx) (Jh _ _) (wpAny_looks_onW (E:=λ_ _=>False) (Q:=λ_ s2=>∃h4,s2={ s1 with heap:=h4 }/\Heap.HeldW B (X.env :: X.outer) ea cls (.ref t) X.env.locals h4/\s1.heap.UpToSlots h4) hfrm hfr fl λh4 held up4=>⟨h4,rfl,held,up4⟩) L.F.dct) ?_ (λ_ _ z=>z.1.elim);rintro _ _ ⟨⟨h4,rfl,held,up4⟩,dc4⟩;refine wpAny_mono (mU (e:=ea) (d:=dx) (qJ _ _) (wpAny_landsW (E:=λ_ _=>False) (Q:=λ_ s2=>∃h5,s2={ s1 with heap:=h5 }/\Heap.FlyingW B (X.env :: X.outer) ea cls (.ref t) h5/\h4.UpToSlots h5) held λh5 fl5 up5=>⟨h5,rfl,fl5,up5⟩) dc4) ?_ (λ_ _ z=>z.1.elim);rintro _ _ ⟨⟨h5,rfl,fl5,up5⟩,dc5⟩;exact hh pins σ' H0 s0 H' ea t cls dx B s1 h5 D L (by rw[hst];exact fl5) (up4.trans up5) dc5 hq
end
open PySem.W
section
variable {prog:Program} {w:World} {A:Around} {E:Value->Shared->Prop} {h:Heap} {g:Array GenState} {d:Drawn} {t:Nat} {os:OsState} {a C:Addr} {o:Obj} {od:Option Obj} {K:Frag}
theorem MW (X:K.In h) (I:InstAt h a o C od) (hm:mroIn K C (.type "BaseException")=some true) (hq:Q () ⟨h,g,d,t,os⟩) :
  wpAny M A (checkBuiltinCall "BaseException.__getattribute__" ⟨[.ref a,nv],[]⟩) Q E ⟨h,g,d,t,os⟩:=by
 have b1:builtinKind "BaseException.__getattribute__"=some .slot:=by decide +kernel
 have b2:splitId "BaseException.__getattribute__"=some ("BaseException","__getattribute__"):=by decide +kernel
 have b3:=F.args_bexc_ga (.ref a) nv;have LI:Looks M h (isInstance (.ref a) (.type "BaseException")) true:=I.type.andThen (looks_mroIn X hm);simp only[checkBuiltinCall,b1,b2];refine wpAny_bind (Looks.at LI ?_)
 (repeat (first | assumption | wp_step))
theorem Oy (X:K.In h) (I:InstAt h a o C od) (hm:mroIn K C (.type "BaseException")=some true) (hm2:mroIn K C (.type "object")=some true) (hc:(clsIn K C).isSome=true)
  (ha:findIn K (.ref C) "__class__"=some (some (.builtin "object.__class__"))) (hn:specialIn K (.builtin "object.__class__") "__get__"=some (some (.builtin "getset_descriptor.__get__"))) (htk:takesIn K (.builtin "object.__class__")=some true)
  (hq:R (.ok (.ret (.ref C))) ⟨h,g,d,t,os⟩):codeAny (model prog w) A (.call (.builtin "BaseException.__getattribute__") ⟨[.ref a,.str "__class__" tk],[]⟩) R ⟨h,g,d,t,os⟩:=by
 have hf:findObj K C od "__class__"=some (.bind (.builtin "getset_descriptor.__get__") (.builtin "object.__class__")):=by
  obtain ⟨cd,hc⟩:=vn.mp hc;unfold findObj;rw[hc,Option.bind_some,ha,Option.bind_some];simp [hn,htk]
 have L0:=I.type (M:=model prog w);have L1:=looks_find (M:=model prog w) X I hf;refine codeAny_call_builtin (by decide +kernel) F.entry_bexc_ga (MW X I hm ?_);unfold Builtin.«object.__getattribute__»;refine wpAny_bind (wpAny_pure ?_)
 dsimp only
 refine wpAny_bind (m:=Builtin.ObjectAttr.attrName (.str "__class__" tk)) (wpAny_pure ?_);refine wpAny_bind (Looks.at L0 ?_);refine wpAny_bind (Looks.at L1 ?_)
 dsimp only
 unfold Builtin.ObjectAttr.bindTo;refine wpAny_bind (wpAny_holding (wpAny_call (class_get (s:=⟨h,g,d,t,os⟩) (ox:=o) (od:=od) X I hm2 ?_)));exact wpAny_pure hq
theorem Kg (X:K.In h) (I:InstAt h a o C od) (hga:findIn K (.ref C) "__getattribute__"=some (some (.builtin "BaseException.__getattribute__"))) (hgt:findIn K (.ref C) "__getattr__"=some none)
  (hm:mroIn K C (.type "BaseException")=some true) (hm2:mroIn K C (.type "object")=some true) (hc:(clsIn K C).isSome=true)
  (ha:findIn K (.ref C) "__class__"=some (some (.builtin "object.__class__"))) (hn:specialIn K (.builtin "object.__class__") "__get__"=some (some (.builtin "getset_descriptor.__get__"))) (htk:takesIn K (.builtin "object.__class__")=some true)
  (hq:Q (some (.ref C)) ⟨h,g,d,t+1,os⟩):wpAny (model prog w) A (getAttr? (.ref a) "__class__") Q E ⟨h,g,d,t,os⟩:=by
 have L0:=I.type (M:=model prog w);have L1:=looks_findIn (M:=model prog w) X hga;have L2:=looks_findIn (M:=model prog w) X hgt;unfold getAttr? getAttrBy? getAttrBy;refine wpAny_bind (wpAny_mkText (wpAny_bind (wpAny_attempt (wpAny_holding (wpAny_bind (Looks.at L0 (wpAny_bind (Looks.at L1 ?_))))))))
 have ne:(onTheHeap (Value.ref C) && Value.builtin "BaseException.__getattribute__" == Value.builtin "object.__getattribute__")=false:=by
  rw[show (Value.builtin "BaseException.__getattribute__" == Value.builtin "object.__getattribute__")=false by decide +kernel,PX]
 dsimp only
 rw[ne,if_neg aI];unfold getAttrByItsOwn;refine wpAny_bind (show wpAny _ _ (typeLookup (.ref C) "__getattr__") _ _ _ from Looks.at L2 (wpAny_bind (wpAny_attempt (wpAny_holding ?_))));unfold callGetattribute boundAndCalled;rw[Bool.false_and,if_neg aI];have fb:bindSpecial (.builtin "BaseException.__getattribute__") (.ref a)=pure (.builtin "BaseException.__getattribute__",[.ref a]):=F.excAttr_ValueError.ga.bind (.ref a);rw[fb];refine wpAny_bind (wpAny_pure (wpAny_call (Oy X I hm hm2 hc ha hn htk ?_)));exact wpAny_pure (wpAny_pure hq)
end
structure Ng (K:Frag) (C:Addr):Prop where
 ga:findIn K (.ref C) "__getattribute__"=some (some (.builtin "BaseException.__getattribute__"))
 gt:findIn K (.ref C) "__getattr__"=some none
 mb:mroIn K C (.type "BaseException")=some true
 mo:mroIn K C (.type "object")=some true
 hd:hasDictIn K C=true
 ca:findIn K (.ref C) "__class__"=some (some (.builtin "object.__class__"))
 sg:specialIn K (.builtin "object.__class__") "__get__"=some (some (.builtin "getset_descriptor.__get__"))
 tk:takesIn K (.builtin "object.__class__")=some true
theorem Ng.obj {K:Frag} (e:Ng K C):∃c d cd sl,K.lookup C=some ⟨c,d,.cls cd,sl⟩:=by
 obtain ⟨cd,hc,_⟩:=any_some e.hd;unfold clsIn at hc
 split at hc
 ·exact ⟨_,_,_,_,by assumption⟩
 ·cases hc
theorem MB {σ:St} (I:Inv X pins σ H s) (e:H a=some (BM a (.ref C) none)):∃o,InstAt s.heap a o C none:=by
 obtain ⟨⟨o,vs,g,c,d,dd⟩,_⟩:=(show fu X.prog X.w H s.heap a (BM a (.ref C) none) from I.hok a _ e);obtain ⟨oc,od,dt,sl⟩:=o
 dsimp only at c d dd
 subst c d dd;exact ⟨_,g,rfl,rfl,trivial⟩
theorem Qq (h:tb (hr D) D σ H):Sd hr tb D σ H:=h
section
variable {P:Program} {w:World} {K:FG9} {mg:Str->Option Value} {base:Heap}
theorem A2.okX {st:Stmt} {k:Nat} (F:A2 K x qual st f fd) (S:qQ N ps (cG st)) (len:∀vs H Q E,sp vs H Q E->vs.length=ps.length)
  (hbody:∀(cdv:Value) (A:Around) (outer:List Env) (s:Shared) (H:Hp) (vs:List V) (Q:VK) (E:XK),jv k (A.deeper (envOfC qual (cG st) s.heap.objs.size f cdv))->sp vs H Q E →
   ∃t,A0 (zL (M9 P w) P w K mg base N qual (cG st) f cdv A outer s H E) (eO st) t/\t { nx:=λ_ H'=>Q .non H',rt:=Q } (start N vs) H):j9 P w K mg base (M9 P w) (k+1) f fd ps sp:=by
 obtain ⟨oc,od,kV,doc,pm,an,cdv,ct,osl,rfl,lk,hcd⟩:=F.ex;exact PC lk hcd S len λA outer s H vs Q E hr hsp=>hbody cdv A outer s H vs Q E hr hsp
theorem A2.kX {x qual:Str} {st:Stmt} {f:Addr} {fd:FuncData} {N ps:List Str} {k:Nat} {sp:Sp} (F:A2 K x qual st f fd) (S:qQ N ps (cG st))
  (hbody:∀(cdv:Value) (A:Around) (outer:List Env) (s:Shared) (H:Hp) (vs:List V) (Q:VK) (E:XK) (hr:jv k (A.deeper (envOfC qual (cG st) s.heap.objs.size f cdv))) (h:sp vs H Q E),
   ∃t,A0 (zL (M9 P w) P w K mg base N qual (cG st) f cdv A outer s H E) (eO st) t/\t { nx:=λ_ H'=>Q .non H',rt:=Q } (Qk N vs) H) (len:∀vs H Q E,sp vs H Q E->vs.length=ps.length:=by walk_at "n"):j9 P w K mg base (M9 P w) (k+1) f fd ps sp :=
 F.okX S len λcdv A outer s H vs Q E hr h=>by
  rw[Cf (Lf S.pre (len _ _ _ _ h))];exact hbody cdv A outer s H vs Q E hr h
end
abbrev Df.oX {K:FG9} {mg:Str->Option Value} {x:Str} {st:Stmt} {ps:List Str} {f:Addr} {fd:FuncData} (_:Df K mg x st ps f fd) (P:Program) (w:World) (base:Heap) (k:Nat) (sp:Sp):Prop:=j9 P w K mg base (M9 P w) k f fd ps sp
def tL (i0 i:Nat):Nat:=if i < i0 then i else i+1
theorem A8 {g:Nat->Rat} {i0:Nat}:∀{m:Nat},i0<=m->bc (m+1) g=bc m (λi=>g (tL i0 i))+g i0
 | 0,h=>by
  have:i0=0:=by lia
  subst this;rfl
 | m+1,h=>by
  show bc (m+1) g+g (m+1)=bc m (λi=>g (tL i0 i))+g (tL i0 m)+g i0
  rcases aY m i0 with z | z
  ·have e:i0=m+1:=by lia
   subst e;have:bc m (λi=>g (tL (m+1) i))=bc m g:=aR λj hj=>by unfold tL;rw[if_pos (by lia)]
   rw[this,show tL (m+1) m=m by unfold tL;rw[if_pos (by lia)]];rfl
  ·rw[A8 (m:=m) z,show tL i0 m=m+1 by unfold tL;rw[if_neg (by lia)]];grind
theorem Dn:∀(k n:Nat) (w:Nat->Nat->Rat),k < n->∃y:Nat->Rat,(∃i,i < n/\y i≠0)/\∀t,t < k->bc n (λi=>y i*w i t)=0
 | 0,n,w,h=>⟨λ_=>1,⟨0,h,by decide⟩,λt ht=>absurd ht (cH _)⟩
 | k+1,0,w,h=>absurd h (cH _)
 | k+1,m+1,w,h=>by
  rcases Classical.em (∃i0,i0<=m/\w i0 k≠0) with ⟨i0,hi,h0⟩ | z
  ·obtain ⟨y,⟨i1,hi1,hy1⟩,hy⟩:=Dn k m (λi t=>w (tL i0 i) t - w (tL i0 i) k / w i0 k*w i0 t) (by lia)
   have us:∀i,(if tL i0 i < i0 then tL i0 i else tL i0 i - 1)=i:=λi=>by
    unfold tL
    split
    ·rfl
    ·rw[if_neg (by lia)];lia
   have ne:∀i,tL i0 i≠i0:=λi=>by unfold tL;split <;> lia
   let Y:Nat->Rat:=λj=>if j=i0 then -(bc m λi=>y i*(w (tL i0 i) k / w i0 k)) else y (if j < i0 then j else j - 1)
   have Ys:∀i,Y (tL i0 i)=y i:=λi=>by show (if _ then _ else _)=_;rw[if_neg (ne i),us i]
   have Y0:Y i0=-(bc m λi=>y i*(w (tL i0 i) k / w i0 k)):=by show (if _ then _ else _)=_;rw[if_pos rfl]
   refine ⟨Y,⟨tL i0 i1,by unfold tL;split <;> lia,by rw[Ys];exact hy1⟩,λt ht=>?_⟩;rw[A8 hi,Y0]
   have e:bc m (λi=>Y (tL i0 i)*w (tL i0 i) t)=bc m (λi=>y i*(w (tL i0 i) t - w (tL i0 i) k / w i0 k*w i0 t))+bc m (λi=>w i0 t*(y i*(w (tL i0 i) k / w i0 k))):=by
    rw[<- oY];refine aR λi _=>?_
    rw[Ys];grind
   rw[e,cI]
   have z:bc m (λi=>y i*(w (tL i0 i) t - w (tL i0 i) k / w i0 k*w i0 t))=0:=by
    rcases aY t k with q | q
    ·exact hy t q
    ·have:t=k:=by lia
     subst this;refine cu λi _=>?_
     have:w (tL i0 i) t / w i0 t*w i0 t=w (tL i0 i) t:=F9 h0;rw[this];grind
   rw[z];grind
  ·obtain ⟨y,a,b⟩:=Dn k (m+1) w (by lia);refine ⟨y,a,λt ht=>?_⟩;rcases aY t k with q | q
   ·exact b t q
   ·have:t=k:=by lia
    subst this;refine cu λi hi=>?_
    have:w i t=0:=Classical.byContradiction λq=>z ⟨i,by lia,q⟩
    rw[this];grind
theorem Ji {a R:Nat->Nat->Rat} (h:k < n) (hs:∀i,i < n->c9 k R (a i)):∃y:Nat->Rat,(∃i,i < n/\y i≠0)/\∀c,bc n (λi=>y i*a i c)=0:=by
 have hw:∀i,∃w:Nat->Rat,i < n->∀c,a i c=bc k λt=>w t*R t c:=λi=>by
  rcases aY i n with q | q
  ·obtain ⟨w,e⟩:=hs i q;exact ⟨w,λ_=>e⟩
  ·exact ⟨λ_=>0,λz=>absurd z (by lia)⟩
 obtain ⟨w,hw⟩:=Classical.axiomOfChoice hw;obtain ⟨y,hy,h0⟩:=Dn k n w h;refine ⟨y,hy,λc=>?_⟩
 have:bc n (λi=>y i*a i c)=bc n (λi=>bc k λt=>y i*w i t*R t c):=aR λi hi=>by
  rw[hw i hi c,<- cI];exact aR λt _=>by grind
 rw[this,gX];refine cu λt ht=>?_
 have:bc n (λi=>y i*w i t*R t c)=R t c*bc n (λi=>y i*w i t):=by
  rw[<- cI];exact aR λi _=>by grind
 rw[this,h0 t ht];grind
section
variable {rows R:LR9} {n:Nat} {ps:List Nat}
theorem uz (h:i < n):bI (bu rows n) i j=bI rows j i:=by
 unfold bI;rw[aa (l:=bu rows n),Nr h];simp only[wV,aa,aD];cases rows[j]? <;> simp
theorem xR (hw:∀xs∈rows,xs.length=n) (hc:n<=c):bI rows j c=0:=by
 unfold bI;rcases aY j rows.length with q | q
 ·rw[aa (l:=rows),ae q];have:=hw _ (aF q);simp only[wV];rw[aa,aH (by lia)];rfl
 ·rw[aa (l:=rows),aH q];rfl
theorem LU (RR:bF (bu rows n) rows.length R ps) (hw:∀xs∈rows,xs.length=n) (ln:(bu rows n).length=n) (j c:Nat):bI rows j c=bc ps.length λt=>bI R t j*bI rows (ps.getD t 0) c:=by
 rcases aY c n with q | q
 ·have:=RR.2.2.coef (RR.2.2.span c (by rw[ln];exact q)) j;rw[uz q] at this;rw[this];exact aR λt _=>by rw[uz q];grind
 ·rw[xR hw q];exact (cu λt _=>by rw[xR hw q];grind).symm
theorem LV (RR:bF (bu rows n) rows.length R ps) (ln:(bu rows n).length=n) (ht:t < ps.length) (z:c9 (ps.getD t 0) (bI rows) (bI rows (ps.getD t 0))):False:=by
 obtain ⟨w,hw⟩:=z;obtain ⟨u,hu⟩:=RR.2.2.back t ht;rw[ln] at hu
 have e1:bI R t (ps.getD t 0)=bc (ps.getD t 0) λi=>w i*bI R t i:=by
  rw[hu];have:∀i,w i*bI R t i=bc n λs=>w i*(u s*bI (bu rows n) s i):=λi=>by rw[hu i,<- cI]
  rw[aR λi _=>this i,gX];refine aR λs hs=>?_
  rw[uz hs,hw s,<- cI];exact aR λi _=>by rw[uz hs];grind
 rw[RR.2.2.unit t ht t ht,if_pos rfl,cu λi hi=>by rw[RR.2.2.lead t ht i hi];grind] at e1;exact absurd e1 (by decide)
end
section
variable {mv pt sts pus rows R Rk:LR9} {n m:Nat} {ps pk:List Nat} {a b:Nat->Nat->Rat} {x y:Nat->Rat}
theorem rB {f:Nat->Rat}:∀k,bc (k+1) f=f 0+bc k λi=>f (i+1)
 | 0=>by show (0:Rat)+f 0=f 0+0;grind
 | k+1=>by
  show bc (k+1) f+f (k+1)=f 0+(bc k (λi=>f (i+1))+f (k+1))
  rw[rB k];grind
theorem c9.base (h:∀t,t < m->∀c,a t c=b t c) (hx:c9 m a x):c9 m b x:=by
 obtain ⟨w,hw⟩:=hx;exact ⟨w,λc=>by rw[hw c];exact aR λt ht=>by rw[h t ht c]⟩
theorem c9.wide (h:m<=m') (hx:c9 m a x):c9 m' a x:=c9.trans (b:=a) (m':=m) (λt ht=>c9.row (by lia)) hx
structure Jw (mv pt sts pus:LR9):Prop where
 len:sts.length=pus.length+1
 wide:∀xs∈sts,xs.length=mv.length
 wpu:∀xs∈pus,xs.length=pt.length
 zero:∀c,bI sts 0 c=0
 step:∀j,j < pus.length->∀c,bI sts (j+1) c=bc mv.length (λi=>bI mv c i*bI sts j i)+bc pt.length λl=>bI pus j l*bI pt l c
 new:∀j,0 < j->j < sts.length->¬c9 j (bI sts) (bI sts j)
theorem Nx (h:∀j,j < m->c9 m a λc=>bc n λi=>bI mv c i*a j i) (hx:c9 m a x):c9 m a λc=>bc n λi=>bI mv c i*x i:=by
 obtain ⟨w,hw⟩:=hx;have key:=uD (w:=w) (f:=λs c=>bc n λi=>bI mv c i*a s i) m h;refine key.congr λc=>?_
 have e:(bc n λj=>bI mv c j*x j)=bc n λj=>bc m λs=>w s*(bI mv c j*a s j):=aR λj _=>by
  rw[hw j,<- cI];exact aR λs _=>by grind
 rw[e,gX];exact aR λs hs=>by rw[cI]
theorem IV (wm:∀xs∈mv,xs.length=mv.length) (wp:∀xs∈pt,xs.length=mv.length) (hp:∀l,l < pt.length->c9 m a (bI pt l)) (h:∀j,j < m->c9 m a λc=>bc mv.length λi=>bI mv c i*a j i):∀t i,i < (fQ mv pt t).length->c9 m a (bI (fQ mv pt t) i)
 | 0,i,hi=>absurd hi (cH _)
 | t+1,i,hi=>by
  have wk:=gU (pt:=pt) (mv:=mv) rfl (λxs hx=>wp xs hx) t;refine sW (X:=pt) (Y:=(fQ mv pt t).map (lY mv)) hp (λs hs=>?_) i hi;rw[ag] at hs;exact (Nx h (IV wm wp hp h t s hs)).congr λc=>(BA rfl wm wk hs c).symm
theorem Mt (RR:bF (fQ mv pt mv.length) mv.length Rk pk) (full:pk.length=mv.length) (hk:m < mv.length) (h:∀i,i < (fQ mv pt mv.length).length->c9 m a (bI (fQ mv pt mv.length) i)):False:=by
 have hs:∀i,i < mv.length->c9 m a (bI Rk i):=λi hi=>c9.trans h (RR.2.2.back i (by rw[full];exact hi))
 obtain ⟨y,⟨i,hi,hy⟩,h0⟩:=Ji hk hs;refine hy ?_;have:=h0 i;rw[iE hi λj hj ne=>by rw[CK RR full hj i,if_neg λz=>ne z.symm];grind,CK RR full hi i,if_pos rfl] at this;grind
theorem Ov (wm:∀xs∈mv,xs.length=mv.length) (wp:∀xs∈pt,xs.length=mv.length) (KR:bF (fQ mv pt mv.length) mv.length Rk pk) (full:pk.length=mv.length) (C:Jw mv pt sts pus) (hk:pus.length < mv.length) (hr:rows=sts++(lY mv (sts.getD pus.length []) :: pt)) (RR:bF (bu rows mv.length) rows.length R ps) (ln:(bu rows mv.length).length=mv.length):∃t,t < ps.length/\sts.length<=ps.getD t 0:=by
 refine Classical.byContradiction λz=>?_
 have hz:∀t,t < ps.length->ps.getD t 0 < sts.length:=λt ht=>Nat.lt_of_not_le λq=>z ⟨t,ht,q⟩
 have lw:(sts.getD pus.length []).length=mv.length:=by
  rw[aa,ae (by rw[C.len];lia)];exact C.wide _ (aF _)
 have hw:∀xs∈rows,xs.length=mv.length:=λxs hx=>by
  rw[hr] at hx;rcases ay.mp hx with hx | hx
  ·exact C.wide xs hx
  ·rcases aw.mp hx with rfl | hx
   ·exact lX
   ·exact wp xs hx
 have A:∀j,c9 sts.length (bI sts) (bI rows j):=λj=>by
  refine (uD (w:=λt=>bI R t j) (f:=λt=>bI rows (ps.getD t 0)) ps.length λt ht=>?_).congr λc=>(LU RR hw ln j c).symm
  show c9 _ _ (bI rows (ps.getD t 0))
  rw[hr,zR (hz t ht)];exact c9.row (hz t ht)
 have e1:∀c,bI rows sts.length c=bc mv.length λi=>bI mv c i*bI sts pus.length i:=λc=>by
  rw[hr,show sts.length=sts.length+0 from rfl,HW];exact BA (R:=[sts.getD pus.length []]) (i:=0) rfl wm (λxs hx=>by rw[bD.mp hx];exact lw) Nat.one_pos c
 have P:∀l,l < pt.length->c9 sts.length (bI sts) (bI pt l):=λl hl=>by
  have:=A (sts.length+(l+1));rw[hr,HW] at this;exact this
 have Mv:∀j,j < sts.length->c9 sts.length (bI sts) λc=>bc mv.length λi=>bI mv c i*bI sts j i:=λj hj=>by
  rcases aY j pus.length with q | q
  ·have s1:c9 sts.length (bI sts) (bI sts (j+1)):=c9.row (by rw[C.len];lia);have s2:=uD (w:=λl=>bI pus j l) pt.length P;refine (c9.lin 1 (-1) s1 s2).congr λc=>?_
   rw[C.step j q c];grind
  ·have:j=pus.length:=by have:=C.len;lia
   subst this;exact (A sts.length).congr e1
 have K:=IV wm wp P Mv mv.length;refine Mt (m:=pus.length) (a:=λt=>bI sts (t+1)) KR full hk λi hi=>?_
 obtain ⟨w,hw'⟩:=K i hi;refine ⟨λt=>w (t+1),λc=>?_⟩;rw[hw' c,C.len,rB,C.zero];grind
theorem vR {x:List Rat}:bI (rows++[x]) rows.length=λc=>x.getD c 0:=by
 have:=HW (X:=rows) (Y:=[x]) (i:=0);rw[Nat.add_zero] at this;rw[this];rfl
theorem MV (wm:∀xs∈mv,xs.length=mv.length) (wp:∀xs∈pt,xs.length=mv.length) (C:Jw mv pt sts pus) (hr:rows=sts++(lY mv (sts.getD pus.length []) :: pt)) (RR:bF (bu rows mv.length) rows.length R ps) (ln:(bu rows mv.length).length=mv.length)
 (ht:t0 < ps.length) (hf:sts.length<=ps.getD t0 0) (hmin:∀t,t < ps.length->sts.length<=ps.getD t 0->ps.getD t0 0<=ps.getD t 0) (lp:pu.length=pt.length) (ls:s'.length=mv.length)
  (hpu:(ps.getD t0 0=sts.length/\∀l,pu.getD l 0=0)\/∃l,l < pt.length/\ps.getD t0 0=sts.length+(1+l)/\∀l',pu.getD l' 0=if l'=l then 1 else 0)
  (hs:∀c,s'.getD c 0=bc mv.length (λi=>bI mv c i*bI sts pus.length i)+bc pt.length λl=>pu.getD l 0*bI pt l c):Jw mv pt (sts++[s']) (pus++[pu]):=by
 have lw:(sts.getD pus.length []).length=mv.length:=by
  rw[aa,ae (by rw[C.len];lia)];exact C.wide _ (aF _)
 have hw:∀xs∈rows,xs.length=mv.length:=λxs hx=>by
  rw[hr] at hx;rcases ay.mp hx with hx | hx
  ·exact C.wide xs hx
  ·rcases aw.mp hx with rfl | hx
   ·exact lX
   ·exact wp xs hx
 have e1:∀c,bI rows sts.length c=bc mv.length λi=>bI mv c i*bI sts pus.length i:=λc=>by
  rw[hr,show sts.length=sts.length+0 from rfl,HW];exact BA (R:=[sts.getD pus.length []]) (i:=0) rfl wm (λxs hx=>by rw[bD.mp hx];exact lw) Nat.one_pos c
 have bs:∀t,t < sts.length->∀c,bI sts t c=bI rows t c:=λt h c=>by rw[hr,zR h]
 have zp:0 < sts.length:=by rw[C.len];lia
 have lS:(sts++[s']).length=sts.length+1:=by simp
 refine ⟨by rw[lS,C.len,ao];rfl,λxs hx=>?_,λxs hx=>?_,λc=>by rw[zR zp];exact C.zero c,λj hj c=>?_,λj j0 hj z=>?_⟩
 ·rcases ay.mp hx with hx | hx
  ·exact C.wide xs hx
  ·rw[bD.mp hx];exact ls
 ·rcases ay.mp hx with hx | hx
  ·exact C.wpu xs hx
  ·rw[bD.mp hx];exact lp
 ·rw[ao,aO] at hj;rcases aY j pus.length with q | q
  ·rw[zR (by rw[C.len];lia),zR (by rw[C.len];lia),zR q];exact C.step j q c
  ·have:j=pus.length:=by lia
   subst this;rw[show pus.length+1=sts.length from C.len.symm,vR,vR,zR (by rw[C.len];lia)];exact hs c
 ·rw[lS] at hj;have tr:∀{j:Nat} {x:Nat->Rat},j<=sts.length->c9 j (bI (sts++[s'])) x->c9 j (bI sts) x:=λh=>c9.base λt ht c=>by rw[zR (by lia)]
  rcases aY j sts.length with q | q
  ·have z:=tr (by lia) z;rw[zR q] at z;exact C.new j j0 q z
  ·have:j=sts.length:=by lia
   subst this;have z:=tr (ah _) z;rw[vR] at z;have zr:c9 sts.length (bI rows) λc=>s'.getD c 0:=c9.base bs z
   rcases hpu with ⟨f0,p0⟩ | ⟨l,hl,f0,p0⟩
   ·refine LV RR ln ht ?_;rw[f0];refine zr.congr λc=>?_
    rw[hs c,e1 c,cu (f:=λl=>pu.getD l 0*bI pt l c) λl _=>by rw[p0 l];grind];grind
   ·have s1:c9 sts.length (bI rows) (bI rows sts.length):=by
     refine (uD (w:=λt=>bI R t sts.length) (f:=λt c=>if ps.getD t 0 < sts.length then bI rows (ps.getD t 0) c else 0) ps.length λt ht'=>?_).congr λc=>?_
     ·by_cases q:ps.getD t 0 < sts.length
      ·exact (c9.row (a:=bI rows) q).congr λc=>by rw[if_pos q]
      ·exact c9.zero λc=>by rw[if_neg q]
     ·rw[LU RR hw ln];refine aR λt ht'=>?_
      by_cases q:ps.getD t 0 < sts.length
      ·rw[if_pos q]
      ·rw[if_neg q];have:=hmin t ht' (by lia);rw[RR.2.2.lead t ht' sts.length (by show sts.length < ps.getD t 0;lia)];grind
    refine LV RR ln ht ?_;have:=c9.wide (show sts.length<=ps.getD t0 0 from hf) (c9.lin 1 (-1) zr s1);refine this.congr λc=>?_
    rw[hs c,e1 c,f0,hr,HW,iE hl λj _ ne=>by rw[p0 j,if_neg ne];grind,p0 l,if_pos rfl,iu 1 l];show _=bI pt l c
    grind
theorem OT (C:Jw mv pt sts pus) (h:∀c,bc pus.length (λi=>y i*bI sts (i+1) c)=0):∀i,i < pus.length->y i=0:=by
 have key:∀k,k<=pus.length->(∀c,bc k (λi=>y i*bI sts (i+1) c)=0)->∀i,i < k->y i=0:=by
  intro k
  induction k with
  | zero=>exact λ_ _ i hi=>absurd hi (cH _)
  | succ k ih =>
   intro hk h i hi
   have yk:y k=0:=Classical.byContradiction λne=>by
    refine C.new (k+1) (Nat.succ_pos _) (by rw[C.len];lia) ⟨λt=>if t=0 then 0 else -(y (t - 1)) / y k,λc=>?_⟩;have:=h c;have e:bc (k+1) (λi=>y i*bI sts (i+1) c)=bc k (λi=>y i*bI sts (i+1) c)+y k*bI sts (k+1) c:=rfl;rw[e] at this;rw[rB,C.zero]
    have e2:(bc k λi=>(if i+1=0 then 0 else -(y (i+1 - 1)) / y k)*bI sts (i+1) c)=-1 / y k*bc k (λi=>y i*bI sts (i+1) c):=by
     rw[<- cI];refine aR λi _=>?_
     rw[if_neg (by lia),Gf];grind
    rw[e2];grind
   rcases aY i k with q | q
   ·refine ih (by lia) (λc=>?_) i q;have:=h c;have e:bc (k+1) (λi=>y i*bI sts (i+1) c)=bc k (λi=>y i*bI sts (i+1) c)+y k*bI sts (k+1) c:=rfl;rw[e,yk] at this;grind
   ·rw[show i=k by lia];exact yk
 exact key _ (ah _) h
theorem MU (C:Jw mv pt sts pus) (ll:lines.length=pus.length) (hl:∀i,i < pus.length->∀c,c < mv.length->bI lines i c=bI sts (i+1) c) (RR:bF lines wide R ps):pus.length<=ps.length:=by
 refine Nat.le_of_not_lt λz=>?_
 obtain ⟨y,⟨i,hi,hy⟩,h0⟩:=Ji z (a:=bI lines) λi hi=>RR.2.2.span i (by rw[ll];exact hi)
 refine hy (OT C (y:=y) (λc=>?_) i hi);rcases aY c mv.length with q | q
 ·rw[<- h0 c];exact aR λi hi=>by rw[hl i hi c q]
 ·exact cu λi _=>by rw[xR C.wide q];grind
end
section
variable {prog:Program} {w:World} {A:Around} {E:Value->Shared->Prop} {s:Shared} {a C:Addr} {o:Obj} {K:Frag} {name:Str} {v:Value}
theorem EG (self:Value):refuseLoop self "__setattr__" vo=pure ():=by kernel_rfl
theorem Of (X:K.In s.heap) (I:InstAt s.heap a o C od) (hc:clsIn K C=some cd) (hl:cd.mro=l) (hr:refuseLoop (.ref a) "__setattr__" l=pure ()) (hm:mroIn K C (.type "object")=some true)
  (ha:findIn K (.ref C) name=some none)
  (h:wpAny (model prog w) A.in1 (Builtin.ObjectAttr.storeInOwnDict (.ref a) (.ref C) (.str name tk) name v false) (λ(fin:Fin) s'=>match fin with | .done f=>R (.ok f) s' | .again c'=>c'.quiet=true/\codeAny (model prog w) A c' R s') (λe s'=>R (.error e) s') s) :
  codeAny (model prog w) A (.call (.builtin "object.__setattr__") ⟨[.ref a,.str name tk,v],[]⟩) R s:=by
 have SF:=PySem.F.store_object;have sub:Looks (model prog w) s.heap (isInstance (.ref a) (.type "object")) true:=I.type.andThen (looks_mroIn X hm);refine codeAny_call_builtin SF.slot.plain SF.entry (@check_slot (model prog w) _ _ s "object.__setattr__" "object" "__setattr__" (.ref a) [.str name tk,v] [] _ SF.kind SF.split sub (SF.args (.ref a) (.str name tk) v) ?_);have hmr:Looks (model prog w) s.heap (mroOf (.ref C)) cd.mro:=(looks_clsIn X hc).andThen .now;rw[osa_eq,refuse_eq];refine wpAny_bind (wpAny_bind (I.type.here (wpAny_bind (hmr.here ?_))));rw[hl,hr];refine wpAny_pure (wpAny_bind (I.type.here (wpAny_bind ((looks_findIn X ha).here ?_))));exact wpAny_bind (wpAny_pure h)
theorem NB (X:K.In s.heap) (I:InstAt s.heap a o C none) (hc:clsIn K C=some cd) (hl:cd.mro=l) (hr:refuseLoop (.ref a) "__setattr__" l=pure ()) (hm:mroIn K C (.type "object")=some true)
  (hs:findIn K (.ref C) "__setattr__"=some (some (.builtin "object.__setattr__"))) (hd:hasDictIn K C=true) (ha:findIn K (.ref C) name=some none) (ho:o.data=.fields vs)
  (h:∀h',(∀b ob,b≠a->s.heap.get? b=some ob->h'.get? b=some ob)->h'.get? a=some { o with dict:=some s.heap.objs.size }->h'.Ns1 s.heap.objs.size (λy=>if y=name then some v else none)->Q () { s with heap:=h',toks:=s.toks+2 }) :
  wpAny (model prog w) A (setAttr (.ref a) name v) Q E s:=by
 refine set_plain X I hs (Of (s:={ s with toks:=s.toks+1 }) X I hc hl hr hm ha ?_);obtain ⟨cd',hc',hd'⟩:=any_some hd;rw[hc] at hc';cases hc';obtain ⟨hx,hcl,hn,hdd⟩:=I;obtain ⟨oc,odi,oda,osl⟩:=o
 dsimp only at hcl hdd ho
 subst hcl ho;obtain rfl:odi=none:=by cases odi with | none=>rfl | some _=>exact hdd.elim
 have hlt:a < s.heap.objs.size:=Heap.lt_size hx;have kp:∀b ob,s.heap.get? b=some ob->(s.heap.push emptyDict).get? b=some ob:=λb ob q=>Heap.get?_push_of_some _ q
 refine wpAny_bind (wpAny_pure ?_);have ne:(Value.ref C == Value.type "module")=false:=by rfl
 dsimp only
 rw[ne,if_neg aI];refine wpAny_bind ?_;show wpAny _ _ (instanceDict a true) _ _ _
 unfold instanceDict;refine wpAny_bind (wpAny_loadPart hx (wpAny_bind (Looks.here (s:={ s with toks:=s.toks+1 }) (looks_clsIn X hc) ?_)))
 dsimp only
 rw[hd'];have hx1:(s.heap.push emptyDict).get? a=some { cls:=Value.ref C,data:=Data.fields vs,slots:=osl }:=kp _ _ hx;refine wpAny_bind (wpAny_alloc (wpAny_bind (wpAny_update hx1 ?_)));have hx2:((s.heap.push emptyDict).update a λo=>{ o with dict:=some s.heap.objs.size }).get? a=some { cls:=Value.ref C,dict:=some s.heap.objs.size,data:=Data.fields vs,slots:=osl }:=Heap.get?_update_self _ hx1 rfl
 have hD:((s.heap.push emptyDict).update a λo=>{ o with dict:=some s.heap.objs.size }).get? s.heap.objs.size=some emptyDict:=by
  rw[Heap.get?_update_other _ _ (bw hlt)];exact Heap.get?_push_size _ rfl
 have hN:((s.heap.push emptyDict).update a λo=>{ o with dict:=some s.heap.objs.size }).Ns1 s.heap.objs.size (λ_=>none):=⟨_,_,_,hD,rfl,(λy hy=>by simp at hy),(by unfold UniqKeys;simp),λ_=>rfl⟩;refine wpAny_pure (wpAny_bind (wpAny_pure (wpAny_bind ?_)));refine wpAny_nsSet1 (s:={ s with heap:=(s.heap.push emptyDict).update a λo=>{ o with dict:=some s.heap.objs.size },toks:=s.toks+1 }) hN λh' hn2 hs2=>?_
 obtain ⟨oD,esD,epD,hoD,hdD,hcD⟩:=hn2.count (PySem.Within.cons name v (ns:=[]) (λ_ z=>absurd rfl z));refine wpAny_bind (wpAny_lookBehind hoD (by rw[hdD];exact pastItsLine_dict (af hcD (by show 1<=sizeLine+1;lia))) (wpAny_pure (h h' (λb ob n q=>?_) ((hs2.2 a (bw hlt)).trans hx2) hn2)));rw[hs2.2 b (bw (Heap.lt_size q)),Heap.get?_update_other _ _ (Ne.symm n)];exact kp b ob q
end
section
variable {prog:Program} {w:World} {A:Around} {E:Value->Shared->Prop} {h:Heap} {g:Array GenState} {d:Drawn} {t:Nat} {os:OsState} {a C:Addr} {o od:Obj} {K:Frag} {name:Str} {v:Value}
theorem Ri (X:K.In h) (I:InstAt h a o C (some od)) (hm:mroIn K C (.type "BaseException")=some true) (hh:hasDictIn K C=true) (ha:findIn K (.ref C) name=some none) (hl:lookIn name od=some (some v))
  (hq:R (.ok (.ret v)) ⟨h,g,d,t,os⟩):codeAny (model prog w) A (.call (.builtin "BaseException.__getattribute__") ⟨[.ref a,.str name tk],[]⟩) R ⟨h,g,d,t,os⟩:=by
 have L0:=I.type (M:=model prog w);have L1:=looks_find (M:=model prog w) X I (findObj_own hh ha rfl hl);refine codeAny_call_builtin (by decide +kernel) F.entry_bexc_ga (MW X I hm ?_);unfold Builtin.«object.__getattribute__»;refine wpAny_bind (wpAny_pure ?_)
 dsimp only
 refine wpAny_bind (m:=Builtin.ObjectAttr.attrName (.str name tk)) (wpAny_pure ?_);refine wpAny_bind (Looks.at L0 (wpAny_bind (Looks.at L1 (wpAny_pure hq))))
theorem OE (X:K.In h) (I:InstAt h a o C (some od)) (ex:Ng K C) (ha:findIn K (.ref C) name=some none) (hl:lookIn name od=some (some v)) (hv:handedIn v=true)
  (hq:Q v ⟨h,g,d,t+1,os⟩):wpAny (model prog w) A (getAttr (.ref a) name expr) Q E ⟨h,g,d,t,os⟩:=by
 have L0:=I.type (M:=model prog w);have L1:=looks_findIn (M:=model prog w) X ex.ga;have L2:=looks_findIn (M:=model prog w) X ex.gt;unfold getAttr getAttrBy;refine wpAny_bind (wpAny_mkText (wpAny_holding (wpAny_bind (Looks.at L0 (wpAny_bind (Looks.at L1 ?_))))))
 have ne:(onTheHeap (Value.ref C) && Value.builtin "BaseException.__getattribute__" == Value.builtin "object.__getattribute__")=false:=by
  rw[show (Value.builtin "BaseException.__getattribute__" == Value.builtin "object.__getattribute__")=false by decide +kernel,PX]
 dsimp only
 rw[ne,if_neg aI];unfold getAttrByItsOwn;refine wpAny_bind (show wpAny _ _ (typeLookup (.ref C) "__getattr__") _ _ _ from Looks.at L2 (wpAny_bind (wpAny_attempt (wpAny_holding ?_))));unfold callGetattribute boundAndCalled;have ne2:(expr && onTheHeap (Value.builtin "BaseException.__getattribute__"))=false:=by cases expr <;> rfl
 rw[ne2,if_neg aI];have fb:bindSpecial (.builtin "BaseException.__getattribute__") (.ref a)=pure (.builtin "BaseException.__getattribute__",[.ref a]):=F.excAttr_ValueError.ga.bind (.ref a);rw[fb];refine wpAny_bind (wpAny_pure (wpAny_call (Ri X I ex.mb ex.hd ha hl ?_)));show wpAny _ _ (handedOut v) _ _ _
 rw[handedOut_of hv];exact wpAny_pure hq
end
section
variable {prog:Program} {w:World} {A:Around} {h:Heap} {g:Array GenState} {d:Drawn} {t:Nat} {os:OsState} {R:Result->Shared->Prop}
variable {nm q:Str} {C N f:Addr} {bs bm:List Value} {hdct:Bool} {sn:List Str} {sub:List Value} {ab:Bool} {col:Option Bool} {dd:Option Addr} {k0 k1 k2 k3 k5:Option Value}
abbrev hZ (C t:Addr):Obj:={ cls:=.ref C,data:=.fields #[.ref t,.none,.none,.none,.bool false,.none] }
theorem Ky (T:OwnTail h vo bm) (hC:h.get? C=some (excClassObj nm q C N bs bm hdct sn sub ab col dd k0 k1 k2 k3 k5 "ValueError.__new__"))
  (hi:Looks (model prog w) h (typeLookup (.ref C) "__init__") (some (.ref f))) (hb:∀self,Looks (model prog w) h (bindSpecial (.ref f) self) (.ref f,[self])) (hrest:rest.length<=sizeLine)
  (hq:codeAny (model prog w) (A.under (.builtin "type.__call__" ⟨.ref C :: rest,[]⟩)) (.call (.ref f) ⟨.ref (h.objs.size+1) :: rest,[]⟩) (InitBack (h.objs.size+1) R) ⟨(h.push { cls:=.type "tuple",data:=.seq rest.toArray }).push (hZ C h.objs.size),g,d,t,os⟩) :
  codeAny (model prog w) A (.call (.ref C) ⟨rest,[]⟩) R ⟨h,g,d,t,os⟩:=by
 have FV:=PySem.F.excBase_ValueError;have f1:=tc_lookup;have f2:=tc_bind (.ref C);have hT:(⟨h,g,d,t,os⟩:Shared).TypeIs (.ref C) "type":=⟨_,hC,rfl⟩;refine codeAny_of_tree ?_;show wpAny _ _ (callAny (.ref C) _) _ _ _
 (repeat (any_goals (first | assumption | with_reducible refine wpAny_loadPart_at hC ?_ | wp_step)))
 refine ⟨rfl,codeAny_call_builtin_at (Code.quiet_builtin _ (by decide +kernel)) entry_typeCall (wpAny_check_type_call_sub hC ?_)⟩
 (repeat (first | with_reducible refine wpAny_loadPart_at hC ?_ | with_reducible refine wpAny_madeBy_exc hC ?_ | wp_step))
 refine codeAny_call_builtin_code (Code.quiet_builtin _ FV.quiet) (wpAny_check_new_subT FV T hC (codeAny_exc_new_subT FV T hC ?_ hrest));have kp:∀b ob,h.get? b=some ob->((h.push { cls:=.type "tuple",data:=.seq rest.toArray }).push (hZ C h.objs.size)).get? b=some ob:=λb ob z=>Heap.get?_push_of_some _ (Heap.get?_push_of_some _ z)
 have hC1:=kp _ _ hC;have hg1:((h.push { cls:=.type "tuple",data:=.seq rest.toArray }).push (hZ C h.objs.size)).get? (h.objs.size+1)=some (hZ C h.objs.size):=by heap_get
 have hcC:(Value.ref C :: bm).contains (.ref C)=true:=by simp
 show wpAny _ _ _ _ _ _
 have t1:Looks (model prog w) ((h.push { cls:=.type "tuple",data:=.seq rest.toArray }).push (hZ C h.objs.size)) (typeOf (.ref (h.objs.size+1))) (.ref C):=(Looks.ld hg1).andThen .now
 have sb:Looks (model prog w) ((h.push { cls:=.type "tuple",data:=.seq rest.toArray }).push (hZ C h.objs.size)) (isSubtype (.ref C) (.ref C)) true:=λA' Q' E' s' k z=>by
  obtain ⟨h',g',d',t',os'⟩:=s';exact wpAny_isSubtype_exc (k _ _ hC1) (by rw[hcC];exact z)
 have LI:Looks (model prog w) ((h.push { cls:=.type "tuple",data:=.seq rest.toArray }).push (hZ C h.objs.size)) (isInstance (.ref (h.objs.size+1)) (.ref C)) true:=t1.andThen sb;refine wpAny_bind (Looks.at LI ?_);rw[if_neg (by simp)];unfold callSpecial? specialOf;refine wpAny_bind (wpAny_holding (wpAny_bind (wpAny_bind (Looks.at t1 (Looks.at (hi.keeps kp) ?_)))))
 dsimp only
 refine wpAny_holding (wpAny_bind (Looks.at ((hb _).keeps kp) ?_))
 dsimp only
 refine wpAny_bind (wpAny_call (codeAny_mono hq λr s' z=>?_));rcases r with e | (v | _ | _ | _) <;> first | exact z | exact z.elim | skip
 obtain ⟨rfl,z⟩:=z;exact wpAny_pure (wpAny_pure z)
end
def HF (a:Addr) (cls:Value) (dx:Option Addr):HO:=.ext λh=>∃o vs t,h.get? a=some o/\o.cls=cls/\o.data=.fields vs/\o.dict=dx/\vs[0]?=some (.ref t)/\vs[1]?=some .none
theorem MC (e:h.get? a=some o) (c:o.cls=cls) (d:o.data=.fields vs) (x:o.dict=dx) (v0:vs[0]?=some (.ref t)) (v1:vs[1]?=some .none) :
  fu P w H h a (HF a cls dx):=⟨⟨o,vs,t,e,c,d,x,v0,v1⟩,⟨o,e⟩,λh1 h2 ⟨o,vs,t,q,r⟩ k=>⟨o,vs,t,k o q,r⟩⟩
structure RS (K:Frag) (C S:Addr):Prop where
 lk:∃dd cd k0 k1 k2 k3 k5,K.lookup C=some ⟨.type "type",dd,.cls cd,#[k0,k1,k2,k3,some (.builtin "ValueError.__new__"),k5]⟩/\cd.mro=.ref C :: .ref S :: vo/\cd.hasDel=false
 exS:excIn K S vo "ValueError.__new__"=true
 sa:findIn K (.ref C) "__setattr__"=some (some (.builtin "object.__setattr__"))
 xc:Ng K C
theorem RS.at {K:Frag} (e:RS K C S) (X:K.In h):∃N nm q bs hdct sn sub ab col dd k0 k1 k2 k3 k5 cd,h.get? C=some (excClassObj nm q C N bs (.ref S :: vo) hdct sn sub ab col dd k0 k1 k2 k3 k5 "ValueError.__new__")/\OwnTail h vo (.ref S :: vo)/\clsIn K C=some cd/\cd.mro=.ref C :: .ref S :: vo:=by
 obtain ⟨dd,cd,k0,k1,k2,k3,k5,lk,hm,hdl⟩:=e.lk;obtain ⟨nm,bs,mro,ns,qn,hd,sn,sub,ab,col,del⟩:=cd
 dsimp only at hm hdl
 subst hm hdl;obtain ⟨tl,N,nm',q',bs',hdct',sn',sub',ab',col',dd',j0,j1,j2,j3,j5,mN,hS,hN,hni,T⟩:=OD X e.exS;exact ⟨ns,nm,qn,bs,hd,sn,sub,ab,col,dd,k0,k1,k2,k3,k5,_,X _ _ lk,.own hS hN hni .base,by unfold clsIn;rw[lk],rfl⟩
section
variable {X:Cx} {pins:List (Addr×Obj)} {σ:St} {H:Hp} {s:Shared}
def Lp (K:Frag) (ta tv:TE) (f:Str):TS:=λD σ H=>tv σ H λy H1=>ta σ H1 λx H2=>∃a C S,x=.ref a/\H2 a=some (HF a (.ref C) none)/\RS K C S/\findIn K (.ref C) f=some none /\
 ∀dx,H2 dx=none->dx≠a->D.nx σ (upd (upd H2 dx (.xd [(f,y)])) a (HF a (.ref C) (some dx)))
theorem II (ha:PE X o ta) (hv:PE X value tv) (hs:swapsWith value (some (.Attribute o f pos')) pos.line X.env=pure false):PS X (.Assign [.Attribute o f pos'] value pos) (Lp X.K ta tv f):=by
 intro pins s σ H D I h;refine plainObj_wpAny_Assign_Attribute (fP (hv pins s σ H _ I h) λu s1 ⟨y,H1,I1,ry,q⟩=>fP (ha pins s1 σ H1 _ I1 q) λov s2 ⟨x,H2,I2,rx,a,C,S,ex,ea,xi,na,q2⟩=>?_) hs;subst ex;cases rx;obtain ⟨⟨ob,vs,t,g0,oc,od,odd,v0,v1⟩,_⟩:=(show fu X.prog X.w H2 s2.heap a (HF a (.ref C) none) from I2.hok a _ ea);obtain ⟨N,nm,qn,bs,hdct,sn,sub,ab,col,dd,k0,k1,k2,k3,k5,cd,hC,T,hc,hm⟩:=xi.at I2.kIn
 have J:InstAt s2.heap a ob C none:=by
  obtain ⟨c1,d1,e1,l1⟩:=ob
  dsimp only at oc od odd
  subst oc od odd;exact ⟨g0,rfl,rfl,trivial⟩
 have alt:a < s2.heap.objs.size:=Heap.lt_size g0;have hn:H2 s2.heap.objs.size=none:=I2.hok.fresh (ah _);have nea:s2.heap.objs.size≠a:=Ne.symm (bw alt);refine NB I2.kIn J hc hm (by rw[refuseLoop_ref,refuseLoop_ref];exact EG _) xi.xc.mo xi.sa xi.xc.hd na od λh' kp g1 ns=>?_
 have kept:∀b ub,H2 b=none->s2.heap.get? b=some ub->h'.get? b=some ub:=λb ub n z=>kp b ub (λe=>by rw[e,ea] at n;cases n) z
 have nu:∀b ub,s2.heap.get? b=some ub->H2 b=none->upd (upd H2 s2.heap.objs.size (.xd [(f,y)])) a (HF a (.ref C) (some s2.heap.objs.size)) b=none:=λb ub z n=>by
  rw[aJ (λe=>by rw[e,ea] at n;cases n),aJ (bw (Heap.lt_size z))];exact n
 have old:∀b u',H2 b=some u'->b≠a->upd (upd H2 s2.heap.objs.size (.xd [(f,y)])) a (HF a (.ref C) (some s2.heap.objs.size)) b=some u':=λb u' z n=>by
  rw[aJ n,aJ (λe=>by rw[e,hn] at z;cases z)];exact z
 have nat:∀b xs,H2 b=some (.tup xs)->b≠a:=λb xs z e=>by rw[e,ea] at z;cases z
 refine ⟨σ,_,I2.un (t':=s2.toks+2) ⟨λb ub z n _ _=>kept b ub n z,λb ub z n _ _=>⟨ub.slots,kept b ub n z⟩,λb ub z n _=>nu b ub z n,λb ub z _=>?_,λb xs z=>old b _ z (nat b xs z),λb ub u' z=>old b _ z (λe=>by rw[e,ea] at z;cases z),λb ps z=>⟨#[],by rw[old b _ z (λe=>by rw[e,ea] at z;cases z)];simp⟩⟩ (λb u' z=>?_),q2 _ hn nea⟩
 ·by_cases e:b=a
  ·subst e;exact ⟨_,g1⟩
  ·exact ⟨ub,kp b ub e z⟩
 ·by_cases e:b=a
  ·subst e;rw[az] at z;cases z;exact MC g1 oc od rfl v0 v1
  ·rw[aJ e] at z;by_cases e2:b=s2.heap.objs.size
   ·subst e2;rw[az] at z;cases z;refine ⟨_,ns,λgn=>?_⟩;show xx (List.lookup gn [(f,y)]) (if gn=f then some u else none)
    by_cases q:gn=f
    ·subst q;rw[if_pos rfl];simp only[List.lookup,beq_self_eq_true];exact ry
    ·rw[if_neg q];have hb:(gn == f)=false:=beq_eq_false_iff_ne.mpr q;simp only[List.lookup,hb];exact True.intro
   ·rw[aJ e2] at z
    have ne2:∀c,(c=b\/H2 c=some (.own b))->c≠a:=λc hcc=>by
     rcases hcc with rfl | hcc
     ·exact e
     ·intro z2;rw[z2,ea] at hcc;cases hcc
    exact (I2.hok b u' z).stay (λc ub hcc q=>kp c ub (ne2 c hcc) q) (λc q=>old c _ q (ne2 c (.inr q))) λc xs q=>old c _ q (nat c xs q)
def Gz (C:Addr) (sp:Sp) (t:TA):TE:=λσ H Q=>t σ H λvs H1=>∀e,H1 e=none->sp (.ref e :: vs) (upd H1 e (HF e (.ref C) none)) (λv H2=>v=.non/\Q (.ref e) H2) E0
theorem Inv.newExc (hex:X.ex=[]) (I:Inv X pins σ H s) {rest:List Value}:H (s.heap.objs.size+1)=none /\
  Inv X pins σ (upd H (s.heap.objs.size+1) (HF (s.heap.objs.size+1) (.ref C) none)) { s with heap:=(s.heap.push { cls:=.type "tuple",data:=.seq rest.toArray }).push (hZ C s.heap.objs.size) }:=by
 have hn:H (s.heap.objs.size+1)=none:=I.hok.fresh (vg _);have I1:=I.kept (t':=s.toks) (h':=s.heap.push { cls:=.type "tuple",data:=.seq rest.toArray }) λb u q=>Heap.get?_push_of_some _ q
 have e2:((s.heap.push { cls:=.type "tuple",data:=.seq rest.toArray }).push (hZ C s.heap.objs.size)).get? (s.heap.objs.size+1)=some (hZ C s.heap.objs.size):=by heap_get
 exact ⟨hn,I1.laid (a:=s.heap.objs.size+1) (o:=HF (s.heap.objs.size+1) (.ref C) none) (t':=s.toks) (λb u q=>Heap.get?_push_of_some _ q) (JA (Heap.size_push _ _)) (MC e2 rfl rfl rfl rfl rfl)⟩
theorem EO {k:Nat} {C S f:Addr} {fd:FuncData} {ps:List Str} {sp:Sp} {x:Str} {e:Expr} {es:List Expr} {t:TA} {p pos:Pos} (hex:X.ex=[]) (xi:RS X.K C S) (hi:findIn X.K (.ref C) "__init__"=some (some (.ref f))) (hf:typeIn X.K (.ref f)=some (.type "function")) (kp:keepIn X.K (.ref C)=true)
  (F:j9 X.prog X.w X.K X.mg X.base F1 k f fd ps sp) (hr:jv (k+1) X.A) (hg:Gl X x) (hm:X.mg x=some (.ref C)) (hb:Binds X.K fd ps []) (ha:PA X (e :: es) t) (hps:Nat.ble ps.length 1000=true:=by rfl)
  (hdb:(x == ("__debug__":Str))=false:=by decide) (he:starEach (e :: es) X.env=(false,eval e X.env) :: starEach es X.env:=by rfl) (hpl:(backTo pos (starEach es X.env)).any (·.1)=false:=by rfl) :
  PE X (.Call (.Name x p) (e :: es) [] pos) (Gz C sp t):=by
 intro pins s σ H Q I h;refine wpAny_Call_Name_kw (qG I hg hm ?_ hdb);refine mT (h₀:=X.base) I.ok.mod.kin kp (fP (ha pos pins s σ H _ I h) λus s1 ⟨vs,H1,I1,r,q⟩=>⟨I1.kIn,?_⟩) he hpl;obtain ⟨N,nm,qn,bs,hdct,sn,sub,ab,col,dd,k0,k1,k2,k3,k5,cd,hC,T,hc,hmro⟩:=xi.at I1.kIn;obtain ⟨hn,I2⟩:=I1.newExc hex (C:=C) (rest:=us);have hq:=q _ hn;have r2:cJ (V.ref (s1.heap.objs.size+1) :: vs) (Value.ref (s1.heap.objs.size+1) :: us):=.cons rfl r
 have hlen:(Value.ref (s1.heap.objs.size+1) :: us++[]).length=ps.length:=by
  rw[eL];have e':=r2.length;rw[F.len _ _ _ _ hq] at e';exact e'.symm
 have small:us.length<=sizeLine:=by
  have e':=r2.length;rw[F.len _ _ _ _ hq,bA] at e';have:=Nat.le_of_ble_eq_true hps;have z:(1000:Nat)<=sizeLine:=by rw[sizeLine_eq];decide
  lia
 have bd:=hb _ (Value.ref (s1.heap.objs.size+1) :: us) I2.kIn hlen;rw[eL] at bd
 refine wpAny_call (Ky (h:=s1.heap) (g:=s1.gens) (d:=s1.drawn) (t:=s1.toks) (os:=s1.os) T hC (looks_findIn I1.kIn hi) (λself=>bind_fn I1.kIn self hf) small (codeAny_mono (F.run _ X.stack _ _ ⟨Value.ref (s1.heap.objs.size+1) :: us,[]⟩ (Value.ref (s1.heap.objs.size+1) :: us) _ _ E0 (hr.make C us [])
  (I2.env0.make C us []) bd r2 hq) λr' s' hq'=>?_))
 cases r' with
 | error z=>exact hq'.elim
 | ok fl =>
  cases fl with
  | ret u =>
   obtain ⟨v,H',I3,rv,ev,q3⟩:=I2.after hq';subst ev;exact ⟨rv,⟨V.ref (s1.heap.objs.size+1),H',I3,rfl,q3⟩⟩
  | next=>exact False.elim hq'
  | brk=>exact False.elim hq'
  | cont=>exact False.elim hq'
def xh (H:Hp) (a:Addr):Hp:=λb=>if b=a then none else H b
theorem qH (h:b≠a):xh H a b=H b:=by unfold xh;rw[if_neg h]
theorem Mj (h:xh H a b=some u):b≠a/\H b=some u:=by
 unfold xh at h
 split at h
 ·cases h
 ·exact ⟨by assumption,h⟩
def Js (X:Cx) (E:XK):Prop:=∀(pins:List (Addr×Obj)) (σ:St) (H:Hp) (s:Shared) (a:Addr) (cls:Value) (dx:Option Addr),Inv X pins σ H s->H a=some (HF a cls dx)->X.H₀ a=none->E cls dx (xh H a)->X.xe (.ref a) s
theorem wj {K:Frag} :
  Js (zL (M9 P w) P w K mg base N qual scope f cd A outer s H E) E:=by
 intro pins σ H1 s1 e cls dx I he h0 hE;have h0:H e=none:=h0;obtain ⟨⟨oe,vs,t,g0,oc,od,odd,v0,v1⟩,_⟩:=(show fu P w H1 s1.heap e (HF e cls dx) from I.hok e _ he);subst oc;have hfr:(A.deeper (envOfC qual scope s.heap.objs.size f cd)).frames=some (envOfC qual scope s.heap.objs.size f cd :: outer):=I.ok.frames;have hstk:s1.heap.FunFrames base (envOfC qual scope s.heap.objs.size f cd :: outer):=I.stack;have nL:∀b o,s.heap.get? b=some o->b≠s.heap.objs.size:=λb o q=>bw (Heap.lt_size q)
 have ns0:s.heap.get? e=none:=by
  cases q:s.heap.get? e with
  | none=>rfl
  | some o =>
   have:=I.base.free e o q h0 (aE);rw[he] at this;cases this
 have enf:e∉uw (envOfC qual scope s.heap.objs.size f cd :: outer):=λz=>by
  have:=I.stkFree e z;rw[he] at this;cases this
 obtain ⟨hid,eh⟩:∃l,l=e :: uw (envOfC qual scope s.heap.objs.size f cd :: outer):=⟨_,rfl⟩;have hfun:s1.heap.FunFrames (hideAll s1.heap hid) (envOfC qual scope s.heap.objs.size f cd :: outer):=funFrames_hide hstk λenv hm b hb=>by rw[eh];exact bG _ (Gg.mpr ⟨env,hm,hb⟩)
 have hD:jd e dx s1.heap:=odd ▸ jd.of g0
 have c1:∀b u,xh H1 e b=some u->∃o,(hideAll s1.heap hid).get? b=some o:=λb u q=>by
  obtain ⟨ne,q⟩:=Mj q;obtain ⟨o,z⟩:=(I.hok b u q).there;refine ⟨o,hideAll_get _ z λm=>?_⟩;rw[eh] at m;rcases aw.mp m with m | m
  ·exact ne m
  ·have:=I.stkFree b m;rw[q] at this;cases this
 have c2:∀b o,s.heap.get? b=some o->b∉uw outer->∃o',(hideAll s1.heap hid).get? b=some o':=λb o q hb=>by
  obtain ⟨o',z⟩:=I.base.there b o q (aE);refine ⟨o',hideAll_get _ z λm=>?_⟩;rw[eh,E8 (L:=s.heap.objs.size) rfl] at m;rcases aw.mp m with m | m
  ·rw[m,ns0] at q;cases q
  rcases aw.mp m with m | m
  ·exact nL b o q m
  ·exact hb m
 have hU0:Un (uw outer) [] H H1 s.heap s1.heap:=I.base
 have hU:Un (uw outer) [] H (xh H1 e) s.heap s1.heap:=⟨hU0.keep,hU0.slot,λb o q n hx=>by
   rw[qH (λz=>by rw[z,ns0] at q;cases q)];exact hU0.free b o q n hx,hU0.there,λb xs q=>by
   have q':=hU0.tups b xs q;rw[qH (λz=>by rw[z,he] at q';cases q')];exact q',λb o u q=>by
   have q':=hU0.frzs b o u q;rw[qH (λz=>by rw[z,he] at q';cases q')];exact q',λb ps q=>by
   obtain ⟨m,q'⟩:=hU0.tbls b ps q;exact ⟨m,by rw[qH (λz=>by rw[z,he] at q';cases q')];exact q'⟩⟩
 have hok1:vm P w (xh H1 e) s1.heap:=λb u q=>by
  obtain ⟨ne,q⟩:=Mj q;exact (I.hok b u q).stay (λc v _ z=>z) (λc z=>by rw[qH (λy=>by rw[y,he] at z;cases z)];exact z) λc xs z=>by rw[qH (λy=>by rw[y,he] at z;cases z)];exact z
 refine wpAny_mono (mU (e:=e) (d:=dx) (zJ _ _) (wpAny_leaving_firstW (E:=λ_ _=>False) (Q:=λ_ s2=>RQ P w outer H s (xh H1 e) e t oe.cls (hideAll s1.heap hid) s2)
  (base:=hideAll s1.heap hid) (L:=s.heap.objs.size) hfr hfun rfl g0 (λb o q=>of_hideAll _ q) (hideAll_none _ (by rw[eh];exact cK)) od v1 v0 λh2 hL=>?_) hD) (λ_ s2 ⟨F,dc⟩=>⟨e,t,oe.cls,dx,xh H1 e,_,rfl,⟨F,dc⟩,hE⟩) (λ_ _ z=>z.1.elim)
 obtain ⟨x1,⟨_,_,x2⟩,x3,x4⟩:=hL;have fl:Heap.FlyingW (hideAll s1.heap hid) outer e oe.cls (.ref t) h2:=⟨x1,hideAll_none _ (by rw[eh];exact cK),x2,x3⟩
 obtain ⟨U2,ok2⟩:=Hw hU hok1 (λb o q=>of_hideAll _ q) x1 x4 c1 c2 I.ok.frf (λb hb o q=>by
  obtain ⟨_,o',e',d⟩:=I.ok.funs.mem hb;have e':s.heap.get? b=some o':=e';rw[q] at e';cases e';exact d)
 exact ⟨I.os,I.bare,U2,ok2,fl,c1,c2⟩
end
section
variable {X:Cx}
def Cc (K:Frag) (H0:Hp) (te:TE) (E:XK):TS:=λ_ σ H=>te σ H λv H1=>∃a C S dx,v=.ref a/\H1 a=some (HF a (.ref C) dx)/\H0 a=none/\RS K C S/\E (.ref C) dx (xh H1 a)
theorem Bt (hx:Js X E) (hc:X.calm=true) (he:PE X e te):PS X (.Raise (some e) none pos) (Cc X.K X.H₀ te E):=by
 intro pins s σ H D I h;rw[arm_exec_Raise];refine wpAny_bind (wpAny_standAt ?_);unfold raiseStmt
 dsimp only
 refine wpAny_bind (wpAny_bind (fP (he pins s σ H _ I h) λu s1 ⟨v,H1,I1,rv,a,C,S,dx,ev,ea,h0,xi,q⟩=>wpAny_bind (wpAny_standAt (wpAny_pure ?_))));subst ev;cases rv;obtain ⟨⟨ob,vs,t,g0,oc,od,odd,v0,v1⟩,_⟩:=(show fu X.prog X.w H1 s1.heap a (HF a (.ref C) dx) from I1.hok a _ ea);obtain ⟨N,nm,qn,bs,hdct,sn,sub,ab,col,dd,k0,k1,k2,k3,k5,cd,hC,T,hcl,hm⟩:=xi.at I1.kIn;have hxe:=hx pins σ H1 s1 a _ _ I1 ea h0 q;have hhd:=I1.ok.hd hc;obtain ⟨c1,d1,e1,l1⟩:=ob
 dsimp only at oc od odd
 subst oc od odd;have hcB:(Value.ref C :: .ref S :: vo).contains (.type "BaseException")=true:=by rfl
 obtain ⟨hp,gs,dr,tk,os⟩:=s1;have LT:Looks (model X.prog X.w) hp (typeOf (.ref a)) (.ref C):=(Looks.ld g0).andThen .now;have LTT:Looks (model X.prog X.w) hp (typeOf (.ref C)) (.type "type"):=(Looks.ld hC).andThen .now
 have LIT:Looks (model X.prog X.w) hp (isType (.ref a)) false:=λA' Q' E' s' k z=>by
  unfold isType loadHead;exact wpAny_bind (wpAny_loadPart (k _ _ g0) (wpAny_pure z))
 have LIE:Looks (model X.prog X.w) hp (isExcClass (.ref a)) false:=λA' Q' E' s' k z=>by
  unfold isExcClass;refine wpAny_bind ((LIT.keeps k).here ?_);rw[if_neg aI];exact wpAny_pure z
 have LIB:Looks (model X.prog X.w) hp (isInstance (.ref a) (.type "BaseException")) true:=LT.andThen (looks_mroIn (show X.K.In hp from I1.kIn) xi.xc.mb);simp only[evalOpt,Option.map];refine wpAny_bind (wpAny_pure (wpAny_bind (wpAny_holding ?_)));unfold excFromValue;refine wpAny_bind (Looks.at LIE ?_);rw[if_neg aI];refine wpAny_bind (Looks.at LIB ?_);rw[if_pos rfl];refine wpAny_pure ?_;refine wpAny_bind (Looks.at LIT ?_);rw[if_neg aI];unfold raisedInstance;refine wpAny_bind (wpAny_bind (Looks.at LT (wpAny_bind (Looks.at LTT ?_))));rw[if_pos (by rfl)];refine wpAny_pure (wpAny_bind ?_);unfold setFlight;refine wpAny_bind (wpAny_field g0 rfl v1 ?_);rw[if_neg (by decide)];exact wpAny_pure (wpAny_raiseNew_none hhd hxe)
def La (K:Frag) (ta:TE) (f:Str):TE:=λσ H Q=>ta σ H λx H1=>∃a C dx fs v,x=.ref a/\H1 a=some (BM a (.ref C) (some dx))/\H1 dx=some (.xd fs)/\Ng K C/\findIn K (.ref C) f=some none/\fs.lookup f=some v/\Q v H1
theorem Fb {σ:St} (I:Inv X pins σ H s) (e:H a=some (BM a (.ref C) (some dx))) (ed:H dx=some (.xd fs)):∃o od,InstAt s.heap a o C (some od)/\∃mA:Str->Option Value,(∀f,xx (fs.lookup f) (mA f))/\∀n,lookIn n od=some (mA n):=by
 obtain ⟨⟨o,vs,g,c,d,dd⟩,_⟩:=(show fu X.prog X.w H s.heap a (BM a (.ref C) (some dx)) from I.hok a _ e);obtain ⟨mA,ns,r⟩:=(show fu X.prog X.w H s.heap dx (.xd fs) from I.hok dx _ ed);obtain ⟨od,god,hl⟩:=BC ns;obtain ⟨oc,odi,dt,sl⟩:=o
 dsimp only at c d dd
 subst c d dd;exact ⟨_,od,⟨g,rfl,rfl,god⟩,mA,r,hl⟩
theorem Hs (r:RelV v u):handedIn u=true:=by
 cases v with
 | non=>cases (show u=Value.none from r);rfl
 | bl b=>cases (show u=Value.bool b from r);rfl
 | int i=>obtain ⟨t,rfl⟩:=(show ∃t,u=Value.int i t from r);rfl
 | str y=>obtain ⟨t,rfl⟩:=(show ∃t,u=Value.str y t from r);rfl
 | byt y=>obtain ⟨t,rfl⟩:=(show ∃t,u=Value.bytes y t from r);rfl
 | flt y=>obtain ⟨t,rfl⟩:=(show ∃t,u=Value.float y t from r);rfl
 | ref y=>cases (show u=Value.ref y from r);rfl
 | ty n=>cases (show u=Value.type n from r);rfl
theorem Od (he:PE X e ta) (hb:attributeBase e f X.env (eval e X.env)=eval e X.env):PE X (.Attribute e f pos) (La X.K ta f):=by
 intro pins s σ H Q I h;refine Jp hb (fP (he pins s σ H _ I h) λu s1 ⟨x,H1,I1,rx,a,C,dx,fs,v,ex,ea,ed,xc,na,lf,q⟩=>?_);subst ex;cases rx;obtain ⟨o,od,J,mA,r,hl⟩:=Fb I1 ea ed;have rf:=r f;rw[lf] at rf;cases hm:mA f with
 | none=>rw[hm] at rf;exact rf.elim
 | some u =>
  rw[hm] at rf;have rf:RelV v u:=rf;have tokd:=I1.tok (s1.toks+1);obtain ⟨hp,gs,dr,tk,os⟩:=s1;exact OE (show X.K.In hp from I1.kIn) J xc na (by rw[hl,hm]) (Hs rf) ⟨v,H1,tokd,rf,q⟩
def T7 (K:Frag) (c:Value):V->Hp->VK->Prop:=λx H Q=>∃a C dx b,x=.ref a/\H a=some (BM a (.ref C) dx)/\(∀d,dx=some d->∃fs,H d=some (.xd fs))/\Ng K C/\kitOne K (.ref C) c=some b/\Q (.bl b) H
theorem MD {σ:St} (I:Inv X pins σ H s) (e:H a=some (BM a (.ref C) dx)) (ed:∀d,dx=some d->∃fs,H d=some (.xd fs)):∃o od,InstAt s.heap a o C od:=by
 cases dx with
 | none=>obtain ⟨o,J⟩:=MB I e;exact ⟨o,none,J⟩
 | some d =>
  obtain ⟨fs,ed⟩:=ed d rfl;obtain ⟨o,od,J,_⟩:=Fb I e ed;exact ⟨o,some od,J⟩
theorem J9 {K:Frag} {a C:Addr} (e:Ng K C):KitX K (.ref a) (.ref C) (λh=>∃o od,InstAt h a o C od) where
 ty:=λ_ _ _ ⟨_,_,I⟩=>I.type
 it:=λ_ _ X _=>by
  obtain ⟨c,d,cd,sl,lk⟩:=e.obj;intro A' Q' E' s' k q;unfold isType loadHead;exact wpAny_bind (wpAny_loadPart (k _ _ (X _ _ lk)) (wpAny_pure q))
 ne:=λh tp dd its n sl X htp=>by
  obtain ⟨c,d,cd,sl',lk⟩:=e.obj;rcases Bool.eq_false_or_eq_true (Value.ref C == Value.ref tp) with q | q
  ·have z:C=tp:=Value.ref.inj (beq_iff_eq.mp q);subst z;rw[X _ _ lk] at htp;cases htp
  ·exact q
 ca:=λ{prog w A E Q s} X ⟨_,_,I⟩ k=>by
  obtain ⟨cd,hc,_⟩:=any_some e.hd;obtain ⟨h,g,d,t,os⟩:=s;exact Kg X I e.ga e.gt e.mb e.mo (by rw[hc];rfl) e.ca e.sg e.tk k
theorem Q7 {σ:St} (I:Inv X pins σ H s) (e:H a=some (BM a (.ref C) dx)) (ed:∀d,dx=some d->∃fs,H d=some (.xd fs)) (xc:Ng X.K C)
  (k:kitOne X.K (.ref C) c=some b) (h:∀tk,Q (.bool b) { s with toks:=tk }):wpAny (model X.prog X.w) A (call (.builtin "isinstance") [.ref a,c]) Q E s:=kia_one (J9 xc) I.kIn (MD I e ed) k (λz=>nomatch z) h
theorem zN (rc:∀u,RelV cv u->u=c):pC X (.builtin "isinstance") (λvs H Q=>∃x,vs=[x,cv]/\T7 X.K c x H Q):=by
 intro pins s σ H vs us Q I r h;obtain ⟨x,rfl,a,C,dx,b,rfl,ea,ed,xc,ek,q⟩:=h;obtain ⟨u,v,rfl,ru,rv⟩:=vals2 r;cases ru;rw[rc v rv];exact Q7 I ea ed xc ek λtk=>⟨.bl b,H,I.tok tk,rfl,q⟩
end
inductive IA (K:FG9) (vs:List V) (H:Hp) (Q:VK) (E9:XK):Prop
 | mk (p:Addr) (n w:Nat) (H0:Hp) (rows:LR9):vs=[.ref p,.int n]->bx K H0 H p rows->rows.length<=100->n<=100->(∀xs∈rows,xs.length=n)->AZ (bu rows n) rows.length w->(∀q R ps H',aA H H'->H' q=some (.lst (dM ps))->bF (bu rows n) rows.length R ps->Q (.ref q) H')->IA K vs H Q E9
theorem jw:(bu rows n).length=n:=by unfold bu;simp
inductive Em (K:FG9) (C:Addr) (vs:List V) (H:Hp) (Q:VK) (E9:XK):Prop
 | mk (x p:Addr) (w:Nat) (H0 H1:Hp) (mv pt lk sts pus Rk:LR9) (pk:List Nat):vs=[.ref x,.ref p]->lI K H0 H C x mv pt lk->gV mv pt lk->bx K H1 H p sts->Jw mv pt sts pus->pus.length < mv.length->bF (fQ mv pt mv.length) mv.length Rk pk->pk.length=mv.length->(∀xs∈mv,wd xs (sts.getD pus.length []))->AZ (bu (sts++(lY mv (sts.getD pus.length []) :: pt)) mv.length) (sts++(lY mv (sts.getD pus.length []) :: pt)).length w->(∀r pu H',H r=none->aA H H'->c7 K H' r pu->pu.length=pt.length->(∀z∈pu,z=0\/z=1)->(∀s':List Rat,s'.length=mv.length->(∀c,s'.getD c 0=bc mv.length (λi=>bI mv c i*bI sts pus.length i)+bc pt.length λl=>pu.getD l 0*bI pt l c)->Jw mv pt (sts++[s']) (pus++[pu]))->Q (.ref r) H')->Em K C vs H Q E9
theorem Kt (h:xs.length=k+1):o7 xs (some (-1)) none=xs.drop k:=by
 unfold o7
 have e:HT.CI xs.length 0 (some (-1))=k:=by
  show (if (-1:Int) < 0 then ((-1:Int)+(xs.length:Int)).toNat else min (-1:Int).toNat xs.length)=k
  rw[if_pos (by decide),h]
  lia
 rw[e,HT.rX];exact aB (by rw[eV];lia)
theorem HH {xs:LR9} (h:xs.length=k+1):xs.drop k=[xs.getD k []]:=by
 rw[dC (by lia),xX (by lia),aa,ae (by lia)];rfl
theorem GO:(List.replicate m (0:Rat)).getD l 0=0:=by
 rw[aa,nM]
 split <;> rfl
theorem P5 (hl:l < m):(Ec m ((l:Nat):Int)).getD l' 0=if l'=l then 1 else 0:=by
 unfold Ec;rw[aa,aD];rcases aY l' m with q | q
 ·rw[cy q];show (if ((l':Nat):Int)=((l:Nat):Int) then (1:Rat) else 0)=_
  by_cases e:l'=l
  ·rw[if_pos (by rw[e]),if_pos e]
  ·rw[if_neg (by lia),if_neg e]
 ·rw[aH (by rw[cm];exact q),if_neg (by lia)];rfl
theorem N8 {ps:List Nat} (h:M∈(ps.filter (k<=·)).map λp=>((p:Nat):Int)):∃t,t < ps.length/\M=((ps.getD t 0:Nat):Int)/\k<=ps.getD t 0:=by
 obtain ⟨p,hp,rfl⟩:=av.mp h;obtain ⟨h1,h2⟩:=ie.mp hp;obtain ⟨t,ht,e⟩:=bB h1;have eg:ps.getD t 0=p:=by rw[aa,ae ht,e];rfl
 exact ⟨t,ht,by rw[eg],by rw[eg];simpa using h2⟩
def O6 (mv pt:LR9):Prop:=∀sts pus,Jw mv pt sts pus->(∀pu∈pus,∀z∈pu,z=(0:Rat)\/z=1)->pus.length < mv.length->(∀xs∈mv,wd xs (sts.getD pus.length []))/\(∃w,AZ (bu (sts++(lY mv (sts.getD pus.length []) :: pt)) mv.length) (sts++(lY mv (sts.getD pus.length []) :: pt)).length w)/\∀pu:List Rat,(∀z∈pu,z=0\/z=1)->ph 1500 1800 (sts.getD pus.length []++pu)
inductive Eu (K:FG9) (C:Addr) (vs:List V) (H:Hp) (Q:VK) (E9:XK):Prop
 | mk (x:Addr) (H0:Hp) (mv pt lk Rk:LR9) (pk:List Nat):vs=[.ref x]->lI K H0 H C x mv pt lk->gV mv pt lk->F7 mv pt lk->bF (fQ mv pt mv.length) mv.length Rk pk->pk.length=mv.length->O6 mv pt->(∀t a b sts pus H',aA H H'->H' t=some (.tup [.ref a,.ref b])->bx K H H' a sts->bx K H H' b (pus++[List.replicate pt.length 0])->Jw mv pt sts pus->pus.length=mv.length->(∀pu∈pus,∀z∈pu,z=0\/z=1)->Q (.ref t) H')->Eu K C vs H Q E9
theorem MT:Jw mv pt [List.replicate mv.length 0] [] :=
 ⟨rfl,λxs hx=>by rw[bD.mp hx];exact bV,(λ_ h=>nomatch h),λc=>GO,(λj h=>absurd h (cH _)),λj j0 hj=>by
  have:j < 1:=hj
  lia⟩
theorem J7 {st pu:List Rat} (D:gV mv pt lk) (h:st.length=mv.length) (hp:pu.length=pt.length) (c:Nat):(jm mv pt st pu).getD c 0=bc mv.length (λj=>bI mv c j*st.getD j 0)+bc pt.length λi=>pu.getD i 0*bI pt i c:=by
 rcases aY c mv.length with q | q
 ·exact LZ D h hp q
 ·have z1:∀j,bI mv c j=0:=λj=>by unfold bI;rw[aa (l:=mv),aH q];exact List.getD_nil
  have l:(jm mv pt st pu).length<=mv.length:=by unfold jm;rw[aV];exact Nat.min_le_left ..
  rw[aa,aH (by lia),cu λj _=>by rw[z1 j];grind,cu λi _=>by rw[xR D.pw q];grind];show (0:Rat)=0+0
  grind
theorem zQ {v:V} (h:xs.length=k+1) (e:xs[k]?=some v):F6 xs (-1)=some v:=by
 have:xs=xs.take k++[v]:=by
  rw[aG] at e;obtain ⟨hk,e⟩:=e;rw[<- e,List.take_append_getElem hk,aB (by lia)]
 rw[this];exact va _ _
theorem Ou {st pu:List Rat} (D:gV mv pt lk):(jm mv pt st pu).length=mv.length:=by
 unfold jm;rw[aV,jw,xV]
abbrev mK (h:Heap) (T:Addr) (a b c:Value):Prop:=h.get? T=some { cls:=.type "tuple",data:=.seq #[a,b,c] }
structure Z3 (z TI TO i1 i2 i3 l1 l2 l3:Addr):Prop where
 nd:[z,TO,i1,i2,i3].Nodup
 ti:TI∉[z,TO,i1,i2,i3]
 m1:l1∉[z,TO,i1,i2,i3]
 m2:l2∉[z,TO,i1,i2,i3]
 m3:l3∉[z,TO,i1,i2,i3]
section
variable {prog:Program} {w:World} {A:Around} {E:Value->Shared->Prop} {s:Shared} {z TI TO i1 i2 i3 l1 l2 l3:Addr} {k:Nat} {xs ys zs:Array Value} {a b c u v t:Value}
theorem Gr (hT:mK s.heap T a b c)
  (h:∀h',h'.get? T=some { cls:=.type "tuple",data:=.seq ((#[a,b,c]:Array Value).setIfInBounds j x) }->Heap.SameBut T s.heap h'->Q () { s with heap:=h' }):wpAny (model prog w) A (updateSeq T (·.setIfInBounds j x)) Q E s:=by
 refine wpAny_updateSeq hT rfl (h _ ?_ (Heap.SameBut.update ..));rw[Heap.get?_update_self _ hT rfl];simp [Obj.mapSeq]
theorem Nl {Q:Value->Shared->Prop} (D:Z3 z TI TO i1 i2 i3 l1 l2 l3) (hz:IsZip s.heap z TI TO .none) (hTI:mK s.heap TI (.ref i1) (.ref i2) (.ref i3)) (hTO:mK s.heap TO a b c)
  (h1:s.heap.IsListIter i1 l1 k) (h2:s.heap.IsListIter i2 l2 k) (h3:s.heap.IsListIter i3 l3 k) (g1:s.heap.IsList l1 xs) (g2:s.heap.IsList l2 ys) (g3:s.heap.IsList l3 zs) (e1:xs[k]?=some u) (e2:ys[k]?=some v) (e3:zs[k]?=some t)
  (hQ:∀h',IsZip h' z TI TO (rawInt s.heap.objs.size)->mK h' TO u v t->h'.IsListIter i1 l1 (k+1)->h'.IsListIter i2 l2 (k+1)->h'.IsListIter i3 l3 (k+1)->mK h' s.heap.objs.size u v t →
   (∀d o,d∉[z,TO,i1,i2,i3]->s.heap.get? d=some o->h'.get? d=some o)->Q (.ref s.heap.objs.size) { s with heap:=h' }) :
  wpAny (model prog w) A (Builtin.«zip.__next__» ⟨[.ref z],[]⟩) (λfin s'=>∃v,fin=.done (.ret v)/\Q v s') E s:=by
 obtain ⟨nd,ti,m1,m2,m3⟩:=D;simp only[cO,aw,aE,or_false,not_or,ki,and_true,not_false_eq_true] at nd ti m1 m2 m3;obtain ⟨⟨zT,z1,z2,z3⟩,⟨T1,T2,T3⟩,⟨i12,i13⟩,i23⟩:=nd;obtain ⟨_,_,_,_,_⟩:=ti;obtain ⟨a1,a2,a3,a4,a5⟩:=m1;obtain ⟨b1,b2,b3,b4,b5⟩:=m2;obtain ⟨c1,c2,c3,c4,c5⟩:=m3;show wpAny _ _ (field (.ref z) 2 >>= _) _ _ _
 refine wpAny_bind (wpAny_field hz rfl (x:=.bool false) rfl ?_);show wpAny _ _ (field (.ref z) 3 >>= _) _ _ _
 refine wpAny_bind (wpAny_field hz rfl (x:=.ref TI) rfl ?_);refine wpAny_bind (wpAny_seqItems hTI rfl ?_);show wpAny _ _ (Builtin.SmallTypes.ownedTupleIsFree (.ref z) >>= _) _ _ _
 refine wpAny_bind ?_;unfold Builtin.SmallTypes.ownedTupleIsFree;refine wpAny_bind (wpAny_field hz rfl (x:=.none) rfl (wpAny_pure ?_));simp only[if_true];refine wpAny_bind (wpAny_rule ?_);refine wpAny_bind (wpAny_field hz rfl (x:=.ref TO) rfl ?_);refine wpAny_bind (wpAny_setField_rec hz (by simp) λp1 y1 s1=>?_);replace y1:IsZip p1 z TI TO .ellipsis:=y1;refine wpAny_bind ?_;simp only[List.zipIdx_cons,List.zipIdx_nil,rg,oy];refine wpAny_bind (wpAny_bind (wpAny_onRaise ?_));show wpAny _ _ (Builtin.SmallTypes.nextOf (.ref i1) >>= _) _ _ _
 refine wpAny_bind (wpAny_nextOf_list_item (h1.extBut s1.extBut (Ne.symm z1)) (g1.extBut s1.extBut a1) e1 λp2 n1 s2=>wpAny_pure ?_);have t2:mK p2 TO a b c:=s2.extBut _ _ T1 (s1.extBut _ _ (Ne.symm zT) hTO);refine wpAny_bind (wpAny_seqItems t2 rfl ?_);refine wpAny_bind (Gr t2 λp3 t3 s3=>?_);replace t3:mK p3 TO u b c:=t3;refine wpAny_bind (wpAny_letGo (wpAny_pure ?_));refine wpAny_bind (wpAny_bind (wpAny_onRaise ?_));show wpAny _ _ (Builtin.SmallTypes.nextOf (.ref i2) >>= _) _ _ _
 refine wpAny_bind (wpAny_nextOf_list_item (((h2.extBut s1.extBut (Ne.symm z2)).extBut s2.extBut (Ne.symm i12)).extBut s3.extBut (Ne.symm T2)) (((g2.extBut s1.extBut b1).extBut s2.extBut b3).extBut s3.extBut b2) e2 λp4 n2 s4=>wpAny_pure ?_);have t4:mK p4 TO u b c:=s4.extBut _ _ T2 t3;refine wpAny_bind (wpAny_seqItems t4 rfl ?_);refine wpAny_bind (Gr t4 λp5 t5 s5=>?_);replace t5:mK p5 TO u v c:=t5;refine wpAny_bind (wpAny_letGo (wpAny_pure ?_));refine wpAny_bind (wpAny_bind (wpAny_onRaise ?_));show wpAny _ _ (Builtin.SmallTypes.nextOf (.ref i3) >>= _) _ _ _
 refine wpAny_bind (wpAny_nextOf_list_item (((((h3.extBut s1.extBut (Ne.symm z3)).extBut s2.extBut (Ne.symm i13)).extBut s3.extBut (Ne.symm T3)).extBut s4.extBut (Ne.symm i23)).extBut s5.extBut (Ne.symm T3)) (((((g3.extBut s1.extBut c1).extBut s2.extBut c3).extBut s3.extBut c2).extBut s4.extBut c4).extBut s5.extBut c2) e3 λp6 n3 s6=>wpAny_pure ?_);have t6:mK p6 TO u v c:=s6.extBut _ _ T3 t5;refine wpAny_bind (wpAny_seqItems t6 rfl ?_);refine wpAny_bind (Gr t6 λp7 t7 s7=>?_);replace t7:mK p7 TO u v t:=t7;refine wpAny_bind (wpAny_letGo (wpAny_pure (wpAny_pure ?_)));refine wpAny_bind (wpAny_seqItems t7 rfl ?_);refine wpAny_bind (wpAny_newTuple ?_);have hsz:p7.objs.size=s.heap.objs.size:=by rw[s7.1,s6.1,s5.1,s4.1,s3.1,s2.1,s1.1]
 have kp:∀d o,d∉[TO,i1,i2,i3]->p1.get? d=some o->p7.get? d=some o:=λd o hd e=>by
  simp only[aw,aE,or_false,not_or] at hd;obtain ⟨d1,d2,d3,d4⟩:=hd;exact s7.extBut _ _ d1 (s6.extBut _ _ d4 (s5.extBut _ _ d1 (s4.extBut _ _ d3 (s3.extBut _ _ d1 (s2.extBut _ _ d2 e)))))
 have y7:IsZip p7 z TI TO .ellipsis:=kp z _ (by simp [zT,z1,z2,z3]) y1;have zlt:z < p7.objs.size:=Heap.lt_size y7;show wpAny _ _ (Builtin.SmallTypes.ownedTupleHandOut (.ref z) (.ref p7.objs.size) >>= _) _ _ _
 refine wpAny_bind ?_;unfold Builtin.SmallTypes.ownedTupleHandOut;have y8:IsZip (p7.push { cls:=.type "tuple",data:=.seq #[u,v,t] }) z TI TO .ellipsis:=Heap.get?_push_of_some _ y7;refine wpAny_bind (wpAny_setField_rec y8 (by simp) λp8 y9 s8=>?_);replace y9:IsZip p8 z TI TO (rawInt p7.objs.size):=y9;refine wpAny_setField_rec y9 (by simp) λp9 yA s9=>?_
 replace yA:IsZip p9 z TI TO (rawInt p7.objs.size):=yA;have up:∀d o,d≠z->p7.get? d=some o->p9.get? d=some o:=λd o hd e=>s9.extBut _ _ hd (s8.extBut _ _ hd (Heap.get?_push_of_some _ e))
 have tT:mK p9 p7.objs.size u v t:=s9.extBut _ _ (ou zlt) (s8.extBut _ _ (ou zlt) (Heap.get?_push_size _ rfl));rw[hsz] at yA tT;refine wpAny_pure ⟨_,rfl,?_⟩;show Q (.ref p7.objs.size) _
 rw[hsz];refine hQ p9 yA (up _ _ (Ne.symm zT) t7) ?_ ?_ ?_ tT λd o hd e=>?_
 ·exact ((((((n1.extBut s3.extBut (Ne.symm T1)).extBut s4.extBut i12).extBut s5.extBut (Ne.symm T1)).extBut s6.extBut i13).extBut s7.extBut (Ne.symm T1))).at λo e=>up _ o (Ne.symm z1) e
 ·exact (((n2.extBut s5.extBut (Ne.symm T2)).extBut s6.extBut i23).extBut s7.extBut (Ne.symm T2)).at λo e=>up _ o (Ne.symm z2) e
 ·exact (n3.extBut s7.extBut (Ne.symm T3)).at λo e=>up _ o (Ne.symm z3) e
 ·simp only[aw,aE,or_false,not_or] at hd;obtain ⟨d0,d1,d2,d3,d4⟩:=hd;exact up d o d0 (kp d o (by simp [d1,d2,d3,d4]) (s1.extBut _ _ d0 e))
theorem P4 (hh:A.handled=none) (D:Z3 z TI TO i1 i2 i3 l1 l2 l3) (hz:IsZip s.heap z TI TO .none) (hTI:mK s.heap TI (.ref i1) (.ref i2) (.ref i3))
  (h1:s.heap.IsListIter i1 l1 k) (g1:s.heap.IsList l1 xs) (e1:xs[k]?=none)
  (hE:∀h' e,(∀d o,d∉[z,TO,i1,i2,i3]->s.heap.get? d=some o->h'.get? d=some o)->(∃o,h'.get? e=some o/\o.cls=.type "StopIteration")->E (.ref e) { s with heap:=h' }) :
  wpAny (model prog w) A (Builtin.«zip.__next__» ⟨[.ref z],[]⟩) Q E s:=by
 obtain ⟨nd,ti,m1,_,_⟩:=D;simp only[cO,aw,aE,or_false,not_or,ki,and_true,not_false_eq_true] at nd ti m1;obtain ⟨⟨zT,z1,z2,z3⟩,⟨T1,T2,T3⟩,⟨i12,i13⟩,i23⟩:=nd;show wpAny _ _ (field (.ref z) 2 >>= _) _ _ _
 refine wpAny_bind (wpAny_field hz rfl (x:=.bool false) rfl ?_);show wpAny _ _ (field (.ref z) 3 >>= _) _ _ _
 refine wpAny_bind (wpAny_field hz rfl (x:=.ref TI) rfl ?_);refine wpAny_bind (wpAny_seqItems hTI rfl ?_);show wpAny _ _ (Builtin.SmallTypes.ownedTupleIsFree (.ref z) >>= _) _ _ _
 refine wpAny_bind ?_;unfold Builtin.SmallTypes.ownedTupleIsFree;refine wpAny_bind (wpAny_field hz rfl (x:=.none) rfl (wpAny_pure ?_));simp only[if_true];refine wpAny_bind (wpAny_rule ?_);refine wpAny_bind (wpAny_field hz rfl (x:=.ref TO) rfl ?_);refine wpAny_bind (wpAny_setField_rec hz (by simp) λp1 y1 s1=>?_);replace y1:IsZip p1 z TI TO .ellipsis:=y1;refine wpAny_bind ?_;simp only[List.zipIdx_cons,List.zipIdx_nil,rg,oy];refine wpAny_bind (wpAny_bind (wpAny_onRaise ?_));show wpAny _ _ (Builtin.SmallTypes.nextOf (.ref i1) >>= _) _ _ _
 refine wpAny_bind (wpAny_nextOf_list_end hh (h1.extBut s1.extBut (Ne.symm z1)) (g1.extBut s1.extBut m1.1) e1 λp2 e s2 he=>?_);obtain ⟨oe,hoe,hce⟩:=he;have y2:IsZip p2 z TI TO .ellipsis:=s2 _ _ z1 y1;have ez:e≠z:=λx=>by subst x;rw[y2] at hoe;cases hoe;simp at hce
 refine wpAny_setField_rec y2 (by simp) λp3 _ s3=>hE p3 e (λd o hd x=>?_) ⟨oe,s3.extBut _ _ ez hoe,hce⟩
 simp only[aw,aE,or_false,not_or] at hd;exact s3.extBut _ _ hd.1 (s2 _ _ hd.2.2.1 (s1.extBut _ _ hd.1 x))
theorem Ot (D:Z3 z TI TO i1 i2 i3 l1 l2 l3) (hz:IsZip s.heap z TI TO .none) (hTI:mK s.heap TI (.ref i1) (.ref i2) (.ref i3)) (hTO:mK s.heap TO a b c)
  (h1:s.heap.IsListIter i1 l1 k) (h2:s.heap.IsListIter i2 l2 k) (h3:s.heap.IsListIter i3 l3 k) (g1:s.heap.IsList l1 xs) (g2:s.heap.IsList l2 ys) (g3:s.heap.IsList l3 zs) (e1:xs[k]?=some u) (e2:ys[k]?=some v) (e3:zs[k]?=some t)
  (hQ:∀h',IsZip h' z TI TO (rawInt s.heap.objs.size)->mK h' TO u v t->h'.IsListIter i1 l1 (k+1)->h'.IsListIter i2 l2 (k+1)->h'.IsListIter i3 l3 (k+1)->mK h' s.heap.objs.size u v t →
   (∀d o,d∉[z,TO,i1,i2,i3]->s.heap.get? d=some o->h'.get? d=some o)->Q (some (.ref s.heap.objs.size)) { s with heap:=h' }) :
  wpAny (model prog w) A (pyNext (.ref z)) Q E s:=by
 have hT:s.TypeIs (.ref z) "zip":=⟨_,hz,rfl⟩;unfold pyNext
 exact wpAny_bind (wpAny_attempt (wpAny_callSpecial?_slot (name:=Str.ofString "__next__") hT F.slot_zip_next
  (wpAny_call_entry F.slot_zip_next hT F.entry_zip_next
   (Nl D hz hTI hTO h1 h2 h3 g1 g2 g3 e1 e2 e3 λh' a1 a2 a3 a4 a5 a6 a7=>wpAny_pure (hQ h' a1 a2 a3 a4 a5 a6 a7)) (F.args_zip_next_1 _))))
theorem EZ (hh:A.handled=none) (D:Z3 z TI TO i1 i2 i3 l1 l2 l3) (hz:IsZip s.heap z TI TO .none) (hTI:mK s.heap TI (.ref i1) (.ref i2) (.ref i3))
  (h1:s.heap.IsListIter i1 l1 k) (g1:s.heap.IsList l1 xs) (e1:xs[k]?=none)
  (hQ:∀h',(∀d o,d∉[z,TO,i1,i2,i3]->s.heap.get? d=some o->h'.get? d=some o)->Q none { s with heap:=h' }):wpAny (model prog w) A (pyNext (.ref z)) Q E s:=by
 have hT:s.TypeIs (.ref z) "zip":=⟨_,hz,rfl⟩;unfold pyNext
 refine wpAny_bind (wpAny_attempt (wpAny_callSpecial?_slot (name:=Str.ofString "__next__") hT F.slot_zip_next
  (wpAny_call_entry F.slot_zip_next hT F.entry_zip_next (P4 hh D hz hTI h1 g1 e1 λh' e hk he=>?_) (F.args_zip_next_1 _))))
 obtain ⟨o,ho,hc⟩:=he;exact wpAny_bind (wpAny_isInstance (T:="StopIteration") (b:=true) ⟨o,ho,hc⟩ isSubtype_stop (wpAny_pure (hQ _ hk)))
abbrev PZ (h:Heap) (l1:Addr):Heap:=h.push { cls:=.type "list_iterator",data:=.fields #[.ref l1,.int 0 0] }
abbrev RY (h:Heap) (l1 l2:Addr):Heap:=PZ (PZ h l1) l2
abbrev TJ (h:Heap) (l1 l2 l3:Addr):Heap:=PZ (RY h l1 l2) l3
abbrev TH (h:Heap) (l1 l2 l3:Addr):Heap:=(TJ h l1 l2 l3).push { cls:=.type "tuple",data:=.seq #[.ref h.objs.size,.ref (PZ h l1).objs.size,.ref (RY h l1 l2).objs.size] }
abbrev TF (h:Heap) (l1 l2 l3:Addr):Heap:=(TH h l1 l2 l3).push { cls:=.type "tuple",data:=.seq #[.none,.none,.none] }
abbrev PY (h:Heap) (l1 l2 l3:Addr):Heap:=(TF h l1 l2 l3).push { cls:=.type "zip",data:=.fields #[.none,.bool false,.bool false,.ref (TJ h l1 l2 l3).objs.size,.ref (TH h l1 l2 l3).objs.size] }
set_option maxHeartbeats 0 in
theorem GX (l1 l2 l3:Addr) (xs ys zs:Array Value) :
  Meets (Builtin.«zip.__new__» ⟨[.type "zip",.ref l1,.ref l2,.ref l3],[]⟩) (λ_ R s=>s.heap.IsList l1 xs/\s.heap.IsList l2 ys/\s.heap.IsList l3 zs /\
   R (.ok (.ret (.ref (TF s.heap l1 l2 l3).objs.size))) { s with heap:=PY s.heap l1 l2 l3 }) :=
 .of_wp λprog w A R s h=>by
  obtain ⟨hp,g,d,tk,os⟩:=s;obtain ⟨k1,k2,k3,h⟩:=h;have hsub:=sub_zip;have hL1:Heap.IsList (Shared.heap ⟨hp,g,d,tk,os⟩) l1 xs:=k1;have hL2:Heap.IsList (Shared.heap ⟨PZ hp l1,g,d,tk,os⟩) l2 ys:=Heap.IsList.push k2 _;have hL3:Heap.IsList (Shared.heap ⟨RY hp l1 l2,g,d,tk,os⟩) l3 zs:=Heap.IsList.push (Heap.IsList.push k3 _) _
  wp_walk using wpAny_pyIter_list hL1,wpAny_pyIter_list hL2,wpAny_pyIter_list hL3
  exact ⟨_,rfl,h⟩
theorem Ab (a b c:Value):checkTypeCall "zip" ⟨[a,b,c],[]⟩=pure ():=by kernel_rfl
theorem C5 (a b c:Value):checkBuiltinCall "zip.__new__" ⟨[.type "zip",a,b,c],[]⟩=pure ():=by kernel_rfl
theorem HV (a b c d:Value):argsOk "object.__init__" ⟨[a,b,c,d],[]⟩:=by
 unfold argsOk;rw[signature?_of (id:="object.__init__") (n:=['_','_','t','i','n','i','_','_']) (o:=['t','c','e','j','b','o']) (by kernel_rfl) F.owner_object]
 kernel_rfl
theorem Kx (g1:s.heap.IsList l1 xs) (g2:s.heap.IsList l2 ys) (g3:s.heap.IsList l3 zs)
  (h:∀h',IsZip h' (s.heap.objs.size+5) (s.heap.objs.size+3) (s.heap.objs.size+4) .none->mK h' (s.heap.objs.size+3) (.ref s.heap.objs.size) (.ref (s.heap.objs.size+1)) (.ref (s.heap.objs.size+2)) →
   mK h' (s.heap.objs.size+4) .none .none .none->h'.IsListIter s.heap.objs.size l1 0->h'.IsListIter (s.heap.objs.size+1) l2 0->h'.IsListIter (s.heap.objs.size+2) l3 0 →
   (∀d o,s.heap.get? d=some o->h'.get? d=some o)->Q (.ref (s.heap.objs.size+5)) { s with heap:=h' }) :
  wpAny (model prog w) A (call (.type "zip") [.ref l1,.ref l2,.ref l3]) Q E s:=by
 refine callType_new F.called_zip (by decide) (Ab _ _ _) (C5 _ _ _) (λobj=>HV obj _ _ _) F.entry_zip_new (GX l1 l2 l3 xs ys zs) ⟨g1,g2,g3,?_⟩;have p:∀{h:Heap} {o:Obj} {d:Addr} {q:Obj},h.get? d=some q->(h.push o).get? d=some q:=λe=>Heap.get?_push_of_some _ e
 have z1:(PZ s.heap l1).objs.size=s.heap.objs.size+1:=Heap.size_push ..;have z2:(RY s.heap l1 l2).objs.size=s.heap.objs.size+2:=by rw[Heap.size_push,z1]
 have z3:(TJ s.heap l1 l2 l3).objs.size=s.heap.objs.size+3:=by rw[Heap.size_push,z2]
 have z4:(TH s.heap l1 l2 l3).objs.size=s.heap.objs.size+4:=by rw[Heap.size_push,z3]
 have z5:(TF s.heap l1 l2 l3).objs.size=s.heap.objs.size+5:=by rw[Heap.size_push,z4]
 have q6:(PY s.heap l1 l2 l3).get? (TF s.heap l1 l2 l3).objs.size=some _:=Heap.get?_push_size _ rfl;have q5:(PY s.heap l1 l2 l3).get? (TH s.heap l1 l2 l3).objs.size=some _:=p (Heap.get?_push_size _ rfl);have q4:(PY s.heap l1 l2 l3).get? (TJ s.heap l1 l2 l3).objs.size=some _:=p (p (Heap.get?_push_size _ rfl));have q3:(PY s.heap l1 l2 l3).get? (RY s.heap l1 l2).objs.size=some _:=p (p (p (Heap.get?_push_size _ rfl)));have q2:(PY s.heap l1 l2 l3).get? (PZ s.heap l1).objs.size=some _:=p (p (p (p (Heap.get?_push_size _ rfl))));have q1:(PY s.heap l1 l2 l3).get? s.heap.objs.size=some _:=p (p (p (p (p (Heap.get?_push_size _ rfl)))));show _/\_
 rw[z3,z4,z5] at q6;rw[z4] at q5;rw[z1,z2,z3] at q4;rw[z2] at q3;rw[z1] at q2;rw[z5];exact ⟨⟨_,q6,rfl⟩,h _ q6 q4 q5 ⟨_,q1,rfl,rfl⟩ ⟨_,q2,rfl,rfl⟩ ⟨_,q3,rfl,rfl⟩ λd o e=>p (p (p (p (p (p e)))))⟩
end
def RM (K : FG9) (l1 l2 l3 : Addr) : It :=
  ⟨λi H => ∃ xs ys zs x y t, bo K H l1 xs /\ bo K H l2 ys /\ bo K H l3 zs /\ xs[i]? = some x /\ ys[i]? = some y /\ zs[i]? = some t,
   λi H v H' => ∃ p x y t, v = .ref p /\ H p = none /\ H' = upd H p (.tup [x, y, t]) /\ (∀ xs, bo K H l1 xs → xs[i]? = some x) /\ (∀ ys, bo K H l2 ys → ys[i]? = some y) /\ ∀ zs, bo K H l3 zs → zs[i]? = some t,
   λi H => ∃ xs ys zs, bo K H l1 xs /\ bo K H l2 ys /\ bo K H l3 zs /\ xs.length ≤ i⟩
def TZ (z TI TO i1 i2 i3 l1 l2 l3:Addr) (i:Nat) (h:Heap):Prop:=IsZip h z TI TO .none/\mK h TI (.ref i1) (.ref i2) (.ref i3)/\(∃a b c,mK h TO a b c)/\h.IsListIter i1 l1 i/\h.IsListIter i2 l2 i/\h.IsListIter i3 l3 i
theorem Eb {z TI TO i1 i2 i3 l1 l2 l3:Addr} (hz:IsZip h z TI TO f0) (hTI:mK h TI (.ref i1) (.ref i2) (.ref i3)) (hTO:mK h TO a b c)
  (h1:h.IsListIter i1 l1 k1) (h2:h.IsListIter i2 l2 k2) (h3:h.IsListIter i3 l3 k3) (hl1:h.IsList l1 xs) (hl2:h.IsList l2 ys) (hl3:h.IsList l3 zs) (hT:TI≠TO) (h12:i1≠i2) (h13:i1≠i3) (h23:i2≠i3):Z3 z TI TO i1 i2 i3 l1 l2 l3:=by
 obtain ⟨o1,g1,c1,_⟩:=h1;obtain ⟨o2,g2,c2,_⟩:=h2;obtain ⟨o3,g3,c3,_⟩:=h3;have ne:∀{a b:Addr} {o u:Obj} {A B:String},h.get? a=some o->h.get? b=some u->o.cls=.type A->u.cls=.type B->A≠B->a≠b:=λha hb ca cb hn=>cY ha hb (by rw[ca,cb];exact md hn)
 have li:∀{l:Addr} {ws:Array Value},h.IsList l ws->l∉[z,TO,i1,i2,i3]:=λhl=>by
  obtain ⟨p,q,d,_⟩:=hl;simp only[aw,aE,or_false,not_or];exact ⟨ne q hz d rfl (by decide),ne q hTO d rfl (by decide),ne q g1 d c1 (by decide),ne q g2 d c2 (by decide),ne q g3 d c3 (by decide)⟩
 refine ⟨?_,?_,li hl1,li hl2,li hl3⟩
 ·simp only[cO,aw,aE,or_false,not_or,ki,and_true,not_false_eq_true];exact ⟨⟨ne hz hTO rfl rfl (by decide),ne hz g1 rfl c1 (by decide),ne hz g2 rfl c2 (by decide),ne hz g3 rfl c3 (by decide)⟩,⟨ne hTO g1 rfl c1 (by decide),ne hTO g2 rfl c2 (by decide),ne hTO g3 rfl c3 (by decide)⟩,⟨h12,h13⟩,h23⟩
 ·simp only[aw,aE,or_false,not_or];exact ⟨ne hTI hz rfl rfl (by decide),hT,ne hTI g1 rfl c1 (by decide),ne hTI g2 rfl c2 (by decide),ne hTI g3 rfl c3 (by decide)⟩
theorem JC {P:Program} {w:World} {K:FG9} {elts:List Expr} {kk:Nat} {tpos:Pos} (z TI TO i1 i2 i3 l1 l2 l3:Addr) (hT:TI≠TO) (h12:i1≠i2) (h13:i1≠i3) (h23:i2≠i3):Turn P w K (.Tuple elts kk tpos) (RM K l1 l2 l3) [z,TI,TO,i1,i2,i3] z (TZ z TI TO i1 i2 i3 l1 l2 l3) where
 mem:=by simp
 obj:=λi h st b hb=>by
  obtain ⟨hz,hTI,⟨a,c,e,hTO⟩,⟨o1,g1,c1,d1⟩,⟨o2,g2,c2,d2⟩,⟨o3,g3,c3,d3⟩⟩:=st;simp only[aw,aE,or_false] at hb;rcases hb with rfl | rfl | rfl | rfl | rfl | rfl
  ·exact ⟨_,hz,λv q=>nomatch q⟩
  ·exact ⟨_,hTI,λv q=>nomatch q⟩
  ·exact ⟨_,hTO,λv q=>nomatch q⟩
  ·exact ⟨o1,g1,λv q=>by rw[d1] at q;cases q⟩
  ·exact ⟨o2,g2,λv q=>by rw[d2] at q;cases q⟩
  ·exact ⟨o3,g3,λv q=>by rw[d3] at q;cases q⟩
 keep:=λi h h' st k=>by
  obtain ⟨hz,hTI,⟨a,c,e,hTO⟩,h1,h2,h3⟩:=st;exact ⟨k z (by simp) _ hz,k TI (by simp) _ hTI,⟨a,c,e,k TO (by simp) _ hTO⟩,h1.at λo e=>k i1 (by simp) o e,h2.at λo e=>k i2 (by simp) o e,h3.at λo e=>k i3 (by simp) o e⟩
 item:=by
  intro X hP hw hK hc i pins s σ H E I hf st hg;subst hP hw hK;obtain ⟨hz,hTI,⟨a,c,d,hTO⟩,h1,h2,h3⟩:=st;obtain ⟨xs,ys,zs,x,y,t,qx,qy,qz,ex,ey,ez⟩:=hg;obtain ⟨us,rx,px,_⟩:=I.list qx;obtain ⟨ws,ry,py,_⟩:=I.list qy;obtain ⟨ts,rz,pz,_⟩:=I.list qz;obtain ⟨u,eu,ru⟩:=rx.get ex;obtain ⟨v,ev,rv⟩:=ry.get ey;obtain ⟨t',et,rt⟩:=rz.get ez;have D:=Eb hz hTI hTO h1 h2 h3 px.isList py.isList pz.isList hT h12 h13 h23;refine Ot D hz hTI hTO h1 h2 h3 px.isList py.isList pz.isList (u:=u) (v:=v) (t:=t') (by simpa using eu) (by simpa using ev) (by simpa using et) λh' a1 a2 a3 a4 a5 a6 hk=>?_
  refine ⟨_,rfl,wpAny_letOwnedTupleGo_zip a1 λh'' hz'' hs=>?_⟩;have hT0:H s.heap.objs.size=none:=I.hok.fresh (ah _);have zne:s.heap.objs.size≠z:=ou (Heap.lt_size hz)
  have up:∀b o,b∉[z,TO,i1,i2,i3]->s.heap.get? b=some o->h''.get? b=some o:=λb o hb e=>by
   have:=hk b o hb e;exact (hs.2 b λq=>hb (by simp [q])).trans this
  have fx:∀b∈[z,TO,i1,i2,i3],jY X pins H b:=λb hb=>hf b (by
   simp only[aw,aE,or_false] at hb ⊢;rcases hb with rfl | rfl | rfl | rfl | rfl <;> simp)
  have nx:∀b o,H b=some o->b∉[z,TO,i1,i2,i3]:=λb o e hb=>by
   have:=(fx b hb).1;rw[this] at e;cases e
  have nT:∀{b:Addr} {o:HO},H b=some o->b≠s.heap.objs.size:=λe q=>by rw[q,hT0] at e;cases e
  have tup:h''.get? s.heap.objs.size=some { cls:=.type "tuple",data:=.seq #[u,v,t'] }:=(hs.2 _ zne).trans a6
  have I2:Inv X pins σ (upd H s.heap.objs.size (.tup [x,y,t])) { s with heap:=h'' }:=by
   refine I.step (g':=s.gens) (d':=s.drawn) (t':=s.toks) (ch:=[z,TO,i1,i2,i3]) (λb hb=>?_) (λb o _ _ hb e _=>up b o hb e) (λb o _ _ hb e _=>⟨o.slots,up b o hb e⟩) (λb o hb e n=>?_)
    (λb o hb e=>⟨o,up b o hb e⟩) (λb q e=>by rw[aJ (nT e)];exact e) (λb o q e=>by rw[aJ (nT e)];exact e) (λb q e=>⟨#[],by rw[aJ (nT e),e];simp⟩) (λm hm=>?_) (λb o e=>?_) I.bare
   ·obtain ⟨_,f1,_,f3,f4,f5⟩:=fx b hb;exact ⟨f3,f1,f4,f5⟩
   ·rw[aJ (bw (Heap.lt_size e))];exact n
   ·obtain ⟨o,es,ep,ho,r⟩:=hm;exact ⟨o,es,ep,up _ o (λz=>(fx _ z).2.1 rfl) ho,r⟩
   ·by_cases hb:b=s.heap.objs.size
    ·subst hb;rw[az] at e;cases e;exact ⟨i5 rfl,[u,v,t'],.cons ru (.cons rv (.cons rt .nil)),⟨_,tup,rfl,_,rfl⟩⟩
    ·rw[aJ hb] at e;refine (I.hok b o e).stay (λc v' hc q=>up c v' ?_ q) (λc q=>by rw[aJ (nT q)];exact q) λc xs q=>by rw[aJ (nT q)];exact q
     rcases hc with rfl | hc
     ·exact nx _ _ e
     ·exact nx _ _ hc
  refine ⟨.ref s.heap.objs.size,_,I2,rfl,⟨_,x,y,t,rfl,hT0,rfl,λxs' q=>by rw[I.list_inj q qx];exact ex,λys' q=>by rw[I.list_inj q qy];exact ey,λzs' q=>by rw[I.list_inj q qz];exact ez⟩,?_,λb hb=>?_⟩
  ·have nd:=D.nd;simp only[cO,aw,aE,or_false,not_or,ki,and_true,not_false_eq_true] at nd;obtain ⟨⟨zT,z1,z2,z3⟩,_⟩:=nd;exact ⟨hz'',up _ _ D.ti hTI,⟨_,_,_,(hs.2 _ (Ne.symm zT)).trans a2⟩,a3.at λo e=>(hs.2 _ (Ne.symm z1)).trans e,a4.at λo e=>(hs.2 _ (Ne.symm z2)).trans e,a5.at λo e=>(hs.2 _ (Ne.symm z3)).trans e⟩
  ·obtain ⟨o,e,_⟩:∃o,s.heap.get? b=some o/\True:=by
    obtain ⟨o1,g1,_⟩:=h1;obtain ⟨o2,g2,_⟩:=h2;obtain ⟨o3,g3,_⟩:=h3;simp only[aw,aE,or_false] at hb;rcases hb with rfl | rfl | rfl | rfl | rfl | rfl
    ·exact ⟨_,hz,trivial⟩
    ·exact ⟨_,hTI,trivial⟩
    ·exact ⟨_,hTO,trivial⟩
    ·exact ⟨_,g1,trivial⟩
    ·exact ⟨_,g2,trivial⟩
    ·exact ⟨_,g3,trivial⟩
   rw[aJ (bw (Heap.lt_size e))];exact (hf b hb).1
 done:=by
  intro X hP hw hK hc i pins s σ H E I hf st hg;subst hP hw hK;obtain ⟨hz,hTI,⟨a,c,d,hTO⟩,h1,h2,h3⟩:=st;obtain ⟨xs,ys,zs,qx,qy,qz,hend⟩:=hg;obtain ⟨us,rx,px,_⟩:=I.list qx;obtain ⟨ws,ry,py,_⟩:=I.list qy;obtain ⟨ts,rz,pz,_⟩:=I.list qz;have lx:=rx.length;have D:=Eb hz hTI hTO h1 h2 h3 px.isList py.isList pz.isList hT h12 h13 h23;refine EZ (I.ok.hd hc) D hz hTI h1 px.isList (by simp;lia) λh' hk=>⟨rfl,?_⟩
  have fx:∀b∈[z,TO,i1,i2,i3],jY X pins H b:=λb hb=>hf b (by
   simp only[aw,aE,or_false] at hb ⊢;rcases hb with rfl | rfl | rfl | rfl | rfl <;> simp)
  have nx:∀b o,H b=some o->b∉[z,TO,i1,i2,i3]:=λb o e hb=>by
   have:=(fx b hb).1;rw[this] at e;cases e
  refine I.step (g':=s.gens) (d':=s.drawn) (t':=s.toks) (ch:=[z,TO,i1,i2,i3]) (λb hb=>?_) (λb o _ _ hb e _=>hk b o hb e) (λb o _ _ hb e _=>⟨o.slots,hk b o hb e⟩) (λb o hb e n=>n)
   (λb o hb e=>⟨o,hk b o hb e⟩) (λb q e=>e) (λb o q e=>e) (λb q e=>⟨#[],by rw[e];simp⟩) (λm hm=>?_) (λb o e=>?_) I.bare
  ·obtain ⟨_,f1,_,f3,f4,f5⟩:=fx b hb;exact ⟨f3,f1,f4,f5⟩
  ·obtain ⟨o,es,ep,ho,r⟩:=hm;exact ⟨o,es,ep,hk _ o (λz=>(fx _ z).2.1 rfl) ho,r⟩
  ·refine (I.hok b o e).stay (λc v' hc q=>hk c v' ?_ q) (λc q=>q) λc xs q=>q
   rcases hc with rfl | hc
   ·exact nx _ _ e
   ·exact nx _ _ hc
 self:=λ_ _ _ _ _ st h=>wpAny_pyIter_zip st.1 h
def Pu (K:FG9) (ta:TA):TI:=λσ H R=>ta σ H λvs H1=>∃l1 l2 l3,vs=[.ref l1,.ref l2,.ref l3]/\(∃xs,bo K H1 l1 xs)/\(∃ys,bo K H1 l2 ys)/\(∃zs,bo K H1 l3 zs)/\R (RM K l1 l2 l3) H1
theorem N9 {X:Cx} {a b c:Expr} {ta:TA} {p pos tpos:Pos} {elts:List Expr} {kk:Nat} (hg:Gl X "zip") (hm:X.mg "zip"=none) (ha:PA X [a,b,c] ta) (hs:starEach [a,b,c] X.env=[(false,eval a X.env),(false,eval b X.env),(false,eval c X.env)]:=by rfl) (hs2:starEach [b,c] X.env=[(false,eval b X.env),(false,eval c X.env)]:=by rfl) :
  PI X (.Tuple elts kk tpos) (.Call (.Name "zip" p) [a,b,c] [] pos) (Pu X.K ta):=by
 intro pins s σ H R I h;refine Call_ (kE I hg hm boot_zip (PyProof.Rows.callWith_type1 (fP (ha pos pins s σ H _ I h) λus s1 ⟨vs,H1,I1,r1,q1⟩=>?_) (by rw[hs,hs2]) (by rw[hs2];rfl)));obtain ⟨l1,l2,l3,e,⟨xs,qx⟩,⟨ys,qy⟩,⟨zs,qz⟩,q⟩:=q1;subst e;obtain ⟨u,v,t,rfl,ru,rv,rt⟩:=vals3 r1;cases ru;cases rv;cases rt;obtain ⟨us,rx,px,_⟩:=I1.list qx;obtain ⟨ws,ry,py,_⟩:=I1.list qy;obtain ⟨ts,rz,pz,_⟩:=I1.list qz;refine Kx px.isList py.isList pz.isList λh' a1 a2 a3 a4 a5 a6 hk=>wpAny_pyIter_zip a1 ?_
 have I2:Inv X pins σ H1 { s1 with heap:=h' }:=I1.kept (t':=s1.toks) hk;have lt:∀{i j:Nat},i < j->s1.heap.objs.size+i≠s1.heap.objs.size+j:=λh e=>bw h (Nat.add_left_cancel e)
 refine ⟨_,[s1.heap.objs.size+5,s1.heap.objs.size+3,s1.heap.objs.size+4,s1.heap.objs.size,s1.heap.objs.size+1,s1.heap.objs.size+2],_,_,H1,rfl,I2,JC (s1.heap.objs.size+5) (s1.heap.objs.size+3) (s1.heap.objs.size+4) s1.heap.objs.size (s1.heap.objs.size+1) (s1.heap.objs.size+2) l1 l2 l3 (lt (by decide)) (lt (i:=0) (by decide)) (lt (i:=0) (by decide)) (lt (by decide)),⟨a1,a2,⟨_,_,_,a3⟩,a4,a5,a6⟩,λb hb=>?_,q⟩
 have hb':s1.heap.objs.size<=b:=by
  simp only[aw,aE,or_false] at hb;rcases hb with rfl | rfl | rfl | rfl | rfl | rfl <;> first | exact wW _ _ | exact ah _
 exact I1.fpOk hb' (I1.hok.fresh hb')
theorem Ku {K:FG9} {g:TG} (Pv:Nat->List V->Hp->Prop) (hz:xs.length<=sizeLine) (hw:ws.length=xs.length) (hv:zs.length=xs.length) (h0:Pv 0 [] H) (hl:∀i ys H,i<=xs.length->Pv i ys H->bo K H l1 xs/\bo K H l2 ws/\bo K H l3 zs)
  (hs:∀i x y t ys H p,xs[i]?=some x->ws[i]?=some y->zs[i]?=some t->ys.length<=i->Pv i ys H->H p=none->rj σ₀ g tf te (.ref p) (upd H p (.tup [x,y,t])) (λy H'=>Pv (i+1) (ys++[y]) H') (λH'=>Pv (i+1) ys H'))
  (hd:∀ys H,ys.length<=xs.length->Pv xs.length ys H->∀p,H p=none->Q (.ref p) (upd H p (.lst ys))):sT (RM K l1 l2 l3) σ₀ g tf te Q H:=by
 refine ⟨λi m ys H=>m=xs.length - i/\i<=xs.length/\ys.length<=i/\Pv i ys H,⟨xs.length,by simp,aS _,aS _,h0⟩,?_⟩;rintro i m ys H ⟨rfl,hi,hy,p⟩;obtain ⟨q1,q2,q3⟩:=hl i ys H hi p;by_cases hlt:i < xs.length
 ·refine .inr ⟨⟨xs,ws,zs,xs[i],ws[i]'(by lia),zs[i]'(by lia),q1,q2,q3,by simp [hlt],by simp,by simp⟩,by lia,λy H'=>Pv (i+1) (ys++[y]) H',λH'=>Pv (i+1) ys H',λy H' p'=>⟨xs.length - (i+1),by lia,rfl,hlt,by rw[ao,aO];lia,p'⟩,λH' p'=>⟨xs.length - (i+1),by lia,rfl,hlt,by lia,p'⟩,λx H' y=>?_⟩;obtain ⟨r,x',y',t',rfl,hr,rfl,e1,e2,e3⟩:=y;exact hs i x' y' t' ys _ r (e1 xs q1) (e2 ws q2) (e3 zs q3) hy p hr
 ·have e:i=xs.length:=by lia
  subst e;exact .inl ⟨⟨xs,ws,zs,q1,q2,q3,ah _⟩,by lia,hd ys H hy p⟩
def Ep (K:FG9) (C S:Addr) (f:Str):Sp:=λvs H Q _=>∃e y,vs=[.ref e,y]/\H e=some (HF e (.ref C) none)/\∀dx,H dx=none->dx≠e->Q .non (upd (upd H dx (.xd [(f,y)])) e (HF e (.ref C) (some dx)))
theorem uH (hn:H e=none) (s:aA H H1) (hd:H1 dx=none):aA H (xh (upd (upd (upd H1 e u) dx o) e u') e):=λb w q=>by
 have be:b≠e:=λz=>by rw[z,hn] at q;cases q
 have bd:b≠dx:=λz=>by have:=s _ _ q;rw[z,hd] at this;cases this
 rw[qH be,aJ be,aJ bd,aJ be];exact s _ _ q
inductive Lh (K:FG9) (C Cn:Addr) (vs:List V) (H:Hp) (Q:VK) (E:XK):Prop
 | mk (x:Addr) (a c:Nat) (H0:Hp) (mv pt lk:LR9):vs=[.ref x]->lI K H0 H C x mv pt lk->gV mv pt lk->lJ mv pt a c->(∀R ps,bF (fQ mv pt mv.length) mv.length R ps->(∃w,AZ R mv.length w)/\∀xs∈R,∀x∈xs,kd x)->(∀R ps H',aA H H'->bF (fQ mv pt mv.length) mv.length R ps->ps.length=mv.length->Q .non H')->(∀R ps r dx H',bF (fQ mv pt mv.length) mv.length R ps->ps.length < mv.length->aA H H'->H r=none->c7 K H' r ((cR R ps mv.length).getD 0 [])->H' dx=some (.xd [("price",.ref r)])->E (.ref Cn) (some dx) H')->Lh K C Cn vs H Q E
theorem Lv (RR:bF rows n R ps):ps.length<=n:=by
 have inc:∀j,j < ps.length->j<=ps.getD j 0:=by
  intro j
  induction j with
  | zero=>intro _;exact aS _
  | succ j ih =>
   intro hj;have:=ih (by lia);have:=RR.2.2.inc j (j+1) (by lia) hj
   lia
 rcases gC ps.length with z | z
 ·lia
 ·have h1:=inc (ps.length - 1) (by lia);have h2:=RR.2.2.low (ps.length - 1) (by lia)
  lia
theorem JX (h:ps.length < n):0 < (cR R ps n).length:=by
 unfold cR;rw[ag];refine Nat.pos_of_ne_zero λz=>?_
 have e:xj ps n=[]:=Tz.mp z
 have all:∀c,c < n->c∈ps:=λc hc=>Classical.byContradiction λq=>by
  have:=xQ.mpr ⟨hc,q⟩;rw[e] at this;cases this
 have:∀(k:Nat) (qs:List Nat),qs.length < k->∃c,c < k/\c∉qs:=by
  intro k
  induction k with
  | zero=>exact λqs h=>absurd h (cH _)
  | succ k ih =>
   intro qs h;by_cases hk:k∈qs
   ·obtain ⟨c,hc,hn⟩:=ih (qs.erase k) (by rw[List.length_erase_of_mem hk];have:=xW hk;lia);exact ⟨c,by lia,λz=>hn ((List.mem_erase_of_ne (by lia)).mpr z)⟩
   ·exact ⟨k,eU _,hk⟩
 obtain ⟨c,hc,hn⟩:=this n ps h;exact hn (all c hc)
def M7 (xs:List Rat):Prop:=∃M,FW M (xs.map nm)
theorem Lq (h0:0 < M) (h1:M<=2^4300) (h2:W<=2^4300) (h:∀x∈xs,Tp M W x):M7 xs:=by
 refine ⟨M,by lia,?_,λy hy=>?_⟩
 ·show ((M:Nat):Int).natAbs < 2^4400
  rw[bX];exact aK h1 (de (by decide) (by decide))
 ·obtain ⟨x,hx',rfl⟩:=av.mp hy;have t:=h x hx';refine ⟨gJ x,pJ t,?_⟩;obtain ⟨s,e,b⟩:=tJ t h0 (gJ x) (xZ _) (pJ t);have e2:(((nm x).1:Int):Rat)=(s:Rat):=by rw[<- e];exact kK x
  rw[dj.mp e2];exact aK (af b h2) (de (by decide) (by decide))
inductive ID (K:FG9) (vs:List V) (H:Hp) (Q:VK) (E9:XK):Prop
 | mk (p q:Addr) (xs ys:List Rat):vs=[.ref p,.ref q]->c7 K H p xs->c7 K H q ys->ys.length=xs.length->xs.length<=1000->M7 xs/\M7 ys->(∀r H',aA H H'->cf K H' (eI xs ys) (.ref r)->Q (.ref r) H')->ID K vs H Q E9
inductive IC (K:FG9) (vs:List V) (H:Hp) (Q:VK) (E9:XK):Prop
 | mk (p q:Addr) (H0:Hp) (rows:LR9) (ys:List Rat):vs=[.ref p,.ref q]->bx K H0 H p rows->c7 K H q ys->rows.length<=1000->ys.length<=1000->((∀xs∈rows,xs.length=ys.length/\(M7 xs/\M7 ys)))->(∀r H',H r=none->aA H H'->c7 K H' r (rows.map λxs=>eI xs ys)->Q (.ref r) H')->IC K vs H Q E9
inductive yx (K:FG9) (vs:List V) (H:Hp) (Q:VK) (E9:XK):Prop
 | mk (p q:Addr) (w:Nat) (H0 H1:Hp) (one other:LR9):vs=[.ref p,.ref q,.int w]->bx K H0 H p one->bx K H1 H q other->one.length<=1000->other.length<=1000->w<=1000->((∀xs∈one,xs.length=other.length/\∀ys∈bu other w,M7 ys/\M7 xs))->(∀xs∈other,xs.length=w)->(∀r H',H r=none->aA H H'->bx K H H' r (iD one other w)->Q (.ref r) H')->yx K vs H Q E9
inductive Be (K:FG9) (C:Addr) (vs:List V) (H:Hp) (Q:VK) (E9:XK):Prop
 | mk (x p:Addr) (H0 H1:Hp) (mv pt lk N:LR9):vs=[.ref x,.ref p]->lI K H0 H C x mv pt lk->gV mv pt lk->bx K H1 H p N->N.length<=100->((∀xs∈N,xs.length=mv.length/\∀ys∈bu mv mv.length,M7 ys/\M7 xs))->(∀r H',H r=none->aA H H'->bx K H H' r (iD N mv mv.length)->Q (.ref r) H')->Be K C vs H Q E9
def Tv (K:FG9) (a:Addr) (n:Nat):It :=
 ⟨λi H=>i < n/\∃xs x,bo K H a xs/\xs[n - 1 - i]?=some x,λi H x H'=>H'=H/\∀xs,bo K H a xs->xs[n - 1 - i]?=some x,λi _=>n<=i⟩
theorem K5 {P:Program} {w:World} {K:FG9} {tg:Expr} (a it:Addr) (n:Nat):Turn P w K tg (Tv K a n) [it] it (λi h=>i<=n/\h.IsRevIter it a ((n:Int) - 1 - (i:Nat))) where
 mem:=by simp
 obj:=λi h st b hb=>by
  have e:b=it:=by simpa using hb
  subst e;obtain ⟨_,o,e,c,d⟩:=st;exact ⟨o,e,λv z=>by rw[d] at z;cases z⟩
 keep:=λi h h' st k=>⟨st.1,st.2.at λo e=>k it (by simp) o e⟩
 item:=by
  intro X hP hw hK hc i pins s σ H E I hf st hg;subst hP hw hK;obtain ⟨hi,xs,x,hq,hx⟩:=hg;obtain ⟨its,rv,p,hz⟩:=I.list hq;obtain ⟨u,hu,ru⟩:=rv.get hx;obtain ⟨f0,f1,f2,f3,f4,f5⟩:=hf it (by simp);have st2:=st.2;rw[show (n:Int) - 1 - (i:Nat)=((n - 1 - i:Nat):Int) by lia] at st2;refine wpAny_pyNext_rev_item st2 p.isList (x:=u) (by simpa using hu) λh' st' sb=>?_
  have I1:Inv X pins σ H { s with heap:=h' }:=I.turned (t':=s.toks) (λb o hb e=>(sb.2 b hb).trans e) f0 f1 f3 f4 f5;rw[show ((n - 1 - i:Nat):Int) - 1=(n:Int) - 1 - ((i+1:Nat):Int) by lia] at st';obtain ⟨o,e,c,d⟩:=id st';exact ⟨u,rfl,Jb (s:={ s with heap:=h' }) e c d (by decide) ⟨x,H,I1,ru,⟨rfl,λys hy=>by rw[I.list_inj hy hq];exact hx⟩,⟨hi,st'⟩,λb hb=>(hf b hb).1⟩⟩
 done:=by
  intro X hP hw hK hc i pins s σ H E I hf st hg;subst hP hw hK;obtain ⟨f0,f1,f2,f3,f4,f5⟩:=hf it (by simp);have st2:=st.2;have:n<=i:=hg;have:=st.1;rw[show (n:Int) - 1 - (i:Nat)=-1 by lia] at st2;exact wpAny_pyNext_rev_end (I.ok.hd hc) st2 λh' eb=>⟨rfl,I.turned (t':=s.toks) (λb o hb e=>eb b o hb e) f0 f1 f3 f4 f5⟩
 self:=λ_ _ _ _ _ st h=>wpAny_pyIter_revIter st.2 h
def S7 (K:FG9) (ta:TA):TI:=λσ H R=>ta σ H λvs H1=>∃l xs,vs=[.ref l]/\bo K H1 l xs/\R (Tv K l xs.length) H1
theorem QT {X:Cx} {e1:Expr} {ta:TA} {p pos:Pos} {tg:Expr} (hg:Gl X "reversed") (hm:X.mg "reversed"=none) (ha:PA X [e1] ta) (hs:starEach [e1] X.env=[(false,eval e1 X.env)]:=by rfl) :
  PI X tg (.Call (.Name "reversed" p) [e1] [] pos) (S7 X.K ta):=by
 intro pins s σ H R I h;refine Call_ (kE I hg hm boot_reversed (PyProof.Rows.callWith_type1 (fP (ha pos pins s σ H _ I h) λus s1 ⟨vs,H1,I1,r1,q1⟩=>?_) hs rfl));obtain ⟨l,xs,e,qx,q⟩:=q1;subst e;obtain ⟨u,rfl,ru⟩:=vals1 r1;cases ru;obtain ⟨us,rx,px,_⟩:=I1.list qx;have lx:=rx.length;have kp:∀b o,s1.heap.get? b=some o->(s1.heap.push (revObj l ((us.toArray.size:Int) - 1))).get? b=some o:=λb o e=>Heap.get?_push_of_some _ e
 have st:(s1.heap.push (revObj l ((us.toArray.size:Int) - 1))).IsRevIter s1.heap.objs.size l ((us.toArray.size:Int) - 1):=⟨_,Heap.get?_push_size _ rfl,rfl,rfl⟩;refine call_reversed_list px.isList (wpAny_pyIter_revIter st ?_);have I2:Inv X pins σ H1 { s1 with heap:=s1.heap.push (revObj l ((us.toArray.size:Int) - 1)) }:=I1.kept (t':=s1.toks) kp;refine ⟨_,[s1.heap.objs.size],_,_,H1,rfl,I2,K5 l s1.heap.objs.size xs.length,⟨aS _,?_⟩,λb hb=>?_,q⟩
 ·have e:((us.toArray.size:Int) - 1)=(xs.length:Int) - 1 - ((0:Nat):Int):=by rw[aT];lia
  rw[<- e];exact st
 ·have hb':b=s1.heap.objs.size:=by simpa using hb
  subst hb';exact I1.fpOk (ah _) (I1.hok.fresh (ah _))
theorem OB {K:FG9} {g:TG} {tb:TS} {D:Ends} (Pv:Nat->St->Hp->Prop) (h0:Pv 0 σ H) (hl:∀i σ H,i<=xs.length->Pv i σ H->bo K H a xs)
  (hs:∀i x σ H,i < xs.length->xs[xs.length - 1 - i]?=some x->Pv i σ H->g x σ H λσ2 H2=>tb { D with nx:=Pv (i+1),ct:=Pv (i+1),bk:=D.nx } σ2 H2) (hd:∀σ H,Pv xs.length σ H->D.nx σ H) :
  ∃W:Nat->Nat->St->Hp->Prop,(∃m,W 0 m σ H)/\∀i m σ H,W i m σ H →
   ((Tv K a xs.length).stop i H/\D.nx σ H)\/((Tv K a xs.length).go i H/\∃N:St->Hp->Prop,(∀σ' H',N σ' H'->∃m',m' < m/\W (i+1) m' σ' H')/\∀x H',(Tv K a xs.length).yld i H x H'->g x σ H' λσ2 H2=>tb { D with nx:=N,ct:=N,bk:=D.nx } σ2 H2):=by
 refine ⟨λi m σ H=>m=xs.length - i/\i<=xs.length/\Pv i σ H,⟨xs.length,by simp,aS _,h0⟩,?_⟩;rintro i m σ H ⟨rfl,hi,p⟩;have q:=hl i σ H hi p;by_cases hlt:i < xs.length
 ·refine .inr ⟨⟨hlt,xs,xs[xs.length - 1 - i]'(by lia),q,ae _⟩,Pv (i+1),λσ' H' p'=>⟨xs.length - (i+1),by lia,rfl,hlt,p'⟩,λx H' y=>?_⟩;obtain ⟨rfl,e⟩:=y;exact hs i x σ _ hlt (e xs q) p
 ·have e:i=xs.length:=by lia
  subst e;exact .inl ⟨ah _,hd σ H p⟩
def K7 (mv:LR9) (x:List Rat):List Rat:=(bu mv mv.length).map λys=>eI ys x
def DM (mv:LR9) (row wish:List Rat):Nat->List Rat
 | 0=>row
 | k+1=>List.zipWith (λx y=>x - y) (K7 mv (DM mv row wish k)) (row.map λy=>wish.getD (wish.length - 1 - k) 0*y)
theorem Gx:(K7 mv x).length=mv.length:=by unfold K7;rw[ag,jw]
theorem DL {mv:LR9} {row wish:List Rat} (h:row.length=mv.length):∀k,(DM mv row wish k).length=mv.length
 | 0=>h
 | k+1=>by
  show (List.zipWith _ _ _).length=_
  rw[aV,Gx,ag,h,xV]
structure Um (mv:LR9) (row wish:List Rat):Prop where
 col:∀ys∈bu mv mv.length,M7 ys
 rw:∀k,k < wish.length->M7 (DM mv row wish k)
 tk:∀k,k < wish.length->∀z∈K7 mv (DM mv row wish k),kd z
 rz:∀z∈row,kd z
 ws:∀z∈wish,kd z
 mul:∀a∈wish,∀z∈row,kd (a*z)
inductive Ew (K:FG9) (C:Addr) (vs:List V) (H:Hp) (Q:VK) (E9:XK):Prop
 | mk (x p q:Addr) (H0:Hp) (mv pt lk:LR9) (row wish:List Rat):vs=[.ref x,.ref p,.ref q]->lI K H0 H C x mv pt lk->gV mv pt lk->c7 K H p row->row.length=mv.length->c7 K H q wish->wish.length<=100->Um mv row wish->(∀r H',aA H H'->c7 K H' r (DM mv row wish wish.length)->Q (.ref r) H')->Ew K C vs H Q E9
structure Ul (mv pt lk F:LR9):Prop where
 f2:∀xs∈bu pt mv.length,∀ys∈bu F mv.length,wd ys xs
 sm:∀line∈mv,∀x∈line,kd x
 st:∀more∈iD (bu pt mv.length) F mv.length,∀x∈more,kd x
 ok:KU (DH mv pt F)/\KU pt/\KU lk
inductive yz (K:FG9) (C:Addr) (vs:List V) (H:Hp) (Q:VK) (E9:XK):Prop
 | mk (x p:Addr) (H0 H1:Hp) (mv pt lk F:LR9):vs=[.ref x,.ref p]->lI K H0 H C x mv pt lk->gV mv pt lk->bx K H1 H p F->F.length=pt.length->(∀xs∈F,xs.length=mv.length)->Ul mv pt lk F->(∀r H',H r=none->aA H H'->lI K H H' C r (DH mv pt F) pt lk->Q (.ref r) H')->yz K C vs H Q E9
def oU (sts gv:LR9) (n:Nat):LR9:=(List.range (n+1)).map λj=>sts.getD j []++gv.getD j []++[if j=n then 1 else 0]
def j6 (R:LR9) (n i:Nat):LR9:=bu (R.map (·.drop n)) (i+1)
structure Ui (mv pt lk:LR9) (wish:List Rat) (pu:List Rat) (R:LR9):Prop where
 cl:Ul mv pt lk ((j6 R mv.length pt.length).take pt.length)
 am:Um (DH mv pt ((j6 R mv.length pt.length).take pt.length)) ((j6 R mv.length pt.length).getD pt.length []) wish
 rz:∀xs∈(j6 R mv.length pt.length).take pt.length,∀z∈xs,kd z
 mz:∀z∈DM (DH mv pt ((j6 R mv.length pt.length).take pt.length)) ((j6 R mv.length pt.length).getD pt.length []) wish wish.length,kd z/\∀b∈pu,kd (b*z)
def RJ (mv pt lk:LR9) (wish:List Rat):Prop:=∀sts pus,Jw mv pt sts pus->pus.length=mv.length->(∀pu∈pus,∀z∈pu,z=(0:Rat)\/z=1)->∃w,AZ ((oU sts (pus++[List.replicate pt.length 0]) mv.length).drop 1) (mv.length+pt.length+1) w/\∀R ps,bF ((oU sts (pus++[List.replicate pt.length 0]) mv.length).drop 1) (mv.length+pt.length+1) R ps->ps.length=mv.length->Ui mv pt lk wish ((pus++[List.replicate pt.length 0]).getD 0 []) R
inductive Ej (K:FG9) (C Cn:Addr) (vs:List V) (H:Hp) (Q:VK) (E:XK):Prop
 | mk (x q:Addr) (a c:Nat) (H0:Hp) (mv pt lk:LR9) (wish:List Rat):vs=[.ref x,.ref q]->lI K H0 H C x mv pt lk->gV mv pt lk->F7 mv pt lk->lJ mv pt a c->(∀R ps,bF (fQ mv pt mv.length) mv.length R ps->(∃w,AZ R mv.length w)/\∀xs∈R,∀x∈xs,kd x)->O6 mv pt->RJ mv pt lk wish->c7 K H q wish->wish.length=mv.length->(∀R ps r G H',aA H H'->bF (fQ mv pt mv.length) mv.length R ps->ps.length=mv.length->H r=none->bx K H H' r G->G.length=pt.length->(∀xs∈G,xs.length=mv.length)->Q (.ref r) H')->(∀R ps r dx H',bF (fQ mv pt mv.length) mv.length R ps->ps.length < mv.length->aA H H'->H r=none->c7 K H' r ((cR R ps mv.length).getD 0 [])->H' dx=some (.xd [("price",.ref r)])->E (.ref Cn) (some dx) H')->Ej K C Cn vs H Q E
theorem MR (h:xs.length=k+1):o7 xs none (some (-1))=xs.take k:=by
 unfold o7
 have e:HT.CI xs.length xs.length (some (-1))=k:=by
  show (if (-1:Int) < 0 then ((-1:Int)+(xs.length:Int)).toNat else min (-1:Int).toNat xs.length)=k
  rw[if_pos (by decide),h]
  lia
 rw[e,HT.rX,List.drop_zero,Nat.sub_zero]
theorem Qh (h:z=0\/z=1):kd z:=by
 rcases h with rfl | rfl
 ·exact ye
 ·exact oA (M:=1) (W:=1) ⟨1,by rw[show ((1:Nat):Rat)=1 from rfl,show ((1:Int):Rat)=1 from rfl];grind,by decide⟩ (by decide) bK bK
theorem HU {mv pt sts pus:LR9} {M1 M2 V1 B:Nat} (gm:GF M1 V1 mv) (gp:GF M2 V1 pt) (hB:(mv.length+pt.length)*V1<=B) (B1:1<=B) (C:Jw mv pt sts pus) (z01:∀pu∈pus,∀z∈pu,z=(0:Rat)\/z=1):∀j,j < sts.length->∀c,Fr (M1^j*M2) (B^j) (bI sts j c)
 | 0,_,c=>by rw[C.zero c];exact Fr.zero
 | j+1,hj,c=>by
  have hj':j < pus.length:=by have:=C.len;lia
  rw[C.step j hj' c];have ih:=HU gm gp hB B1 C z01 j (by lia)
  have f1:Fr (M1^(j+1)*M2) (mv.length*(V1*B^j)) (bc mv.length λi=>bI mv c i*bI sts j i):=xF _ λi _=>by
   have:=(zF (i:=c) (j:=i) gm).mul (ih i);rw[show M1*(M1^j*M2)=M1^(j+1)*M2 by rw[cZ,<- bY,aX M1 (M1^j)]] at this;exact this
  have f2:Fr (M1^(j+1)*M2) (pt.length*V1) (bc pt.length λl=>bI pus j l*bI pt l c):=xF _ λl _=>by
   have hz:bI pus j l=0\/bI pus j l=1:=by
    unfold bI;rw[aa (l:=pus),ae hj'];show (pus[j]).getD l 0=0\/(pus[j]).getD l 0=1
    rw[aa];cases e:(pus[j])[l]? with
    | none=>exact .inl rfl
    | some z=>exact z01 _ (aF hj') z (ai e)
   rcases hz with z | z
   ·rw[z,show (0:Rat)*bI pt l c=0 by grind];exact Fr.zero
   ·rw[z,show (1:Rat)*bI pt l c=bI pt l c by grind];exact (zF gp).scaleL (M1^(j+1))
  refine (f1.add f2).mono ?_;have b1:1<=B^j:=Nat.one_le_pow _ _ B1
  have e1:mv.length*(V1*B^j)+pt.length*V1<=(mv.length+pt.length)*V1*B^j:=by
   rw[B6,B6,bY mv.length];exact Nat.add_le_add_left (dP _ b1) _
  rw[cZ,aX (B^j) B];exact af e1 (ax _ hB)
section
variable {mv pt lk sts pus:LR9} {M1 M2 V1 B a b:Nat}
theorem Jm (D:gV mv pt lk) (m1:0 < M1) (m2:0 < M2) (gm:GF M1 V1 mv) (gp:GF M2 V1 pt) (v1:1<=V1) (hB:(mv.length+pt.length)*V1<=B) (ha:M1^mv.length*M2<=2^a) (hb:B^mv.length<=2^b) (f1:(a+a)+(b+b)<=3930) (a15:a<=1500) (b18:b<=1800) (f2:8*(a+b+4)<=8900):O6 mv pt:=by
 intro sts pus C z01 hk;have d8:=D.n8;have n1:1<=mv.length:=by lia
 have B1:V1<=B:=af (bZ _ (by lia)) hB;have B0:1<=B:=af v1 B1;have lC:=C.len;have fr:=HU gm gp hB B0 C z01;have pM:∀j,j<=mv.length->∃q,0 < q/\M1^mv.length*M2=q*(M1^j*M2):=λj hj=>⟨M1^(mv.length - j),ir m1,by rw[<- bY,<- bT,Ge hj]⟩
 have pB:∀j,j<=mv.length->B^j<=B^mv.length:=λj hj=>ar B0 hj
 have up:∀{j:Nat} {V':Nat} {x:Rat},j<=mv.length->Fr (M1^j*M2) V' x->V'<=B^mv.length->Fr (M1^mv.length*M2) (B^mv.length) x:=λ{j V' x} hj h hv=>by
  obtain ⟨q,_,e⟩:=pM j hj;rw[e];exact (h.scaleL q).mono hv
 have M0:0 < M1^mv.length*M2:=cx (ir m1) m2;have st:∀j,j < sts.length->∀c,Fr (M1^mv.length*M2) (B^mv.length) (bI sts j c):=λj hj c=>up (by lia) (fr j hj c) (pB j (by lia))
 have lst:∀x∈sts.getD pus.length [],Fr (M1^mv.length*M2) (B^mv.length) x:=λx hx=>by
  obtain ⟨c,hc,rfl⟩:=bB hx;have:=st pus.length (by lia) c;unfold bI at this;rw[aa (l:=sts.getD pus.length []),ae hc] at this;exact this
 have gmv:∀xs∈mv,∀x∈xs,Fr (M1^mv.length*M2) (B^mv.length) x:=λxs hx x hx'=>by
  have h:=(gm xs hx x hx').scaleL (M1^(mv.length - 1)*M2)
  rw[show M1^(mv.length - 1)*M2*M1=M1^mv.length*M2 by
   have:M1^mv.length=M1^(mv.length - 1)*M1:=by rw[<- cZ,Nat.succ_eq_add_one,Ge n1]
   rw[this,bY,bY,aX M2 M1]] at h
  exact h.mono (af B1 (by have:=pB 1 n1;rwa [Nat.pow_one] at this))
 have gpt:∀xs∈pt,∀x∈xs,Fr (M1^mv.length*M2) (B^mv.length) x:=λxs hx x hx'=>by
  refine up (j:=0) (aS _) (V':=V1) ?_ (af B1 (by have:=pB 1 n1;rwa [Nat.pow_one] at this));rw[Nat.pow_zero,vf];exact gp xs hx x hx'
 refine ⟨λxs hx=>⟨a,b,a,b,⟨_,_,M0,ha,hb,gmv xs hx⟩,⟨_,_,M0,ha,hb,lst⟩,by lia⟩,⟨a+b,_,B^mv.length*(M1^mv.length*M2),M0,af ha (ar (by decide) (by lia)),cx (ir B0) M0,?_,λys hy x hx=>?_,by lia,?_,?_⟩,λpu hpu=>⟨_,_,M0,af ha (ar (by decide) a15),af hb (ar (by decide) b18),λx hx=>?_⟩⟩
 ·rw[bT,aX];exact aZ ha hb
 ·unfold bu at hy;obtain ⟨c,hc,rfl⟩:=av.mp hy;obtain ⟨xs,hxs,rfl⟩:=av.mp hx
  have key:∀y∈xs,Fr (M1^mv.length*M2) (B^mv.length) y:=by
   rcases ay.mp hxs with z | z
   ·intro y hy;obtain ⟨j,hj,rfl⟩:=bB z;obtain ⟨d,hd,rfl⟩:=bB hy;have:=st j hj d;unfold bI at this;rw[aa (l:=sts),ae hj] at this;show Fr _ _ _
    rw[show ((some sts[j]).getD [])=sts[j] from rfl,aa,ae hd] at this;exact this
   ·rcases aw.mp z with rfl | z
    ·intro y hy;obtain ⟨d,hd,rfl⟩:=bB hy
     have lw:(sts.getD pus.length []).length=mv.length:=by
      rw[aa,ae (by lia)];exact C.wide _ (aF _)
     have e:=BA (R:=[sts.getD pus.length []]) (i:=0) rfl D.mw (λxs hx=>by rw[bD.mp hx];exact lw) Nat.one_pos d
     have e':(lY mv (sts.getD pus.length []))[d]=bc mv.length λi=>bI mv d i*bI sts pus.length i:=by
      rw[<- show (lY mv (sts.getD pus.length [])).getD d 0=(lY mv (sts.getD pus.length []))[d] by rw[aa,ae hd];rfl];exact e
     rw[e'];refine up (j:=pus.length+1) (by lia) (V':=mv.length*(V1*B^pus.length)) (xF _ λi _=>?_) ?_
     ·have:=(zF (i:=d) (j:=i) gm).mul (fr pus.length (by lia) i);rw[show M1*(M1^pus.length*M2)=M1^(pus.length+1)*M2 by rw[cZ,<- bY,aX M1 (M1^pus.length)]] at this;exact this
     ·refine af ?_ (pB (pus.length+1) (by lia));rw[cZ,aX (B^_) B,<- bY];exact ax _ (af (ax _ (wW _ _)) hB)
    ·exact gpt xs z
  have:Fr (M1^mv.length*M2) (B^mv.length) (xs.getD c 0):=by
   rw[aa];cases e:xs[c]? with
   | none=>exact Fr.zero
   | some y=>exact key y (ai e)
  exact this
 ·rw[jw];lia
 ·refine af (ax _ (Nat.min_le_left ..)) ?_;rw[jw];exact af (ax _ d8) f2
 ·rcases ay.mp hx with z | z
  ·exact lst x z
  ·rcases hpu x z with rfl | rfl
   ·exact Fr.zero
   ·exact ⟨((M1^mv.length*M2:Nat):Int),by rw[aP];grind,by rw[bX];exact bZ _ (ir B0)⟩
end
section
variable {mv pt lk sts pus R:LR9} {M1 M2 V1 a1 a2 c:Nat} {wish:List Rat}
theorem Qa (h:M<=W):Tp M W 1:=⟨((M:Nat):Int),by rw[aP];grind,by rw[bX];exact h⟩
theorem O8 (h:M<=W) (hz:z=0\/z=1):Tp M W z:=by
 rcases hz with rfl | rfl
 ·exact Tp.zero
 ·exact Qa h
theorem Q0 (h:x∈rows.getD j []):∃d,x=bI rows j d:=by
 obtain ⟨d,hd,rfl⟩:=bB h;refine ⟨d,?_⟩;unfold bI;rw[aa (l:=rows.getD j []),ae hd];rfl
theorem kv (h:a<=b):2^a<=2^b:=ar (by decide) h
theorem iX (h1:x<=2^a) (h2:y<=2^b):x*y<=2^(a+b):=by rw[bT];exact aZ h1 h2
theorem rZ (h:x<=2^a) (n:Nat):x^n<=2^(a*n):=by rw[ve];exact lO h n
theorem SU (B:Bd mv pt M1 M2 V1 a1 a2 c) (D:gV mv pt lk) (C:Jw mv pt sts pus) (lp:pus.length=mv.length) (z01:∀pu∈pus,∀z∈pu,z=(0:Rat)\/z=1):∀xs∈(oU sts (pus++[List.replicate pt.length 0]) mv.length).drop 1,∀x∈xs,Tp (M1^mv.length*M2) (2^(a1*mv.length+a2+c*mv.length)) x:=by
 intro xs hx x hx';have i4:=D.i4;have B0:1<=2^c:=bK;have hM:M1^mv.length*M2<=2^(a1*mv.length+a2):=iX (rZ B.b1 _) B.b2;have hM':M1^mv.length*M2<=2^(a1*mv.length+a2+c*mv.length):=af hM (kv (by lia));have fr:=HU B.gm B.gp (B:=2^c) (af (ax _ (by lia)) B.vc) B0 C z01;unfold oU at hx;obtain ⟨j,hj,rfl⟩:=av.mp (kj hx);have hj':=iU.mp hj;have lC:=C.len;rcases ay.mp hx' with hx' | hx'
 ·rcases ay.mp hx' with hx' | hx'
  ·obtain ⟨d,rfl⟩:=Q0 hx';have e:M1^mv.length*M2=M1^(mv.length - j)*(M1^j*M2):=by rw[<- bY,<- bT,Ge (by lia)]
   have f:=(fr j (by lia) d).scaleL (M1^(mv.length - j));rw[<- e] at f;refine Tp.of (f.mono (ar B0 (show j<=mv.length by lia))) ?_;rw[iu (a1*mv.length+a2)];exact iX (rZ (ah _) _) hM
  ·refine O8 hM' ?_;rw[aa] at hx';cases e:(pus++[List.replicate pt.length (0:Rat)])[j]? with
   | none=>rw[e] at hx';cases hx'
   | some pu =>
    rw[e] at hx';rcases ay.mp (ai e) with z | z
    ·exact z01 pu z x hx'
    ·rw[bD.mp z] at hx';exact .inl (iC hx')
 ·refine O8 hM' ?_;rw[bD.mp hx']
  split
  ·exact .inr rfl
  ·exact .inl rfl
theorem Ti (B:Bd mv pt M1 M2 V1 a1 a2 c) (i4:pt.length<=4) (M0:0 < M) (hM:M<=2^e) (hF:∀xs∈F,∀x∈xs,Tp M (2^e) x):∀xs∈DH mv pt F,∀x∈xs,Tp (M1*(M2*M)) (2^(c+a1+a2+e+1)) x:=by
 intro xs hx x hx';have vc:=B.vc;have v4:4*V1<=2^c:=af (ax _ (by lia)) vc;unfold DH uV at hx;obtain ⟨a,_,rfl⟩:=av.mp hx;obtain ⟨b,_,rfl⟩:=av.mp hx'
 have t1:Tp (M1*(M2*M)) (2^(c+a1+a2+e)) (bI mv a b):=by
  refine Tp.up (Tp.of (zF B.gm) (ah _)) _ ?_;rw[show c+a1+a2+e=(c+a1)+(a2+e) by lia];exact iX (iX (by lia) B.b1) (iX B.b2 hM)
 have t2:Tp (M1*(M2*M)) (2^(c+a1+a2+e)) (bc pt.length λk=>bI pt k a*bI F k b):=by
  have h:Tp (M2*M) (pt.length*(V1*M2*2^e)) (bc pt.length λk=>bI pt k a*bI F k b):=Tp.sum λk _=>Tp.mul (Tp.of (zF B.gp) (ah _)) (O7 hF k b)
  have h2:=h.up M1 (ah _);rw[aX (M2*M)] at h2;refine h2.mono ?_;rw[show c+a1+a2+e=(c+(a2+e))+a1 by lia,show pt.length*(V1*M2*2^e)=(pt.length*V1)*(M2*2^e) by simp only[bY]];exact iX (iX (af (ax _ i4) v4) (iX B.b2 (ah _))) B.b1
 refine (t1.add t2).mono ?_;rw[cZ]
 lia
theorem Tj {M Mc e g:Nat} (n4:A.length<=4) (lr:row.length=A.length) (hA:∀xs∈A,∀x∈xs,Tp Mc (2^g) x) (hg:Mc<=2^g) (hr:∀x∈row,Tp M (2^e) x) (hw:∀z∈wish,Tp 2520 (2^16) z):∀k,(∀x∈DM A row wish k,Tp (Mc^k*(M*2520)) (2^(e+16+k*(g+3))) x)/\∀x∈K7 A (DM A row wish k),Tp (Mc^(k+1)*(M*2520)) (2^(e+16+k*(g+3)+(g+2))) x:=by
 have tk:∀(k:Nat) (l:List Rat),l.length=A.length->(∀x∈l,Tp (Mc^k*(M*2520)) (2^(e+16+k*(g+3))) x)->∀x∈K7 A l,Tp (Mc^(k+1)*(M*2520)) (2^(e+16+k*(g+3)+(g+2))) x:=by
  intro k l ll h x hx;unfold K7 at hx;obtain ⟨ys,hy,rfl⟩:=av.mp hx;have ly:ys.length=A.length:=mP ys hy;rw[eH (by rw[ly,ll])];have t:=uy (n:=A.length) hA ys hy;have s:Tp (Mc*(Mc^k*(M*2520))) (ys.length*(2^g*2^(e+16+k*(g+3)))) (bc ys.length λj=>ys.getD j 0*l.getD j 0):=Tp.sum λj _=>Tp.mul (pI t j) (pI h j)
  rw[<- bY,aX Mc (Mc^k),<- cZ] at s;refine s.mono ?_;rw[show e+16+k*(g+3)+(g+2)=2+(g+(e+16+k*(g+3))) by lia];exact iX (by lia) (iX (ah _) (ah _))
 intro k
 have main:∀x∈DM A row wish k,Tp (Mc^k*(M*2520)) (2^(e+16+k*(g+3))) x:=by
  induction k with
  | zero =>
   intro x hx;rw[Nat.pow_zero,vf,Nat.zero_mul,Nat.add_zero];refine (hr x hx).up 2520 ?_;exact iX (ah _) (by decide)
  | succ k ih =>
   intro x hx;have hx:x∈List.zipWith (λx y=>x - y) (K7 A (DM A row wish k)) (row.map λy=>wish.getD (wish.length - 1 - k) 0*y):=hx;obtain ⟨i,hi,rfl⟩:=bB hx;have hi1:i < (K7 A (DM A row wish k)).length:=by rw[aV] at hi;lia
   have hi2:i < row.length:=by rw[aV,ag] at hi;lia
   rw[fv,iV,Rat.sub_eq_add_neg];have h1:=tk k _ (DL lr k) ih _ (aF hi1)
   have h2:Tp (M*2520) (2^(16+e)) (wish.getD (wish.length - 1 - k) 0*row[i]):=by
    have:=Tp.mul (pI hw (wish.length - 1 - k)) (hr _ (aF hi2));rw[aX 2520 M,<- bT] at this;exact this
   have h3:=(h2.up (Mc^(k+1)) (ah _)).neg;rw[aX (M*2520)] at h3;refine (h1.add h3).mono ?_;have b1:2^(16+e)*Mc^(k+1)<=2^(16+e+g*(k+1)):=iX (ah _) (rZ hg _)
   have b2:16+e+g*(k+1)<=e+16+k*(g+3)+(g+2):=by
    rw[kh,aX g k,kh]
    lia
   have b3:=kv b2;rw[show e+16+(k+1)*(g+3)=e+16+k*(g+3)+(g+2)+1 by rw[iq];lia,cZ 2]
   lia
 exact ⟨main,tk k _ (DL lr k) main⟩
theorem Iy (B:Bd mv pt M1 M2 V1 a1 a2 c) (D:gV mv pt lk) (n4:mv.length<=4) (hl:KU lk) (lw:wish.length=mv.length) (hw:∀z∈wish,Tp 2520 (2^16) z) {e g:Nat} (he:mv.length*(a1*mv.length+a2+c*mv.length+4)=e) (hg:c+a1+a2+e+1=g) (hz:e+16+mv.length*(g+3)<=3970) (hz2:2*e+a2+c<=3930) (hz3:e+g+20<=3970) (hz4:c+a1<=3000):RJ mv pt lk wish:=by
 intro sts pus C lp z01;have i4:=D.i4;have m1:=B.m1;have m2:=B.m2;have v0:V1<=2^c:=af (bZ _ (by lia)) B.vc;have t0:=SU B D C lp z01;have lC:=C.len;have lL:((oU sts (pus++[List.replicate pt.length 0]) mv.length).drop 1).length=mv.length:=by unfold oU;rw[eV,ag,cm];lia
 have wL:∀xs∈(oU sts (pus++[List.replicate pt.length 0]) mv.length).drop 1,xs.length=mv.length+pt.length+1:=λxs hx=>by
  unfold oU at hx;obtain ⟨j,hj,rfl⟩:=av.mp (kj hx);have hj':=iU.mp hj;rw[ao,ao,aO]
  have e1:(sts.getD j []).length=mv.length:=by
   rw[aa,ae (by lia)];exact C.wide _ (aF _)
  have e2:((pus++[List.replicate pt.length 0]).getD j []).length=pt.length:=by
   have hl:j < (pus++[List.replicate pt.length (0:Rat)]).length:=by rw[ao,aO];lia
   rw[aa,ae hl];rcases ay.mp (aF hl) with z | z
   ·exact C.wpu _ z
   ·show ((pus++[List.replicate pt.length (0:Rat)])[j]).length=_
    rw[bD.mp z];exact bV
  lia
 generalize (oU sts (pus++[List.replicate pt.length 0]) mv.length).drop 1=L at t0 lL wL ⊢
 have zp:∀b∈(pus++[List.replicate pt.length (0:Rat)]).getD 0 [],b=0\/b=1:=λb hb=>by
  rw[aa] at hb;cases e:(pus++[List.replicate pt.length (0:Rat)])[0]? with
  | none=>rw[e] at hb;cases hb
  | some pu =>
   rw[e] at hb;rcases ay.mp (ai e) with z | z
   ·exact z01 pu z b hb
   ·rw[bD.mp z] at hb;exact .inl (iC hb)
 generalize (pus++[List.replicate pt.length (0:Rat)]).getD 0 []=p0 at zp ⊢;have hM:M1^mv.length*M2<=2^(a1*mv.length+a2):=iX (rZ B.b1 _) B.b2;have M0:0 < M1^mv.length*M2:=cx (ir m1) m2;have mn:min L.length (mv.length+pt.length+1)=mv.length:=by rw[lL];lia
 have sw:mv.length=0\/a1*mv.length+a2+c*mv.length+4<=e:=by
  rcases gC mv.length with z | z
  ·exact .inl z
  ·exact .inr (by rw[<- he];exact bZ _ z)
 have sw':a1*mv.length+a2+c*mv.length<=4000:=by
  rcases sw with z | z
  ·rw[z];lia
  ·lia
 have SL:AZ L (mv.length+pt.length+1) (a1*mv.length+a2+c*mv.length):=⟨_,_,M0,af hM (kv (by lia)),bK,ah _,t0,by lia,by lia,by rw[mn,he];lia⟩;refine ⟨_,SL,λR ps RR rk=>?_⟩;obtain ⟨_,M,Mp,Me,tR⟩:=Ph wL SL RR;rw[mn,he] at Me tR
 have tS:∀xs∈j6 R mv.length pt.length,∀x∈xs,Tp M (2^e) x:=by
  unfold j6;refine uy λxs hx x hx'=>?_
  obtain ⟨ys,hy,rfl⟩:=av.mp hx;exact tR ys hy x (kj hx')
 have lR:R.length=mv.length:=RR.1.trans rk;have lS:(j6 R mv.length pt.length).length=pt.length+1:=jw
 have wS:∀xs∈j6 R mv.length pt.length,xs.length=mv.length:=λxs hx=>by
  unfold j6 at hx;rw[mP xs hx,ag,lR]
 have mr:(j6 R mv.length pt.length).getD pt.length []∈j6 R mv.length pt.length:=by
  rw[aa,ae (by lia)];exact aF _
 have lr:=wS _ mr;have tr:=tS _ mr;have tF:∀xs∈(j6 R mv.length pt.length).take pt.length,∀x∈xs,Tp M (2^e) x:=λxs hx=>tS xs (bU hx)
 have lF:((j6 R mv.length pt.length).take pt.length).length<=4:=by rw[bh];lia
 suffices h:Ul mv pt lk ((j6 R mv.length pt.length).take pt.length)/\Um (DH mv pt ((j6 R mv.length pt.length).take pt.length)) ((j6 R mv.length pt.length).getD pt.length []) wish/\(∀xs∈((j6 R mv.length pt.length).take pt.length),∀z∈xs,kd z)/\∀z∈DM (DH mv pt ((j6 R mv.length pt.length).take pt.length)) ((j6 R mv.length pt.length).getD pt.length []) wish wish.length,kd z/\∀b∈p0,kd (b*z) from ⟨h.1,h.2.1,h.2.2.1,h.2.2.2⟩
 generalize (j6 R mv.length pt.length).getD pt.length []=row at lr tr ⊢;have tC:=Ti B i4 Mp Me tF;rw[hg] at tC;have hMc:M1*(M2*M)<=2^g:=af (iX B.b1 (iX B.b2 Me)) (kv (by lia));have Mc0:0 < M1*(M2*M):=cx m1 (cx m2 Mp);have lc:(DH mv pt ((j6 R mv.length pt.length).take pt.length)).length=mv.length:=oi;generalize (j6 R mv.length pt.length).take pt.length=F at tF lF tC lc ⊢;have g39:g<=3970:=by lia
 have e39:e<=3970:=by lia
 have AM:=Tj (wish:=wish) (by rw[lc];exact n4) (by rw[lc,lr]) tC hMc tr hw;have kk:∀k,k<=mv.length->e+16+k*(g+3)<=3970:=λk hk=>af (Nat.add_le_add_left (ax _ hk) _) hz
 have mk:∀k,k<=mv.length->(M1*(M2*M))^k*(M*2520)<=2^3990:=λk hk=>by
  refine af (iX (rZ hMc k) (iX Me (show 2520<=2^16 by decide))) (kv ?_);have:=kk k hk;rw[kh] at this;rw[aX g k]
  lia
 have mp:∀k,0 < (M1*(M2*M))^k*(M*2520):=λk=>cx (ir Mc0) (cx Mp (by decide))
 have amz:∀k,k<=mv.length->∀x∈DM (DH mv pt F) row wish k,kd x:=λk hk x hx=>oA ((AM k).1 x hx) (mp k) (af (mk k hk) (kv (by decide))) (kv (af (kk k hk) (by decide)))
 have zr:∀x∈row,kd x:=λx hx=>wo (tr x hx) Mp Me (ah _) (by lia)
 refine ⟨⟨λxs hx ys hy=>⟨e,e,a2,c,⟨M,_,Mp,Me,ah _,λx h=>(uy tF ys hy x h).fr Mp⟩,⟨M2,V1,m2,B.b2,v0,xD B.gp xs hx⟩,by lia⟩,λxs hx x h=>?_,λxs hx x h=>?_,λxs hx x h=>?_,λxs hx x h=>?_,hl⟩,⟨λys hy=>?_,λk hk=>?_,λk hk x hx=>?_,zr,λz hz'=>wo (hw z hz') (by decide) (show 2520<=2^16 by decide) (ah _) (by decide),λa ha z hz'=>?_⟩,λxs hx x h=>wo (tF xs hx x h) Mp Me (ah _) (by lia),λz hz'=>?_⟩
 ·exact wo (Tp.of (B.gm xs hx x h) (iX v0 B.b1)) m1 (af B.b1 (kv (by lia))) (ah _) (by lia)
 ·unfold iD at hx;obtain ⟨us,hu,rfl⟩:=av.mp hx;obtain ⟨ys,hy,rfl⟩:=av.mp h;have ly:ys.length=F.length:=mP ys hy;have f:=Fr.dot (λx h=>(uy tF ys hy x h).fr Mp) (xD B.gp us hu);refine wo (Tp.of f (ah _)) (cx Mp m2) (a:=2+(e+c)+(e+a2)) (af (iX Me B.b2) (kv (by lia))) (iX (iX (by lia) (iX (ah _) v0)) (iX Me B.b2)) (by lia)
 ·exact Cd (wo (tC xs hx x h) Mc0 hMc (ah _) (by lia))
 ·exact Cd (wo (Tp.of (B.gp xs hx x h) (iX v0 B.b2)) m2 (af B.b2 (kv (by lia))) (ah _) (by lia))
 ·exact Lq Mc0 (af hMc (kv (by lia))) (kv (by lia)) (uy tC ys hy)
 ·exact Lq (mp k) (af (mk k (by lia)) (kv (by decide))) (kv (af (kk k (by lia)) (by decide))) (AM k).1
 ·refine oA ((AM k).2 x hx) (mp (k+1)) (af (mk (k+1) (by lia)) (kv (by decide))) (kv ?_);have:=kk (k+1) (by lia);rw[iq] at this
  lia
 ·have:=Tp.mul (hw a ha) (tr z hz');exact wo this (cx (by decide) Mp) (a:=16+e) (iX (by decide) Me) (iX (ah _) (ah _)) (by lia)
 ·rw[lw] at hz';have h0:=amz _ (ah _) z hz';refine ⟨h0,λb hb=>?_⟩;rcases zp b hb with rfl | rfl
  ·rw[show (0:Rat)*z=0 by grind];exact ye
  ·rw[show (1:Rat)*z=z by grind];exact h0
end
def Gy (C:Addr) (sp:Sp) (dvs:List V) (E:St->XK) (t:TA):TE:=λσ H Q=>t σ H λvs H1=>∀x dx,H1 x=none->H1 dx=none->dx≠x →
 sp (.ref x :: (vs++dvs)) (upd (upd H1 dx (.own x)) x (.ins C dx [])) (λv H2=>v=.non/\Q (.ref x) H2) (E σ)
theorem EH (h:t σ H λvs H1=>∀x dx,H1 x=none->H1 dx=none->dx≠x->sp (.ref x :: vs) (upd (upd H1 dx (.own x)) x (.ins C dx [])) (λv H2=>v=.non/\Q (.ref x) H2) (E σ)):Gy C sp [] E t σ H Q:=by
 unfold Gy;simp only[eL];exact h
section
variable {X:Cx} {CX:Jx} {k:Nat} {f C:Addr} {fd:FuncData} {ps:List Str} {sp:Sp} {dvs:List V} {ds:List Value} {E:St->XK} {x:Str} {p pos:Pos} {e:Expr} {es:List Expr} {t:TA}
theorem EN (M:Mk X.K C f) (F:j9 X.prog X.w X.K X.mg X.base CX k f fd ps sp) (hr:jv (k+1) X.A) (hg:Gl X x) (hm:X.mg x=some (.ref C)) (hb:Binds X.K fd ps ds) (hd:cJ dvs ds) (hx:Ju CX X E)
  (ha:PA X (e :: es) t) (hdb:(x == ("__debug__":Str))=false:=by decide) (he:starEach (e :: es) X.env=(false,eval e X.env) :: starEach es X.env:=by rfl) (hpl:(backTo pos (starEach es X.env)).any (·.1)=false:=by rfl) :
  PE X (.Call (.Name x p) (e :: es) [] pos) (Gy C sp dvs E t):=by
 intro pins s0 σ H0 Q I0 h0;refine wpAny_Call_Name_kw (qG I0 hg hm ?_ hdb);refine mT (h₀:=X.base) I0.ok.mod.kin M.kp (fP (ha pos pins s0 σ H0 _ I0 h0) λus s ⟨vs,H,I,r,h⟩=>⟨I.kIn,?_⟩) he hpl;have hq:=h (s.heap.objs.size+1) s.heap.objs.size (I.hok.fresh (vg _)) (I.hok.fresh (ah _)) (bw (eU _));have I2:=Inv.made (C:=C) I;have r2:cJ (V.ref (s.heap.objs.size+1) :: (vs++dvs)) (Value.ref (s.heap.objs.size+1) :: (us++ds)):=.cons rfl (r.append hd)
 have hl:(Value.ref (s.heap.objs.size+1) :: us++ds).length=ps.length:=by
  have e:=r2.length;rw[F.len _ _ _ _ hq] at e;exact e.symm
 refine wpAny_call (E3 (f:=f) I.kIn M.makes M.init (beq_iff_eq.mp M.fn) (codeAny_mono (F.run _ X.stack _ _ ⟨Value.ref (s.heap.objs.size+1) :: us,[]⟩ (Value.ref (s.heap.objs.size+1) :: (us++ds)) _ _ (E σ) (hr.make C us [])
  (I2.env0.make C us []) (hb _ (Value.ref (s.heap.objs.size+1) :: us) I2.kIn hl) r2 hq) λr s' hq'=>?_))
 cases r with
 | error e=>exact hx pins σ _ _ e s' I2 hq'
 | ok fl =>
  cases fl with
  | ret u =>
   obtain ⟨v,H',I3,rv,ev,q3⟩:=I2.after hq';subst ev;exact ⟨rv,⟨V.ref (s.heap.objs.size+1),H',I3,rfl,q3⟩⟩
  | next=>exact False.elim hq'
  | brk=>exact False.elim hq'
  | cont=>exact False.elim hq'
end
section
variable {X:Cx} {pins:List (Addr×Obj)} {σ:St} {H H':Hp} {s:Shared} {C:Addr} {x:Str} {hpos np:Pos}
theorem Inv.unsm (ok:X.Ok) (I:Inv (X.sm ea) pins σ H s):Inv X pins σ H s:=⟨ok,I.os,I.bare,I.base,I.loc,I.cell,I.free,I.freeC,I.pin,I.hok,I.len⟩
def hNo (K:FG9) (C:Addr) (ts:Addr->TS) (hr:Ends->St->Value->Option Addr->Hp->Prop):Ends->St->Value->Option Addr->Hp->Prop:=λD σ cls dx H =>
 (PySem.W.exmOne K cls (.ref C)=some true/\∀ea,ts ea (Ls D) σ H)\/(PySem.W.exmOne K cls (.ref C)=some false/\hr D σ cls dx H)
theorem S8 {b₀:Stmt} {suite:List Stmt} {rest:List ExceptHandler} {ts:Addr->TS} {hr:Ends->St->Value->Option Addr->Hp->Prop} (hex:X.ex=[]) (hg:Gl X x) (hm:X.mg x=some (.ref C))
  (hs:∀ea,A0 (X.sm ea) (b₀ :: suite) (ts ea)) (hrest:HB X rest hr) (hdb:(x == ("__debug__":Str))=false:=by decide) :
  HB X (.ExceptHandler (some (.Name x np)) none (b₀ :: suite) hpos :: rest) (hNo X.K C ts hr):=by
 intro pins σ H0 s0 H' ea tt cls dx B s1 h D L fl up dc hq;have J:=L.inv fl up;refine wpAny_handleBy_cons (codeAny_handlers_test (qG (X:=X.sm ea) (J.sm ea) hg hm ?_ hdb)) (by intro q;cases q)
 have LT:PySem.W.Looks (model X.prog X.w) h (typeOf (.ref ea)) cls:=by
  obtain ⟨o,e,c⟩:=fl.there;exact c ▸ (PySem.W.Looks.ld e).andThen .now
 rcases hq with ⟨hb,hts⟩ | ⟨hb,hq⟩
 ·refine (z7 (show X.K.In h from J.kIn) LT hb) _ _ _ _ (λ_ _ q=>q) ?_;refine codeAny_handlers_suite ?_;refine wpAny_mono (lands_againW (E:=λ_ _=>False) (Q:=λ_ s2=>∃h6,s2={ s1 with heap:=h6 }/\Heap.FlyingW B X.stack ea cls (.ref tt) h6/\h.UpToSlots h6) fl λh6 fl6 up6=>⟨h6,rfl,fl6,up6⟩) ?_ (λ_ _ z=>z.elim);rintro _ _ ⟨h6,rfl,fl6,up6⟩;have J6:=(L.inv fl6 (up.trans up6)).sm ea;refine wpAny_mono (hs ea pins _ _ _ _ J6 (hts ea)) (λf s2 hsp=>?_) λ_ _ z=>False.elim z
  cases f with
  | next=>obtain ⟨_,_,_,z⟩:=hsp;exact False.elim z
  | brk=>obtain ⟨_,_,_,z⟩:=hsp;exact False.elim z
  | cont=>obtain ⟨_,_,_,z⟩:=hsp;exact False.elim z
  | ret u =>
   obtain ⟨v,σ',H2,J2,rv,q⟩:=hsp;exact ⟨v,_,H2,J2.unsm L.I.ok,rv,q⟩
 ·refine (z7 (show X.K.In h from J.kIn) LT hb) _ _ _ _ (λ_ _ q=>q) ?_;exact hrest pins σ H0 s0 H' ea tt cls dx B s1 h D L fl up dc hq
end
structure zV (mv pt lk:LR9):Prop where
 un:TR mv pt 500
 lw:∃w a,PR (fQ mv pt mv.length) mv.length w a
 pr:∃a c,lJ mv pt a c/\mv.length*(a+c)<=300
 cs:O6 mv pt
 st:∀wish:List Rat,wish.length=mv.length->(∀z∈wish,Tp 2520 (2^16) z)->RJ mv pt lk wish
section
variable {mv pt lk:LR9} {M1 M2 M3 V1 n i o w c:Nat}
theorem SS (K:lJ mv pt a c) (D:gV mv pt lk) (h:2*(mv.length*(mv.length*(a+c)+4)+mv.length*a)<=3990):PR (fQ mv pt mv.length) mv.length (mv.length*(a+c)) (mv.length*a):=by
 obtain ⟨M,V,M0,Ma,hV,fm,fp,_⟩:=K;have d8:=D.n8;have f:=C8 rfl D.mw D.pw hV fm fp mv.length;have hM:M^mv.length<=2^(mv.length*a):=by rw[aX];exact rZ Ma _
 refine ⟨M^mv.length,2^(mv.length*(a+c)),ir M0,hM,bK,ah _,λxs hx x hx'=>Tp.of (f xs hx x hx') ?_,af (pG ..) (by lia),?_⟩
 ·rw[show mv.length*(a+c)=c*mv.length+mv.length*a by rw[kh,aX c];lia];exact iX (ah _) hM
 ·refine af (cN _ (B9 (ax _ (pG ..)) _)) h
theorem xE (B:Bd mv pt M1 M2 V1 a1 a2 c) (D:gV mv pt lk) (v1:1<=V1) (hl:KU lk) (h:(mv.length<=4/\M2=M1/\a1=12/\a2=12/\c=16)\/(mv.length<=2/\a1=40/\a2=80/\c=23)):zV mv pt lk:=by
 have vc:=B.vc;have i4:=D.i4;have d8:=D.n8;have n04:mv.length<=4:=by lia
 rcases h with ⟨n4,rfl,rfl,rfl,rfl⟩ | ⟨n2,rfl,rfl,rfl⟩
 ·have hn:mv.length=0\/mv.length=1\/mv.length=2\/mv.length=3\/mv.length=4:=by lia
  have KF:lJ mv pt 12 16:=⟨M2,V1,B.m1,B.b1,af (ax _ (by lia)) vc,B.gm,B.gp,by decide,by decide,by rcases hn with h | h | h | h | h <;> rw[h] <;> decide,by rcases hn with h | h | h | h | h <;> rw[h] <;> decide⟩;refine ⟨⟨d8,D.mw,D.pw,⟨12,16,KF,?_,?_⟩,by decide⟩,⟨_,_,SS KF D (by rcases hn with h | h | h | h | h <;> rw[h] <;> decide)⟩,⟨12,16,KF,by lia⟩,?_,λwish lw hw=>?_⟩
  ·rcases hn with h | h | h | h | h <;> rw[h] <;> decide
  ·rcases hn with h | h | h | h | h <;> rw[h] <;> decide
  ·refine Jm D B.m1 B.m1 B.gm B.gp v1 (B:=2^16) (af (ax _ (by lia)) vc) (a:=12*mv.length+12) (b:=16*mv.length) (iX (rZ B.b1 _) B.b1) (rZ (ah _) _) (by lia) (by lia) (by lia) (by lia)
  ·refine Iy B D n4 hl lw hw rfl rfl ?_ ?_ ?_ (by decide)
   ·rcases hn with h | h | h | h | h <;> rw[h] <;> decide
   ·rcases hn with h | h | h | h | h <;> rw[h] <;> decide
   ·rcases hn with h | h | h | h | h <;> rw[h] <;> decide
 ·have hn:mv.length=0\/mv.length=1\/mv.length=2:=by lia
  have dv1:M1∣M1*M2:=vh ..;have dv2:M2∣M1*M2:=kY ..;have KF:lJ mv pt 120 23:=⟨M1*M2,V1,cx B.m1 B.m2,iX B.b1 B.b2,af (ax _ (by lia)) vc,λxs hx x hx'=>(B.gm xs hx x hx').dvd dv1,λxs hx x hx'=>(B.gp xs hx x hx').dvd dv2,by decide,by decide,by rcases hn with h | h | h <;> rw[h] <;> decide,by rcases hn with h | h | h <;> rw[h] <;> decide⟩;refine ⟨⟨d8,D.mw,D.pw,⟨120,23,KF,?_,?_⟩,by decide⟩,⟨_,_,SS KF D (by rcases hn with h | h | h <;> rw[h] <;> decide)⟩,⟨120,23,KF,by lia⟩,?_,λwish lw hw=>?_⟩
  ·rcases hn with h | h | h <;> rw[h] <;> decide
  ·rcases hn with h | h | h <;> rw[h] <;> decide
  ·refine Jm D B.m1 B.m2 B.gm B.gp v1 (B:=2^23) (af (ax _ (by lia)) vc) (a:=40*mv.length+80) (b:=23*mv.length) (iX (rZ B.b1 _) B.b2) (rZ (ah _) _) (by lia) (by lia) (by lia) (by lia)
  ·refine Iy B D n04 hl lw hw rfl rfl ?_ ?_ ?_ (by decide)
   ·rcases hn with h | h | h <;> rw[h] <;> decide
   ·rcases hn with h | h | h <;> rw[h] <;> decide
   ·rcases hn with h | h | h <;> rw[h] <;> decide
theorem Jc {M V:Nat} (h:GF M V rows) (m0:0 < M) (hM:M<=2^100) (hV:V<=2^30):KU rows:=λxs hx x hx'=>Cd (Qg (h xs hx x hx') m0 (af hM (kv (by decide))) (af hV (kv (by decide))))
theorem N5 (P:PtG n i o w c mv pt lk) (D:gV mv pt lk) (lm:mv.length=n) (i4:i<=4) (o4:o<=4) (hw:(n<=4/\w<=9)\/(n<=2/\c=10)):zV mv pt lk/\zV (bu mv mv.length) lk pt/\F7 mv pt lk:=by
 obtain ⟨M1,M2,M3,V1,p1,p2,p3,g1,g2,g3,hc⟩:=P;have et:(bu mv mv.length).length=mv.length:=cT;have D':gV (bu mv mv.length) lk pt:=D.turn;have g1':GF M1 V1 (bu mv mv.length):=xD g1;have fin:∀{a1 a2 a3 c:Nat},M1<=2^a1->M2<=2^a2->M3<=2^a3->V1<=2^30->a1+(a2+a3)<=400->F7 mv pt lk:=λ{a1 a2 a3 c} h1 h2 h3 h4 h5=>⟨M1*(M2*M3),V1,cx p1 (cx p2 p3),af (iX h1 (iX h2 h3)) (kv h5),af h4 (kv (by decide)),λxs hx x hx'=>(g1 xs hx x hx').dvd (vh ..),λxs hx x hx'=>(g2 xs hx x hx').dvd (F3 (vh ..) (kY ..)),λxs hx x hx'=>(g3 xs hx x hx').dvd (F3 (kY ..) (kY ..))⟩
 rcases hc with ⟨w9,rfl,rfl,rfl,rfl⟩ | ⟨w9,b1,b2,b3,rfl⟩
 ·have n4:mv.length<=4:=by lia
  have vc:(mv.length+4)*(9^3*9)<=2^16:=af (ax _ (show mv.length+4<=8 by lia)) (by decide);exact ⟨xE ⟨p1,p2,by decide,by decide,g1,g2,vc⟩ D (by decide) (Jc g3 p3 (by decide) (by decide)) (.inl ⟨n4,rfl,rfl,rfl,rfl⟩),xE ⟨p1,p3,by decide,by decide,g1',g3,by rw[et];exact vc⟩ D' (by decide) (Jc g2 p2 (by decide) (by decide)) (.inl ⟨by rw[et];exact n4,rfl,rfl,rfl,rfl⟩),fin (a1:=12) (a2:=12) (a3:=12) (c:=0) (by decide) (by decide) (by decide) (by decide) (by decide)⟩
 ·obtain ⟨n2,rfl⟩:n<=2/\c=10:=by lia
  have e1:10*(n*n)<=40:=by have:n*n<=2*2:=aZ n2 n2;lia
  have e2:10*(i*n)<=80:=by have:i*n<=4*2:=aZ i4 n2;lia
  have e3:10*(o*n)<=80:=by have:o*n<=4*2:=aZ o4 n2;lia
  have b1:=af b1 (kv e1);have b2:=af b2 (kv e2);have b3:=af b3 (kv e3);have vc:(mv.length+4)*(9^3*2^10)<=2^23:=af (ax _ (show mv.length+4<=6 by lia)) (by decide);exact ⟨xE ⟨p1,p2,b1,b2,g1,g2,vc⟩ D (by decide) (Jc g3 p3 (af b3 (kv (by decide))) (by decide)) (.inr ⟨by lia,rfl,rfl,rfl⟩),xE ⟨p1,p3,b1,b3,g1',g3,by rw[et];exact vc⟩ D' (by decide) (Jc g2 p2 (af b2 (kv (by decide))) (by decide)) (.inr ⟨by rw[et];lia,rfl,rfl,rfl⟩),fin (c:=0) b1 b2 b3 (by decide) (by decide)⟩
end
inductive Er (K:FG9) (C Cg Cn:Addr) (vs:List V) (H:Hp) (Q:VK) (E:XK):Prop
 | mk (x dx sy:Addr) (Hb H0:Hp) (mv pt lk:LR9):vs=[.ref x,.ref sy]->Hb x=none->Hb dx=none->dx≠x->H=upd (upd Hb dx (.own x)) x (.ins Cg dx [])->lI K H0 Hb C sy mv pt lk->gV mv pt lk->F7 mv pt lk->zV (bu mv mv.length) lk pt->(∀H',aA Hb H'->sP (bu mv mv.length) lk mv.length mv.length 500 []->Q .non H')->(∀Hd r dq H',aA Hb H'->sP (bu mv mv.length) lk mv.length mv.length 500 Hd->0 < Hd.length->Hb r=none->c7 K H' r (Hd.getD 0 [])->H' dq=some (.xd [("state",.ref r)])->E (.ref Cn) (some dq) H')->Er K C Cg Cn vs H Q E
def Rfd (K:FG9) (H:Hp) (E:XK) (C:Addr) (f:Str) (row:List Rat):Prop:=∀r dq H',aA H H'->H r=none->c7 K H' r row->H' dq=some (.xd [(f,.ref r)])->E (.ref C) (some dq) H'
inductive Ek (K:FG9) (C Cp Cn Cs:Addr) (vs:List V) (H:Hp) (Q:VK) (E:XK):Prop
 | mk (x dx sy:Addr) (Hb H0:Hp) (mv pt lk:LR9):vs=[.ref x,.ref sy]->Hb x=none->Hb dx=none->dx≠x->H=upd (upd Hb dx (.own x)) x (.ins Cp dx [])->lI K H0 Hb C sy mv pt lk->gV mv pt lk->F7 mv pt lk->zV mv pt lk->zV (bu mv mv.length) lk pt →
   (∀R ps,bF (fQ mv pt mv.length) mv.length R ps->ps.length < mv.length->Rfd K Hb E Cn "price" ((cR R ps mv.length).getD 0 [])) →
   (∀R ps,bF (fQ mv pt mv.length) mv.length R ps->ps.length=mv.length->(∀H',aA Hb H'->sP (bu mv mv.length) lk mv.length mv.length 500 []->Q .non H')/\∀Hd,sP (bu mv mv.length) lk mv.length mv.length 500 Hd->0 < Hd.length->Rfd K Hb E Cs "state" (Hd.getD 0 []))->Ek K C Cp Cn Cs vs H Q E
theorem K3 (h:sP A lk n t e []) (RR:bF (fQ A lk t) n R ps):ps.length=n:=by
 have:=h.cnt RR;rw[RR.1] at this;exact (Nat.zero_add _).symm.trans this
theorem Po:∀z∈List.replicate n (0:Rat),Tp 2520 (2^16) z:=λz hz=>by rw[iC hz];exact Tp.zero
section
variable {mv pt lk R:LR9} {ps:List Nat} {wish:List Rat}
theorem E6:∀t,fQ mv pt (t+1)=fQ mv pt t++pt.map (jH mv t)
 | 0=>by
  show pt++[]=[]++pt.map λx=>x
  rw[eL,cP,List.map_id']
 | t+1=>by
  show pt++(fQ mv pt (t+1)).map (lY mv)=(pt++(fQ mv pt t).map (lY mv))++pt.map λx=>lY mv (jH mv t x)
  rw[E6 t,dm,b9,ow];rfl
theorem LL:(pt.map (jH mv t)).map (lY mv)=pt.map (jH mv (t+1)):=by rw[ow];rfl
end
inductive yp (K:FG9) (vs:List V) (H:Hp) (Q:VK) (E9:XK):Prop
 | mk (r:Addr) (a c:Nat) (H0 Hz:Hp) (mv pt lk:LR9):vs=[.ref r]->qP K H0 H r mv pt lk->gV mv pt lk->lJ mv pt a c->(∀q,H0 q=none->Hz q=none)->(∀q,H q=none->Hz q=none)->(∀l H',H l=none->aA H H'->bx K Hz H' l (fQ mv pt mv.length)->Q (.ref l) H')->yp K vs H Q E9
section
variable {mv pt lk A Hd:LR9} {x y:List Rat} {n t T:Nat}
theorem Kf (hc:t < n):(bu mv n).getD t []=mv.map λxs=>xs.getD t 0:=by
 unfold bu;rw[aa,aD,cy hc];rfl
theorem LP (hc:t < mv.length):(lY mv x).getD t 0=eI (mv.getD t []) x:=by
 unfold lY;rw[aa,aD,aa,ae hc];rfl
theorem QW (wm:∀xs∈mv,xs.length=n) (lx:x.length=mv.length) (ly:y.length=n):eI (lY (bu mv n) x) y=eI x (lY mv y):=by
 have lt:(bu mv n).length=n:=cT;rw[eH (by rw[lX,lt,ly]),lX,lt,eH (by rw[lX,lx]),lx]
 have e1:∀c,c < n->(lY (bu mv n) x).getD c 0*y.getD c 0=bc mv.length λi=>x.getD i 0*((mv.getD i []).getD c 0*y.getD c 0):=λc hc=>by
  rw[LP (by lia),Kf hc,eH (by rw[ag,lx]),ag,eB,<- cI];refine aR λi hi=>?_
  have:(mv.map λxs=>xs.getD c 0).getD i 0=(mv.getD i []).getD c 0:=by
   rw[aa,aD,aa (l:=mv),ae hi];rfl
  rw[this];grind
 rw[aR e1,gX];refine aR λi hi=>?_
 have wi:(mv.getD i []).length=n:=by
  rw[aa,ae hi];exact wm _ (aF hi)
 rw[cI,LP hi,eH (by rw[wi,ly]),wi]
theorem LM:∀t,jH mv t (lY mv x)=jH mv (t+1) x
 | 0=>rfl
 | t+1=>by
  show lY mv (jH mv t (lY mv x))=lY mv (jH mv (t+1) x)
  rw[LM t]
theorem IJ (wm:∀xs∈mv,xs.length=mv.length) (ly:y.length=mv.length):∀t (x:List Rat),x.length=mv.length->eI (jH (bu mv mv.length) t x) y=eI x (jH mv t y)
 | 0,x,_=>rfl
 | t+1,x,lx=>by
  have lt:(bu mv mv.length).length=mv.length:=cT;rw[<- LM,IJ wm ly t _ (by rw[lX,lt]),QW wm lx (CL ly t)];rfl
theorem IW (hx:x∈lk):∀T t,t < T->jH A t x∈fQ A lk T
 | 0,_,h=>absurd h (cH _)
 | T+1,0,_=>ay.mpr (.inl hx)
 | T+1,t+1,h=>ay.mpr (.inr (av.mpr ⟨_,IW hx T t (by lia),rfl⟩))
structure RI (mv lk:LR9) (z:List Rat):Prop where
 len:z.length=mv.length
 ne:z≠List.replicate mv.length 0
 sz:∀x∈z,kd x
 look:∀t,t < mv.length->(lk.map λxs=>eI xs (jH mv t z))=List.replicate lk.length 0
 fm:∀t,t < mv.length->∀xs∈mv,wd xs (jH mv t z)
 fl:∀t,t < mv.length->∀xs∈lk,wd xs (jH mv t z)
theorem zV.state (Y:zV mv pt lk) (Y2:zV (bu mv mv.length) lk pt) (D:gV mv pt lk) (U:sP (bu mv mv.length) lk mv.length mv.length 500 Hd) (h:0 < Hd.length):RI mv lk (Hd.getD 0 []):=by
 have mz:Hd.getD 0 []∈Hd:=by
  rw[aa,ae h];exact aF _
 have et:(bu mv mv.length).length=mv.length:=cT;have d8:=D.n8;have wk:∀xs∈fQ (bu mv mv.length) lk mv.length,xs.length=mv.length:=gU et D.lw mv.length;have dz:=λy hy=>U.dot wk _ mz y hy
 obtain ⟨wH,_,zH,fH⟩:=U.szn (by decide);obtain ⟨R,ps,psd,Mh,RR,RN,_⟩:=U
 have ne:Hd.getD 0 []≠List.replicate mv.length 0:=λe=>by
  have l:0 < psd.length:=by rw[<- RN.1];exact h
  have u:=RN.2.2.unit 0 l 0 l;unfold bI at u;rw[e,if_pos rfl,GO] at u;exact absurd u (by decide)
 have lz:=wH _ mz;obtain ⟨N,W,N0,N1,W1,fz⟩:=fH _ mz;have sz:=zH _ mz;generalize Hd.getD 0 []=z at dz ne lz fz sz;obtain ⟨a,c,⟨M,V,M0,Ma,hV,fm,fp,a4,c4,_⟩,b3⟩:=Y.pr;obtain ⟨a2,c2,⟨M2,V2,M20,Ma2,hV2,_,fl,a42,c42,_⟩,_⟩:=Y2.pr;have v1:V<=2^c:=af (bZ _ (by lia)) hV;have v2:V2<=2^c2:=af (bZ _ (by lia)) hV2
 have vc:(mv.length+4)*V<=2^(c+2):=by
  rw[bT,aX _ (2^2)];refine af ?_ (cN _ hV);rw[<- bY];exact ax _ (by lia)
 rw[kh] at b3
 have ft:∀t,t < mv.length->ph (a*mv.length+500) ((c+2)*mv.length+500) (jH mv t z):=λt ht=>by
  have f:=QQ fm D.mw vc lz (λx hx=>(fz x hx).mono W1) t;refine ⟨_,_,cx (ir M0) N0,af (iX (rZ Ma t) N1) (kv (B9 (cN _ (by lia)) _)),kv (B9 (cN _ (by lia)) _),f⟩
 have e1:(a*mv.length+500)+((c+2)*mv.length+500)<=1400:=by
  rw[B6,aX a,aX c]
  lia
 refine ⟨lz,ne,sz,λt ht=>?_,λt ht xs hx=>⟨a,c,_,_,⟨M,V,M0,Ma,v1,fm xs hx⟩,ft t ht,by lia⟩,λt ht xs hx=>⟨a2,c2,_,_,⟨M2,V2,M20,Ma2,v2,fl xs hx⟩,ft t ht,by lia⟩⟩;rw[<- List.map_const'];refine D7 λxs hx=>?_
 rw[<- IJ D.mw lz t xs (D.lw xs hx),Ki];exact dz _ (IW hx _ t ht)
end
theorem ya (h:sP A lk n t e Hd) (h':sP A lk n t e Hd'):Hd=Hd':=by
 obtain ⟨R,ps,psd,M,RR,RN,_⟩:=h;obtain ⟨R',ps',psd',M',RR',RN',_⟩:=h';obtain ⟨rfl,rfl⟩:=RR.same RR';exact (RN.same RN').1
structure Na (K:FG9) (C:Addr) (H0 H:Hp) (sy:Addr) (mv pt lk:LR9):Prop where
 S:lI K H0 H C sy mv pt lk
 D:gV mv pt lk
 F:F7 mv pt lk
 Y:zV mv pt lk
 Y2:zV (bu mv mv.length) lk pt
theorem Na.same {K:FG9} (h:Na K C H0 H sy mv pt lk) (s:aA H H'):Na K C H0 H' sy mv pt lk:=⟨h.S.same s,h.D,h.F,h.Y,h.Y2⟩
inductive yo (K:FG9) (C:Addr) (vs:List V) (H:Hp) (Q:VK) (E9:XK):Prop
 | mk (d:Nat) (sy:Addr) (H0:Hp) (mv pt lk:LR9):vs=[.int d,.ref sy]->d<=1->Na K C H0 H sy mv pt lk →
   (d=1->∀R ps,bF (fQ mv pt mv.length) mv.length R ps->ps.length < mv.length->∀H',aA H H'->Q (.str "steered") H') →
   ((d=0\/∃R ps,bF (fQ mv pt mv.length) mv.length R ps/\ps.length=mv.length)->∀Hd,sP (bu mv mv.length) lk mv.length mv.length 500 Hd->(Hd.length=0->∀H',aA H H'->Q .non H')/\(0 < Hd.length->∀r H',aA H H'->H r=none->c7 K H' r (Hd.getD 0 [])->Q (.ref r) H'))->yo K C vs H Q E9
inductive wq (K:FG9) (vs:List V) (H:Hp) (Q:VK) (E9:XK):Prop
 | mk (r q:Addr) (H0 Hb:Hp) (mv pt lk:LR9) (z:List Rat):vs=[.ref r,.ref q]->qP K H0 Hb r mv pt lk->gV mv pt lk->aA Hb H->Hb q=none->c7 K H q z->RI mv lk z->(∀H',aA Hb H'->Q (.bl true) H')->wq K vs H Q E9
end L2
open L2
local macro_rules | `(tactic| walk_at "hl") => `(tactic| first | (show _ ≤ sizeLine; with_unfolding_all decide) | (with_unfolding_all exact (by decide)))
local macro_rules | `(tactic| walk_at "sq") => `(tactic| first | with_reducible assumption | with_reducible exact qO.of (by assumption) | with_reducible exact bo.of (by assumption) | with_reducible exact qO.of az | with_reducible exact bo.of az | assumption)
local macro_rules | `(tactic| walk_at "sc") => `(tactic| first | (with_reducible show (0 : Int) < _; decide) | with_reducible exact OR (by decide) (by decide) | with_reducible exact Jn (by decide) (by decide) | with_reducible exact cpow_of (by decide) (by decide) (by decide))
local macro_rules | `(tactic| walk_at "rd") => `(tactic| first
  | with_reducible refine Qr ?_
  | with_reducible refine NK ?_
  | with_reducible refine QI ?_
  | with_reducible refine LG ?_
  | ((with_reducible refine' Qo ?hx1 ?_); (case hx1 => with_unfolding_all rfl))
  | with_reducible refine T5 ?_
  | with_reducible refine SD ?_
  | with_reducible refine SH ?_
  | with_reducible refine Sv ?_
  | with_reducible refine T6 ?_
  | with_reducible refine QG ?_
  | with_reducible refine Qw ?_
  | with_reducible refine rd_eqS ?_
  | with_reducible refine rd_neS ?_
  | with_reducible refine rd_eqB ?_
  | with_reducible refine rd_neB ?_
  | with_reducible refine NO ?_
  | with_reducible refine GP ?_
  | with_reducible refine QF ?_
  | with_reducible refine NH ?_
  | with_reducible refine NL ?_
  | with_reducible refine NM ?_
  | with_reducible refine LD ?_
  | with_reducible refine NG ?_
  | with_reducible refine Sw ?_
  | with_reducible refine Qs ?_
  | with_reducible refine rd_retN ?_
  | with_reducible refine QC ?_
  | with_reducible refine QJ ?_
  | with_reducible refine SA ?_
  | with_reducible refine Qu ?_
  | with_reducible refine N2 ?_
  | with_reducible refine rd_orV ?_
  | with_reducible refine NJ ?_
  | with_reducible refine QD ?_
  | with_reducible refine Qn ?_
  | with_reducible refine Ow ?_
  | with_reducible refine S0 ?_
  | with_reducible refine S3 ?_
  | with_reducible refine S4 ?_
  | with_reducible refine Pj ?_
  | with_reducible refine Qv ?_
  | with_reducible refine NV ?_
  | with_reducible refine Qp ?_
  | with_reducible refine Qx ?_
  | with_reducible refine NX ?_
  | with_reducible refine SE ?_
  | with_reducible refine NU ?_
  | with_reducible refine Qt ?_
  | with_reducible refine NZ ?_
  | ((with_reducible refine' rd_aug ?hx1 ?_); (case hx1 => with_unfolding_all rfl))
  | with_reducible refine Qz ?_
  | with_reducible refine NR ?_
  | with_reducible refine LH ?_
  | with_reducible refine NS ?_
  | with_reducible refine Sy ?_
  | with_reducible refine JO ?_
  | with_reducible refine NI ?_
  | with_reducible refine QE ?_
  | with_reducible refine LC ?_
  | with_reducible refine NP ?_
  | with_reducible refine LB ?_
  | with_reducible refine LA ?_
  | ((with_reducible refine' NW ?hx1 ?_); (case hx1 => with_unfolding_all rfl))
  | with_reducible refine NF ?_
  | with_reducible refine SG ?_
  | with_reducible refine rd_bm0 ?_
  | with_reducible refine rd_brk ?_
  | ((with_reducible refine' NQ ?hx1 ?hx2 ?_); (case hx1 => walk_at "sq"); (case hx2 => with_unfolding_all rfl))
  | with_reducible refine rd_cont ?_
  | ((with_reducible refine' eZ ?hx1 ?_); (case hx1 => walk_at "sc"))
  | ((with_reducible refine' Qy ?hx1 ?hx2 ?_); (case hx1 => walk_at "sq"); (case hx2 => with_unfolding_all rfl))
  | ((with_reducible refine' bS ?hx1 ?hx2 ?_); (case hx1 => walk_at "sq"); (case hx2 => with_unfolding_all rfl))
  | ((with_reducible refine' NT ?hx1 ?hx2 ?_); (case hx1 => walk_at "sq"); (case hx2 => with_unfolding_all rfl))
  | ((with_reducible refine' d9 ?hx1 ?hx2 ?hx3 ?_); (case hx1 => with_reducible first | assumption | exact az); (case hx2 => with_unfolding_all rfl); (case hx3 => with_unfolding_all rfl))
  | with_reducible refine ⟨_, rfl, ?_⟩
  | with_reducible refine ⟨_, _, rfl, ?_⟩)
namespace L2
open PySem PySem.Spec PyProof.Rows Nm
section
variable {X:Cx} {e e1 e2 e3:Expr} {te t1 t2 t3:TE}
theorem fM (i:Nat) {x:Str} {pos:Pos} (hN:X.N.Nodup:=by walk_at "u") (hi:X.N[i]?=some x:=by rfl) (hx:Loc X.env.scope x:=by first | exact Or.inl rfl | exact Or.inr rfl) (hf:X.fn x=true\/X.env.scope.names.lookup x=some .local:=by first | exact .inl rfl | exact .inr rfl | assumption):PG X (.Name x pos) (BJ i):=Oa hN hi hx hf
theorem fo (i:Nat) {x:Str} {pos pos':Pos} (hN:X.N.Nodup) (he:PE X e te) (hi:X.N[i]?=some x:=by rfl) (hx:Loc X.env.scope x:=by first | exact Or.inl rfl | exact Or.inr rfl) (hs:swapsWith e (some (.Name x pos')) pos.line X.env=pure false:=by rfl) (hf:X.fn x=true\/X.env.scope.names.lookup x=some .local:=by first | exact .inl rfl | exact .inr rfl | assumption):PS X (.Assign [.Name x pos'] e pos) (Lc te (BJ i)):=QP hN hi hx he hs hf
theorem df (a:PE X e te) (h0:starEach [e] X.env=(false,eval e X.env) :: starEach [] X.env:=by rfl):PA X [e] (iZ te yd):=(fF a kz h0)
theorem cB (a:PE X e te) (b:PE X e1 t1) (h0:starEach [e,e1] X.env=(false,eval e X.env) :: starEach [e1] X.env:=by rfl) (h1:starEach [e1] X.env=(false,eval e1 X.env) :: starEach [] X.env:=by rfl):PA X [e,e1] (iZ te (iZ t1 yd)):=(fF a (fF b kz h1) h0)
theorem CP (a:PE X e te) (b:PE X e1 t1) (c:PE X e2 t2) (h0:starEach [e,e1,e2] X.env=(false,eval e X.env) :: starEach [e1,e2] X.env:=by rfl) (h1:starEach [e1,e2] X.env=(false,eval e1 X.env) :: starEach [e2] X.env:=by rfl) (h2:starEach [e2] X.env=(false,eval e2 X.env) :: starEach [] X.env:=by rfl):PA X [e,e1,e2] (iZ te (iZ t1 (iZ t2 yd))):=(fF a (fF b (fF c kz h2) h1) h0)
theorem Oe (a:PE X e te) (b:PE X e1 t1) (c:PE X e2 t2) (d:PE X e3 t3) (h0:starEach [e,e1,e2,e3] X.env=(false,eval e X.env) :: starEach [e1,e2,e3] X.env:=by rfl) (h1:starEach [e1,e2,e3] X.env=(false,eval e1 X.env) :: starEach [e2,e3] X.env:=by rfl) (h2:starEach [e2,e3] X.env=(false,eval e2 X.env) :: starEach [e3] X.env:=by rfl) (h3:starEach [e3] X.env=(false,eval e3 X.env) :: starEach [] X.env:=by rfl):PA X [e,e1,e2,e3] (iZ te (iZ t1 (iZ t2 (iZ t3 yd)))):=(fF a (fF b (fF c (fF d kz h3) h2) h1) h0)
abbrev bH:=@pv X 0
abbrev cz:=@pv X 1
abbrev eE:=@pv X 2
abbrev jB:=@pv X 3
abbrev wY:=@pv X 4
abbrev z9:=@pv X 5
abbrev uu:=@pv X 6
abbrev Aj:=@pv X 7
abbrev D5:=@pv X 8
abbrev sC (N:List Str) (k:Nat) (st:Stmt):Prop:=qQ N (N.take k) (cG st)
end
end L2
local macro_rules | `(tactic| walk_at "w") => `(tactic| repeat walk_at "rd")
local macro_rules | `(tactic| walk_at "d") => `(tactic| exact ⟨rfl,rfl,rfl,by decide +kernel,rfl,by decide +kernel,by decide +kernel⟩)
namespace Lw
open PySem PySem.Spec PyProof.Rows L2 Nm
local macro_rules | `(tactic| exists $e) => `(tactic| (walk_at "w";refine $e))
local macro_rules | `(tactic| walk_at "n") => `(tactic| (intro vs H Q E h; first | (cases h; subst_vars; rfl) | ((repeat obtain ⟨_, h⟩ := h); subst_vars; rfl)))
local macro_rules | `(tactic| walk_at "i") => `(tactic| set_option tactic.hygienic false in intros)
local macro_rules | `(tactic| walk_at "s") => `(tactic| refine lg (by dsimp only [Qk] <;> rfl) ?_)
local macro_rules | `(tactic| walk_at "d") => `(tactic| exact ⟨rfl, rfl, rfl, by decide +kernel, rfl, by decide +kernel, by decide +kernel⟩)
local macro_rules | `(tactic| walk_at "u") => `(tactic| first | (change List.Nodup (α := Str) [_]; decide +kernel) | (change List.Nodup (α := Str) [_, _]; decide +kernel) | (change List.Nodup (α := Str) [_, _, _]; decide +kernel) | (change List.Nodup (α := Str) [_, _, _, _]; decide +kernel) | (change List.Nodup (α := Str) [_, _, _, _, _]; decide +kernel) | (change List.Nodup (α := Str) [_, _, _, _, _, _]; decide +kernel) | (change List.Nodup (α := Str) [_, _, _, _, _, _, _]; decide +kernel) | (change List.Nodup (α := Str) [_, _, _, _, _, _, _, _]; decide +kernel) | (change List.Nodup (α := Str) [_, _, _, _, _, _, _, _, _]; decide +kernel))
set_option maxHeartbeats 4000000
def top (i:Nat):Stmt:=PySem.Challenge.pw_helmsum_k88_not_seen.main.body.getD i (.Pass ⟨0,0,0,0⟩)
abbrev tZ:Stmt:=top 73
abbrev rP:Stmt:=top 74
abbrev my:Stmt:=top 91
abbrev tX:Stmt:=top 75
abbrev oK:Stmt:=top 80
abbrev tW:Stmt:=top 81
abbrev rT:Stmt:=top 88
abbrev tV:Stmt:=top 76
abbrev rS:Stmt:=top 83
abbrev rR:Stmt:=top 78
abbrev vN:Stmt:=top 84
abbrev qg:Stmt:=top 89
abbrev qe:Stmt:=top 90
abbrev rK:Stmt:=top 56
abbrev tU:Stmt:=top 11
abbrev kr:Stmt:=top 12
abbrev rO:Stmt:=top 14
abbrev yH:Stmt:=top 20
abbrev oH:Stmt:=top 57
abbrev d7:Stmt:=inClass (top 58) 0
abbrev oN:Stmt:=top 92
abbrev rV:Stmt:=top 93
abbrev rQ:Stmt:=top 79
abbrev rW:Stmt:=top 77
abbrev qh:Stmt:=top 94
abbrev m5:Stmt:=top 95
abbrev tY:Stmt:=top 82
abbrev vM:Stmt:=top 96
abbrev pZ:Stmt:=top 97
abbrev oJ:Stmt:=top 98
abbrev rL:Stmt:=top 25
abbrev jF:Stmt:=top 13
abbrev lW:Stmt:=top 24
abbrev pW:Stmt:=top 37
abbrev vL:Stmt:=top 39
abbrev pX:Stmt:=top 38
abbrev CB:Stmt:=top 40
abbrev yG:Stmt:=top 15
abbrev vH:Stmt:=top 41
abbrev vG:Stmt:=top 26
abbrev vK:Stmt:=top 30
abbrev pU:Stmt:=top 47
abbrev oC:Stmt:=top 48
abbrev pR:Stmt:=top 49
abbrev oF:Stmt:=top 31
abbrev fE:Stmt:=inClass (top 58) 3
abbrev tP:Stmt:=top 28
abbrev lV:Stmt:=top 34
abbrev vJ:Stmt:=top 35
abbrev CD:Stmt:=top 17
abbrev vI:Stmt:=top 44
abbrev oG:Stmt:=top 36
abbrev CC:Stmt:=top 45
abbrev oB:Stmt:=top 68
abbrev pS:Stmt:=top 27
abbrev c8:Stmt:=inClass (top 6) 0
abbrev ji:Stmt:=top 62
abbrev pT:Stmt:=top 42
abbrev oE:Stmt:=top 63
abbrev fU:Stmt:=inClass (top 58) 1
abbrev CF:Stmt:=top 64
abbrev rN:Stmt:=top 22
abbrev pV:Stmt:=top 32
abbrev pQ:Stmt:=top 51
abbrev CA:Stmt:=top 18
abbrev rM:Stmt:=top 23
abbrev CG:Stmt:=top 65
abbrev GI:Stmt:=top 16
abbrev tQ:Stmt:=top 21
abbrev yI:Stmt:=top 60
abbrev vF:Stmt:=top 66
abbrev dN:Stmt:=inClass (top 7) 0
abbrev dO:Stmt:=inClass (top 70) 0
abbrev eS:Stmt:=inClass (top 71) 0
abbrev pY:Stmt:=top 99
abbrev ku:Stmt:=top 85
abbrev oM:Stmt:=top 86
abbrev oI:Stmt:=top 100
abbrev Lo:Stmt:=top 101
set_option genInjectivity false in
set_option genSizeOf false in
structure Ads where
 Ih:Addr
 HS:FuncData
 FL:Addr
 Fm:FuncData
 DW:Addr
 DB:FuncData
 Ie:Addr
 HQ:FuncData
 AW:Addr
 AG:FuncData
 Ic:Addr
 HP:FuncData
 FR:Addr
 Fq:FuncData
 Ib:Addr
 HN:FuncData
 FQ:Addr
 Fp:FuncData
 FP:Addr
 Fo:FuncData
 KL:Addr
 Ks:FuncData
 DZ:Addr
 DE:FuncData
 DY:Addr
 DD:FuncData
 FG:Addr
 Fg:FuncData
 Ia:Addr
 HM:FuncData
 v8:Addr
 vY:FuncData
 FK:Addr
 Fl:FuncData
 M5:Addr
 MO:FuncData
 AS:Addr
 AD:FuncData
 jX:Addr
 jW:FuncData
 AY:Addr
 AI:FuncData
 FT:Addr
 Fs:FuncData
 FO:Addr
 Fn:FuncData
 FU:Addr
 Fu:FuncData
 D0:Addr
 DF:FuncData
 zS:Addr
 zK:FuncData
 Ig:Addr
 HR:FuncData
 KJ:Addr
 Kr:FuncData
 DX:Addr
 DC:FuncData
 AV:Addr
 AF:FuncData
 FH:Addr
 Fh:FuncData
 vd:Addr
 u6:FuncData
 xv:Addr
 xn:FuncData
 DT:Addr
 Dy:FuncData
 KI:Addr
 Kq:FuncData
 DU:Addr
 Dz:FuncData
 OZ:Addr
 OM:FuncData
 MY:Addr
 MN:FuncData
 KD:Addr
 Km:FuncData
 KC:Addr
 Kl:FuncData
 KH:Addr
 Kp:FuncData
 DR:Addr
 Dw:FuncData
 AN:Addr
 Ay:FuncData
 DO:Addr
 Dq:FuncData
 AQ:Addr
 AA:FuncData
 l9:Addr
 lZ:FuncData
 HY:Addr
 HK:FuncData
 xu:Addr
 xm:FuncData
 KG:Addr
 Ko:FuncData
 O1:Addr
 OO:FuncData
 KE:Addr
 Kn:FuncData
 AR:Addr
 AB:FuncData
 O0:Addr
 ON:FuncData
 AL:Addr
 Ax:FuncData
 DP:Addr
 Ds:FuncData
 fh:Addr
 ic:FuncData
 uq:Addr
 uo:FuncData
 DQ:Addr
 Dv:FuncData
 AO:Addr
 Az:FuncData
 nI:Addr
 nF:FuncData
 O2:Addr
 OP:FuncData
 FJ:Addr
 Fj:FuncData
 DS:Addr
 Dx:FuncData
 DN:Addr
 Dp:FuncData
 OY:Addr
 OL:FuncData
 FI:Addr
 Fi:FuncData
 O3:Addr
 OQ:FuncData
 RH:Addr
 Ry:FuncData
 HZ:Addr
 HL:FuncData
 M6:Addr
 MP:FuncData
 KA:Addr
 Kk:FuncData
 gO:Addr
 jr:FuncData
 ju:Addr
 js:FuncData
 kH:Addr
 kF:FuncData
 DV:Addr
 DA:FuncData
 v9:Addr
 vZ:FuncData
 AX:Addr
 AH:FuncData
 AU:Addr
 AE:FuncData
 PM:Addr
 PL:FuncData
 a_NOUGHT:Addr
 a_ONE:Addr
 t_MOST_STATES:Tok
 t_MOST_PUTS:Tok
 t_MOST_LOOKS:Tok
 a_System:Addr
 a_Guesser:Addr
 a_Pilot:Addr
 a_SumError:Addr
 a_NotSteered:Addr
 a_NotSeen:Addr
structure Txt (K:W.Frag) (mg:Str->Option Value) (Z:Ads):Prop where
 oh:Df K mg "_law_bag" tZ ["_law_script"] Z.Ih Z.HS
 bJ:Df K mg "_law_take" rP ["_law_bag_here","_law_many"] Z.FL Z.Fm
 kQ:Df K mg "_law_sizes" my ["_law_bag_here"] Z.DW Z.DB
 dY:Df K mg "_law_low" tX ["_law_top","_law_bottom"] Z.Ie Z.HQ
 jU:Df K mg "_law_number" oK ["_law_bag_here","_law_wide"] Z.AW Z.AG
 jx:Df K mg "_law_row" tW ["_law_bag_here","_law_many","_law_wide"] Z.Ic Z.HP
 mG:Df K mg "_law_move" rT ["_law_bag_here","_law_n","_law_way","_law_first","_law_wide"] Z.FR Z.Fq
 iL:Df K mg "_law_sum" tV ["_law_one","_law_other"] Z.Ib Z.HN
 mF:Df K mg "_law_plus" rS ["_law_one","_law_other"] Z.FQ Z.Fp
 gN:Df K mg "_law_prod" rR ["_law_one","_law_other"] Z.FP Z.Fo
 kC:Df K mg "_law_by" vN ["_law_by_here","_law_row_here"] Z.KL Z.Ks
 kS:Df K mg "_law_mixed" qg ["_law_bag_here","_law_move_here","_law_put","_law_look"] Z.DZ Z.DE
 kR:Df K mg "_law_parts" qe ["_law_bag_here","_law_n","_law_ins","_law_outs","_law_wide"] Z.DY Z.DD
 iN:Df K mg "want_list" rK ["thing","at","most"] Z.FG Z.Fg
 lB:Df K mg "is_whole" tU ["thing"] Z.Ia Z.HM
 eo:Df K mg "common_divisor" kr ["one","other"] Z.v8 Z.vY
 mD:Df K mg "is_number" rO ["thing"] Z.FK Z.Fl
 sX:Df K mg "is_row" yH ["thing","many"] Z.M5 Z.MO
 fZ:Df K mg "copied_rows" oH ["things","wide"] Z.AS Z.AD
 ip:Binds K Z.jW ["self","move","put","look"] []
 oo:A2 K "__init__" "System.__init__" d7 Z.jX Z.jW
 gg:Df K mg "_law_copied" oN ["_law_grid"] Z.AY Z.AI
 mH:Df K mg "_law_made" rV ["_law_parts_here"] Z.FT Z.Fs
 mE:Df K mg "_law_quot" rQ ["_law_one","_law_other"] Z.FO Z.Fn
 mI:Df K mg "_law_less" rW ["_law_one","_law_other"] Z.FU Z.Fu
 kT:Df K mg "_law_minus" qh ["_law_one","_law_other"] Z.D0 Z.DF
 gR:Df K mg "_law_reduced" m5 ["_law_rows","_law_size"] Z.zS Z.zK
 og:Df K mg "_law_dot" tY ["_law_one","_law_other"] Z.Ig Z.HR
 kB:Df K mg "_law_on" vM ["_law_grid","_law_row_here"] Z.KJ Z.Kr
 jb:Df K mg "_law_reach" pZ ["_law_parts_here"] Z.DX Z.DC
 jT:Df K mg "_law_turned" oJ ["_law_parts_here"] Z.AV Z.AF
 fG:Df K mg "tops_over" rL ["row","bottom"] Z.FH Z.Fh
 gM:Df K mg "common_multiple" jF ["wholes"] Z.vd Z.u6
 du:Df K mg "common_bottom" lW ["row"] Z.xv Z.xn
 kN:Df K mg "first_with" pW ["lines","begin","place"] Z.DT Z.Dy
 qD:Df K mg "cleared" vL ["lines","at","place","before"] Z.KI Z.Kq
 kO:Df K mg "brought_up" pX ["lines","at","to"] Z.DU Z.Dz
 sv:Df K mg "swept" CB ["rows","wide"] Z.OZ Z.OM
 iO:Df K mg "lowest" yG ["top","bottom"] Z.MY Z.MN
 jo:Df K mg "reduced" vH ["rows","wide"] Z.KD Z.Km
 iI:Df K mg "row_dot" vG ["one","other"] Z.KC Z.Kl
 iJ:Df K mg "grid_on" vK ["grid","row"] Z.KH Z.Kp
 ja:Df K mg "moved_rows" pU ["system","rows"] Z.DR Z.Dw
 jQ:Df K mg "reach_grown" oC ["system","steps"] Z.AN Z.Ay
 i8:Df K mg "reach_rows" pR ["system","steps"] Z.DO Z.Dq
 cV:Df K mg "grid_turned" oF ["grid","wide"] Z.AQ Z.AA
 kD:M8 K Z.a_System "turned" Z.l9
 l7:Binds K Z.lZ ["self"] []
 qV:A2 K "turned" "System.turned" fE Z.l9 Z.lZ
 lh:Df K mg "unit_row" tP ["many","at"] Z.HY Z.HK
 iP:Df K mg "leading_place" lV ["row"] Z.xu Z.xm
 nE:Df K mg "leading" vJ ["rows"] Z.KG Z.Ko
 sF:Df K mg "minus" CD ["one","other"] Z.O1 Z.OO
 qC:Df K mg "null_at" vI ["rows","wide","at"] Z.KE Z.Kn
 jS:Df K mg "free_places" oG ["rows","wide"] Z.AR Z.AB
 sE:Df K mg "nulls" CC ["rows","wide"] Z.O0 Z.ON
 jN:Df K mg "unseen_rows" oB ["system","steps"] Z.AL Z.Ax
 dS:Df K mg "nought_row" pS ["many"] Z.DP Z.Ds
 kb:Binds K Z.ic ["self","price"] []
 kg:A2 K "__init__" "NotSteered.__init__" c8 Z.fh Z.ic
 dG:Df K mg "refuse_unsteered" ji ["system"] Z.uq Z.uo
 kM:Df K mg "new_places" pT ["rows","wide"] Z.DQ Z.Dv
 jR:Df K mg "leading_out" oE ["system","states"] Z.AO Z.Az
 qU:M8 K Z.a_System "moved" Z.nI
 sN:Binds K Z.nF ["self","state","puts"] []
 sS:A2 K "moved" "System.moved" fU Z.nI Z.nF
 uQ:Df K mg "chain" CF ["system"] Z.O2 Z.OP
 jP:Df K mg "row_minus" rN ["one","other"] Z.FJ Z.Fj
 fN:Df K mg "grid_times" pV ["one","other","wide"] Z.DS Z.Dx
 kL:Df K mg "taken_over" pQ ["system","rows"] Z.DN Z.Dp
 uP:Df K mg "times" CA ["one","other"] Z.OY Z.OL
 jO:Df K mg "row_times" rM ["by","row"] Z.FI Z.Fi
 uR:Df K mg "amiss" CG ["system","row","wish"] Z.O3 Z.OQ
 xM:Df K mg "plus" GI ["one","other"] Z.RH Z.Ry
 oa:Df K mg "row_plus" tQ ["one","other"] Z.HZ Z.HL
 sY:Df K mg "closed" yI ["system","rows"] Z.M6 Z.MP
 gK:Df K mg "steered" vF ["system","wish"] Z.KA Z.Kk
 nH:Binds K Z.jr ["self","state"] []
 nJ:A2 K "__init__" "NotSeen.__init__" dN Z.gO Z.jr
 jt:Binds K Z.js ["self","system"] []
 nK:A2 K "__init__" "Guesser.__init__" dO Z.ju Z.js
 pd:Binds K Z.kF ["self","system"] []
 pA:A2 K "__init__" "Pilot.__init__" eS Z.kH Z.kF
 dU:Df K mg "_law_state" pY ["_law_door","_law_system"] Z.DV Z.DA
 ik:Df K mg "_law_is_number" ku ["_law_thing"] Z.v9 Z.vZ
 jV:Df K mg "_law_is_row" oM ["_law_thing","_law_many"] Z.AX Z.AH
 iK:Df K mg "_law_unseen" oI ["_law_parts_here","_law_state_here"] Z.AU Z.AE
 PV:A2 K "law" "law" Lo Z.PM Z.PL
 abs:mg "abs"=none
 len:mg "len"=none
 min:mg "min"=none
 range:mg "range"=none
 int:mg "int"=none
 isinstance:mg "isinstance"=none
 list:mg "list"=none
 bool:mg "bool"=none
 tuple:mg "tuple"=none
 all:mg "all"=none
 enumerate:mg "enumerate"=none
 zip:mg "zip"=none
 sum:mg "sum"=none
 reversed:mg "reversed"=none
 ValueError:mg "ValueError"=none
 mg_NOUGHT:mg "NOUGHT"=some (.ref Z.a_NOUGHT)
 sq_NOUGHT:∀H,qO K H Z.a_NOUGHT [.int 0,.int 1]
 mg_ONE:mg "ONE"=some (.ref Z.a_ONE)
 sq_ONE:∀H,qO K H Z.a_ONE [.int 1,.int 1]
 mg_MOST_STATES:mg "MOST_STATES"=some (.int 8 Z.t_MOST_STATES)
 mg_MOST_PUTS:mg "MOST_PUTS"=some (.int 4 Z.t_MOST_PUTS)
 mg_MOST_LOOKS:mg "MOST_LOOKS"=some (.int 4 Z.t_MOST_LOOKS)
 mg_System:mg "System"=some (.ref Z.a_System)
 cl_System:Ip K Z.a_System
 na_move:gP K Z.a_System "move"
 na_states:gP K Z.a_System "states"
 na_put:gP K Z.a_System "put"
 na_ins:gP K Z.a_System "ins"
 na_look:gP K Z.a_System "look"
 na_outs:gP K Z.a_System "outs"
 mk_System:Mk K Z.a_System Z.jX
 mg_Guesser:mg "Guesser"=some (.ref Z.a_Guesser)
 cl_Guesser:Ip K Z.a_Guesser
 na_Guesser_mends:gP K Z.a_Guesser "mends"
 na_Guesser_state:gP K Z.a_Guesser "state"
 na_Guesser_system:gP K Z.a_Guesser "system"
 mk_Guesser:Mk K Z.a_Guesser Z.ju
 mg_Pilot:mg "Pilot"=some (.ref Z.a_Pilot)
 cl_Pilot:Ip K Z.a_Pilot
 na_Pilot_guesser:gP K Z.a_Pilot "guesser"
 na_Pilot_rows:gP K Z.a_Pilot "rows"
 mk_Pilot:Mk K Z.a_Pilot Z.kH
 mg_SumError:mg "SumError"=some (.ref Z.a_SumError)
 mg_NotSteered:mg "NotSteered"=some (.ref Z.a_NotSteered)
 mg_NotSeen:mg "NotSeen"=some (.ref Z.a_NotSeen)
 xi_NotSteered:RS K Z.a_NotSteered Z.a_SumError
 in_NotSteered:W.findIn K (.ref Z.a_NotSteered) "__init__"=some (some (.ref Z.fh))
 fn_NotSteered:W.typeIn K (.ref Z.fh)=some (.type "function")
 kp_NotSteered:W.keepIn K (.ref Z.a_NotSteered)=true
 nt_NotSteered:W.findIn K (.ref Z.a_NotSteered) "price"=some none
 xi_NotSeen:RS K Z.a_NotSeen Z.a_SumError
 in_NotSeen:W.findIn K (.ref Z.a_NotSeen) "__init__"=some (some (.ref Z.gO))
 fn_NotSeen:W.typeIn K (.ref Z.gO)=some (.type "function")
 kp_NotSeen:W.keepIn K (.ref Z.a_NotSeen)=true
 nt_NotSeen:W.findIn K (.ref Z.a_NotSeen) "state"=some none
 ex_SumError:W.excIn K Z.a_SumError vo "ValueError.__new__"=true
 xm_NotSteered_NotSteered:W.exmOne K (.ref Z.a_NotSteered) (.ref Z.a_NotSteered)=some true
 xm_NotSteered_NotSeen:W.exmOne K (.ref Z.a_NotSteered) (.ref Z.a_NotSeen)=some false
 xm_NotSeen_NotSteered:W.exmOne K (.ref Z.a_NotSeen) (.ref Z.a_NotSteered)=some false
 xm_NotSeen_NotSeen:W.exmOne K (.ref Z.a_NotSeen) (.ref Z.a_NotSeen)=some true
 ki_NotSteered_SumError:W.kitOne K (.ref Z.a_NotSteered) (.ref Z.a_SumError)=some true
 ki_NotSteered_NotSteered:W.kitOne K (.ref Z.a_NotSteered) (.ref Z.a_NotSteered)=some true
 ki_NotSteered_ValueError:W.kitOne K (.ref Z.a_NotSteered) (.type "ValueError")=some true
 ki_NotSeen_SumError:W.kitOne K (.ref Z.a_NotSeen) (.ref Z.a_SumError)=some true
 ki_NotSeen_NotSteered:W.kitOne K (.ref Z.a_NotSeen) (.ref Z.a_NotSteered)=some false
 ki_NotSeen_ValueError:W.kitOne K (.ref Z.a_NotSeen) (.type "ValueError")=some true
 xc_NotSteered:Ng K Z.a_NotSteered
 xc_NotSeen:Ng K Z.a_NotSeen
section
variable {P:Program} {w:World} {K:W.Frag} {mg:Str->Option Value} {base:Heap} {Z:Ads}
theorem ED:sC ["_law_script"] 1 tZ:=by walk_at "d"
theorem EX (T:Txt K mg Z):T.oh.o P w base 1 (Lk K):=by
 refine T.oh.F.k ED ?_;walk_at "i";obtain ⟨a,ns,rfl,hS,hlen,k⟩:=h;refine ⟨_,(au (aN (ib (Oe aj aj aj (b7 ["_law_cell"] [] [] (cL (m8 pL bH qj (qi aj))) (λ_=>(fM 0)) (λ_=>cg) (λ_=>(bf zO (by rfl) T.abs PyProof.Rows.boot_abs (df bH)))))))),?_⟩;walk_at "s";exists ⟨a,_,rfl,hS,λl hl=>?_⟩;have hcl:(o7 (ns.map V.int) none (some 63)).length<=63:=af (wN _ _ _) (by simpa using hlen);refine ⟨l,rfl,⟨_,bo.of az⟩,?_⟩;refine eT (K:=K) (a:=l) (xs:=o7 (ns.map V.int) none (some 63)) (λi ys H'=>H'=upd H l (.lst (o7 (ns.map V.int) none (some 63)))/\∃cs:List Int,ys=cs.map V.int/\∀x∈cs,0<=x) (af hcl (by decide)) ⟨rfl,[],rfl,λ_ z=>nomatch z⟩ (λi ys H' _ ⟨e,_⟩=>by subst e;exact bo.of az) ?_ ?_
 ·rintro i x ys H' hx hi ⟨rfl,cs,rfl,hcs⟩
  obtain ⟨z,rfl⟩:∃z,x=V.int z:=by
   have hm:x∈ns.map V.int:=kj (bU (ai hx));obtain ⟨z,_,e⟩:=av.mp hm;exact ⟨z,e.symm⟩
  exists ⟨rfl,cs++[if z < 0 then -z else z],by simp,λx hx=>?_⟩;rcases ay.mp hx with hx | hx
  ·exact hcs x hx
  ·have e:x=if z < 0 then -z else z:=by simpa using hx
   subst e
   split <;> lia
 ·rintro ys H' hy ⟨rfl,cs,rfl,hcs⟩ p hp;exists ⟨by show 4<=sizeLine;decide,λb hb=>?_⟩;have n1:b≠p:=λz=>by rw[z,az] at hb;cases hb
  have hb1:(upd H l (.lst (o7 (ns.map V.int) none (some 63)))) b=none:=by rw[aJ n1] at hb;exact hb
  have s1:aA H (upd H l (.lst (o7 (ns.map V.int) none (some 63)))):=aA.new hl;refine k b _ (s1.free hb1) ⟨p,0,1234567891,0,cs,az,by rw[aJ n1.symm];exact az,by decide,by decide,by lia,hcs⟩ ((s1.trans (aA.new hp)).trans (aA.new hb))
theorem gE:sC ["_law_bag_here","_law_many","_law_more","_law_cell","_law_value","_law_first","_law_second"] 2 rP:=by walk_at "d"
theorem b8 (T:Txt K mg Z):T.bJ.o P w base 1 Ny:=by
 refine T.bJ.F.k gE ?_;walk_at "i";obtain ⟨p,n,rfl,⟨q,a,b,c,cs,hp,hq,ha,hc,hcl,hcs⟩,hn,hn2,k⟩:=h;have nqp:q≠p:=Kz hp hq
 refine ⟨_,(fV (cW (aW gi (aL bC bH aj) aj (bg _)) (ak (fo 2 gE.nd aj)
  (fV (cW (aW nY (aL bC bH aj) (bf aU (by rfl) T.len aQ (df (aL bC bH aj))) (bg _)) (ak (fo 3 gE.nd (aL bC (aL bC bH aj) (aL bC bH aj)))
  (ak (N6 bH aj Mo aj Q8 set_list)
  (ak (cW (aW yU jB aj (bg _)) (au (fW jB (fX bH aj set_list))) bQ)
  (au (fo 2 gE.nd (br fD (br oQ jB aj) aj)))))) bQ)
  (au (fW (br oQ (br fD (br cw (aL bC bH aj) aj) eE) aj) (fX bH aj set_list))))) bQ)
  (ak (cW (aW wD (aL bC bH aj) aj (bg _)) (ak (fo 4 gE.nd (br oQ (aL bC bH aj) cz))
  (ak (fW (br jK (aL bC bH aj) cz) (fX bH aj set_list))
  (au (aN wY)))) bQ)
  (ak (fo 5 gE.nd (br oQ (br cw (aL bC bH aj) aj) aj))
  (ak (fo 6 gE.nd (br oQ (br cw z9 aj) aj))
  (ak (cW (aW wD cz aj (bg _)) (au (aN (br oQ (br fD (br cw uu aj) z9) cz))) bQ)
  (au (aN (br oQ (br jK uu aj) cz)))))))),?_⟩
 walk_at "s";refine ⟨λσ' H'=>∃(x y:Option V) (a' b' c':Int),σ'=[some (.ref p),some (.int n),x,y,none,none,none]/\H' p=some (.lst [.int a',.int b',.int c',.ref q])/\0<=a'/\0<=c'/\c'<=cs.length/\dB p H H',?_,?_⟩
 ·exists jc (λh0=>?_) (λh0=>?_)
  ·exists ⟨λσ' H'=>∃(m:Int) (y:Option V) (a' c':Int),σ'=[some (.ref p),some (.int n),some (.int m),y,none,none,none]/\H' p=some (.lst [.int a',.int b,.int c',.ref q])/\0<=a'/\0<=c'/\c'<=cs.length/\dB p H H',?_,?_⟩
   ·exists ⟨_,_,rfl,.inl (bo.of hq),?_⟩;exists jc (λh1=>?_) (λh1=>?_)
    ·have h1':c < cs.length:=by simpa using of_decide_eq_true h1
     obtain ⟨z,hz⟩:∃z,cs[c.toNat]?=some z:=⟨_,ae (by lia)⟩;have hz0:0<=z:=hcs z (ai hz);exists bS (bo.of hq) (v:=.int z) ?_ ?_
     ·have:=dE (xs:=cs.map V.int) (j:=c.toNat) (v:=.int z) (by rw[aD,hz];rfl);rwa [Int.toNat_of_nonneg hc] at this
     exists jc (λh2=>?_) (λh2=>?_)
     ·exists ⟨_,_,z,c+1,rfl,az,hz0,by lia,by lia,(dB.set hp).trans (dB.set az)⟩
     ·exists ⟨_,_,a,c+1,rfl,az,ha,by lia,by lia,dB.set hp⟩
    ·exists ⟨_,_,a,c,rfl,hp,ha,hc,hcl,dB.refl _⟩
   ·rintro σ' H' ⟨m,y,a',c',rfl,hp',ha',hc',hcl',u'⟩;exists ⟨_,_,a',_,c',rfl,az,ha',hc',hcl',u'.trans (dB.set hp')⟩
  ·exists ⟨_,_,a,b,c,rfl,hp,ha,hc,hcl,dB.refl _⟩
 ·rintro σ' H' ⟨x,y,a',b',c',rfl,hp',ha',hc',hcl',u'⟩;have hq':H' q=some (.lst (cs.map V.int)):=u'.1 q _ hq nqp
  have sn:Sz 8999 n:=by
   show n.natAbs < 2^8999
   exact a9 (show n.natAbs < 2^64 by lia) (ar (by decide) (by decide))
  exists jc (λh0=>?_) (λh0=>?_)
  ·exists eZ (show (0:Int) < n from hn) ?_;exists eZ (show qW _ _ from ⟨by lia,sn⟩) ?_;exists k _ _ (mM _ (by lia)) (jg _ hn) ⟨q,_,b',c',cs,az,by rw[aJ nqp];exact hq',?_,hc',hcl',hcs⟩ (u'.trans (dB.set hp'));rw[cp _ (by lia)];exact Int.ediv_nonneg ha' (by lia)
  ·exists jc (λh1=>?_) (λh1=>?_)
   ·exists eZ (show (0:Int) < n from hn) ?_;exact k _ _ (mM _ (by lia)) (jg _ hn) ⟨q,a',b',c',cs,hp',hq',ha',hc',hcl',hcs⟩ u'
   ·exists eZ (show qW _ _ from ⟨by decide,by show (3:Nat) < 2^8999;exact a9 (show 3 < 2^2 by decide) (ar (by decide) (by decide))⟩) ?_;exists eZ (show (0:Int) < n from hn) ?_;exact k _ _ (mM _ (by lia)) (jg _ hn) ⟨q,a',b',c',cs,hp',hq',ha',hc',hcl',hcs⟩ u'
theorem AK:∃x1 x2 x3 x4 x5 x6 x7 x8 x9 x10 x11 x12 x13 x14 x15 x16:Expr,x1=(Expr.Constant (Const.int 0) 0 ⟨382,16,382,17⟩)/\x2=(Expr.Constant (Const.int 1) 0 ⟨382,19,382,20⟩)/\x3=(Expr.Constant (Const.int 1) 0 ⟨382,22,382,23⟩)/\x4=(Expr.Constant (Const.int 1) 0 ⟨382,25,382,26⟩)/\x5=(Expr.Constant (Const.int 2) 0 ⟨382,28,382,29⟩)/\x6=(Expr.Constant (Const.int 2) 0 ⟨382,31,382,32⟩)/\x7=(Expr.Constant (Const.int 3) 0 ⟨382,34,382,35⟩)/\x8=(Expr.Constant (Const.int 4) 0 ⟨382,37,382,38⟩)/\x9=(Expr.Constant (Const.int 0) 0 ⟨383,17,383,18⟩)/\x10=(Expr.Constant (Const.int 1) 0 ⟨383,20,383,21⟩)/\x11=(Expr.Constant (Const.int 1) 0 ⟨383,23,383,24⟩)/\x12=(Expr.Constant (Const.int 1) 0 ⟨383,26,383,27⟩)/\x13=(Expr.Constant (Const.int 2) 0 ⟨383,29,383,30⟩)/\x14=(Expr.Constant (Const.int 2) 0 ⟨383,32,383,33⟩)/\x15=(Expr.Constant (Const.int 3) 0 ⟨383,35,383,36⟩)/\x16=(Expr.Constant (Const.int 4) 0 ⟨383,38,383,39⟩)/\eO my=[ (Stmt.Assign (targets:=[(Expr.Name "_law_n" ⟨379,4,379,10⟩)]) (value:=(Expr.Call (func:=(Expr.Name "_law_take" ⟨379,13,379,22⟩)) (args:=[ (Expr.Name "_law_bag_here" ⟨379,23,379,36⟩),(Expr.Constant (Const.int 5) 0 ⟨379,38,379,39⟩)]) (keywords:=[]) (pos:=⟨379,13,379,40⟩))) (pos:=⟨379,4,379,40⟩)),(Stmt.If (test:=(Expr.Compare (left:=(Expr.Call (func:=(Expr.Name "_law_take" ⟨380,7,380,16⟩)) (args:=[ (Expr.Name "_law_bag_here" ⟨380,17,380,30⟩),(Expr.Constant (Const.int 8) 0 ⟨380,32,380,33⟩)]) (keywords:=[]) (pos:=⟨380,7,380,34⟩))) (ops:=[PySem.CmpOp.Eq]) (comparators:=[(Expr.Constant (Const.int 7) 0 ⟨380,38,380,39⟩)]) (pos:=⟨380,7,380,39⟩))) (body:=[ (Stmt.Assign (targets:=[(Expr.Name "_law_n" ⟨381,8,381,14⟩)]) (value:=(Expr.Constant (Const.int 5) 0 ⟨381,17,381,18⟩)) (pos:=⟨381,8,381,18⟩))]) (orelse:=[]) (pos:=⟨380,4,381,18⟩)),(Stmt.Assign (targets:=[(Expr.Name "_law_ins" ⟨382,4,382,12⟩)]) (value:=(Expr.Subscript (value:=(Expr.List (elts:=[x1,x2,x3,x4,x5,x6,x7,x8]) (pos:=⟨382,15,382,39⟩))) (slice:=(Expr.Call (func:=(Expr.Name "_law_take" ⟨382,40,382,49⟩)) (args:=[ (Expr.Name "_law_bag_here" ⟨382,50,382,63⟩),(Expr.Constant (Const.int 8) 0 ⟨382,65,382,66⟩)]) (keywords:=[]) (pos:=⟨382,40,382,67⟩))) (pos:=⟨382,15,382,68⟩))) (pos:=⟨382,4,382,68⟩)),(Stmt.Assign (targets:=[(Expr.Name "_law_outs" ⟨383,4,383,13⟩)]) (value:=(Expr.Subscript (value:=(Expr.List (elts:=[x9,x10,x11,x12,x13,x14,x15,x16]) (pos:=⟨383,16,383,40⟩))) (slice:=(Expr.Call (func:=(Expr.Name "_law_take" ⟨383,41,383,50⟩)) (args:=[ (Expr.Name "_law_bag_here" ⟨383,51,383,64⟩),(Expr.Constant (Const.int 8) 0 ⟨383,66,383,67⟩)]) (keywords:=[]) (pos:=⟨383,41,383,68⟩))) (pos:=⟨383,16,383,69⟩))) (pos:=⟨383,4,383,69⟩)),(Stmt.If (test:=(Expr.Compare (left:=(Expr.Name "_law_n" ⟨384,7,384,13⟩)) (ops:=[PySem.CmpOp.Eq]) (comparators:=[(Expr.Constant (Const.int 5) 0 ⟨384,17,384,18⟩)]) (pos:=⟨384,7,384,18⟩))) (body:=[ (Stmt.Assign (targets:=[ (Expr.Tuple (elts:=[(Expr.Name "_law_ins" ⟨385,8,385,16⟩),(Expr.Name "_law_outs" ⟨385,18,385,27⟩)]) (k:=0) (pos:=⟨385,8,385,27⟩))]) (value:=(Expr.Tuple (elts:=[ (Expr.Call (func:=(Expr.Name "min" ⟨385,31,385,34⟩)) (args:=[ (Expr.Name "_law_ins" ⟨385,35,385,43⟩),(Expr.Constant (Const.int 2) 0 ⟨385,45,385,46⟩)]) (keywords:=[]) (pos:=⟨385,31,385,47⟩)),(Expr.Call (func:=(Expr.Name "min" ⟨385,49,385,52⟩)) (args:=[ (Expr.Name "_law_outs" ⟨385,53,385,62⟩),(Expr.Constant (Const.int 2) 0 ⟨385,64,385,65⟩)]) (keywords:=[]) (pos:=⟨385,49,385,66⟩))]) (k:=0) (pos:=⟨385,30,385,67⟩))) (pos:=⟨385,8,385,67⟩))]) (orelse:=[]) (pos:=⟨384,4,385,67⟩)),(Stmt.Assign (targets:=[(Expr.Name "_law_wide" ⟨386,4,386,13⟩)]) (value:=(Expr.Subscript (value:=(Expr.List (elts:=[ (Expr.Constant (Const.int 4) 0 ⟨386,17,386,18⟩),(Expr.Constant (Const.int 4) 0 ⟨386,20,386,21⟩),(Expr.Constant (Const.int 9) 0 ⟨386,23,386,24⟩),(Expr.Constant (Const.int 1000) 0 ⟨386,26,386,30⟩)]) (pos:=⟨386,16,386,31⟩))) (slice:=(Expr.Call (func:=(Expr.Name "_law_take" ⟨386,32,386,41⟩)) (args:=[ (Expr.Name "_law_bag_here" ⟨386,42,386,55⟩),(Expr.Constant (Const.int 4) 0 ⟨386,57,386,58⟩)]) (keywords:=[]) (pos:=⟨386,32,386,59⟩))) (pos:=⟨386,16,386,60⟩))) (pos:=⟨386,4,386,60⟩)),(Stmt.If (test:=(Expr.Compare (left:=(Expr.Name "_law_wide" ⟨387,7,387,16⟩)) (ops:=[PySem.CmpOp.Gt]) (comparators:=[(Expr.Constant (Const.int 9) 0 ⟨387,19,387,20⟩)]) (pos:=⟨387,7,387,20⟩))) (body:=[ (Stmt.Assign (targets:=[(Expr.Name "_law_n" ⟨388,8,388,14⟩)]) (value:=(Expr.Call (func:=(Expr.Name "min" ⟨388,17,388,20⟩)) (args:=[ (Expr.Name "_law_n" ⟨388,21,388,27⟩),(Expr.Constant (Const.int 2) 0 ⟨388,29,388,30⟩)]) (keywords:=[]) (pos:=⟨388,17,388,31⟩))) (pos:=⟨388,8,388,31⟩))]) (orelse:=[]) (pos:=⟨387,4,388,31⟩)),(Stmt.Return (value:=(some (Expr.Tuple (elts:=[ (Expr.Name "_law_n" ⟨389,12,389,18⟩),(Expr.Name "_law_ins" ⟨389,20,389,28⟩),(Expr.Name "_law_outs" ⟨389,30,389,39⟩),(Expr.Name "_law_wide" ⟨389,41,389,50⟩)]) (k:=0) (pos:=⟨389,11,389,51⟩)))) (pos:=⟨389,4,389,51⟩))]:=⟨_,_,_,_,_,_,_,_,_,_,_,_,_,_,_,_,rfl,rfl,rfl,rfl,rfl,rfl,rfl,rfl,rfl,rfl,rfl,rfl,rfl,rfl,rfl,rfl,by with_unfolding_all rfl⟩
theorem eP:sC ["_law_bag_here","_law_n","_law_ins","_law_outs","_law_wide"] 1 my:=by walk_at "d"
theorem Ap (T:Txt K mg Z):T.kQ.o P w base 2 JH:=by
 refine T.kQ.F.k eP ?_;walk_at "i";obtain ⟨b,rfl,hB,k⟩:=h;obtain ⟨x1,x2,x3,x4,x5,x6,x7,x8,x9,x10,x11,x12,x13,x14,x15,x16,hx1,hx2,hx3,hx4,hx5,hx6,hx7,hx8,hx9,hx10,hx11,hx12,hx13,hx14,hx15,hx16,hbd⟩:=AK;rw[hbd]
 refine ⟨_,(ak (fo 1 eP.nd (cA (b8 T) hr T.bJ (cB bH aj)))
  (fV (cW (aW gi (cA (b8 T) hr T.bJ (cB bH aj)) aj (bg _)) (au (fo 1 eP.nd aj)) bQ)
  (ak (fo 2 eP.nd (aL bC (ib (eG hx1 aj (eG hx2 aj (eG hx3 aj (eG hx4 aj (eG hx5 aj (eG hx6 aj (eG hx7 aj (eG hx8 aj kz))))))))) (cA (b8 T) hr T.bJ (cB bH aj))))
  (ak (fo 3 eP.nd (aL bC (ib (eG hx9 aj (eG hx10 aj (eG hx11 aj (eG hx12 aj (eG hx13 aj (eG hx14 aj (eG hx15 aj (eG hx16 aj kz))))))))) (cA (b8 T) hr T.bJ (cB bH aj))))
  (fV (cW (aW gi cz aj (bg _)) (au (LJ (i:=2) (j:=3) rfl eP.nd rfl rfl (by decide) rfl rfl (cB (bf (sZ rfl) (by rfl) T.min PyProof.Rows.boot_min (cB eE aj)) (bf (sZ rfl) (by rfl) T.min PyProof.Rows.boot_min (cB jB aj))) rfl)) bQ)
  (ak (fo 4 eP.nd (aL bC (ib (Oe aj aj aj aj)) (cA (b8 T) hr T.bJ (cB bH aj))))
  (fV (cW (aW wD wY aj (bg _)) (au (fo 1 eP.nd (bf (sZ rfl) (by rfl) T.min PyProof.Rows.boot_min (cB cz aj)))) bQ)
  (au (aN (dW (Oe cz eE jB wY))))))))))),?_⟩
 walk_at "s";exists ⟨b,5,rfl,hB,by decide,by decide,λn H1 n0 n1 B1 u1=>?_⟩;obtain ⟨n,rfl⟩:=wX n0;exists ⟨λσ' H'=>(∃n:Nat,σ'=[some (.ref b),some (.int n),none,none,none]/\n<=5)/\lK H' b/\dB b H H',?_,?_⟩
 ·exists ⟨b,8,rfl,B1,by decide,by decide,λv H2 v0 v1 B2 u2=>?_⟩;exists jc (λ_=>?_) (λ_=>?_)
  ·exists ⟨⟨5,rfl,by decide⟩,B2,u1.trans u2⟩
  ·exists ⟨⟨n,rfl,by lia⟩,B2,u1.trans u2⟩
 clear n0 n1 u1 B1;rintro σ' H1 ⟨⟨n,rfl,n5⟩,B1,u1⟩;exists fg λl0 H2 s2 n2 g2=>?_
 exists ⟨b,8,rfl,B1.same s2,by decide,by decide,λv H3 v0 v1 B3 u3=>?_⟩;have g3:=u3.other (λz=>B1.at (by rw[<- z];exact n2)) g2;obtain ⟨x,ex,mx,_⟩:=sO (xs:=[V.int 0,V.int 1,V.int 1,V.int 1,V.int 2,V.int 2,V.int 3,V.int 4]) v0 (by simpa using v1)
 obtain ⟨i,rfl,hi⟩:∃z:Nat,x=.int z/\z<=4:=by
  simp only[aw,aE,or_false] at mx;rcases mx with rfl | rfl | rfl | rfl | rfl | rfl | rfl | rfl
  ·exact ⟨0,rfl,by decide⟩
  ·exact ⟨1,rfl,by decide⟩
  ·exact ⟨1,rfl,by decide⟩
  ·exact ⟨1,rfl,by decide⟩
  ·exact ⟨2,rfl,by decide⟩
  ·exact ⟨2,rfl,by decide⟩
  ·exact ⟨3,rfl,by decide⟩
  ·exact ⟨4,rfl,by decide⟩
 exists bS (bo.of g3) ex ?_;clear ex mx g3 g2;exists fg λl1 H4 s4 n4 g4=>?_
 exists ⟨b,8,rfl,B3.same s4,by decide,by decide,λt H5 t0 t1 B5 u5=>?_⟩;have g5:=u5.other (λz=>B3.at (by rw[<- z];exact n4)) g4;obtain ⟨x,ex,mx,_⟩:=sO (xs:=[V.int 0,V.int 1,V.int 1,V.int 1,V.int 2,V.int 2,V.int 3,V.int 4]) t0 (by simpa using t1)
 obtain ⟨o,rfl,ho⟩:∃z:Nat,x=.int z/\z<=4:=by
  simp only[aw,aE,or_false] at mx;rcases mx with rfl | rfl | rfl | rfl | rfl | rfl | rfl | rfl
  ·exact ⟨0,rfl,by decide⟩
  ·exact ⟨1,rfl,by decide⟩
  ·exact ⟨1,rfl,by decide⟩
  ·exact ⟨1,rfl,by decide⟩
  ·exact ⟨2,rfl,by decide⟩
  ·exact ⟨2,rfl,by decide⟩
  ·exact ⟨3,rfl,by decide⟩
  ·exact ⟨4,rfl,by decide⟩
 exists bS (bo.of g5) ex ?_;clear ex mx g5 g4;have u15:=(((u1.same s2).trans u3).same s4).trans u5;exists ⟨λσ' H'=>(∃i o:Nat,σ'=[some (.ref b),some (.int n),some (.int i),some (.int o),none]/\i<=4/\o<=4/\(n=5->i<=2/\o<=2))/\lK H' b/\dB b H H',?_,?_⟩
 ·exists jc (λh0=>?_) (λh0=>?_)
  ·exists ⟨⟨min i 2,min o 2,?_,by lia,by lia,λ_=>⟨by lia,by lia⟩⟩,B5,u15⟩;have e1:(if (2:Int) < (i:Int) then (2:Int) else (i:Int))=((min i 2:Nat):Int):=by split <;> lia
   have e2:(if (2:Int) < (o:Int) then (2:Int) else (o:Int))=((min o 2:Nat):Int):=by split <;> lia
   rw[<- e1,<- e2];rfl
  ·exists ⟨⟨i,o,rfl,hi,ho,λz=>absurd (decide_eq_true (show (n:Int)=5 by lia)) h0⟩,B5,u15⟩
 clear hi ho u15 B5 u5 u3 u1;rintro σ' H5 ⟨⟨i,o,rfl,hi,ho,h5⟩,B5,u5⟩;exists fg λl2 H6 s6 n6 g6=>?_
 exists ⟨b,4,rfl,B5.same s6,by decide,by decide,λv H7 v0 v1 B7 u7=>?_⟩;have g7:=u7.other (λz=>B5.at (by rw[<- z];exact n6)) g6;obtain ⟨x,ex,mx,_⟩:=sO (xs:=[V.int 4,V.int 4,V.int 9,V.int 1000]) v0 (by simpa using v1)
 obtain ⟨w,rfl,hw⟩:∃w:Nat,x=.int w/\(w=4\/w=9\/w=1000):=by
  simp only[aw,aE,or_false] at mx;rcases mx with rfl | rfl | rfl | rfl
  ·exact ⟨4,rfl,.inl rfl⟩
  ·exact ⟨4,rfl,.inl rfl⟩
  ·exact ⟨9,rfl,.inr (.inl rfl)⟩
  ·exact ⟨1000,rfl,.inr (.inr rfl)⟩
 exists bS (bo.of g7) ex ?_;have u07:=(u5.same s6).trans u7;exists ⟨λσ' H'=>(∃n:Nat,σ'=[some (.ref b),some (.int n),some (.int i),some (.int o),some (.int w)]/\n<=5/\(w=4\/w=9\/(w=1000/\n<=2))/\(n=5->i<=2/\o<=2))/\lK H' b/\dB b H H',?_,?_⟩
 ·exists jc (λh0=>?_) (λh0=>?_)
  ·exists ⟨⟨min n 2,?_,by lia,by lia,λz=>by lia⟩,B7,u07⟩;have e1:(if (2:Int) < (n:Int) then (2:Int) else (n:Int))=((min n 2:Nat):Int):=by split <;> lia
   rw[<- e1];rfl
  ·exists ⟨⟨n,rfl,n5,?_,h5⟩,B7,u07⟩;rcases hw with z | z | z
   ·exact .inl z
   ·exact .inr (.inl z)
   ·exact absurd (decide_eq_true (show (9:Int) < (w:Int) by lia)) h0
 ·clear h5 n5;rintro σ' H8 ⟨⟨n',rfl,n5,hwn,h5⟩,B8,u8⟩;exists cM λr H9 s9 g9=>?_
  exact k r n' i o w H9 g9 n5 hi ho hwn h5 (B8.same s9) (u8.same s9)
theorem nR:sC ["_law_top","_law_bottom","_law_one","_law_other"] 2 tX:=by walk_at "d"
theorem gB (T:Txt K mg Z):T.dY.o P w base 1 Qm:=by
 refine T.dY.F.k nR ?_;walk_at "i";obtain ⟨t,b,rfl,hb,hs,k⟩:=h
 refine ⟨_,(ak (fo 2 nR.nd (bf zO (by rfl) T.abs PyProof.Rows.boot_abs (df bH)))
  (ak (fo 3 nR.nd cz)
  (ak (uJ PassesOwn.never (aW wC eE aj (bg _))
   (au (LJ (i:=2) (j:=3) rfl nR.nd rfl rfl (by decide) rfl rfl (cB (br oQ jB eE) eE) rfl)))
  (au (aN (dW (cB (br jK bH jB) (br jK cz jB)))))))),?_⟩
 walk_at "s";walk_at "w"
 refine xC (λσ' H'=>∃(u v:Int),σ'=[some (.int t),some (.int b),some (.int u),some (.int v)]/\H'=H/\0<=u/\0 < v/\Int.gcd u v=Int.gcd t b) (λσ' _=>match σ' with | [_,_,some (.int u),_]=>u.natAbs | _=>0) ⟨_,b,rfl,rfl,by split <;> lia,hb,by
  split
  ·rw[Int.neg_gcd]
  ·rfl⟩ ?_
 rintro σ' H' ⟨u,v,rfl,rfl,hu,hv,hg⟩;exists jc (λh=>?_) (λh=>?_)
 ·have hu0:u≠0:=λz=>by subst z;simp at h
  exists eZ (show (0:Int) < u by lia) ?_;walk_at "w";have h1:=mM v hu0;have h2:=jg v (show 0 < u by lia);exact ⟨⟨v % u,u,rfl,rfl,h1,by lia,by rw[k9,Ms,k9];exact hg⟩,by show (v % u).natAbs < u.natAbs;lia⟩
 ·have hu0:u=0:=by
   by_cases z:u=0
   ·exact z
   ·exfalso;apply h;simp [z]
  subst hu0
  have e:v=g t b:=by
   unfold g;rw[<- hg,Int.gcd_zero_left]
   lia
  have hgs:Sz 8999 v:=hs.le (by
   rw[e];have h1:(g t b).natAbs=Int.gcd t b:=by unfold g;simp
   rw[h1];exact jA (by lia) (by have:=fL (a:=t) (b:=b);exact eQ.mpr this |> λz=>by simpa using z))
  exists eZ (show qW _ _ from ⟨by lia,hgs⟩) ?_;exists eZ (show qW _ _ from ⟨by lia,hgs⟩) ?_;exists cM λr H' s' h'=>?_
  rw[cp _ (by lia),cp _ (by lia),e] at h';exact k r H' s' h'
theorem rJ:sC ["_law_bag_here","_law_wide","_law_way"] 2 oK:=by walk_at "d"
theorem zh (T:Txt K mg Z):T.jU.o P w base 2 (yu K):=by
 refine T.jU.F.k rJ ?_;walk_at "i";obtain ⟨b,w,rfl,hB,w0,w1,k⟩:=h
 refine ⟨_,(ak (fo 2 rJ.nd (cA (b8 T) hr T.bJ (cB bH aj)))
  (ak (cW (aW nY eE aj (bg _)) (au (aN (dW (cB aj aj)))) bQ)
  (ak (cW (aW nY eE aj (bg _)) (au (aN (dW (cB (br ni (cA (b8 T) hr T.bJ (cB bH aj)) aj) aj)))) bQ)
  (ak (cW (aW gi eE aj (bg _)) (au (aN (cA (gB T) hr T.dY (cB (br ni (cA (b8 T) hr T.bJ (cB bH aj)) aj) (br fD aj (cA (b8 T) hr T.bJ (cB bH aj))))))) bQ)
  (au (aN (cA (gB T) hr T.dY (cB (br ni (cA (b8 T) hr T.bJ (cB bH (br fD (br cw aj cz) aj))) cz) (br fD aj (cA (b8 T) hr T.bJ (cB bH cz))))))))))),?_⟩
 walk_at "s";exists ⟨b,8,rfl,hB,by decide,by decide,λv H1 v0 v1 B1 u1=>?_⟩;exists jc (λh0=>?_) (λh0=>?_)
 ·exists cM λr H2 s2 g2=>?_
  exact k r 0 _ ⟨aS _,by show 1<=_;lia⟩ (cf.mk g2 rfl) (B1.same s2) (u1.same s2)
 exists jc (λh1=>?_) (λh1=>?_)
 ·exists ⟨b,7,rfl,B1,by decide,by decide,λa H2 a0 a1 B2 u2=>?_⟩;exists cM λr H3 s3 g3=>?_
  exact k r ((a - 3:Int):Rat) _ ⟨by show (a - 3).natAbs<=_;lia,by show 1<=_;lia⟩ (cf.mk g3 rfl) (B2.same s3) ((u1.trans u2).same s3)
 exists jc (λh2=>?_) (λh2=>?_)
 ·exists ⟨b,13,rfl,B1,by decide,by decide,λa H2 a0 a1 B2 u2=>?_⟩;exists ⟨b,6,rfl,B2,by decide,by decide,λc H3 c0 c1 B3 u3=>?_⟩;exists ⟨_,_,rfl,by lia,(Ld (by lia)).mono (by decide),λr H4 s4 g4=>?_⟩;obtain ⟨q,e,d,_⟩:=L8 (t:=a - 6) (b:=1+c) (W:=max w 6) (by lia) (by lia) (by lia);exact k r q _ d (cf.mk g4 e) (B3.same s4) (((u1.trans u2).trans u3).same s4)
 exists ⟨b,_,rfl,B1,by lia,by lia,λa H2 a0 a1 B2 u2=>?_⟩;exists ⟨b,_,rfl,B2,by lia,by lia,λc H3 c0 c1 B3 u3=>?_⟩;exists ⟨_,_,rfl,by lia,(Ld (by lia)).mono (by decide),λr H4 s4 g4=>?_⟩;obtain ⟨q,e,d,_⟩:=L8 (t:=a - w) (b:=1+c) (W:=max w 6) (by lia) (by lia) (by lia);exact k r q _ d (cf.mk g4 e) (B3.same s4) (((u1.trans u2).trans u3).same s4)
theorem EC:sC ["_law_bag_here","_law_many","_law_wide"] 3 tW:=by walk_at "d"
theorem wK (T:Txt K mg Z):T.jx.o P w base 3 (Et K):=by
 refine T.jx.F.k EC ?_;walk_at "i";obtain ⟨b,m,w,rfl,hB,hm,w0,w1,k⟩:=h;refine ⟨_,(au (aN (b7 ["_law_k"] ["_law_bag_here","_law_wide"] [0,2] (cF rfl T.range (df cz)) (λ_=>(fM 0)) (λ_=>cg) (λ_=>(cA (zh T) hr T.jU (cB cz eE)))))),?_⟩;walk_at "s";exists ⟨by lia,by lia,?_⟩;refine Kw (n:=m) (cf K) (Dr (max w 6)) hB hm (λa u B=>a.upto u B) ?_ ?_
 ·rintro i H' NY NN hi u B k1;exists ⟨b,w,rfl,B,w0,w1,λr x H2 hx h2 B2 u2=>k1 _ x _ u2 B2 hx h2⟩
 ·rintro ys cs H' p hp u B g lc hc pr nx;exact k p cs H' hp ⟨ys,g,pr⟩ lc hc B u
theorem jE:sC ["_law_bag_here","_law_n","_law_way","_law_first","_law_wide","_law_move_here","_law_i","_law_row_here","_law_j"] 5 rT:=by walk_at "d"
theorem C0 (T:Txt K mg Z):T.mG.o P w base 4 (El K):=by
 refine T.mG.F.k jE ?_;walk_at "i";obtain ⟨b,n,w,way,first,rfl,hB,n8,w0,w1,k⟩:=h
 refine ⟨_,(ak (fo 5 jE.nd (ib kz))
  (ak (fB PassesOwn.never rfl (cF rfl T.range (df cz)) (fM 6 jE.nd)
   (ak (fo 7 jE.nd (cA (wK T) hr T.jx (CP bH cz wY)))
  (ak (fB PassesOwn.never rfl (cF rfl T.range (df cz)) (fM 8 jE.nd)
   (fV (cW (PW.pt (gG (aW gi eE aj (bg _)) (gF (aW wD (cA (b8 T) hr T.bJ (cB bH aj)) aj (bg _))))) (au (fW (dW (cB aj aj)) (fX Aj D5 set_list))) bQ)
  (fV (cW (PW.pt (gG (aW gi eE aj (bg _)) (gF (aW nY (br fD uu aj) cz (bg _))))) (au (fW (dW (cB (iM v5 (by rfl) T.int PyProof.Rows.boot_int (df (jJ gi D5 (br fD uu aj) (bg _)))) aj)) (fX Aj D5 set_list))) bQ)
  (fV (cW (PW.pt (m6 (PW.pt (gG (aW gi eE aj (bg _)) (gG (aW yU uu jB (bg _)) (gF (aW nY D5 jB (bg _)))))) (jG (PW.pt (gG (aW gi eE aj (bg _)) (gG (aW nY uu jB (bg _)) (gF (aW yU D5 jB (bg _))))))))) (au (fW (dW (cB aj aj)) (fX Aj D5 set_list))) bQ)
  (au (cW (aW gi eE aj (bg _)) (au (fW (dW (cB (br cw (aL bC (ib (Oe aj aj (qS lU aj) aj)) (br oQ jB aj)) (iM v5 (by rfl) T.int PyProof.Rows.boot_int (df (jJ gi uu D5 (bg _))))) aj)) (fX Aj D5 set_list))) bQ))))))
  (au (je (By fJ fk fj mS z9 (df Aj)))))))
  (au (aN z9)))),?_⟩
 walk_at "s";have W1:1<=max w 6:=by lia
 exists fg λr H1 s1 n1 g1=>?_
 have rb:r≠b:=λz=>hB.at (by rw[<- z];exact n1)
 obtain ⟨q0,I0,xs0,gq0⟩:=hB.inner;have I1:Inner H1 b q0:=(s1.upto (p:=b)).2 _ I0;obtain ⟨A,eA⟩:∃A:Addr->Prop,A=λq=>H q=none/\q≠r:=⟨_,rfl⟩
 have nb:¬A b:=by rw[eA];exact λz=>hB.at z.1
 have nr:¬A r:=by rw[eA];exact λz=>z.2 rfl
 have nq:¬A q0:=by rw[eA];exact λz=>by have z1:=z.1;rw[gq0] at z1;cases z1
 have rq:r≠q0:=λz=>by rw[<- z,n1] at gq0;cases gq0
 exists ⟨by lia,by lia,?_⟩;refine eF (n:=n) (λi σ' H'=>∃(x1 x2 x3:Option V) (us:List V),σ'=[some (.ref b),some (.int n),some (.int way),some (.int first),some (.int w),some (.ref r),x1,x2,x3]/\H' r=some (.lst us)/\us.length=i/\us.Nodup/\(∀x∈us,gW K A H' n (Dr (max w 6)) x)/\lK H' b/\Inner H' b q0/\dB b H H') ⟨none,none,none,[],rfl,g1,rfl,ki,(λ_ z=>nomatch z),hB.same s1,I1,s1.upto⟩ ?_ ?_
 ·rintro i σ' H' hi ⟨x1,x2,x3,us,rfl,gu,lu,nd,ru,B',I',u'⟩;exists ⟨b,n,w,rfl,B',by lia,w0,w1,λp xs Ha np Ra la da Ba ua=>?_⟩;have hp0:H p=none:=u'.none B' np
  have pn:V.ref p∉us:=λz=>by
   obtain ⟨q',_,_,e',_,g',_⟩:=(ru _ z).at;cases e';rw[np] at g';cases g'
  have ap':H p=none/\p≠r:=⟨hp0,λz=>by rw[z,gu] at np;cases np⟩;have ap:A p:=by rw[eA];exact ap'
  have X0:Jv K A n (Dr (max w 6)) r p b q0 us H Ha:=⟨ua.other rb gu,λx hx=>(ru x hx).upto ua B' nb,⟨p,xs,rfl,ap,Ra,la,da⟩,Ba,ua.2 _ I',u'.trans ua⟩;clear ru Ra gu;exists ⟨by lia,by lia,?_⟩;refine eF (n:=n) (λj σ' H'=>(∃x3,σ'=[some (.ref b),some (.int n),some (.int way),some (.int first),some (.int w),some (.ref r),some (.int i),some (.ref p),x3])/\Jv K A n (Dr (max w 6)) r p b q0 us H H') ⟨⟨_,rfl⟩,X0⟩ ?_ ?_
  ·rintro j σ' Hj hj ⟨⟨x3,rfl⟩,X⟩;exists ⟨λσ' H'=>σ'=[some (.ref b),some (.int n),some (.int way),some (.int first),some (.int w),some (.ref r),some (.int i),some (.ref p),some (.int j)]/\Jv K A n (Dr (max w 6)) r p b q0 us H H',?_,?_⟩
   ·exists jc (λ_=>?_) (λ_=>?_)
    ·exists ⟨b,3,rfl,X.bag,by decide,by decide,λd Hd d0 d1 Bd ud=>?_⟩;replace X:=X.upto ud Bd nb rb
     repeat' (first | walk_at "rd" | refine jc (λ_=>?_) (λ_=>?_))
     all_goals first
      | exact ⟨rfl,X⟩
      | (refine cM λt Hb sb gb=>?_;walk_at "w";obtain ⟨zs,gz,lz,Xz⟩:=(X.same sb).put ap nr nb nq hp0 (cf.mk (q:=0) gb rfl) (sI (i:=0) (aS _) W1) j;refine d9 gz (eN (by lia)) rfl ?_;exact ⟨rfl,Xz⟩)
    ·exists ⟨rfl,X⟩
   clear X;rintro σ' Hj ⟨rfl,X⟩;refine ⟨λσ' H'=>σ'=[some (.ref b),some (.int n),some (.int way),some (.int first),some (.int w),some (.ref r),some (.int i),some (.ref p),some (.int j)]/\Jv K A n (Dr (max w 6)) r p b q0 us H H',?_,?_⟩
   ·repeat' (first | walk_at "rd" | refine jc (λ_=>?_) (λ_=>?_))
    all_goals first
     | exact ⟨rfl,X⟩
     | (refine cM λt Hb sb gb=>?_;walk_at "w";obtain ⟨zs,gz,lz,Xz⟩:=(X.same sb).put ap nr nb nq hp0 (cf.mk (q:=((if decide ((j:Int)=(i:Int)+1)=true then (1:Int) else 0:Int):Rat)) gb rfl) (sI (by split <;> lia) W1) j;refine d9 gz (eN (by lia)) rfl ?_;exact ⟨rfl,Xz⟩)
   clear X;rintro σ' Hj ⟨rfl,X⟩;refine ⟨λσ' H'=>σ'=[some (.ref b),some (.int n),some (.int way),some (.int first),some (.int w),some (.ref r),some (.int i),some (.ref p),some (.int j)]/\Jv K A n (Dr (max w 6)) r p b q0 us H H',?_,?_⟩
   ·repeat' (first | walk_at "rd" | refine jc (λ_=>?_) (λ_=>?_))
    all_goals first
     | exact ⟨rfl,X⟩
     | (refine cM λt Hb sb gb=>?_;walk_at "w";obtain ⟨zs,gz,lz,Xz⟩:=(X.same sb).put ap nr nb nq hp0 (cf.mk (q:=0) gb rfl) (sI (i:=0) (aS _) W1) j;refine d9 gz (eN (by lia)) rfl ?_;exact ⟨rfl,Xz⟩)
   clear X;rintro σ' Hj ⟨rfl,X⟩;exists jc (λ_=>?_) (λ_=>?_)
   ·exists fg λl0 Hc sc nc gc=>?_
    walk_at "w";obtain ⟨x,ex,mx,_⟩:=sO (xs:=[V.int 2,V.int 1,V.int (-1),V.int 0]) (i:=first % 4) (mM _ (by decide)) (by have:=jg first (show (0:Int) < 4 by decide);simpa using this)
    obtain ⟨z,rfl,hz⟩:∃z:Int,x=.int z/\z.natAbs<=2:=by
     simp only[aw,aE,or_false] at mx;rcases mx with rfl | rfl | rfl | rfl
     ·exact ⟨2,rfl,by decide⟩
     ·exact ⟨1,rfl,by decide⟩
     ·exact ⟨-1,rfl,by decide⟩
     ·exact ⟨0,rfl,by decide⟩
    refine bS (bo.of gc) ex ?_;exists eZ (Jn (by lia) (by lia)) ?_;exists cM λt Hb sb gb=>?_
    walk_at "w";obtain ⟨zs,gz,lz,Xz⟩:=((X.same sc).same sb).put ap nr nb nq hp0 (cf.mk (q:=((z*(if decide ((i:Int)=(j:Int))=true then (1:Int) else 0):Int):Rat)) gb rfl) (sI (by split <;> lia) W1) j;refine d9 gz (eN (by lia)) rfl ?_;exact ⟨⟨_,rfl⟩,Xz⟩
   ·exists ⟨⟨_,rfl⟩,X⟩
  ·rintro σ' Hj ⟨⟨x3,rfl⟩,X⟩;exists ⟨.inl ⟨rfl,_,bo.of X.gr⟩,?_⟩;exists mQ X.gr (dF (by lia)) ?_;refine ⟨_,_,_,us++[.ref p],rfl,az,by simp [lu],zj nd pn,λx hx=>?_,X.bag.upd X.inn rb rq,X.inn.upd rb,X.up.after n1⟩;rcases ay.mp hx with hx | hx
   ·exact (X.ru x hx).other X.gr nr
   ·have e:x=V.ref p:=by simpa using hx
    rw[e];exact X.rp.other X.gr nr
 ·rintro σ' H' ⟨x1,x2,x3,us,rfl,gu,lu,nd,ru,B',I',u'⟩;exists k r us H' n1 gu lu nd (by rw[eA] at ru;exact ru) B' u'
theorem EB:sC ["_law_one","_law_other"] 2 tV:=by walk_at "d"
theorem nZ (T:Txt K mg Z):T.iL.o P w base 2 (mW K (λx y=>x+y)):=by
 refine T.iL.F.ok EB (λvs H Q E h=>?_) (λcdv A outer s H vs Q E hr h=>?_)
 ·obtain ⟨p,q,a,b,c,d,rfl,hp,hq,hb,hd,sa,sb,sc,sd,k⟩:=xT h;rfl
 ·obtain ⟨p,q,a,b,c,d,rfl,hp,hq,hb,hd,sa,sb,sc,sd,k⟩:=xT h;refine ⟨_,(au (aN (cA (gB T) hr T.dY (cB (br fD (br cw (aL bE bH aj) (aL bE cz aj)) (br cw (aL bE cz aj) (aL bE bH aj))) (br cw (aL bE bH aj) (aL bE cz aj)))))),?_⟩;refine lg (σ:=[some (.ref p),some (.ref q)]) rfl ?_;have hbd:0 < b*d:=fw hb hd;have sbd:Sz 8999 (b*d):=(sb.mul sd).mono (by decide);exists eZ (show eK _ _ from .inr ⟨_,_,sa,sd,by decide⟩) ?_;exists eZ (show eK _ _ from .inr ⟨_,_,sc,sb,by decide⟩) ?_;exists eZ (show eK _ _ from .inr ⟨_,_,sb,sd,by decide⟩) ?_;walk_at "w";exists ⟨_,_,rfl,hbd,sbd,k⟩
theorem Cw:sC ["_law_one","_law_other"] 2 rS:=by walk_at "d"
theorem CZ (T:Txt K mg Z):T.mF.o P w base 3 (yt K):=by
 refine T.mF.F.k Cw ?_;walk_at "i";obtain ⟨p,q,xs,ys,rfl,hp,hq,hl,hz,h1,h2,kk⟩:=h;refine ⟨_,(au (aN (b7 ["_law_k"] ["_law_one","_law_other"] [0,1] (cF rfl T.range (df (bf aU (by rfl) T.len aQ (df bH)))) (λ_=>(fM 0)) (λ_=>cg) (λ_=>(cA (nZ T) hr T.iL (cB (aL (lE K (by rfl)) cz bH) (aL (lE K (by rfl)) eE bH))))))),?_⟩;walk_at "s";obtain ⟨us,gu,qu⟩:=id hp;obtain ⟨ws,gw,qw⟩:=id hq;have lu:=qu.length;exists ⟨_,_,rfl,.inl (bo.of gu),?_⟩;exists ⟨by lia,by lia,?_⟩;refine kG (n:=us.length) (cf K) (λi=>xs.getD i 0+ys.getD i 0) (by lia) (λa b=>a.same b) ?_ ?_
 ·rintro i H' NY NN hi s k1;have ix:i < xs.length:=by lia
  have iy:i < ys.length:=by lia
  obtain ⟨vx,ex,nx⟩:=F5 (Paired.imp' (λ_ _ z=>z.same s) qu) ix;obtain ⟨vy,ey,ny⟩:=F5 (Paired.imp' (λ_ _ z=>z.same s) qw) iy;exists bS (bo.of (s _ _ gu)) ex ?_;exists bS (bo.of (s _ _ gw)) ey ?_;exists ⟨_,_,_,_,rfl,nx,ny,h1 _ (getD_mem ix),h2 _ (getD_mem iy),λr3 H3 s3 n3=>k1 _ _ s3 n3⟩
 ·rintro ys' H' l hl' s g pr nx;exact kk l H' hl' s ⟨ys',g,by rw[JB (by lia)];rw[<- lu] at pr;exact pr⟩
theorem Cv:sC ["_law_one","_law_other"] 2 rR:=by walk_at "d"
theorem mC (T:Txt K mg Z):T.gN.o P w base 2 (mW K (λx y=>x*y)):=by
 refine T.gN.F.ok Cv (λvs H Q E h=>?_) (λcdv A outer s H vs Q E hr h=>?_)
 ·obtain ⟨p,q,a,b,c,d,rfl,hp,hq,hb,hd,sa,sb,sc,sd,k⟩:=xK h;rfl
 ·obtain ⟨p,q,a,b,c,d,rfl,hp,hq,hb,hd,sa,sb,sc,sd,k⟩:=xK h;refine ⟨_,(au (aN (cA (gB T) hr T.dY (cB (br cw (aL bE bH aj) (aL bE cz aj)) (br cw (aL bE bH aj) (aL bE cz aj)))))),?_⟩;refine lg (σ:=[some (.ref p),some (.ref q)]) rfl ?_;have hbd:0 < b*d:=fw hb hd;have sbd:Sz 8999 (b*d):=(sb.mul sd).mono (by decide);exists eZ (show eK _ _ from .inr ⟨_,_,sa,sc,by decide⟩) ?_;exists eZ (show eK _ _ from .inr ⟨_,_,sb,sd,by decide⟩) ?_;walk_at "w";exists ⟨_,_,rfl,hbd,sbd,k⟩
theorem GH:sC ["_law_by_here","_law_row_here"] 2 vN:=by walk_at "d"
theorem ug (T:Txt K mg Z):T.kC.o P w base 3 (GB K):=by
 refine T.kC.F.k GH ?_;walk_at "i";obtain ⟨u,q,c,ys,rfl,hc,sc,hq,hz,h2,kk⟩:=h;refine ⟨_,(au (aN (b7 ["_law_one"] ["_law_by_here"] [0] (cL cz) (λ_=>(fM 0)) (λ_=>cg) (λ_=>(cA (mC T) hr T.gN (cB cz bH)))))),?_⟩;walk_at "s";obtain ⟨us,gu,qu⟩:=id hq;exists ⟨⟨_,bo.of gu⟩,?_⟩;refine dH (K:=K) (F:=cf K) (cf K) (λy=>c*y) gu qu hz (λa b=>a.same b) (λa b=>a.same b) ?_ ?_
 ·rintro i y x H' NY NN en s hx k;exists ⟨_,_,_,_,rfl,hc.same s,hx,sc,h2 y (ai en),λr H2 s2 h2'=>k _ _ s2 h2'⟩
 ·rintro ys' H' r hr s g pr nx;exact kk r H' hr s ⟨ys',g,pr⟩
theorem dR:sC ["_law_bag_here","_law_move_here","_law_put","_law_look","_law_n","_law_turn","_law_i","_law_j","_law_by_here","_law_less_here","_law_row_here"] 4 qg:=by walk_at "d"
theorem As (T:Txt K mg Z):T.kS.o P w base 4 (Bn K):=by
 refine T.kS.F.k dR ?_;walk_at "i";obtain ⟨b,m,p,l,q0,n,WV,μ,A,us,ws,vs,rfl,MA,X,n8,i4,o4,M0,M1,⟨M,eM⟩,V1,hA,k⟩:=h
 refine ⟨_,(ak (fo 4 dR.nd (bf aU (by rfl) T.len aQ (df cz)))
  (ak (cW (PW.pt (m6 (aW nY wY aj (bg _)) (jG (aW gi (cA (b8 T) hr T.bJ (cB bH aj)) aj (bg _))))) (au (aN (dW (CP cz eE jB)))) bQ)
  (ak (fB PassesOwn.never rfl (cF rfl T.range (df (br fD aj (cA (b8 T) hr T.bJ (cB bH aj))))) (fM 5 dR.nd)
   (ak (fo 6 dR.nd (cA (b8 T) hr T.bJ (cB bH wY)))
  (ak (fo 7 dR.nd (br oQ (br fD (br fD uu aj) (cA (b8 T) hr T.bJ (cB bH (br ni wY aj)))) wY))
  (ak (fo 8 dR.nd (dW (cB (aL bC (ib (Oe aj (qS lU aj) aj (qS lU aj))) (cA (b8 T) hr T.bJ (cB bH aj))) aj)))
  (ak (fo 9 dR.nd (dW (cB (br ni aj (aL bE D5 aj)) aj)))
  (ak (fW (cA (CZ T) hr T.mF (cB (aL bC cz uu) (cA (ug T) hr T.kC (cB D5 (aL bC cz Aj))))) (fX cz uu set_list))
  (ak (fB PassesOwn.never rfl (cL (br oR cz jB)) (fM 10 dR.nd)
   (au (fW (cA (nZ T) hr T.iL (cB (aL bC (pv 10) Aj) (cA (mC T) hr T.gN (cB (pv 9) (aL bC (pv 10) uu))))) (fX (pv 10) Aj set_list))))
  (au (fB PassesOwn.never rfl (cL eE) (fM 10 dR.nd)
   (au (fW (cA (nZ T) hr T.iL (cB (aL bC (pv 10) uu) (cA (mC T) hr T.gN (cB D5 (aL bC (pv 10) Aj))))) (fX (pv 10) uu set_list))))))))))))
  (au (aN (dW (CP cz eE jB))))))),?_⟩
 walk_at "s";have done:∀r us' H' t,t<=3->H' r=some (.tup [.ref m,.ref p,.ref l])->j8 K A H' n (λx=>Fr (μ x) (9^t*WV)) m p l b q0 us' ws vs->iT A b m H H'->Q (.ref r) H':=λr us' H' t ht g x kp=>k r us' H' g (x.weak λ_ _ y h=>h.mono (ax _ (ar (by decide) ht))) kp
 have X0:j8 K A H n (λx=>Fr (μ x) (9^0*WV)) m p l b q0 us ws vs:=X.weak λ_ _ y h=>h.mono (by simp)
 clear X k;have gu:=X0.gm;have lu:=X0.lm;exists ⟨_,_,rfl,.inl (bo.of gu),?_⟩;rw[lu];clear gu lu;have kp0:iT A b m H H:=λ_ _ h _ _ _=>h
 exists jc (λh0=>?_) (λh0=>?_)
 ·exists cM λr H' s' g'=>?_
  exact done r us H' 0 (by decide) g' (X0.same s') (kp0.same s')
 have n2:2<=n:=by
  rcases aY n 2 with z | z
  ·exact absurd (decide_eq_true (show (n:Int) < 2 by lia)) h0
  ·exact z
 exists ⟨b,2,rfl,X0.bag,by decide,by decide,λv H1 v0 v1 B1 u1=>?_⟩;have X1:=X0.upto MA u1 B1;have kp1:=kp0.upto u1;exists jc (λh1=>?_) (λh1=>?_)
 ·exists cM λr H' s' g'=>?_
  exact done r us H' 0 (by decide) g' (X1.same s') (kp1.same s')
 exists ⟨b,3,rfl,B1,by decide,by decide,λc H2 c0 c1 B2 u2=>?_⟩;have X2:=X1.upto MA u2 B2;have kp2:=kp1.upto u2;clear X0 X1 kp0 kp1 u1 u2 B1;exists ⟨by lia,by lia,?_⟩;refine eF (n:=(1+c).toNat) (λt σ' H'=>∃(x1 x2 x3 x4 x5 x6:Option V) (us:List V),σ'=[some (.ref b),some (.ref m),some (.ref p),some (.ref l),some (.int n),x1,x2,x3,x4,x5,x6]/\j8 K A H' n (λx=>Fr (μ x) (9^t*WV)) m p l b q0 us ws vs/\iT A b m H H') ⟨none,none,none,none,none,none,us,rfl,X2,kp2⟩ ?_ ?_
 ·rintro t σ' H' ht ⟨x1,x2,x3,x4,x5,x6,us,rfl,X,kp⟩;have t3:t<=2:=by lia
  exists ⟨b,n,rfl,X.bag,by lia,by lia,λii Ha i0 i1 Ba ua=>?_⟩;obtain ⟨ii,rfl⟩:=wX i0;have Xa:=X.upto MA ua Ba;have kpa:=kp.upto ua;exists ⟨b,_,rfl,Ba,by lia,by lia,λd Hb d0 d1 Bb ub=>?_⟩;have Xb:=Xa.upto MA ub Bb;have kpb:=kpa.upto ub;exists eZ (show (0:Int) < n by lia) ?_;have j0:=mM ((ii:Int)+1+d) (show (n:Int)≠0 by lia);have j1:=jg ((ii:Int)+1+d) (show (0:Int) < n by lia);generalize ((ii:Int)+1+d) % (n:Int)=jj at j0 j1 ⊢;obtain ⟨jj,rfl⟩:=wX j0;exists fg λl0 Hc sc nc gc=>?_
  exists ⟨b,4,rfl,Bb.same sc,by decide,by decide,λv' Hd v0' v1' Bd ud=>?_⟩;have gd:=ud.other (λz=>Bb.at (by rw[<- z];exact nc)) gc;obtain ⟨x,ex,mx,_⟩:=sO (xs:=[V.int 1,V.int (-1),V.int 2,V.int (-2)]) v0' (by simpa using v1')
  obtain ⟨z,rfl,hz⟩:∃z:Int,x=.int z/\z.natAbs<=2:=by
   simp only[aw,aE,or_false] at mx;rcases mx with rfl | rfl | rfl | rfl
   ·exact ⟨1,rfl,by decide⟩
   ·exact ⟨-1,rfl,by decide⟩
   ·exact ⟨2,rfl,by decide⟩
   ·exact ⟨-2,rfl,by decide⟩
  have Xd:=(Xb.same sc).upto MA ud Bd;have kpd:=(kpb.same sc).upto ud;exists bS (bo.of gd) ex ?_;exists cM λbt He se ge=>?_
  exists cM λlt Hf sf gf=>?_
  have Xf:=(Xd.same se).same sf;have kpf:=(kpd.same se).same sf;have nb:cf K Hf ((z:Int):Rat) (.ref bt):=cf.mk (sf _ _ ge) rfl;have nl:cf K Hf ((0 - z:Int):Rat) (.ref lt):=cf.mk gf rfl;clear X Xa Xb Xd kp kpa kpb kpd ua ub ud sc gc gd ex mx ge gf se sf Ba Bb Bd nc;have gu:=Xf.gm;have lu:=Xf.lm
  have ru:∀x∈us,gW K A Hf n (Fr M (9^t*WV)) x:=λx hx=>by
   have:=Xf.row x (by simp [hx]);rwa [eM x (Xf.apart.1 x hx).1 (Xf.apart.1 x hx).2] at this
  have hM:0 < M/\M<=2^800:=by
   have hx:us[ii]'(by lia)∈us:=aF _;have:=eM _ (Xf.apart.1 _ hx).1 (Xf.apart.1 _ hx).2;rw[<- this];exact ⟨M0 _,M1 _⟩
  have e1:us[ii]?=some (us[ii]'(by lia)):=by simp
  have e2:us[jj]?=some (us[jj]'(by lia)):=by simp
  obtain ⟨q1,z1,qs1,w1,a1,g1,k1,p1,l1,c1⟩:=(ru _ (ai e1)).at;obtain ⟨q2,z2,qs2,w2,a2,g2,k2,p2,l2,c2⟩:=(ru _ (ai e2)).at;rw[w1] at e1;rw[w2] at e2;generalize eW:9^t*WV=W at *
  have W9:9*W<=2^140:=by rw[<- eW];exact N7 (by lia) V1 (by decide)
  have sz9M:∀{x:Rat} {U:Nat},U<=9*W->Fr M U x->kd x:=λhU h=>Je hM.1 hM.2 (af hU W9) h
  have sz9:∀{x:Rat} {U:Nat} {v:V},U<=9*W->Fr (μ v) U x->kd x:=λhU h=>Je (M0 _) (M1 _) (af hU W9) h
  exists bS (bo.of gu) (dE e1) ?_;exists bS (bo.of gu) (dE e2) ?_;exists ⟨_,q2,_,qs2,rfl,nb,Ce (by lia),⟨z2,g2,p2⟩,by lia,λy hy=>sz9M (by lia) (c2 y hy),λr1 Hg n1 sg R1=>?_⟩;exists ⟨q1,r1,qs1,_,rfl,⟨z1,sg _ _ g1,Paired.imp' (λ_ _ y=>y.same sg) p1⟩,R1,by rw[ag,l1,l2],by lia,λy hy=>sz9M (by lia) (c1 y hy),λy hy=>?_,λr2 Hh n2' sh R2=>?_⟩
  ·obtain ⟨y',hy',rfl⟩:=av.mp hy;exact yf hz (c2 y' hy') hM.1 hM.2 (by lia)
  have sfh:=sg.trans sh
  have new:V.ref r2∉us++vs++ws:=λz=>by
   obtain ⟨q',_,_,e',_,g',_⟩:=((Xf.same sg).row _ z).at;cases e';rw[n2'] at g';cases g'
  have Xh:=(Xf.same sfh).weak (C':=λx y=>(x∈ws->Fr (μ x) W y)/\Fr (μ x) (3*W) y) λx _ y h=>⟨λ_=>h,h.mono (by lia)⟩
  have kph:=kpf.same sfh;have guh:=sfh _ _ gu;have ar2:A r2:=(kpf.same sg).new hA (Xf.same sg).bag (by rw[sg _ _ gu];simp) n2'
  have rp2:gW K A Hh n (λy=>(V.ref r2∈ws->Fr (μ (.ref r2)) W y)/\Fr (μ (.ref r2)) (3*W) y) (.ref r2):=by
   rw[eM (.ref r2) (λz=>new (ay.mpr (.inr z))) (λz=>new (ay.mpr (.inl (ay.mpr (.inr z)))))];refine ⟨r2,_,rfl,ar2,R2,by rw[aV,ag];lia,λy hy=>⟨λz=>absurd (ay.mpr (.inr z)) new,?_⟩⟩;obtain ⟨j',hj',e⟩:=bB hy;rw[fv,iV] at e;rw[<- e];exact Dg hz (c1 _ (aF _)) (c2 _ (aF _))
  exists d9 guh (eN (by lia)) rfl ?_;have Xi:=Xh.set MA rp2 new ii;have kpi:=kph.upd (o:=.lst (us.set ii (.ref r2))) (q:=m) (.inr rfl);have nli:cf K (upd Hh m (.lst (us.set ii (.ref r2)))) ((0 - z:Int):Rat) (.ref lt):=(nl.same sfh).updL guh;have nbi:cf K (upd Hh m (.lst (us.set ii (.ref r2)))) ((z:Int):Rat) (.ref bt):=(nb.same sfh).updL guh;generalize upd Hh m (.lst (us.set ii (.ref r2)))=Hi at Xi kpi nli nbi ⊢;generalize us.set ii (.ref r2)=um at Xi;clear nb nl Xf kpf gu ru e1 e2 g1 p1 g2 p2 R1 R2 Xh kph guh rp2 sg sh sfh new;have gm:=Xi.gm;have lm:=Xi.lm;have gl:=Xi.gl;have nd:=Xi.nd;obtain ⟨nd1,nd2,nd3⟩:=fK.mp nd;exists oP gm gl j7 λcl Hj sj nj gj=>?_
  have kpj:=kpi.same sj
  have rows:∀x∈um++vs,∀q,x=V.ref q->q≠cl:=λx hx q e y=>by
   obtain ⟨q',zs,_,e',_,g',_⟩:=(Xi.row x (ay.mpr (.inl hx))).at;rw[e] at e';cases e';rw[y,nj] at g';cases g'
  have Xj:=(Xi.same sj).weak (C':=λx y=>(x∈ws->Fr (μ x) W y)/\(x∈(um++vs).drop 0->Fr (μ x) (3*W) y)/\Fr (μ x) (9*W) y) λx _ y h=>⟨h.1,λ_=>h.2,h.2.mono (by lia)⟩
  have lj:cf K Hj ((0 - z:Int):Rat) (.ref lt):=nli.same sj;have bj:cf K Hj ((z:Int):Rat) (.ref bt):=nbi.same sj;clear Xi kpi nli nbi;refine ⟨_,rfl,⟨_,bo.of gj⟩,?_⟩;refine sH (K:=K) (a:=cl) (xs:=um++vs) (λs σ' H'=>∃x6:Option V,σ'=[some (.ref b),some (.ref m),some (.ref p),some (.ref l),some (.int n),some (.int t),some (.int ii),some (.int jj),some (.ref bt),some (.ref lt),x6]/\j8 K A H' n (λx y=>(x∈ws->Fr (μ x) W y)/\(x∈(um++vs).drop s->Fr (μ x) (3*W) y)/\Fr (μ x) (9*W) y) m p l b q0 um ws vs/\iT A b m H H'/\H' cl=some (.lst (um++vs))/\cf K H' ((0 - z:Int):Rat) (.ref lt)/\cf K H' ((z:Int):Rat) (.ref bt)) ⟨_,rfl,Xj,kpj,gj,lj,bj⟩ (λs σ' H' _ ⟨_,_,_,_,e,_⟩=>bo.of e) ?_ ?_
  ·rintro s x σ' Hk hx ⟨y6,rfl,Xk,kpk,gk,lk,bk⟩;have hs:s < (um++vs).length:=(aG.mp hx).1;have mx:=ai hx
   have xd:x∈(um++vs).drop s:=by
    rw[dC hs,(aG.mp hx).2];exact .head _
   have xd2:x∉(um++vs).drop (s+1):=λz=>by
    have:=nd1.sublist (List.drop_sublist s _);rw[dC hs,cO,(aG.mp hx).2] at this;exact this.1 z
   have xw:x∉ws:=λz=>nd3 x mx x z rfl
   have rx:=Xk.row x (ay.mpr (.inl mx));obtain ⟨q,zs,qs,rfl,aq,gq,lq,pq,lq2,cq⟩:=rx.at;have qcl:=rows _ mx q rfl;obtain ⟨vj,ej,nj'⟩:=F5 pq (j:=jj) (by lia);obtain ⟨vi,ei,ni'⟩:=F5 pq (j:=ii) (by lia);have cj:=(cq _ (getD_mem (xs:=qs) (i:=jj) (by lia))).2.1 xd;have ci:=(cq _ (getD_mem (xs:=qs) (i:=ii) (by lia))).2.1 xd;exists bS (bo.of gq) ej ?_;exists bS (bo.of gq) ei ?_;exists ⟨_,_,_,_,rfl,lk,ni',Ce (by lia),sz9 (by lia) ci,λr3 Hl sl n3=>?_⟩;exists ⟨_,_,_,_,rfl,nj'.same sl,n3,sz9 (by lia) cj,yf (by lia) ci (M0 _) (M1 _) (by lia),λr4 Hm sm n4=>?_⟩;have slm:=sl.trans sm;exists d9 (slm _ _ gq) (eN (by lia)) rfl ?_;refine ⟨_,rfl,?_,(kpk.same slm).upd (.inl aq),by rw[aJ qcl.symm];exact slm _ _ gk,(lk.same slm).updL (slm _ _ gq),(bk.same slm).updL (slm _ _ gq)⟩;refine ((Xk.same slm).weak λx' _ y h=>⟨h.1,λz=>h.2.1 ?_,h.2.2⟩).put MA aq (slm _ _ gq) n4 ⟨λz=>absurd z xw,λz=>absurd z xd2,?_⟩ jj
   ·rw[dC hs];exact .tail _ z
   ·exact (Dg (by lia) cj ci).mono (by lia)
  ·rintro σ' Hk ⟨y6,rfl,Xk,kpk,gk,lk,bk⟩;have gp:=Xk.gp;have Xk2:=Xk.weak (C':=λx y=>(x∈ws.drop 0->Fr (μ x) W y)/\Fr (μ x) (9*W) y) λx _ y h=>⟨λz=>h.1 (by simpa using z),h.2.2⟩
   clear Xk;exists ⟨⟨_,bo.of gp⟩,?_⟩;refine sH (K:=K) (a:=p) (xs:=ws) (λs σ' H'=>∃x6:Option V,σ'=[some (.ref b),some (.ref m),some (.ref p),some (.ref l),some (.int n),some (.int t),some (.int ii),some (.int jj),some (.ref bt),some (.ref lt),x6]/\j8 K A H' n (λx y=>(x∈ws.drop s->Fr (μ x) W y)/\Fr (μ x) (9*W) y) m p l b q0 um ws vs/\iT A b m H H'/\cf K H' ((z:Int):Rat) (.ref bt)) ⟨_,rfl,Xk2,kpk,bk⟩ (λs σ' H' _ ⟨_,_,X,_⟩=>bo.of X.gp) ?_ ?_
   ·rintro s x σ' Hl hx ⟨w6,rfl,Xl,kpl,bl⟩;have hs:s < ws.length:=(aG.mp hx).1;have mx:=ai hx
    have xd:x∈ws.drop s:=by
     rw[dC hs,(aG.mp hx).2];exact .head _
    have xd2:x∉ws.drop (s+1):=λz=>by
     have:=nd2.sublist (List.drop_sublist s _);rw[dC hs,cO,(aG.mp hx).2] at this;exact this.1 z
    have rx:=Xl.row x (ay.mpr (.inr mx));obtain ⟨q,zs,qs,rfl,aq,gq,lq,pq,lq2,cq⟩:=rx.at;obtain ⟨vj,ej,nj'⟩:=F5 pq (j:=jj) (by lia);obtain ⟨vi,ei,ni'⟩:=F5 pq (j:=ii) (by lia);have cj:=(cq _ (getD_mem (xs:=qs) (i:=jj) (by lia))).1 xd;have ci:=(cq _ (getD_mem (xs:=qs) (i:=ii) (by lia))).1 xd;exists bS (bo.of gq) ei ?_;exists bS (bo.of gq) ej ?_;exists ⟨_,_,_,_,rfl,bl,nj',Ce (by lia),sz9 (by lia) cj,λr3 Hm sm n3=>?_⟩;exists ⟨_,_,_,_,rfl,ni'.same sm,n3,sz9 (by lia) ci,yf (by lia) cj (M0 _) (M1 _) (by lia),λr4 Hn sn n4=>?_⟩;have smn:=sm.trans sn;exists d9 (smn _ _ gq) (eN (by lia)) rfl ?_;refine ⟨_,rfl,?_,(kpl.same smn).upd (.inl aq),(bl.same smn).updL (smn _ _ gq)⟩;refine ((Xl.same smn).weak λx' _ y h=>⟨λz=>h.1 ?_,h.2⟩).put MA aq (smn _ _ gq) n4 ⟨λz=>absurd z xd2,?_⟩ ii
    ·rw[dC hs];exact .tail _ z
    ·exact (Dg (by lia) ci cj).mono (by lia)
   ·rintro σ' Hl ⟨w6,rfl,Xl,kpl,bl⟩;refine ⟨_,_,_,_,_,_,um,rfl,Xl.weak λ_ _ y h=>h.2.mono ?_,kpl⟩;rw[<- eW,cZ,aX (9^t) 9,bY];exact ah _
 ·rintro σ' H' ⟨x1,x2,x3,x4,x5,x6,us',rfl,X,kp⟩;exists cM λr H2' s' g'=>?_
  exact done r us' H2' _ (by lia) g' (X.same s') (kp.same s')
theorem dQ:sC ["_law_bag_here","_law_n","_law_ins","_law_outs","_law_wide","_law_way","_law_first","_law_move_here","_law_put","_law_look","_law_k","_law_row_here"] 5 qe:=by walk_at "d"
theorem Ar (T : Txt K mg Z) : T.kR.o P w base 5 (Bh K) := by
  have oj := b8 (P := P) (w := w) (base := base) T;have FZ := C0 (P := P) (w := w) (base := base) T;have zY := wK (P := P) (w := w) (base := base) T;have D3 := As (P := P) (w := w) (base := base) T;refine T.kR.F.k dQ ?_;walk_at "i";obtain ⟨b, n, i, o, w, c, rfl, hB, n8, i4, o4, w0, w1, hc, hc20, hcM, k⟩ := h
  refine ⟨_, (ak (fo 5 dQ.nd (cA oj hr T.bJ (cB bH aj)))
    (ak (fo 6 dQ.nd (cA oj hr T.bJ (cB bH (br fD cz aj))))
    (ak (fo 7 dQ.nd (cA FZ hr T.mG (fF bH (Oe cz z9 uu wY))))
    (ak (mB 8 ["_law_k"] ["_law_bag_here", "_law_n", "_law_wide"] [0, 1, 4] dQ.nd rfl rfl (cF rfl T.range (df eE)) (λ_ => (fM 0)) (λ_ => cg) (λ_ => (cA zY hr T.jx (CP cz eE jB))))
    (ak (mB 9 ["_law_k"] ["_law_bag_here", "_law_n", "_law_wide"] [0, 1, 4] dQ.nd rfl rfl (cF rfl T.range (df jB)) (λ_ => (fM 0)) (λ_ => cg) (λ_ => (cA zY hr T.jx (CP cz eE jB))))
    (ak (fB PassesOwn.never rfl (cF rfl T.range (df cz)) (fM 10 dQ.nd)
      (ak (fB PassesOwn.never rfl (cL D5) (fM 11 dQ.nd)
      (au (cW (PW.pt (m6 (PW.pt (gG (aW gi z9 aj (bg _)) (gF (aW yU (pv 10) uu (bg _))))) (jG (PW.pt (gG (aW gi z9 aj (bg _)) (gG (aW nY (br fD (pv 10) aj) cz (bg _)) (gF (aW gi (cA oj hr T.bJ (cB bH aj)) aj (bg _))))))))) (au (fW (dW (cB aj aj)) (fX (pv 11) (pv 10) set_list))) bQ)))
    (au (fB PassesOwn.never rfl (cL (pv 9)) (fM 11 dQ.nd)
      (au (cW (PW.pt (m6 (PW.pt (gG (aW gi z9 aj (bg _)) (gF (aW yU (pv 10) uu (bg _))))) (jG (PW.pt (gG (aW gi z9 aj (bg _)) (gG (aW wD (pv 10) aj (bg _)) (gF (aW gi (cA oj hr T.bJ (cB bH aj)) aj (bg _))))))))) (au (fW (dW (cB aj aj)) (fX (pv 11) (pv 10) set_list))) bQ))))))
    (au (aN (cA D3 hr T.kS (Oe bH Aj D5 (pv 9))))))))))), ?_⟩
  walk_at "s";have W1 : 1 ≤ max w 6 := by lia
  obtain ⟨q0, I0, xs0, gq0⟩ := hB.inner;exists ⟨b, 6, rfl, hB, by decide, by decide, λway H1 a0 a1 B1 u1 => ?_⟩;exists ⟨b, _, rfl, B1, by lia, by lia, λfirst H2 f0 f1 B2 u2 => ?_⟩;have u02 := u1.trans u2;exists ⟨b, n, w, way, first, rfl, B2, n8, w0, w1, λm us H3 nm0 gm lm ndm rm B3 u3 => ?_⟩;have u03 := u02.trans u3;exists ⟨by lia, by lia, ?_⟩;refine BQ (n := i) (b := b) (cS K H3) (λxs => xs.length = n /\ ∀ x ∈ xs, Dr (max w 6) x) B3 (by lia) (λa u B => a.upto u B B3.at) (λ⟨q, e, _, _, g, _⟩ => ⟨q, e, by rw [g]; exact λz => nomatch z⟩) ?_ ?_
  · rintro s H' NY NN hi u B k1;exists ⟨b, n, w, rfl, B, by lia, w0, w1, λr xs H2 nr R lx dx B2 u2 => k1 _ xs _ u2 B2 ⟨lx, dx⟩ ⟨r, rfl, u.none B nr, R⟩ ⟨r, rfl, nr⟩⟩
  rintro ws puts H4 p np u4 B4 gp lp ndp hp pr4 nx4;have u04 := u03.trans u4;exists ⟨by lia, by lia, ?_⟩;refine BQ (n := o) (b := b) (cS K H4) (λxs => xs.length = n /\ ∀ x ∈ xs, Dr (max w 6) x) B4 (by lia) (λa u B => a.upto u B B4.at) (λ⟨q, e, _, _, g, _⟩ => ⟨q, e, by rw [g]; exact λz => nomatch z⟩) ?_ ?_
  · rintro s H' NY NN hi u B k1;exists ⟨b, n, w, rfl, B, by lia, w0, w1, λr xs H2 nr R lx dx B2 u2 => k1 _ xs _ u2 B2 ⟨lx, dx⟩ ⟨r, rfl, u.none B nr, R⟩ ⟨r, rfl, nr⟩⟩
  rintro vs looks H5 l nl u5 B5 gl ll ndl hl pr5 nx5;have u05 := u04.trans u5;have hm0 : H m = none := u02.none B2 nm0;have hp0 : H p = none := u03.none B3 np;have hl0 : H l = none := u04.none B4 nl;have mb : m ≠ b := λz => B2.at (by rw [<- z]; exact nm0)
  have pb : p ≠ b := λz => B3.at (by rw [<- z]; exact np)
  have lb : l ≠ b := λz => B4.at (by rw [<- z]; exact nl)
  have gm4 := u4.other mb gm;have gm5 := u5.other mb gm4;have gp5 := u5.other pb gp;have mp : m ≠ p := λz => by rw [z, np] at gm; cases gm
  have ml : m ≠ l := λz => by rw [z, nl] at gm4; cases gm4
  have pl : p ≠ l := λz => by rw [z, nl] at gp; cases gp
  have mq : m ≠ q0 := λz => Inner.at B2 (u02.2 _ I0) (by rw [<- z]; exact nm0)
  obtain ⟨A, eA⟩ : ∃ A : Addr → Prop, A = λq => H q = none /\ q ≠ m /\ q ≠ p /\ q ≠ l := ⟨_, rfl⟩
  have mkA : ∀ {q}, H q = none → q ≠ m → q ≠ p → q ≠ l → A q := λh1 h2 h3 h4 => by rw [eA]; exact ⟨h1, h2, h3, h4⟩
  have unA : ∀ {q}, A q → H q = none /\ q ≠ m /\ q ≠ p /\ q ≠ l := λh => by rw [eA] at h; exact h
  have MA : Im A m p l b q0 := ⟨λz => (unA z).2.1 rfl, λz => (unA z).2.2.1 rfl, λz => (unA z).2.2.2 rfl, λz => hB.at (unA z).1, (λz => by have z1 := (unA z).1; rw [gq0] at z1; cases z1), mb, pb, lb, mp, ml, mq⟩;clear eA;have lws : ws.length = i := by rw [<- pr4.length]; exact lp
  have lvs : vs.length = o := by rw [<- pr5.length]; exact ll
  have alM : ∀ q, V.ref q ∈ us → H3 q ≠ none /\ q ≠ b /\ H4 q ≠ none := λq hq => by
    obtain ⟨q', qs, e, ⟨a1, a2⟩, r, z⟩ := rm _ hq;cases e;have qb : q ≠ b := λy => B2.at (by rw [<- y]; exact a1)
    obtain ⟨xq, gq, _⟩ := id r;obtain ⟨xq4, gq4, _⟩ := r.upto u4 B3 qb;exact ⟨(by rw [gq]; exact λz => nomatch z), qb, (by rw [gq4]; exact λz => nomatch z)⟩
  have alP : ∀ q, V.ref q ∈ ws → H3 q = none /\ H4 q ≠ none := λq hq => by
    obtain ⟨_, _, q', e, a, _, g, _⟩ := fe pr4 hq;cases e;exact ⟨a, by rw [g]; exact λz => nomatch z⟩
  have alL : ∀ q, V.ref q ∈ vs → H4 q = none := λq hq => by
    obtain ⟨_, _, q', e, a, _⟩ := fe pr5 hq;cases e;exact a
  have isR : ∀ x, x ∈ us \/ x ∈ ws \/ x ∈ vs → ∃ q, x = V.ref q := λx hx => by
    rcases hx with hx | hx | hx
    · obtain ⟨q, _, e, _⟩ := rm x hx; exact ⟨q, e⟩
    · obtain ⟨_, _, q, e, _⟩ := fe pr4 hx; exact ⟨q, e⟩
    · obtain ⟨_, _, q, e, _⟩ := fe pr5 hx; exact ⟨q, e⟩
  have nd : (us ++ vs ++ ws).Nodup := by
    refine fK.mpr ⟨fK.mpr ⟨ndm, ndl, λx hx y hy e => ?_⟩, ndp, λx hx y hy e => ?_⟩
    · subst e;obtain ⟨q, rfl⟩ := isR x (.inl hx);exact (alM q hx).2.2 (alL q hy)
    · subst e;obtain ⟨q, rfl⟩ := isR x (.inr (.inl hy));rcases ay.mp hx with hx | hx
      · exact (alM q hx).1 (alP q hy).1
      · exact (alP q hy).2 (alL q hx)
  have X5 : Ik K A n (Dr (max w 6)) m p l b q0 us ws vs H H5 := by
    refine ⟨⟨B5, u05.2 _ I0, gm5, gp5, gl, lm, λx hx => ?_, nd⟩, gp5, gl, λc u e n1 _ _ => u05.1 c u e n1⟩;rcases ay.mp hx with hx | hx
    · rcases ay.mp hx with hx | hx
      · obtain ⟨q, qs, e, ⟨a1, a2⟩, r, z⟩ := rm x hx;obtain ⟨xq, gq, _⟩ := id r;have qb : q ≠ b := λy => B2.at (by rw [<- y]; exact a1)
        have r4 := r.upto u4 B3 qb;obtain ⟨xq4, gq4, _⟩ := id r4;exact ⟨q, qs, e, mkA (u02.none B2 a1) a2 (λy => by rw [y, np] at gq; cases gq) (λy => by rw [y, nl] at gq4; cases gq4), r4.upto u5 B4 qb, z⟩
      · refine Lx (A := A) pr5 hl (λq hq a b' => ?_) x hx;exact mkA (u04.none B4 a) (λy => by rw [y, gm4] at a; cases a) (λy => by rw [y, gp] at a; cases a) (λy => ij nx5 (by rw [<- y]; exact hq))
    · refine gW.upto (Lx (A := A) pr4 hp (λq hq a b' => ?_) x hx) u5 B4 MA.ab;exact mkA (u03.none B3 a) (λy => by rw [y, gm] at a; cases a) (λy => ij nx4 (by rw [<- y]; exact hq)) (λy => b' (by rw [y]; exact nl))
  clear alM alP alL isR rm pr4 pr5 nx4 nx5 gm gm4 gm5 gp gp5 gl hp hl;exists ⟨by lia, by lia, ?_⟩;refine eF (n := n) (λkk σ' H' => (∃ x1 x2, σ' = [some (.ref b), some (.int n), some (.int i), some (.int o), some (.int w), some (.int way), some (.int first), some (.ref m), some (.ref p), some (.ref l), x1, x2]) /\ Ik K A n (Dr (max w 6)) m p l b q0 us ws vs H H') ⟨⟨_, _, rfl⟩, X5⟩ ?_ ?_
  · rintro kk σ' Hj hk ⟨⟨x1, x2, rfl⟩, X⟩;exists ⟨⟨_, bo.of X.gp⟩, ?_⟩;refine sH (K := K) (a := p) (xs := ws) (λs σ' H' => (∃ x2, σ' = [some (.ref b), some (.int n), some (.int i), some (.int o), some (.int w), some (.int way), some (.int first), some (.ref m), some (.ref p), some (.ref l), some (.int kk), x2]) /\ Ik K A n (Dr (max w 6)) m p l b q0 us ws vs H H') ⟨⟨_, rfl⟩, X⟩ (λs σ' H' _ ⟨_, e⟩ => bo.of e.gp) ?_ ?_
    · rintro s x σ' Hk hx ⟨⟨y2, rfl⟩, X⟩;have mx := ai hx;obtain ⟨q, _, rfl, _⟩ := X.row (.inl mx)
      repeat' (first | walk_at "rd" | refine jc (λ_ => ?_) (λ_ => ?_))
      all_goals first
        | exact ⟨⟨_, rfl⟩, X⟩
        | (refine cM λt Hb sb gb => ?_; walk_at "w"; obtain ⟨zs, gz, lz, Xz⟩ := (X.same sb).put MA (.inl mx) (cf.mk (q := 0) gb rfl) (sI (i := 0) (aS _) W1) kk; refine d9 gz (eN (by lia)) rfl ?_; exact ⟨⟨_, rfl⟩, Xz⟩)
        | (refine ⟨b, 2, rfl, X.mix.bag, by decide, by decide, λd Hd d0 d1 Bd ud => ?_⟩
           replace X := X.upto MA ud Bd
           repeat' (first | walk_at "rd" | refine jc (λ_ => ?_) (λ_ => ?_))
           all_goals first
             | exact ⟨⟨_, rfl⟩, X⟩
             | (refine cM λt Hb sb gb => ?_
                walk_at "w";obtain ⟨zs, gz, lz, Xz⟩ := (X.same sb).put MA (.inl mx) (cf.mk (q := 0) gb rfl) (sI (i := 0) (aS _) W1) kk;refine d9 gz (eN (by lia)) rfl ?_;exact ⟨⟨_, rfl⟩, Xz⟩))
    · rintro σ' Hk ⟨⟨y2, rfl⟩, X⟩;exists ⟨⟨_, bo.of X.gl⟩, ?_⟩;refine sH (K := K) (a := l) (xs := vs) (λs σ' H' => (∃ x2, σ' = [some (.ref b), some (.int n), some (.int i), some (.int o), some (.int w), some (.int way), some (.int first), some (.ref m), some (.ref p), some (.ref l), some (.int kk), x2]) /\ Ik K A n (Dr (max w 6)) m p l b q0 us ws vs H H') ⟨⟨_, rfl⟩, X⟩ (λs σ' H' _ ⟨_, e⟩ => bo.of e.gl) ?_ ?_
      · rintro s x σ' Hk hx ⟨⟨y2, rfl⟩, X⟩;have mx := ai hx;obtain ⟨q, _, rfl, _⟩ := X.row (.inr mx)
        repeat' (first | walk_at "rd" | refine jc (λ_ => ?_) (λ_ => ?_))
        all_goals first
          | exact ⟨⟨_, rfl⟩, X⟩
          | (refine cM λt Hb sb gb => ?_; walk_at "w"; obtain ⟨zs, gz, lz, Xz⟩ := (X.same sb).put MA (.inr mx) (cf.mk (q := 0) gb rfl) (sI (i := 0) (aS _) W1) kk; refine d9 gz (eN (by lia)) rfl ?_; exact ⟨⟨_, rfl⟩, Xz⟩)
          | (refine ⟨b, 2, rfl, X.mix.bag, by decide, by decide, λd Hd d0 d1 Bd ud => ?_⟩
             replace X := X.upto MA ud Bd
             repeat' (first | walk_at "rd" | refine jc (λ_ => ?_) (λ_ => ?_))
             all_goals first
               | exact ⟨⟨_, rfl⟩, X⟩
               | (refine cM λt Hb sb gb => ?_
                  walk_at "w";obtain ⟨zs, gz, lz, Xz⟩ := (X.same sb).put MA (.inr mx) (cf.mk (q := 0) gb rfl) (sI (i := 0) (aS _) W1) kk;refine d9 gz (eN (by lia)) rfl ?_;exact ⟨⟨_, rfl⟩, Xz⟩))
      · rintro σ' Hk ⟨⟨y2, rfl⟩, X⟩;exact ⟨⟨_, _, rfl⟩, X⟩
  · rintro σ' Hj ⟨⟨x1, x2, rfl⟩, X⟩
    obtain ⟨M1, M2, M3, V0, a1, a2, a3, V2, hcs, R1, R2, R3⟩ : ∃ M1 M2 M3 V0 : Nat, (0 < M1 /\ M1 ≤ 2 ^ 800) /\ (0 < M2 /\ M2 ≤ 2 ^ 800) /\ (0 < M3 /\ M3 ≤ 2 ^ 800) /\ V0 ≤ 2 ^ 20 /\ ((w ≤ 9 /\ M1 = 2520 /\ M2 = 2520 /\ M3 = 2520 /\ V0 = 9) \/ (9 < w /\ M1 ≤ 2 ^ (c * (n * n)) /\ M2 ≤ 2 ^ (c * (i * n)) /\ M3 ≤ 2 ^ (c * (o * n)) /\ V0 = 2 ^ c)) /\ (∀ x ∈ us, gW K A Hj n (Fr M1 V0) x) /\ (∀ x ∈ ws, gW K A Hj n (Fr M2 V0) x) /\ ∀ x ∈ vs, gW K A Hj n (Fr M3 V0) x := by
      by_cases w9 : w ≤ 9
      · have XM := X.mix.weak (C' := λ_ => Fr 2520 9) λ_ _ y h => Rx ⟨af h.1 (by lia), af h.2 (by lia)⟩ (Nat.dvd_refl _)
        have z : 0 < 2520 /\ 2520 ≤ 2 ^ 800 := ⟨by decide, af (show 2520 ≤ 2 ^ 12 by decide) (ar (by decide) (by decide))⟩;exact ⟨2520, 2520, 2520, 9, z, z, z, by decide, .inl ⟨w9, rfl, rfl, rfl, rfl⟩, λx hx => XM.row x (by simp [hx]), λx hx => XM.row x (by simp [hx]), λx hx => XM.row x (by simp [hx])⟩
      · obtain ⟨M1, M2, M3, a1, a2, a3, b1, b2, b3, R1, R2, R3⟩ := (X.mix.weak (C' := λ_ => Dr (2 ^ c)) λ_ _ y h => ⟨af h.1 hc, af h.2 hc⟩).fr3;rw [lws] at b2;rw [lvs] at b3;have up : ∀ {M k : Nat}, M ≤ 2 ^ (c * k) → k ≤ (n + i + o) * n → M ≤ 2 ^ 800 := λh hk => af h (ar (by decide) (af (cN _ hk) hcM))
        exact ⟨M1, M2, M3, 2 ^ c, ⟨a1, up b1 (ax _ (by lia))⟩, ⟨a2, up b2 (ax _ (by lia))⟩, ⟨a3, up b3 (ax _ (by lia))⟩, ar (by decide) hc20, .inr ⟨by lia, b1, b2, b3, rfl⟩, R1, R2, R3⟩
    obtain ⟨μ, e2, e3, e1, e4⟩ := LY ws vs M1 M2 M3;obtain ⟨ap1, ap2⟩ := X.mix.apart
    have XM : j8 K A Hj n (λx => Fr (μ x) V0) m p l b q0 us ws vs := by
      refine ⟨X.mix.bag, X.mix.inn, X.mix.gm, X.mix.gp, X.mix.gl, X.mix.lm, λx hx => ?_, X.mix.nd⟩;rcases ay.mp hx with hx | hx
      · rcases ay.mp hx with hx | hx
        · rw [e1 x (ap1 x hx).1 (ap1 x hx).2]; exact R1 x hx
        · rw [e3 x hx (ap2 x hx)]; exact R3 x hx
      · rw [e2 x hx]; exact R2 x hx
    have p1 : ∀ x, 0 < μ x := λx => by
      rcases e4 x with e | e | e
      · rw [e]; exact a1.1
      · rw [e]; exact a2.1
      · rw [e]; exact a3.1
    have p2 : ∀ x, μ x ≤ 2 ^ 800 := λx => by
      rcases e4 x with e | e | e
      · rw [e]; exact a1.2
      · rw [e]; exact a2.2
      · rw [e]; exact a3.2
    have gmj := X.mix.gm;exists ⟨b, m, p, l, q0, n, V0, μ, A, us, ws, vs, rfl, MA, XM, n8, by lia, by lia, p1, p2, ⟨M1, e1⟩, V2, λq hq => ?_, λr us' H' g Y kp => ?_⟩
    · refine mkA ?_ (λz => by rw [z, gmj] at hq; cases hq) (λz => by rw [z, X.gp] at hq; cases hq) (λz => by rw [z, X.gl] at hq; cases hq);cases e : H q with
      | none => rfl
      | some u =>
        have := X.kp q u e (λz => X.mix.bag.at (by rw [<- z]; exact hq)) (λz => by have := (unA z).1; rw [e] at this; cases this) (λz => by rw [z, hm0] at e; cases e);rw [hq] at this; cases this
    · obtain ⟨yp1, yp2⟩ := Y.apart;obtain ⟨mv, Gm, lmv, hmv⟩ := uh (H0 := H) (n := n) (C := Fr M1 (9 ^ 3 * V0)) (m := n) ⟨us', Y.gm, Y.lm, MA.am, λx hx => by have := Y.row x (by simp [hx]); rwa [e1 x (yp1 x hx).1 (yp1 x hx).2] at this⟩ λq h => (unA h).1
      obtain ⟨pt, Gp, lpt, hpt⟩ := uh (H0 := H) (n := n) (C := Fr M2 (9 ^ 3 * V0)) (m := i) ⟨ws, Y.gp, lws, MA.ap, λx hx => by have := Y.row x (by simp [hx]); rwa [e2 x hx] at this⟩ λq h => (unA h).1
      obtain ⟨lk, Gl, llk, hlk⟩ := uh (H0 := H) (n := n) (C := Fr M3 (9 ^ 3 * V0)) (m := o) ⟨vs, Y.gl, lvs, MA.al, λx hx => by have := Y.row x (by simp [hx]); rwa [e3 x hx (yp2 x hx)] at this⟩ λq h => (unA h).1
      refine k r mv pt lk H' ⟨m, p, l, g, hm0, hp0, hl0, Gm, Gp, Gl⟩ lmv lpt llk ⟨by lia, by lia, by lia, λxs hx => by rw [(hmv xs hx).1, lmv], λxs hx => by rw [(hpt xs hx).1, lmv], λxs hx => by rw [(hlk xs hx).1, lmv]⟩ ⟨M1, M2, M3, 9 ^ 3 * V0, a1.1, a2.1, a3.1, λxs hx => (hmv xs hx).2, λxs hx => (hpt xs hx).2, λxs hx => (hlk xs hx).2, ?_⟩ Y.bag ⟨λc' u e n1 => (X.kp.trans kp) c' u e n1 (λz => by have := (unA z).1; rw [e] at this; cases this) (λz => by rw [z, hm0] at e; cases e), λq h => by rw [<- Inner.inj I0 h]; exact Y.inn⟩;rcases hcs with ⟨b1, b2, b3, b4, b5⟩ | ⟨b1, b2, b3, b4, b5⟩
      · exact .inl ⟨b1, b2, b3, b4, by rw [b5]⟩
      · exact .inr ⟨b1, b2, b3, b4, by rw [b5]⟩
theorem Cm:sC ["thing","at","most"] 3 rK:=by walk_at "d"
theorem qo (T:Txt K mg Z):T.iN.o P w base 1 Iz:=by
 refine T.iN.F.k Cm ?_;walk_at "i";obtain ⟨p,xs,a,m,rfl,gx,hm,k⟩:=h
 refine ⟨_,(ak (cW (ia (fA (yP rfl T.isinstance PyProof.Rows.boot_list T.list bH))) (au LK) bQ)
  (au (cW (aW wD (bf aU (by rfl) T.len aQ (df bH)) eE (bg _)) (au LK) bQ))),?_⟩
 walk_at "s";exists ⟨_,_,.lst gx,rfl,?_⟩;exists ⟨_,_,rfl,.inl (bo.of gx),?_⟩;walk_at "w";rw[decide_eq_false (show ¬m < (xs.length:Int) by lia)];exists k
theorem EA:sC ["thing"] 1 tU:=by walk_at "d"
theorem wJ (T:Txt K mg Z):T.lB.o P w base 1 JG:=by
 refine T.lB.F.k EA ?_;walk_at "i";obtain ⟨i,rfl,k⟩:=h;refine ⟨_,(au (aN (CO (yP rfl T.isinstance PyProof.Rows.boot_int T.int bH) (CM (QV (yP rfl T.isinstance PyProof.Rows.boot_bool T.bool bH)))))),?_⟩;walk_at "s";exists ⟨_,_,.int i,rfl,?_⟩;exists ⟨_,_,.int i,rfl,?_⟩;exists k
theorem ig:sC ["one","other","rest"] 2 kr:=by walk_at "d"
theorem jM (T:Txt K mg Z):T.eo.o P w base 1 Sr:=by
 refine T.eo.F.k ig ?_;walk_at "i";obtain ⟨a,b,rfl,k⟩:=h
 refine ⟨_,(ak (uJ PassesOwn.never (aW wC cz aj (bg _))
   (ak (fo 2 ig.nd (br Oh bH cz))
  (ak (fo 0 ig.nd cz)
  (au (fo 1 ig.nd eE)))))
  (au (aN (bf zO (by rfl) T.abs PyProof.Rows.boot_abs (df bH))))),?_⟩
 walk_at "s";exists xC (λσ' H'=>∃(u v:Int) (r:Option V),σ'=[some (.int u),some (.int v),r]/\H'=H/\Int.gcd u v=Int.gcd a b) (λσ' _=>match σ' with | [_,some (.int v),_]=>v.natAbs | _=>0) ⟨a,b,none,rfl,rfl,rfl⟩ ?_;rintro σ' H' ⟨u,v,r,rfl,rfl,hg⟩;exists jc (λh=>?_) (λh=>?_)
 ·have hv:v≠0:=λz=>by subst z;simp at h
  exists eZ (show v≠0 from hv) ?_;exists ⟨⟨v,u.fmod v,_,rfl,rfl,(Mr u v).trans hg⟩,OC u v hv⟩
 ·have hv:v=0:=by
   by_cases z:v=0
   ·exact z
   ·exfalso;apply h;simp [z]
  subst hv;walk_at "w"
  have e:(if u < 0 then -u else u)=g a b:=by
   unfold g;rw[<- hg,Int.gcd_zero_right]
   split <;> lia
  rw[e];exact k
theorem Ct:sC ["thing"] 1 rO:=by walk_at "d"
theorem CV (T:Txt K mg Z):T.mD.o P w base 2 (JJ K):=by
 refine T.mD.F.k Ct ?_;walk_at "i";obtain ⟨x,n,rfl,⟨p,rfl,hp⟩,hn,k⟩:=h
 refine ⟨_,(ak (cW (PW.pt (m6 (ia (fA (xI rfl T.isinstance PyProof.Rows.boot_tuple T.tuple bH))) (jG (aW wC (bf aU (by rfl) T.len aQ (df bH)) aj (bg _))))) (au (aN o5)) bQ)
  (ak (cW (PW.pt (m6 (ia (fA (cA (wJ T) hr T.lB (df (aL bE bH aj))))) (jG (ia (fA (cA (wJ T) hr T.lB (df (aL bE bH aj)))))))) (au (aN o5)) bQ)
  (au (aN (CO (jJ yU (aL bE bH aj) aj (bg _)) (CM (jJ gi (cA (jM T) hr T.eo (cB (aL bE bH aj) (aL bE bH aj))) aj (bg _)))))))),?_⟩
 walk_at "s";obtain ⟨hb,hg,s1,s2⟩:=hn;exists .inr ⟨p,_,_,rfl,hp,rfl,?_⟩;exists ⟨_,_,rfl,.inr hp,?_⟩;walk_at "w"
 try refine Ow ?_
 exists ⟨n.1,rfl,?_⟩;exists ⟨n.2,rfl,?_⟩;walk_at "w";rw[decide_eq_true (show (1:Int)<=n.2 by lia)];exists ⟨n.1,n.2,rfl,?_⟩;walk_at "w";have e:g n.1 n.2=1:=by unfold g;rw[hg];rfl
 rw[e,decide_eq_true rfl];exact k _ (aA.refl _)
theorem JM:sC ["thing","many"] 2 yH:=by walk_at "d"
theorem JU (T:Txt K mg Z):T.sX.o P w base 3 (vz K):=by
 refine T.sX.F.k JM ?_;walk_at "i";obtain ⟨p,ns,rfl,hp,hl,hn,k⟩:=h
 refine ⟨_,(ak (cW (PW.pt (m6 (ia (fA (yP rfl T.isinstance PyProof.Rows.boot_list T.list bH))) (jG (aW wC (bf aU (by rfl) T.len aQ (df bH)) cz (bg _))))) (au (aN o5)) bQ)
  (au (aN (bf (FE rfl) (by rfl) T.all PyProof.Rows.boot_all (df (b7 ["value"] [] [] (cL bH) (λ_=>(fM 0)) (λ_=>cg) (λ_=>(cA (CV T) hr T.mD (df bH))))))))),?_⟩
 walk_at "s";obtain ⟨xs,gx,qx⟩:=id hp;have lx:=qx.length;exists ⟨_,_,.lst gx,rfl,?_⟩;exists ⟨_,_,rfl,.inl (bo.of gx),?_⟩;walk_at "w";rw[show ((xs.length:Nat):Int)=(ns.length:Nat) by rw[lx],decide_eq_true rfl];exists ⟨⟨_,bo.of gx⟩,?_⟩;refine eT (K:=K) (xs:=xs) (λi ys H'=>aA H H'/\ys=List.replicate i (.bl true)) j7 ⟨aA.refl _,rfl⟩ (λi ys H' _ ⟨s,_⟩=>bo.of (s _ _ gx)) ?_ ?_
 ·rintro i x ys H' hx hlen ⟨s,rfl⟩;obtain ⟨n,en,z⟩:=bN qx hx;exists ⟨x,n,rfl,s.num z,hn n (ai en),λH2 s2=>⟨s.trans s2,by rw[List.replicate_succ']⟩⟩
 ·rintro ys H' hy ⟨s,rfl⟩ l hl';exists ⟨l,List.replicate xs.length true,rfl,bo.of (by rw[az];simp),?_⟩;have e4:(List.replicate xs.length true).all id=true:=by simp
  rw[e4];exact k _ (s.trans (aA.new hl'))
theorem mZ:sC ["things","wide","place","thing"] 2 oH:=by walk_at "d"
theorem nk (T:Txt K mg Z):T.fZ.o P w base 4 (IE K):=by
 refine T.fZ.F.k mZ ?_;walk_at "i";obtain ⟨p,H0,rows,w,rfl,hp,hl,hw,hn,k⟩:=h
 refine ⟨_,(ak (fB PassesOwn.never rfl (IK rfl T.enumerate (df bH)) (yM rfl (b6 (fM 2 mZ.nd) (b6 (fM 3 mZ.nd) gH)))
   (au (cW (ia (fA (cA (JU T) hr T.sX (cB jB cz)))) (au LK) bQ)))
  (au (aN (b7 ["row"] [] [] (cL bH) (λ_=>(fM 0)) (λ_=>cg) (λ_=>(iM (oV K (by rfl)) (by rfl) T.list PyProof.Rows.boot_list (df bH))))))),?_⟩
 walk_at "s";obtain ⟨xs,gx,qx,_⟩:=id hp;exists ⟨⟨_,bo.of gx⟩,?_⟩;refine Mw (K:=K) (l:=p) (xs:=xs) (λi σ' H'=>aA H H'/\∃x y,σ'=[some (.ref p),some (.int w),x,y]) ⟨aA.refl _,none,none,rfl⟩ (λi σ' H' _ ⟨s,_⟩=>bo.of (s _ _ gx)) ?_ ?_
 ·rintro i x σ' H' t hx ⟨s,x1,y1,rfl⟩ ht;obtain ⟨qs,eq,q,rfl,_,Rq⟩:=bN qx hx;have hm:=ai eq;have st:aA H' (upd H' t (.tup [.int i,.ref q])):=aA.new ht;have gt:(upd H' t (.tup [.int i,.ref q])) t=some (.tup [.int i,.ref q]):=az;have s2:=s.trans st;generalize upd H' t (.tup [.int i,.ref q])=H2 at st gt s2 ⊢;have lq:(qs.map nm).length=w:=by rw[ag];exact (hn qs hm).1
  exists ⟨q,_,by rw[lq],(Rq.same s2).rowK,by rw[lq];exact hw,λn hn'=>?_,λH3 s3=>?_⟩
  ·obtain ⟨y,hy,rfl⟩:=av.mp hn';exact (hn qs hm).2 y hy
  exists ⟨s2.trans s3,_,_,rfl⟩
 ·rintro σ' H' ⟨s,x1,y1,rfl⟩;exists ⟨⟨_,bo.of (s _ _ gx)⟩,?_⟩;refine dH (K:=K) (F:=cS K H0) (cS K H) id (s _ _ gx) (Paired.imp' (λ_ _ z=>z.same s) qx) hl (λa b=>a.same b) (λa b=>a.same b) ?_ ?_
  ·rintro i ns x H2 NY NN en s2 ⟨u,rfl,_,zs,gz,qz⟩ k1;exists ⟨u,zs,rfl,.inl (bo.of gz),λl1 hl1=>?_⟩;exact k1 _ _ (aA.new hl1) ⟨l1,rfl,s.none (s2.none hl1),zs,az,Paired.imp' (λ_ _ z=>z.same (aA.new hl1)) qz⟩
  ·rintro ys' H2 r hr s2 g pr nx;rw[Nc] at pr nx;exact k r H2 (s.none hr) (s.trans s2) ⟨ys',g,pr,ij nx⟩
theorem tO:sC ["self","move","put","look"] 4 d7:=by walk_at "d"
theorem jk (T:Txt K mg Z):j9 P w K mg base F1 5 Z.jX Z.jW ["self","move","put","look"] (IB K Z.a_System):=by
 refine T.oo.k tO ?_;walk_at "i";obtain ⟨x,dx,p,q,r,Hb,H0,H1,H2,mv,pt,lk,rfl,nx,ndx,nex,rfl,gp,gq,gr,D,om,op,ol,k⟩:=h
 refine ⟨_,(ak (je (cA (qo T) hr T.iN (CP cz aj (jf (v:=.int 8) rfl T.mg_MOST_STATES ⟨_,rfl⟩))))
  (ak (m7 bH (cA (nk T) hr T.fZ (cB cz (bf aU (by rfl) T.len aQ (df cz)))) rfl)
  (ak (m7 bH (bf aU (by rfl) T.len aQ (df (ck bH rfl))) rfl)
  (ak (je (cA (qo T) hr T.iN (CP eE aj (jf (v:=.int 4) rfl T.mg_MOST_PUTS ⟨_,rfl⟩))))
  (ak (m7 bH (cA (nk T) hr T.fZ (cB eE (ck bH rfl))) rfl)
  (ak (m7 bH (bf aU (by rfl) T.len aQ (df (ck bH rfl))) rfl)
  (ak (je (cA (qo T) hr T.iN (CP jB aj (jf (v:=.int 4) rfl T.mg_MOST_LOOKS ⟨_,rfl⟩))))
  (ak (m7 bH (cA (nk T) hr T.fZ (cB jB (ck bH rfl))) rfl)
  (au (m7 bH (bf aU (by rfl) T.len aQ (df (ck bH rfl))) rfl)))))))))),?_⟩
 walk_at "s"
 have s0:aA Hb (upd (upd Hb dx (.own x)) x (.ins Z.a_System dx [])):=λb o e=>by
  rw[aJ (dg e nx),aJ (dg e ndx)];exact e
 have hx:(upd (upd Hb dx (.own x)) x (.ins Z.a_System dx [])) x=some (.ins Z.a_System dx []):=az;have back:∀{b},(upd (upd Hb dx (.own x)) x (.ins Z.a_System dx [])) b=none->Hb b=none:=λh=>s0.none h
 generalize upd (upd Hb dx (.own x)) x (.ins Z.a_System dx [])=Ha at s0 hx back ⊢;obtain ⟨xs,gx,qx,_⟩:=id gp;obtain ⟨ys,gy,qy,_⟩:=id gq;obtain ⟨zs,gz,qz,_⟩:=id gr;have lx:=qx.length;have ly:=qy.length;have lz:=qz.length;have d1:=D.n8;have d2:=D.i4;have d3:=D.o4;exists ⟨p,xs,0,8,rfl,s0 _ _ gx,by lia,?_⟩;exists ⟨_,_,rfl,.inl (bo.of (s0 _ _ gx)),?_⟩;exists ⟨p,H0,mv,mv.length,by rw[lx],gp.same s0,by lia,by lia,λws hw=>⟨D.mw ws hw,om ws hw⟩,λa H3 na s3 Ga=>?_⟩;have hx3:=s3 _ _ hx;exists ⟨x,Z.a_System,dx,_,rfl,hx3,T.cl_System,T.na_move,(by show 0 < 1000;decide),?_⟩;have e3:D4 x H3 (upd H3 x (.ins Z.a_System dx (bP "move" (.ref a) []))):=D4.upd;have i3:tH H3 x:=⟨_,_,_,hx3⟩;have hx4:(upd H3 x (.ins Z.a_System dx (bP "move" (.ref a) []))) x=some (.ins Z.a_System dx (bP "move" (.ref a) [])):=az;have Ga4:=Ga.exc e3 i3;have k4:aA Hb (upd H3 x (.ins Z.a_System dx (bP "move" (.ref a) []))):=(s0.trans s3).after nx;generalize upd H3 x (.ins Z.a_System dx (bP "move" (.ref a) []))=H4 at e3 hx4 Ga4 k4 ⊢;exists ⟨x,Z.a_System,dx,_,_,rfl,hx4,T.cl_System,T.na_move,(by rw[a8,if_pos rfl]),?_⟩;obtain ⟨as,ga,qa,_⟩:=id Ga4;have la:=qa.length;exists ⟨_,_,rfl,.inl (bo.of ga),?_⟩;exists ⟨x,Z.a_System,dx,_,rfl,hx4,T.cl_System,T.na_states,aK dn (by show 1 < 1000;decide),?_⟩;rw[show ((as.length:Nat):Int)=((mv.length:Nat):Int) by rw[la]];have e4:D4 x H4 (upd H4 x (.ins Z.a_System dx (bP "states" (.int mv.length) (bP "move" (.ref a) [])))):=D4.upd;have i4:tH H4 x:=⟨_,_,_,hx4⟩;have hx5:(upd H4 x (.ins Z.a_System dx (bP "states" (.int mv.length) (bP "move" (.ref a) [])))) x=some (.ins Z.a_System dx (bP "states" (.int mv.length) (bP "move" (.ref a) []))):=az;have Ga5:=Ga4.exc e4 i4;have k5:aA Hb (upd H4 x (.ins Z.a_System dx (bP "states" (.int mv.length) (bP "move" (.ref a) [])))):=k4.after nx;generalize upd H4 x (.ins Z.a_System dx (bP "states" (.int mv.length) (bP "move" (.ref a) [])))=H5 at e4 hx5 Ga5 k5 ⊢;clear e3 e4 i3 i4 hx4 Ga4 ga qa;exists ⟨q,ys,1,4,rfl,k5 _ _ gy,by lia,?_⟩;exists ⟨x,Z.a_System,dx,_,_,rfl,hx5,T.cl_System,T.na_states,(by rw[a8,if_pos rfl]),?_⟩;exists ⟨q,H1,pt,mv.length,rfl,gq.same k5,by lia,by lia,λws hw=>⟨D.pw ws hw,op ws hw⟩,λb H6 nb s6 Gb=>?_⟩;have hx6:=s6 _ _ hx5;have i6:tH H6 x:=⟨_,_,_,hx6⟩;exists ⟨x,Z.a_System,dx,_,rfl,hx6,T.cl_System,T.na_put,aK dn (aK (dw dn) (by show 2 < 1000;decide)),?_⟩;have e6:D4 x H6 (upd H6 x (.ins Z.a_System dx (bP "put" (.ref b) (bP "states" (.int mv.length) (bP "move" (.ref a) []))))):=D4.upd;have hx7:(upd H6 x (.ins Z.a_System dx (bP "put" (.ref b) (bP "states" (.int mv.length) (bP "move" (.ref a) []))))) x=some (.ins Z.a_System dx (bP "put" (.ref b) (bP "states" (.int mv.length) (bP "move" (.ref a) [])))):=az;have Ga7:=(Ga5.same s6).exc e6 i6;have Gb7:=(Gb.weak k5).exc e6 i6;have k7:aA Hb (upd H6 x (.ins Z.a_System dx (bP "put" (.ref b) (bP "states" (.int mv.length) (bP "move" (.ref a) []))))):=(k5.trans s6).after nx;generalize upd H6 x (.ins Z.a_System dx (bP "put" (.ref b) (bP "states" (.int mv.length) (bP "move" (.ref a) []))))=H7 at e6 hx7 Ga7 Gb7 k7 ⊢;obtain ⟨bs,gb,qb,_⟩:=id Gb7;have lb:=qb.length;exists ⟨x,Z.a_System,dx,_,_,rfl,hx7,T.cl_System,T.na_put,(by rw[a8,if_pos rfl]),?_⟩;exists ⟨_,_,rfl,.inl (bo.of gb),?_⟩;exists ⟨x,Z.a_System,dx,_,rfl,hx7,T.cl_System,T.na_ins,aK dn (aK (dw (af dn (dw dn))) (by show 3 < 1000;decide)),?_⟩;rw[show ((bs.length:Nat):Int)=((pt.length:Nat):Int) by rw[lb]];have i7:tH H7 x:=⟨_,_,_,hx7⟩;have e7:D4 x H7 (upd H7 x (.ins Z.a_System dx (bP "ins" (.int pt.length) (bP "put" (.ref b) (bP "states" (.int mv.length) (bP "move" (.ref a) [])))))):=D4.upd;have hx8:(upd H7 x (.ins Z.a_System dx (bP "ins" (.int pt.length) (bP "put" (.ref b) (bP "states" (.int mv.length) (bP "move" (.ref a) [])))))) x=some (.ins Z.a_System dx (bP "ins" (.int pt.length) (bP "put" (.ref b) (bP "states" (.int mv.length) (bP "move" (.ref a) []))))):=az;have Ga8:=Ga7.exc e7 i7;have Gb8:=Gb7.exc e7 i7;have k8:aA Hb (upd H7 x (.ins Z.a_System dx (bP "ins" (.int pt.length) (bP "put" (.ref b) (bP "states" (.int mv.length) (bP "move" (.ref a) [])))))):=k7.after nx;generalize upd H7 x (.ins Z.a_System dx (bP "ins" (.int pt.length) (bP "put" (.ref b) (bP "states" (.int mv.length) (bP "move" (.ref a) [])))))=H8 at e7 hx8 Ga8 Gb8 k8 ⊢;clear e6 e7 i6 i7 hx7 Ga7 Gb7 gb qb;exists ⟨r,zs,2,4,rfl,k8 _ _ gz,by lia,?_⟩;exists ⟨x,Z.a_System,dx,_,_,rfl,hx8,T.cl_System,T.na_states,(by rw[a8,if_neg (by decide +kernel),a8,if_neg (by decide +kernel),a8,if_pos rfl]),?_⟩;exists ⟨r,H2,lk,mv.length,rfl,gr.same k8,by lia,by lia,λws hw=>⟨D.lw ws hw,ol ws hw⟩,λc H9 nc s9 Gc=>?_⟩;have hx9:=s9 _ _ hx8;have i9:tH H9 x:=⟨_,_,_,hx9⟩;exists ⟨x,Z.a_System,dx,_,rfl,hx9,T.cl_System,T.na_look,aK dn (aK (dw (af dn (dw (af dn (dw dn))))) (by show 4 < 1000;decide)),?_⟩;have e9:D4 x H9 (upd H9 x (.ins Z.a_System dx (bP "look" (.ref c) (bP "ins" (.int pt.length) (bP "put" (.ref b) (bP "states" (.int mv.length) (bP "move" (.ref a) []))))))):=D4.upd;have hxA:(upd H9 x (.ins Z.a_System dx (bP "look" (.ref c) (bP "ins" (.int pt.length) (bP "put" (.ref b) (bP "states" (.int mv.length) (bP "move" (.ref a) []))))))) x=some (.ins Z.a_System dx (bP "look" (.ref c) (bP "ins" (.int pt.length) (bP "put" (.ref b) (bP "states" (.int mv.length) (bP "move" (.ref a) [])))))):=az;have GaA:=(Ga8.same s9).exc e9 i9;have GbA:=(Gb8.same s9).exc e9 i9;have GcA:=(Gc.weak k8).exc e9 i9;have kA:aA Hb (upd H9 x (.ins Z.a_System dx (bP "look" (.ref c) (bP "ins" (.int pt.length) (bP "put" (.ref b) (bP "states" (.int mv.length) (bP "move" (.ref a) []))))))):=(k8.trans s9).after nx;generalize upd H9 x (.ins Z.a_System dx (bP "look" (.ref c) (bP "ins" (.int pt.length) (bP "put" (.ref b) (bP "states" (.int mv.length) (bP "move" (.ref a) []))))))=HA at e9 hxA GaA GbA GcA kA ⊢;obtain ⟨cs,gc,qc,_⟩:=id GcA;have lc:=qc.length;exists ⟨x,Z.a_System,dx,_,_,rfl,hxA,T.cl_System,T.na_look,(by rw[a8,if_pos rfl]),?_⟩;exists ⟨_,_,rfl,.inl (bo.of gc),?_⟩;exists ⟨x,Z.a_System,dx,_,rfl,hxA,T.cl_System,T.na_outs,aK dn (aK (dw (af dn (dw (af dn (dw (af dn (dw dn))))))) (by show 5 < 1000;decide)),?_⟩;rw[show ((cs.length:Nat):Int)=((lk.length:Nat):Int) by rw[lc]];have iA:tH HA x:=⟨_,_,_,hxA⟩;exact k _ (kA.after nx) ⟨dx,a,b,c,az,back na,k5.none nb,k8.none nc,(GaA.exc D4.upd iA).weak s0,GbA.exc D4.upd iA,GcA.exc D4.upd iA⟩
theorem yF:sC ["_law_grid"] 1 oN:=by walk_at "d"
theorem nD (T:Txt K mg Z):T.gg.o P w base 1 (yy K):=by
 refine T.gg.F.k yF ?_;walk_at "i";obtain ⟨p,H0,rows,rfl,hp,hl,hm,k⟩:=h;refine ⟨_,(au (aN (b7 ["_law_row_here"] [] [] (cL bH) (λ_=>(fM 0)) (λ_=>cg) (λ_=>(iM (oV K (by rfl)) (by rfl) T.list PyProof.Rows.boot_list (df bH)))))),?_⟩;walk_at "s";obtain ⟨xs,gx,qx,_⟩:=id hp;exists ⟨⟨_,bo.of gx⟩,?_⟩;refine dH (K:=K) (F:=cS K H0) (cS K H) id gx qx hl (λa b=>a.same b) (λa b=>a.same b) ?_ ?_
 ·rintro i ns x H' NY NN en s ⟨u,rfl,_,zs,gz,qz⟩ k1;exists ⟨u,zs,rfl,.inl (bo.of gz),λl1 hl1=>?_⟩;exact k1 _ _ (aA.new hl1) ⟨l1,rfl,s.none hl1,zs,az,Paired.imp' (λ_ _ z=>z.same (aA.new hl1)) qz⟩
 ·rintro ys' H' r hr s g pr nx;rw[Nc] at pr nx;exact k r H' hr s ⟨ys',g,pr,ij nx⟩
theorem Cy:sC ["_law_parts_here"] 1 rV:=by walk_at "d"
theorem C1 (T:Txt K mg Z):T.mH.o P w base 7 (yn K Z.a_System):=by
 refine T.mH.F.k Cy ?_;walk_at "i";obtain ⟨r,H0,mv,pt,lk,rfl,PQ,D,F,k⟩:=h;refine ⟨_,(au (aN (xH T.mk_System (jk T) (hr.mono (by decide)) rfl T.mg_System T.ip .nil yQ (CP (cA (nD T) hr T.gg (df (aL bE bH aj))) (cA (nD T) hr T.gg (df (aL bE bH aj))) (cA (nD T) hr T.gg (df (aL bE bH aj))))))),?_⟩;walk_at "s";obtain ⟨m,p,l,g,n1,n2,n3,Gm,Gp,Gl⟩:=id PQ;have d1:=D.n8;have d2:=D.i4;have d3:=D.o4;exists ⟨m,H0,mv,rfl,Gm,by lia,λxs hx=>by rw[D.mw xs hx];lia,λa H1 na s1 Ga=>?_⟩;have g1:=s1 _ _ g;exists ⟨p,H0,pt,rfl,Gp.same s1,by lia,λxs hx=>by rw[D.pw xs hx];lia,λb H2 nb s2 Gb=>?_⟩;have s12:=s1.trans s2;have g2:=s12 _ _ g;exists ⟨l,H0,lk,rfl,Gl.same s12,by lia,λxs hx=>by rw[D.lw xs hx];lia,λc H3 nc s3 Gc=>?_⟩;have s13:=s12.trans s3;walk_at "w";intro x dx nx ndx nex;exact ⟨x,dx,a,b,c,H3,H,H1,H2,mv,pt,lk,rfl,nx,ndx,nex,rfl,(Ga.same s2).same s3,Gb.same s3,Gc,D,F.ok.1,F.ok.2.1,F.ok.2.2,λH' s' S'=>⟨rfl,k x H' (s13.none nx) (s13.trans s') (S'.weak s13)⟩⟩
theorem Cu:sC ["_law_one","_law_other"] 2 rQ:=by walk_at "d"
theorem CY (T:Txt K mg Z):T.mE.o P w base 2 (yr K):=by
 refine T.mE.F.ok Cu (λvs H Q E h=>?_) (λcdv A outer s H vs Q E hr h=>?_)
 ·obtain ⟨p,q,a,b,c,d,rfl,hp,hq,hb,hd,hc,sa,sb,sc,sd,k⟩:=EK h;rfl
 ·obtain ⟨p,q,a,b,c,d,rfl,hp,hq,hb,hd,hc,sa,sb,sc,sd,k⟩:=EK h
  refine ⟨_,(ak (cW (aW nY (aL bE cz aj) aj (bg _)) (au (aN (cA (gB T) hr T.dY (cB (br ni aj (br cw (aL bE bH aj) (aL bE cz aj))) (br ni aj (br cw (aL bE bH aj) (aL bE cz aj))))))) bQ)
   (au (aN (cA (gB T) hr T.dY (cB (br cw (aL bE bH aj) (aL bE cz aj)) (br cw (aL bE bH aj) (aL bE cz aj))))))),?_⟩
  refine lg (σ:=[some (.ref p),some (.ref q)]) rfl ?_;have sbc:Sz 8999 (b*c):=(sb.mul sc).mono (by decide);exists jc (λh=>?_) (λh=>?_)
  ·have h0:c < 0:=of_decide_eq_true h;have hbc:b*c < 0:=ux hb h0;exists eZ (show eK _ _ from .inr ⟨_,_,sa,sd,by decide⟩) ?_;exists eZ (show eK _ _ from .inr ⟨_,_,sb,sc,by decide⟩) ?_;exists ⟨_,_,rfl,by lia,by rw[Int.zero_sub];exact sbc.neg,λr H' s' h'=>?_⟩;exact k r H' s' (by rw[if_pos h0,if_pos h0];exact h')
  ·have h0:¬c < 0:=λz=>h (decide_eq_true z)
   have hbc:0 < b*c:=fw hb (by lia);exists eZ (show eK _ _ from .inr ⟨_,_,sa,sd,by decide⟩) ?_;exists eZ (show eK _ _ from .inr ⟨_,_,sb,sc,by decide⟩) ?_;exists ⟨_,_,rfl,hbc,sbc,λr H' s' h'=>?_⟩;exact k r H' s' (by rw[if_neg h0,if_neg h0];exact h')
theorem Cz:sC ["_law_one","_law_other"] 2 rW:=by walk_at "d"
theorem C2 (T:Txt K mg Z):T.mI.o P w base 2 (mW K (λx y=>x - y)):=by
 refine T.mI.F.ok Cz (λvs H Q E h=>?_) (λcdv A outer s H vs Q E hr h=>?_)
 ·obtain ⟨p,q,a,b,c,d,rfl,hp,hq,hb,hd,sa,sb,sc,sd,k⟩:=xG h;rfl
 ·obtain ⟨p,q,a,b,c,d,rfl,hp,hq,hb,hd,sa,sb,sc,sd,k⟩:=xG h;refine ⟨_,(au (aN (cA (gB T) hr T.dY (cB (br ni (br cw (aL bE bH aj) (aL bE cz aj)) (br cw (aL bE cz aj) (aL bE bH aj))) (br cw (aL bE bH aj) (aL bE cz aj)))))),?_⟩;refine lg (σ:=[some (.ref p),some (.ref q)]) rfl ?_;have hbd:0 < b*d:=fw hb hd;have sbd:Sz 8999 (b*d):=(sb.mul sd).mono (by decide);exists eZ (show eK _ _ from .inr ⟨_,_,sa,sd,by decide⟩) ?_;exists eZ (show eK _ _ from .inr ⟨_,_,sc,sb,by decide⟩) ?_;exists eZ (show eK _ _ from .inr ⟨_,_,sb,sd,by decide⟩) ?_;walk_at "w";exists ⟨_,_,rfl,hbd,sbd,k⟩
theorem Ai:sC ["_law_one","_law_other"] 2 qh:=by walk_at "d"
theorem Au (T:Txt K mg Z):T.kT.o P w base 3 (vw K):=by
 refine T.kT.F.k Ai ?_;walk_at "i";obtain ⟨p,q,xs,ys,rfl,hp,hq,hl,hz,h1,h2,kk⟩:=h;refine ⟨_,(au (aN (b7 ["_law_k"] ["_law_one","_law_other"] [0,1] (cF rfl T.range (df (bf aU (by rfl) T.len aQ (df bH)))) (λ_=>(fM 0)) (λ_=>cg) (λ_=>(cA (C2 T) hr T.mI (cB (aL (lE K (by rfl)) cz bH) (aL (lE K (by rfl)) eE bH))))))),?_⟩;walk_at "s";obtain ⟨us,gu,qu⟩:=id hp;obtain ⟨ws,gw,qw⟩:=id hq;have lu:=qu.length;exists ⟨_,_,rfl,.inl (bo.of gu),?_⟩;exists ⟨by lia,by lia,?_⟩;refine kG (n:=us.length) (cf K) (λi=>xs.getD i 0 - ys.getD i 0) (by lia) (λa b=>a.same b) ?_ ?_
 ·rintro i H' NY NN hi s k1;have ix:i < xs.length:=by lia
  have iy:i < ys.length:=by lia
  obtain ⟨vx,ex,nx⟩:=F5 (Paired.imp' (λ_ _ z=>z.same s) qu) ix;obtain ⟨vy,ey,ny⟩:=F5 (Paired.imp' (λ_ _ z=>z.same s) qw) iy;exists bS (bo.of (s _ _ gu)) ex ?_;exists bS (bo.of (s _ _ gw)) ey ?_;exists ⟨_,_,_,_,rfl,nx,ny,h1 _ (getD_mem ix),h2 _ (getD_mem iy),λr3 H3 s3 n3=>k1 _ _ s3 n3⟩
 ·rintro ys' H' l hl' s g pr nx;exact kk l H' hl' s ⟨ys',g,by rw[Gk (by lia)];rw[<- lu] at pr;exact pr⟩
theorem dI:sC ["_law_rows","_law_size","_law_rank","_law_place","_law_at","_law_k"] 2 m5:=by walk_at "d"
theorem qT (T:Txt K mg Z):T.gR.o P w base 4 (Bo K):=by
 refine T.gR.F.k dI ?_;walk_at "i";obtain ⟨p,n,w,a,H0,rows,rfl,G,r100,n100,hw,F,k⟩:=h
 refine ⟨_,(ak (mB 0 ["_law_row_here"] [] [] dI.nd rfl rfl (cL bH) (λ_=>(fM 0)) (λ_=>cg) (λ_=>(iM (oV K (by rfl)) (by rfl) T.list PyProof.Rows.boot_list (df bH))))
  (ak (fo 2 dI.nd aj)
  (ak (fB PassesOwn.never rfl (cF rfl T.range (df cz)) (fM 3 dI.nd)
   (ak (fo 4 dI.nd eE)
  (ak (uJ PassesOwn.never (PW.pt (gG (aW nY wY (bf aU (by rfl) T.len aQ (df bH)) (bg _)) (gF (aW (yV (Aw hr)) (aL bC (aL bC bH wY) jB) (dW (cB aj aj)) (bg _)))))
   (au (fo 4 dI.nd (br fD wY aj))))
  (au (cW (aW nY wY (bf aU (by rfl) T.len aQ (df bH)) (bg _)) (ak (fW (dW (cB (aL bC bH wY) (aL bC bH eE))) (yM rfl (b6 (fX bH eE set_list) (b6 (fX bH wY set_list) gH))))
  (ak (fW (cA (ug T) hr T.kC (cB (cA (CY T) hr T.mE (cB (dW (cB aj aj)) (aL bC (aL bC bH eE) jB))) (aL bC bH eE))) (fX bH eE set_list))
  (ak (fB PassesOwn.never rfl (cF rfl T.range (df (bf aU (by rfl) T.len aQ (df bH)))) (fM 5 dI.nd)
   (au (cW (PW.pt (gG (aW wC z9 eE (bg _)) (gF (aW (yT (Aw hr)) (aL bC (aL bC bH z9) jB) (dW (cB aj aj)) (bg _))))) (au (fW (cA (Au T) hr T.kT (cB (aL bC bH z9) (cA (ug T) hr T.kC (cB (aL bC (aL bC bH z9) jB) (aL bC bH eE))))) (fX bH z9 set_list))) bQ)))
  (au (fo 2 dI.nd (br fD eE aj)))))) bQ)))))
  (au (aN (m8 pL bH qj (qi eE))))))),?_⟩
 walk_at "s";obtain ⟨xs,gx,qx,_⟩:=id G;obtain ⟨_,_,_,_,_,_,_,r15,e39⟩:=id F;have szT:∀{D:Nat} {x:Rat},0 < D->D<=2^(min rows.length n*(w+4)+a)->Tp D (2^(min rows.length n*(w+4))) x->kd x:=λh0 h1 t=>oA t h0 (af h1 (ar (by decide) (by lia))) (ar (by decide) (by lia))
 have szP:∀{D D':Nat} {x y:Rat},0 < D->0 < D'->D<=2^(min rows.length n*(w+4)+a)->D'<=2^(min rows.length n*(w+4)+a)->Tp D (2^(min rows.length n*(w+4))) x->Tp D' (2^(min rows.length n*(w+4))) y->kd (x*y):=λh0 h0' h1 h1' t t'=>oA (t.mul t') (cx h0 h0') (af (aZ h1 h1') (by rw[<- bT];exact ar (by decide) (by lia))) (by rw[<- bT];exact ar (by decide) (by lia))
 exists ⟨⟨_,bo.of gx⟩,?_⟩;refine dH (K:=K) (F:=cS K H0) (cS K H) id gx qx (by lia) (λa b=>a.same b) (λa b=>a.same b) ?_ ?_
 ·rintro i ns x H' NY NN en s ⟨u,rfl,_,zs,gz,qz⟩ k1;exists ⟨u,zs,rfl,.inl (bo.of gz),λl1 hl1=>?_⟩;exact k1 _ _ (aA.new hl1) ⟨l1,rfl,s.none hl1,zs,az,Paired.imp' (λ_ _ z=>z.same (aA.new hl1)) qz⟩
 rintro ys1 H1 L hL s1 g1 pr1 nx1;rw[Nc] at pr1 nx1;have PR1:Paired (fq K H L H1) rows ys1:=IG pr1 (ij nx1);clear pr1 nx1;exists ⟨by lia,by lia,?_⟩;refine eF (n:=n) (λP σ' H'=>aA H H'/\∃rs ps y1 y2 y3 vs,σ'=[some (.ref L),some (.int n),some (.int ps.length),y1,y2,y3]/\H' L=some (.lst vs)/\Paired (fq K H L H') rs vs/\FY rows n P rs ps) ⟨s1,rows,[],_,_,_,ys1,rfl,g1,PR1,FY.start hw⟩ ?_ ?_
 ·rintro P σ' H' hP ⟨s',rs,ps,y1,y2,y3,vs,rfl,gL,pr,I⟩;have hl:=I.len;obtain ⟨km,kP⟩:=I.km;have lv:=pr.length;exists xC (λσ' H''=>aA H' H''/\∃t:Nat,σ'=[some (.ref L),some (.int n),some (.int ps.length),some (.int P),some (.int t),y3]/\ps.length<=t/\t<=rs.length/\∀s,ps.length<=s->s < t->bI rs s P=0) (λσ' _=>match σ' with | [_,_,_,_,some (.int v),_]=>rs.length - v.toNat | _=>0) ⟨aA.refl _,ps.length,rfl,ah _,by lia,λs h1 h2=>absurd h2 (by lia)⟩ ?_;rintro σ' Ha ⟨sa,t,rfl,kt,tl,hz⟩;have gLa:=sa _ _ gL;have pra:Paired (fq K H L Ha) rs vs:=Paired.imp' (λ_ _ z=>z.same sa) pr;exists ⟨_,_,rfl,.inl (bo.of gLa),?_⟩;rw[<- lv];exists jc (λh=>?_) (λh=>?_)
  ·have ht:t < rs.length:=by have:=of_decide_eq_true h;lia
   obtain ⟨xt,vt,et,evt,mt,qt,rfl,nqt,qtL,Rt⟩:=ff pra ht;have wt:=I.wide xt mt;obtain ⟨us,gu,qu⟩:=id Rt;obtain ⟨vx,ex,nx⟩:=F5 qu (j:=P) (by lia);have ext:rs.getD t []=xt:=by rw[aa,et];rfl
   have fx:bI rs t P=xt.getD P 0:=by unfold bI;rw[ext]
   exists bS (bo.of gLa) (dE evt) ?_;exists bS (bo.of gu) ex ?_;exists cM λt0 Hb sb gb=>?_
   have sab:=sa.trans sb;exists ⟨_,_,IX,xt.getD P 0,0,by decide,nx.same sb,cf.mk (q:=0) gb rfl,?_⟩;by_cases e0:xt.getD P 0=0
   ·rw[decide_eq_true e0];exists ⟨⟨sab,t+1,?_,by lia,by lia,λs h1 h2=>?_⟩,?_⟩
    ·rw[show ((t:Int)+1)=((t+1:Nat):Int) by lia];rfl
    ·by_cases e:s=t
     ·rw[e,fx];exact e0
     ·exact hz s h1 (by lia)
    ·show rs.length - ((t:Int)+1).toNat < rs.length - (t:Int).toNat
     lia
   ·rw[decide_eq_false e0];have hne:bI rs t P≠0:=by rw[fx];exact e0
    have gLb:=sb _ _ gLa;have prb:Paired (fq K H L Hb) rs vs:=Paired.imp' (λ_ _ z=>z.same sb) pra;have s0b:=s'.trans sab;clear pra gLa gu qu ex nx gb Rt;exists ⟨_,_,rfl,.inl (bo.of gLb),?_⟩;rw[<- lv];walk_at "w";rw[decide_eq_true (show (t:Int) < (rs.length:Int) by lia)];have hk:ps.length < rs.length:=by lia
    obtain ⟨xt',vt',et',evt',mt',Ft⟩:=ff prb ht;obtain ⟨xk,vk,ek,evk,mk,Fk⟩:=ff prb hk;rw[et] at et';cases et';have exk:rs.getD ps.length []=xk:=by rw[aa,ek];rfl
    exists bS (bo.of gLb) (dE evt') ?_;exists bS (bo.of gLb) (dE evk) ?_;exists cM λtp Hc sc gc=>?_
    have gLc:=sc _ _ gLb;have s0c:=s0b.trans sc;have prc:Paired (fq K H L Hc) rs vs:=Paired.imp' (λ_ _ z=>z.same sc) prb;have Ftc:=fq.same Ft sc;have Fkc:=fq.same Fk sc;exists d9 gLc (eN (by lia)) rfl ?_;have gLd:(upd Hc L (.lst (vs.set ps.length vt'))) L=some (.lst (vs.set ps.length vt')):=az;have s0d:aA H (upd Hc L (.lst (vs.set ps.length vt'))):=s0c.after hL;have prd:Paired (fq K H L (upd Hc L (.lst (vs.set ps.length vt')))) (rs.set ps.length xt) (vs.set ps.length vt'):=gI (Paired.imp' (λ_ _ z=>fq.upd z gLc) prc) _ (fq.upd Ftc gLc);have Fkd:=fq.upd (o:=.lst (vs.set ps.length vt')) Fkc gLc;generalize upd Hc L (.lst (vs.set ps.length vt'))=Hd at gLd s0d prd Fkd ⊢;exists d9 gLd (eN (by rw[cQ];lia)) rfl ?_;have gLe:(upd Hd L (.lst ((vs.set ps.length vt').set t vk))) L=some (.lst ((vs.set ps.length vt').set t vk)):=az;have s0e:aA H (upd Hd L (.lst ((vs.set ps.length vt').set t vk))):=s0d.after hL;have pre:Paired (fq K H L (upd Hd L (.lst ((vs.set ps.length vt').set t vk)))) ((rs.set ps.length xt).set t xk) ((vs.set ps.length vt').set t vk):=gI (Paired.imp' (λ_ _ z=>fq.upd z gLd) prd) _ (fq.upd Fkd gLd);generalize upd Hd L (.lst ((vs.set ps.length vt').set t vk))=He at gLe s0e pre ⊢;have sw:=Qj hk ht;rw[ext,exk] at sw;obtain ⟨rs1,ers1⟩:∃rs1,rs1=(rs.set ps.length xt).set t xk:=⟨_,rfl⟩;have l1:rs1.length=rs.length:=by rw[ers1,cQ,cQ]
    rw[<- ers1] at pre sw;have sk:iS ps.length t ps.length=t:=by unfold iS;rw[if_pos rfl]
    generalize (vs.set ps.length vt').set t vk=vs1 at gLe pre;clear gLb prb gLc prc Ftc Fkc gLd prd Fkd Ft Fk evt' evk ers1 gc sc;obtain ⟨x1,v1,e1,ev1,m1,q1,rfl,nq1,q1L,R1⟩:=ff pre (i:=ps.length) (by lia)
    have ex1:x1=xt:=by
     have:=sw ps.length;rw[sk,ext,aa,e1] at this;exact this
    subst ex1;obtain ⟨us1,gu1,qu1⟩:=id R1;obtain ⟨vx1,evx1,nx1⟩:=F5 qu1 (j:=P) (by lia);obtain ⟨Dt,Dt0,Dt1,Dt2⟩:=I.sz F (by lia) (i:=t) (by lia)
    have szt:∀y∈x1,kd y:=λy hy=>by
     obtain ⟨c,rfl⟩:=Di ext hy;exact szT Dt0 Dt1 (Dt2 c)
    have szx:kd (x1.getD P 0):=szt _ (getD_in (by lia));exists cM λtq Hf sf gf=>?_
    exists bS (bo.of (sf _ _ gLe)) (dE ev1) ?_;exists bS (bo.of (sf _ _ gu1)) evx1 ?_;exists ⟨_,_,1,x1.getD P 0,rfl,cf.mk (q:=1) gf rfl,nx1.same sf,Nv,szx,e0,λqr Hg sg nq=>?_⟩;have sfg:=sf.trans sg;exists bS (bo.of (sfg _ _ gLe)) (dE ev1) ?_;exists ⟨_,q1,1 / x1.getD P 0,x1,rfl,nq,Nw szx e0,R1.same sfg,by lia,szt,λur Hh nur sh Rur=>?_⟩;have seh:=sfg.trans sh;have gLh:=seh _ _ gLe;have prh:Paired (fq K H L Hh) rs1 vs1:=Paired.imp' (λ_ _ z=>z.same seh) pre;have lv1:=prh.length;have urL:ur≠L:=λz=>by rw[z,sfg _ _ gLe] at nur;cases nur
    have nur0:H ur=none:=(s0e.trans sfg).none nur;exists d9 gLh (eN (by lia)) rfl ?_;obtain ⟨Aq,eA⟩:∃Aq,Aq=rs1.set ps.length (A5 x1 P):=⟨_,rfl⟩;have gLi:(upd Hh L (.lst (vs1.set ps.length (.ref ur)))) L=some (.lst (vs1.set ps.length (.ref ur))):=az;have s0i:aA H (upd Hh L (.lst (vs1.set ps.length (.ref ur)))):=(s0e.trans seh).after hL
    have pri:Paired (fq K H L (upd Hh L (.lst (vs1.set ps.length (.ref ur))))) Aq (vs1.set ps.length (.ref ur)):=by
     rw[eA];exact gI (Paired.imp' (λ_ _ z=>fq.upd z gLh) prh) _ ⟨ur,rfl,nur0,urL,Rur.updL gLh urL⟩
    generalize upd Hh L (.lst (vs1.set ps.length (.ref ur)))=Hi at gLi s0i pri ⊢;have lA:Aq.length=rs.length:=by rw[eA,cQ,l1]
    have lvi:=pri.length;generalize vs1.set ps.length (.ref ur)=vs2 at gLi pri lvi;clear gLh prh gLe pre R1 gu1 qu1 nx1 gf nq Rur;have hB:=Ru (rs:=rs) (k:=ps.length) (t:=t) (P:=P);have Bv:=λi (hi:i < rs.length)=>PJ (rs:=rs) (k:=ps.length) (t:=t) (P:=P) hi
    rw[ext] at Bv
    have Av:∀i,i < rs.length->Aq.getD i []=if i=ps.length then A5 x1 P else rs.getD (iS ps.length t i) []:=λi hi=>by
     rw[eA,lH (by lia)]
     split
     ·rfl
     ·exact sw i
    have I2:FY rows n (P+1) (Fc rs ps.length t P) (ps++[P]):=I.step kt ht hne (by rw[hB,hl]) (OG I.wide hk ht) λi hi c=>Ro I.wide hk ht (by lia) c
    obtain ⟨Du,Du0,Du1,Du2⟩:=I2.sz F (by lia) (i:=ps.length) (by lia);have lur:(A5 x1 P).length=n:=by unfold A5;rw[ag];exact wt
    have bk:(Fc rs ps.length t P).getD ps.length []=A5 x1 P:=by rw[Bv _ hk,if_pos rfl]
    exists ⟨_,_,rfl,.inl (bo.of gLi),?_⟩;rw[<- lvi,lA];exists ⟨by lia,by lia,?_⟩;refine eF (n:=rs.length) (λs σ' H'=>aA H H'/\∃y vs',σ'=[some (.ref L),some (.int n),some (.int ps.length),some (.int P),some (.int t),y]/\H' L=some (.lst vs')/\Paired (fq K H L H') ((Fc rs ps.length t P).take s++Aq.drop s) vs') ⟨s0i,_,vs2,rfl,gLi,pri⟩ ?_ ?_
    ·rintro s σ' Hj hs ⟨sj,y,vs',rfl,gLj,prj⟩;have lj:=prj.length;rw[ao,bh,eV,hB,lA] at lj;have at':∀i,((Fc rs ps.length t P).take s++Aq.drop s)[i]?=if i < s then (Fc rs ps.length t P)[i]? else Aq[i]?:=λi=>Ed (by rw[lA,hB])
     walk_at "w";by_cases es:s=ps.length
     ·rw[decide_eq_true (show (s:Int)=(ps.length:Int) by lia)];exists ⟨sj,_,vs',rfl,gLj,?_⟩;rw[<- Iu (by rw[lA,hB]) ?_]
      ·exact prj
      ·have h1:=Av s hs;have h2:=Bv s hs;rw[if_pos es] at h1 h2;rw[ae (show s < Aq.length by lia),ae (show s < (Fc rs ps.length t P).length by lia)];rw[aa,ae (show s < Aq.length by lia)] at h1;rw[aa,ae (show s < (Fc rs ps.length t P).length by lia)] at h2;have h1:Aq[s]=A5 x1 P:=h1;have h2:(Fc rs ps.length t P)[s]=A5 x1 P:=h2;rw[h1,h2]
     ·rw[decide_eq_false (show ¬(s:Int)=(ps.length:Int) by lia)];obtain ⟨x2,v2,e2,ev2,m2,q2,rfl,nq2,q2L,R2⟩:=ff prj (i:=s) (by rw[ao,bh,eV,hB,lA];lia)
      have ex2:rs.getD (iS ps.length t s) []=x2:=by
       have h1:=Av s hs;rw[if_neg es] at h1;rw[at' s,if_neg (by lia)] at e2;rw[<- h1,aa,e2];rfl
      have w2:x2.length=n:=by rw[<- ex2];exact I.wide _ (getD_in (nQ hk ht hs))
      have B2:=Bv s hs;rw[if_neg es,ex2] at B2
      have eB2:(Fc rs ps.length t P)[s]?=some (List.zipWith (λx y=>x - y) x2 ((A5 x1 P).map λy=>x2.getD P 0*y)):=by
       rw[<- B2,aa,ae (show s < (Fc rs ps.length t P).length by lia)];rfl
      obtain ⟨us2,gu2,qu2⟩:=id R2;obtain ⟨vx2,evx2,nx2⟩:=F5 qu2 (j:=P) (by lia);obtain ⟨D2,D20,D21,D22⟩:=I.sz F (by lia) (i:=iS ps.length t s) (by rw[<- hl];exact nQ hk ht hs)
      have sz2:∀y∈x2,kd y:=λy hy=>by
       obtain ⟨c,rfl⟩:=Di ex2 hy;exact szT D20 D21 (D22 c)
      exists bS (bo.of gLj) (dE ev2) ?_;exists bS (bo.of gu2) evx2 ?_;exists cM λt2 Hk sk' gk=>?_
      exists ⟨_,_,IX,x2.getD P 0,0,by decide,nx2.same sk',cf.mk (q:=0) gk rfl,?_⟩;have gLk:=sk' _ _ gLj;have prk:Paired (fq K H L Hk) ((Fc rs ps.length t P).take s++Aq.drop s) vs':=Paired.imp' (λ_ _ z=>z.same sk') prj;by_cases ez:x2.getD P 0=0
      ·rw[decide_eq_true ez];exists ⟨sj.trans sk',_,vs',rfl,gLk,?_⟩;rw[<- Iu (by rw[lA,hB]) ?_]
       ·exact prk
       ·rw[eB2,ez,TV (by lia)];rw[at' s,if_neg (by lia)] at e2;exact e2
      ·rw[decide_eq_false ez];obtain ⟨x3,v3,e3,ev3,m3,q3,rfl,nq3,q3L,R3⟩:=ff prk (i:=ps.length) (by rw[ao,bh,eV,hB,lA];lia)
       have ex3:x3=A5 x1 P:=by
        rw[at' ps.length] at e3
        split at e3
        ·rw[<- bk,aa,e3];rfl
        ·have h1:=Av _ hk;rw[if_pos rfl] at h1;rw[<- h1,aa,e3];rfl
       subst ex3
       have szu:∀y∈A5 x1 P,kd y:=λy hy=>by
        obtain ⟨c,rfl⟩:=Di bk hy;exact szT Du0 Du1 (Du2 c)
       have R2k:=R2.same sk';exists bS (bo.of gLk) (dE ev2) ?_;exists bS (bo.of gLk) (dE ev2) ?_;exists bS (bo.of (sk' _ _ gu2)) evx2 ?_;exists bS (bo.of gLk) (dE ev3) ?_;exists ⟨_,q3,x2.getD P 0,A5 x1 P,rfl,nx2.same sk',sz2 _ (getD_in (by lia)),R3,by lia,szu,λr4 Hl n4 sl R4=>?_⟩;exists ⟨q2,r4,x2,_,rfl,R2k.same sl,R4,by rw[ag];lia,by lia,sz2,λy hy=>?_,λr5 Hm n5 sm R5=>?_⟩
       ·obtain ⟨y',hy',rfl⟩:=av.mp hy;obtain ⟨c,rfl⟩:=Di bk hy';have fz:bI rs (iS ps.length t s) P=x2.getD P 0:=by unfold bI;rw[ex2]
        have:=szP D20 Du0 D21 Du1 (D22 P) (Du2 c);rw[fz] at this;exact this
       have slm:=sl.trans sm;have gLm:=slm _ _ gLk;have r5L:r5≠L:=λz=>by rw[z,sl _ _ gLk] at n5;cases n5
       exists d9 gLm (eN (by lia)) rfl ?_;refine ⟨((sj.trans sk').trans slm).after hL,_,_,rfl,az,?_⟩;rw[<- Nt (by rw[lA,hB]) eB2];exact gI (Paired.imp' (λ_ _ z=>fq.upd (fq.same z slm) gLm) prk) s ⟨r5,rfl,((sj.trans sk').trans sl).none n5,r5L,R5.updL gLm r5L⟩
    ·rintro σ' Hj ⟨sj,y,vs',rfl,gLj,prj⟩;rw[aB (by lia),List.drop_eq_nil_of_le (by lia),eL] at prj;exists ⟨sj,_,ps++[P],some (.int P),some (.int t),y,vs',?_,gLj,prj,I2⟩;rw[ao,aO,show ((ps.length:Int)+1)=((ps.length+1:Nat):Int) by lia];rfl
  ·have te:t=rs.length:=by
    rcases aY t rs.length with z | z
    ·exact absurd (decide_eq_true (show (t:Int) < (rs.length:Int) by lia)) h
    ·lia
   exists ⟨_,_,rfl,.inl (bo.of gLa),?_⟩;rw[<- lv];walk_at "w";rw[decide_eq_false (show ¬(t:Int) < (rs.length:Int) by lia)];exists ⟨s'.trans sa,rs,ps,_,_,_,vs,rfl,gLa,pra,I.skip λi h1 h2=>hz i h1 (by lia)⟩
 rintro σ' H' ⟨s',rs,ps,y1,y2,y3,vs,rfl,gL,pr,I⟩;exists vP (bo.of gL) λsl H3 s3 n3 g3=>?_
 rw[Fw] at g3;exact k sl _ ps H3 (s'.none n3) (s'.trans s3) (BH (nX (Paired.imp' (λ_ _ z=>fq.rowF z) pr) ps.length) s3 n3 g3) (I.done hw) I.km.1
theorem nV:sC ["_law_one","_law_other","_law_total","_law_k"] 2 tY:=by walk_at "d"
theorem EW (T:Txt K mg Z):T.og.o P w base 3 (Cj K):=by
 refine T.og.F.k nV ?_;walk_at "i";obtain ⟨p,q,xs,ys,rfl,hp,hq,hl,hz,⟨k1,j1,k2,j2,h1,h2,hkj⟩,kk⟩:=h
 refine ⟨_,(ak (fo 2 nV.nd (dW (cB aj aj)))
  (ak (fB PassesOwn.never rfl (cF rfl T.range (df (bf aU (by rfl) T.len aQ (df bH)))) (fM 3 nV.nd)
   (au (fo 2 nV.nd (cA (nZ T) hr T.iL (cB eE (cA (mC T) hr T.gN (cB (aL bC bH jB) (aL bC cz jB))))))))
  (au (aN eE)))),?_⟩
 walk_at "s";obtain ⟨us,gu,qu⟩:=id hp;obtain ⟨ws,gw,qw⟩:=id hq;have lu:=qu.length;have lw:=qw.length;exists cM λr0 H0 s0 g0=>?_
 exists ⟨_,_,rfl,.inl (bo.of (s0 _ _ gu)),?_⟩;exists ⟨by lia,by lia,?_⟩;refine eF (n:=us.length) (λi σ' H'=>aA H H'/\∃(r:V) (v:Option V),σ'=[some (.ref p),some (.ref q),some r,v]/\cf K H' (eI (xs.take i) (ys.take i)) r) ⟨s0,_,none,rfl,cf.mk g0 rfl⟩ ?_ ?_
 ·rintro i σ' H' hi ⟨s,r,v,rfl,hr⟩;have ix:i < xs.length:=by lia
  have iy:i < ys.length:=by lia
  obtain ⟨vx,ex,nx⟩:=F5 (Paired.imp' (λ_ _ z=>z.same s) qu) ix;obtain ⟨vy,ey,ny⟩:=F5 (Paired.imp' (λ_ _ z=>z.same s) qw) iy;exists bS (bo.of (s _ _ gu)) ex ?_;exists bS (bo.of (s _ _ gw)) ey ?_;exists ⟨_,_,_,_,rfl,nx,ny,h1.szn (getD_mem ix) (by lia),h2.szn (getD_mem iy) (by lia),λr3 H3 s3 n3=>?_⟩;exists ⟨_,_,_,_,rfl,hr.same s3,n3,MG h1 h2 hz i hkj,LX (h1.one (getD_mem ix)) (h2.one (getD_mem iy)) hkj,λr4 H4 s4 n4=>?_⟩;exists ⟨(s.trans s3).trans s4,_,_,rfl,by rw[BO ix iy];exact n4⟩
 ·rintro σ' H' ⟨s,r,v,rfl,hr⟩;rw[aB (by lia),aB (by lia)] at hr;obtain ⟨t,rfl,ht⟩:=hr;exists kk _ H' s ⟨t,rfl,ht⟩
theorem GG:sC ["_law_grid","_law_row_here"] 2 vM:=by walk_at "d"
theorem uf (T:Txt K mg Z):T.kB.o P w base 4 (Ci K):=by
 refine T.kB.F.k GG ?_;walk_at "i";obtain ⟨p,q,H0,rows,ys,rfl,hp,hq,hz,hl,hr1,kk⟩:=h;refine ⟨_,(au (aN (b7 ["_law_one"] ["_law_row_here"] [1] (cL bH) (λ_=>(fM 0)) (λ_=>cg) (λ_=>(cA (EW T) hr T.og (cB bH cz)))))),?_⟩;walk_at "s";obtain ⟨xs,gx,qx,_⟩:=id hp;exists ⟨⟨_,bo.of gx⟩,?_⟩;refine dH (K:=K) (F:=cS K H0) (cf K) (λxs=>eI xs ys) gx qx hz (λa b=>a.same b) (λa b=>a.same b) ?_ ?_
 ·rintro i ns x H' NY NN en s ⟨u,rfl,_,hu⟩ k;obtain ⟨e1,e2⟩:=hr1 ns (ai en);exists ⟨u,q,ns,ys,rfl,hu,hq.same s,e1.symm,by lia,e2,λr H2 s2 h2'=>k _ _ s2 h2'⟩
 ·rintro ys' H' r hr s g pr nx;exact kk r H' hr s ⟨ys',g,pr⟩
theorem gY:sC ["_law_parts_here","_law_rows","_law_some","_law_k"] 1 pZ:=by walk_at "d"
theorem tE (T:Txt K mg Z):T.jb.o P w base 5 (yp K):=by
 refine T.jb.F.k gY ?_;walk_at "i";obtain ⟨r,a,c,H0,Hz,mv,pt,lk,rfl,PQ,D,KF,z0,z1,k⟩:=h
 refine ⟨_,(ak (fo 1 gY.nd (ib kz))
  (ak (fo 2 gY.nd (iM mJ (by rfl) T.list PyProof.Rows.boot_list (df (aL bE bH aj))))
  (ak (fB PassesOwn.never rfl (cF rfl T.range (df (bf aU (by rfl) T.len aQ (df (aL bE bH aj))))) (fM 3 gY.nd)
   (ak (fo 1 gY.nd (br oR cz eE))
  (au (mB 2 ["_law_row_here"] ["_law_parts_here"] [0] gY.nd rfl rfl (cL eE) (λ_=>(fM 0)) (λ_=>cg) (λ_=>(cA (uf T) hr T.kB (cB (aL (uU K (by rfl)) cz aj) bH)))))))
  (au (aN cz))))),?_⟩
 walk_at "s";obtain ⟨m,p,l,g,n1,n2,n3,Gm,Gp,Gl⟩:=id PQ;obtain ⟨ms,gm,qm,_⟩:=id Gm;obtain ⟨qs,gp,qp,_⟩:=id (Gp.weakN z0);have lms:=qm.length;have lqs:=qp.length;have d8:=D.n8;have i4:=D.i4;exists fg λro H1 s1 nro g1=>?_
 have gr1:=s1 _ _ g;have gp1:=s1 _ _ gp;exists ⟨p,qs,rfl,.inl (bo.of gp1),λso nso=>?_⟩;have s2:aA H1 (upd H1 so (.lst qs)):=aA.new nso;have g2:(upd H1 so (.lst qs)) so=some (.lst qs):=az;generalize upd H1 so (.lst qs)=H2 at s2 g2 ⊢;have s02:=s1.trans s2;have gr2:=s02 _ _ g;exists ⟨_,_,rfl,.inl (bo.of (s02 _ _ gm)),?_⟩;rw[<- lms];exists ⟨by lia,by lia,?_⟩;have q1:Paired (cS K Hz H1) pt qs:=Paired.imp' (λ_ _ z=>cS.same z s1) qp;refine eF (n:=mv.length) (λj σ' H'=>aA H H'/\∃ro so y,σ'=[some (.ref r),some (.ref ro),some (.ref so),y]/\H ro=none/\bx K Hz H' ro (fQ mv pt j)/\bx K Hz H' so (pt.map (jH mv j))) ⟨s02,ro,so,_,rfl,nro,⟨[],s2 _ _ g1,.nil,(λz=>nomatch z)⟩,⟨qs,g2,?_,ij ⟨_,nso,q1⟩⟩⟩ ?_ ?_
 ·rw[show pt.map (jH mv 0)=pt from List.map_id' ..];exact Paired.imp' (λ_ _ z=>cS.same z s2) q1
 ·rintro j σ' H' hj ⟨s',ro,so,y,rfl,nro,Ga,Gb⟩;obtain ⟨xs,ga,qa,_⟩:=id Ga;obtain ⟨ys,gb,qb,_⟩:=id Gb;have lxs:=qa.length;have lys:=qb.length;rw[xO] at lxs;rw[ag] at lys;have b1:j*pt.length<=8*4:=aZ (by lia) i4;exists oP ga gb j7 λl3 H3 s3 n3 g3=>?_
  have q3:=bR qa qb
  have G3:bx K Hz H3 l3 (fQ mv pt (j+1)):=by
   rw[E6];exact ⟨_,g3,Paired.imp' (λ_ _ z=>cS.same z s3) q3,ij ⟨_,n3,q3⟩⟩
  have Gb3:=Gb.same s3;obtain ⟨zs,gz,qz,_⟩:=id Gb3;have s03:=s'.trans s3;have gr3:=s03 _ _ g;exists ⟨⟨_,bo.of gz⟩,?_⟩;refine dH (K:=K) (F:=cS K Hz) (cS K Hz) (lY mv) gz qz (by rw[ag];lia) (λa b=>a.same b) (λa b=>a.same b) ?_ ?_
  ·rintro i xs v H4 NY NN en s4 ⟨u,rfl,_,hu⟩ k1;have mn:=ai en
   have wx:xs.length=mv.length:=by
    obtain ⟨y0,h0,rfl⟩:=av.mp mn;exact CL (D.pw y0 h0) _
   have gr4:=s4 _ _ gr3;exists ⟨m,u,H0,mv,xs,rfl,(Gm.same s03).same s4,hu,by lia,by lia,λws hw=>⟨by rw[D.mw ws hw,wx],KF.fitP D.mw D.pw (show j+1<=mv.length by lia) ws hw xs mn⟩,λr5 H5 n5 s5 R5=>k1 _ _ s5 ⟨r5,rfl,z1 _ (s03.none (s4.none n5)),R5⟩⟩
  rintro ys4 H4 l4 n4 s4 g4 pr4 nx4;walk_at "w";rw[LL] at pr4;exact ⟨s03.trans s4,l3,l4,_,rfl,s'.none n3,G3.same s4,ys4,g4,pr4,ij nx4⟩
 ·rintro σ' H' ⟨s',ro,so,y,rfl,nro,Ga,Gb⟩;exists k ro H' nro s' Ga
theorem rH:sC ["_law_parts_here","_law_n"] 1 oJ:=by walk_at "d"
theorem zg (T:Txt K mg Z):T.jT.o P w base 1 (ym K):=by
 refine T.jT.F.k rH ?_;walk_at "i";obtain ⟨r,H0,mv,pt,lk,rfl,PQ,D,hn,k⟩:=h
 refine ⟨_,(ak (fo 1 rH.nd (bf aU (by rfl) T.len aQ (df (aL bE bH aj))))
  (au (aN (dW (CP (b7 ["_law_j"] ["_law_parts_here"] [0] (cF rfl T.range (df cz)) (λ_=>(fM 0)) (λ_=>cg) (λ_=>(b7 ["_law_row_here"] ["_law_j"] [0] (yL K (aL (uU K (by rfl)) cz aj)) (λ_=>(fM 0)) (λ_=>cg) (λ_=>(aL (lE K (by rfl)) bH cz))))) (aL bE bH aj) (aL bE bH aj)))))),?_⟩
 walk_at "s";obtain ⟨m,p,l,g,n1,n2,n3,Gm,Gp,Gl⟩:=id PQ;have d1:=D.n8;obtain ⟨ms,gm,qm,_⟩:=id Gm;have lms:=qm.length;exists ⟨_,_,rfl,.inl (bo.of gm),?_⟩;rw[<- lms];exists ⟨by lia,by lia,?_⟩;refine kG (n:=mv.length) (cS K H) (λj=>mv.map λxs=>xs.getD j 0) (by lia) (λa b=>a.same b) ?_ ?_
 ·rintro i Ha NY NN hi sa k1;have ga:=sa _ _ g;have gma:=sa _ _ gm;exists ⟨⟨_,bo.of gma⟩,?_⟩;refine dH (K:=K) (F:=cS K H0) (cf K) (λxs=>xs.getD i 0) gma (Paired.imp' (λ_ _ z=>cS.same z sa) qm) (by lia) (λa b=>a.same b) (λa b=>a.same b) ?_ ?_
  ·rintro j row v Hb NY2 NN2 en sb ⟨q,rfl,_,Rq⟩ k2;obtain ⟨zs,gz,qz⟩:=id Rq;obtain ⟨vx,ex,nx⟩:=F5 qz (j:=i) (by rw[D.mw row (ai en)];exact hi);exists bS (bo.of gz) ex ?_;exact k2 _ _ (aA.refl _) nx
  ·rintro ys Hb t ht sb g' pr nx;exact k1 _ _ sb ⟨t,rfl,sa.none ht,ys,g',pr⟩
 rintro ys H1 t ht s1 g1 pr nx;have g1t:=s1 _ _ g;exists cM λt2 H2 s2 g2=>?_
 have s12:=s1.trans s2;have Gt:bx K H0 H2 t (bu mv mv.length):=⟨ys,s2 _ _ g1,Paired.imp' (λ_ _ ⟨q,a,b,c⟩=>⟨q,a,hn q b,c.same s2⟩) pr,ij nx⟩;exact k t2 H2 s12 ⟨t,l,p,g2,hn t ht,n3,n2,Gt,Gl.same s12,Gp.same s12⟩
theorem Co:sC ["row","bottom"] 2 rL:=by walk_at "d"
theorem jL (T:Txt K mg Z):T.fG.o P w base 1 (Ei K):=by
 refine T.fG.F.k Co ?_;walk_at "i";obtain ⟨p,ns,M,B,rfl,hp,hl,hz,hB,sB,q⟩:=h;refine ⟨_,(au (aN (b7 ["value"] ["bottom"] [1] (cL bH) (λ_=>(fM 0)) (λ_=>cg) (λ_=>(br cw (aL (uU K (by rfl)) bH aj) (br jK cz (aL (uU K (by rfl)) bH aj))))))),?_⟩;walk_at "s";obtain ⟨xs,gx,qx⟩:=id hp;have lx:=qx.length;exists ⟨⟨_,bo.of gx⟩,?_⟩;refine eT (K:=K) (xs:=xs) (λi ys H'=>H'=H/\ys=(dD (ns.take i) B).map V.int) j7 ⟨rfl,rfl⟩ (λi ys H' _ ⟨e,_⟩=>by subst e;exact bo.of gx) ?_ ?_
 ·rintro i x ys H' hx hlen ⟨rfl,rfl⟩;obtain ⟨n,en,r,rfl,hr1⟩:=bN qx hx;have nz:=hz.2.2 n (ai en);have sn:Sz 4400 n.2:=Dj hz.1 nz.2.1 hz.2.1;exists eZ (show qW _ _ from ⟨by lia,sn.mono (by decide)⟩) ?_;rw[cp _ (by lia)]
  have sq:Sz 4400 (B / n.2):=sB.le (by
   rw[RW (by lia)];exact Nat.div_le_self ..)
  exists eZ (show eK _ _ from .inr ⟨_,_,nz.2.2,sq,by decide⟩) ?_;exact ⟨rfl,by rw[take_snoc en];simp [dD]⟩
 ·rintro ys H' hy ⟨rfl,rfl⟩ l hl';exact q l _ hl' (aA.new hl') (by rw[az,aB (by lia)])
theorem gD:sC ["wholes","multiple","whole"] 1 jF:=by walk_at "d"
theorem ue (T:Txt K mg Z):T.gM.o P w base 2 (Li K):=by
 refine T.gM.F.k gD ?_;walk_at "i";obtain ⟨p,bs,M,rfl,hp,hM,sM,hb,q⟩:=h
 refine ⟨_,(ak (fo 1 gD.nd aj)
  (ak (fB PassesOwn.never rfl (cL bH) (fM 2 gD.nd)
   (au (fo 1 gD.nd (br cw cz (br jK eE (cA (jM T) hr T.eo (cB cz eE)))))))
  (au (aN cz)))),?_⟩
 walk_at "s";exists ⟨⟨_,hp⟩,?_⟩;refine sH (K:=K) (a:=p) (xs:=bs.map V.int) (λi σ' H'=>H'=H/\∃x,σ'=[some (.ref p),some (.int (vV (bs.take i) 1)),x]) ⟨rfl,none,rfl⟩ (λi σ' H' _ ⟨e,_⟩=>by subst e;exact hp) ?_ ?_
 ·rintro i x σ' H' hx ⟨rfl,y,rfl⟩;rw[aD] at hx
  obtain ⟨b,eb,rfl⟩:∃b,bs[i]?=some b/\x=.int b:=by
   cases e:bs[i]? with
   | none=>rw[e] at hx;cases hx
   | some b=>rw[e] at hx;cases hx;exact ⟨b,rfl,rfl⟩
  have b1:=hb b (ai eb);have sb:Sz 4400 b:=Dj hM b1.2 sM;have ht:∀c∈bs.take i,0 < c/\c∣M:=λc hc=>hb c (bU hc)
  have msz:Sz 4400 (vV (bs.take i) 1):=Dj hM (xN (by decide) (Int.one_dvd _) ht) sM;generalize hm:vV (bs.take i) 1=m at msz ⊢;have gp:0 < g m b:=zD (by lia);exists ⟨m,b,rfl,?_⟩;exists eZ (show qW _ _ from ⟨by lia,(Ud b1.1 sb).mono (by decide)⟩) ?_;rw[cp _ (by lia)];exists eZ (show eK _ _ from .inr ⟨_,_,msz,sb.hi (t:=m) (by lia),by decide⟩) ?_;exists ⟨rfl,_,by rw[take_snoc eb,BD,hm];rfl⟩
 ·rintro σ' H' ⟨rfl,y,rfl⟩;walk_at "w";rw[aB (by simp)];exact q
theorem vC:sC ["row"] 1 lW:=by walk_at "d"
theorem fY (T:Txt K mg Z):T.du.o P w base 3 (Lj K):=by
 refine T.du.F.k vC ?_;walk_at "i";obtain ⟨p,ns,M,rfl,hp,hl,hz,q⟩:=h;refine ⟨_,(au (aN (cA (ue T) hr T.gM (df (b7 ["value"] [] [] (cL bH) (λ_=>(fM 0)) (λ_=>cg) (λ_=>(aL (uU K (by rfl)) bH aj))))))),?_⟩;walk_at "s";obtain ⟨xs,gx,qx⟩:=id hp;have lx:=qx.length;exists ⟨⟨_,bo.of gx⟩,?_⟩;refine eT (K:=K) (xs:=xs) (λi ys H'=>H'=H/\ys=((ns.take i).map (·.2)).map V.int) j7 ⟨rfl,rfl⟩ (λi ys H' _ ⟨e,_⟩=>by subst e;exact bo.of gx) ?_ ?_
 ·rintro i x ys H' hx hlen ⟨rfl,rfl⟩;obtain ⟨n,en,r,rfl,hr1⟩:=bN qx hx;exists ⟨rfl,by rw[take_snoc en];simp⟩
 ·rintro ys H' hy ⟨rfl,rfl⟩ l hl';exists ⟨l,ns.map (·.2),M,rfl,bo.of (by rw[az,aB (by lia)]),hz.1,hz.2.1,λb hb=>?_,?_⟩
  ·obtain ⟨n,hn,rfl⟩:=av.mp hb;exact ⟨(hz.2.2 n hn).1,(hz.2.2 n hn).2.1⟩
  ·exact q _ (aA.new hl')
theorem tu:sC ["lines","begin","place","at"] 3 pW:=by walk_at "d"
theorem An (T:Txt K mg Z):T.kN.o P w base 1 Bq:=by
 refine T.kN.F.k tu ?_;walk_at "i";obtain ⟨l,p,ls,b,c,rfl,G,l1000,b1000,hc,k1,k2⟩:=h
 refine ⟨_,(ak (fB PassesOwn.never rfl (JS rfl T.range (cB cz (bf aU (by rfl) T.len aQ (df bH)))) (fM 3 tu.nd)
   (au (cW (aW wC (aL bC (aL bC bH jB) eE) aj (bg _)) (au (aN jB)) bQ)))
  (au (aN yN))),?_⟩
 walk_at "s";obtain ⟨_,xs,gx,qx⟩:=id G;have lx:=qx.length;exists ⟨_,_,rfl,.inl (bo.of gx),?_⟩;rw[<- lx];exists ⟨⟨by lia,by lia,by lia,by lia⟩,?_⟩;refine BK (lo:=(b:Int)) (n:=((ls.length:Int) - (b:Int)).toNat) (λi σ' H'=>H'=H/\(∃y,σ'=[some (.ref p),some (.int b),some (.int c),y])/\∀s,b<=s->s < b+i->d5 ls s c=0) ⟨rfl,⟨_,rfl⟩,λs h1 h2=>absurd h2 (by lia)⟩ ?_ ?_
 ·rintro i σ' H' hi ⟨rfl,⟨y,rfl⟩,hz⟩;rw[show ((b:Int)+(i:Int))=((b+i:Nat):Int) by lia];obtain ⟨zs,v,ez,ev,mz,q,rfl,_,gq⟩:=ff qx (i:=b+i) (by lia);exists bS (bo.of gx) (dE ev) ?_;exists bS (bo.of gq) (D9 (hc zs mz)) ?_;walk_at "w";have ef:=P1 (c:=c) ez;by_cases e:zs.getD c 0=0
  ·rw[decide_eq_true e];exists ⟨rfl,⟨_,rfl⟩,λs h1 h2=>?_⟩;by_cases e2:s=b+i
   ·rw[e2,ef,e];rfl
   ·exact hz s h1 (by lia)
  ·rw[decide_eq_false e];exists k1 (b+i) (by lia) (by lia) (by rw[ef];exact TX.mpr e)
 ·rintro σ' H' ⟨rfl,⟨y,rfl⟩,hz⟩;exists k2 λt h1 h2=>hz t h1 (by lia)
theorem pO:sC ["lines","at","place","before","used","by","swept"] 4 vL:=by walk_at "d"
theorem GV (T:Txt K mg Z):T.qD.o P w base 1 Br:=by
 refine T.qD.F.k pO ?_;walk_at "i";obtain ⟨l,p,ls,kk,c,n,b,rfl,hl,G,l1000,hk,hw,n1000,hc,b0,sb,hs,k⟩:=h
 refine ⟨_,(ak (fo 4 pO.nd (aL bC bH cz))
  (ak (fo 5 pO.nd (aL bC wY eE))
  (ak (mB 6 ["line"] ["used","by","place","before"] [4,5,2,3] pO.nd rfl rfl (cL bH) (λ_=>(fM 0)) (λ_=>cg) (λ_=>(b7 ["mine","yours"] ["by","line","place","before"] [2,0,3,4] (LN K rfl T.zip (cB bH cz)) (λ_=>(jI K 2 (b6 (fM 0) (b6 (fM 1) gH)))) (λ_=>cg) (λ_=>(br jK (br ni (br cw eE bH) (br cw (aL (lE K (by rfl)) jB wY) cz)) z9)))))
  (ak (fW wY (fX uu cz set_list))
  (au (aN uu)))))),?_⟩
 walk_at "s";obtain ⟨pl,xs,gx,qx⟩:=id G;have lx:=qx.length;obtain ⟨zk,vk,ek,evk,mk,qk,rfl,qkl,gk⟩:=ff qx hk;have wk:=hw zk mk;have ek':ls.getD kk []=zk:=by rw[aa,ek];rfl
 exists bS (bo.of gx) (dE evk) ?_;exists bS (bo.of gk) (D9 (by lia)) ?_;exists ⟨⟨_,bo.of gx⟩,?_⟩;refine eT (K:=K) (xs:=xs) (λi ys H'=>aA H H'/\Paired (Jt l H') ((ls.take i).map λzs=>List.zipWith (λx y=>(zk.getD c 0*x - zs.getD c 0*y).fdiv b) zs zk) ys) j7 ⟨aA.refl _,.nil⟩ (λi ys H' _ ⟨s,_⟩=>bo.of (s _ _ gx)) ?_ ?_
 ·rintro i v ys0 H' hx hlen ⟨s',pr⟩;obtain ⟨zs,ec,q,rfl,ql,gq⟩:=bN qx hx;have mz:=ai ec;have wz:=hw zs mz;have gq':=s' _ _ gq;have gk':=s' _ _ gk;exists ⟨⟨_,bo.of gq'⟩,⟨_,bo.of gk'⟩,?_⟩;refine nG (K:=K) (xs:=zs.map V.int) (ws:=zk.map V.int) (λj ys H2=>aA H' H2/\ys=((List.zipWith (λx y=>(zk.getD c 0*x - zs.getD c 0*y).fdiv b) zs zk).take j).map V.int) (c6 (dF (by rw[ag];lia))) (by rw[ag,ag];lia) ⟨aA.refl _,rfl⟩ (λj ys H2 _ ⟨s2,_⟩=>⟨bo.of (s2 _ _ gq'),bo.of (s2 _ _ gk')⟩) ?_ ?_
  ·rintro j v1 v2 ys H2 r h1 h2 hy ⟨s2,rfl⟩ hr
   obtain ⟨x,ex,rfl⟩:∃x,zs[j]?=some x/\V.int x=v1:=by
    rw[aD] at h1;cases e:zs[j]? with
    | none=>rw[e] at h1;cases h1
    | some x=>rw[e] at h1;exact ⟨x,rfl,bO h1⟩
   obtain ⟨y,ey,rfl⟩:∃y,zk[j]?=some y/\V.int y=v2:=by
    rw[aD] at h2;cases e:zk[j]? with
    | none=>rw[e] at h2;cases h2
    | some x=>rw[e] at h2;exact ⟨x,rfl,bO h2⟩
   have sr:aA H2 (upd H2 r (.tup [.int x,.int y])):=aA.new hr;have gr:(upd H2 r (.tup [.int x,.int y])) r=some (.tup [.int x,.int y]):=az;generalize upd H2 r (.tup [.int x,.int y])=H3 at sr gr ⊢;have gq3:=sr _ _ (s2 _ _ gq');have sx:=hs zs mz x (ai ex);have sy:=hs zk mk y (ai ey);have s1:=hs zk mk _ (getD_in (e:=0) (show c < zk.length by lia));have s3:=hs zs mz _ (getD_in (e:=0) (show c < zs.length by lia));exists eZ (show eK _ _ from .inr ⟨_,_,s1,sx,by decide⟩) ?_;exists bS (bo.of gq3) (D9 (by lia)) ?_;exists eZ (show eK _ _ from .inr ⟨_,_,s3,sy,by decide⟩) ?_;exists eZ (show qW _ _ from ⟨b0,sb⟩) ?_;have ez:(List.zipWith (λx y=>(zk.getD c 0*x - zs.getD c 0*y).fdiv b) zs zk)[j]?=some ((zk.getD c 0*x - zs.getD c 0*y).fdiv b):=by rw[bW,ex,ey]
   exact ⟨s2.trans sr,by rw[take_snoc ez];simp⟩
  ·rintro ys H2 hy ⟨s2,rfl⟩ r hr;have sn:aA H2 (upd H2 r (.lst (((List.zipWith (λx y=>(zk.getD c 0*x - zs.getD c 0*y).fdiv b) zs zk).take (zs.map V.int).length).map V.int))):=aA.new hr;refine ⟨(s'.trans s2).trans sn,?_⟩;rw[take_snoc ec,dm];refine bR (Paired.imp' (λ_ _ z=>(Jt.same z s2).same sn) pr) (.cons ⟨r,rfl,ne_old (λz=>hl (s'.none (s2.none z))) hr,?_⟩ .nil);rw[az,aB (by rw[aV,ag];lia)]
 ·rintro ys H1 hy ⟨s1,pr⟩ r hr;have sn:aA H1 (upd H1 r (.lst ys)):=aA.new hr;have gn:(upd H1 r (.lst ys)) r=some (.lst ys):=az;have ly:=pr.length;rw[ag,bh] at ly;generalize upd H1 r (.lst ys)=H2 at sn gn ⊢;exists d9 gn (eN (by lia)) rfl ?_;have s2:aA H1 (upd H2 r (.lst (ys.set kk (.ref qk)))):=sn.after hr;exists k r _ (s1.none hr) (s1.trans s2) ⟨ne_old (λz=>hl (s1.none z)) hr,_,az,?_⟩;unfold Fy;rw[ek'];rw[aB (by lia)] at pr;exact gI (Paired.imp' (λ_ _ z=>Jt.same z s2) pr) kk ⟨qk,rfl,qkl,(s1.trans s2) _ _ gk⟩
theorem tw:sC ["lines","at","to","swapped"] 3 pX:=by walk_at "d"
theorem Ao (T:Txt K mg Z):T.kO.o P w base 1 wA:=by
 refine T.kO.F.k tw ?_;walk_at "i";obtain ⟨l,p,ls,t,kk,rfl,hl,G,l1000,ht,hk,k⟩:=h
 refine ⟨_,(ak (fo 3 tw.nd (iM mJ (by rfl) T.list PyProof.Rows.boot_list (df bH)))
  (ak (fW (aL bC bH cz) (fX jB eE set_list))
  (ak (fW (aL bC bH eE) (fX jB cz set_list))
  (au (aN jB))))),?_⟩
 walk_at "s";obtain ⟨pl,xs,gx,qx⟩:=id G;have lx:=qx.length;obtain ⟨zt,vt,et,evt,_,Ft⟩:=ff qx ht;obtain ⟨zk,vk,ek,evk,_,Fk⟩:=ff qx hk;exists ⟨p,xs,rfl,.inl (bo.of gx),λc hc=>?_⟩;have sc:aA H (upd H c (.lst xs)):=aA.new hc;have gc:(upd H c (.lst xs)) c=some (.lst xs):=az;generalize upd H c (.lst xs)=Hc at sc gc ⊢;exists bS (bo.of (sc _ _ gx)) (dE evt) ?_;exists d9 gc (eN (by lia)) rfl ?_;have s1:aA H (upd Hc c (.lst (xs.set kk vt))):=sc.after hc;have g1:(upd Hc c (.lst (xs.set kk vt))) c=some (.lst (xs.set kk vt)):=az;generalize upd Hc c (.lst (xs.set kk vt))=H1 at s1 g1 ⊢;exists bS (bo.of (s1 _ _ gx)) (dE evk) ?_;exists d9 g1 (eN (by rw[cQ];lia)) rfl ?_;have s2:aA H (upd H1 c (.lst ((xs.set kk vt).set t vk))):=s1.after hc;exists k c _ hc s2 ⟨ne_old hl hc,_,az,?_⟩;have et':ls.getD t []=zt:=by rw[aa,et];rfl
 have ek':ls.getD kk []=zk:=by rw[aa,ek];rfl
 unfold pK;rw[et',ek'];exact gI (gI (Paired.imp' (λ_ _ z=>Jt.same z s2) qx) kk (Jt.same Ft s2)) t (Jt.same Fk s2)
theorem jC:sC ["rows","wide","lines","leads","before","place","many","at"] 2 CB:=by walk_at "d"
theorem ES (T:Txt K mg Z):T.sv.o P w base 4 (Bf K):=by
 refine T.sv.F.k jC ?_;walk_at "i";obtain ⟨p,n,w,H0,rows,rfl,G,r100,n100,hw,F,k⟩:=h
 refine ⟨_,(ak (mB 2 ["row"] [] [] jC.nd rfl rfl (cL bH) (λ_=>(fM 0)) (λ_=>cg) (λ_=>(cA (jL T) hr T.fG (cB bH (cA (fY T) hr T.du (df bH))))))
  (ak (fo 3 jC.nd (ib kz))
  (ak (fo 4 jC.nd aj)
  (ak (fB PassesOwn.never rfl (cF rfl T.range (df cz)) (fM 5 jC.nd)
   (ak (fo 6 jC.nd (bf aU (by rfl) T.len aQ (df jB)))
  (ak (fo 7 jC.nd (cA (An T) hr T.kN (CP eE uu z9)))
  (au (cW (aW CQ Aj yN (bg _)) (ak (fo 2 jC.nd (cA (GV T) hr T.qD (Oe (cA (Ao T) hr T.kO (CP eE Aj uu)) uu z9 wY)))
  (ak (fo 4 jC.nd (aL bC (aL bC eE uu) z9))
  (au (je (By fJ fk fj mS jB (df z9)))))) bQ)))))
  (au (aN (dW (cB (m8 pL eE qj (qi (bf aU (by rfl) T.len aQ (df jB)))) jB)))))))),?_⟩
 walk_at "s";obtain ⟨xs,gx,qx,_⟩:=id G;obtain ⟨W,hW,W2,ent⟩:=F.ent;obtain ⟨_,_,_,_,_,_,_,_,r15,r89⟩:=id F;exists ⟨⟨_,bo.of gx⟩,?_⟩;refine dH (K:=K) (as:=rows) (F:=cS K H0) (λ(H:Hp) (zs:List Int) (v:V)=>∃q,v=V.ref q/\H q=some (.lst (zs.map V.int))) iw gx qx (by lia) (λa b=>a.same b) (λ⟨q,a,b⟩ s=>⟨q,a,s _ _ b⟩) ?_ ?_
 ·rintro i qs v H' NY NN ec s' ⟨u,rfl,_,R⟩ k1;have mx:=ai ec;obtain ⟨M,hM⟩:=F.rowM mx;obtain ⟨b1,sb⟩:=hM.bot;have lq:(qs.map nm).length<=1000:=by rw[ag,hw qs mx];lia
  exists ⟨u,_,M,rfl,R.rowK,lq,hM,λH2 s2=>?_⟩;exists ⟨u,_,M,_,rfl,(R.same s2).rowK,lq,hM,b1,sb,λr H3 n3 s3 g3=>k1 _ _ (s2.trans s3) ⟨r,rfl,g3⟩⟩
 rintro ys H1 lp0 hlp s1 g1 pr1 nx1;exists fg λqp H2 s2 nq gq=>?_
 have G2:sR qp H2 lp0 (rows.map iw):=⟨(λz=>by rw[z,nq] at g1;cases g1),ys,s2 _ _ g1,Paired.imp' (λ_ _ ⟨q,a,b⟩=>⟨q,a,(λz=>by rw[z,nq] at b;cases b),s2 _ _ b⟩) pr1⟩;have hq0:H qp=none:=s1.none nq;have s02:=s1.trans s2;have hm:(rows.map iw).length=rows.length:=ag ..;clear g1 pr1 nx1;exists ⟨by lia,by lia,?_⟩;refine eF (n:=n) (λP σ' H'=>aA H H'/\∃lp ls ps d y1 y2 y3,σ'=[some (.ref p),some (.int n),some (.ref lp),some (.ref qp),some (.int d),y1,y2,y3]/\H' qp=some (.lst (dM ps))/\sR qp H' lp ls/\BY (rows.map iw) n P ls ps d) ⟨s02,lp0,rows.map iw,[],1,_,_,_,rfl,gq,G2,BY.start λzs hz=>by obtain ⟨x,hx,rfl⟩:=av.mp hz;rw[oW];exact hw x hx⟩ ?_ ?_
 ·rintro P σ' H' hP ⟨s',lp,ls,ps,d,y1,y2,y3,rfl,gq',G',I⟩;have hl:=I.len;have kP:=I.el.kP;have km:=I.el.km;have lps:(dM ps).length=ps.length:=ag ..;have hqp:H' qp≠none:=by rw[gq'];exact λz=>nomatch z
  obtain ⟨z1,z2⟩:=I.sz (r:=min rows.length n) hW ent (by lia) (by rw[hm];exact ah _) r15;have big:(16*W)^min rows.length n < 2^8999:=aK (vQ W2) (de (by decide) (by lia));exists ⟨_,_,rfl,.inl (bo.of gq'),?_⟩;rw[lps];exists ⟨qp,lp,ls,ps.length,P,rfl,G',by lia,by lia,λzs hz=>by rw[I.wide zs hz];exact hP,λt h1 h2 h3=>?_,λhz=>?_⟩
  ·exists ⟨rfl,_,rfl,?_⟩;rw[show decide (V.int (t:Int)=V.non)=false from decide_eq_false (λz=>nomatch z)];exists ⟨qp,lp,ls,t,ps.length,rfl,hqp,G',by lia,h2,by lia,λl1 Ha na sa Ga=>?_⟩;exists ⟨qp,l1,_,ps.length,P,n,d,rfl,λz=>hqp (sa.none z),Ga,by rw[vq];lia,by rw[vq];lia,Iw I.wide (by lia) h2,by lia,hP,I.d0,aK z1 big,λzs hz z hz'=>?_,λl2 Hb nb sb Gb=>?_⟩
   ·unfold pK at hz;have key:∀ys,ys∈ls->∀z∈ys,Sz 8999 z:=λys hy z hz=>aK (z2 ys hy z hz) big
    rcases cC hz with h | h
    ·rcases cC h with h | h
     ·exact key zs h z hz'
     ·rw[h] at hz';exact key _ (getD_in h2) z hz'
    ·rw[h] at hz';exact key _ (getD_in (by lia)) z hz'
   have sab:=sa.trans sb;have I2:=I.step hW ent h1 h2 h3;have hk2:ps.length < (Fy (pK ls ps.length t) ps.length P d).length:=by rw[MS,vq];lia
   obtain ⟨n2,xs2,gx2,qx2⟩:=id Gb;obtain ⟨zk,vk,ek,evk,mk,qk,rfl,_,gk⟩:=ff qx2 hk2;have wk:=I2.wide zk mk;exists bS (bo.of gx2) (dE evk) ?_;exists bS (bo.of gk) (D9 (by lia)) ?_;have gqb:=sab _ _ gq';exists ⟨.inl ⟨rfl,_,bo.of gqb⟩,?_⟩;exists mQ gqb (dF (by lia)) ?_;refine ⟨(s'.trans sab).after hq0,l2,_,ps++[P],_,_,_,_,rfl,?_,Gb.upd,?_⟩
   ·rw[az];unfold dM;rw[dm];rfl
   ·have e:(Fy (pK ls ps.length t) ps.length P d).getD ps.length []=zk:=by rw[aa,ek];rfl
    rw[e] at I2;exact I2
  ·exists ⟨rfl,_,rfl,?_⟩;rw[show decide (V.non=V.non)=true from decide_eq_true rfl];exists ⟨s',lp,ls,ps,d,_,_,_,rfl,gq',G',I.skip hz⟩
 rintro σ' H' ⟨s',lp,ls,ps,d,y1,y2,y3,rfl,gq',G',I⟩;obtain ⟨R,hR⟩:=I.done hw F;have lps:(dM ps).length=ps.length:=ag ..;obtain ⟨nl,xs',gx',qx'⟩:=id G';exists ⟨_,_,rfl,.inl (bo.of gq'),?_⟩;rw[lps];exists vP (bo.of gx') λsl H3 s3 n3 g3=>?_
 rw[Fw] at g3;exists cM λt H4 s4 g4=>?_
 have s34:=s3.trans s4;exact k t sl qp R ps d _ H4 g4 (s34 _ _ gq') ⟨(λz=>by rw[z,gq'] at n3;cases n3),_,s4 _ _ g3,Paired.imp' (λ_ _ z=>Jt.same z s34) (nX qx' ps.length)⟩ (s'.trans s34) hR
theorem vA:sC ["top","bottom","divisor"] 2 yG:=by walk_at "d"
theorem mR (T:Txt K mg Z):T.iO.o P w base 2 JI:=by
 refine T.iO.F.k vA ?_;walk_at "i";obtain ⟨t,b,rfl,hb,hs,k⟩:=h
 refine ⟨_,(ak (fo 2 vA.nd (cA (jM T) hr T.eo (cB bH cz)))
  (ak (cW (aW nY cz aj (bg _)) (au (fo 2 vA.nd (qS lU eE))) bQ)
  (au (aN (dW (cB (br jK bH eE) (br jK cz eE))))))),?_⟩
 walk_at "s";exists ⟨t,b,rfl,?_⟩;have hg:=zD (t:=t) hb
 have hgs:Sz 8999 (g t b):=hs.le (by
  have h1:(g t b).natAbs=Int.gcd t b:=by unfold g;simp
  rw[h1];exact jA (by lia) (by have:=fL (a:=t) (b:=b);exact eQ.mpr this |> λz=>by simpa using z))
 have hgn:g (-t) (-b)=g t b:=by unfold g;rw[Int.gcd_neg,Int.neg_gcd]
 exists jc (λh=>?_) (λh=>?_)
 ·have hb0:b < 0:=of_decide_eq_true h;exists eZ (show qW _ _ from ⟨by lia,hgs.neg⟩) ?_;exists eZ (show qW _ _ from ⟨by lia,hgs.neg⟩) ?_;exists cM λr H' s' h'=>?_
  have e1:t.fdiv (-g t b)=lo (-t) (-b):=by
   unfold Nm.lo;rw[hgn,<- cp _ (by lia),<- Int.neg_fdiv_neg (-t),Int.neg_neg]
  have e2:b.fdiv (-g t b)=hi (-t) (-b):=by
   unfold Nm.hi;rw[hgn,<- cp _ (by lia),<- Int.neg_fdiv_neg (-b),Int.neg_neg]
  exact k r H' s' (by rw[if_pos hb0,if_pos hb0,<- e1,<- e2];exact h')
 ·have hb0:¬b < 0:=λz=>h (decide_eq_true z)
  exists eZ (show qW _ _ from ⟨by lia,hgs⟩) ?_;exists eZ (show qW _ _ from ⟨by lia,hgs⟩) ?_;exists cM λr H' s' h'=>?_
  rw[cp _ (by lia),cp _ (by lia)] at h';exact k r H' s' (by rw[if_neg hb0,if_neg hb0];exact h')
theorem yB:sC ["rows","wide","found"] 2 vH:=by walk_at "d"
theorem qq (T:Txt K mg Z):T.jo.o P w base 5 (wu K):=by
 refine T.jo.F.k yB ?_;walk_at "i";obtain ⟨p,n,w,H0,rows,rfl,G,r100,n100,hw,F,k⟩:=h
 refine ⟨_,(ak (fo 2 yB.nd (cA (ES T) hr T.sv (cB bH cz)))
  (au (aN (b7 ["line","lead"] [] [] (nW rfl T.zip (cB (aL bE eE aj) (aL bE eE aj))) (λ_=>(jI K 2 (b6 (fM 0) (b6 (fM 1) gH)))) (λ_=>cg) (λ_=>(b7 ["top"] ["line","lead"] [0,1] (yL K bH) (λ_=>(fM 0)) (λ_=>cg) (λ_=>(cA (mR T) hr T.iO (cB bH (aL (lE K (by rfl)) cz eE)))))))))),?_⟩
 walk_at "s";obtain ⟨_,_,_,_,_,_,_,_,r15,r89⟩:=id F;exists ⟨p,n,w,H0,rows,rfl,G,r100,n100,hw,F,λt lp qp R ps d ls H1 gt gq G1 s1 S=>?_⟩;obtain ⟨lR,wR,RR⟩:=id S.rr;have hl:=S.len;obtain ⟨_,xs,gx,qx⟩:=id G1;have lx:=qx.length;have lps:(dM ps).length=ps.length:=ag ..;have d0:(d:Rat)≠0:=λz=>S.d0 (sL z)
 have dsz:Sz 8999 d:=aK S.dsz (de (by decide) (by lia))
 have km:ps.length<=n:=by
  rcases aY n ps.length with z | z
  ·have inc:∀j,j < ps.length->j<=ps.getD j 0:=by
    intro j
    induction j with
    | zero=>intro _;exact aS _
    | succ j ih =>
     intro hj;have:=ih (by lia);have:=RR.inc j (j+1) (by lia) hj
     lia
   have h1:=inc (ps.length - 1) (by lia);have h2:=RR.low (ps.length - 1) (by lia)
   lia
  ·exact z
 exists ⟨⟨_,bo.of gx⟩,⟨_,bo.of gq⟩,?_⟩;refine nG (K:=K) (xs:=xs) (ws:=dM ps) (λi ys H'=>aA H1 H'/\Paired (cS K H1 H') (R.take i) ys) j7 (by lia) ⟨aA.refl _,.nil⟩ (λi ys H' _ ⟨s,_⟩=>⟨bo.of (s _ _ gx),bo.of (s _ _ gq)⟩) ?_ ?_
 ·rintro i v1 v2 ys H' r h1 h2 hy ⟨s,pr⟩ hr;obtain ⟨zs,ez,q,rfl,_,gq1⟩:=bN qx h1;have hi:i < ls.length:=(aG.mp ez).1;have mz:=ai ez;have wz:=S.wide zs mz
  obtain ⟨j,ej,rfl⟩:∃j:Nat,ps[i]?=some j/\V.int (j:Int)=v2:=by
   unfold dM at h2;rw[aD] at h2;cases e:ps[i]? with
   | none=>rw[e] at h2;cases h2
   | some x=>rw[e] at h2;exact ⟨x,rfl,bO h2⟩
  have ej':ps.getD i 0=j:=by rw[aa,ej];rfl
  have jn:j < n:=by have:=RR.low i (by lia);rw[ej'] at this;exact this
  have sr:aA H' (upd H' r (.tup [.ref q,.int j])):=aA.new hr;have gr:(upd H' r (.tup [.ref q,.int j])) r=some (.tup [.ref q,.int j]):=az;generalize upd H' r (.tup [.ref q,.int j])=H2 at sr gr ⊢;have s2:=s.trans sr;have iR:i < R.length:=by lia
  have eR:=ae iR;have wRi:=wR _ (aF iR)
  have ed:zs.getD j 0=d:=by
   have h:=S.val i j;rw[P1 ez] at h;have u:=RR.unit i (by lia) i (by lia);rw[if_pos rfl,ej'] at u;rw[u,Rat.mul_one] at h;exact dj.mp h
  have val:∀c,((zs.getD c 0:Int):Rat)=(d:Rat)*(R[i]).getD c 0:=λc=>by
   have h:=S.val i c;rw[P1 ez] at h;rw[h];unfold bI;rw[aa (l:=R),eR];rfl
  exists ⟨⟨_,bo.of (s2 _ _ gq1)⟩,?_⟩;refine eT (K:=K) (xs:=zs.map V.int) (λc ys' H3=>aA H2 H3/\Paired (cf K H3) ((R[i]).take c) ys') (c6 (dF (by rw[ag];lia))) ⟨aA.refl _,.nil⟩ (λc ys' H3 _ ⟨s3,_⟩=>bo.of ((s2.trans s3) _ _ gq1)) ?_ ?_
  ·rintro c x ys' H3 hx hlen ⟨s3,pr3⟩
   obtain ⟨z,ec,rfl⟩:∃z,zs[c]?=some z/\V.int z=x:=by
    rw[aD] at hx;cases e:zs[c]? with
    | none=>rw[e] at hx;cases hx
    | some x=>rw[e] at hx;exact ⟨x,rfl,bO hx⟩
   have hc:c < zs.length:=(aG.mp ec).1;have vc:=val c;have e1:zs.getD c 0=z:=by rw[aa,ec];rfl
   rw[e1] at vc;exists bS (bo.of ((s2.trans s3) _ _ gq1)) (D9 (by lia)) ?_;rw[ed];exists ⟨z,d,rfl,S.d0,dsz,λr4 H4 s4 g4=>?_⟩;have ec':(R[i])[c]?=some ((R[i]).getD c 0):=by rw[aa,ae (show c < (R[i]).length by lia)];rfl
   refine ⟨s3.trans s4,?_⟩;rw[take_snoc ec'];refine bR (Paired.imp' (λ_ _ z=>cf.same z s4) pr3) (.cons (cf.mk g4 ?_) .nil);rcases Int.lt_or_lt_of_ne S.d0 with hd | hd
   ·rw[if_pos hd,if_pos hd];refine qF (by lia) ?_;rw[cX,cX,vc];grind
   ·rw[if_neg (by lia),if_neg (by lia)];refine qF hd ?_;rw[vc];grind
  ·rintro ys' H3 hy' ⟨s3,pr3⟩ l4 hl4;have sn:aA H3 (upd H3 l4 (.lst ys')):=aA.new hl4;refine ⟨(s2.trans s3).trans sn,?_⟩;rw[take_snoc eR];rw[aB (by rw[ag];lia)] at pr3;exact bR (Paired.imp' (λ_ _ z=>cS.same z ((sr.trans s3).trans sn)) pr) (.cons ⟨l4,rfl,(s2.trans s3).none hl4,ys',az,Paired.imp' (λ_ _ z=>cf.same z sn) pr3⟩ .nil)
 ·rintro ys H' hy ⟨s,pr⟩ r hr;have sn:aA H' (upd H' r (.lst ys)):=aA.new hr;rw[aB (by lia)] at pr;refine k r R ps d.natAbs _ (s1.none (s.none hr)) ((s1.trans s).trans sn) ⟨ys,az,Paired.imp' (λ_ _ z=>(cS.weak z s1).same sn) pr,ij (H0:=H1) (rows:=R) ⟨H',hr,pr⟩⟩ S.rr S.km ?_ S.dsz S.tp;have:=S.d0
  lia
theorem iG:sC ["one","other","one_bottom","other_bottom","pairs"] 2 vG:=by walk_at "d"
theorem yY (T:Txt K mg Z):T.iI.o P w base 4 (Cj K):=by
 refine T.iI.F.k iG ?_;walk_at "i";obtain ⟨p,q,xs,ys,rfl,hp,hq,hl,hz,⟨k1,j1,k2,j2,h1,h2,hkj⟩,kk⟩:=h
 refine ⟨_,(ak (fo 2 iG.nd (cA (fY T) hr T.du (df bH)))
  (ak (fo 3 iG.nd (cA (fY T) hr T.du (df cz)))
  (ak (fo 4 iG.nd (yO rfl T.list rfl T.zip (cB (cA (jL T) hr T.fG (cB bH eE)) (cA (jL T) hr T.fG (cB cz jB)))))
  (au (aN (cA (mR T) hr T.iO (cB (bf (FD rfl) (by rfl) T.sum PyProof.Rows.boot_sum (df (b7 ["mine","yours"] [] [] (cL wY) (λ_=>(jI K 2 (b6 (fM 0) (b6 (fM 1) gH)))) (λ_=>cg) (λ_=>(br cw bH cz))))) (br cw eE jB)))))))),?_⟩
 walk_at "s";obtain ⟨M,h1⟩:=h1.rowM (by lia);obtain ⟨N,h2⟩:=h2.rowM (by lia);replace hp:=hp.rowK;replace hq:=hq.rowK;replace hl:(ys.map nm).length=(xs.map nm).length:=by simpa using hl
 replace hz:(xs.map nm).length<=1000:=by simpa using hz
 obtain ⟨b1,s1⟩:=h1.bot;obtain ⟨b2,s2⟩:=h2.bot;have k2:∀r H',aA H H'->H' r=some (.tup [.int (lo (HI (xs.map nm) (ys.map nm)) (eJ (xs.map nm)*eJ (ys.map nm))),.int (hi (HI (xs.map nm) (ys.map nm)) (eJ (xs.map nm)*eJ (ys.map nm)))])->Q (.ref r) H':=λr H' s g=>kk r H' s (cf.mk g (Jg b1 b2))
 clear kk;generalize xs.map nm=ns at hp hq hl hz h1 h2 b1 b2 s1 s2 k2;generalize ys.map nm=ms at hp hq hl hz h1 h2 b1 b2 s1 s2 k2;have hb:0 < eJ ns*eJ ms:=fw b1 b2;exists ⟨p,ns,M,rfl,hp,hz,h1,λH1 t1=>?_⟩;exists ⟨q,ms,N,rfl,hq.same t1,by lia,h2,λH2 t2=>?_⟩;have u2:=t1.trans t2;exists ⟨p,ns,M,_,rfl,hp.same u2,hz,h1,b1,s1,λr1 H3 n3 t3 g3=>?_⟩;exists ⟨q,ms,N,_,rfl,(hq.same u2).same t3,by lia,h2,b2,s2,λr2 H4 n4 t4 g4=>?_⟩;exists ⟨r1,r2,_,_,rfl,bo.of (t4 _ _ g3),bo.of g4,by simp [dD,hl],λL ts H5 t5 n5 g5 pr=>?_⟩;have lt:=pr.length;have ll:(dD ns (eJ ns)).length=ns.length:=by simp [dD]
 have lm:(dD ms (eJ ms)).length=ns.length:=by simp [dD,hl]
 rw[qZ,ag,ag,ll,lm] at lt;exists ⟨⟨_,bo.of g5⟩,?_⟩;refine eT (K:=K) (xs:=ts) (λi ys H'=>H'=H5/\ys=((List.zipWith (λx y=>x*y) (dD ns (eJ ns)) (dD ms (eJ ms))).take i).map V.int) j7 ⟨rfl,rfl⟩ (λi ys H' _ ⟨e,_⟩=>by subst e;exact bo.of g5) ?_ ?_
 ·rintro i x ys H' hx hlen ⟨rfl,rfl⟩;obtain ⟨pq,epq,T,rfl,gT⟩:=bN pr hx;obtain ⟨t,u,et,eu,rfl⟩:=Iq epq;exists eZ (show eK _ _ from .inr ⟨_,_,uA h1 b1 s1 (ai et),uA h2 b2 s2 (ai eu),by decide⟩) ?_;have ez:(List.zipWith (λx y=>x*y) (dD ns (eJ ns)) (dD ms (eJ ms)))[i]?=some (t*u):=by rw[bW,et,eu]
  exact ⟨rfl,by rw[take_snoc ez];simp⟩
 ·rintro ys H' hy ⟨rfl,rfl⟩ l hl';exists ⟨l,List.zipWith (λx y=>x*y) (dD ns (eJ ns)) (dD ms (eJ ms)),rfl,bo.of (by rw[az,aB (by rw[aV];lia)]),?_⟩;exists eZ (show eK _ _ from .inr ⟨_,_,s1,s2,by decide⟩) ?_;exists ⟨_,_,rfl,by lia,(s1.mul s2).mono (by decide),λr H6 t6 g6=>?_⟩;rw[if_neg (by lia),if_neg (by lia)] at g6;exact k2 r H6 ((((u2.trans t3).trans t4).trans t5).trans ((aA.new hl').trans t6)) g6
theorem yD:sC ["grid","row"] 2 vK:=by walk_at "d"
theorem zd (T:Txt K mg Z):T.iJ.o P w base 5 (Ci K):=by
 refine T.iJ.F.k yD ?_;walk_at "i";obtain ⟨p,q,H0,rows,ys,rfl,hp,hq,hz,hl,hr1,kk⟩:=h;refine ⟨_,(au (aN (b7 ["line"] ["row"] [1] (cL bH) (λ_=>(fM 0)) (λ_=>cg) (λ_=>(cA (yY T) hr T.iI (cB bH cz)))))),?_⟩;walk_at "s";obtain ⟨xs,gx,qx,_⟩:=id hp;exists ⟨⟨_,bo.of gx⟩,?_⟩;refine dH (K:=K) (F:=cS K H0) (cf K) (λxs=>eI xs ys) gx qx hz (λa b=>a.same b) (λa b=>a.same b) ?_ ?_
 ·rintro i ns x H' NY NN en s ⟨u,rfl,_,hu⟩ k;obtain ⟨e1,e2⟩:=hr1 ns (ai en);exists ⟨u,q,ns,ys,rfl,hu,hq.same s,e1.symm,by lia,e2,λr H2 s2 h2'=>k _ _ s2 h2'⟩
 ·rintro ys' H' r hr s g pr nx;exact kk r H' hr s ⟨ys',g,pr⟩
theorem Ah:sC ["system","rows"] 2 pU:=by walk_at "d"
theorem tD (T:Txt K mg Z):T.ja.o P w base 6 (Bl K Z.a_System):=by
 refine T.ja.F.k Ah ?_;walk_at "i";obtain ⟨x,p,H0,H1,mv,pt,lk,R,rfl,S,D,G,l100,wR,hf,k⟩:=h;refine ⟨_,(au (aN (b7 ["row"] ["system"] [0] (cL cz) (λ_=>(fM 0)) (λ_=>cg) (λ_=>(cA (zd T) hr T.iJ (cB (Oc K cz rfl) bH)))))),?_⟩;walk_at "s";obtain ⟨dx,a',b',c',gx,_,_,_,Ga,Gb,Gc⟩:=id S;have d8:=D.n8;obtain ⟨xs,gxs,qx,_⟩:=id G;exists ⟨⟨_,bo.of gxs⟩,?_⟩;refine dH (K:=K) (F:=cS K H1) (cS K H) (lY mv) gxs qx (by lia) (λa b=>a.same b) (λa b=>a.same b) ?_ ?_
 ·rintro i ns v H' NY NN en s ⟨u,rfl,_,hu⟩ k1;have mn:=ai en;exists ⟨x,Z.a_System,dx,_,_,rfl,s _ _ gx,T.cl_System,T.na_move,rn,?_⟩;exists ⟨a',u,H0,mv,ns,rfl,Ga.same s,hu,by lia,by rw[wR ns mn];lia,λxs hx=>⟨by rw[D.mw xs hx,wR ns mn],hf xs hx ns mn⟩,λr H2 nr s2 R2=>k1 _ _ s2 ⟨r,rfl,s.none nr,R2⟩⟩
 ·rintro ys H' r hr s g pr nx;exact k r H' hr s ⟨ys,g,pr,ij nx⟩
theorem mX:sC ["system","steps","lists","rows"] 2 oC:=by walk_at "d"
theorem yZ (T:Txt K mg Z):T.jQ.o P w base 7 (Bp K Z.a_System):=by
 refine T.jQ.F.k mX ?_;walk_at "i";obtain ⟨x,a,c,st,H0,mv,pt,lk,rfl,s1000,S,D,F,k⟩:=h
 refine ⟨_,(ak (fo 2 mX.nd (ib (df (ib kz))))
  (ak (uJ PassesOwn.never (aW SM (bf aU (by rfl) T.len aQ (df eE)) cz (bg _))
   (ak (fo 3 mX.nd (cA (qq T) hr T.jo (cB (br oR (ck bH rfl) (cA (tD T) hr T.ja (cB bH (aL bC eE (qS lU aj))))) (ck bH rfl))))
  (ak (cW (aW gi (bf aU (by rfl) T.len aQ (df jB)) (bf aU (by rfl) T.len aQ (df (aL bC eE (qS lU aj)))) (bg _)) (au (aN eE)) bQ)
  (au (je (By fJ fk fj mS eE (df jB)))))))
  (au (aN eE)))),?_⟩
 walk_at "s";obtain ⟨dx,a',b',c',gx,_,_,_,Ga,Gb,Gc⟩:=id S;have d8:=D.n8;have i4:=D.i4;have lP:=gU (mv:=mv) (pt:=pt) rfl D.pw;exists fg λq0 H1 s1 nq0 g1=>?_
 exists fg λl H2 s2 nl g2=>?_
 have s02:=s1.trans s2;have nl0:H l=none:=s1.none nl;obtain ⟨Hz,eHz⟩:∃Hz,Hz=upd H l (.lst []):=⟨_,rfl⟩;have zl:Hz l≠none:=by rw[eHz,az];exact λz=>nomatch z
 have zn:∀q,Hz q=none->H q=none/\q≠l:=λq h=>by
  have ne:q≠l:=λz=>zl (by rw[<- z];exact h)
  rw[eHz,aJ ne] at h;exact ⟨h,ne⟩
 have nz:∀q,H q=none->q≠l->Hz q=none:=λq h ne=>by rw[eHz,aJ ne];exact h
 clear eHz;have q0l:q0≠l:=λz=>by rw[z,nl] at g1;cases g1
 have G0:bx K Hz H2 q0 []:=⟨[],s2 _ _ g1,.nil,λz=>nomatch z⟩;exists xC (λσ' H'=>aA H H'/\∃Rs R us y,σ'=[some (.ref x),some (.int st),some (.ref l),y]/\H' l=some (.lst us)/\Paired (λR v=>∃q,v=V.ref q/\Hz q=none/\bx K Hz H' q R) (Rs++[R]) us/\zX mv pt (Rs++[R])/\Rs.length<=st) (λ_ H'=>match H' l with | some (.lst us)=>st+1 - us.length | _=>0) ⟨s02,[],[],_,_,rfl,g2,.cons ⟨q0,rfl,nz q0 nq0 q0l,G0⟩ .nil,⟨by simp,λt R e=>?_,λt R R' e e'=>?_⟩,aS _⟩ ?_
 ·have ht:=(aG.mp e).1;have:t=0:=by simpa using ht
  subst this;cases e;exact ⟨[],GK⟩
 ·have ht:=(aG.mp e').1;simp at ht
 rintro σ' Ha ⟨sa,Rs,R,us,y,rfl,gu,pa,Gw,hst⟩;have lu:=pa.length;rw[ao,aO] at lu;have eR:(Rs++[R])[Rs.length]?=some R:=by rw[bM (ah _),ot];rfl
 obtain ⟨ps,RR⟩:=Gw.rr _ _ eR;have tn:Rs.length<=mv.length:=by have:=Gw.len _ _ eR;have:=RR.le;have:=RR.1;lia
 have fin:∀(Hx:Hp) (sx:aA Ha Hx) (hh:∀s,(Rs.length=st/\s=st\/Rs.length < st/\Rs.length<=s)->∃ps,bF (fQ mv pt s) mv.length R ps),Q (.ref l) Hx:=λHx sx hh=>by
  refine k l (Rs++[R]) Hx nl0 (sa.trans sx) ⟨us,sx _ _ gu,Paired.imp' (λ_ _ ⟨q,e1,e2,e3⟩=>⟨q,e1,(zn q e2).1,(zn q e2).2,bx.weakN (bx.same e3 sx) λq h=>(zn q h).1⟩) pa⟩ Gw (by rw[ao,aO];lia) λR2 e2 s hs=>?_
  rw[List.getLast?_concat] at e2;cases e2;rw[ao,aO,Gf] at hs;exact hh s hs
 exists ⟨_,_,rfl,.inl (bo.of gu),?_⟩;exists jc (λh0=>?_) (λh0=>?_)
 ·have h0:=of_decide_eq_true h0;refine Pj ?_
  obtain ⟨zs,gS⟩:∃zs q,us=zs++[V.ref q]/\Hz q=none/\bx K Hz Ha q R:=by
   obtain ⟨v,ev,q,rfl,e2,e3⟩:∃v,us[Rs.length]?=some v/\∃q,v=V.ref q/\Hz q=none/\bx K Hz Ha q R:=by
    have ev:=ae (show Rs.length < us.length by lia);obtain ⟨R2,e2,w⟩:=bN pa ev;rw[eR] at e2;cases e2;exact ⟨_,ev,w⟩
   refine ⟨us.take Rs.length,q,?_,e2,e3⟩;rw[<- take_snoc ev,aB (by lia)]
  obtain ⟨q,rfl,zq,Gq⟩:=gS;have gxa:=sa _ _ gx;exists ⟨x,Z.a_System,dx,_,_,rfl,gxa,T.cl_System,T.na_put,sV,?_⟩;exists bS (bo.of gu) (va _ _) ?_;have wR:=RR.2.1;have lR:=RR.1;have pn:=RR.le;exists ⟨x,q,H0,Hz,mv,pt,lk,R,rfl,S.same sa,D,Gq,by lia,wR,F.fit d8 D.mw D.pw tn RR,λmr Hb nmr sb Gm=>?_⟩;obtain ⟨pv,gpv,qpv,_⟩:=Gb.same (sa.trans sb);obtain ⟨mvs,gmv,qmv,_⟩:=id Gm;have lpv:=qpv.length;have lmv:=qmv.length;rw[ag] at lmv;exists oP gpv gmv j7 λcr Hc sc nc gc=>?_
  have sab:=sa.trans (sb.trans sc);have Gc':bx K (λ_=>none) Hc cr (pt++R.map (lY mv)):=BH (H:=Hb) (bR (Paired.imp' (λ_ _ ⟨q,e1,e2,e3⟩=>⟨q,e1,rfl,e3⟩) qpv) (Paired.imp' (λ_ _ ⟨q,e1,e2,e3⟩=>⟨q,e1,rfl,e3⟩) qmv)) sc nc gc;exists ⟨x,Z.a_System,dx,_,_,rfl,sab _ _ gx,T.cl_System,T.na_states,cE,?_⟩;exists ⟨cr,mv.length,_,_,_,rfl,Gc',by rw[ao,ag];lia,by lia,λxs hx=>?_,F.step d8 D.mw D.pw tn RR,λrr R' ps' M' Hd nrr sd G' RR' pm' _ _ _=>?_⟩
  ·rcases ay.mp hx with hx | hx
   ·exact D.pw xs hx
   ·obtain ⟨y,_,rfl⟩:=av.mp hx;exact lX
  have sbd:=sb.trans (sc.trans sd);have sad:=sa.trans sbd;have K1:=uT rfl D.mw D.pw RR RR';have gud:=sbd _ _ gu;obtain ⟨rv,grv,qrv,_⟩:=id G';have lrv:=qrv.length;have lR':=RR'.1;have pn':=RR'.le;exists ⟨_,_,rfl,.inl (bo.of grv),?_⟩;exists bS (bo.of gud) (va _ _) ?_;obtain ⟨ov,gov,qov,_⟩:=Gq.same sbd;have lov:=qov.length;exists ⟨_,_,rfl,.inl (bo.of gov),?_⟩;exists jc (λh1=>?_) (λh1=>?_)
  ·have h1:=of_decide_eq_true h1;exists fin Hd sbd λs hs=>⟨ps,?_⟩
   obtain ⟨s',rfl⟩:∃s',s=Rs.length+s':=⟨s - Rs.length,by lia⟩;exact BE rfl D.mw D.pw RR RR' (by lia) s'
  ·have h1:¬((rv.length:Int)=ov.length):=λz=>h1 (decide_eq_true z)
   have gr:=E7 rfl D.mw D.pw RR K1;have rl:rr≠l:=λz=>by rw[z,(sb.trans sc) _ _ gu] at nrr;cases nrr
   have zc:∀q,Hc q=none->Hz q=none:=λq h=>nz q (sab.none h) (λz=>by rw[z,(sb.trans sc) _ _ gu] at h;cases h)
   exists ⟨.inl ⟨rfl,_,bo.of gud⟩,?_⟩;exists mQ gud (dF (by lia)) ?_;refine ⟨⟨sad.after nl0,Rs++[R],R',_,_,rfl,az,bR (Paired.imp' (λ_ _ ⟨q,e1,e2,e3⟩=>⟨q,e1,e2,bx.updL (bx.same e3 sbd) gud zl (zn q e2).2⟩) pa) (.cons ⟨rr,rfl,zc rr nrr,bx.updL (G'.weakN zc) gud zl rl⟩ .nil),Gw.snoc K1 (by lia),by rw[ao,aO];lia⟩,?_⟩;simp only[gu,az,ao,aO] at lu h0 ⊢
   lia
 ·have h0:¬((us.length:Int)<=st):=λz=>h0 (decide_eq_true z)
  walk_at "w"
  exact fin Ha (aA.refl _) λs hs=>⟨ps,by
   have:s=Rs.length:=by lia
   rw[this];exact RR⟩
theorem Ae:sC ["system","steps"] 2 pR:=by walk_at "d"
theorem tz (T:Txt K mg Z):T.i8.o P w base 8 (Bg K Z.a_System):=by
 refine T.i8.F.k Ae ?_;walk_at "i";obtain ⟨x,a,c,st,H0,mv,pt,lk,rfl,s1000,S,D,F,k⟩:=h;refine ⟨_,(au (aN (aL bC (cA (yZ T) hr T.jQ (cB bH cz)) (qS lU aj)))),?_⟩;walk_at "s";exists ⟨x,a,c,st,H0,mv,pt,lk,rfl,s1000,S,D,F,λr Rs H1 nr s1 ⟨us,gu,pa⟩ Gw hl hh=>?_⟩;have lu:=pa.length;obtain ⟨Rs',R,rfl⟩:∃Rs' R,Rs=Rs'++[R]:=⟨Rs.dropLast,Rs.getLast Gw.ne,(List.dropLast_concat_getLast Gw.ne).symm⟩;rw[ao,aO] at lu hl;have eR:(Rs'++[R])[Rs'.length]?=some R:=by rw[bM (ah _),ot];rfl
 obtain ⟨zs,q,rfl,zq,ql,Gq⟩:∃zs q,us=zs++[V.ref q]/\H q=none/\q≠r/\bx K H H1 q R:=by
  have ev:=ae (show Rs'.length < us.length by lia);obtain ⟨R2,e2,q,e3,e4,e5,e6⟩:=bN pa ev;rw[eR] at e2;cases e2;rw[e3] at ev;refine ⟨us.take Rs'.length,q,?_,e4,e5,e6⟩;rw[<- take_snoc ev,aB (by lia)]
 obtain ⟨ps,RR⟩:=hh R (by rw[List.getLast?_concat]) st (by rw[ao,aO,Gf];lia);exists bS (bo.of gu) (va _ _) ?_;exact k q R ps H1 zq s1 Gq RR
theorem yC:sC ["grid","wide"] 2 oF:=by walk_at "d"
theorem dX (T:Txt K mg Z):T.cV.o P w base 1 (Eh K):=by
 refine T.cV.F.k yC ?_;walk_at "i";obtain ⟨p,w,H0,rows,rfl,hp,hz,hw,hl,kk⟩:=h;refine ⟨_,(au (aN (b7 ["place"] ["grid"] [0] (cF rfl T.range (df cz)) (λ_=>(fM 0)) (λ_=>cg) (λ_=>(b7 ["line"] ["place"] [0] (yL K cz) (λ_=>(fM 0)) (λ_=>cg) (λ_=>(aL (lE K (by rfl)) bH cz))))))),?_⟩;walk_at "s";exists ⟨by lia,by lia,?_⟩;refine kG (n:=w) (cS K H) (λj=>rows.map λxs=>xs.getD j 0) hw (λa b=>a.same b) ?_ ?_
 ·rintro j H1 NY NN hj s1 k1;obtain ⟨xs,gx,qx,_⟩:=hp.same s1;exists ⟨⟨_,bo.of gx⟩,?_⟩;refine dH (K:=K) (F:=cS K H0) (cf K) (λxs=>xs.getD j 0) gx qx hz (λa b=>a.same b) (λa b=>a.same b) ?_ ?_
  ·rintro i ns x H2 NY2 NN2 en s2 ⟨u,rfl,_,zs,gz,qz⟩ k2;obtain ⟨v,ev,hv⟩:=F5 qz (j:=j) (by rw[hl ns (ai en)];exact hj);exists bS (bo.of gz) ev ?_;exact k2 _ _ (aA.refl _) hv
  ·rintro ys' H2 r hr s2 g pr nx;exact k1 _ _ s2 ⟨r,rfl,s1.none hr,ys',g,pr⟩
 ·rintro ys' H1 r hr s1 g pr nx;exact kk r H1 hr s1 ⟨ys',g,pr,ij nx⟩
theorem vE:sC ["self"] 1 fE:=by walk_at "d"
theorem o6 (T:Txt K mg Z):j9 P w K mg base F1 7 Z.l9 Z.lZ ["self"] (yj K Z.a_System):=by
 refine T.qV.k vE ?_;walk_at "i";obtain ⟨x,H0,mv,pt,lk,rfl,S,D,F,k⟩:=h;refine ⟨_,(au (aN (xH T.mk_System (jk T) (hr.mono (by decide)) rfl T.mg_System T.ip .nil yQ (CP (cA (dX T) hr T.cV (cB (ck bH rfl) (ck bH rfl))) (ck bH rfl) (ck bH rfl))))),?_⟩;walk_at "s";obtain ⟨dx,a,b,c,gx,n1,n2,n3,Ga,Gb,Gc⟩:=id S;have d1:=D.n8;exists ⟨x,Z.a_System,dx,_,_,rfl,gx,T.cl_System,T.na_move,rn,?_⟩;exists ⟨x,Z.a_System,dx,_,_,rfl,gx,T.cl_System,T.na_states,cE,?_⟩;exists ⟨a,mv.length,H0,mv,rfl,Ga,by lia,by lia,D.mw,λt H1 nt s1 Gt=>?_⟩;have gx1:=s1 _ _ gx;exists ⟨x,Z.a_System,dx,_,_,rfl,gx1,T.cl_System,T.na_look,rA,?_⟩;exists ⟨x,Z.a_System,dx,_,_,rfl,gx1,T.cl_System,T.na_put,sV,?_⟩;walk_at "w";intro x' dx' nx ndx nex;have F':=F.turn;exact ⟨x',dx',t,c,b,H1,H,H0,H0,_,_,_,rfl,nx,ndx,nex,rfl,Gt,Gc.same s1,Gb.same s1,D.turn,F'.ok.1,F'.ok.2.1,F'.ok.2.2,λH' s' S'=>⟨rfl,k x' H' (s1.none nx) (s1.trans s') (S'.weak s1)⟩⟩
theorem Ex:sC ["many","at"] 2 tP:=by walk_at "d"
theorem wI (T:Txt K mg Z):T.lh.o P w base 1 (Eg K):=by
 refine T.lh.F.k Ex ?_;walk_at "i";obtain ⟨m,a',rfl,hm,k⟩:=h;refine ⟨_,(au (aN (b7 ["place"] ["at"] [1] (cF rfl T.range (df bH)) (λ_=>(fM 0)) (λ_=>cg) (λ_=>(ER (aW gi bH cz (bg _)) (jf (v:=.ref Z.a_ONE) rfl T.mg_ONE rfl) (jf (v:=.ref Z.a_NOUGHT) rfl T.mg_NOUGHT rfl)))))),?_⟩;walk_at "s";exists ⟨by lia,by lia,?_⟩;refine kG (n:=m) (cf K) (λi=>if ((i:Nat):Int)=a' then 1 else 0) hm (λa b=>a.same b) ?_ ?_
 ·rintro i H' NY NN hi s k1;exists jc (λh0=>?_) (λh0=>?_)
  ·exists k1 _ _ (aA.refl _) (by rw[if_pos (of_decide_eq_true h0)];exact ⟨_,rfl,T.sq_ONE _⟩)
  ·exists k1 _ _ (aA.refl _) (by rw[if_neg (λz=>h0 (decide_eq_true z))];exact ⟨_,rfl,T.sq_NOUGHT _⟩)
 ·rintro ys H' l hl s g pr nx;exact k l _ hl s ⟨ys,g,pr⟩
theorem vB:sC ["row"] 1 lV:=by walk_at "d"
theorem vS (T:Txt K mg Z):T.iP.o P w base 1 (En K):=by
 refine T.iP.F.k vB ?_;walk_at "i";obtain ⟨p,xs,j,rfl,R,x1000,hj,hne,hz,k⟩:=h;refine ⟨_,(au (aN (bf (BS rfl) (by rfl) T.min PyProof.Rows.boot_min (df (b7 ["place","value"] [] [] (IK rfl T.enumerate (df bH)) (λ_=>(jI K 2 (b6 (fM 0) (b6 (fM 1) gH)))) (λ_=>GQ (aW (Og K (by rfl) (Aw hr)) cz (jf (v:=.ref Z.a_NOUGHT) rfl T.mg_NOUGHT rfl) (bg _))) (λ_=>bH)))))),?_⟩;walk_at "s";obtain ⟨zs,gz,qz⟩:=id R;have lz:=qz.length;exists ⟨⟨_,bo.of gz⟩,?_⟩;refine Kv (K:=K) (xs:=zs) (λi ys H'=>aA H H'/\ys=dM (KO xs i)) j7 ⟨aA.refl _,rfl⟩ (λi ys H' _ ⟨s,_⟩=>bo.of (s _ _ gz)) ?_ ?_
 ·rintro i v ys H' r hx hlen ⟨s',rfl⟩ hr;obtain ⟨y,ey,ny⟩:=bN qz hx;have ey':xs.getD i 0=y:=by rw[aa,ey];rfl
  have sr:aA H' (upd H' r (.tup [.int i,v])):=aA.new hr;have gr:(upd H' r (.tup [.int i,v])) r=some (.tup [.int i,v]):=az;generalize upd H' r (.tup [.int i,v])=H2 at sr gr ⊢;exists ⟨_,_,IX,y,0,by decide,(ny.same s').same sr,⟨_,rfl,T.sq_NOUGHT _⟩,?_⟩;by_cases e:y=0
  ·rw[decide_eq_true e];exists ⟨s'.trans sr,?_⟩;rw[IL,ey',if_neg (by simpa using e)]
  ·rw[decide_eq_false e];exists ⟨s'.trans sr,?_⟩;rw[IL,ey',if_pos e];unfold dM;rw[dm];rfl
 ·rintro ys H1 hy ⟨s1,rfl⟩ l hl;have sn:aA H1 (upd H1 l (.lst (dM (KO xs zs.length)))):=aA.new hl;have gn:(upd H1 l (.lst (dM (KO xs zs.length)))) l=some (.lst (dM (KO xs zs.length))):=az;generalize upd H1 l (.lst (dM (KO xs zs.length)))=H2 at sn gn ⊢
  have mj:j∈KO xs zs.length:=by
   unfold KO;exact ie.mpr ⟨iU.mpr (by lia),by simpa using hne⟩
  exists ⟨l,IZ (KO xs zs.length),rfl,bo.of (by rw[<- J0];exact gn),?_,λM hM hle=>?_⟩
  ·unfold IZ;rw[ag];exact xW mj
  ·obtain ⟨c,hc,rfl⟩:=av.mp hM;have h1:=hle j (av.mpr ⟨j,mj,rfl⟩);have h2:=(ie.mp hc).2
   have e:c=j:=by
    rcases jZ c j with z | z | z
    ·exact absurd (hz c z) (of_decide_eq_true h2)
    ·exact z
    ·lia
   rw[e];exact k _ (s1.trans sn)
theorem GD:sC ["rows"] 1 vJ:=by walk_at "d"
theorem zb (T:Txt K mg Z):T.nE.o P w base 2 (Eo K):=by
 refine T.nE.F.k GD ?_;walk_at "i";obtain ⟨p,n,H0,R,ps,rfl,G,r100,n100,⟨rows,RR⟩,k⟩:=h;refine ⟨_,(au (aN (b7 ["row"] [] [] (cL bH) (λ_=>(fM 0)) (λ_=>cg) (λ_=>(cA (vS T) hr T.iP (df bH)))))),?_⟩;walk_at "s";obtain ⟨lR,wR,rr⟩:=id RR;obtain ⟨xs,gx,qx,_⟩:=id G;have lx:=qx.length;exists ⟨⟨_,bo.of gx⟩,?_⟩;refine eT (K:=K) (xs:=xs) (λi ys H'=>aA H H'/\ys=dM (ps.take i)) j7 ⟨aA.refl _,rfl⟩ (λi ys H' _ ⟨s,_⟩=>bo.of (s _ _ gx)) ?_ ?_
 ·rintro i v ys H' hx hlen ⟨s',rfl⟩;obtain ⟨row,er,q,rfl,_,Rr⟩:=bN qx hx;have wr:=wR row (ai er);have hi:i < ps.length:=by have:=(aG.mp er).1;lia
  have ef:∀c,bI R i c=row.getD c 0:=λc=>by unfold bI;rw[aa (l:=R),er];rfl
  have ep:ps[i]?=some (ps.getD i 0):=by rw[aa,ae hi];rfl
  have lowp:=rr.low i hi;have u:=rr.unit i hi i hi;rw[if_pos rfl,ef] at u;exists ⟨q,row,ps.getD i 0,rfl,Rr.same s',by lia,by lia,by rw[u];decide,λc hc=>by rw[<- ef];exact rr.lead i hi c hc,λH2 s2=>?_⟩;refine ⟨s'.trans s2,?_⟩;unfold dM;rw[take_snoc ep,dm];rfl
 ·rintro ys H1 hy ⟨s1,rfl⟩ r hr;refine k r _ (s1.none hr) (s1.trans (aA.new hr)) ?_;rw[az,aB (by lia)]
theorem Ln:sC ["one","other"] 2 CD:=by walk_at "d"
theorem EV (T:Txt K mg Z):T.sF.o P w base 3 (mW K (λx y=>x - y)):=by
 refine T.sF.F.ok Ln (λvs H Q E h=>?_) (λcdv A outer s H vs Q E hr h=>?_)
 ·obtain ⟨p,q,a,b,c,d,rfl,hp,hq,hb,hd,sa,sb,sc,sd,k⟩:=xG h;rfl
 ·obtain ⟨p,q,a,b,c,d,rfl,hp,hq,hb,hd,sa,sb,sc,sd,k⟩:=xG h;refine ⟨_,(au (aN (cA (mR T) hr T.iO (cB (br ni (br cw (aL bE bH aj) (aL bE cz aj)) (br cw (aL bE cz aj) (aL bE bH aj))) (br cw (aL bE bH aj) (aL bE cz aj)))))),?_⟩;refine lg (σ:=[some (.ref p),some (.ref q)]) rfl ?_;have hbd:0 < b*d:=fw hb hd;have sbd:Sz 8999 (b*d):=(sb.mul sd).mono (by decide);exists eZ (show eK _ _ from .inr ⟨_,_,sa,sd,by decide⟩) ?_;exists eZ (show eK _ _ from .inr ⟨_,_,sc,sb,by decide⟩) ?_;exists eZ (show eK _ _ from .inr ⟨_,_,sb,sd,by decide⟩) ?_;walk_at "w";exists ⟨_,_,rfl,by lia,sbd,λr H' s' h'=>?_⟩;rw[if_neg (by lia),if_neg (by lia)] at h';exact k r H' s' h'
theorem pN:sC ["rows","wide","at","answer","lead","row"] 3 vI:=by walk_at "d"
theorem GU (T:Txt K mg Z):T.qC.o P w base 4 (Bj K):=by
 refine T.qC.F.k pN ?_;walk_at "i";obtain ⟨p,n,a,H0,R,ps,rfl,G,r100,n100,⟨rows,RR⟩,ha,hp,hz,k⟩:=h
 refine ⟨_,(ak (fo 3 pN.nd (cA (wI T) hr T.lh (cB cz eE)))
  (ak (fB PassesOwn.never rfl (nW rfl T.zip (cB (cA (zb T) hr T.nE (df bH)) bH)) (yM rfl (b6 (fM 4 pN.nd) (b6 (fM 5 pN.nd) gH)))
   (au (fW (cA (EV T) hr T.sF (cB (jf (v:=.ref Z.a_NOUGHT) rfl T.mg_NOUGHT rfl) (aL bC z9 eE))) (fX jB wY set_list))))
  (au (aN jB)))),?_⟩
 walk_at "s";obtain ⟨lR,wR,rr⟩:=id RR;exists ⟨n,a,rfl,by lia,λan H1 na s1 R1=>?_⟩;rw[<- Om (R:=R) (ps:=ps)] at R1;obtain ⟨vs0,g0,q0⟩:=id R1;exists ⟨p,n,H0,R,ps,rfl,G.same s1,r100,n100,⟨rows,RR⟩,λle H2 nl s2 g2=>?_⟩;have anl:le≠an:=λz=>by rw[z,g0] at nl;cases nl
 obtain ⟨rs,grs,qrs,_⟩:=id G;have lrs:=qrs.length;have lps:=zm (ps:=ps);exists ⟨⟨_,bo.of g2⟩,⟨_,bo.of ((s1.trans s2) _ _ grs)⟩,?_⟩;refine Oz (K:=K) (xs:=dM ps) (ws:=rs) (λj σ' H'=>aA H H'/\H' le=some (.lst (dM ps))/\∃y1 y2 vs,σ'=[some (.ref p),some (.int n),some (.int a),some (.ref an),y1,y2]/\H' an=some (.lst vs)/\Paired (cf K H') (IM R ps n a j) vs) (by lia) ⟨s1.trans s2,g2,_,_,vs0,rfl,s2 _ _ g0,Paired.imp' (λ_ _ z=>cf.same z s2) q0⟩ (λj σ' H' _ ⟨e,e2,_⟩=>⟨bo.of e2,bo.of (e _ _ grs)⟩) ?_ ?_
 ·rintro j v1 v2 σ' H' r h1 h2 ⟨s',gl,y1,y2,vs,rfl,ga,qa⟩ hr;obtain ⟨row,er,q,rfl,_,Rr⟩:=bN qrs h2;have mr:=ai er;have wr:=wR row mr;obtain ⟨pj,ej,rfl⟩:=IP h1;have hj:j < ps.length:=(aG.mp ej).1;have ejD:ps.getD j 0=pj:=by rw[aa,ej];rfl
  have pjn:pj < n:=by have:=rr.low j hj;rw[ejD] at this;exact this
  have fr:bI R j a=row.getD a 0:=by unfold bI;rw[aa (l:=R),er];rfl
  have sr:aA H' (upd H' r (.tup [.int pj,.ref q])):=aA.new hr;have gr:(upd H' r (.tup [.int pj,.ref q])) r=some (.tup [.int pj,.ref q]):=az;generalize upd H' r (.tup [.int pj,.ref q])=H3 at sr gr ⊢;have s03:=s'.trans sr;obtain ⟨us,gu,qu⟩:=Rr.same s03;obtain ⟨vx,ex,nx⟩:=F5 qu (j:=a) (by lia);exists bS (bo.of gu) ex ?_;exists ⟨_,_,0,row.getD a 0,rfl,⟨_,rfl,T.sq_NOUGHT _⟩,nx,ye,hz row mr _ (getD_in (by lia)),λr4 H4 s4 n4=>?_⟩;have ga4:=(sr.trans s4) _ _ ga;have gl4:=(sr.trans s4) _ _ gl;have la:=qa.length;rw[su] at la;exists d9 ga4 (eN (by lia)) rfl ?_;refine ⟨(s03.trans s4).after na,by rw[aJ anl];exact gl4,_,_,_,rfl,az,?_⟩;rw[<- Oo RR hj hp,ejD,fr,show -(row.getD a 0)=0 - row.getD a 0 by grind];exact gI (Paired.imp' (λ_ _ z=>(cf.same z (sr.trans s4)).updL ga4) qa) pj (n4.updL ga4)
 ·rintro σ' H' ⟨s',gl,y1,y2,vs,rfl,ga,qa⟩;rw[lps] at qa;exists k an H' na s' ⟨vs,ga,qa⟩
theorem rG:sC ["rows","wide","leads"] 2 oG:=by walk_at "d"
theorem ze (T:Txt K mg Z):T.jS.o P w base 3 (Es K):=by
 refine T.jS.F.k rG ?_;walk_at "i";obtain ⟨p,n,H0,R,ps,rfl,G,r100,n100,RR,k⟩:=h
 refine ⟨_,(ak (fo 2 rG.nd (cA (zb T) hr T.nE (df bH)))
  (au (aN (b7 ["place"] ["leads"] [2] (cF rfl T.range (df cz)) (λ_=>(fM 0)) (λ_=>GQ (aW (Ak K (by rfl)) bH cz (by with_unfolding_all rfl))) (λ_=>bH))))),?_⟩
 walk_at "s";exists ⟨p,n,H0,R,ps,rfl,G,r100,n100,RR,λl H1 nl s1 g1=>?_⟩;exists ⟨by lia,by lia,?_⟩;refine qL (n:=n) (λi ys H'=>aA H1 H'/\ys=dM (xj ps i)) j7 ⟨aA.refl _,rfl⟩ ?_ ?_
 ·rintro i ys H' hi hlen ⟨s',rfl⟩;rw[xY];exists ⟨l,dM ps,rfl,.inl (bo.of (s' _ _ g1)),rfl,J5,?_⟩;rw[Mg];by_cases e:i∈ps
  ·rw[decide_eq_true e];exists ⟨s',?_⟩;rw[zE,if_neg (by simpa using e)]
  ·rw[decide_eq_false e,show (if true=true then !false else false)=true from rfl];exists ⟨s',?_⟩;rw[zE,if_pos e];unfold dM;rw[dm];rfl
 ·rintro ys H2 hy ⟨s2,rfl⟩ r hr;exact k r _ (s1.none (s2.none hr)) ((s1.trans s2).trans (aA.new hr)) az
theorem Ez:sC ["rows","wide","basis"] 2 CC:=by walk_at "d"
theorem EU (T:Txt K mg Z):T.sE.o P w base 6 (Bi K):=by
 refine T.sE.F.k Ez ?_;walk_at "i";obtain ⟨p,n,w,H0,rows,R,ps,rfl,G,r100,n100,RR,F,szR,k⟩:=h
 refine ⟨_,(ak (fo 2 Ez.nd (cA (qq T) hr T.jo (cB bH cz)))
  (au (aN (b7 ["at"] ["basis","wide"] [2,1] (cL (cA (ze T) hr T.jS (cB eE cz))) (λ_=>(fM 0)) (λ_=>cg) (λ_=>(cA (GU T) hr T.qC (CP cz eE bH))))))),?_⟩
 walk_at "s";exists ⟨p,n,w,H0,R,rfl,G,r100,n100,RR.2.1,F,λba R2 ps2 M H1 nb s1 G1 RR2 pm M0 M1 tM=>?_⟩;obtain ⟨rfl,rfl⟩:=RR2.same (CJ RR);have pn:=RR.le;have lR:=RR.1;have fl:=Rm (ps:=ps2) (i:=n);exists ⟨ba,n,H,R2,ps2,rfl,G1,by lia,by lia,⟨rows,RR⟩,λfr H2 nf s2 g2=>?_⟩;exists ⟨⟨_,bo.of g2⟩,?_⟩;refine eT (K:=K) (xs:=dM (xj ps2 n)) (λi ys H'=>aA H2 H'/\Paired (cS K H H') ((xj ps2 n).take i |>.map (KP R2 ps2 n)) ys) (c6 (dF (by rw[zm];lia))) ⟨aA.refl _,.nil⟩ (λi ys H' _ ⟨s,_⟩=>bo.of (s _ _ g2)) ?_ ?_
 ·rintro i v ys H' hx hlen ⟨s',pr⟩;obtain ⟨a,ea,rfl⟩:=IP hx;obtain ⟨an,ap⟩:=xQ.mp (ai ea);have s02:=(s1.trans s2).trans s';exists ⟨ba,n,a,H,R2,ps2,rfl,(G1.same s2).same s',by lia,by lia,⟨rows,RR⟩,an,ap,szR,λr H3 nr s3 R3=>?_⟩;refine ⟨s'.trans s3,?_⟩;rw[take_snoc ea,dm];exact bR (Paired.imp' (λ_ _ z=>cS.same z s3) pr) (.cons ⟨r,rfl,s02.none nr,R3⟩ .nil)
 ·rintro ys H3 hy ⟨s3,pr⟩ r hr;rw[aB (by rw[zm];exact ah _)] at pr;have sn:aA H3 (upd H3 r (.lst ys)):=aA.new hr;have s03:=(s1.trans s2).trans s3;exact k r _ (s03.none hr) (s03.trans sn) ⟨ys,az,Paired.imp' (λ_ _ z=>cS.same z sn) pr,ij (H0:=H) (rows:=cR R2 ps2 n) ⟨H3,hr,pr⟩⟩
theorem rF:sC ["system","steps","told"] 2 oB:=by walk_at "d"
theorem yW (T:Txt K mg Z):T.jN.o P w base 9 (yi K Z.a_System):=by
 refine T.jN.F.k rF ?_;walk_at "i";obtain ⟨x,tt,e,H0,mv,pt,lk,rfl,hT,S,D,F,UF,k⟩:=h
 refine ⟨_,(ak (fo 2 rF.nd (cA (tz T) hr T.i8 (cB (EM bH T.cl_System T.kD (o6 T) (hr.mono (by decide)) T.l7 .nil yQ) cz)))
  (au (aN (cA (qq T) hr T.jo (cB (cA (EU T) hr T.sE (cB eE (ck bH rfl))) (ck bH rfl)))))),?_⟩
 walk_at "s";have d8:=D.n8;have et:(bu mv mv.length).length=mv.length:=cT;obtain ⟨a,c,KF,_,_⟩:=UF.kf;obtain ⟨dx,a',b',c',gx,_⟩:=id S;exists ⟨x,dx,_,rfl,gx,yg,?_⟩;exists ⟨x,H0,mv,pt,lk,rfl,S,D,F.sf,λy H1 ny s1 S1=>?_⟩;exists ⟨y,a,c,tt,H,_,lk,pt,rfl,by lia,S1,D.turn,KF,λq R ps H2 nq s2 G2 RR=>?_⟩;have s02:=s1.trans s2;obtain ⟨⟨w1,sw⟩,szR,w2,swn,bn,q1,q10,tn⟩:=UF.sw RR;have e1:=UF.e1;rw[et] at RR sw swn bn tn;have le:=RR.le;have lR:=RR.1;have cnt:=vU RR;exists ⟨x,Z.a_System,dx,_,_,rfl,s02 _ _ gx,T.cl_System,T.na_states,cE,?_⟩;exists ⟨q,mv.length,w1,H1,_,R,ps,rfl,G2,by lia,by lia,RR,sw,szR,λr3 H3 n3 s3 G3=>?_⟩;have s03:=s02.trans s3;exists ⟨x,Z.a_System,dx,_,_,rfl,s03 _ _ gx,T.cl_System,T.na_states,cE,?_⟩;exists ⟨r3,mv.length,w2,H2,_,rfl,G3,by lia,by lia,C3,swn,λr4 Hd psd M4 H4 n4 s4 G4 RN _ M0 M1 tp=>?_⟩;have up:=ar (show 0 < 2 by decide) bn;exact k r4 Hd H4 (s03.none n4) (s03.trans s4) (G4.weakN λq h=>s03.none h) ⟨R,ps,psd,M4,RR,RN,GW RR bK q10 tn RN,M0,af M1 up,λxs hx x hx'=>(tp xs hx x hx').mono up⟩
theorem Af:sC ["many"] 1 pS:=by walk_at "d"
theorem gZ (T:Txt K mg Z):T.dS.o P w base 1 (Ql K):=by
 refine T.dS.F.k Af ?_;walk_at "i";obtain ⟨m,rfl,hm,k⟩:=h;refine ⟨_,(au (aN (b7 ["place"] [] [] (cF rfl T.range (df bH)) (λ_=>(fM 0)) (λ_=>cg) (λ_=>(jf (v:=.ref Z.a_NOUGHT) rfl T.mg_NOUGHT rfl))))),?_⟩;walk_at "s";exists ⟨by lia,by lia,?_⟩;refine kG (n:=m) (cf K) (λ_=>0) (by lia) (λa b=>a.same b) ?_ ?_
 ·rintro i Ha NY NN hi sa k1;exists k1 _ _ (aA.refl _) ⟨_,rfl,T.sq_NOUGHT _⟩
 ·rintro ys H1 t ht s1 g1 pr _;exact k t H1 ht s1 ⟨ys,g1,by rw[<- L5];exact pr⟩
theorem pP:sC ["self","price"] 2 c8:=by walk_at "d"
theorem qv (T:Txt K mg Z):j9 P w K mg base F1 1 Z.fh Z.ic ["self","price"] (Ep K Z.a_NotSteered Z.a_SumError "price"):=by
 refine T.kg.k pP ?_;walk_at "i";obtain ⟨e,y,rfl,he,k⟩:=h;refine ⟨_,(au (II bH cz rfl)),?_⟩;walk_at "s";walk_at "w";unfold Lp;exists ⟨e,_,_,rfl,he,T.xi_NotSteered,T.nt_NotSteered,λdx hd ne=>?_⟩;exists k dx hd ne
theorem mf:sC ["system","reach"] 1 ji:=by walk_at "d"
theorem tj (T:Txt K mg Z):T.dG.oX P w base 9 (Lh K Z.a_System Z.a_NotSteered):=by
 refine T.dG.F.kX mf ?_;walk_at "i";obtain ⟨x,a,c,H0,mv,pt,lk,rfl,S,D,KF,SW,k,ke⟩:=h
 refine ⟨_,(ak (fo 1 mf.nd (cA (tz T) hr T.i8 (cB bH (ck bH rfl))))
  (au (cW (aW nY (bf aU (by rfl) T.len aQ (df cz)) (ck bH rfl) (bg _)) (au (Bt wj rfl (EO rfl T.xi_NotSteered T.in_NotSteered T.fn_NotSteered T.kp_NotSteered (qv T) (hr.mono (by decide)) rfl T.mg_NotSteered T.kb (df (aL bC (cA (EU T) hr T.sE (cB cz (ck bH rfl))) aj))))) bQ))),?_⟩
 walk_at "s";obtain ⟨dx,am,ap,al,gx,m1,m2,m3,Gm,Gp,Gl⟩:=id S;have d8:=D.n8;exists ⟨x,Z.a_System,dx,_,_,rfl,gx,T.cl_System,T.na_states,cE,?_⟩;exists ⟨x,a,c,mv.length,H0,mv,pt,lk,rfl,by lia,S,D,KF,λr R ps H1 nr s1 G1 RR=>?_⟩;obtain ⟨xs,g1,q1,_⟩:=id G1;have l1:=q1.length;have lR:=RR.1;have sh:=Lv RR;have gx1:=s1 _ _ gx;exists ⟨_,_,rfl,.inl (bo.of g1),?_⟩;exists ⟨x,Z.a_System,dx,_,_,rfl,gx1,T.cl_System,T.na_states,cE,?_⟩;walk_at "w";rw[<- l1,lR];by_cases hf:ps.length < mv.length
 rotate_left
 ·rw[decide_eq_false (show ¬((ps.length:Nat):Int) < ((mv.length:Nat):Int) by lia)];exists k R ps H1 s1 RR (by lia)
 rw[decide_eq_true (show ((ps.length:Nat):Int) < ((mv.length:Nat):Int) by lia)];obtain ⟨⟨w,F⟩,sz⟩:=SW R ps RR;walk_at "w";unfold Cc Gz;exists ⟨x,Z.a_System,dx,_,_,rfl,gx1,T.cl_System,T.na_states,cE,?_⟩;exists ⟨r,mv.length,w,_,_,R,ps,rfl,G1,by lia,by lia,RR,F,sz,λq H2 nq s2 G2=>?_⟩;obtain ⟨zs,gz,qz,_⟩:=id G2;have lz:=qz.length;have np:=JX (R:=R) hf;obtain ⟨v,ev⟩:∃v,zs[0]?=some v:=⟨_,ae (by lia)⟩;obtain ⟨row,er,r0,rfl,n0,R0⟩:=bN qz ev;have er':(cR R ps mv.length).getD 0 []=row:=by rw[aa,er];rfl
 have s12:=s1.trans s2;exists bS (bo.of gz) (dE (j:=0) ev) ?_;walk_at "w";intro e he;refine ⟨e,.ref r0,rfl,az,λdq hd ne=>⟨rfl,e,Z.a_NotSteered,_,some dq,rfl,az,s12.none he,T.xi_NotSteered,?_⟩⟩;have hd':H2 dq=none:=by rw[aJ ne] at hd;exact hd
 refine ke R ps r0 dq _ RR hf (uH (s12.none he) s12 hd') (s1.none n0) ?_ (by rw[qH ne,aJ ne,az]);rw[er'];exact R0.same (uH he (aA.refl _) hd')
theorem Ag:sC ["rows","wide"] 2 pT:=by walk_at "d"
theorem Al (T:Txt K mg Z):T.kM.o P w base 5 (IA K):=by
 refine T.kM.F.k Ag ?_;walk_at "i";obtain ⟨p,n,w,H0,rows,rfl,G,r100,n100,hw,F,k⟩:=h;refine ⟨_,(au (aN (aL bE (cA (ES T) hr T.sv (cB (cA (dX T) hr T.cV (cB bH cz)) (bf aU (by rfl) T.len aQ (df bH)))) aj))),?_⟩;walk_at "s";obtain ⟨xs,gx,qx,_⟩:=id G;have lx:=qx.length;have lt:(bu rows n).length=n:=jw;exists ⟨p,n,H0,rows,rfl,G,by lia,by lia,hw,λr H1 nr s1 G1=>?_⟩;exists ⟨_,_,rfl,.inl (bo.of (s1 _ _ gx)),?_⟩;rw[<- lx];exists ⟨r,rows.length,w,_,bu rows n,rfl,G1,by lia,r100,λys hy=>?_,F,λt lp qp R ps d ls H2 gt gq G2 s2 S=>?_⟩
 ·unfold bu at hy;obtain ⟨i,_,rfl⟩:=av.mp hy;rw[ag]
 exists k qp R ps H2 (s1.trans s2) gq S.rr
theorem mY:sC ["system","states","steps","first"] 2 oE:=by walk_at "d"
theorem za (T:Txt K mg Z):T.jR.o P w base 7 (Em K Z.a_System):=by
 refine T.jR.F.k mY ?_;walk_at "i";obtain ⟨x,p,w,H0,H1,mv,pt,lk,sts,pus,Rk,pk,rfl,S,D,G,C,kn,KR,full,F2,SW,k⟩:=h
 refine ⟨_,(ak (fo 2 mY.nd (br oR cz (cA (tD T) hr T.ja (cB bH (m8 pL cz (qi (qS lU aj)) qj)))))
  (ak (fo 3 mY.nd (bf (BS rfl) (by rfl) T.min PyProof.Rows.boot_min (df (b7 ["place"] ["states"] [1] (cL (cA (Al T) hr T.kM (cB (br oR eE (ck bH rfl)) (ck bH rfl)))) (λ_=>(fM 0)) (λ_=>GQ (aW yU bH (bf (AJ K (by rfl)) (by rfl) T.len aQ (df cz)) (bg _))) (λ_=>bH)))))
  (ak (cW (aW nY jB (bf aU (by rfl) T.len aQ (df eE)) (bg _)) (au (aN (cA (gZ T) hr T.dS (df (ck bH rfl))))) bQ)
  (au (aN (cA (wI T) hr T.lh (cB (ck bH rfl) (br ni jB (bf aU (by rfl) T.len aQ (df eE)))))))))),?_⟩
 walk_at "s";obtain ⟨dx,am,ap,al,gx,m1,m2,m3,Gm,Gp,Gl⟩:=id S;obtain ⟨xs,gs,qs,_⟩:=id G.any;have lx:=qs.length;have ls:=C.len;have d8:=D.n8;have i4:=D.i4
 have lw:(sts.getD pus.length []).length=mv.length:=by
  rw[aa,ae (by lia)];exact C.wide _ (aF _)
 exists vP (bo.of gs) λl1 Ha sa na ga=>?_
 rw[Kt (show xs.length=pus.length+1 by lia)] at ga;have qd:=kJ qs pus.length;rw[HH ls] at qd;have Ga:bx K (λ_=>none) Ha l1 [sts.getD pus.length []]:=⟨_,ga,Paired.imp' (λ_ _ z=>z.same sa) qd,ij ⟨_,na,qd⟩⟩;exists ⟨x,l1,_,_,mv,pt,lk,_,rfl,S.same sa,D,Ga,(show 1<=100 by decide),λr hr=>by rw[bD.mp hr];exact lw,λys hy r hr=>by rw[bD.mp hr];exact F2 ys hy,λr Hb nb sb Gb=>?_⟩;obtain ⟨ys,gy,qy,_⟩:=id Gb.any;have ly:ys.length=1:=qy.length.symm;have sab:=sa.trans sb;exists oP (sab _ _ gs) gy j7 λl2 Hc sc nc gc=>?_
 have sac:=sab.trans sc;have gxc:=sac _ _ gx;obtain ⟨zs,gz,qz,_⟩:=id (Gp.same sac).any;have lz:=qz.length;exists ⟨x,Z.a_System,dx,_,_,rfl,gxc,T.cl_System,T.na_put,sV,?_⟩;exists oP gc gz (c6 (dF (by rw[ao];lia))) λl3 Hd sd nd gd=>?_
 have sad:=sac.trans sd;have gxd:=sad _ _ gx;have q3:Paired (cS K (λ_=>none) Hc) (sts++[lY mv (sts.getD pus.length [])]++pt) (xs++ys++zs):=bR (bR (Paired.imp' (λ_ _ z=>z.same sac) qs) (Paired.imp' (λ_ _ z=>z.same sc) qy)) qz;have Gd:bx K (λ_=>none) Hd l3 (sts++[lY mv (sts.getD pus.length [])]++pt):=⟨_,gd,Paired.imp' (λ_ _ z=>z.same sd) q3,ij ⟨_,nd,q3⟩⟩;rw[b9,List.singleton_append] at Gd;generalize hr:sts++(lY mv (sts.getD pus.length []) :: pt)=rows at Gd SW;have lr:rows.length=sts.length+1+pt.length:=by rw[<- hr];simp;lia
 have hw:∀xs∈rows,xs.length=mv.length:=λxs hx=>by
  rw[<- hr] at hx;rcases ay.mp hx with hx | hx
  ·exact C.wide xs hx
  ·rcases aw.mp hx with rfl | hx
   ·exact lX
   ·exact D.pw xs hx
 exists ⟨x,Z.a_System,dx,_,_,rfl,gxd,T.cl_System,T.na_states,cE,?_⟩;exists ⟨l3,mv.length,w,_,rows,rfl,Gd,by lia,by lia,hw,SW,λq R ps He se ge RR=>?_⟩;have sae:=sad.trans se;have gse:=sae _ _ gs;exists ⟨⟨_,bo.of ge⟩,?_⟩;have ln:(bu rows mv.length).length=mv.length:=jw;have lps:(dM ps).length=ps.length:=ag ..
 have kp:ps.length<=rows.length:=by
  have inc:∀j,j < ps.length->j<=ps.getD j 0:=by
   intro j
   induction j with
   | zero=>intro _;exact aS _
   | succ j ih =>
    intro hj;have:=ih (by lia);have:=RR.2.2.inc j (j+1) (by lia) hj
    lia
  rcases gC ps.length with z | z
  ·lia
  ·have h1:=inc (ps.length - 1) (by lia);have h2:=RR.2.2.low (ps.length - 1) (by lia)
   lia
 obtain ⟨t1,ht1,hf1⟩:=Ov D.mw D.pw KR full C kn hr.symm RR ln;refine eT (K:=K) (a:=q) (xs:=dM ps) (λi ys H'=>H'=He/\ys=((ps.take i).filter (sts.length<=·)).map λp=>V.int ((p:Nat):Int)) j7 ⟨rfl,rfl⟩ (λi ys H' _ ⟨e,_⟩=>by rw[e];exact bo.of ge) ?_ ?_
 ·rintro i v ys H' hv hlen ⟨rfl,rfl⟩;unfold dM at hv;rw[aD] at hv;cases ep:ps[i]? with
  | none=>rw[ep] at hv;cases hv
  | some pi =>
  rw[ep] at hv;cases hv;exists ⟨_,_,rfl,.inl (bo.of gse),?_⟩;walk_at "w";rw[take_snoc ep,Gi,dm];by_cases h:sts.length<=pi
  ·rw[decide_eq_true (show ((xs.length:Nat):Int)<=((pi:Nat):Int) by lia)];exists ⟨rfl,?_⟩;rw[show [pi].filter (sts.length<=·)=[pi] by simp [h]];rfl
  ·rw[decide_eq_false (show ¬((xs.length:Nat):Int)<=((pi:Nat):Int) by lia)];exists ⟨rfl,?_⟩;rw[show [pi].filter (sts.length<=·)=[] by simp;lia];simp
 rintro ys' Hf hy ⟨rfl,rfl⟩ l4 n4;rw[lps,List.take_length];have s4:aA Hf (upd Hf l4 (.lst ((ps.filter (sts.length<=·)).map λp=>V.int ((p:Nat):Int)))):=aA.new n4;have g4:(upd Hf l4 (.lst ((ps.filter (sts.length<=·)).map λp=>V.int ((p:Nat):Int)))) l4=some (.lst ((ps.filter (sts.length<=·)).map λp=>V.int ((p:Nat):Int))):=az;generalize upd Hf l4 (.lst ((ps.filter (sts.length<=·)).map λp=>V.int ((p:Nat):Int)))=Hg at s4 g4 ⊢;have sag:=sae.trans s4;exists ⟨l4,(ps.filter (sts.length<=·)).map λp=>((p:Nat):Int),rfl,bo.of (by rw[g4,ow];rfl),?_,λM hM hmin=>?_⟩
 ·rw[ag];refine xW (a:=ps.getD t1 0) (ie.mpr ⟨?_,by simpa using hf1⟩);rw[aa,ae ht1];exact aF _
 obtain ⟨t0,ht0,rfl,hf0⟩:=N8 hM
 have hm:∀t,t < ps.length->sts.length<=ps.getD t 0->ps.getD t0 0<=ps.getD t 0:=λt ht h=>by
  have:=hmin ((ps.getD t 0:Nat):Int) (av.mpr ⟨_,ie.mpr ⟨by rw[aa,ae ht];exact aF _,by simpa using h⟩,rfl⟩)
  lia
 have lo0:=RR.2.2.low t0 ht0;have nx:=λ(pu s':List Rat) lp ls' hpu hs=>MV D.mw D.pw C hr.symm RR ln ht0 hf0 hm (pu:=pu) (s':=s') lp ls' hpu hs
 have gxg:=sag _ _ gx;have l2g:=(sd.trans se).trans s4;clear hmin hM;generalize ps.getD t0 0=f at lo0 hf0 nx ⊢;exists ⟨_,_,rfl,.inl (bo.of (l2g _ _ gc)),?_⟩;rw[ao,<- lx,ly];walk_at "w";by_cases e:f=sts.length
 ·rw[decide_eq_true (show ((f:Nat):Int) < ((sts.length+1:Nat):Int) by lia)];exists ⟨x,Z.a_System,dx,_,_,rfl,gxg,T.cl_System,T.na_ins,uB,?_⟩;exists ⟨pt.length,rfl,by lia,λr Hh nh sh Rh=>?_⟩;exact k r _ Hh (sag.none nh) (sag.trans sh) Rh bV (λz hz=>.inl (iC hz)) λs' ls' hs=>nx _ s' bV ls' (.inl ⟨e,λl=>GO⟩) hs
 ·rw[decide_eq_false (show ¬((f:Nat):Int) < ((sts.length+1:Nat):Int) by lia)];exists ⟨x,Z.a_System,dx,_,_,rfl,gxg,T.cl_System,T.na_ins,uB,?_⟩;exists ⟨_,_,rfl,.inl (bo.of (l2g _ _ gc)),?_⟩;rw[ao,<- lx,ly];walk_at "w";obtain ⟨l,rfl⟩:∃l,f=sts.length+(1+l):=⟨f - sts.length - 1,by lia⟩;rw[show ((sts.length+(1+l):Nat):Int) - ((sts.length+1:Nat):Int)=((l:Nat):Int) by lia];refine ⟨pt.length,_,rfl,by lia,λr Hh nh sh Rh=>?_⟩;refine k r _ Hh (sag.none nh) (sag.trans sh) Rh Ir (λz hz=>?_) λs' ls' hs=>nx _ s' Ir ls' (.inr ⟨l,by lia,rfl,λl'=>?_⟩) hs
  ·unfold Ec at hz;obtain ⟨i,_,rfl⟩:=av.mp hz
   split
   ·exact .inr rfl
   ·exact .inl rfl
  ·exact P5 (by lia)
theorem qR:sC ["self","state","puts","columns"] 3 fU:=by walk_at "d"
theorem xf (T:Txt K mg Z):j9 P w K mg base F1 5 Z.nI Z.nF ["self","state","puts"] (Bm K Z.a_System):=by
 refine T.sS.k qR ?_;walk_at "i";obtain ⟨x,p,q,H0,mv,pt,lk,st,pu,rfl,S,D,F,hp,hq,l1,l2,fs,k⟩:=h
 refine ⟨_,(ak (fo 3 qR.nd (cA (dX T) hr T.cV (cB (ck bH rfl) (ck bH rfl))))
  (au (aN (b7 ["line","column"] ["state","puts"] [1,2] (nW rfl T.zip (cB (ck bH rfl) jB)) (λ_=>(jI K 2 (b6 (fM 0) (b6 (fM 1) gH)))) (λ_=>cg) (λ_=>(cA (yY T) hr T.iI (cB (br oR bH cz) (br oR eE jB)))))))),?_⟩
 walk_at "s";obtain ⟨dx,a,b,c,gx,n1,n2,n3,Ga,Gb,Gc⟩:=id S;have d1:=D.n8;have d2:=D.i4;exists ⟨x,Z.a_System,dx,_,_,rfl,gx,T.cl_System,T.na_put,sV,?_⟩;exists ⟨x,Z.a_System,dx,_,_,rfl,gx,T.cl_System,T.na_states,cE,?_⟩;exists ⟨b,mv.length,H0,pt,rfl,Gb,by lia,by lia,D.pw,λt H1 nt s1 Gt=>?_⟩;obtain ⟨as,ga,qa,_⟩:=Ga.same s1;obtain ⟨ts,gt,qt,_⟩:=id Gt;have la:=qa.length;have lt:=qt.length;rw[cT] at lt;have gx1:=s1 _ _ gx;exists ⟨x,Z.a_System,dx,_,_,rfl,gx1,T.cl_System,T.na_move,rn,?_⟩;exists ⟨⟨_,bo.of ga⟩,⟨_,bo.of gt⟩,?_⟩;refine nG (K:=K) (xs:=as) (ws:=ts) (λi ys H'=>aA H1 H'/\Paired (cf K H') ((jm mv pt st pu).take i) ys) j7 (by lia) ⟨aA.refl _,.nil⟩ (λi ys H' _ ⟨s,_⟩=>⟨bo.of (s _ _ ga),bo.of (s _ _ gt)⟩) ?_ ?_
 ·rintro i v1 v2 ys H' r h1 h2 hy ⟨s,pr⟩ hr;obtain ⟨line,el,u1,rfl,_,R1⟩:=bN qa h1;obtain ⟨col,ec,u2,rfl,_,R2⟩:=bN qt h2;have ml:=ai el;have mc:=ai ec;have sr:aA H' (upd H' r (.tup [.ref u1,.ref u2])):=aA.new hr;have gr:(upd H' r (.tup [.ref u1,.ref u2])) r=some (.tup [.ref u1,.ref u2]):=az;have s2:=s.trans sr;generalize upd H' r (.tup [.ref u1,.ref u2])=H2 at sr gr s2 ⊢;have lc:col.length=pt.length:=mP col mc;have ll:line.length=mv.length:=D.mw line ml;obtain ⟨z1,g1,q1⟩:=R1.same s2;obtain ⟨z2,g2,q2⟩:=R2.same s2;have y1:=q1.length;have y2:=q2.length;exists oP g1 g2 j7 λc1 H3 s3 n3' g3=>?_
  have s13:=s2.trans s3;obtain ⟨z3,g4,q3⟩:=(hp.same s1).same s13;obtain ⟨z4,g5,q4⟩:=(hq.same s1).same s13;have y3:=q3.length;have y4:=q4.length;exists oP g4 g5 j7 λc2 H4 s4 n4 g6=>?_
  have s34:=s3.trans s4;exists ⟨c1,c2,line++col,st++pu,rfl,⟨_,s4 _ _ g3,Paired.imp' (λ_ _ z=>z.same s34) (bR q1 q2)⟩,⟨_,g6,Paired.imp' (λ_ _ z=>z.same s4) (bR q3 q4)⟩,by rw[ao,ao];lia,by rw[ao];lia,.sys ?_ fs,λr2 H5 s5 h5=>?_⟩
  ·refine F.fits λy hy=>?_
   rcases ay.mp hy with hy | hy
   ·exact .inl ⟨line,ml,hy⟩
   ·obtain ⟨j,_,rfl⟩:=av.mp mc;obtain ⟨xs,hx,rfl⟩:=av.mp hy;by_cases hj:j < xs.length
    ·refine .inr (.inl ⟨xs,hx,?_⟩);rw[aa,ae hj];exact aF hj
    ·exact .inr (.inr (.inr (by rw[aa,aH (by lia)];rfl)))
  ·have em:(jm mv pt st pu)[i]?=some (eI (line++col) (st++pu)):=by
    unfold jm;rw[bW,el,ec]
   refine ⟨((s2.trans s34).trans s5),?_⟩;rw[take_snoc em];exact bR (Paired.imp' (λ_ _ z=>(z.same (sr.trans s34)).same s5) pr) (.cons h5 .nil)
 ·rintro ys H' hy ⟨s,pr⟩ l hl;have lm:(jm mv pt st pu).length=mv.length:=by unfold jm;rw[aV,cT];lia
  rw[aB (by lia)] at pr;exact k l _ (s1.none (s.none hl)) ((s1.trans s).trans (aA.new hl)) ⟨ys,az,Paired.imp' (λ_ _ z=>z.same (aA.new hl)) pr⟩
theorem uE:sC ["system","states","puts","step"] 1 CF:=by walk_at "d"
theorem LR (T:Txt K mg Z):T.uQ.o P w base 8 (Eu K Z.a_System):=by
 refine T.uQ.F.k uE ?_;walk_at "i";obtain ⟨x,H0,mv,pt,lk,Rk,pk,rfl,S,D,SF,KR,full,CS,k⟩:=h
 refine ⟨_,(ak (fo 1 uE.nd (ib (df (cA (gZ T) hr T.dS (df (ck bH rfl))))))
  (ak (fo 2 uE.nd (ib kz))
  (ak (fB PassesOwn.never rfl (cF rfl T.range (df (ck bH rfl))) (fM 3 uE.nd)
   (ak (je (By fJ fk fj mS eE (df (cA (za T) hr T.jR (cB bH cz)))))
  (au (je (By fJ fk fj mS cz (df (Ob bH T.cl_System T.qU (xf T) (hr.mono (by decide)) T.sN .nil yQ (cB (aL bC cz (qS lU aj)) (aL bC eE (qS lU aj))))))))))
  (au (aN (dW (cB cz (br oR eE (ib (df (cA (gZ T) hr T.dS (df (ck bH rfl))))))))))))),?_⟩
 walk_at "s";obtain ⟨dx,am,ap,al,gx,m1,m2,m3,Gm,Gp,Gl⟩:=id S;have d8:=D.n8;have i4:=D.i4;exists ⟨x,Z.a_System,dx,_,_,rfl,gx,T.cl_System,T.na_states,cE,?_⟩;exists ⟨mv.length,rfl,by lia,λr0 H1 n0 s1 R0=>?_⟩;exists fg λa H2 s2 na ga=>?_
 exists fg λb H3 s3 nb gb=>?_
 have s03:=(s1.trans s2).trans s3;have gx3:=s03 _ _ gx;have ga3:=s3 _ _ ga;have ab:a≠b:=λz=>by rw[<- z,ga] at nb;cases nb
 have Ha0:H a=none:=s1.none na;have Hb0:H b=none:=(s1.trans s2).none nb;obtain ⟨zs0,gz0,_⟩:=id R0;have r0a:r0≠a:=λz=>by rw[<- z,gz0] at na;cases na
 have r0b:r0≠b:=λz=>by rw[<- z,s2 _ _ gz0] at nb;cases nb
 exists ⟨x,Z.a_System,dx,_,_,rfl,gx3,T.cl_System,T.na_states,cE,?_⟩;exists ⟨by lia,by lia,?_⟩;refine eF (n:=mv.length) (λj σ' H'=>aA H H'/\∃xs ys sts pus y,σ'=[some (.ref x),some (.ref a),some (.ref b),y]/\H' a=some (.lst xs)/\H' b=some (.lst ys)/\Paired (pe K (λq=>H q=none/\q≠a/\q≠b) H') sts xs/\Paired (pe K (λq=>H q=none/\q≠a/\q≠b) H') pus ys/\Jw mv pt sts pus/\pus.length=j/\∀pu∈pus,∀z∈pu,z=0\/z=1) ⟨s03,[.ref r0],[],[List.replicate mv.length 0],[],none,rfl,ga3,gb,.cons ⟨r0,rfl,⟨n0,r0a,r0b⟩,(R0.same s2).same s3⟩ .nil,.nil,MT,rfl,(λ_ h=>nomatch h)⟩ ?_ ?_
 ·rintro j σ' H' hj ⟨s',xs,ys,sts,pus,y,rfl,ga',gb',pa,pb,C,lj,z01⟩;have lxs:=pa.length;have lys:=pb.length;have lC:=C.len;obtain ⟨F2,⟨w,SW⟩,FN⟩:=CS sts pus C z01 (by lia)
  have lst:(sts.getD pus.length []).length=mv.length:=by
   rw[aa,ae (by lia)];exact C.wide _ (aF _)
  exists ⟨.inl ⟨rfl,_,bo.of gb'⟩,?_⟩;exists ⟨x,a,w,_,H,mv,pt,lk,sts,pus,Rk,pk,rfl,S.same s',D,bx.ofE ga' pa (λq h=>h.1) (λq h=>h.2.1),C,by lia,KR,full,F2,SW,λr pu Hc nr sc Rr lp z1 nx=>?_⟩;have gbc:=sc _ _ gb';have gac:=sc _ _ ga';obtain ⟨zs1,gz1,_⟩:=id Rr;have ra:r≠a:=λz=>by rw[z,ga'] at nr;cases nr
  have rb:r≠b:=λz=>by rw[z,gb'] at nr;cases nr
  exists mQ gbc (dF (by lia)) ?_;have gad:(upd Hc b (.lst (ys++[.ref r]))) a=some (.lst xs):=by rw[aJ ab];exact gac
  have gbd:(upd Hc b (.lst (ys++[.ref r]))) b=some (.lst (ys++[.ref r])):=az;have sd:aA H (upd Hc b (.lst (ys++[.ref r]))):=(s'.trans sc).after Hb0;have pad:=Paired.imp' (λ_ _ z=>pe.updL (o:=.lst (ys++[.ref r])) (pe.same z sc) gbc (λq h=>h.2.2)) pa;have pbd:=bR (Paired.imp' (λ_ _ z=>pe.updL (o:=.lst (ys++[.ref r])) (pe.same z sc) gbc (λq h=>h.2.2)) pb) (.cons (pe.updL (o:=.lst (ys++[.ref r])) (P:=λq=>H q=none/\q≠a/\q≠b) ⟨r,rfl,⟨s'.none nr,ra,rb⟩,Rr⟩ gbc (λq h=>h.2.2)) .nil);have Rrd:c7 K (upd Hc b (.lst (ys++[.ref r]))) r pu:=Rr.updL gbc rb;generalize upd Hc b (.lst (ys++[.ref r]))=Hd at gad gbd sd pad pbd Rrd ⊢;exists ⟨.inl ⟨rfl,_,bo.of gad⟩,?_⟩;obtain ⟨v,ev⟩:∃v,xs[pus.length]?=some v:=⟨_,ae (by lia)⟩;obtain ⟨st,est,q,rfl,hq,Rq⟩:=bN pad ev;have est':sts.getD pus.length []=st:=by rw[aa,est];rfl
  rw[est'] at lst FN;exists ⟨x,dx,_,rfl,sd _ _ gx,JF,?_⟩;exists bS (bo.of gad) (zQ (by lia) ev) ?_;exists bS (bo.of gbd) (zQ (k:=ys.length) (by rw[ao];rfl) (by rw[bM (ah _),ot];rfl)) ?_;exists ⟨x,q,r,_,mv,pt,lk,st,pu,rfl,S.same sd,D,SF,Rq,Rrd,lst,lp,FN pu z1,λr2 He n2 se R2=>?_⟩;have pbd:Paired (pe K (λq=>H q=none/\q≠a/\q≠b) Hd) (pus++[pu]) (ys++[.ref r]):=pbd;have gae:=se _ _ gad;have gbe:=se _ _ gbd;have r2a:r2≠a:=λz=>by rw[z,gad] at n2;cases n2
  have r2b:r2≠b:=λz=>by rw[z,gbd] at n2;cases n2
  exists mQ gae (dF (by lia)) ?_;exists ⟨(sd.trans se).after Ha0,xs++[.ref r2],ys++[.ref r],sts++[jm mv pt st pu],pus++[pu],_,rfl,az,by rw[aJ ab.symm];exact gbe,bR (Paired.imp' (λ_ _ z=>pe.updL (pe.same z se) gae (λq h=>h.2.1)) pad) (.cons (pe.updL (P:=λq=>H q=none/\q≠a/\q≠b) ⟨r2,rfl,⟨sd.none n2,r2a,r2b⟩,R2⟩ gae (λq h=>h.2.1)) .nil),Paired.imp' (λ_ _ z=>pe.updL (pe.same z se) gae (λq h=>h.2.1)) pbd,nx _ (Ou D) (λc=>?_),by rw[ao,lj];rfl,λp' hp=>?_⟩
  ·rw[J7 D lst lp c];unfold bI;rw[est']
  ·rcases ay.mp hp with hp | hp
   ·exact z01 p' hp
   ·rw[bD.mp hp];exact z1
 ·rintro σ' H' ⟨s',xs,ys,sts,pus,y,rfl,ga',gb',pa,pb,C,lj,z01⟩;have lys:=pb.length;have gx':=s' _ _ gx;exists ⟨x,Z.a_System,dx,_,_,rfl,gx',T.cl_System,T.na_ins,uB,?_⟩;exists ⟨pt.length,rfl,by lia,λr Hc nr sc Rr=>?_⟩;exists fg λl Hd sd nl gl=>?_
  exists oP ((sc.trans sd) _ _ gb') gl (c6 (dF (show ys.length+1<=_ by lia))) λl2 He se n2 ge=>?_
  exists cM λt Hf sf gf=>?_
  have scf:=((sc.trans sd).trans se).trans sf;have q3:Paired (cS K H Hd) (pus++[List.replicate pt.length 0]) (ys++[.ref r]):=bR (Paired.imp' (λ_ _ ⟨q,e,h,R⟩=>⟨q,e,h.1,R.same (sc.trans sd)⟩) pb) (.cons ⟨r,rfl,s'.none nr,Rr.same sd⟩ .nil);exact k t a l2 sts pus Hf (s'.trans scf) gf ((bx.ofE ga' pa (λq h=>h.1) (λq h=>h.2.1)).same scf) ⟨_,sf _ _ ge,Paired.imp' (λ_ _ z=>z.same (se.trans sf)) q3,ij ⟨_,n2,q3⟩⟩ C lj z01
theorem Cr:sC ["one","other"] 2 rN:=by walk_at "d"
theorem uM (T:Txt K mg Z):T.jP.o P w base 4 (vw K):=by
 refine T.jP.F.k Cr ?_;walk_at "i";obtain ⟨p,q,xq,yq,rfl,hp,hq,hl,hz,hn,hm,k⟩:=h;refine ⟨_,(au (aN (b7 ["mine","yours"] [] [] (nW rfl T.zip (cB bH cz)) (λ_=>(jI K 2 (b6 (fM 0) (b6 (fM 1) gH)))) (λ_=>cg) (λ_=>(cA (EV T) hr T.sF (cB bH cz)))))),?_⟩;walk_at "s";obtain ⟨xs,gx,qx⟩:=id hp;obtain ⟨ys,gy,qy⟩:=id hq;have lx:=qx.length;have ly:=qy.length;exists ⟨⟨_,bo.of gx⟩,⟨_,bo.of gy⟩,?_⟩;refine nG (K:=K) (xs:=xs) (ws:=ys) (λi zs H'=>aA H H'/\Paired (cf K H') ((List.zipWith (λx y=>x - y) xq yq).take i) zs) j7 (by lia) ⟨aA.refl _,.nil⟩ (λi zs H' _ ⟨s,_⟩=>⟨bo.of (s _ _ gx),bo.of (s _ _ gy)⟩) ?_ ?_
 ·rintro i x y zs H' r hx hy hlen ⟨s,hP⟩ hr;obtain ⟨n,en,hn1⟩:=bN qx hx;obtain ⟨m,em,hm1⟩:=bN qy hy;have s1:=aA.new (o:=.tup [x,y]) hr;have s01:=s.trans s1;have gr:(upd H' r (.tup [x,y])) r=some (.tup [x,y]):=az;generalize upd H' r (.tup [x,y])=Hr at s1 s01 gr ⊢;exists ⟨_,_,n,m,rfl,hn1.same s01,hm1.same s01,hn n (ai en),hm m (ai em),λr3 H3 s3 h3=>?_⟩;refine ⟨s01.trans s3,?_⟩;have ez:(List.zipWith (λx y=>x - y) xq yq)[i]?=some (n - m):=by rw[bW,en,em]
  rw[take_snoc ez];exact bR (Paired.imp' (λ_ _ z=>z.same (s1.trans s3)) hP) (.cons h3 .nil)
 ·rintro zs H' hy ⟨s,hP⟩ l hl';rw[aB (by rw[aV];lia)] at hP;exact k l _ (s.none hl') (s.trans (aA.new hl')) ⟨zs,az,Paired.imp' (λ_ _ z=>z.same (aA.new hl')) hP⟩
theorem kI:sC ["one","other","wide","columns"] 3 pV:=by walk_at "d"
theorem Am (T:Txt K mg Z):T.fN.o P w base 6 (yw K):=by
 refine T.fN.F.k kI ?_;walk_at "i";obtain ⟨p,q,w,H0,H1,one,other,rfl,hp,hq,z1,z2,hw,h1,h2,kk⟩:=h
 refine ⟨_,(ak (fo 3 kI.nd (cA (dX T) hr T.cV (cB cz eE)))
  (au (aN (b7 ["line"] ["columns"] [3] (cL bH) (λ_=>(fM 0)) (λ_=>cg) (λ_=>(cA (zd T) hr T.iJ (cB cz bH))))))),?_⟩
 walk_at "s";exists ⟨q,w,H1,other,rfl,hq,z2,hw,h2,λc H2 nc s2 hc=>?_⟩;obtain ⟨xs,gx,qx,_⟩:=hp.same s2;exists ⟨⟨_,bo.of gx⟩,?_⟩;refine dH (K:=K) (F:=cS K H0) (cS K H) (λxs=>(bu other w).map λys=>eI ys xs) gx qx z1 (λa b=>a.same b) (λa b=>a.same b) ?_ ?_
 ·rintro i ns x H3 NY NN en s3 ⟨u,rfl,_,hu⟩ k;obtain ⟨e1,e2⟩:=h1 ns (ai en);exists ⟨c,u,H,bu other w,ns,rfl,hc.same s3,hu,by simp [bu];lia,by lia,λys hy=>⟨?_,e2 ys hy⟩,λr H4 nr s4 hr=>k _ _ s4 ⟨r,rfl,s2.none (s3.none nr),hr⟩⟩;obtain ⟨j,_,rfl⟩:=av.mp hy;rw[ag];exact e1.symm
 ·rintro ys' H3 r hr s3 g pr nx;exact kk r H3 (s2.none hr) (s2.trans s3) ⟨ys',g,pr,ij nx⟩
theorem Ad:sC ["system","rows"] 2 pQ:=by walk_at "d"
theorem CU (T:Txt K mg Z):T.iI.o P w base 4 (ID K):=by
 refine T.iI.F.k iG ?_;walk_at "i";obtain ⟨p,q,xs,ys,rfl,hp,hq,hl,hz,⟨⟨M,h1⟩,⟨N,h2⟩⟩,kk⟩:=h
 refine ⟨_,(ak (fo 2 iG.nd (cA (fY T) hr T.du (df bH)))
  (ak (fo 3 iG.nd (cA (fY T) hr T.du (df cz)))
  (ak (fo 4 iG.nd (yO rfl T.list rfl T.zip (cB (cA (jL T) hr T.fG (cB bH eE)) (cA (jL T) hr T.fG (cB cz jB)))))
  (au (aN (cA (mR T) hr T.iO (cB (bf (FD rfl) (by rfl) T.sum PyProof.Rows.boot_sum (df (b7 ["mine","yours"] [] [] (cL wY) (λ_=>(jI K 2 (b6 (fM 0) (b6 (fM 1) gH)))) (λ_=>cg) (λ_=>(br cw bH cz))))) (br cw eE jB)))))))),?_⟩
 walk_at "s";replace hp:=hp.rowK;replace hq:=hq.rowK;replace hl:(ys.map nm).length=(xs.map nm).length:=by simpa using hl
 replace hz:(xs.map nm).length<=1000:=by simpa using hz
 obtain ⟨b1,s1⟩:=h1.bot;obtain ⟨b2,s2⟩:=h2.bot;have k2:∀r H',aA H H'->H' r=some (.tup [.int (lo (HI (xs.map nm) (ys.map nm)) (eJ (xs.map nm)*eJ (ys.map nm))),.int (hi (HI (xs.map nm) (ys.map nm)) (eJ (xs.map nm)*eJ (ys.map nm)))])->Q (.ref r) H':=λr H' s g=>kk r H' s (cf.mk g (Jg b1 b2))
 clear kk;generalize xs.map nm=ns at hp hq hl hz h1 h2 b1 b2 s1 s2 k2;generalize ys.map nm=ms at hp hq hl hz h1 h2 b1 b2 s1 s2 k2;have hb:0 < eJ ns*eJ ms:=fw b1 b2;exists ⟨p,ns,M,rfl,hp,hz,h1,λH1 t1=>?_⟩;exists ⟨q,ms,N,rfl,hq.same t1,by lia,h2,λH2 t2=>?_⟩;have u2:=t1.trans t2;exists ⟨p,ns,M,_,rfl,hp.same u2,hz,h1,b1,s1,λr1 H3 n3 t3 g3=>?_⟩;exists ⟨q,ms,N,_,rfl,(hq.same u2).same t3,by lia,h2,b2,s2,λr2 H4 n4 t4 g4=>?_⟩;exists ⟨r1,r2,_,_,rfl,bo.of (t4 _ _ g3),bo.of g4,by simp [dD,hl],λL ts H5 t5 n5 g5 pr=>?_⟩;have lt:=pr.length;have ll:(dD ns (eJ ns)).length=ns.length:=by simp [dD]
 have lm:(dD ms (eJ ms)).length=ns.length:=by simp [dD,hl]
 rw[qZ,ag,ag,ll,lm] at lt;exists ⟨⟨_,bo.of g5⟩,?_⟩;refine eT (K:=K) (xs:=ts) (λi ys H'=>H'=H5/\ys=((List.zipWith (λx y=>x*y) (dD ns (eJ ns)) (dD ms (eJ ms))).take i).map V.int) j7 ⟨rfl,rfl⟩ (λi ys H' _ ⟨e,_⟩=>by subst e;exact bo.of g5) ?_ ?_
 ·rintro i x ys H' hx hlen ⟨rfl,rfl⟩;obtain ⟨pq,epq,T,rfl,gT⟩:=bN pr hx;obtain ⟨t,u,et,eu,rfl⟩:=Iq epq;exists eZ (show eK _ _ from .inr ⟨_,_,uA h1 b1 s1 (ai et),uA h2 b2 s2 (ai eu),by decide⟩) ?_;have ez:(List.zipWith (λx y=>x*y) (dD ns (eJ ns)) (dD ms (eJ ms)))[i]?=some (t*u):=by rw[bW,et,eu]
  exact ⟨rfl,by rw[take_snoc ez];simp⟩
 ·rintro ys H' hy ⟨rfl,rfl⟩ l hl';exists ⟨l,List.zipWith (λx y=>x*y) (dD ns (eJ ns)) (dD ms (eJ ms)),rfl,bo.of (by rw[az,aB (by rw[aV];lia)]),?_⟩;exists eZ (show eK _ _ from .inr ⟨_,_,s1,s2,by decide⟩) ?_;exists ⟨_,_,rfl,by lia,(s1.mul s2).mono (by decide),λr H6 t6 g6=>?_⟩;rw[if_neg (by lia),if_neg (by lia)] at g6;exact k2 r H6 ((((u2.trans t3).trans t4).trans t5).trans ((aA.new hl').trans t6)) g6
theorem CW (T:Txt K mg Z):T.iJ.o P w base 5 (IC K):=by
 refine T.iJ.F.k yD ?_;walk_at "i";obtain ⟨p,q,H0,rows,ys,rfl,hp,hq,hz,hl,hr1,kk⟩:=h;refine ⟨_,(au (aN (b7 ["line"] ["row"] [1] (cL bH) (λ_=>(fM 0)) (λ_=>cg) (λ_=>(cA (CU T) hr T.iI (cB bH cz)))))),?_⟩;walk_at "s";obtain ⟨xs,gx,qx,_⟩:=id hp;exists ⟨⟨_,bo.of gx⟩,?_⟩;refine dH (K:=K) (F:=cS K H0) (cf K) (λxs=>eI xs ys) gx qx hz (λa b=>a.same b) (λa b=>a.same b) ?_ ?_
 ·rintro i ns x H' NY NN en s ⟨u,rfl,_,hu⟩ k;obtain ⟨e1,e2⟩:=hr1 ns (ai en);exists ⟨u,q,ns,ys,rfl,hu,hq.same s,e1.symm,by lia,e2,λr H2 s2 h2'=>k _ _ s2 h2'⟩
 ·rintro ys' H' r hr s g pr nx;exact kk r H' hr s ⟨ys',g,pr⟩
theorem w5 (T:Txt K mg Z):T.fN.o P w base 6 (yx K):=by
 refine T.fN.F.k kI ?_;walk_at "i";obtain ⟨p,q,w,H0,H1,one,other,rfl,hp,hq,z1,z2,hw,h1,h2,kk⟩:=h
 refine ⟨_,(ak (fo 3 kI.nd (cA (dX T) hr T.cV (cB cz eE)))
  (au (aN (b7 ["line"] ["columns"] [3] (cL bH) (λ_=>(fM 0)) (λ_=>cg) (λ_=>(cA (CW T) hr T.iJ (cB cz bH))))))),?_⟩
 walk_at "s";exists ⟨q,w,H1,other,rfl,hq,z2,hw,h2,λc H2 nc s2 hc=>?_⟩;obtain ⟨xs,gx,qx,_⟩:=hp.same s2;exists ⟨⟨_,bo.of gx⟩,?_⟩;refine dH (K:=K) (F:=cS K H0) (cS K H) (λxs=>(bu other w).map λys=>eI ys xs) gx qx z1 (λa b=>a.same b) (λa b=>a.same b) ?_ ?_
 ·rintro i ns x H3 NY NN en s3 ⟨u,rfl,_,hu⟩ k;obtain ⟨e1,e2⟩:=h1 ns (ai en);exists ⟨c,u,H,bu other w,ns,rfl,hc.same s3,hu,by simp [bu];lia,by lia,λys hy=>⟨?_,e2 ys hy⟩,λr H4 nr s4 hr=>k _ _ s4 ⟨r,rfl,s2.none (s3.none nr),hr⟩⟩;obtain ⟨j,_,rfl⟩:=av.mp hy;rw[ag];exact e1.symm
 ·rintro ys' H3 r hr s3 g pr nx;exact kk r H3 (s2.none hr) (s2.trans s3) ⟨ys',g,pr,ij nx⟩
theorem wZ (T:Txt K mg Z):T.kL.o P w base 7 (Be K Z.a_System):=by
 refine T.kL.F.k Ad ?_;walk_at "i";obtain ⟨x,p,H0,H1,mv,pt,lk,N,rfl,S,D,GN,n100,hN,k⟩:=h;refine ⟨_,(au (aN (cA (w5 T) hr T.fN (CP cz (ck bH rfl) (ck bH rfl))))),?_⟩;walk_at "s";obtain ⟨dx,am,ap,al,gx,_,_,_,Gm,_,_⟩:=id S;have d1:=D.n8;exists ⟨x,Z.a_System,dx,_,_,rfl,gx,T.cl_System,T.na_move,rn,?_⟩;exists ⟨x,Z.a_System,dx,_,_,rfl,gx,T.cl_System,T.na_states,cE,?_⟩;exists ⟨p,am,mv.length,H1,H0,N,mv,rfl,GN,Gm,by lia,by lia,by lia,hN,D.mw,k⟩
theorem Lm:sC ["one","other"] 2 CA:=by walk_at "d"
theorem LQ (T:Txt K mg Z):T.uP.o P w base 3 (mW K (λx y=>x*y)):=by
 refine T.uP.F.ok Lm (λvs H Q E h=>?_) (λcdv A outer s H vs Q E hr h=>?_)
 ·obtain ⟨p,q,a,b,c,d,rfl,hp,hq,hb,hd,sa,sb,sc,sd,k⟩:=xK h;rfl
 ·obtain ⟨p,q,a,b,c,d,rfl,hp,hq,hb,hd,sa,sb,sc,sd,k⟩:=xK h;refine ⟨_,(au (aN (cA (mR T) hr T.iO (cB (br cw (aL bE bH aj) (aL bE cz aj)) (br cw (aL bE bH aj) (aL bE cz aj)))))),?_⟩;refine lg (σ:=[some (.ref p),some (.ref q)]) rfl ?_;have hbd:0 < b*d:=fw hb hd;have sbd:Sz 8999 (b*d):=(sb.mul sd).mono (by decide);exists eZ (show eK _ _ from .inr ⟨_,_,sa,sc,by decide⟩) ?_;exists eZ (show eK _ _ from .inr ⟨_,_,sb,sd,by decide⟩) ?_;walk_at "w";exists ⟨_,_,rfl,by lia,sbd,λr H' s' h'=>?_⟩;rw[if_neg (by lia),if_neg (by lia)] at h';exact k r H' s' h'
theorem Cq:sC ["by","row"] 2 rM:=by walk_at "d"
theorem uL (T:Txt K mg Z):T.jO.o P w base 4 (GB K):=by
 refine T.jO.F.k Cq ?_;walk_at "i";obtain ⟨u,q,c,ys,rfl,hc,sc,hq,hz,h2,kk⟩:=h;refine ⟨_,(au (aN (b7 ["value"] ["by"] [0] (cL cz) (λ_=>(fM 0)) (λ_=>cg) (λ_=>(cA (LQ T) hr T.uP (cB cz bH)))))),?_⟩;walk_at "s";obtain ⟨us,gu,qu⟩:=id hq;exists ⟨⟨_,bo.of gu⟩,?_⟩;refine dH (K:=K) (F:=cf K) (cf K) (λy=>c*y) gu qu hz (λa b=>a.same b) (λa b=>a.same b) ?_ ?_
 ·rintro i y x H' NY NN en s hx k;exists ⟨_,_,_,_,rfl,hc.same s,hx,sc,h2 y (ai en),λr H2 s2 h2'=>k _ _ s2 h2'⟩
 ·rintro ys' H' r hr s g pr nx;exact kk r H' hr s ⟨ys',g,pr⟩
theorem uF:sC ["system","row","wish","told","weight"] 3 CG:=by walk_at "d"
theorem LS (T:Txt K mg Z):T.uR.o P w base 8 (Ew K Z.a_System):=by
 refine T.uR.F.k uF ?_;walk_at "i";obtain ⟨x,p,q,H0,mv,pt,lk,row,wish,rfl,S,D,Rp,lr,Rq,l100,F,k⟩:=h
 refine ⟨_,(ak (fo 3 uF.nd cz)
  (ak (fB PassesOwn.never rfl (QT rfl T.reversed (df eE)) (fM 4 uF.nd)
   (au (fo 3 uF.nd (cA (uM T) hr T.jP (cB (aL bC (cA (wZ T) hr T.kL (cB bH (ib (df jB)))) aj) (cA (uL T) hr T.jO (cB wY cz)))))))
  (au (aN jB)))),?_⟩
 walk_at "s";obtain ⟨ws,gw,qw⟩:=id Rq;have lw:=qw.length;have d8:=D.n8;walk_at "w";unfold S7;exists ⟨q,ws,rfl,bo.of gw,?_⟩;refine OB (K:=K) (a:=q) (xs:=ws) (λi σ' H'=>aA H H'/\∃r y,σ'=[some (.ref x),some (.ref p),some (.ref q),some (.ref r),y]/\c7 K H' r (DM mv row wish i)) ⟨aA.refl _,p,_,rfl,Rp⟩ (λi σ' H' _ ⟨s,_⟩=>bo.of (s _ _ gw)) ?_ ?_
 ·rintro i v σ' H' hi hv ⟨s',r,y,rfl,Rr⟩;obtain ⟨a,ea,hq⟩:=bN qw hv;have ma:=ai ea;have ea':wish.getD (wish.length - 1 - i) 0=a:=by rw[aa,lw,ea];rfl
  have ln:=DL (wish:=wish) lr i;exists fg λl H1 s1 nl gl=>?_
  have G1:bx K (λ_=>none) H1 l [DM mv row wish i]:=⟨_,gl,.cons ⟨r,rfl,rfl,Rr.same s1⟩ .nil,λz=>by
   obtain ⟨zs,gz,_⟩:=Rr;cases bD.mp z;rw[gz] at nl;cases nl⟩
  have s01:=s'.trans s1;exists ⟨x,l,_,_,mv,pt,lk,_,rfl,S.same s01,D,G1,(show 1<=100 by decide),λxs hx=>?_,λt H2 nt s2 G2=>?_⟩
  ·rw[bD.mp hx];exact ⟨ln,λys hy=>⟨F.col ys hy,F.rw i (by lia)⟩⟩
  obtain ⟨us,gu,qu,_⟩:=id G2;have e2:iD [DM mv row wish i] mv mv.length=[K7 mv (DM mv row wish i)]:=rfl;rw[e2] at qu
  match us,qu,gu with
  | [u],.cons ⟨t1,et,_,Rt⟩ .nil,gu =>
  subst et;have s02:=s01.trans s2;exists ⟨_,p,a,row,rfl,?_,F.ws a ma,Rp.same s02,by lia,F.rz,λt2 H3 n3 s3 R3=>?_⟩
  ·exact hq.same s02
  exists ⟨t1,t2,_,_,rfl,Rt.same s3,R3,by rw[ag,Gx,lr],by rw[Gx];lia,F.tk i (by lia),λz hz=>?_,λt3 H4 n4 s4 R4=>?_⟩
  ·obtain ⟨y,hy,rfl⟩:=av.mp hz;exact F.mul a ma y hy
  exists ⟨(s02.trans s3).trans s4,t3,_,rfl,?_⟩;show c7 K H4 t3 (List.zipWith (λx y=>x - y) (K7 mv (DM mv row wish i)) (row.map λy=>wish.getD (wish.length - 1 - i) 0*y))
  rw[ea'];exact R4
 ·rintro σ' H' ⟨s',r,y,rfl,Rr⟩;walk_at "w";rw[<- lw] at Rr;exact k r H' s' Rr
theorem NC:sC ["one","other"] 2 GI:=by walk_at "d"
theorem Oj (T:Txt K mg Z):T.xM.o P w base 3 (mW K (λx y=>x+y)):=by
 refine T.xM.F.ok NC (λvs H Q E h=>?_) (λcdv A outer s H vs Q E hr h=>?_)
 ·obtain ⟨p,q,a,b,c,d,rfl,hp,hq,hb,hd,sa,sb,sc,sd,k⟩:=xT h;rfl
 ·obtain ⟨p,q,a,b,c,d,rfl,hp,hq,hb,hd,sa,sb,sc,sd,k⟩:=xT h;refine ⟨_,(au (aN (cA (mR T) hr T.iO (cB (br fD (br cw (aL bE bH aj) (aL bE cz aj)) (br cw (aL bE cz aj) (aL bE bH aj))) (br cw (aL bE bH aj) (aL bE cz aj)))))),?_⟩;refine lg (σ:=[some (.ref p),some (.ref q)]) rfl ?_;have hbd:0 < b*d:=fw hb hd;have sbd:Sz 8999 (b*d):=(sb.mul sd).mono (by decide);exists eZ (show eK _ _ from .inr ⟨_,_,sa,sd,by decide⟩) ?_;exists eZ (show eK _ _ from .inr ⟨_,_,sc,sb,by decide⟩) ?_;exists eZ (show eK _ _ from .inr ⟨_,_,sb,sd,by decide⟩) ?_;walk_at "w";exists ⟨_,_,rfl,by lia,sbd,λr H' s' h'=>?_⟩;rw[if_neg (by lia),if_neg (by lia)] at h';exact k r H' s' h'
theorem Ey:sC ["one","other"] 2 tQ:=by walk_at "d"
theorem ET (T:Txt K mg Z):T.oa.o P w base 4 (yt K):=by
 refine T.oa.F.k Ey ?_;walk_at "i";obtain ⟨p,q,xs,ys,rfl,hp,hq,hl,h1000,sx,sy,k⟩:=h;refine ⟨_,(au (aN (b7 ["mine","yours"] [] [] (nW rfl T.zip (cB bH cz)) (λ_=>(jI K 2 (b6 (fM 0) (b6 (fM 1) gH)))) (λ_=>cg) (λ_=>(cA (Oj T) hr T.xM (cB bH cz)))))),?_⟩;walk_at "s";obtain ⟨us,gu,qu⟩:=id hp;obtain ⟨ws,gw,qw⟩:=id hq;have lu:=qu.length;have lw:=qw.length;exists ⟨⟨_,bo.of gu⟩,⟨_,bo.of gw⟩,?_⟩;refine nG (K:=K) (xs:=us) (ws:=ws) (λi zs H'=>aA H H'/\Paired (cf K H') ((List.zipWith (λx y=>x+y) xs ys).take i) zs) j7 (by lia) ⟨aA.refl _,.nil⟩ (λi zs H' _ ⟨s,_⟩=>⟨bo.of (s _ _ gu),bo.of (s _ _ gw)⟩) ?_ ?_
 ·rintro i u w zs H' r hu hw hlen ⟨s',pr⟩ hr;obtain ⟨x,ex,nx⟩:=bN qu hu;obtain ⟨y,ey,ny⟩:=bN qw hw;have sr:aA H' (upd H' r (.tup [u,w])):=aA.new hr;have gr:(upd H' r (.tup [u,w])) r=some (.tup [u,w]):=az;generalize upd H' r (.tup [u,w])=H2 at sr gr ⊢;exists ⟨_,_,x,y,rfl,(nx.same s').same sr,(ny.same s').same sr,sx x (ai ex),sy y (ai ey),λr3 H3 s3 n3=>?_⟩;refine ⟨(s'.trans sr).trans s3,?_⟩;have ez:(List.zipWith (λx y=>x+y) xs ys)[i]?=some (x+y):=by rw[bW,ex,ey]
  rw[take_snoc ez];exact bR (Paired.imp' (λ_ _ z=>cf.same z (sr.trans s3)) pr) (.cons n3 .nil)
 rintro zs H' hz ⟨s',pr⟩ l hl';rw[aB (by rw[aV];lia)] at pr;exact k l _ (s'.none hl') (s'.trans (aA.new hl')) ⟨zs,az,Paired.imp' (λ_ _ z=>cf.same z (aA.new hl')) pr⟩
theorem vD:sC ["system","rows","fed_back","move"] 2 yI:=by walk_at "d"
theorem JV (T:Txt K mg Z):T.sY.o P w base 7 (yz K Z.a_System):=by
 refine T.sY.F.k vD ?_;walk_at "i";obtain ⟨x,p,H0,H1,mv,pt,lk,F,rfl,S,D,GF_,lF,wF,C,k⟩:=h
 refine ⟨_,(ak (fo 2 vD.nd (cA (Am T) hr T.fN (CP (cA (dX T) hr T.cV (cB (ck bH rfl) (ck bH rfl))) cz (ck bH rfl))))
  (ak (mB 3 ["line","more"] [] [] vD.nd rfl rfl (nW rfl T.zip (cB (ck bH rfl) eE)) (λ_=>(jI K 2 (b6 (fM 0) (b6 (fM 1) gH)))) (λ_=>cg) (λ_=>(cA (ET T) hr T.oa (cB bH cz))))
  (au (aN (xH T.mk_System (jk T) (hr.mono (by decide)) rfl T.mg_System T.ip .nil yQ (CP jB (ck bH rfl) (ck bH rfl))))))),?_⟩
 walk_at "s";obtain ⟨dx,am,ap,al,gx,_,_,_,Gm,Gp,Gl⟩:=id S;have d1:=D.n8;have d2:=D.i4;exists ⟨x,Z.a_System,dx,_,_,rfl,gx,T.cl_System,T.na_put,sV,?_⟩;exists ⟨x,Z.a_System,dx,_,_,rfl,gx,T.cl_System,T.na_states,cE,?_⟩;exists ⟨ap,mv.length,H0,pt,rfl,Gp,by lia,by lia,D.pw,λtp H2 ntp s2 G2=>?_⟩;have gx2:=s2 _ _ gx;exists ⟨x,Z.a_System,dx,_,_,rfl,gx2,T.cl_System,T.na_states,cE,?_⟩;exists ⟨tp,p,mv.length,H,H1,bu pt mv.length,F,rfl,G2,GF_.same s2,by rw[cT];lia,by lia,by lia,λxs hx=>⟨by rw[mP xs hx,lF],λys hy=>C.f2 xs hx ys hy⟩,wF,λfb H3 nfb s3 G3=>?_⟩;have s13:=s2.trans s3;have gx3:=s13 _ _ gx;obtain ⟨ms,gm,qm,_⟩:=Gm.same s13;obtain ⟨fs,gf,qf,_⟩:=id G3;have lm:=qm.length;have lf:=qf.length;have lT:(iD (bu pt mv.length) F mv.length).length=mv.length:=by unfold iD;rw[ag,cT]
 have wT:∀xs∈iD (bu pt mv.length) F mv.length,xs.length=mv.length:=λxs hx=>by
  obtain ⟨z,_,rfl⟩:=av.mp hx;rw[ag,cT]
 exists ⟨x,Z.a_System,dx,_,_,rfl,gx3,T.cl_System,T.na_move,rn,?_⟩;exists ⟨⟨_,bo.of gm⟩,⟨_,bo.of gf⟩,?_⟩;refine nG (K:=K) (xs:=ms) (ws:=fs) (λi ys H'=>aA H3 H'/\Paired (cS K H H') ((List.zipWith (λline more=>List.zipWith (λx y=>x+y) line more) mv (iD (bu pt mv.length) F mv.length)).take i) ys) j7 (by lia) ⟨aA.refl _,.nil⟩ (λi ys H' _ ⟨s,_⟩=>⟨bo.of (s _ _ gm),bo.of (s _ _ gf)⟩) ?_ ?_
 ·rintro i u w ys H4 r4 hu hw hlen ⟨s4,pr4⟩ hr4;obtain ⟨line,el,qa,rfl,_,Ra⟩:=bN qm hu;obtain ⟨more,em,qb,rfl,_,Rb⟩:=bN qf hw;have ml:=ai el;have mm:=ai em;have sr:aA H4 (upd H4 r4 (.tup [.ref qa,.ref qb])):=aA.new hr4;have gr:(upd H4 r4 (.tup [.ref qa,.ref qb])) r4=some (.tup [.ref qa,.ref qb]):=az;generalize upd H4 r4 (.tup [.ref qa,.ref qb])=H5 at sr gr ⊢;have s35:=s4.trans sr;exists ⟨qa,qb,line,more,rfl,Ra.same s35,Rb.same s35,by rw[wT more mm,D.mw line ml],by rw[D.mw line ml];lia,C.sm line ml,C.st more mm,λr6 H6 n6 s6 R6=>?_⟩;refine ⟨s35.trans s6,?_⟩;have ez:(List.zipWith (λline more=>List.zipWith (λx y=>x+y) line more) mv (iD (bu pt mv.length) F mv.length))[i]?=some (List.zipWith (λx y=>x+y) line more):=by rw[bW,el,em]
  rw[take_snoc ez];exact bR (Paired.imp' (λ_ _ z=>cS.same z (sr.trans s6)) pr4) (.cons ⟨r6,rfl,s13.none (s35.none n6),R6⟩ .nil)
 rintro ys H4 hy ⟨s4,pr4⟩ mp hmp;have sn:aA H4 (upd H4 mp (.lst ys)):=aA.new hmp;have gn:(upd H4 mp (.lst ys)) mp=some (.lst ys):=az;have nn:V.ref mp∉ys:=ij ⟨H4,hmp,pr4⟩;rw[aB (by rw[aV];lia),OS D.mw lF] at pr4;generalize upd H4 mp (.lst ys)=H5 at sn gn ⊢;have GM:bx K H H5 mp (DH mv pt F):=⟨ys,gn,Paired.imp' (λ_ _ z=>cS.same z sn) pr4,nn⟩;have s15:=s13.trans (s4.trans sn);have gx5:=s15 _ _ gx;exists ⟨x,Z.a_System,dx,_,_,rfl,gx5,T.cl_System,T.na_put,sV,?_⟩;exists ⟨x,Z.a_System,dx,_,_,rfl,gx5,T.cl_System,T.na_look,rA,?_⟩;walk_at "w";intro x2 dx2 nx ndx nex;have ok:=C.ok;exact ⟨x2,dx2,mp,ap,al,H5,H,H0,H0,_,_,_,rfl,nx,ndx,nex,rfl,GM,Gp.same s15,Gl.same s15,Cl81.sysd D,ok.1,ok.2.1,ok.2.2,λH' s' S'=>⟨rfl,k x2 H' (s15.none nx) (s15.trans s') (S'.weak s15)⟩⟩
theorem iF:sC ["system","wish","wide","found","last","lines","sides","rows","mend"] 2 vF:=by walk_at "d"
theorem yX (T:Txt K mg Z):T.gK.oX P w base 10 (Ej K Z.a_System Z.a_NotSteered):=by
 refine T.gK.F.kX iF ?_;walk_at "i";obtain ⟨x,q,a,c,H0,mv,pt,lk,wish,rfl,S,D,SF,KF,SW,CS,ST,Rq,lq,k,ke⟩:=h
 refine ⟨_,(ak (je (xJ (tj T) (hr.mono (by decide)) rfl T.dG.m T.dG.F.kp T.dG.b .nil uK (df bH)))
  (ak (fo 2 iF.nd (ck bH rfl))
  (ak (fo 3 iF.nd (cA (LR T) hr T.uQ (df bH)))
  (ak (mB 4 ["step"] ["wide"] [2] iF.nd rfl rfl (cF rfl T.range (df (br fD eE aj))) (λ_=>(fM 0)) (λ_=>cg) (λ_=>(ib (df (ER (aW gi bH cz (bg _)) (jf (v:=.ref Z.a_ONE) rfl T.mg_ONE rfl) (jf (v:=.ref Z.a_NOUGHT) rfl T.mg_NOUGHT rfl))))))
  (ak (mB 5 ["state","given","end"] [] [] iF.nd rfl rfl (N9 rfl T.zip (CP (aL bE jB aj) (aL bE jB aj) wY)) (λ_=>(jI K 3 (b6 (fM 0) (b6 (fM 1) (b6 (fM 2) gH))))) (λ_=>cg) (λ_=>(br oR (br oR bH cz) eE)))
  (ak (fo 6 iF.nd (cA (dX T) hr T.cV (cB (b7 ["line"] ["wide"] [2] (cL (cA (qq T) hr T.jo (cB (m8 pL z9 (qi aj) qj) (br fD (br fD eE (ck bH rfl)) aj)))) (λ_=>(fM 0)) (λ_=>cg) (λ_=>(m8 (Ll K (by rfl)) bH (qi cz) qj))) (br fD (ck bH rfl) aj))))
  (ak (fo 7 iF.nd (m8 pL uu qj (qi (qS lU aj))))
  (ak (fo 8 iF.nd (cA (LS T) hr T.uR (CP (cA (JV T) hr T.sY (cB bH Aj)) (aL bC uu (qS lU aj)) cz)))
  (au (aN (b7 ["row","by"] ["mend"] [8] (nW rfl T.zip (cB Aj (aL bC (aL bE jB aj) aj))) (λ_=>(jI K 2 (b6 (fM 0) (b6 (fM 1) gH)))) (λ_=>cg) (λ_=>(cA (uM T) hr T.jP (cB bH (cA (uL T) hr T.jO (cB cz eE)))))))))))))))),?_⟩
 walk_at "s";obtain ⟨dx,am,ap,al,gx,m1,m2,m3,Gm,Gp,Gl⟩:=id S;have d8:=D.n8;have i4:=D.i4;exists ⟨x,a,c,H0,mv,pt,lk,rfl,S,D,KF,SW,λRk pk H1 s1 KR full=>?_,λR ps r dx H' RR hf s' nr Rr hd=>ke R ps r dx H' RR hf s' nr Rr hd⟩;exists ⟨x,Z.a_System,dx,_,_,rfl,(s1 _ _ gx),T.cl_System,T.na_states,cE,?_⟩;exists ⟨x,H0,mv,pt,lk,Rk,pk,rfl,S.same s1,D,SF,KR,full,CS,λt a b sts pus H2 s2 gt Ga Gb C lp z01=>?_⟩;have s12:=s1.trans s2;exists ⟨by lia,by lia,?_⟩;rw[show (((mv.length:Nat):Int)+1).toNat=mv.length+1 by lia];obtain ⟨xa,ga,qa,_⟩:=id Ga;obtain ⟨xb,gb,qb,_⟩:=id Gb;have lxa:=qa.length;have lxb:=qb.length;have lC:=C.len;rw[ao,aO] at lxb;refine kG (n:=mv.length+1) (cS K H) (λj=>[if j=mv.length then (1:Rat) else 0]) (by lia) (λa b=>a.same b) ?_ ?_
 ·rintro j H3 NY NN hj s3 k1;exists jc (λh0=>?_) (λh0=>?_)
  ·exists fg λl Hx sx nx gl=>?_
   refine k1 _ _ sx ⟨l,rfl,s12.none (s3.none nx),_,gl,.cons ?_ .nil⟩;have e:j=mv.length:=by have:=of_decide_eq_true h0;lia
   rw[if_pos e];exact ⟨_,rfl,T.sq_ONE _⟩
  ·exists fg λl Hx sx nx gl=>?_
   refine k1 _ _ sx ⟨l,rfl,s12.none (s3.none nx),_,gl,.cons ?_ .nil⟩;have e:j≠mv.length:=λz=>h0 (decide_eq_true (by rw[z]))
   rw[if_neg e];exact ⟨_,rfl,T.sq_NOUGHT _⟩
 rintro xl H3 l3 n3 s3 g3 p3 nx3;have lxl:=p3.length;rw[ag,cm] at lxl;have ga3:=s3 _ _ ga;have gb3:=s3 _ _ gb;have gt3:=s3 _ _ gt;walk_at "w";unfold Pu;exists ⟨a,b,l3,rfl,⟨_,bo.of ga3⟩,⟨_,bo.of gb3⟩,⟨_,bo.of g3⟩,?_⟩;have s13:=s12.trans s3;refine Ku (K:=K) (xs:=xa) (ws:=xb) (zs:=xl) (λi ys H'=>aA H3 H'/\Paired (cS K H H') ((oU sts (pus++[List.replicate pt.length 0]) mv.length).take i) ys) j7 (by lia) (by lia) ⟨aA.refl _,.nil⟩ (λi ys H' _ ⟨e,_⟩=>⟨bo.of (e _ _ ga3),bo.of (e _ _ gb3),bo.of (e _ _ g3)⟩) ?_ ?_
 ·rintro j u1 u2 u3 ys H4 r4 h1 h2 h3 hlen ⟨s4,pr4⟩ hr4;obtain ⟨st,es,q1,rfl,_,R1⟩:=bN qa h1;obtain ⟨gv,eg,q2,rfl,_,R2⟩:=bN qb h2;obtain ⟨en,ee,q3,rfl,_,R3⟩:=bN p3 h3;have sr:aA H4 (upd H4 r4 (.tup [.ref q1,.ref q2,.ref q3])):=aA.new hr4;have gr:(upd H4 r4 (.tup [.ref q1,.ref q2,.ref q3])) r4=some (.tup [.ref q1,.ref q2,.ref q3]):=az;generalize upd H4 r4 (.tup [.ref q1,.ref q2,.ref q3])=H5 at sr gr ⊢;obtain ⟨v1,w1,y1⟩:=(R1.same s3).same (s4.trans sr);obtain ⟨v2,w2,y2⟩:=(R2.same s3).same (s4.trans sr);obtain ⟨v3,w3,y3⟩:=R3.same (s4.trans sr);have lv1:=y1.length;have lv2:=y2.length;have lv3:=y3.length;have c1:st.length=mv.length:=C.wide st (ai es)
  have c2:gv.length=pt.length:=by
   rcases ay.mp (ai eg) with z | z
   ·exact C.wpu gv z
   ·rw[bD.mp z];exact bV
  rw[aD] at ee;have jl:j < mv.length+1:=by have:=(aG.mp h1).1;lia
  rw[cy jl] at ee;cases ee;have c3:v3.length=1:=lv3.symm;exists oP w1 w2 j7 λl5 H6 s6 n6 g6=>?_
  exists oP g6 (s6 _ _ w3) (c6 (dF (by rw[ao];lia))) λl6 H7 s7 n7 g7=>?_
  have s57:=s6.trans s7;have s37:=(s4.trans sr).trans s57;refine ⟨s37,?_⟩
  have ez:(oU sts (pus++[List.replicate pt.length 0]) mv.length)[j]?=some (st++gv++[if j=mv.length then 1 else 0]):=by
   unfold oU;rw[aD,cy jl];show some (sts.getD j []++(pus++[List.replicate pt.length 0]).getD j []++_)=_
   rw[aa (l:=sts),es,aa (l:=pus++_),eg];rfl
  rw[take_snoc ez];exact bR (Paired.imp' (λ_ _ z=>cS.same z (sr.trans s57)) pr4) (.cons ⟨l6,rfl,s13.none ((s4.trans sr).none (s6.none n7)),_,g7,Paired.imp' (λ_ _ z=>cf.same z s57) (bR (bR y1 y2) y3)⟩ .nil)
 rintro yl H4 hyl ⟨s4,pr4⟩ l4 n4;rw[aB (by unfold oU;rw[ag,cm];lia)] at pr4;have G4:bx K H (upd H4 l4 (.lst yl)) l4 (oU sts (pus++[List.replicate pt.length 0]) mv.length):=⟨yl,az,Paired.imp' (λ_ _ z=>cS.same z (aA.new n4)) pr4,ij ⟨_,n4,pr4⟩⟩;have s44:aA H4 (upd H4 l4 (.lst yl)):=aA.new n4;generalize upd H4 l4 (.lst yl)=H5 at G4 s44 ⊢;have s15:=s13.trans (s4.trans s44);have gx5:=s15 _ _ gx;have lL:(oU sts (pus++[List.replicate pt.length 0]) mv.length).length=mv.length+1:=by unfold oU;rw[ag,cm]
 have wg:∀xs∈pus++[List.replicate pt.length (0:Rat)],xs.length=pt.length:=λxs hx=>by
  rcases ay.mp hx with z | z
  ·exact C.wpu xs z
  ·rw[bD.mp z];exact bV
 have wL:∀xs∈oU sts (pus++[List.replicate pt.length 0]) mv.length,xs.length=mv.length+pt.length+1:=λxs hx=>by
  unfold oU at hx;obtain ⟨j,hj,rfl⟩:=av.mp hx;have hj':=iU.mp hj;rw[ao,ao,aO]
  have e1:(sts.getD j []).length=mv.length:=by
   rw[aa,ae (by lia)];exact C.wide _ (aF _)
  have e2:((pus++[List.replicate pt.length 0]).getD j []).length=pt.length:=by
   rw[aa,ae (by rw[ao,aO];lia)];exact wg _ (aF _)
  lia
 obtain ⟨w,SL,SR⟩:=ST sts pus C lp z01;obtain ⟨zl,gl5,ql5,_⟩:=id G4;exists vP (bo.of gl5) λl6 H6 s6 n6 g6=>?_
 rw[show (1:Int)=((1:Nat):Int) from rfl,Fx] at g6;have q6:=kJ ql5 1;have G6:bx K H H6 l6 ((oU sts (pus++[List.replicate pt.length 0]) mv.length).drop 1):=⟨_,g6,Paired.imp' (λ_ _ z=>cS.same z s6) q6,ij ⟨_,n6,q6⟩⟩;have lD:((oU sts (pus++[List.replicate pt.length 0]) mv.length).drop 1).length=mv.length:=by rw[eV,lL];lia
 have s16:=s15.trans s6;have gx6:=s16 _ _ gx;exists ⟨x,Z.a_System,dx,_,_,rfl,gx6,T.cl_System,T.na_ins,uB,?_⟩;walk_at "w";rw[show ((mv.length:Nat):Int)+((pt.length:Nat):Int)+1=((mv.length+pt.length+1:Nat):Int) by lia];refine ⟨l6,mv.length+pt.length+1,w,_,_,rfl,G6,by lia,by lia,λxs hx=>wL xs (kj hx),SL,λr R ps M H7 nr s7 G7 RR kp M0 ML tp=>?_⟩
 have rk:ps.length=mv.length:=by
  have:=MU C (by rw[lD,lp]) (λj hj c hc=>?_) RR
  ·lia
  ·unfold oU bI;rw[aa (l:=List.drop 1 _),List.getElem?_drop,aD,cy (by lia),iu 1 j];show (sts.getD (j+1) []++_++_).getD c 0=_
   have e1:(sts.getD (j+1) []).length=mv.length:=by
    rw[aa,ae (by lia)];exact C.wide _ (aF _)
   rw[b9,aa,cD (by lia),<- aa]
 have Z6:=SR R ps RR rk;have lR:R.length=mv.length:=by rw[RR.1,rk]
 obtain ⟨xr,gr7,qr7,_⟩:=id G7;have lxr:=qr7.length;exists ⟨⟨_,bo.of gr7⟩,?_⟩;have s17:=s16.trans s7;refine dH (K:=K) (F:=cS K H6) (cS K H) (λxs=>xs.drop mv.length) gr7 qr7 (by lia) (λa b=>a.same b) (λa b=>a.same b) ?_ ?_
 ·rintro j xs v H8 NY NN en s8 ⟨u,rfl,_,hu⟩ k1;obtain ⟨us,gu,qu⟩:=id hu;exists vP (bo.of gu) λl8 H9 s9 n9 g9=>?_
  rw[Fx] at g9;exact k1 _ _ s9 ⟨l8,rfl,s17.none (s8.none n9),_,g9,Paired.imp' (λ_ _ z=>cf.same z s9) (kJ qu mv.length)⟩
 rintro ys8 H8 r8 n8 s8 g8 pr8 nx8;have G8:bx K H H8 r8 (R.map (·.drop mv.length)):=⟨ys8,g8,pr8,ij nx8⟩;have s18:=s17.trans s8;have gx8:=s18 _ _ gx;exists ⟨x,Z.a_System,dx,_,_,rfl,gx8,T.cl_System,T.na_ins,uB,?_⟩;walk_at "w";rw[show ((pt.length:Nat):Int)+1=((pt.length+1:Nat):Int) by lia];refine ⟨r8,pt.length+1,H,_,rfl,G8,by rw[ag];lia,by lia,λxs hx=>?_,λr9 H9 n9 s9 G9=>?_⟩
 ·obtain ⟨ys,hy,rfl⟩:=av.mp hx;rw[eV,RR.2.1 ys hy]
  lia
 have s19:=s18.trans s9;have G9':bx K H H9 r9 (j6 R mv.length pt.length):=G9.weak s18;generalize hS:j6 R mv.length pt.length=S9 at G9';have lS:S9.length=pt.length+1:=by rw[<- hS];unfold j6;exact jw
 have wS:∀xs∈S9,xs.length=mv.length:=λxs hx=>by
  rw[<- hS] at hx;unfold j6 bu at hx;obtain ⟨j,_,rfl⟩:=av.mp hx;rw[ag,ag,lR]
 obtain ⟨x9,g9,q9,_⟩:=id G9';have lx9:=q9.length;exists vP (bo.of g9) λlA HA sA nA gA=>?_
 rw[MR (show x9.length=pt.length+1 by lia)] at gA;have qA:=nX q9 pt.length;have GA:bx K H HA lA (S9.take pt.length):=⟨_,gA,Paired.imp' (λ_ _ z=>cS.same z sA) qA,ij ⟨_,nA,qA⟩⟩;have s1A:=s19.trans sA;exists ⟨x,lA,H0,H,mv,pt,lk,S9.take pt.length,rfl,S.same s1A,D,GA,by rw[bh];lia,λxs hx=>wS xs (bU hx),by rw[<- hS];exact Z6.cl,λxc HB nB sB SB=>?_⟩;obtain ⟨v,ev⟩:∃v,x9[pt.length]?=some v:=⟨_,ae (by lia)⟩;obtain ⟨sd,esd,qs,rfl,_,Rs⟩:=bN q9 ev;have esd':S9.getD pt.length []=sd:=by rw[aa,esd];rfl
 have sAB:=sA.trans sB;exists bS (bo.of (sAB _ _ g9)) (zQ (k:=pt.length) (by lia) ev) ?_;have lc:(DH mv pt (S9.take pt.length)).length=mv.length:=oi;have lsd:sd.length=mv.length:=wS sd (ai esd);have s1B:=s1A.trans sB;exists ⟨xc,qs,q,_,_,pt,lk,sd,wish,rfl,SB,Cl81.sysd D,Rs.same sAB,by rw[lc,lsd],Rq.same s1B,by lia,by rw[<- esd',<- hS];exact Z6.am,λrm HC sC RC=>?_⟩;have MZ:=Z6.mz;rw[hS,esd'] at MZ;have lme:=DL (wish:=wish) (show sd.length=(DH mv pt (S9.take pt.length)).length by rw[lc,lsd]) wish.length;rw[lc] at lme;generalize DM (DH mv pt (S9.take pt.length)) sd wish wish.length=me at RC MZ lme;have s1C:=s1B.trans sC;have s2C:=((((s3.trans (s4.trans s44)).trans s6).trans s7).trans s8).trans ((s9.trans sAB).trans sC);obtain ⟨v0,ev0⟩:∃v,xb[0]?=some v:=⟨_,ae (by lia)⟩;obtain ⟨p0,ep0,qp,rfl,_,Rp0⟩:=bN qb ev0;have ep0':(pus++[List.replicate pt.length (0:Rat)]).getD 0 []=p0:=by rw[aa,ep0];rfl
 rw[ep0'] at MZ;have lp0:p0.length=pt.length:=wg p0 (ai ep0);obtain ⟨vp,gp0,qp0⟩:=Rp0.same s2C;have lvp:=qp0.length;have gAC:=(sB.trans sC) _ _ gA;have qAC:=Paired.imp' (λ_ _ z=>cS.same z (sAB.trans sC)) qA;have lqA:=qAC.length;rw[bh] at lqA;have gtC:=s2C _ _ gt;have gbC:=s2C _ _ gb
 have z0:∀z∈p0,z=0\/z=1:=λz hz=>by
  rcases ay.mp (ai ep0) with y | y
  ·exact z01 p0 y z hz
  ·rw[bD.mp y] at hz;exact .inl (iC hz)
 have RZ:=Z6.rz;rw[hS] at RZ;exists bS (bo.of gbC) (dE (j:=0) ev0) ?_;exists ⟨⟨_,bo.of gAC⟩,⟨_,bo.of gp0⟩,?_⟩;refine nG (K:=K) (xs:=x9.take pt.length) (ws:=vp) (λj ys H'=>aA HC H'/\Paired (cS K H H') ((List.zipWith (λrow b=>List.zipWith (λx y=>x - y) row (me.map λy=>b*y)) (S9.take pt.length) p0).take j) ys) (c6 (dF (by rw[bh];lia))) (by rw[bh];lia) ⟨aA.refl _,.nil⟩ (λj ys H' _ ⟨e,_⟩=>⟨bo.of (e _ _ gAC),bo.of (e _ _ gp0)⟩) ?_ ?_
 ·rintro j u1 u2 ys HD rD h1 h2 hlen ⟨sD,prD⟩ hrD;obtain ⟨row,er,q1,rfl,_,R1⟩:=bN qAC h1;obtain ⟨b0,eb,Nb⟩:=bN qp0 h2;have mr:=ai er;have mb:=ai eb;have sr:aA HD (upd HD rD (.tup [.ref q1,u2])):=aA.new hrD;have gr:(upd HD rD (.tup [.ref q1,u2])) rD=some (.tup [.ref q1,u2]):=az;generalize upd HD rD (.tup [.ref q1,u2])=HE at sr gr ⊢;have sCE:=sD.trans sr;exists ⟨u2,rm,b0,me,rfl,Nb.same sCE,Qh (z0 b0 mb),RC.same sCE,by lia,λz hz=>(MZ z hz).1,λt6 H6 n6 s6 R6=>?_⟩;exists ⟨q1,t6,row,_,rfl,R1.same (sCE.trans s6),R6,by rw[ag,lme,wS row (bU mr)],by rw[wS row (bU mr)];lia,RZ row mr,λz hz=>?_,λt7 H7 n7 s7 R7=>?_⟩
  ·obtain ⟨y,hy,rfl⟩:=av.mp hz;exact (MZ y hy).2 b0 mb
  refine ⟨(sCE.trans s6).trans s7,?_⟩;have ez:(List.zipWith (λrow b=>List.zipWith (λx y=>x - y) row (me.map λy=>b*y)) (S9.take pt.length) p0)[j]?=some (List.zipWith (λx y=>x - y) row (me.map λy=>b0*y)):=by rw[bW,er,eb]
  rw[take_snoc ez];exact bR (Paired.imp' (λ_ _ z=>cS.same z ((sr.trans s6).trans s7)) prD) (.cons ⟨t7,rfl,s1C.none (sCE.none (s6.none n7)),R7⟩ .nil)
 rintro ys HD hy ⟨sD,prD⟩ rr nrr;rw[aB (by rw[aV,bh,bh];lia)] at prD;refine k Rk pk rr _ _ ((s1C.trans sD).trans (aA.new nrr)) KR full (s1C.none (sD.none nrr)) ⟨ys,az,Paired.imp' (λ_ _ z=>cS.same z (aA.new nrr)) prD,ij ⟨_,nrr,prD⟩⟩ (by rw[aV,bh];lia) λxs hx=>?_
 obtain ⟨j,hj,rfl⟩:=bB hx;rw[fv,aV,ag,lme,wS _ (bU (aF _)),xV]
theorem td:sC ["self","state"] 2 dN:=by walk_at "d"
theorem tm (T:Txt K mg Z):j9 P w K mg base F1 1 Z.gO Z.jr ["self","state"] (Ep K Z.a_NotSeen Z.a_SumError "state"):=by
 refine T.nJ.k td ?_;walk_at "i";obtain ⟨e,y,rfl,he,k⟩:=h;refine ⟨_,(au (II bH cz rfl)),?_⟩;walk_at "s";walk_at "w";unfold Lp;exists ⟨e,_,_,rfl,he,T.xi_NotSeen,T.nt_NotSeen,λdx hd ne=>?_⟩;exists k dx hd ne
theorem iW:sC ["self","system","unseen","rows"] 2 dO:=by walk_at "d"
theorem mh (T:Txt K mg Z):j9 P w K mg base (M9 P w) 11 Z.ju Z.js ["self","system"] (Er K Z.a_System Z.a_Guesser Z.a_NotSeen):=by
 refine T.nK.kX iW ?_;walk_at "i";obtain ⟨x,dx,sy,Hb,H0,mv,pt,lk,rfl,nx,ndx,nex,rfl,S,D,SF,Y,k,ke⟩:=h
 refine ⟨_,(ak (fo 2 iW.nd (cA (yW T) hr T.jN (cB cz (ck cz rfl))))
  (ak (cW (aW wD (bf aU (by rfl) T.len aQ (df eE)) aj (bg _)) (au (Bt wj rfl (EO rfl T.xi_NotSeen T.in_NotSeen T.fn_NotSeen T.kp_NotSeen (tm T) (hr.mono (by decide)) rfl T.mg_NotSeen T.nH (df (aL bC eE aj))))) bQ)
  (ak (m7 bH cz rfl)
  (ak (m7 bH (cA (gZ T) hr T.dS (df (ck cz rfl))) rfl)
  (ak (fo 3 iW.nd (xJ (yX T) (hr.mono (by decide)) rfl T.gK.m T.gK.F.kp T.gK.b .nil uK (cB (EM cz T.cl_System T.kD (o6 T) (hr.mono (by decide)) T.l7 .nil yQ) (cA (gZ T) hr T.dS (df (ck cz rfl))))))
  (au (m7 bH (cA (dX T) hr T.cV (cB jB (ck cz rfl))) rfl))))))),?_⟩
 walk_at "s"
 have s0:aA Hb (upd (upd Hb dx (.own x)) x (.ins Z.a_Guesser dx [])):=λb o e=>by
  rw[aJ (dg e nx),aJ (dg e ndx)];exact e
 have hx:(upd (upd Hb dx (.own x)) x (.ins Z.a_Guesser dx [])) x=some (.ins Z.a_Guesser dx []):=az;generalize upd (upd Hb dx (.own x)) x (.ins Z.a_Guesser dx [])=Ha at s0 hx ⊢;obtain ⟨dy,am,ap,al,gy,m1,m2,m3,Gm,Gp,Gl⟩:=id S;have d8:=D.n8;have o4:=D.o4;have et:(bu mv mv.length).length=mv.length:=cT;have gya:=s0 _ _ gy;exists ⟨sy,Z.a_System,dy,_,_,rfl,gya,T.cl_System,T.na_states,cE,?_⟩;exists ⟨sy,mv.length,500,H0,mv,pt,lk,rfl,by lia,S.same s0,D,SF,Y.un,λr Hd H1 nr s1 G1 U=>?_⟩;obtain ⟨us,gu,qu,_⟩:=id G1;have lu:=qu.length;have s01:=s0.trans s1;have hx1:=s1 _ _ hx;exists ⟨_,_,rfl,.inl (bo.of gu),?_⟩;walk_at "w";rw[<- lu];by_cases hd:0 < Hd.length
 ·rw[decide_eq_true (show (0:Int) < ((Hd.length:Nat):Int) by lia)];walk_at "w";unfold Cc Gz;obtain ⟨v,ev⟩:∃v,us[0]?=some v:=⟨_,ae (by lia)⟩;obtain ⟨row,er,r0,rfl,n0,R0⟩:=bN qu ev;have er':Hd.getD 0 []=row:=by rw[aa,er];rfl
  exists bS (bo.of gu) (dE (j:=0) ev) ?_;walk_at "w";intro e he;refine ⟨e,.ref r0,rfl,az,λdq hdq ne=>⟨rfl,e,Z.a_NotSeen,_,some dq,rfl,az,s1.none he,T.xi_NotSeen,?_⟩⟩;have hd':H1 dq=none:=by rw[aJ ne] at hdq;exact hdq
  refine ke Hd r0 dq _ (uH (s01.none he) s01 hd') U hd (s0.none n0) ?_ (by rw[qH ne,aJ ne,az]);rw[er'];exact R0.same (uH he (aA.refl _) hd')
 rw[decide_eq_false (show ¬(0:Int) < ((Hd.length:Nat):Int) by lia)];obtain rfl:Hd=[]:=Tz.mp (by lia);clear hd;exists ⟨x,Z.a_Guesser,dx,_,rfl,hx1,T.cl_Guesser,T.na_Guesser_system,(by show 0 < 1000;decide),?_⟩;have hx2:(upd H1 x (.ins Z.a_Guesser dx (bP "system" (.ref sy) []))) x=some (.ins Z.a_Guesser dx (bP "system" (.ref sy) [])):=az;have k2:aA Hb (upd H1 x (.ins Z.a_Guesser dx (bP "system" (.ref sy) []))):=s01.after nx;generalize upd H1 x (.ins Z.a_Guesser dx (bP "system" (.ref sy) []))=H2 at hx2 k2 ⊢;have gy2:=k2 _ _ gy;exists ⟨sy,Z.a_System,dy,_,_,rfl,gy2,T.cl_System,T.na_states,cE,?_⟩;exists ⟨mv.length,rfl,by lia,λr3 H3 n3 s3 R3=>?_⟩;have hx3:=s3 _ _ hx2;exists ⟨x,Z.a_Guesser,dx,_,rfl,hx3,T.cl_Guesser,T.na_Guesser_state,aK dn (by show 1 < 1000;decide),?_⟩;have hx4:(upd H3 x (.ins Z.a_Guesser dx (bP "state" (.ref r3) (bP "system" (.ref sy) [])))) x=some (.ins Z.a_Guesser dx (bP "state" (.ref r3) (bP "system" (.ref sy) []))):=az;have k4:aA Hb (upd H3 x (.ins Z.a_Guesser dx (bP "state" (.ref r3) (bP "system" (.ref sy) [])))):=(k2.trans s3).after nx;generalize upd H3 x (.ins Z.a_Guesser dx (bP "state" (.ref r3) (bP "system" (.ref sy) [])))=H4 at hx4 k4 ⊢;have gy4:=k4 _ _ gy;exists ⟨sy,dy,_,rfl,gy4,yg,?_⟩;exists ⟨sy,H0,mv,pt,lk,rfl,S.same k4,D,SF.sf,λy H5 ny s5 S5=>?_⟩;have k5:=k4.trans s5;have gy5:=k5 _ _ gy;exists ⟨sy,Z.a_System,dy,_,_,rfl,gy5,T.cl_System,T.na_states,cE,?_⟩;exists ⟨mv.length,rfl,by lia,λr6 H6 n6 s6 R6=>?_⟩;obtain ⟨a,c,KF,_,_⟩:=Y.un.kf;have k6:=k5.trans s6;exists ⟨y,r6,a,c,H4,_,lk,pt,_,rfl,S5.same s6,D.turn,SF.turn,KF,λR ps RR=>⟨(Y.un.sw RR).1,(Y.un.sw RR).2.1⟩,Y.cs,Y.st _ (by rw[bV,et]) Po,R6,by rw[bV,et],λR ps r7 G H7 s7 RR full n7 G7 lG wG=>?_,λR ps r7 dq H7 RR lt=>?_⟩
 rotate_left
 ·rw[et] at RR lt;have:=K3 U RR
  lia
 have hx7:=(s5.trans (s6.trans s7)) _ _ hx4;have k7:=k6.trans s7;have gy7:=k7 _ _ gy;exists ⟨sy,Z.a_System,dy,_,_,rfl,gy7,T.cl_System,T.na_states,cE,?_⟩;exists ⟨r7,mv.length,H6,G,rfl,G7,by lia,by lia,λxs hxs=>by rw[wG xs hxs,et],λr8 H8 n8 s8 G8=>?_⟩;have hx8:=s8 _ _ hx7;exists ⟨x,Z.a_Guesser,dx,_,rfl,hx8,T.cl_Guesser,T.na_Guesser_mends,aK dn (aK (dw dn) (by show 2 < 1000;decide)),?_⟩;exact k _ ((k7.trans s8).after nx) U
theorem uG:sC ["self","system"] 2 eS:=by walk_at "d"
theorem uO (T:Txt K mg Z):j9 P w K mg base (M9 P w) 13 Z.kH Z.kF ["self","system"] (Ek K Z.a_System Z.a_Pilot Z.a_NotSteered Z.a_NotSeen):=by
 refine T.pA.kX uG ?_;walk_at "i";obtain ⟨x,dx,sy,Hb,H0,mv,pt,lk,rfl,nx,ndx,nex,rfl,S,D,SF,Y,Y2,ke,k⟩:=h
 refine ⟨_,(ak (m7 bH (xJ (yX T) (hr.mono (by decide)) rfl T.gK.m T.gK.F.kp T.gK.b .nil uK (cB cz (cA (gZ T) hr T.dS (df (ck cz rfl))))) rfl)
  (au (m7 bH (xH T.mk_Guesser (mh T) (hr.mono (by decide)) rfl T.mg_Guesser T.jt .nil uK (df cz)) rfl))),?_⟩
 walk_at "s"
 have s0:aA Hb (upd (upd Hb dx (.own x)) x (.ins Z.a_Pilot dx [])):=λb o e=>by
  rw[aJ (dg e nx),aJ (dg e ndx)];exact e
 have hx:(upd (upd Hb dx (.own x)) x (.ins Z.a_Pilot dx [])) x=some (.ins Z.a_Pilot dx []):=az;generalize upd (upd Hb dx (.own x)) x (.ins Z.a_Pilot dx [])=Ha at s0 hx ⊢;obtain ⟨dy,am,ap,al,gy,m1,m2,m3,Gm,Gp,Gl⟩:=id S;have d8:=D.n8;have gya:=s0 _ _ gy;obtain ⟨a,c,KF,_,_⟩:=Y.un.kf;exists ⟨sy,Z.a_System,dy,_,_,rfl,gya,T.cl_System,T.na_states,cE,?_⟩;exists ⟨mv.length,rfl,by lia,λr6 H6 n6 s6 R6=>?_⟩;have k6:=s0.trans s6;exists ⟨sy,r6,a,c,H0,_,pt,lk,_,rfl,S.same k6,D,SF,KF,λR ps RR=>⟨(Y.un.sw RR).1,(Y.un.sw RR).2.1⟩,Y.cs,Y.st _ bV Po,R6,bV,λR ps r7 G H7 s7 RR full n7 G7 lG wG=>?_,λR ps r7 dq H7 RR lt s7 n7 R7 g7=>ke R ps RR lt r7 dq H7 (k6.trans s7) (k6.none n7) R7 g7⟩;have k7:=k6.trans s7;have hx7:=(s6.trans s7) _ _ hx;obtain ⟨kq,kx⟩:=k R ps RR full;exists ⟨x,Z.a_Pilot,dx,_,rfl,hx7,T.cl_Pilot,T.na_Pilot_rows,(by show 0 < 1000;decide),?_⟩;have hx8:(upd H7 x (.ins Z.a_Pilot dx (bP "rows" (.ref r7) []))) x=some (.ins Z.a_Pilot dx (bP "rows" (.ref r7) [])):=az;have k8:aA Hb (upd H7 x (.ins Z.a_Pilot dx (bP "rows" (.ref r7) []))):=k7.after nx;generalize upd H7 x (.ins Z.a_Pilot dx (bP "rows" (.ref r7) []))=H8 at hx8 k8 ⊢;walk_at "w";intro x2 dx2 nx2 ndx2 nex2;refine ⟨x2,dx2,sy,H8,H0,mv,pt,lk,rfl,nx2,ndx2,nex2,rfl,S.same k8,D,SF,Y2,λH9 s9 U=>⟨rfl,?_⟩,λHd r dq H9 s9 U hd nr Rr gd=>kx Hd U hd r dq H9 (k8.trans s9) (k8.none nr) Rr gd⟩;have hx9:=s9 _ _ hx8;exists ⟨x,Z.a_Pilot,dx,_,rfl,hx9,T.cl_Pilot,T.na_Pilot_guesser,aK dn (by show 1 < 1000;decide),?_⟩;exact kq _ ((k8.trans s9).after nx) U
theorem tx:sC ["_law_door","_law_system","e"] 2 pY:=by walk_at "d"
theorem hJ (T:Txt K mg Z):T.dU.o P w base 15 (yo K Z.a_System):=by
 refine T.dU.F.k tx ?_;walk_at "i";obtain ⟨d,sy,H0,mv,pt,lk,rfl,d1,A,ks,k⟩:=h
 refine ⟨_,(ak (QN rfl rfl (λ_ _ _ hX=>(au (cW (aW gi bH aj (bg _)) (au (je (EN T.mk_Guesser (mh T) (hr.mono (by decide)) rfl T.mg_Guesser T.jt .nil hX (df cz)))) (au (je (EN T.mk_Pilot (uO T) (hr.mono (by decide)) rfl T.mg_Pilot T.pd .nil hX (df cz)))))))
  (Ta (i:=2) rfl rfl T.mg_NotSeen tx.nd rfl rfl (λ_=>(ak (cW (PW.pt (m6 (fA (bf (zN (cv:=.ref Z.a_NotSteered) (c:=.ref Z.a_NotSteered) (λ_ h=>h)) (by rfl) T.isinstance PyProof.Rows.boot_isinstance (cB eE (jf (v:=.ref Z.a_NotSteered) rfl T.mg_NotSteered rfl)))) (m6 (ia (fA (bf (zN (cv:=.ref Z.a_SumError) (c:=.ref Z.a_SumError) (λ_ h=>h)) (by rfl) T.isinstance PyProof.Rows.boot_isinstance (cB eE (jf (v:=.ref Z.a_SumError) rfl T.mg_SumError rfl))))) (jG (ia (fA (bf (zN (cv:=.ty "ValueError") (c:=.type "ValueError") (λ_ h=>h)) (by rfl) T.isinstance PyProof.Rows.boot_isinstance (cB eE (CN (v:=.ty "ValueError") rfl T.ValueError PyProof.Rows.Boot.«ValueError» rfl))))))))) (au (aN GR)) bQ)
  (au (aN (Od eE rfl))))) (S8 rfl rfl T.mg_NotSteered (λ_=>(au (aN GR))) Rc)))
  (au (aN yN))),?_⟩
 walk_at "s";exists Qq ?_;exists jc (λh0=>?_) (λh0=>?_)
 ·have h0:=of_decide_eq_true h0;exists EH ?_;walk_at "w";intro x dx nx ndx nex;refine ⟨x,dx,sy,H,H0,mv,pt,lk,rfl,nx,ndx,nex,rfl,A.S,A.D,A.F,A.Y2,λH7 s7 U=>⟨rfl,?_⟩,λHd r dq H7 s7 U hd n7 R7 g7=>?_⟩
  ·exists (k (.inl (by lia)) [] U).1 rfl H7 s7
  ·refine .inl ⟨T.xm_NotSeen_NotSeen,λea hea=>?_⟩;have se:aA H7 (upd H7 ea (BM ea (.ref Z.a_NotSeen) (some dq))):=aA.new hea;have ge:(upd H7 ea (BM ea (.ref Z.a_NotSeen) (some dq))) ea=some (BM ea (.ref Z.a_NotSeen) (some dq)):=az;have gd:(upd H7 ea (BM ea (.ref Z.a_NotSeen) (some dq))) dq=some (.xd [("state",.ref r)]):=se _ _ g7;generalize upd H7 ea (BM ea (.ref Z.a_NotSeen) (some dq))=He at se ge gd ⊢;have dd:∀d,some dq=some d->∃fs,He d=some (.xd fs):=λd z=>by cases z;exact ⟨_,gd⟩
   exists ⟨ea,_,_,_,rfl,ge,dd,T.xc_NotSeen,T.ki_NotSeen_NotSteered,?_⟩;exists ⟨ea,_,_,_,rfl,ge,dd,T.xc_NotSeen,T.ki_NotSeen_SumError,?_⟩;exists ⟨ea,_,_,_,rfl,ge,dd,T.xc_NotSeen,T.ki_NotSeen_ValueError,?_⟩;walk_at "w";unfold La;exists ⟨ea,Z.a_NotSeen,dq,_,.ref r,rfl,ge,gd,T.xc_NotSeen,T.nt_NotSeen,rfl,?_⟩;exact (k (.inl (by lia)) Hd U).2 hd r He (s7.trans se) n7 (R7.same se)
 ·have h0:d=1:=by
   have:¬((d:Nat):Int)=0:=λz=>h0 (decide_eq_true z)
   lia
  exists EH ?_;walk_at "w";intro x dx nx ndx nex;refine ⟨x,dx,sy,H,H0,mv,pt,lk,rfl,nx,ndx,nex,rfl,A.S,A.D,A.F,A.Y,A.Y2,λR ps RR lt r dq H7 s7 n7 R7 g7=>?_,λR ps RR full=>⟨λH7 s7 U=>⟨rfl,?_⟩,λHd U hd r dq H7 s7 n7 R7 g7=>?_⟩⟩
  ·refine .inr ⟨T.xm_NotSteered_NotSeen,.inl ⟨T.xm_NotSteered_NotSteered,λea=>?_⟩⟩;exists ks h0 R ps RR lt H7 s7
  ·exists (k (.inr ⟨R,ps,RR,full⟩) [] U).1 rfl H7 s7
  ·refine .inl ⟨T.xm_NotSeen_NotSeen,λea hea=>?_⟩;have se:aA H7 (upd H7 ea (BM ea (.ref Z.a_NotSeen) (some dq))):=aA.new hea;have ge:(upd H7 ea (BM ea (.ref Z.a_NotSeen) (some dq))) ea=some (BM ea (.ref Z.a_NotSeen) (some dq)):=az;have gd:(upd H7 ea (BM ea (.ref Z.a_NotSeen) (some dq))) dq=some (.xd [("state",.ref r)]):=se _ _ g7;generalize upd H7 ea (BM ea (.ref Z.a_NotSeen) (some dq))=He at se ge gd ⊢;have dd:∀d,some dq=some d->∃fs,He d=some (.xd fs):=λd z=>by cases z;exact ⟨_,gd⟩
   exists ⟨ea,_,_,_,rfl,ge,dd,T.xc_NotSeen,T.ki_NotSeen_NotSteered,?_⟩;exists ⟨ea,_,_,_,rfl,ge,dd,T.xc_NotSeen,T.ki_NotSeen_SumError,?_⟩;exists ⟨ea,_,_,_,rfl,ge,dd,T.xc_NotSeen,T.ki_NotSeen_ValueError,?_⟩;walk_at "w";unfold La;exists ⟨ea,Z.a_NotSeen,dq,_,.ref r,rfl,ge,gd,T.xc_NotSeen,T.nt_NotSeen,rfl,?_⟩;exact (k (.inr ⟨R,ps,RR,full⟩) Hd U).2 hd r He (s7.trans se) n7 (R7.same se)
theorem nU:sC ["_law_thing","_law_part"] 1 ku:=by walk_at "d"
theorem uN (T:Txt K mg Z):T.ik.o P w base 2 (JK K):=by
 refine T.ik.F.k nU ?_;walk_at "i";obtain ⟨x,n,rfl,⟨p,rfl,hp⟩,hn,k⟩:=h
 refine ⟨_,(ak (cW (PW.pt (m6 (ia (fA (xI rfl T.isinstance PyProof.Rows.boot_tuple T.tuple bH))) (jG (aW wC (bf aU (by rfl) T.len aQ (df bH)) aj (bg _))))) (au (aN o5)) bQ)
  (ak (fB PassesOwn.never rfl (QR bH) (fM 1 nU.nd)
   (au (cW (PW.pt (m6 (ia (fA (xI rfl T.isinstance PyProof.Rows.boot_int T.int cz))) (jG (fA (xI rfl T.isinstance PyProof.Rows.boot_bool T.bool cz))))) (au (aN o5)) bQ)))
  (au (aN (CO (jJ wD (aL bE bH aj) aj (bg _)) (CM (jJ (yV (Aw hr)) (cA (gB T) hr T.dY (cB (aL bE bH aj) (aL bE bH aj))) bH (bg _)))))))),?_⟩
 walk_at "s";obtain ⟨hb,hg,_,hs⟩:=hn;exists .inr ⟨p,_,_,rfl,hp,rfl,?_⟩;exists ⟨_,_,rfl,.inr hp,?_⟩;walk_at "w"
 try refine Ow ?_
 exists ⟨⟨_,hp⟩,?_⟩;refine OA (K:=K) (a:=p) (xs:=[.int n.1,.int n.2]) (λi σ' H'=>H'=H/\∃x,σ'=[some (.ref p),x]) ⟨rfl,none,rfl⟩ (λi σ' H' _ ⟨e,_⟩=>by subst e;exact hp) ?_ ?_
 ·rintro i x σ' H' hx ⟨rfl,y,rfl⟩
  obtain ⟨z,rfl⟩:∃z,x=V.int z:=by
   have hm:x∈[V.int n.1,V.int n.2]:=ai hx;simp only[aw,aE,or_false] at hm;rcases hm with e | e
   ·exact ⟨_,e⟩
   ·exact ⟨_,e⟩
  exists .inl ⟨_,_,.int z,rfl,?_⟩;exists .inl ⟨_,_,.int z,rfl,?_⟩;exists ⟨rfl,_,rfl⟩
 ·rintro σ' H' ⟨rfl,x,rfl⟩;walk_at "w";rw[decide_eq_true hb];exists ⟨n.1,n.2,rfl,hb,hs.mono (by decide),λr H' s1 h'=>?_⟩;obtain ⟨e1,e2⟩:=Q2 hb hg;exists ⟨_,_,SX,(lo n.1 n.2,hi n.1 n.2),n,by decide,⟨r,rfl,qO.of h'⟩,⟨p,rfl,s1.sqt hp⟩,?_⟩;rw[e1,e2,decide_eq_true rfl];exact k _ s1
theorem yE:sC ["_law_thing","_law_many"] 2 oM:=by walk_at "d"
theorem zi (T:Txt K mg Z):T.jV.o P w base 3 (vz K):=by
 refine T.jV.F.k yE ?_;walk_at "i";obtain ⟨p,ns,rfl,hp,hl,hn,k⟩:=h
 refine ⟨_,(ak (cW (PW.pt (m6 (ia (fA (yP rfl T.isinstance PyProof.Rows.boot_list T.list bH))) (jG (aW wC (bf aU (by rfl) T.len aQ (df bH)) cz (bg _))))) (au (aN o5)) bQ)
  (au (aN (bf (FE rfl) (by rfl) T.all PyProof.Rows.boot_all (df (b7 ["_law_one"] [] [] (cL bH) (λ_=>(fM 0)) (λ_=>cg) (λ_=>(cA (uN T) hr T.ik (df bH))))))))),?_⟩
 walk_at "s";obtain ⟨xs,gx,qx⟩:=id hp;have lx:=qx.length;exists ⟨_,_,.lst gx,rfl,?_⟩;exists ⟨_,_,rfl,.inl (bo.of gx),?_⟩;walk_at "w";rw[show ((xs.length:Nat):Int)=(ns.length:Nat) by rw[lx],decide_eq_true rfl];exists ⟨⟨_,bo.of gx⟩,?_⟩;refine eT (K:=K) (xs:=xs) (λi ys H'=>aA H H'/\ys=List.replicate i (.bl true)) j7 ⟨aA.refl _,rfl⟩ (λi ys H' _ ⟨s,_⟩=>bo.of (s _ _ gx)) ?_ ?_
 ·rintro i x ys H' hx hlen ⟨s,rfl⟩;obtain ⟨n,en,z⟩:=bN qx hx;exists ⟨x,n,rfl,s.num z,hn n (ai en),λH2 s2=>⟨s.trans s2,by rw[List.replicate_succ']⟩⟩
 ·rintro ys H' hy ⟨s,rfl⟩ l hl';exists ⟨l,List.replicate xs.length true,rfl,bo.of (by rw[az];simp),?_⟩;have e4:(List.replicate xs.length true).all id=true:=by simp
  rw[e4];exact k _ (s.trans (aA.new hl'))
theorem iH:sC ["_law_parts_here","_law_state_here","_law_n","_law_some","_law_k"] 2 oI:=by walk_at "d"
theorem si (T:Txt K mg Z):T.iK.o P w base 5 (wq K):=by
 refine T.iK.F.k iH ?_;walk_at "i";obtain ⟨r,q,H0,Hb,mv,pt,lk,z,rfl,PQ,D,sb,nq,Rz,U,k⟩:=h
 refine ⟨_,(ak (fo 2 iH.nd (bf aU (by rfl) T.len aQ (df (aL bE bH aj))))
  (ak (cW (PW.pt (m6 (ia (fA (cA (zi T) hr T.jV (cB cz eE)))) (jG (aW (yV (Aw hr)) cz (br LO (ib (df (dW (cB aj aj)))) eE) (bg _))))) (au (aN o5)) bQ)
  (ak (fo 3 iH.nd (iM mJ (by rfl) T.list PyProof.Rows.boot_list (df cz)))
  (ak (fB PassesOwn.never rfl (cF rfl T.range (df eE)) (fM 4 iH.nd)
   (ak (cW (aW (yT (Aw hr)) (cA (uf T) hr T.kB (cB (aL bE bH aj) jB)) (br LO (ib (df (dW (cB aj aj)))) (bf aU (by rfl) T.len aQ (df (aL bE bH aj)))) (bg _)) (au (aN o5)) bQ)
  (au (fo 3 iH.nd (cA (uf T) hr T.kB (cB (aL bE bH aj) jB))))))
  (ak (je (By fJ fk fj mS cz (df (dW (cB aj aj)))))
  (au (aN o5))))))),?_⟩
 walk_at "s";obtain ⟨m,p,l,g,n1,n2,n3,Gm,Gp,Gl⟩:=PQ.same sb;obtain ⟨ms,gm,qm,_⟩:=id Gm;obtain ⟨ls,gl,ql,_⟩:=id Gl;have lms:=qm.length;have lls:=ql.length;have d8:=D.n8;have o4:=D.o4;have zl:=U.len;exists ⟨_,_,rfl,.inl (bo.of gm),?_⟩;rw[<- lms];walk_at "w";rw[show ((mv.length:Nat):Int)=(((z.map nm).length:Nat):Int) by rw[ag,U.len]];refine ⟨q,z.map nm,rfl,Rz.rowK,by rw[ag,U.len];lia,λx hx=>?_,λH2 s2=>?_⟩
 ·obtain ⟨y,hy,rfl⟩:=av.mp hx;exact Cd (U.sz y hy)
 rw[show (((z.map nm).length:Nat):Int)=((mv.length:Nat):Int) by rw[ag,U.len]];exists cM λt3 H3 s3 g3=>?_
 exists fg λl4 H4 s4 n4 g4=>?_
 exists Lz g4 (by lia) λl5 H5 s5 n5 g5=>?_
 have s25:=(s3.trans s4).trans s5;have R5:c7 K H5 l5 (List.replicate mv.length 0):=⟨_,g5,uc (cf.mk (q:=0) ((s4.trans s5) _ _ g3) rfl) _⟩;have s05:=s2.trans s25;have Rz5:=Rz.same s05;exists ⟨_,_,BF,_,_,by decide,Rz5.kind,R5.kind,?_⟩;rw[decide_eq_false U.ne];obtain ⟨zv,gz,qz⟩:=id Rz5;have lzv:=qz.length;exists ⟨q,zv,rfl,.inl (bo.of gz),λso nso=>?_⟩;have s6:aA H5 (upd H5 so (.lst zv)):=aA.new nso;have R6:c7 K (upd H5 so (.lst zv)) so (jH mv 0 z):=⟨zv,az,Paired.imp' (λ_ _ z=>cf.same z s6) qz⟩;generalize upd H5 so (.lst zv)=H6 at s6 R6 ⊢;have s06:=s05.trans s6;exists ⟨by lia,by lia,?_⟩;refine eF (n:=mv.length) (λj σ' H'=>aA H H'/\∃so y,σ'=[some (.ref r),some (.ref q),some (.int mv.length),some (.ref so),y]/\c7 K H' so (jH mv j z)) ⟨s06,so,_,rfl,R6⟩ ?_ ?_
 ·rintro j σ' H7 hj ⟨s7,so,y,rfl,R7⟩;have g7:=s7 _ _ g;have lp:=CL U.len j;exists ⟨l,so,H0,lk,_,rfl,Gl.same s7,R7,by lia,by lia,λws hw=>⟨by rw[D.lw ws hw,lp],U.fl j hj ws hw⟩,λr8 H8 n8 s8 R8=>?_⟩;rw[U.look j hj] at R8;have s78:=s7.trans s8;have g8:=s78 _ _ g;exists cM λt9 H9 s9 g9=>?_
  exists fg λla Ha sa na ga=>?_
  have s7a:=(s78.trans s9).trans sa;have gra:=s7a _ _ g;exists ⟨_,_,rfl,.inl (bo.of (s7a _ _ gl)),?_⟩;rw[<- lls];exists Lz ga (by lia) λlb Hc sc nb gb=>?_
  have Rb:c7 K Hc lb (List.replicate lk.length 0):=⟨_,gb,uc (cf.mk (q:=0) ((sa.trans sc) _ _ g9) rfl) _⟩;have s8c:=(s9.trans sa).trans sc;exists ⟨_,_,BF,_,_,by decide,(R8.same s8c).kind,Rb.kind,?_⟩;rw[decide_eq_true rfl];have s7c:=s78.trans s8c;have gc:=s7c _ _ g;exists ⟨m,so,H0,mv,_,rfl,Gm.same s7c,R7.same (s8.trans s8c),by lia,by lia,λws hw=>⟨by rw[D.mw ws hw,lp],U.fm j hj ws hw⟩,λrd Hd nd sd Rd=>?_⟩;exists ⟨s7c.trans sd,rd,_,rfl,Rd⟩
 ·rintro σ' H7 ⟨s7,so,y,rfl,R7⟩;obtain ⟨zs,gz,qz⟩:=Rz.same s7;have lz:=qz.length;exists ⟨.inl ⟨rfl,_,bo.of gz⟩,?_⟩;exists cM λt8 H8 s8 g8=>?_
  exists mQ (s8 _ _ gz) (dF (by lia)) ?_;exists k _ (((sb.trans s7).trans s8).after nq)
theorem jD:sC ["_law_script","_law_bag_here","_law_n","_law_ins","_law_outs","_law_wide","_law_parts_here","_law_system","_law_seen_all","_law_full","_law_turn","_law_told"] 1 Lo:=by walk_at "d"
theorem QX (T:Txt K mg Z):j9 P w K mg base F1 16 Z.PM Z.PL ["_law_script"] (yv K):=by
 refine T.PV.k jD ?_;walk_at "i";obtain ⟨a0,ns,rfl,hS,hlen,k⟩:=h
 refine ⟨_,(ak (fo 1 jD.nd (cA (EX T) hr T.oh (df bH)))
  (ak (fW (cA (Ap T) hr T.kQ (df cz)) (yM rfl (b6 (fM 2 jD.nd) (b6 (fM 3 jD.nd) (b6 (fM 4 jD.nd) (b6 (fM 5 jD.nd) gH))))))
  (ak (fo 2 jD.nd (bf (sZ rfl) (by rfl) T.min PyProof.Rows.boot_min (cB eE (br fD aj (iM v5 (by rfl) T.int PyProof.Rows.boot_int (df (jJ gi (cA (b8 T) hr T.bJ (cB cz aj)) aj (bg _))))))))
  (ak (fo 6 jD.nd (cA (Ar T) hr T.kR (fF cz (Oe eE jB wY z9))))
  (ak (fo 7 jD.nd (cA (C1 T) hr T.mH (df uu)))
  (ak (fo 8 jD.nd (jJ gi (bf aU (by rfl) T.len aQ (df (cA (qT T) hr T.gR (cB (cA (tE T) hr T.jb (df (cA (zg T) hr T.jT (df uu)))) eE)))) eE (bg _)))
  (ak (fo 9 jD.nd (jJ gi (bf aU (by rfl) T.len aQ (df (cA (qT T) hr T.gR (cB (cA (tE T) hr T.jb (df uu)) eE)))) eE (bg _)))
  (ak (fB PassesOwn.never rfl (cF rfl T.range (df aj)) (fM 10 jD.nd)
   (fV (fo 11 jD.nd (cA (hJ T) hr T.dU (cB aj Aj)))
  (fV (cW (PW.pt (m6 (PW.pt (gG (fA D5) (gF (aW CQ (pv 11) yN (bg _))))) (jG (PW.pt (gG (ia (fA D5)) (gF (ia (fA (cA (si T) hr T.iK (cB uu (pv 11))))))))))) (au (aN o5)) bQ)
  (ak (fo 11 jD.nd (cA (hJ T) hr T.dU (cB aj Aj)))
  (au (cW (ia (fA (pv 9))) (au (cW (aW (yT (Aw hr)) (pv 11) GR (bg _)) (au (aN o5)) bQ)) (au (cW (PW.pt (m6 (PW.pt (gG (fA D5) (gF (aW CQ (pv 11) yN (bg _))))) (jG (PW.pt (gG (ia (fA D5)) (gF (ia (fA (cA (si T) hr T.iK (cB uu (pv 11))))))))))) (au (aN o5)) bQ))))))))
  (fV (cW (PW.pt (gG (ia (fA D5)) (gF (aW (yT (Aw hr)) (cA (hJ T) hr T.dU (cB aj Aj)) (cA (hJ T) hr T.dU (cB aj Aj)) (bg _))))) (au (aN o5)) bQ)
  (au (aN (CO (jJ (yV (Aw hr)) (cA (hJ T) hr T.dU (cB aj Aj)) (cA (hJ T) hr T.dU (cB aj Aj)) (bg _)) (CM (jJ (yV (Aw hr)) (ck Aj rfl) (aL bE uu aj) (bg _))))))))))))))),?_⟩
 walk_at "s";exists ⟨a0,ns,rfl,hS,hlen,λb H0 hb0 B0 s0=>?_⟩;exists ⟨b,rfl,B0,λt1 n i o w H1 g1 n5 i4 o4 hw hn B1 u1=>?_⟩;exists ⟨b,8,rfl,B1,by decide,by decide,λv Hv v0 v1 Bv uv=>?_⟩;walk_at "w"
 obtain ⟨m,em,m4,mn⟩:∃m:Nat,(if (3+if decide (v=0)=true then (1:Int) else 0) < (n:Int) then 3+(if decide (v=0)=true then (1:Int) else 0) else (n:Int))=(m:Int)/\m<=4/\m<=n:=by
  by_cases hv:v=0
  ·rw[decide_eq_true hv,if_pos rfl];by_cases h:(3+1:Int) < n
   ·exact ⟨4,by rw[if_pos h];rfl,by lia,by lia⟩
   ·exact ⟨n,by rw[if_neg h],by lia,by lia⟩
  ·rw[decide_eq_false hv,if_neg aI];by_cases h:(3+0:Int) < n
   ·exact ⟨3,by rw[if_pos h];rfl,by lia,by lia⟩
   ·exact ⟨n,by rw[if_neg h],by lia,by lia⟩
 rw[em]
 obtain ⟨c,c20,wc,hc2,cn⟩:∃c,c<=20/\max w 6<=2^c/\((m<=4/\w<=9)\/(m<=2/\c=10))/\c*((m+i+o)*m)<=800:=by
  have a1:(m+i+o)*m<=12*4:=aZ (by lia) m4;rcases hw with rfl | rfl | ⟨rfl,h2⟩
  ·exact ⟨4,by decide,by decide,.inl ⟨m4,by decide⟩,by lia⟩
  ·exact ⟨4,by decide,by decide,.inl ⟨m4,by decide⟩,by lia⟩
  ·have a2:(m+i+o)*m<=10*2:=aZ (by lia) (by lia);exact ⟨10,by decide,by decide,.inr ⟨by lia,rfl⟩,by lia⟩
 exists ⟨b,m,i,o,w,c,rfl,Bv,by lia,i4,o4,by lia,by lia,wc,c20,cn,λr mv pt lk H2 P2 lm lp ll D PG B2 u2=>?_⟩;obtain ⟨Y,Y2,SF⟩:=N5 PG D lm i4 o4 hc2;clear PG hc2 cn wc c20 em;subst lm;have d8:=D.n8;have di:=D.i4;obtain ⟨ka,kc,KF,_⟩:=Y.pr;obtain ⟨lw,la,LF⟩:=Y.lw;obtain ⟨ka2,kc2,KF2,_⟩:=Y2.pr;obtain ⟨lw2,la2,LF2⟩:=Y2.lw;have et:(bu mv mv.length).length=mv.length:=cT;rw[et] at LF2;have do4:=D.o4;exists ⟨r,Hv,mv,pt,lk,rfl,P2,D,SF.sf,λx H3 nx s3 Sx=>?_⟩;have bk3:∀q,H3 q=none->Hv q=none:=λq h=>u2.none B2 (s3.none h)
 exists ⟨r,Hv,mv,pt,lk,rfl,P2.same s3,D,bk3,λt H4 s4 PT=>?_⟩;exists ⟨t,ka2,kc2,Hv,Hv,_,lk,pt,rfl,PT,D.turn,KF2,λq h=>h,λq h=>bk3 q (s4.none h),λg H5 ng s5 G5=>?_⟩;rw[et] at G5;have lkr2:(fQ (bu mv mv.length) lk mv.length).length<=32:=by rw[xO];exact aZ d8 do4
 exists ⟨g,mv.length,lw2,la2,_,_,rfl,G5,by lia,by lia,gU et D.lw mv.length,LF2,λrr R2 ps2 Ha nr sa5 Ga RR2 _=>?_⟩;obtain ⟨rv,grv,qrv,_⟩:=id Ga;have lrv:=qrv.length;have lR2:=RR2.1;exists ⟨_,_,rfl,.inl (bo.of grv),?_⟩;rw[<- lrv,lR2];walk_at "w";rw[show decide (((ps2.length:Nat):Int)=((mv.length:Nat):Int))=decide (ps2.length=mv.length) from decide_eq_decide.mpr (by lia)];obtain ⟨sa,hsa⟩:∃sa,sa=decide (ps2.length=mv.length):=⟨_,rfl⟩;rw[<- hsa];have s3a:=(s4.trans s5).trans sa5;have lkr:(fQ mv pt mv.length).length<=32:=by rw[xO];exact aZ d8 di
 exists ⟨r,ka,kc,Hv,Hv,mv,pt,lk,rfl,(P2.same s3).same s3a,D,KF,λq h=>h,λq h=>bk3 q (s3a.none h),λg2 Hb ng2 sb Gb=>?_⟩;exists ⟨g2,mv.length,lw,la,_,_,rfl,Gb,by lia,by lia,gU (mv:=mv) rfl D.pw mv.length,LF,λrr2 R ps H6 nr2 s6 Gc RR _=>?_⟩;obtain ⟨rv2,grv2,qrv2,_⟩:=id Gc;have lrv2:=qrv2.length;have lR:=RR.1;have leR:=RR.le;exists ⟨_,_,rfl,.inl (bo.of grv2),?_⟩;rw[<- lrv2,lR];walk_at "w";rw[show decide (((ps.length:Nat):Int)=((mv.length:Nat):Int))=decide (ps.length=mv.length) from decide_eq_decide.mpr (by lia)];obtain ⟨fl,hfl⟩:∃fl,fl=decide (ps.length=mv.length):=⟨_,rfl⟩;rw[<- hfl];have s36:=(s3a.trans sb).trans s6;have A6:Na K Z.a_System H2 H6 x mv pt lk:=⟨Sx.same s36,D,SF,Y,Y2⟩;have P6:=(P2.same s3).same s36
 have c2:∀Hd,sP (bu mv mv.length) lk mv.length mv.length 500 Hd->Hd.length+ps2.length=mv.length:=λHd U=>by
  have:=U.cnt RR2
  lia
 have nf:ps.length < mv.length->(∃R ps,bF (fQ mv pt mv.length) mv.length R ps/\ps.length=mv.length)->False:=λh ⟨R',ps',RR',e⟩=>by
  obtain ⟨rfl,rfl⟩:=RR'.same RR
  lia
 clear Y Y2 SF LF LF2 KF KF2 G5 Ga Gb Gc Sx P2 PT;exists ⟨by lia,by lia,?_⟩;refine eF (n:=2) (λj σ' H'=>aA H6 H'/\∃y1 y2,σ'=[some (.ref a0),some (.ref b),some (.int mv.length),some (.int i),some (.int o),some (.int w),some (.ref r),some (.ref x),some (.bl sa),some (.bl fl),y1,y2]) ⟨aA.refl _,_,_,rfl⟩ ?_ ?_
 ·rintro j σ' H7 hj ⟨s7,y1,y2,rfl⟩;have A7:=A6.same s7;have P7:=P6.same s7;exists ⟨λσ' H8=>∃v,σ'=[some (.ref a0),some (.ref b),some (.int mv.length),some (.int i),some (.int o),some (.int w),some (.ref r),some (.ref x),some (.bl sa),some (.bl fl),some (.int j),some v]/\aA H7 H8/\((v=.non/\sa=true)\/∃r8 z,v=.ref r8/\sa=false/\H7 r8=none/\c7 K H8 r8 z/\RI mv lk z),?_,?_⟩
  ·exists ⟨0,x,_,mv,pt,lk,rfl,by decide,A7,λhd=>absurd hd (by decide),λhor Hd U=>?_⟩;have cU:=c2 Hd U;refine ⟨λh0 H8 s8=>?_,λh0 r8 H8 s8 n8 R8=>?_⟩
   ·exists ⟨s8,.inl ⟨rfl,by rw[hsa];exact decide_eq_true (by lia)⟩⟩
   ·exists ⟨s8,.inr ⟨r8,_,rfl,by rw[hsa];exact decide_eq_false (by lia),n8,R8,A6.Y.state A6.Y2 A6.D U h0⟩⟩
  rintro σ' H8 ⟨v,rfl,s8,hv⟩;exists ⟨λσ' H9=>∃y,σ'=[some (.ref a0),some (.ref b),some (.int mv.length),some (.int i),some (.int o),some (.int w),some (.ref r),some (.ref x),some (.bl sa),some (.bl fl),some (.int j),y]/\aA H7 H9,?_,?_⟩
  ·rcases hv with ⟨rfl,rfl⟩ | ⟨r8,z,rfl,rfl,n8,R8,UZ⟩
   ·exists ⟨rfl,_,rfl,?_⟩;walk_at "w";rw[decide_eq_true rfl];exists s8
   ·exists ⟨r,r8,Hv,_,mv,pt,lk,_,rfl,P7,A6.D,s8,n8,R8,UZ,λH9 s9=>?_⟩;exists s9
  rintro σ' H9 ⟨y,rfl,s9⟩;have s79:=s7.trans s9;have A9:=A6.same s79;have P9:=P6.same s79;exists ⟨1,x,_,mv,pt,lk,rfl,by decide,A9,λ_ R' ps' RR' lt H10 s10=>?_,λhor Hd U=>?_⟩
  ·obtain ⟨rfl,rfl⟩:=RR'.same RR;rw[decide_eq_false (by lia)] at hfl;subst hfl;exists ⟨_,_,SV,_,_,by decide,rfl,rfl,?_⟩;rw[decide_eq_true rfl];exists ⟨s79.trans s10,_,_,rfl⟩
  have cU:=c2 Hd U
  have full:ps.length=mv.length:=by
   rcases aY ps.length mv.length with z | z
   ·exact (nf z (hor.resolve_left (by decide))).elim
   ·lia
  rw[decide_eq_true full] at hfl;subst hfl;refine ⟨λh0 H10 s10=>?_,λh0 r8 H10 s10 n8 R8=>?_⟩
  ·rw[decide_eq_true (by lia)] at hsa;subst hsa;exists ⟨rfl,_,rfl,?_⟩;walk_at "w";rw[decide_eq_true rfl];exists ⟨s79.trans s10,_,_,rfl⟩
  ·have UZ:=A6.Y.state A6.Y2 A6.D U h0;rw[decide_eq_false (by lia)] at hsa;subst hsa;exists ⟨r,r8,Hv,_,mv,pt,lk,_,rfl,P9,A6.D,s10,n8,R8,UZ,λH11 s11=>?_⟩;exists ⟨s79.trans s11,_,_,rfl⟩
 rintro σ' H7 ⟨s7,y1,y2,rfl⟩;refine ⟨λσ' H'=>aA H6 H'/\∃y1 y2,σ'=[some (.ref a0),some (.ref b),some (.int mv.length),some (.int i),some (.int o),some (.int w),some (.ref r),some (.ref x),some (.bl sa),some (.bl fl),y1,y2],?_,?_⟩
 ·cases sa with
  | true =>
   exists ⟨s7,_,_,rfl⟩
  | false =>
   have ns2:=of_decide_eq_false hsa.symm;exists ⟨0,x,_,mv,pt,lk,rfl,by decide,A6.same s7,λhd=>absurd hd (by decide),λhor Hd U=>?_⟩;have cU:=c2 Hd U;refine ⟨λh0=>by lia,λh0 r8 H8 s8 n8 R8=>?_⟩;have s78:=s7.trans s8;exists ⟨0,x,_,mv,pt,lk,rfl,by decide,A6.same s78,λhd=>absurd hd (by decide),λhor2 Hd2 U2=>?_⟩;obtain rfl:=ya U U2;refine ⟨λh0=>by lia,λh02 r9 H9 s9 n9 R9=>?_⟩;exists ⟨_,_,BF,_,_,by decide,(R8.same s9).kind,R9.kind,?_⟩;rw[decide_eq_true rfl];exists ⟨s78.trans s9,_,_,rfl⟩
 rintro σ' H7 ⟨s7,y1,y2,rfl⟩;exists ⟨1,x,_,mv,pt,lk,rfl,by decide,A6.same s7,λ_ R' ps' RR' lt H8 s8=>?_,λhor Hd U=>?_⟩
 ·obtain ⟨rfl,rfl⟩:=RR'.same RR;have s78:=s7.trans s8;exists ⟨1,x,_,mv,pt,lk,rfl,by decide,A6.same s78,λ_ R'' ps'' RR'' lt' H9 s9=>?_,λhor=>(nf lt (hor.resolve_left (by decide))).elim⟩;exists ⟨_,_,SV,_,_,by decide,rfl,rfl,?_⟩;rw[decide_eq_true rfl];obtain ⟨dx,am,ap,al,gx,_,_,_,_,_,Gl⟩:=(A6.same (s78.trans s9)).S;obtain ⟨m0,p0,l0,gp0,_,_,_,_,_,Gl0⟩:=P6.same (s78.trans s9);exists ⟨x,Z.a_System,dx,_,_,rfl,gx,T.cl_System,T.na_look,rA,?_⟩;exists ⟨_,_,C9,_,_,by decide,Gl.kind,Gl0.kind,?_⟩;rw[decide_eq_true rfl];exact k _
 have full:ps.length=mv.length:=by
  rcases aY ps.length mv.length with z | z
  ·exact (nf z (hor.resolve_left (by decide))).elim
  ·lia
 refine ⟨λh0 H8 s8=>?_,λh0 r8 H8 s8 n8 R8=>?_⟩
 ·have s78:=s7.trans s8;exists ⟨1,x,_,mv,pt,lk,rfl,by decide,A6.same s78,λ_ R' ps' RR' lt H9 s9=>?_,λ_ Hd2 U2=>?_⟩
  ·obtain ⟨rfl,rfl⟩:=RR'.same RR
   lia
  obtain rfl:=ya U U2;refine ⟨λ_ H9 s9=>?_,λh02=>by lia⟩;exists ⟨_,_,Ub,(),(),by decide,rfl,rfl,?_⟩;rw[decide_eq_true rfl];obtain ⟨dx,am,ap,al,gx,_,_,_,_,_,Gl⟩:=(A6.same (s78.trans s9)).S;obtain ⟨m0,p0,l0,gp0,_,_,_,_,_,Gl0⟩:=P6.same (s78.trans s9);exists ⟨x,Z.a_System,dx,_,_,rfl,gx,T.cl_System,T.na_look,rA,?_⟩;exists ⟨_,_,C9,_,_,by decide,Gl.kind,Gl0.kind,?_⟩;rw[decide_eq_true rfl];exact k _
 ·have s78:=s7.trans s8;exists ⟨1,x,_,mv,pt,lk,rfl,by decide,A6.same s78,λ_ R' ps' RR' lt H9 s9=>?_,λ_ Hd2 U2=>?_⟩
  ·obtain ⟨rfl,rfl⟩:=RR'.same RR
   lia
  obtain rfl:=ya U U2;refine ⟨λh02=>by lia,λ_ r9 H9 s9 n9 R9=>?_⟩;exists ⟨_,_,BF,_,_,by decide,(R8.same s9).kind,R9.kind,?_⟩;rw[decide_eq_true rfl];obtain ⟨dx,am,ap,al,gx,_,_,_,_,_,Gl⟩:=(A6.same (s78.trans s9)).S;obtain ⟨m0,p0,l0,gp0,_,_,_,_,_,Gl0⟩:=P6.same (s78.trans s9);exists ⟨x,Z.a_System,dx,_,_,rfl,gx,T.cl_System,T.na_look,rA,?_⟩;exists ⟨_,_,C9,_,_,by decide,Gl.kind,Gl0.kind,?_⟩;rw[decide_eq_true rfl];exact k _
 
end
theorem ln1 {P:List Value->Prop} (h:∀x0,P [x0]):∀us:List Value,us.length=1->P us
 | [x0],_=>h x0
theorem ln2 {P:List Value->Prop} (h:∀x0 x1,P [x0,x1]):∀us:List Value,us.length=2->P us
 | [x0,x1],_=>h x0 x1
theorem ln3 {P:List Value->Prop} (h:∀x0 x1 x2,P [x0,x1,x2]):∀us:List Value,us.length=3->P us
 | [x0,x1,x2],_=>h x0 x1 x2
theorem ln4 {P:List Value->Prop} (h:∀x0 x1 x2 x3,P [x0,x1,x2,x3]):∀us:List Value,us.length=4->P us
 | [x0,x1,x2,x3],_=>h x0 x1 x2 x3
theorem ln5 {P:List Value->Prop} (h:∀x0 x1 x2 x3 x4,P [x0,x1,x2,x3,x4]):∀us:List Value,us.length=5->P us
 | [x0,x1,x2,x3,x4],_=>h x0 x1 x2 x3 x4
local macro_rules | `(tactic| walk_at "b") => `(tactic| (intro _ _ _ _ _ _; first | (refine ln1 ?_; intros; rfl) | (refine ln2 ?_; intros; rfl) | (refine ln3 ?_; intros; rfl) | (refine ln4 ?_; intros; rfl) | (refine ln5 ?_; intros; rfl)))
theorem all_mk {l:W.OpenLaw} {K:W.Frag} 
 
  (X:K.In h) (G:h.Ns mainGlobals mg) (hfa:mg "law"=some (.ref fa))
 (aC:W.nsIn K mainGlobals "System"=some (some (.ref C)))
 (aC_Guesser:W.nsIn K mainGlobals "Guesser"=some (some (.ref C_Guesser)))
 (aC_Pilot:W.nsIn K mainGlobals "Pilot"=some (some (.ref C_Pilot)))
  (h0:Dh K "_law_bag" tZ f0 e0)
  (h1:Dh K "_law_take" rP f1 e1)
  (h2:Dh K "_law_sizes" my f2 e2)
  (h3:Dh K "_law_low" tX f3 e3)
  (h4:Dh K "_law_number" oK f4 e4)
  (h5:Dh K "_law_row" tW f5 e5)
  (h6:Dh K "_law_move" rT f6 e6)
  (h7:Dh K "_law_sum" tV f7 e7)
  (h8:Dh K "_law_plus" rS f8 e8)
  (h9:Dh K "_law_prod" rR f9 e9)
  (h10:Dh K "_law_by" vN f10 e10)
  (h11:Dh K "_law_mixed" qg f11 e11)
  (h12:Dh K "_law_parts" qe f12 e12)
  (h13:Dh K "want_list" rK f13 e13)
  (h14:Dh K "is_whole" tU f14 e14)
  (h15:Dh K "common_divisor" kr f15 e15)
  (h16:Dh K "is_number" rO f16 e16)
  (h17:Dh K "is_row" yH f17 e17)
  (h18:Dh K "copied_rows" oH f18 e18)
  (a19:W.findIn K (.ref C) "__init__"=some (some (.ref f19))) (i19:W.isFn K (.ref f19)=true) (l19:K.lookup f19=some ⟨oc19,od19,.func (W.fnOf "__init__" "System.__init__" (il d7) (eO d7) (cG d7) .none kV19 dc19 pm19 an19 cd19 ct19),sl19⟩) (c19:W.codeIn K cd19 "System.__init__"=true) (k19:W.keepIn K (.ref f19)=true)
  (h20:Dh K "_law_copied" oN f20 e20)
  (h21:Dh K "_law_made" rV f21 e21)
  (h22:Dh K "_law_quot" rQ f22 e22)
  (h23:Dh K "_law_less" rW f23 e23)
  (h24:Dh K "_law_minus" qh f24 e24)
  (h25:Dh K "_law_reduced" m5 f25 e25)
  (h26:Dh K "_law_dot" tY f26 e26)
  (h27:Dh K "_law_on" vM f27 e27)
  (h28:Dh K "_law_reach" pZ f28 e28)
  (h29:Dh K "_law_turned" oJ f29 e29)
  (h30:Dh K "tops_over" rL f30 e30)
  (h31:Dh K "common_multiple" jF f31 e31)
  (h32:Dh K "common_bottom" lW f32 e32)
  (h33:Dh K "first_with" pW f33 e33)
  (h34:Dh K "cleared" vL f34 e34)
  (h35:Dh K "brought_up" pX f35 e35)
  (h36:Dh K "swept" CB f36 e36)
  (h37:Dh K "lowest" yG f37 e37)
  (h38:Dh K "reduced" vH f38 e38)
  (h39:Dh K "row_dot" vG f39 e39)
  (h40:Dh K "grid_on" vK f40 e40)
  (h41:Dh K "moved_rows" pU f41 e41)
  (h42:Dh K "reach_grown" oC f42 e42)
  (h43:Dh K "reach_rows" pR f43 e43)
  (h44:Dh K "grid_turned" oF f44 e44)
  (a45:W.findIn K (.ref C) "turned"=some (some (.ref f45))) (i45:W.isFn K (.ref f45)=true) (l45:K.lookup f45=some ⟨oc45,od45,.func (W.fnOf "turned" "System.turned" (il fE) (eO fE) (cG fE) .none kV45 dc45 pm45 an45 cd45 ct45),sl45⟩) (c45:W.codeIn K cd45 "System.turned"=true) (k45:W.keepIn K (.ref f45)=true)
  (h46:Dh K "unit_row" tP f46 e46)
  (h47:Dh K "leading_place" lV f47 e47)
  (h48:Dh K "leading" vJ f48 e48)
  (h49:Dh K "minus" CD f49 e49)
  (h50:Dh K "null_at" vI f50 e50)
  (h51:Dh K "free_places" oG f51 e51)
  (h52:Dh K "nulls" CC f52 e52)
  (h53:Dh K "unseen_rows" oB f53 e53)
  (h54:Dh K "nought_row" pS f54 e54)
 (xa_NotSteered:W.nsIn K mainGlobals "NotSteered"=some (some (.ref x_NotSteered)))
  (a55:W.findIn K (.ref x_NotSteered) "__init__"=some (some (.ref f55))) (i55:W.isFn K (.ref f55)=true) (l55:K.lookup f55=some ⟨oc55,od55,.func (W.fnOf "__init__" "NotSteered.__init__" (il c8) (eO c8) (cG c8) .none kV55 dc55 pm55 an55 cd55 ct55),sl55⟩) (c55:W.codeIn K cd55 "NotSteered.__init__"=true) (k55:W.keepIn K (.ref f55)=true)
  (h56:Dh K "refuse_unsteered" ji f56 e56)
  (h57:Dh K "new_places" pT f57 e57)
  (h58:Dh K "leading_out" oE f58 e58)
  (a59:W.findIn K (.ref C) "moved"=some (some (.ref f59))) (i59:W.isFn K (.ref f59)=true) (l59:K.lookup f59=some ⟨oc59,od59,.func (W.fnOf "moved" "System.moved" (il fU) (eO fU) (cG fU) .none kV59 dc59 pm59 an59 cd59 ct59),sl59⟩) (c59:W.codeIn K cd59 "System.moved"=true) (k59:W.keepIn K (.ref f59)=true)
  (h60:Dh K "chain" CF f60 e60)
  (h61:Dh K "row_minus" rN f61 e61)
  (h62:Dh K "grid_times" pV f62 e62)
  (h63:Dh K "taken_over" pQ f63 e63)
  (h64:Dh K "times" CA f64 e64)
  (h65:Dh K "row_times" rM f65 e65)
  (h66:Dh K "amiss" CG f66 e66)
  (h67:Dh K "plus" GI f67 e67)
  (h68:Dh K "row_plus" tQ f68 e68)
  (h69:Dh K "closed" yI f69 e69)
  (h70:Dh K "steered" vF f70 e70)
 (xa_NotSeen:W.nsIn K mainGlobals "NotSeen"=some (some (.ref x_NotSeen)))
  (a71:W.findIn K (.ref x_NotSeen) "__init__"=some (some (.ref f71))) (i71:W.isFn K (.ref f71)=true) (l71:K.lookup f71=some ⟨oc71,od71,.func (W.fnOf "__init__" "NotSeen.__init__" (il dN) (eO dN) (cG dN) .none kV71 dc71 pm71 an71 cd71 ct71),sl71⟩) (c71:W.codeIn K cd71 "NotSeen.__init__"=true) (k71:W.keepIn K (.ref f71)=true)
  (a72:W.findIn K (.ref C_Guesser) "__init__"=some (some (.ref f72))) (i72:W.isFn K (.ref f72)=true) (l72:K.lookup f72=some ⟨oc72,od72,.func (W.fnOf "__init__" "Guesser.__init__" (il dO) (eO dO) (cG dO) .none kV72 dc72 pm72 an72 cd72 ct72),sl72⟩) (c72:W.codeIn K cd72 "Guesser.__init__"=true) (k72:W.keepIn K (.ref f72)=true)
  (a73:W.findIn K (.ref C_Pilot) "__init__"=some (some (.ref f73))) (i73:W.isFn K (.ref f73)=true) (l73:K.lookup f73=some ⟨oc73,od73,.func (W.fnOf "__init__" "Pilot.__init__" (il eS) (eO eS) (cG eS) .none kV73 dc73 pm73 an73 cd73 ct73),sl73⟩) (c73:W.codeIn K cd73 "Pilot.__init__"=true) (k73:W.keepIn K (.ref f73)=true)
  (h74:Dh K "_law_state" pY f74 e74)
  (h75:Dh K "_law_is_number" ku f75 e75)
  (h76:Dh K "_law_is_row" oM f76 e76)
  (h77:Dh K "_law_unseen" oI f77 e77)
  (h78:Dh K "law" Lo f78 e78)
 (ca0:W.nsIn K mainGlobals "NOUGHT"=some (some (.ref m0))) (cl0:K.lookup m0=some ⟨.type "tuple",mo0,.seq #[.int 0 mt0_0,.int 1 mt0_1] mn0,ms0⟩)
 (ca1:W.nsIn K mainGlobals "ONE"=some (some (.ref m1))) (cl1:K.lookup m1=some ⟨.type "tuple",mo1,.seq #[.int 1 mt1_0,.int 1 mt1_1] mn1,ms1⟩)
 (ci0:W.nsIn K mainGlobals "MOST_STATES"=some (some (.int 8 it0)))
 (ci1:W.nsIn K mainGlobals "MOST_PUTS"=some (some (.int 4 it1)))
 (ci2:W.nsIn K mainGlobals "MOST_LOOKS"=some (some (.int 4 it2)))
  (pg:W.plainGet K C Str.empty=true) (hd:W.hasDictIn K C=true) (po:W.plainOver K C=true) (sa:W.findIn K (.ref C) "__setattr__"=some (some (.builtin "object.__setattr__"))) (mk:W.makesIn K C=true) (kc:W.keepIn K (.ref C)=true)
  (n_move:W.findIn K (.ref C) "move"=some none)
  (n_states:W.findIn K (.ref C) "states"=some none)
  (n_put:W.findIn K (.ref C) "put"=some none)
  (n_ins:W.findIn K (.ref C) "ins"=some none)
  (n_look:W.findIn K (.ref C) "look"=some none)
  (n_outs:W.findIn K (.ref C) "outs"=some none)
  (pg_Guesser:W.plainGet K C_Guesser Str.empty=true) (hd_Guesser:W.hasDictIn K C_Guesser=true) (po_Guesser:W.plainOver K C_Guesser=true) (sa_Guesser:W.findIn K (.ref C_Guesser) "__setattr__"=some (some (.builtin "object.__setattr__"))) (mk_Guesser:W.makesIn K C_Guesser=true) (kc_Guesser:W.keepIn K (.ref C_Guesser)=true)
  (n_Guesser_mends:W.findIn K (.ref C_Guesser) "mends"=some none)
  (n_Guesser_state:W.findIn K (.ref C_Guesser) "state"=some none)
  (n_Guesser_system:W.findIn K (.ref C_Guesser) "system"=some none)
  (pg_Pilot:W.plainGet K C_Pilot Str.empty=true) (hd_Pilot:W.hasDictIn K C_Pilot=true) (po_Pilot:W.plainOver K C_Pilot=true) (sa_Pilot:W.findIn K (.ref C_Pilot) "__setattr__"=some (some (.builtin "object.__setattr__"))) (mk_Pilot:W.makesIn K C_Pilot=true) (kc_Pilot:W.keepIn K (.ref C_Pilot)=true)
  (n_Pilot_guesser:W.findIn K (.ref C_Pilot) "guesser"=some none)
  (n_Pilot_rows:W.findIn K (.ref C_Pilot) "rows"=some none)
 (xa_SumError:W.nsIn K mainGlobals "SumError"=some (some (.ref x_SumError)))
 
  (lx_NotSteered:K.lookup x_NotSteered=some ⟨.type "type",dd_NotSteered,.cls ⟨nm_NotSteered,bs_NotSteered,[.ref x_NotSteered,.ref x_SumError,.type "ValueError",.type "Exception",.type "BaseException",.type "object"],ns_NotSteered,qn_NotSteered,hd_NotSteered,sn_NotSteered,su_NotSteered,ab_NotSteered,co_NotSteered,false⟩,#[ka_NotSteered,kb_NotSteered,kc_NotSteered,kd_NotSteered,some (.builtin "ValueError.__new__"),ke_NotSteered]⟩)
  (sa_NotSteered:W.findIn K (.ref x_NotSteered) "__setattr__"=some (some (.builtin "object.__setattr__"))) (kp_NotSteered:W.keepIn K (.ref x_NotSteered)=true) (nt_NotSteered:W.findIn K (.ref x_NotSteered) "price"=some none)
 
  (lx_NotSeen:K.lookup x_NotSeen=some ⟨.type "type",dd_NotSeen,.cls ⟨nm_NotSeen,bs_NotSeen,[.ref x_NotSeen,.ref x_SumError,.type "ValueError",.type "Exception",.type "BaseException",.type "object"],ns_NotSeen,qn_NotSeen,hd_NotSeen,sn_NotSeen,su_NotSeen,ab_NotSeen,co_NotSeen,false⟩,#[ka_NotSeen,kb_NotSeen,kc_NotSeen,kd_NotSeen,some (.builtin "ValueError.__new__"),ke_NotSeen]⟩)
  (sa_NotSeen:W.findIn K (.ref x_NotSeen) "__setattr__"=some (some (.builtin "object.__setattr__"))) (kp_NotSeen:W.keepIn K (.ref x_NotSeen)=true) (nt_NotSeen:W.findIn K (.ref x_NotSeen) "state"=some none)
  (xe_SumError:W.excIn K x_SumError vo "ValueError.__new__"=true)
  (xm_NotSteered_NotSteered:W.exmOne K (.ref x_NotSteered) (.ref x_NotSteered)=some true)
  (xm_NotSteered_NotSeen:W.exmOne K (.ref x_NotSteered) (.ref x_NotSeen)=some false)
  (xm_NotSeen_NotSteered:W.exmOne K (.ref x_NotSeen) (.ref x_NotSteered)=some false)
  (xm_NotSeen_NotSeen:W.exmOne K (.ref x_NotSeen) (.ref x_NotSeen)=some true)
  (ki_NotSteered_SumError:W.kitOne K (.ref x_NotSteered) (.ref x_SumError)=some true)
  (ki_NotSteered_NotSteered:W.kitOne K (.ref x_NotSteered) (.ref x_NotSteered)=some true)
  (ki_NotSteered_ValueError:W.kitOne K (.ref x_NotSteered) (.type "ValueError")=some true)
  (ki_NotSeen_SumError:W.kitOne K (.ref x_NotSeen) (.ref x_SumError)=some true)
  (ki_NotSeen_NotSteered:W.kitOne K (.ref x_NotSeen) (.ref x_NotSteered)=some false)
  (ki_NotSeen_ValueError:W.kitOne K (.ref x_NotSeen) (.type "ValueError")=some true)
  (ga_NotSteered:W.findIn K (.ref x_NotSteered) "__getattribute__"=some (some (.builtin "BaseException.__getattribute__")))
  (gt_NotSteered:W.findIn K (.ref x_NotSteered) "__getattr__"=some none)
  (mb_NotSteered:W.mroIn K x_NotSteered (.type "BaseException")=some true)
  (mo_NotSteered:W.mroIn K x_NotSteered (.type "object")=some true)
  (hd_NotSteered:W.hasDictIn K x_NotSteered=true)
  (ca_NotSteered:W.findIn K (.ref x_NotSteered) "__class__"=some (some (.builtin "object.__class__")))
  (ga_NotSeen:W.findIn K (.ref x_NotSeen) "__getattribute__"=some (some (.builtin "BaseException.__getattribute__")))
  (gt_NotSeen:W.findIn K (.ref x_NotSeen) "__getattr__"=some none)
  (mb_NotSeen:W.mroIn K x_NotSeen (.type "BaseException")=some true)
  (mo_NotSeen:W.mroIn K x_NotSeen (.type "object")=some true)
  (hd_NotSeen:W.hasDictIn K x_NotSeen=true)
  (ca_NotSeen:W.findIn K (.ref x_NotSeen) "__class__"=some (some (.builtin "object.__class__")))
  (sg_:W.specialIn K (.builtin "object.__class__") "__get__"=some (some (.builtin "getset_descriptor.__get__")))
  (tk_:W.takesIn K (.builtin "object.__class__")=some true)
  (z_abs:W.nsIn K mainGlobals "abs"=some none)
  (z_len:W.nsIn K mainGlobals "len"=some none)
  (z_min:W.nsIn K mainGlobals "min"=some none)
  (z_range:W.nsIn K mainGlobals "range"=some none)
  (z_int:W.nsIn K mainGlobals "int"=some none)
  (z_isinstance:W.nsIn K mainGlobals "isinstance"=some none)
  (z_list:W.nsIn K mainGlobals "list"=some none)
  (z_bool:W.nsIn K mainGlobals "bool"=some none)
  (z_tuple:W.nsIn K mainGlobals "tuple"=some none)
  (z_all:W.nsIn K mainGlobals "all"=some none)
  (z_enumerate:W.nsIn K mainGlobals "enumerate"=some none)
  (z_zip:W.nsIn K mainGlobals "zip"=some none)
  (z_sum:W.nsIn K mainGlobals "sum"=some none)
  (z_reversed:W.nsIn K mainGlobals "reversed"=some none)
  (z_ValueError:W.nsIn K mainGlobals "ValueError"=some none)
  : ∃fd:FuncData,(∀(s:Shared) (v:Value),BindsTo s fd ⟨[v],[]⟩ [("_law_script",v)])/\∀base:Heap,K.In base->base.Ns mainGlobals mg->j9 l.prog w K mg base F1 16 fa fd ["_law_script"] (yv K):=by
 have e:=hfa.symm.trans (W.mg_of X G h78.a);cases e;obtain ⟨_,_,_,_,_,_,_,_,_,rfl,_,_⟩:=h78.F.ex;have F19:=sG (st:=d7) l19 c19 k19;have F45:=sG (st:=fE) l45 c45 k45;have F55:=sG (st:=c8) l55 c55 k55;have F59:=sG (st:=fU) l59 c59 k59;have F71:=sG (st:=dN) l71 c71 k71;have F72:=sG (st:=dO) l72 c72 k72;have F73:=sG (st:=eS) l73 c73 k73
 have T:Txt K mg ⟨f0,_,f1,_,f2,_,f3,_,f4,_,f5,_,f6,_,f7,_,f8,_,f9,_,f10,_,f11,_,f12,_,f13,_,f14,_,f15,_,f16,_,f17,_,f18,_,f19,_,f20,_,f21,_,f22,_,f23,_,f24,_,f25,_,f26,_,f27,_,f28,_,f29,_,f30,_,f31,_,f32,_,f33,_,f34,_,f35,_,f36,_,f37,_,f38,_,f39,_,f40,_,f41,_,f42,_,f43,_,f44,_,f45,_,f46,_,f47,_,f48,_,f49,_,f50,_,f51,_,f52,_,f53,_,f54,_,f55,_,f56,_,f57,_,f58,_,f59,_,f60,_,f61,_,f62,_,f63,_,f64,_,f65,_,f66,_,f67,_,f68,_,f69,_,f70,_,f71,_,f72,_,f73,_,f74,_,f75,_,f76,_,f77,_,fa,_,m0,m1,it0,it1,it2,C,C_Guesser,C_Pilot,x_SumError,x_NotSteered,x_NotSeen⟩:={
  oh:=h0.D X G
  bJ:=h1.D X G
  kQ:=h2.D X G
  dY:=h3.D X G
  jU:=h4.D X G
  jx:=h5.D X G
  mG:=h6.D X G
  iL:=h7.D X G
  mF:=h8.D X G
  gN:=h9.D X G
  kC:=h10.D X G
  kS:=h11.D X G
  kR:=h12.D X G
  iN:=h13.D X G
  lB:=h14.D X G
  eo:=h15.D X G
  mD:=h16.D X G
  sX:=h17.D X G
  fZ:=h18.D X G
  ip:=F19.binds (ps:=["self","move","put","look"]) λ_ _ _ _ _ _=>by refine ln4 ?_;intros;rfl
  oo:=F19
  gg:=h20.D X G
  mH:=h21.D X G
  mE:=h22.D X G
  mI:=h23.D X G
  kT:=h24.D X G
  gR:=h25.D X G
  og:=h26.D X G
  kB:=h27.D X G
  jb:=h28.D X G
  jT:=h29.D X G
  fG:=h30.D X G
  gM:=h31.D X G
  du:=h32.D X G
  kN:=h33.D X G
  qD:=h34.D X G
  kO:=h35.D X G
  sv:=h36.D X G
  iO:=h37.D X G
  jo:=h38.D X G
  iI:=h39.D X G
  iJ:=h40.D X G
  ja:=h41.D X G
  jQ:=h42.D X G
  i8:=h43.D X G
  cV:=h44.D X G
  kD:=⟨a45,i45,k45⟩
  l7:=F45.binds (ps:=["self"]) λ_ _ _ _ _ _=>by refine ln1 ?_;intros;rfl
  qV:=F45
  lh:=h46.D X G
  iP:=h47.D X G
  nE:=h48.D X G
  sF:=h49.D X G
  qC:=h50.D X G
  jS:=h51.D X G
  sE:=h52.D X G
  jN:=h53.D X G
  dS:=h54.D X G
  kb:=F55.binds (ps:=["self","price"]) λ_ _ _ _ _ _=>by refine ln2 ?_;intros;rfl
  kg:=F55
  dG:=h56.D X G
  kM:=h57.D X G
  jR:=h58.D X G
  qU:=⟨a59,i59,k59⟩
  sN:=F59.binds (ps:=["self","state","puts"]) λ_ _ _ _ _ _=>by refine ln3 ?_;intros;rfl
  sS:=F59
  uQ:=h60.D X G
  jP:=h61.D X G
  fN:=h62.D X G
  kL:=h63.D X G
  uP:=h64.D X G
  jO:=h65.D X G
  uR:=h66.D X G
  xM:=h67.D X G
  oa:=h68.D X G
  sY:=h69.D X G
  gK:=h70.D X G
  nH:=F71.binds (ps:=["self","state"]) λ_ _ _ _ _ _=>by refine ln2 ?_;intros;rfl
  nJ:=F71
  jt:=F72.binds (ps:=["self","system"]) λ_ _ _ _ _ _=>by refine ln2 ?_;intros;rfl
  nK:=F72
  pd:=F73.binds (ps:=["self","system"]) λ_ _ _ _ _ _=>by refine ln2 ?_;intros;rfl
  pA:=F73
  dU:=h74.D X G
  ik:=h75.D X G
  jV:=h76.D X G
  iK:=h77.D X G
  PV:=h78.F
  abs:=W.mg_none_of X G z_abs
  len:=W.mg_none_of X G z_len
  min:=W.mg_none_of X G z_min
  range:=W.mg_none_of X G z_range
  int:=W.mg_none_of X G z_int
  isinstance:=W.mg_none_of X G z_isinstance
  list:=W.mg_none_of X G z_list
  bool:=W.mg_none_of X G z_bool
  tuple:=W.mg_none_of X G z_tuple
  all:=W.mg_none_of X G z_all
  enumerate:=W.mg_none_of X G z_enumerate
  zip:=W.mg_none_of X G z_zip
  sum:=W.mg_none_of X G z_sum
  reversed:=W.mg_none_of X G z_reversed
  ValueError:=W.mg_none_of X G z_ValueError
  mg_NOUGHT:=W.mg_of X G ca0
  sq_NOUGHT:=λH=>.inr ⟨_,_,_,cl0,rfl,rfl,i5 rfl,.cons ⟨_,rfl⟩ (.cons ⟨_,rfl⟩ (.nil))⟩
  mg_ONE:=W.mg_of X G ca1
  sq_ONE:=λH=>.inr ⟨_,_,_,cl1,rfl,rfl,i5 rfl,.cons ⟨_,rfl⟩ (.cons ⟨_,rfl⟩ (.nil))⟩
  mg_MOST_STATES:=W.mg_of X G ci0
  mg_MOST_PUTS:=W.mg_of X G ci1
  mg_MOST_LOOKS:=W.mg_of X G ci2
  mg_System:=W.mg_of X G aC
  cl_System:=⟨pg,hd,po,sa⟩
  na_move:=n_move
  na_states:=n_states
  na_put:=n_put
  na_ins:=n_ins
  na_look:=n_look
  na_outs:=n_outs
  mk_System:=⟨mk,a19,i19,kc⟩
  mg_Guesser:=W.mg_of X G aC_Guesser
  cl_Guesser:=⟨pg_Guesser,hd_Guesser,po_Guesser,sa_Guesser⟩
  na_Guesser_mends:=n_Guesser_mends
  na_Guesser_state:=n_Guesser_state
  na_Guesser_system:=n_Guesser_system
  mk_Guesser:=⟨mk_Guesser,a72,i72,kc_Guesser⟩
  mg_Pilot:=W.mg_of X G aC_Pilot
  cl_Pilot:=⟨pg_Pilot,hd_Pilot,po_Pilot,sa_Pilot⟩
  na_Pilot_guesser:=n_Pilot_guesser
  na_Pilot_rows:=n_Pilot_rows
  mk_Pilot:=⟨mk_Pilot,a73,i73,kc_Pilot⟩
  mg_SumError:=W.mg_of X G xa_SumError
  mg_NotSteered:=W.mg_of X G xa_NotSteered
  mg_NotSeen:=W.mg_of X G xa_NotSeen
  ex_SumError:=xe_SumError
  xm_NotSteered_NotSteered:=xm_NotSteered_NotSteered
  xm_NotSteered_NotSeen:=xm_NotSteered_NotSeen
  xm_NotSeen_NotSteered:=xm_NotSeen_NotSteered
  xm_NotSeen_NotSeen:=xm_NotSeen_NotSeen
  ki_NotSteered_SumError:=ki_NotSteered_SumError
  ki_NotSteered_NotSteered:=ki_NotSteered_NotSteered
  ki_NotSteered_ValueError:=ki_NotSteered_ValueError
  ki_NotSeen_SumError:=ki_NotSeen_SumError
  ki_NotSeen_NotSteered:=ki_NotSeen_NotSteered
  ki_NotSeen_ValueError:=ki_NotSeen_ValueError
  xi_NotSteered:=⟨⟨_,_,_,_,_,_,_,lx_NotSteered,rfl,rfl⟩,xe_SumError,sa_NotSteered,⟨ga_NotSteered,gt_NotSteered,mb_NotSteered,mo_NotSteered,hd_NotSteered,ca_NotSteered,sg_,tk_⟩⟩
  in_NotSteered:=a55
  fn_NotSteered:=beq_iff_eq.mp i55
  kp_NotSteered:=kp_NotSteered
  nt_NotSteered:=nt_NotSteered
  xi_NotSeen:=⟨⟨_,_,_,_,_,_,_,lx_NotSeen,rfl,rfl⟩,xe_SumError,sa_NotSeen,⟨ga_NotSeen,gt_NotSeen,mb_NotSeen,mo_NotSeen,hd_NotSeen,ca_NotSeen,sg_,tk_⟩⟩
  in_NotSeen:=a71
  fn_NotSeen:=beq_iff_eq.mp i71
  kp_NotSeen:=kp_NotSeen
  nt_NotSeen:=nt_NotSeen
  xc_NotSteered:=⟨ga_NotSteered,gt_NotSteered,mb_NotSteered,mo_NotSteered,hd_NotSteered,ca_NotSteered,sg_,tk_⟩
  xc_NotSeen:=⟨ga_NotSeen,gt_NotSeen,mb_NotSeen,mo_NotSeen,hd_NotSeen,ca_NotSeen,sg_,tk_⟩ }
 exact ⟨_,λs v=>.of_eq rfl,λbase _ _=>QX T⟩
theorem walk {l:W.OpenLaw} {K:Params->W.Frag} (hn:l.most=some 63) (hdf:d.params.defaults=[])
  (hY:∀(w:World) (h:Heap),YP w h->(K w.params).In h)
  (F:∀(w:World) (mg:Str->Option Value) (fa:Addr) (h:Heap),(K w.params).In h->h.Ns mainGlobals mg->mg d.name=some (.ref fa) →
   ∃fd:FuncData,(∀(s:Shared) (u:Value),BindsTo s fd ⟨[u],[]⟩ [("_law_script",u)])/\∀base:Heap,(K w.params).In base->base.Ns mainGlobals mg->j9 l.prog w (K w.params) mg base F1 16 fa fd ["_law_script"] (yv (K w.params))) :
  W.WalkO q loose XP YP l.row.toRowW d [] (λf vs=>PySem.call f vs) :=
 L2.Nq (n:=63) (k:=16) (x:="_law_script") (CX:=λ_=>F1) (sp:=λw=>yv (K w.params)) hn (by decide) hdf ⟨rfl,by decide,by decide⟩ hY F (λ_ _ a ns hl _ hS=>⟨a,ns,rfl,hS,hl,λ_=>rfl⟩) λ_ _ _ _ _ z=>z
end Lw
namespace PySem.W.Fast
def tw12229245305126716820:=()
def tw7858141411304048858:=()
def tw16578849160945479751:=()
def tw8815606043771865737:=()
def tw3212022034494757401:=()
def tw11258945628691592090:=()
def tw15437636978293729681:=()
def tw6004732954574834144:=()
def tw2857496958489561932:=()
def tw13891314199190448464:=()
def tw7306037494611258648:=()
def tw29685656786719739:=()
def tw5642883508411925762:=()
def tw660261876833595363:=()
def tw11264974419841206173:=()
def tw233134709704723075:=()
def tw2600577303448697168:=()
def tw15815903409164241142:=()
def tw15494574602598794982:=()
def tw7723167256852916030:=()
def tw9580707888541762376:=()
def tw1514782727982645050:=()
def tw709728882540604647:=()
def tw4420587400380706269:=()
def tw3090923586645533481:=()
def tw6803058499232417813:=()
def tw12509739960049700987:=()
def tw11401733414646769094:=()
def tw16964060449646415168:=()
def tw6244616741293369307:=()
def tw12666397931130513279:=()
def tw15466478987312677533:=()
def tw7700422905454460148:=()
def tw18359022017070316085:=()
def tw15915571170183684095:=()
def tw17522374283555829034:=()
def tw1567159600146657153:=()
def tw560892828053510157:=()
def tw7296676863551511753:=()
def tw14040481577357541252:=()
def tw693005363802527917:=()
def tw12186635175171134717:=()
def tw16430908056666193086:=()
def tw10151457840423396129:=()
def tw8225893388306587546:=()
def tw9478315667541618450:=()
def tw16942820561072913460:=()
def tw6834562270188392068:=()
def tw5695453565373434130:=()
def tw698127174393493208:=()
def tw5773235574923715604:=()
def tw15761391238702964828:=()
def tw17388091109637876621:=()
def tw7982673016787494825:=()
def tw4125699808071485618:=()
def tw2194948381136829798:=()
def tw412654243421589126:=()
def tw2676010256594955272:=()
def tw9613776026230308336:=()
def tw7572726282029688394:=()
def tw4864231438358344200:=()
def tw14773012402875179161:=()
def tw16218099015252576191:=()
def tw18444682020173634766:=()
def tw12826138847361190554:=()
def tw59024067253101460:=()
def tw10009987008155874523:=()
def tw132014193509993985:=()
def tw12841954060528460744:=()
def tw7906190355380435129:=()
def tw2428792684593727082:=()
def tw14530167804262780123:=()
def tw3980540327862955586:=()
def tw16338152059477799202:=()
def tw1994199861478964979:=()
def tw3615367102627502572:=()
def tw17163661832476135865:=()
def tw4652994959925223817:=()
def tw5903126079265470904:=()
def tw3770661813610052834:=()
def tw17768060341059999012:=()
def tw6669088670394251524:=()
def tw5360586436175457679:=()
def tw18402186557557550379:=()
def tw7868418444187365200:=()
def tw10792789484235252214:=()
def tw15191861429631231888:=()
def tw15945626122133197261:=()
def tw14792323950652348351:=()
def tw6449568683057527115:=()
def tw1369641230324785825:=()
def tw5155137912521155889:=()
def tw10215386130137098932:=()
def tw14202891701928243791:=()
def tw17668606564493115485:=()
def tw14820824355713820395:=()
def tw11530292926413696585:=()
def tw11329779955508765432:=()
def tw9613091481219320621:=()
def tw4200845057289673002:=()
def tw1487225975089900423:=()
def tw2483328357847612384:=()
def tw7479506308887080770:=()
def tw8314796423959336945:=()
def tw15129353250984338824:=()
def tw4562673471323830269:=()
def tw3639365266326003965:=()
def tw3561728683293281915:=()
def tw15242071584866886525:=()
def tw13556640872643889172:=()
def tw11171296590770884612:=()
def tw5632992081599046262:=()
def tw15875171466611290062:=()
def tw5067368320983830468:=()
def tw6959845829271733444:=()
def tw12462999292860474964:=()
def tw9902120700503263344:=()
def tw5002565451526662816:=()
def tw16106348550362270752:=()
def tw14527800945059097300:=()
def tw1470764752384299096:=()
def tw9037803002243620934:=()
def tw5149909498210546414:=()
def tw8703220482201819177:=()
def tw10906859931045034709:=()
def tw10669251487326213890:=()
def tw5368982430424012745:=()
def tw10375812280090952400:=()
def tw16333507859970787052:=()
def tw12044355261245955088:=()
def tw13491556210023739482:=()
def tw7943843014557768262:=()
def tw2454180647942236162:=()
def tw12768563424788117629:=()
def tw1839350244343050717:=()
def tw9102280715136582011:=()
def tw910251516983150767:=()
def tw6763350748614440399:=()
def tw9174236043690488982:=()
def tw3544214751850980223:=()
def tw7815893323238312653:=()
def tw8075006850044039884:=()
def tw8427633166641457058:=()
def tw18203104258454924794:=()
def tw172282263637996902:=()
def tw1116493424480579819:=()
def tw9874466837003502109:=()
def tw5299999664752417151:=()
def tw7733667830877639317:=()
def tw12107588229187391914:=()
def tw3445134900197332026:=()
def tw2526548558041894953:=()
def tw8076613220814196915:=()
def tw9097348411490048344:=()
def tw3603392502092815758:=()
def tw301533969662095439:=()
def tw12909598801542260:=()
def tw11743830107503647187:=()
def tw5556685108106159402:=()
def tw1271937307095506447:=()
def tw17607944977086487357:=()
def tw14702875606359272407:=()
def tw17910750787393663135:=()
def tw9606501846267683011:=()
def tw16296652350259221111:=()
def tw11493171828022705832:=()
def tw1536536268182161593:=()
def tw8295856922001523171:=()
def tw10671861121661669338:=()
def tw8402974507374967392:=()
def tw8139471718525692565:=()
def tw9077988608022558496:=()
def tw12270756231024505642:=()
def tw12173675955083617684:=()
def tw4691771316942648999:=()
def tw17618853968082497961:=()
def tw14502225440268992482:=()
def tw8086338812652147479:=()
def tw4736831720767400552:=()
def tw3412231882650072424:=()
def tw11351496951333830444:=()
def tw3092275020526949632:=()
def tw7254978066854868958:=()
def tw859003915721900321:=()
def tw10689958267317756398:=()
def tw9057477779700236965:=()
def tw7999753207386075179:=()
def tw3425969229744710943:=()
def tw17271003872331408055:=()
def tw13510556245897428284:=()
def tw14177337171797199668:=()
def tw12981707251790357647:=()
def tw17468308194553846688:=()
def tw13947707000750674574:=()
def tw363674175835251520:=()
def tw10108658130309799510:=()
def tw11454671779428314409:=()
def tw7374446997045785802:=()
def tw14685624503850591520:=()
def tw6788313264226702046:=()
def tw12258028465364933014:=()
def tw3735186417342966750:=()
def tw5302013839619114163:=()
def tw8415273115677637463:=()
def tw4163003460331070788:=()
def tw4581587765453340165:=()
def tw6518065957115967609:=()
def tw14486046107786102188:=()
def tw11506549714196497359:=()
def tw12451985975973026308:=()
def tw8696061883233523218:=()
def tw15807434201388188968:=()
def tw4146733586747912485:=()
def tw720985912842008935:=()
def tw108649238438079475:=()
def tw4553649579286305062:=()
def tw10735839155628567741:=()
def tw7122439681987338537:=()
def tw8827709365753935889:=()
def tw16548388251432601756:=()
def tw18187963012764287023:=()
def tw13970835919076046485:=()
def tw8767228253366650281:=()
def tw15019948692459765595:=()
def tw2005233115385972033:=()
def tw14160041187526609386:=()
def tw6030700979464043914:=()
def tw2170443745111831999:=()
def tw5112999999304466961:=()
def tw17342012818145593163:=()
def tw9255061677538641132:=()
def tw10546942118179024026:=()
def tw1260370005561878548:=()
def tw10624475924541990092:=()
def tw8200171238272586458:=()
def tw1863835874853977591:=()
def tw335526618021506986:=()
def tw5705122356186220632:=()
def tw13343931967654196761:=()
def tw2824408050229895269:=()
def tw5051461514391761957:=()
def tw7464771086933905356:=()
def tw9198935104452112289:=()
def tw13774852158975320649:=()
def tw6094615682037586016:=()
def tw837331338825855401:=()
def tw18151129477806477795:=()
def tw7159255660739945225:=()
def tw250801933652553084:=()
def tw4151252345753589376:=()
def tw17790387927153867810:=()
def tw13380665982536030037:=()
def tw4916530098261101782:=()
def tw9648369263118772602:=()
def tw13809806513049205227:=()
def tw4200988069061999641:=()
def tw13410970287298760881:=()
def tw4924838531718483232:=()
def tw9441099141500644025:=()
def tw17894663636270013109:=()
def tw7111672383796953670:=()
def tw17822861936130250127:=()
def tw15281670223565917635:=()
def tw17035797675016049491:=()
def tw8773056292182672908:=()
def tw17159151441078146766:=()
def tw17910982436685652144:=()
def tw12033919141161427048:=()
def tw14698577572050105001:=()
def tw12065162668110013008:=()
def tw18084548163818808948:=()
def tw11606978870839557678:=()
def tw7856287664241902120:=()
def tw17903418400894324673:=()
def tw605211804709413089:=()
def tw7867059751498526349:=()
def tw12646572118872664628:=()
def tw10644294205849250783:=()
def tw1398088368658575265:=()
def tw5860989866939213575:=()
def tw12840506683002926103:=()
def tw5244960042979282483:=()
def tw14255360530493946138:=()
def tw12950231780917058914:=()
def tw9508448156708275357:=()
def tw5511066150157442329:=()
def tw12139349653735222322:=()
def tw16039627658199117476:=()
def tw432580044647007664:=()
def tw11590013981869798086:=()
def tw13136707855511819250:=()
def tw9821662317943463292:=()
def tw8876640546922569037:=()
def tw17502265085690376387:=()
def tw17920277740421283864:=()
def tw14034220624226288899:=()
def tw5209649574889777583:=()
def tw8432173900965330193:=()
def tw372713692723803406:=()
def tw5116765131443430285:=()
def tw5200016418588155881:=()
def tw14407086414901613646:=()
def tw17936781029001207078:=()
def tw7675002311269518960:=()
def tw972220146733631760:=()
def tw1343435770160457039:=()
def tw7610315436809781252:=()
def tw7668924966677336673:=()
def tw14292065800622103846:=()
def tw3307557311031567972:=()
def tw13330424319581299246:=()
def tw9665292554607509368:=()
def tw11039607435692406342:=()
def tw14127227795112389340:=()
def tw3754976233426807182:=()
def tw6551614837654795228:=()
def tw11174615749015080979:=()
def tw12176623016821198984:=()
def tw8118318537259818016:=()
def tw8924341548742422807:=()
def tw3352929454078692177:=()
def tw9807202841918767335:=()
def tw7286577629740776258:=()
def tw13474143600386853031:=()
def tw17443633738877768784:=()
def tw13586679099892103662:=()
def tw1927803591355305506:=()
def tw16591315264391573838:=()
def tw1903802137721043187:=()
def tw15254297283470020212:=()
def tw9414605009332896366:=()
def tw2001132329841030888:=()
def tw8778930992062957717:=()
def tw13993785848001989987:=()
def tw8493488657195583860:=()
def tw14280929119528289419:=()
def tw13533397103094727001:=()
def tw12529924949581203377:=()
def tw9904163338194529895:=()
def tw2869679574844440671:=()
def tw6440750211587530706:=()
def tw15431498029819641960:=()
def tw12532627417835380422:=()
def tw1233472279811368032:=()
def tw3359870449021412715:=()
def tw6188448736406585818:=()
def tw5792074641687531212:=()
def tw3869599044743591049:=()
def tw13999390715071034896:=()
def tw8197826674821541062:=()
def tw13525572023434405660:=()
def tw3860980002528343929:=()
def tw10511601295642841566:=()
def tw13548187814796758543:=()
def tw13785325409757937547:=()
def tw5877753354551267290:=()
def tw14966895294918864484:=()
def tw15018024429636001294:=()
def tw5153407662990142803:=()
def tw10763658529873869664:=()
def tw11593085568394916950:=()
def tw1229047156734386539:=()
def tw17934295176834488472:=()
def tw13978385615996478113:=()
def tw10352964195444188828:=()
def tw15647277600038585238:=()
def tw78936762802265142:=()
def tw295704851418240120:=()
def tw1578060843619726985:=()
def tw3685545078134721020:=()
def tw9849218380212592865:=()
def tw18194399369104664177:=()
def tw8840768601139361523:=()
def tw13247282040880638812:=()
def tw6484904572010421010:=()
def tw13204304412918005200:=()
def tw2449090728938363306:=()
def tw17767273662018862338:=()
def tw12109779238042640583:=()
def tw4820669008846234082:=()
def tw7324586446916915904:=()
def tw16690852378983771380:=()
def tw14939486254083957793:=()
def tw12093885976097081231:=()
def tw11431705827323624488:=()
def tw5850863912881830605:=()
def tw2806019395966673116:=()
def tw10708025753616444449:=()
def tw1867447881614944520:=()
def tw14551478266637347938:=()
def tw6466172077518612629:=()
def tw1851739616982200503:=()
def tw14205220158661014188:=()
theorem te12229245305126716820:True:=trivial
end PySem.W.Fast
open PySem PySem.W PyProof.Rows
set_option maxRecDepth 100000 in
set_option maxHeartbeats 0 in
theorem PySem.Challenge.cw_helmsum_k88_not_seen_holds : PySem.Challenge.rw_helmsum_k88_not_seen.Holds := by
 w_on;o_law;k_head;(case hw=>w_witness2)
 k_fill
 refine Lw.walk (l:=PySem.Challenge.rw_helmsum_k88_not_seen) rfl rfl (λw h Y=>PySem.W.kIn_of Y) ?F
 case F =>
  intro w mg fa h KX G hmg;refine' Lw.all_mk KX G hmg ?aC ?aC_Guesser ?aC_Pilot ?_ ?_ ?_ ?_ ?_ ?_ ?_ ?_ ?_ ?_ ?_ ?_ ?_ ?_ ?_ ?_ ?_ ?_ ?_ ?a19 ?i19 ?l19 ?c19 ?k19 ?_ ?_ ?_ ?_ ?_ ?_ ?_ ?_ ?_ ?_ ?_ ?_ ?_ ?_ ?_ ?_ ?_ ?_ ?_ ?_ ?_ ?_ ?_ ?_ ?_ ?a45 ?i45 ?l45 ?c45 ?k45 ?_ ?_ ?_ ?_ ?_ ?_ ?_ ?_ ?_ ?xa_NotSteered ?a55 ?i55 ?l55 ?c55 ?k55 ?_ ?_ ?_ ?a59 ?i59 ?l59 ?c59 ?k59 ?_ ?_ ?_ ?_ ?_ ?_ ?_ ?_ ?_ ?_ ?_ ?xa_NotSeen ?a71 ?i71 ?l71 ?c71 ?k71 ?a72 ?i72 ?l72 ?c72 ?k72 ?a73 ?i73 ?l73 ?c73 ?k73 ?_ ?_ ?_ ?_ ?_ ?ca0 ?cl0 ?ca1 ?cl1 ?ci0 ?ci1 ?ci2 ?pg ?hd ?po ?sa ?mk ?kc ?n_move ?n_states ?n_put ?n_ins ?n_look ?n_outs ?pg_Guesser ?hd_Guesser ?po_Guesser ?sa_Guesser ?mk_Guesser ?kc_Guesser ?n_Guesser_mends ?n_Guesser_state ?n_Guesser_system ?pg_Pilot ?hd_Pilot ?po_Pilot ?sa_Pilot ?mk_Pilot ?kc_Pilot ?n_Pilot_guesser ?n_Pilot_rows ?xa_SumError ?lx_NotSteered ?sa_NotSteered ?kp_NotSteered ?nt_NotSteered ?lx_NotSeen ?sa_NotSeen ?kp_NotSeen ?nt_NotSeen ?xe_SumError ?xm_NotSteered_NotSteered ?xm_NotSteered_NotSeen ?xm_NotSeen_NotSteered ?xm_NotSeen_NotSeen ?ki_NotSteered_SumError ?ki_NotSteered_NotSteered ?ki_NotSteered_ValueError ?ki_NotSeen_SumError ?ki_NotSeen_NotSteered ?ki_NotSeen_ValueError ?ga_NotSteered ?gt_NotSteered ?mb_NotSteered ?mo_NotSteered ?hd_NotSteered ?ca_NotSteered ?ga_NotSeen ?gt_NotSeen ?mb_NotSeen ?mo_NotSeen ?hd_NotSeen ?ca_NotSeen ?sg_ ?tk_ ?z_abs ?z_len ?z_min ?z_range ?z_int ?z_isinstance ?z_list ?z_bool ?z_tuple ?z_all ?z_enumerate ?z_zip ?z_sum ?z_reversed ?z_ValueError
  all_goals try refine' Tg ?_ ?_ ?_ ?_
  all_goals try k_is
  (case xe_SumError=>k_exc)
  (case xm_NotSteered_NotSteered=>kts_exm)
  (case xm_NotSteered_NotSeen=>kts_exm)
  (case xm_NotSeen_NotSteered=>kts_exm)
  (case xm_NotSeen_NotSeen=>kts_exm)
  (case ki_NotSteered_SumError=>kit_is)
  (case ki_NotSteered_NotSteered=>kit_is)
  (case ki_NotSteered_ValueError=>kit_is)
  (case ki_NotSeen_SumError=>kit_is)
  (case ki_NotSeen_NotSteered=>kit_is)
  (case ki_NotSeen_ValueError=>kit_is)