import PyProof.Rows.All
import Wide.All
import OpenK.AllK
import Wide.FinOn
import Lean
import PyProof.EqAt
import PyProof.EqKinds
import PyProof.TupleCall
import PyProof.NeKinds
import PySem.Challenge.RW_helmsum_k64_whole_all_others_more
set_option Elab.async false
set_option linter.all false
set_option maxRecDepth 100000
abbrev ND9:=@List.Nodup PySem.Str
abbrev aa:=@List.getD_eq_getElem?_getD
abbrev af:=@List.getElem?_eq_getElem
abbrev ag:=@Nat.le_trans
abbrev ai:=@List.length_map
abbrev ao:=@Nat.le_refl
abbrev ar:=@Nat.pow_le_pow_right
abbrev av:=@List.mem_of_getElem?
abbrev aw:=@Nat.mul_le_mul
abbrev ax:=@List.length_append
abbrev ay:=@Nat.mul_le_mul_right
abbrev az:=@Nat.pow_add
abbrev aA:=@Nat.mul_le_mul_left
abbrev aB:=@List.mem_map
abbrev aD:=@List.getElem_mem
abbrev aE:=@List.take_of_length_le
abbrev aG:=@List.mem_append
abbrev aH:=@List.getElem?_map
abbrev aI:=@List.mem_cons
abbrev aJ:=@List.getElem?_eq_some_iff
abbrev aN:=@Nat.mul_pos
abbrev aO:=@Rat.intCast_natCast
abbrev aQ:=@List.length_zipWith
abbrev aR:=@Rat.intCast_mul
abbrev aT:=@List.size_toArray
abbrev aW:=@List.getElem?_eq_none
abbrev aY:=@List.getElem_of_mem
abbrev ba:=@List.not_mem_nil
abbrev bc:=@Nat.le_of_lt
abbrev be:=@Bool.false_ne_true
abbrev bf:=@PySem.boot_len
abbrev bg:=@Nat.lt_of_le_of_lt
abbrev bo:=@List.getElem?_zipWith
abbrev bp:=@Nat.lt_of_lt_of_le
abbrev br:=@Nat.zero_le
abbrev bw:=@List.length_range
abbrev bx:=@List.length_replicate
abbrev bA:=@List.length_reverse
abbrev bB:=@List.length_cons
abbrev bI:=@List.mem_append_right
abbrev bM:=@List.getElem_zipWith
abbrev bN:=@List.getElem?_append_right
abbrev bR:=@List.mem_of_mem_take
abbrev bS:=@List.length_singleton
abbrev bU:=@List.flatten_cons
abbrev bW:=@List.mem_cons_of_mem
abbrev bY:=@Nat.ne_of_lt
abbrev bZ:=@Nat.le_mul_of_pos_left
abbrev b6:=@Int.natAbs_natCast
abbrev b7:=@Int.fdiv_eq_ediv_of_nonneg
abbrev cg:=@Option.some.inj
abbrev ck:=@List.map_append
abbrev cn:=@Nat.le_mul_of_pos_right
abbrev cu:=@List.getElem?_append_left
abbrev cv:=@List.length_take
abbrev cw:=@Nat.mul_comm
abbrev cC:=@List.append_assoc
abbrev cD:=@List.mem_singleton
abbrev cF:=@List.mem_or_eq_of_mem_set
abbrev cH:=@List.getElem?_range
abbrev cI:=@Int.natAbs_mul
abbrev cK:=@Nat.mul_assoc
abbrev cQ:=@Int.eq_ofNat_of_zero_le
abbrev cS:=@List.nil_append
abbrev cU:=@List.mem_reverse
abbrev cX:=@Nat.one_le_two_pow
abbrev c4:=@Nat.lt_or_ge
abbrev c5:=@PySem.F.plainAttrs_list
abbrev c7:=@Nat.pow_lt_pow_right
abbrev c8:=@Nat.succ_mul
abbrev dc:=@PySem.F.type_list_append
abbrev dd:=@PySem.F.slot_list_append
abbrev dg:=@Nat.dvd_mul_left
abbrev dn:=@List.mem_cons_self
abbrev du:=@Rat.intCast_inj
abbrev dw:=@PySem.W.kia_one
abbrev dA:=@Rat.mul_comm
abbrev dB:=@List.ext_getElem
abbrev dG:=@List.nodup_append
abbrev dH:=@Rat.intCast_neg
abbrev dI:=@List.mem_replicate
abbrev dP:=@Nat.succ_le_succ
abbrev dQ:=@List.mem_flatten
abbrev dR:=@Bool.and_eq_true
abbrev eB:=@List.nodup_cons
abbrev eC:=@List.length_set
abbrev eK:=@List.drop_eq_getElem_cons
abbrev eO:=@List.cons_append
abbrev eP:=@Int.gcd_dvd_left
abbrev ff:=@Nat.pow_succ
abbrev fg:=@Nat.min_self
abbrev fh:=@Nat.lt_irrefl
abbrev fB:=@Int.gcd_dvd_right
abbrev fD:=@Rat.natCast_mul
abbrev fE:=@Nat.not_lt_zero
abbrev fL:=@List.replicate_succ
abbrev fM:=@List.flatten_append
abbrev fP:=@Rat.mul_zero
abbrev fY:=@Rat.div_def
abbrev fZ:=@Nat.pow_pos
abbrev gh:=@Nat.mul_add
abbrev gI:=@Int.natAbs_dvd_natAbs
abbrev gJ:=@Bool.beq_eq_decide_eq
abbrev gR:=@Rat.mul_eq_zero
abbrev gY:=@List.mem_append_left
abbrev gZ:=@List.ext_getElem?
abbrev hJ:=@Int.mul_pos
abbrev ia:=@List.map_cons
abbrev iI:=@List.zipWith_append
abbrev iK:=@Nat.lt_succ_self
abbrev iL:=@List.getElem_map
abbrev i5:=@Nat.sub_self
abbrev i8:=@Int.gcd_comm
abbrev ja:=@Int.emod_lt_of_pos
abbrev jb:=@Bool.false_eq_true
abbrev jN:=@Nat.dvd_mul_right
abbrev kb:=@Rat.zero_mul
abbrev kd:=@Rat.add_zero
abbrev ke:=@PySem.IsL.update
abbrev kf:=@List.lookup_cons
abbrev kg:=@Int.mul_comm
abbrev kx:=@PySem.F.plain_extend_loop
abbrev ky:=@PySem.mem_of_lookup
abbrev kz:=@Nat.pow_le_pow_left
abbrev kI:=@Nat.le_of_dvd
abbrev kJ:=@Nat.dvd_trans
abbrev kK:=@List.getElem?_take_of_lt
abbrev kL:=@List.eq_of_mem_replicate
abbrev kM:=@Int.mul_assoc
abbrev kW:=@List.append_nil
abbrev kX:=@Int.emod_nonneg
abbrev kY:=@Bool.eq_iff_iff
abbrev k6:=@Rat.div_mul_cancel
abbrev k9:=@Nat.eq_zero_or_pos
abbrev lY:=@Nat.one_mul
abbrev lZ:=@Int.dvd_mul_of_dvd_left
abbrev mH:=@Rat.mul_nonneg
abbrev mI:=@List.zipWith_cons_cons
abbrev mJ:=@List.reverse_cons
abbrev mK:=@List.nodup_nil
abbrev nU:=@PySem.F.slot_zip_next
abbrev nV:=@Option.getD_some
abbrev nW:=@List.all_eq_true
abbrev ph:=@Nat.pow_mul
abbrev pk:=@List.reverse_reverse
abbrev pA:=@List.map_id
abbrev pC:=@Rat.intCast_pos
abbrev pE:=@Nat.min_eq_left
abbrev pF:=@List.sum_append
abbrev pG:=@List.length_zip
abbrev rh:=@Nat.add_comm
abbrev sL:=@List.mem_range
abbrev sN:=@List.getElem_range
abbrev sO:=@Int.natAbs_neg
abbrev vg:=@Rat.mul_one
abbrev vh:=@Nat.lt_trichotomy
abbrev vm:=@Nat.le_succ
abbrev xS:=@Rat.intCast_eq_zero_iff
abbrev xT:=@Nat.le_add_right
abbrev xU:=@List.getElem?_replicate
abbrev xV:=@Int.natCast_dvd_natCast
abbrev yo:=@PySem.W.cellsFrom_some
abbrev yp:=@Nat.dvd_refl
abbrev yr:=@List.map_map
abbrev Av:=@Rat.intCast_add
abbrev BV:=@List.forIn_nil
abbrev DB:=@PySem.W.plainGet_of
abbrev DC:=@List.filterMap_cons
abbrev Fo:=@PySem.W.callWith_K
abbrev Fp:=@List.append_of_mem
abbrev IU:=@Nat.ne_of_gt
abbrev IV:=@Nat.mul_zero
abbrev IW:=@Int.zero_add
abbrev IX:=@Int.dvd_refl
abbrev Kc:=@Nat.min_le_right
abbrev Kd:=@List.length_drop
abbrev Mr:=@Rat.one_mul
abbrev Ms:=@Nat.mul_one
abbrev Mt:=@Nat.add_mul
abbrev Mu:=@Int.dvd_gcd
abbrev MB:=@List.range_succ
abbrev MC:=@List.of_mem_zip
abbrev MD:=@List.map_const'
abbrev ME:=@List.forIn_cons
abbrev MF:=@Int.gcd_pos_of_ne_zero_right
abbrev OV:=@Int.eq_of_mul_eq_mul_right
abbrev QC:=@PySem.F.entry_extend_loop
abbrev QD:=@List.getElem?_zip_eq_some
abbrev QE:=@Int.natAbs_ediv_of_nonneg
abbrev QL:=@Option.isSome_iff_exists
abbrev QM:=@Int.natAbs_eq
abbrev Sa:=@PySem.F.args_zip_next_1
abbrev Sb:=@Nat.add_sub_cancel_left
abbrev LR9:=List (List Rat)
abbrev FG9:=PySem.W.Frag
namespace L2
open PySem PySem.Spec PyProof.Rows
abbrev Key:=Sum Int Str
def OE:Key->Value->Bool
 | .inl k,v=>Value.isInt k v
 | .inr x,v=>Value.isStrOf x v
def SA (w:World):Key->Int
 | .inl k=>hashInt k
 | .inr x=>hashStr w x
theorem fz:∀{k:Key} {v:Value},OE k v=true->(∃i t,k=Sum.inl i/\v=Value.int i t)\/(∃x t,k=Sum.inr x/\v=Value.str x t)
 | .inl i,v,h=>by
  obtain ⟨t,e⟩:=Value.isInt_shape (k:=i) (v:=v) h;exact .inl ⟨i,t,rfl,e⟩
 | .inr x,v,h=>by
  obtain ⟨t,e⟩:=Value.isStrOf_shape (x:=x) (v:=v) h;exact .inr ⟨x,t,rfl,e⟩
theorem Qa (a b:Int):decide ((Sum.inl a:Key)=Sum.inl b)=(a == b):=by
 by_cases e:a=b
 ·subst e;simp
 ·have h:¬(Sum.inl a:Key)=Sum.inl b:=λq=>e (Sum.inl.inj q)
  rw[decide_eq_false h];exact (beq_eq_false_iff_ne.mpr e).symm
theorem P7 (a b:Str):decide ((Sum.inr a:Key)=Sum.inr b)=decide (a=b):=by
 by_cases e:a=b
 ·subst e;simp
 ·have h:¬(Sum.inr a:Key)=Sum.inr b:=λq=>e (Sum.inr.inj q)
  rw[decide_eq_false h,decide_eq_false e]
theorem P9 (a:Int) (b:Str):decide ((Sum.inl a:Key)=Sum.inr b)=false:=decide_eq_false (λq=>nomatch q)
theorem P8 (a:Str) (b:Int):decide ((Sum.inr a:Key)=Sum.inl b)=false:=decide_eq_false (λq=>nomatch q)
def Ib (prog:Program) (w:World):PySem.KeyKind prog w Key where
 is:=OE
 hash:=SA w
 inj:=λv a b ha hb=>by
  rcases fz ha with ⟨i,t,rfl,rfl⟩ | ⟨x,t,rfl,rfl⟩
  ·rcases fz hb with ⟨j,u,rfl,e⟩ | ⟨y,u,rfl,e⟩
   ·injection e with e1 _;rw[e1]
   ·exact nomatch e
  ·rcases fz hb with ⟨j,u,rfl,e⟩ | ⟨y,u,rfl,e⟩
   ·exact nomatch e
   ·injection e with e1 _;rw[e1]
 byValue:=λk v h=>by
  rcases fz h with ⟨i,t,rfl,rfl⟩ | ⟨x,t,rfl,rfl⟩ <;> rfl
 pyHash:=λhv h=>by
  rcases fz hv with ⟨i,t,rfl,rfl⟩ | ⟨x,t,rfl,rfl⟩
  ·exact wpAny_pyHash_int h
  ·exact wpAny_pyHash_str h
 eqBool:=λhu hv h=>by
  rcases fz hu with ⟨i,t,rfl,rfl⟩ | ⟨x,t,rfl,rfl⟩
  ·rcases fz hv with ⟨j,u,rfl,rfl⟩ | ⟨y,u,rfl,rfl⟩
   ·rw[Qa] at h;exact wpAny_eqBool_int h
   ·rw[P9] at h;exact SeqAt.EqAt.int_str i t y u _ _ _ _ h
  ·rcases fz hv with ⟨j,u,rfl,rfl⟩ | ⟨y,u,rfl,rfl⟩
   ·rw[P8] at h;exact SeqAt.EqAt.str_int x t j u _ _ _ _ h
   ·rw[P7] at h;exact wpAny_eqBool_str h
 «strs»:=λk x t v h=>by
  rcases fz h with ⟨i,u,rfl,e⟩ | ⟨y,u,rfl,e⟩
  ·exact nomatch e
  ·injection e with e1 _
   subst e1;cases v <;> rfl
inductive V where
  | non | bl (b : Bool) | int (i : Int) | str (x : Str) | byt (b : Array UInt8) | flt (b : UInt64) | ref (a : Addr) | ty (n : String)
  deriving DecidableEq

def RelV:V->Value->Prop
 | .non,u=>u=Value.none
 | .bl b,u=>u=Value.bool b
 | .int i,u=>∃t,u=Value.int i t
 | .str x,u=>∃t,u=Value.str x t
 | .byt b,u=>∃t,u=Value.bytes b t
 | .flt b,u=>∃t,u=Value.float b t
 | .ref a,u=>u=Value.ref a
 | .ty n,u=>u=Value.type n
abbrev cY:List V->List Value->Prop:=Paired RelV
theorem cY.length (r:cY xs us):xs.length=us.length:=Paired.length r
theorem cY.get:∀{xs:List V} {us:List Value} {i:Nat} {x:V},cY xs us->xs[i]?=some x->∃u,us[i]?=some u/\RelV x u
 | _,_,_,_,.nil,e=>by simp at e
 | _,_,0,_,.cons r _,e=>by simp at e;subst e;exact ⟨_,rfl,r⟩
 | _,_,i+1,x,.cons _ t,e=>by
  obtain ⟨u,h1,h2⟩:=cY.get (i:=i) (x:=x) t (by simpa using e);exact ⟨u,by simpa using h1,h2⟩
theorem cY.set {x:V} {u:Value} (r:RelV x u):∀{xs:List V} {us:List Value} (i:Nat),cY xs us->cY (xs.set i x) (us.set i u)
 | _,_,_,.nil=>.nil
 | _,_,0,.cons _ t=>.cons r t
 | _,_,i+1,.cons q t=>.cons q (cY.set r i t)
theorem cY.append:∀{xs ys:List V} {us ws:List Value},cY xs us->cY ys ws->cY (xs++ys) (us++ws)
 | _,_,_,_,.nil,s=>s
 | _,_,_,_,.cons r t,s=>.cons r (cY.append t s)
theorem cY.take:∀{xs:List V} {us:List Value} (n:Nat),cY xs us->cY (xs.take n) (us.take n)
 | _,_,0,_=>.nil
 | _,_,_+1,.nil=>.nil
 | _,_,n+1,.cons r t=>.cons r (cY.take n t)
theorem cY.drop:∀{xs:List V} {us:List Value} (n:Nat),cY xs us->cY (xs.drop n) (us.drop n)
 | _,_,0,r=>r
 | _,_,_+1,.nil=>.nil
 | _,_,n+1,.cons _ t=>cY.drop n t
def AM:Option V->Option Value->Prop
 | some v,some u=>RelV v u
 | none,none=>True
 | _,_=>False
def KV {κ:Type}:List (κ×V)->List (κ×Value)->Prop:=Paired λ(p:κ×V) (q:κ×Value)=>p.1=q.1/\RelV p.2 q.2
def kV:Key->V
 | .inl i=>.int i
 | .inr x=>.str x
inductive HO where
 | lst (xs:List V)
 | tup (xs:List V)
 | dK (kvs:List (Key×V)) | dT (kvs:List (List Key×V))
 | set (S:Int->Bool) (n:Nat)
 | ins (C dx:Addr) (fs:List (Str×V))
 | own (x:Addr)
 | xd (fs:List (Str×V))
 | met (f x:Addr)
 | rng (lo hi:Int)
 | frz (o:Obj) (u:HO)
 | tbl (ps:Array Value)
 | ext (φ:Heap->Prop)
abbrev Hp:=Addr->Option HO
def upd (H:Hp) (a:Addr) (o:HO):Hp:=λb=>if b=a then some o else H b
theorem aM:upd H a o a=some o:=by unfold upd;rw[if_pos rfl]
theorem bE (h:b≠a):upd H a o b=H b:=by unfold upd;rw[if_neg h]
theorem fG {H:Hp} (h:H a=some o) (h':H b=none):a≠b:=by
 intro e;subst e;rw[h] at h';cases h'
section
variable (P:Program) (w:World)
def jm (H:Hp) (h:Heap) (a:Addr):HO->Prop
 | .lst xs=>xs.length<=sizeLine/\∃(its:List Value) (n:Nat),cY xs its/\h.get? a=some { cls:=.type "list",data:=.seq its.toArray n }
 | .tup xs=>xs.length<=sizeLine/\∃its:List Value,cY xs its/\IsTup h a its.toArray
 | .dK kvs=>kvs.length<=sizeLine/\(a == sysModules)=false/\∃vs,KV kvs vs/\h.DictOf (Ib P w) a vs
 | .dT kvs=>kvs.length<=sizeLine/\(a == sysModules)=false/\∃xs:List (List Key×Addr×Value),
   Paired (λ(p:List Key×V) (q:List Key×Addr×Value)=>p.1=q.1/\H q.2.1=some (.tup (p.1.map kV))/\RelV p.2 q.2.2) kvs xs /\
   ∃o es ep,h.get? a=some o/\o.ExactDict/\o.data=.dict es ep/\es.toList=xs.map (entryOfKey (tupleKind (Ib P w)))/\(xs.map (·.1)).Nodup
 | .set S n=>h.SetOf (intKind P w) a S n
 | .ins C dx fs=>H dx=some (.own a)/\fs.length<=1000/\dx≠a/\h.get? a=some (PySem.W.instObj C dx) /\
   ∃mA,h.Ns1 dx mA/\(∀f,AM (fs.lookup f) (mA f))/\PySem.Within mA (fs.map (·.1))
 | .own _=>∃o,h.get? a=some o
 | .xd fs=>∃mA,h.Ns1 a mA/\∀f,AM (fs.lookup f) (mA f)
 | .rng lo hi=>∃t u v,h.get? a=some { cls:=.type "range",data:=.fields #[.int lo t,.int hi u,.int 1 v] }
 | .frz o u=>h.get? a=some o/\jm H h a u
 | .tbl ps=>h.get? a=some { cls:=.none,data:=.fields ps }
 | .met f x=>h.get? a=some (PySem.W.methodObj (.ref f) (.ref x))
 | .ext φ=>φ h/\(∃o,h.get? a=some o)/\∀h1 h2:Heap,φ h1->(∀o,h1.get? a=some o->h2.get? a=some o)->φ h2
def ym (H:Hp) (h:Heap):Prop:=∀a o,H a=some o->jm P w H h a o
end
section
variable {P:Program} {w:World} {H H':Hp} {h h':Heap} {a:Addr} {o:HO}
theorem jm.lt (x:jm P w H h a o):a < h.objs.size:=by
 cases o with
 | lst xs=>obtain ⟨_,_,_,_,e⟩:=x;exact Heap.lt_size e
 | tup xs=>obtain ⟨_,_,_,p⟩:=x;exact p.lt
 | dK kvs=>obtain ⟨_,_,_,_,o,_,_,e,_⟩:=x;exact Heap.lt_size e
 | dT kvs=>obtain ⟨_,_,_,_,o,_,_,e,_⟩:=x;exact Heap.lt_size e
 | set S n=>obtain ⟨o,_,_,_,e,_⟩:=x;exact Heap.lt_size e
 | ins C dx fs=>obtain ⟨_,_,_,e,_⟩:=x;exact Heap.lt_size e
 | own y=>obtain ⟨_,e⟩:=x;exact Heap.lt_size e
 | xd fs=>obtain ⟨_,⟨_,_,_,e,_⟩,_⟩:=x;exact Heap.lt_size e
 | rng lo hi=>obtain ⟨_,_,_,e⟩:=x;exact Heap.lt_size e
 | frz ob u=>obtain ⟨e,_⟩:=x;exact Heap.lt_size e
 | tbl ps=>exact Heap.lt_size (show h.get? a=some _ from x)
 | met f y=>exact Heap.lt_size (show h.get? a=some _ from x)
 | ext φ=>obtain ⟨_,⟨_,e⟩,_⟩:=x;exact Heap.lt_size e
theorem Paired.mapP {α β:Type} {F G:α->β->Prop}:∀{l₁:List α} {l₂:List β},Paired F l₁ l₂->(∀a b,F a b->G a b)->Paired G l₁ l₂
 | _,_,.nil,_=>.nil
 | _,_,.cons r t,f=>.cons (f _ _ r) (Paired.mapP t f)
theorem Paired.imp' {F G:α->β->Prop} (f:∀a b,F a b->G a b) {l₁:List α} {l₂:List β} (r:Paired F l₁ l₂):Paired G l₁ l₂:=Paired.mapP r f
theorem jm.stay (x:jm P w H h a o) (k:∀b u,(b=a\/H b=some (.own a))->h.get? b=some u->h'.get? b=some u)
  (ho:∀b,H b=some (.own a)->H' b=some (.own a)) (ht:∀b xs,H b=some (.tup xs)->H' b=some (.tup xs)):jm P w H' h' a o:=by
 induction o with
 | lst xs=>obtain ⟨z,its,n,r,e⟩:=x;exact ⟨z,its,n,r,k _ _ (.inl rfl) e⟩
 | tup xs=>obtain ⟨z,its,r,ob,e,c⟩:=x;exact ⟨z,its,r,ob,k _ _ (.inl rfl) e,c⟩
 | dK kvs=>obtain ⟨z,y,vs,r,ob,es,ep,e,c⟩:=x;exact ⟨z,y,vs,r,ob,es,ep,k _ _ (.inl rfl) e,c⟩
 | dT kvs =>
  obtain ⟨z,y,xs,r,ob,es,ep,e,c⟩:=x;exact ⟨z,y,xs,Paired.mapP r λp q z=>⟨z.1,ht _ _ z.2.1,z.2.2⟩,ob,es,ep,k _ _ (.inl rfl) e,c⟩
 | set S n=>obtain ⟨ob,es,ep,t,e,c⟩:=x;exact ⟨ob,es,ep,t,k _ _ (.inl rfl) e,c⟩
 | ins C dx fs =>
  obtain ⟨d,z,ne,e,mA,⟨od,es,ep,e2,c⟩,r⟩:=x;exact ⟨ho _ d,z,ne,k _ _ (.inl rfl) e,mA,⟨od,es,ep,k _ _ (.inr d) e2,c⟩,r⟩
 | own y=>obtain ⟨ob,e⟩:=x;exact ⟨ob,k _ _ (.inl rfl) e⟩
 | xd fs=>obtain ⟨mA,⟨od,es,ep,e,c⟩,r⟩:=x;exact ⟨mA,⟨od,es,ep,k _ _ (.inl rfl) e,c⟩,r⟩
 | rng lo hi=>obtain ⟨t,u,v,e⟩:=x;exact ⟨t,u,v,k _ _ (.inl rfl) e⟩
 | frz ob u ih=>obtain ⟨e,q⟩:=x;exact ⟨k _ _ (.inl rfl) e,ih q⟩
 | tbl ps =>
  have e:h.get? a=some { cls:=.none,data:=.fields ps }:=x;show h'.get? a=some { cls:=.none,data:=.fields ps }
  exact k a _ (.inl rfl) e
 | met f y =>
  have e:h.get? a=some (PySem.W.methodObj (.ref f) (.ref y)):=x;show h'.get? a=some (PySem.W.methodObj (.ref f) (.ref y))
  exact k a _ (.inl rfl) e
 | ext φ=>obtain ⟨p,⟨o,e⟩,st⟩:=x;exact ⟨st _ _ p λo q=>k _ _ (.inl rfl) q,⟨o,k _ _ (.inl rfl) e⟩,st⟩
theorem ym.lt (x:ym P w H h) (e:H a=some o):a < h.objs.size:=(x a o e).lt
theorem ym.fresh (x:ym P w H h) (e:h.objs.size<=a):H a=none:=by
 cases q:H a with
 | none=>rfl
 | some u=>exact absurd (bp (x.lt q) e) (fh _)
theorem ym.kept (x:ym P w H h) (k:∀b u,h.get? b=some u->h'.get? b=some u):ym P w H h':=λa o e =>
 (x a o e).stay (λb u _ q=>k b u q) (λ_ q=>q) λ_ _ q=>q
theorem ym.laid (x:ym P w H h) (k:∀b u,h.get? b=some u->h'.get? b=some u) (hp:h.objs.size<=a) (new:jm P w (upd H a o) h' a o):ym P w (upd H a o) h':=λb u e=>by
 have hn:=x.fresh hp;by_cases hb:b=a
 ·subst hb;rw[aM] at e;cases e;exact new
 ·rw[bE hb] at e;exact (x b u e).stay (λc v _ q=>k c v q) (λc q=>by rw[bE (fG q hn)];exact q) λc xs q=>by rw[bE (fG q hn)];exact q
end
def Rd (H:Hp) (a:Addr) (u:HO):Prop:=H a=some u\/∃o,H a=some (.frz o u)
theorem Rd.ok (r:Rd H a u) (x:ym P w H h):jm P w H h a u:=by
 rcases r with r | ⟨o,r⟩
 ·exact x a u r
 ·obtain ⟨_,q⟩:=x a _ r;exact q
def Sk:Option HO->Prop
 | some (.lst _)=>True
 | some (.dK _)=>True
 | some (.dT _)=>True
 | some (.set _ _)=>True
 | some (.ins _ _ _)=>True
 | some (.ext _)=>True
 | _=>False
section
variable {P:Program} {w:World} {H:Hp} {h h':Heap} {x e:Addr} {o':HO}
theorem ym.write (ok:ym P w H h) (mu:Sk (H x)) (he:e=x\/H e=some (.own x)) (k:∀b u,b≠e->h.get? b=some u->h'.get? b=some u) (heo:∃u,h'.get? e=some u)
  (new:jm P w (upd H x o') h' x o'):ym P w (upd H x o') h':=λb u q=>by
 have nown:∀c y,H c=some (.own y)->c≠x:=λc y r z=>by subst z;rw[r] at mu;exact mu
 have ntup:∀c xs,H c=some (.tup xs)->c≠x:=λc xs r z=>by subst z;rw[r] at mu;exact mu
 by_cases hb:b=x
 ·subst hb;rw[aM] at q;cases q;exact new
 ·rw[bE hb] at q;by_cases hbe:b=e
  ·have q':H b=some (.own x):=by
    rcases he with z | z
    ·exact absurd (hbe.trans z) hb
    ·rw[hbe];exact z
   rw[q] at q';cases q';obtain ⟨v,hv⟩:=heo;exact ⟨v,by rw[hbe];exact hv⟩
  ·refine (ok b u q).stay (λc v hc r=>k c v ?_ r) (λc r=>by rw[bE (nown c b r)];exact r) λc xs r=>by rw[bE (ntup c xs r)];exact r
   rcases hc with rfl | hc
   ·exact hbe
   ·rintro rfl;rcases he with z | z
    ·exact nown c b hc z
    ·rw[hc] at z;cases z;exact hb rfl
end
structure Un (fs ex:List Addr) (H H':Hp) (h h':Heap):Prop where
 keep:∀b o,h.get? b=some o->H b=none->b∉fs->b∉ex->h'.get? b=some o
 slot:∀b o,h.get? b=some o->H b=none->b∈fs->b∉ex->∃sl,h'.get? b=some { o with slots:=sl }
 free:∀b o,h.get? b=some o->H b=none->b∉ex->H' b=none
 there:∀b o,h.get? b=some o->b∉ex->∃o',h'.get? b=some o'
 tups:∀b xs,H b=some (.tup xs)->H' b=some (.tup xs)
 frzs:∀b o u,H b=some (.frz o u)->H' b=some (.frz o u)
 tbls:∀b ps,H b=some (.tbl ps)->∃more,H' b=some (.tbl (ps++more))
section
variable {fs fs' ex ex':List Addr} {H H1 H2:Hp} {h h1 h2 h':Heap} {a x e:Addr} {o:HO}
theorem Un.any (u:Un fs ex H H1 h h1) (q:h.get? b=some ob) (n:H b=none) (hx:b∉ex):∃sl,h1.get? b=some { ob with slots:=sl }:=by
 by_cases hb:b∈fs
 ·exact u.slot b ob q n hb hx
 ·exact ⟨ob.slots,u.keep b ob q n hb hx⟩
theorem Un.kept (k:∀b u,h.get? b=some u->h'.get? b=some u):Un fs ex H H h h' :=
 ⟨λb ob q _ _ _=>k b ob q,λb ob q _ _ _=>⟨ob.slots,k b ob q⟩,λ_ _ _ n _=>n,λb ob q _=>⟨ob,k b ob q⟩,λ_ _ q=>q,λ_ _ _ q=>q,λ_ ps q=>⟨#[],by rw[q];simp⟩⟩
theorem Un.refl:Un fs ex H H h h:=Un.kept λ_ _ q=>q
theorem Un.laid (k:∀b u,h.get? b=some u->h'.get? b=some u) (hp:h.objs.size<=a) (hn:H a=none):Un fs ex H (upd H a o) h h' where
 keep:=λb u q _ _ _=>k b u q
 slot:=λb u q _ _ _=>⟨u.slots,k b u q⟩
 free:=λb u q n _=>by rw[bE (bY (bp (Heap.lt_size q) hp))];exact n
 there:=λb u q _=>⟨u,k b u q⟩
 tups:=λb xs q=>by rw[bE (fG q hn)];exact q
 frzs:=λb u xs q=>by rw[bE (fG q hn)];exact q
 tbls:=λb ps q=>⟨#[],by rw[bE (fG q hn),q];simp⟩
theorem Un.write (mu:Sk (H x)) (he:e=x\/H e=some (.own x)) (k:∀b u,b≠e->h.get? b=some u->h'.get? b=some u) (heo:∃u,h'.get? e=some u):Un fs ex H (upd H x o) h h':=by
 have hx:∀b,H b=none->b≠x:=λb n z=>by subst z;rw[n] at mu;exact mu
 have hb:∀b,H b=none->b≠e:=λb n z=>by
  subst z;rcases he with r | r
  ·exact hx b n r
  ·rw[n] at r;cases r
 have hm:∀b u,H b=some u->¬Sk (some u)->b≠x:=λb u q nm z=>by subst z;rw[q] at mu;exact nm mu
 refine ⟨λb u q n _ _=>k b u (hb b n) q,λb u q n _ _=>⟨u.slots,k b u (hb b n) q⟩,λb u q n _=>by rw[bE (hx b n)];exact n,λb u q _=>?_,
  λb xs q=>by rw[bE (hm b _ q λz=>z)];exact q,λb u xs q=>by rw[bE (hm b _ q λz=>z)];exact q,λb ps q=>⟨#[],by rw[bE (hm b _ q λz=>z),q];simp⟩⟩
 by_cases hbe:b=e
 ·subst hbe;exact heo
 ·exact ⟨u,k b u hbe q⟩
end
def Se (h:Heap) (H:Hp):List Addr:=(List.range h.objs.size).filter λa=>(H a).isSome
def C2 (h:Heap) (H:Hp):Heap:=PySem.W.hideAll h (Se h H)
theorem JP (h:Heap) (H:Hp):(C2 h H).objs.size=h.objs.size:=PySem.W.hideAll_size _ _
theorem LD (e:h.get? b=some o) (n:H b=none):(C2 h H).get? b=some o :=
 PySem.W.hideAll_get _ e λhm=>by
  have q:(H b).isSome=true:=(List.mem_filter.mp hm).2;rw[n] at q;simp at q
theorem NJ (e:(C2 h H).get? b=some o):h.get? b=some o/\H b=none:=by
 have e':h.get? b=some o:=PySem.W.of_hideAll (Se h H) e;refine ⟨e',?_⟩;cases q:H b with
 | none=>rfl
 | some x =>
  have hm:b∈Se h H:=List.mem_filter.mpr ⟨sL.mpr (Heap.lt_size e'),by simp [q]⟩;have z:(C2 h H).get? b=none:=PySem.W.hideAll_none (Se h H) hm;rw[z] at e;cases e
structure Mod (K:FG9) (mg:Str->Option Value) (base:Heap):Prop where
 kin:K.In base
 glob:base.Ns mainGlobals mg
 blt:∃mb,base.Ns builtinsNs mb/\∀x:Str,x≠"__name__"->mb x=bootBuiltins x
 nolimit:base.NoLimit
 seer:base.NoSeer
structure Cx where
 prog:Program
 w:World
 K:FG9
 mg:Str->Option Value
 base:Heap
 A:Around
 N:List Str
 s₀:Shared
 H₀:Hp
 env:Env
 outer:List Env
 stack:List Env
 ex:List Addr
 fn:Str->Bool
 calm:Bool
 pn:List (Addr×Obj)
 xe:Value->Shared->Prop
def J9 (l:List Env):List Addr:=l.filterMap (·.frame)
abbrev Cx.fs (X:Cx):List Addr:=J9 X.outer
def SJ (sc:Scope) (x:Str):Prop:=sc.names.lookup x=some .local\/sc.names.lookup x=some .cell\/sc.names.lookup x=some .free
def Loc (sc:Scope) (x:Str):Prop:=sc.names.lookup x=some .local\/sc.names.lookup x=some .cell
def Look (env:Env) (h:Heap) (m:Str->Option Value) (x:Str) (u:Value):Prop :=
 (env.kindOf x=some .local/\m x=some u)\/((env.kindOf x=some .cell\/env.kindOf x=some .free)/\∃c,env.cells.lookup x=some c/\h.IsCell c (some u))
structure Cx.Ok (X:Cx):Prop where
 mod:Mod X.K X.mg X.base
 kind:X.env.scope.kind=.function
 glob:X.env.globals=mainGlobals
 blt:X.env.builtins=builtinsNs
 above:X.s₀.heap.objs.size<=X.env.locals
 inj:∀x y c,X.env.cells.lookup x=some c->X.env.cells.lookup y=some c->x=y
 has:∀x,(X.env.kindOf x=some .cell\/X.env.kindOf x=some .free)->∃c,X.env.cells.lookup x=some c
 cab:∀x c,X.fn x=true->X.env.cells.lookup x=some c->X.s₀.heap.objs.size<=c
 hd:X.calm=true->X.A.handled=none
 frames:X.A.frames=some X.stack
 stk:X.stack=X.outer\/(X.stack=X.env :: X.outer/\X.env.frame=some X.env.locals)
 exf:∀b∈X.ex,b≠X.env.locals/\∀x c,X.env.cells.lookup x=some c->c≠b
 bs:∀b o,X.base.get? b=some o->X.s₀.heap.get? b=some o/\X.H₀ b=none
 bsz:X.base.objs.size<=X.s₀.heap.objs.size
 noex:∀b o,X.base.get? b=some o->b∉X.ex
 exfs:∀b∈X.ex,b∉X.fs
 funs:X.s₀.heap.FunFrames X.base X.outer
 frf:∀b∈X.fs,X.H₀ b=none
structure Inv (X:Cx) (pins:List (Addr×Obj)) (σ:List (Option V)) (H:Hp) (s:Shared):Prop where
 ok:X.Ok
 os:s.os=X.s₀.os
 bare:AllBare s.gens
 base:Un X.fs X.ex X.H₀ H X.s₀.heap s.heap
 loc:∃m,s.heap.Ns X.env.locals m/\∀(i:Nat) (x:Str) (v:V),X.N[i]?=some x->σ[i]?=some (some v)->SJ X.env.scope x->∃u,RelV v u/\Look X.env s.heap m x u
 cell:∀x c,X.env.cells.lookup x=some c->∃v,s.heap.IsCell c v
 free:H X.env.locals=none
 freeC:∀x c,X.env.cells.lookup x=some c->H c=none
 pin:∀p∈X.pn++pins,s.heap.get? p.1=some p.2/\H p.1=none/\p.1≠X.env.locals/\p.1∉X.fs/\∀v,p.2.data≠.cell v
 hok:ym X.prog X.w H s.heap
 len:σ.length=X.N.length
section
variable {X:Cx} {pins:List (Addr×Obj)} {σ:List (Option V)} {H H':Hp} {s:Shared} {h':Heap}
theorem Cx.Ok.nofr (ok:X.Ok) (e:X.base.get? b=some o):b∉X.fs:=λhb=>by
 have:=(ok.funs.mem hb).1;rw[e] at this;cases this
theorem Inv.bs (I:Inv X pins σ H s):∀b o,X.base.get? b=some o->s.heap.get? b=some o/\H b=none:=λb o e =>
 ⟨I.base.keep b o (I.ok.bs b o e).1 (I.ok.bs b o e).2 (I.ok.nofr e) (I.ok.noex b o e),I.base.free b o (I.ok.bs b o e).1 (I.ok.bs b o e).2 (I.ok.noex b o e)⟩
theorem Inv.bk (I:Inv X pins σ H s):∀b o,X.base.get? b=some o->s.heap.get? b=some o:=λb o e=>(I.bs b o e).1
theorem Inv.mod (I:Inv X pins σ H s):Mod X.K X.mg X.base:=I.ok.mod
theorem Inv.kIn (I:Inv X pins σ H s):X.K.In s.heap:=I.ok.mod.kin.keeps I.bk
theorem Inv.nolimit (I:Inv X pins σ H s):s.heap.NoLimit:=I.ok.mod.nolimit.keeps I.bk
theorem Inv.lt (I:Inv X pins σ H s):X.env.locals < s.heap.objs.size:=let ⟨_,hn,_⟩:=I.loc;hn.lt
theorem Inv.sz (I:Inv X pins σ H s):X.s₀.heap.objs.size<=s.heap.objs.size:=ag I.ok.above (bc I.lt)
theorem Inv.nofs (I:Inv X pins σ H s) {a:Addr} (h:s.heap.objs.size<=a):a∉X.fs:=λhb=>by
 obtain ⟨_,o,ho,_⟩:=I.ok.funs.mem hb;exact absurd (bp (Heap.lt_size ho) (ag I.sz h)) (fh _)
theorem Inv.cne (I:Inv X pins σ H s):∀x c,X.env.cells.lookup x=some c->c≠X.env.locals:=λx c e z=>by
 obtain ⟨v,o,ho,hd⟩:=I.cell x c e;obtain ⟨m,⟨o',es,ep,ho',hd',_⟩,_⟩:=I.loc;rw[z,ho'] at ho;cases ho;rw[hd'] at hd;cases hd
theorem Inv.funs (I:Inv X pins σ H s):s.heap.FunFrames X.base X.outer:=by
 have all:∀(l:List Env),(∀b∈J9 l,b∈X.fs)->X.s₀.heap.FunFrames X.base l->s.heap.FunFrames X.base l:=by
  intro l
  induction l with
  | nil=>intro _ _;trivial
  | cons env r ih =>
   intro hs hl;obtain ⟨hk,⟨L,o,hf,hn,ho,hd⟩,hr⟩:=hl;have hL:L∈X.fs:=hs L (by unfold J9;rw[DC,hf];exact dn);obtain ⟨sl,e⟩:=I.base.slot L o ho (I.ok.frf L hL) hL λz=>I.ok.exfs L z hL
   exact ⟨hk,⟨L,_,hf,hn,e,hd⟩,ih (λb hb=>hs b (by unfold J9;rw[DC,hf];exact bW _ hb)) hr⟩
 exact all X.outer (λ_ hb=>hb) I.ok.funs
theorem Inv.stack (I:Inv X pins σ H s):s.heap.FunFrames X.base X.stack:=by
 rcases I.ok.stk with e | ⟨e,hf⟩
 ·rw[e];exact I.funs
 ·rw[e];obtain ⟨m,hn,_⟩:=I.loc;refine .cons (by rw[I.ok.kind];decide) hf hn ?_ I.funs;exact Heap.get?_none_of_le (ag I.ok.bsz I.ok.above)
theorem Inv.stkSub (I:Inv X pins σ H s):∀b∈J9 X.stack,b∈X.env.locals :: X.fs:=λb hb=>by
 rcases I.ok.stk with e | ⟨e,hf⟩
 ·rw[e] at hb;exact bW _ hb
 ·rw[e] at hb;unfold J9 at hb;rw[DC,hf] at hb;exact hb
theorem Inv.stkFree (I:Inv X pins σ H s):∀b∈J9 X.stack,H b=none:=λb hb=>by
 rcases aI.mp (I.stkSub b hb) with e | hb
 ·rw[e];exact I.free
 ·obtain ⟨_,o,ho,_⟩:=I.ok.funs.mem hb;exact I.base.free b o ho (I.ok.frf b hb) λz=>I.ok.exfs b z hb
theorem Inv.step {ch:List Addr} (I:Inv X pins σ H s)
  (hch:∀b∈ch,(b∈X.ex\/X.s₀.heap.objs.size<=b)/\b≠X.env.locals/\(∀x c,X.env.cells.lookup x=some c->c≠b)/\∀p∈X.pn++pins,p.1≠b)
  (keep:∀b o,b≠X.env.locals->b∉X.fs->b∉ch->s.heap.get? b=some o->H b=none->h'.get? b=some o)
  (slot:∀b o,b≠X.env.locals->b∈X.fs->b∉ch->s.heap.get? b=some o->H b=none->∃sl,h'.get? b=some { o with slots:=sl }) (free:∀b o,b∉ch->s.heap.get? b=some o->H b=none->H' b=none)
  (there:∀b o,b∉ch->s.heap.get? b=some o->∃o',h'.get? b=some o')
  (tups:∀b xs,H b=some (.tup xs)->H' b=some (.tup xs)) (frzs:∀b o u,H b=some (.frz o u)->H' b=some (.frz o u)) (tbls:∀b ps,H b=some (.tbl ps)->∃more,H' b=some (.tbl (ps++more)))
  (ns:∀m,s.heap.Ns X.env.locals m->h'.Ns X.env.locals m) (hok:ym X.prog X.w H' h') (hg:AllBare g') :
  Inv X pins σ H' { s with heap:=h',gens:=g',drawn:=d',toks:=t' }:=by
 have neL:∀b o,X.s₀.heap.get? b=some o->b≠X.env.locals:=λb o e=>bY (bp (Heap.lt_size e) I.ok.above)
 have neC:∀b o,X.s₀.heap.get? b=some o->b∉X.ex->b∉ch:=λb o e hx hb=>by
  rcases (hch b hb).1 with z | z
  ·exact hx z
  ·exact absurd (bp (Heap.lt_size e) z) (fh _)
 have cellK:∀x c,X.env.cells.lookup x=some c->∀v,s.heap.IsCell c v->h'.IsCell c v:=λx c e v ⟨o,ho,hd⟩=>by
  have nch:c∉ch:=λz=>(hch c z).2.2.1 x c e rfl
  by_cases hc:c∈X.fs
  ·obtain ⟨sl,q⟩:=slot c o (I.cne x c e) hc nch ho (I.freeC x c e);exact ⟨_,q,hd⟩
  ·exact ⟨o,keep c o (I.cne x c e) hc nch ho (I.freeC x c e),hd⟩
 refine ⟨I.ok,I.os,hg,⟨λb o e n hb hx=>?_,λb o e n hb hx=>?_,λb o e n hx=>?_,λb o e hx=>?_,λb xs e=>tups b xs (I.base.tups b xs e),λb o xs e=>frzs b o xs (I.base.frzs b o xs e),λb ps e=>?_⟩,?_,λx c e=>?_,?_,λx c e=>?_,λp hp=>?_,hok,I.len⟩
 ·exact keep b o (neL b o e) hb (neC b o e hx) (I.base.keep b o e n hb hx) (I.base.free b o e n hx)
 ·obtain ⟨sl,e1⟩:=I.base.slot b o e n hb hx;obtain ⟨sl',e2⟩:=slot b _ (neL b o e) hb (neC b o e hx) e1 (I.base.free b o e n hx);exact ⟨sl',e2⟩
 ·obtain ⟨o',e1⟩:=I.base.there b o e hx;exact free b o' (neC b o e hx) e1 (I.base.free b o e n hx)
 ·obtain ⟨o',e1⟩:=I.base.there b o e hx;exact there b o' (neC b o e hx) e1
 ·obtain ⟨m1,e1⟩:=I.base.tbls b ps e;obtain ⟨m2,e2⟩:=tbls b _ e1;exact ⟨m1++m2,by rw[e2,Array.append_assoc]⟩
 ·obtain ⟨m,hn,hl⟩:=I.loc;refine ⟨m,ns m hn,λi x v e1 e2 e3=>?_⟩;obtain ⟨u,r,l⟩:=hl i x v e1 e2 e3;refine ⟨u,r,?_⟩;rcases l with l | ⟨k,c,e,z⟩
  ·exact .inl l
  ·exact .inr ⟨k,c,e,cellK x c e _ z⟩
 ·obtain ⟨v,z⟩:=I.cell x c e;exact ⟨v,cellK x c e v z⟩
 ·obtain ⟨m,⟨o,_,_,ho,_⟩,_⟩:=I.loc;exact free _ o (λz=>(hch _ z).2.1 rfl) ho I.free
 ·obtain ⟨v,o,ho,hd⟩:=I.cell x c e;exact free c o (λz=>(hch c z).2.2.1 x c e rfl) ho (I.freeC x c e)
 ·obtain ⟨e,n,ne,nf,d⟩:=I.pin p hp;have nch:p.1∉ch:=λz=>(hch p.1 z).2.2.2 p hp rfl
  exact ⟨keep p.1 p.2 ne nf nch e n,free p.1 p.2 nch e n,ne,nf,d⟩
theorem Inv.un (I:Inv X pins σ H s) (u:Un X.fs [] H H' s.heap h') (hok:ym X.prog X.w H' h'):Inv X pins σ H' { s with heap:=h',toks:=t' }:=by
 obtain ⟨m,⟨o,es,ep,ho,r⟩,_⟩:=id I.loc;obtain ⟨sl,hL⟩:=u.any ho I.free (by simp)
 exact I.step (g':=s.gens) (d':=s.drawn) (ch:=[]) (λ_ z=>nomatch z) (λb o _ hb _ e n=>u.keep b o e n hb (by simp)) (λb o _ hb _ e n=>u.slot b o e n hb (by simp)) (λb o _ e n=>u.free b o e n (by simp)) (λb o _ e=>u.there b o e (by simp)) u.tups u.frzs u.tbls (λm' hm=>by
  obtain ⟨o',es',ep',ho',r'⟩:=hm;rw[ho] at ho';cases ho';exact ⟨_,es',ep',hL,r'⟩) hok I.bare
theorem Inv.call (I:Inv X pins σ H s) (u:Un (J9 X.stack) ch H H' s.heap h') (hok:ym X.prog X.w H' h') (hg:AllBare g')
  (hch:∀b∈ch,(b∈X.ex\/X.s₀.heap.objs.size<=b)/\b≠X.env.locals/\(∀x c,X.env.cells.lookup x=some c->c≠b)/\∀p∈X.pn++pins,p.1≠b) :
  Inv X pins σ H' { s with heap:=h',gens:=g',drawn:=d',toks:=t' }:=by
 obtain ⟨m,⟨o,es,ep,ho,r⟩,_⟩:=id I.loc;obtain ⟨sl,hL⟩:=u.any ho I.free λz=>(hch _ z).2.1 rfl
 exact I.step (ch:=ch) hch (λb o hL hb hc e n=>u.keep b o e n (λz=>(aI.mp (I.stkSub b z)).elim hL hb) hc) (λb o _ _ hc e n=>u.any e n hc) (λb o hc e n=>u.free b o e n hc) (λb o hc e=>u.there b o e hc) u.tups u.frzs u.tbls (λm' hm=>by
  obtain ⟨o',es',ep',ho',r'⟩:=hm;rw[ho] at ho';cases ho';exact ⟨_,es',ep',hL,r'⟩) hok hg
theorem Inv.turned (I:Inv X pins σ H s) (k:∀b o,b≠it->s.heap.get? b=some o->h'.get? b=some o) (hn:H it=none) (hL:it≠X.env.locals)
  (h1:it∈X.ex\/X.s₀.heap.objs.size<=it) (h2:∀x c,X.env.cells.lookup x=some c->c≠it) (h3:∀p∈X.pn++pins,p.1≠it):Inv X pins σ H { s with heap:=h',toks:=t' }:=by
 have nit:∀b u,H b=some u->b≠it:=λb u e z=>by rw[z,hn] at e;cases e
 refine I.step (g':=s.gens) (d':=s.drawn) (ch:=[it]) (λb hb=>?_) (λb o _ _ hc e _=>k b o (λz=>hc (by simp [z])) e) (λb o _ _ hc e _=>⟨o.slots,k b o (λz=>hc (by simp [z])) e⟩) (λ_ _ _ _ n=>n)
  (λb o hc e=>⟨o,k b o (λz=>hc (by simp [z])) e⟩) (λ_ _ e=>e) (λ_ _ _ e=>e) (λb ps e=>⟨#[],by rw[e];simp⟩) (λm hm=>?_) (λb u e=>?_) I.bare
 ·have e:b=it:=by simpa using hb
  subst e;exact ⟨h1,hL,h2,h3⟩
 ·obtain ⟨o,es,ep,ho,r⟩:=hm;exact ⟨o,es,ep,k _ o (Ne.symm hL) ho,r⟩
 ·refine (I.hok b u e).stay (λc v hc q=>k c v ?_ q) (λ_ q=>q) λ_ _ q=>q
  rcases hc with z | z
  ·rw[z];exact nit b u e
  ·exact nit c _ z
theorem Inv.tok (I:Inv X pins σ H s) (t:Nat):Inv X pins σ H { s with toks:=t }:=I.un (h':=s.heap) (t':=t) Un.refl I.hok
theorem Inv.kept (I:Inv X pins σ H s) (k:∀b u,s.heap.get? b=some u->h'.get? b=some u):Inv X pins σ H { s with heap:=h',toks:=t' }:=I.un (Un.kept k) (I.hok.kept k)
theorem Inv.laid {a:Addr} (I:Inv X pins σ H s) (k:∀b u,s.heap.get? b=some u->h'.get? b=some u) (hp:s.heap.objs.size<=a) (new:jm X.prog X.w (upd H a o) h' a o) :
  Inv X pins σ (upd H a o) { s with heap:=h',toks:=t' }:=I.un (Un.laid k hp (I.hok.fresh hp)) (I.hok.laid k hp new)
theorem Inv.write (I:Inv X pins σ H s) (mu:Sk (H x)) (he:e=x\/H e=some (.own x)) (k:∀b u,b≠e->s.heap.get? b=some u->h'.get? b=some u) (heo:∃u,h'.get? e=some u)
  (new:jm X.prog X.w (upd H x o) h' x o):Inv X pins σ (upd H x o) { s with heap:=h',toks:=t' }:=I.un (Un.write mu he k heo) (I.hok.write mu he k heo new)
theorem Inv.pins_of (I:Inv X pins σ H s) (h:∀p∈pins',s.heap.get? p.1=some p.2/\H p.1=none/\p.1≠X.env.locals/\p.1∉X.fs/\∀v,p.2.data≠.cell v):Inv X pins' σ H s :=
 ⟨I.ok,I.os,I.bare,I.base,I.loc,I.cell,I.free,I.freeC,λp hp=>(aG.mp hp).elim (λz=>I.pin p (gY _ z)) (h p),I.hok,I.len⟩
theorem Er {N:List Str} (hN:N.Nodup) {i j:Nat} (a:N[i]?=some x) (b:N[j]?=some x):i=j:=by
 obtain ⟨h1,e1⟩:=aJ.mp a;obtain ⟨h2,e2⟩:=aJ.mp b;exact (List.getElem_inj hN).mp (e1.trans e2.symm)
theorem A0 {M:Model} {A:Around} {E:Value->Shared->Prop} {i:Nat} {x:Str} {v:V} {u:Value} {Q:Unit->Shared->Prop} (I:Inv X pins σ H s) (hN:X.N.Nodup) (hi:X.N[i]?=some x) (hx:Loc X.env.scope x) (r:RelV v u)
  (h:∀s',Inv X pins (σ.set i (some v)) H s'->(∃a,Heap.SameBut a s.heap s'.heap/\(a=X.env.locals\/X.env.cells.lookup x=some a))->Q () s') (hf:X.fn x=true\/X.env.scope.names.lookup x=some .local:=by first | exact .inl rfl | exact .inr rfl | assumption):wpAny M A (storeName X.env x u) Q E s:=by
 obtain ⟨m,hn,hl⟩:=id I.loc;have hcls:(X.env.scope.kind == .class || (X.env.scope.kind == .module && X.env.locals != X.env.globals))=false:=by rw[I.ok.kind];rfl
 have hiσ:i < σ.length:=by rw[I.len];exact (aJ.mp hi).1
 have cne:=I.cne
 have tracked:∀{a:Addr} {h':Heap},(∃o,s.heap.get? a=some o/\H a=none)->Heap.SameBut a s.heap h'->ym X.prog X.w H h':=λ{a h'} ha hs b ob e=>by
  obtain ⟨_,_,hfree⟩:=ha;refine (I.hok b ob e).stay (λc w' hc q=>(hs.2 c ?_).trans q) (λ_ q=>q) λ_ _ q=>q
  rintro rfl;rcases hc with rfl | hc
  ·rw[hfree] at e;cases e
  ·rw[hfree] at hc;cases hc
 rcases hx with hk | hk
 ·refine wpAny_storeName_local hk hn (λh' hn' hs=>?_) hcls;obtain ⟨oL,_,_,hoL,_⟩:=id hn;refine h _ ⟨I.ok,I.os,I.bare,⟨λb o e n hb hx=>?_,λb o e n hb hx=>?_,I.base.free,λb o e hx=>?_,I.base.tups,I.base.frzs,I.base.tbls⟩,⟨_,hn',λj y v' e1 e2 e3=>?_⟩,λy c e=>?_,I.free,I.freeC,λp hp=>?_,tracked ⟨oL,hoL,I.free⟩ hs,by simpa using I.len⟩ ⟨_,hs,.inl rfl⟩
  ·exact (hs.2 b (bY (bp (Heap.lt_size e) I.ok.above))).trans (I.base.keep b o e n hb hx)
  ·obtain ⟨sl,e1⟩:=I.base.slot b o e n hb hx;exact ⟨sl,(hs.2 b (bY (bp (Heap.lt_size e) I.ok.above))).trans e1⟩
  ·obtain ⟨o',e1⟩:=I.base.there b o e hx;exact ⟨o',(hs.2 b (bY (bp (Heap.lt_size e) I.ok.above))).trans e1⟩
  ·by_cases hj:j=i
   ·subst hj;rw[hi] at e1;cases e1;rw[List.getElem?_set_self hiσ] at e2;cases e2;exact ⟨u,r,.inl ⟨hk,by simp⟩⟩
   ·rw[List.getElem?_set_ne (Ne.symm hj)] at e2;obtain ⟨u',r',q⟩:=hl j y v' e1 e2 e3;refine ⟨u',r',?_⟩;rcases q with ⟨k,e⟩ | ⟨k,c,e,z⟩
    ·refine .inl ⟨k,?_⟩;have:y≠x:=λe=>hj (Er hN e1 (e ▸ hi))
     simp [this,e]
    ·exact .inr ⟨k,c,e,z.sameBut hs (cne y c e)⟩
  ·obtain ⟨w',z⟩:=I.cell y c e;exact ⟨w',z.sameBut hs (cne y c e)⟩
  ·obtain ⟨e,n,ne,nf,d⟩:=I.pin p hp;exact ⟨(hs.2 p.1 ne).trans e,n,ne,nf,d⟩
 ·have hfn:X.fn x=true:=by
   rcases hf with z | z
   ·exact z
   ·rw[z] at hk;cases hk
  obtain ⟨c,hc⟩:=I.ok.has x (.inl hk);obtain ⟨w',z⟩:=I.cell x c hc;refine wpAny_storeName_cell I.ok.kind hk hc z (λh' hc' hs=>?_);obtain ⟨oc,hoc,hocd⟩:=id z;refine h { s with heap:=h' } ⟨I.ok,I.os,I.bare,⟨λb o e n hb hx=>?_,λb o e n hb hx=>?_,I.base.free,λb o e hx=>?_,I.base.tups,I.base.frzs,I.base.tbls⟩,⟨m,hn.sameBut hs (Ne.symm (cne x c hc)),λj y v' e1 e2 e3=>?_⟩,λy c' e=>?_,I.free,I.freeC,λp hp=>?_,tracked ⟨oc,hoc,I.freeC x c hc⟩ hs,by simpa using I.len⟩ ⟨c,hs,.inr hc⟩
  ·exact (hs.2 b (bY (bp (Heap.lt_size e) (I.ok.cab x c hfn hc)))).trans (I.base.keep b o e n hb hx)
  ·obtain ⟨sl,e1⟩:=I.base.slot b o e n hb hx;exact ⟨sl,(hs.2 b (bY (bp (Heap.lt_size e) (I.ok.cab x c hfn hc)))).trans e1⟩
  ·obtain ⟨o',e1⟩:=I.base.there b o e hx;exact ⟨o',(hs.2 b (bY (bp (Heap.lt_size e) (I.ok.cab x c hfn hc)))).trans e1⟩
  ·by_cases hj:j=i
   ·subst hj;rw[hi] at e1;cases e1;rw[List.getElem?_set_self hiσ] at e2;cases e2;exact ⟨u,r,.inr ⟨.inl hk,c,hc,hc'⟩⟩
   ·rw[List.getElem?_set_ne (Ne.symm hj)] at e2;obtain ⟨u',r',q⟩:=hl j y v' e1 e2 e3;refine ⟨u',r',?_⟩;rcases q with q | ⟨k,c',e,z'⟩
    ·exact .inl q
    ·refine .inr ⟨k,c',e,z'.sameBut hs ?_⟩;rintro rfl;exact hj (Er hN e1 (I.ok.inj _ _ _ e hc ▸ hi))
  ·by_cases hcc:c'=c
   ·subst hcc;exact ⟨_,hc'⟩
   ·obtain ⟨w2,z2⟩:=I.cell y c' e;exact ⟨w2,z2.sameBut hs hcc⟩
  ·obtain ⟨e,n,ne,nf,d⟩:=I.pin p hp;refine ⟨(hs.2 p.1 ?_).trans e,n,ne,nf,d⟩;intro q;rw[q,hoc] at e;have q':oc=p.2:=cg e;exact d w' (by rw[<- q'];exact hocd)
theorem tU {M:Model} {A:Around} {E:Value->Shared->Prop} {i:Nat} {x:Str} {v:V} {u:Value} {Q:Unit->Shared->Prop} (I:Inv X pins σ H s) (hN:X.N.Nodup) (hi:X.N[i]?=some x) (hx:Loc X.env.scope x) (r:RelV v u)
  (h:∀s',Inv X pins (σ.set i (some v)) H s'->Q () s') (hf:X.fn x=true\/X.env.scope.names.lookup x=some .local:=by first | exact .inl rfl | exact .inr rfl | assumption):wpAny M A (storeName X.env x u) Q E s :=
 A0 I hN hi hx r (λs' I' _=>h s' I') hf
theorem Inv.call' (I:Inv X pins σ H s) (ho:s'.os=s.os) (u:Un (J9 X.stack) ch H H' s.heap s'.heap) (hok:ym X.prog X.w H' s'.heap) (hg:AllBare s'.gens)
  (hch:∀b∈ch,(b∈X.ex\/X.s₀.heap.objs.size<=b)/\b≠X.env.locals/\(∀x c,X.env.cells.lookup x=some c->c≠b)/\∀p∈X.pn++pins,p.1≠b):Inv X pins σ H' s':=by
 obtain ⟨h',g',d',t',o'⟩:=s';have e:o'=s.os:=ho;subst e;exact I.call (g':=g') (t':=t') (d':=d') u hok hg hch
end
abbrev XK:=Value->Option Addr->Hp->Prop
abbrev St:=List (Option V)
abbrev VK:=V->Hp->Prop
abbrev TE:=St->Hp->VK->Prop
abbrev TT:=St->Hp->(Bool->Hp->Prop)->Prop
abbrev TA:=St->Hp->(List V->Hp->Prop)->Prop
structure Ends where
 nx:St->Hp->Prop
 rt:VK
 bk:St->Hp->Prop:=λ_ _=>False
 ct:St->Hp->Prop:=λ_ _=>False
abbrev TS:=Ends->St->Hp->Prop
def EP (X:Cx) (pins:List (Addr×Obj)) (σ:St) (Q:VK) (u:Value) (s':Shared):Prop:=∃v H',Inv X pins σ H' s'/\RelV v u/\Q v H'
def TP (X:Cx) (pins:List (Addr×Obj)) (σ:St) (Q:Bool->Hp->Prop) (b:Bool) (s':Shared):Prop:=∃H',Inv X pins σ H' s'/\Q b H'
def AP (X:Cx) (pins:List (Addr×Obj)) (σ:St) (Q:List V->Hp->Prop) (us:List Value) (s':Shared):Prop:=∃vs H',Inv X pins σ H' s'/\cY vs us/\Q vs H'
def SP (X:Cx) (pins:List (Addr×Obj)) (D:Ends) (f:Flow) (s':Shared):Prop :=
 match f with
 | .next=>∃σ' H',Inv X pins σ' H' s'/\D.nx σ' H'
 | .brk=>∃σ' H',Inv X pins σ' H' s'/\D.bk σ' H'
 | .cont=>∃σ' H',Inv X pins σ' H' s'/\D.ct σ' H'
 | .ret u=>∃v σ' H',Inv X pins σ' H' s'/\RelV v u/\D.rt v H'
def PE (X:Cx) (e:Expr) (t:TE):Prop :=
 ∀(pins:List (Addr×Obj)) (s:Shared) (σ:St) (H:Hp) (Q:VK),Inv X pins σ H s->t σ H Q->wpAny (model X.prog X.w) X.A (eval e X.env) (EP X pins σ Q) X.xe s
def PT (X:Cx) (e:Expr) (t:TT):Prop :=
 ∀(pins:List (Addr×Obj)) (s:Shared) (σ:St) (H:Hp) (Q:Bool->Hp->Prop),Inv X pins σ H s->t σ H Q->wpAny (model X.prog X.w) X.A (isTrue e X.env (eval e X.env)) (TP X pins σ Q) X.xe s
def PW (X:Cx) (e:Expr) (t:TT):Prop :=
 ∀(whole:Sem Value) (pins:List (Addr×Obj)) (s:Shared) (σ:St) (H:Hp) (Q:Bool->Hp->Prop),Inv X pins σ H s->t σ H Q->wpAny (model X.prog X.w) X.A (isTrue e X.env whole) (TP X pins σ Q) X.xe s
theorem PW.pt (h:PW X e t):PT X e t:=h _
def PA (X:Cx) (es:List Expr) (t:TA):Prop :=
 ∀(pos:Pos) (pins:List (Addr×Obj)) (s:Shared) (σ:St) (H:Hp) (Q:List V->Hp->Prop),Inv X pins σ H s->t σ H Q->wpAny (model X.prog X.w) X.A (spliced (backTo pos (starEach es X.env))) (AP X pins σ Q) X.xe s
def PS (X:Cx) (st:Stmt) (t:TS):Prop :=
 ∀(pins:List (Addr×Obj)) (s:Shared) (σ:St) (H:Hp) (D:Ends),Inv X pins σ H s->t D σ H->wpAny (model X.prog X.w) X.A (exec st X.env) (SP X pins D) X.xe s
def Gz (X:Cx) (st:List Stmt) (t:TS):Prop :=
 ∀(pins:List (Addr×Obj)) (s:Shared) (σ:St) (H:Hp) (D:Ends),Inv X pins σ H s->t D σ H->wpAny (model X.prog X.w) X.A (execs st X.env) (SP X pins D) X.xe s
theorem gK {t:Sem α} {Q Q':α->Shared->Prop} (h:wpAny M A t Q E s) (hQ:∀a s,Q a s->Q' a s):wpAny M A t Q' E s:=wpAny_mono h hQ λ_ _ x=>x
section
variable {X:Cx}
def O0 (i:Nat):TE:=λσ H Q=>∃v,σ[i]?=some (some v)/\Q v H
def tC (v:V):TE:=λ_ H Q=>Q v H
theorem PM {i:Nat} {x:Str} {pos:Pos} (hN:X.N[i]?=some x) (hv:SJ X.env.scope x) (hd:(x == ("__debug__":Str))=false:=by decide) (hcd:(x == ("__classdict__":Str))=false:=by decide):PE X (.Name x pos) (O0 i):=by
 intro pins s σ H Q I h;obtain ⟨v,e,h⟩:=h;obtain ⟨m,hn,hl⟩:=I.loc;obtain ⟨u,r,l⟩:=hl i x v hN e hv;have fin:EP X pins σ Q u s:=⟨v,H,I,r,h⟩;rcases l with ⟨hk,hm⟩ | ⟨hk,c,hc,hcell⟩
 ·exact wpAny_Name (wpAny_loadName_local I.ok.kind hk hn hm fin) hd
 ·rcases hk with hk | hk
  ·exact wpAny_Name (wpAny_loadName_cell I.ok.kind hk hc hcell fin) hd
  ·exact wpAny_Name (wpAny_loadName_free I.ok.kind hk hc hcell fin hcd) hd
theorem ak:PE X (.Constant (.int i) j pos) (tC (.int i)):=λ_ _ _ H _ I h=>wpAny_Constant_int ⟨.int i,H,I.tok _,⟨_,rfl⟩,h⟩
theorem y9:PE X (.Constant (.bool b) j pos) (tC (.bl b)):=λ_ _ _ H _ I h=>Constant_bool ⟨.bl b,H,I,rfl,h⟩
theorem CH:PE X (.Constant .none j pos) (tC .non):=λ_ _ _ H _ I h=>Constant_none ⟨.non,H,I,rfl,h⟩
theorem kE:PE X (.Constant (.str x) j pos) (tC (.str x)):=λ_ _ _ H _ I h=>Calls.Constant_str ⟨.str x,H,I.tok _,⟨_,rfl⟩,h⟩
def Gl (X:Cx) (x:Str):Prop:=X.env.kindOf x=some .globalImplicit
theorem CZ {E:Value->Shared->Prop} {pins:List (Addr×Obj)} {s:Shared} {σ:St} {H:Hp} {x:Str} {u:Value} {pos:Pos} {Q:Value->Shared->Prop} (I:Inv X pins σ H s) (hg:Gl X x) (hm:X.mg x=some u) (h:Q u s)
  (hd:(x == ("__debug__":Str))=false:=by decide):wpAny (model X.prog X.w) X.A (eval (.Name x pos) X.env) Q E s :=
 Calls.Name_function_global I.ok.kind hg (Calls.loadGlobal_global (by rw[I.ok.glob];exact I.mod.glob.keeps I.bk) hm h) hd
theorem jE {E:Value->Shared->Prop} {pins:List (Addr×Obj)} {s:Shared} {σ:St} {H:Hp} {x:Str} {u:Value} {pos:Pos} {Q:Value->Shared->Prop} (I:Inv X pins σ H s) (hg:Gl X x) (hm:X.mg x=none) (hv:bootBuiltins x=some u) (h:Q u s)
  (hn:x≠"__name__":=by decide) (hd:(x == ("__debug__":Str))=false:=by decide):wpAny (model X.prog X.w) X.A (eval (.Name x pos) X.env) Q E s:=by
 obtain ⟨mb,h1,h2⟩:=I.mod.blt;exact Calls.Name_function_global I.ok.kind hg (Calls.loadGlobal_builtin (by rw[I.ok.glob];exact I.mod.glob.keeps I.bk) hm (by rw[I.ok.blt];exact h1.keeps I.bk) ((h2 x hn).trans hv) h) hd
theorem uf {x:Str} {v:V} {u:Value} {pos:Pos} (hg:Gl X x) (hm:X.mg x=some u) (r:RelV v u) (hd:(x == ("__debug__":Str))=false:=by decide):PE X (.Name x pos) (tC v) :=
 λ_ _ _ H _ I h=>CZ I hg hm ⟨v,H,I,r,h⟩ hd
theorem HX {x:Str} {v:V} {u:Value} {pos:Pos} (hg:Gl X x) (hm:X.mg x=none) (hv:bootBuiltins x=some u) (r:RelV v u) (hn:x≠"__name__":=by decide) (hd:(x == ("__debug__":Str))=false:=by decide):PE X (.Name x pos) (tC v) :=
 λ_ _ _ H _ I h=>jE I hg hm hv ⟨v,H,I,r,h⟩ hn hd
variable {a b:Expr} {ta tb:TE} {pos:Pos}
def tB (t:TE):TT:=λσ H Q=>t σ H λx H1=>∃c,x=.bl c/\Q c H1
theorem ox {e:Expr} {t:TE} (h:PE X e t) (he:∀whole,isTrue e X.env whole=(do let v <- whole;standAt e.pos;holding [v] (truthy v)):=by intro _;rfl):PT X e (tB t):=by
 intro pins s σ H Q I hw;refine isTrue_plain (gK (h pins s σ H _ I hw) λv s1 ⟨x,H1,I1,r1,q1⟩=>?_) (he _);obtain ⟨d,rfl,q⟩:=q1;cases r1;exact wpAny_truthy_bool ⟨H1,I1,q⟩
variable {tA tB':TT} {rest:List Expr}
def Q2 (t u:TT):TT:=λσ H Q=>t σ H λc H1=>if c=true then u σ H1 Q else Q false H1
def tOr (t u:TT):TT:=λσ H Q=>t σ H λc H1=>if c=true then Q true H1 else u σ H1 Q
def QY (t:TT):TT:=λσ H Q=>t σ H λc H1=>Q (!c) H1
theorem kO (ha:PT X a tA):PW X (.BoolOp .And [a] pos) tA:=by
 intro wh pins s σ H Q I h;refine isTrue_and (gK (ha pins s σ H Q I h) λc s1 e=>?_);cases c with
 | true=>exact isTrue_and_nil e
 | false=>exact e
theorem mV (ha:PT X a tA):PW X (.BoolOp .Or [a] pos) tA:=by
 intro wh pins s σ H Q I h;refine isTrue_or (gK (ha pins s σ H Q I h) λc s1 e=>?_);cases c with
 | false=>exact isTrue_or_nil e
 | true=>exact e
theorem jS (ha:PT X a tA) (hb:PW X (.BoolOp .And (b :: rest) pos) tB'):PW X (.BoolOp .And (a :: b :: rest) pos) (Q2 tA tB'):=by
 intro wh pins s σ H Q I h;refine isTrue_and (gK (ha pins s σ H _ I h) λc s1 ⟨H1,I1,q1⟩=>?_);cases c with
 | true=>exact hb wh pins s1 σ H1 Q I1 q1
 | false=>exact ⟨H1,I1,q1⟩
theorem qi (ha:PT X a tA) (hb:PW X (.BoolOp .Or (b :: rest) pos) tB'):PW X (.BoolOp .Or (a :: b :: rest) pos) (tOr tA tB'):=by
 intro wh pins s σ H Q I h;refine isTrue_or (gK (ha pins s σ H _ I h) λc s1 ⟨H1,I1,q1⟩=>?_);cases c with
 | true=>exact ⟨H1,I1,q1⟩
 | false=>exact hb wh pins s1 σ H1 Q I1 q1
theorem oy (ha:PT X a tA):PT X (.UnaryOp .Not a pos) (QY tA):=by
 intro pins s σ H Q I h;exact isTrue_not (ha pins s σ H (λc H1=>Q (!c) H1) I h)
def Ox (ta tb:TE):TE:=λσ H Q=>ta σ H λx H1=>∃c,x=.bl c/\if c=true then tb σ H1 Q else Q (.bl false) H1
def Oo (ta:TE):TE:=λσ H Q=>ta σ H λx H1=>∃c,x=.bl c/\Q (.bl (!c)) H1
theorem K9 (h:PE X a t):PE X (.BoolOp op [a] pos) t:=λpins s σ H Q I hw=>BoolOp_one (h pins s σ H Q I hw)
theorem Lc (ha:PE X a ta) (hb:PE X (.BoolOp .And (b :: rest) pos) tb):PE X (.BoolOp .And (a :: b :: rest) pos) (Ox ta tb):=by
 intro pins s σ H Q I h;refine BoolOp_and (gK (ha pins s σ H _ I h) λv s1 ⟨x,H1,I1,r1,q1⟩=>?_);obtain ⟨c,rfl,q1⟩:=q1;cases r1;refine wpAny_truthy_bool ?_;cases c with
 | true=>exact hb pins s1 σ H1 Q I1 q1
 | false=>exact ⟨.bl false,H1,I1,rfl,q1⟩
theorem PN (ha:PE X a ta):PE X (.UnaryOp .Not a pos) (Oo ta):=by
 intro pins s σ H Q I h;refine UnaryOp_ (gK (ha pins s σ H _ I h) λv s1 ⟨x,H1,I1,r1,q1⟩=>?_);obtain ⟨c,rfl,q1⟩:=q1;cases r1;exact not_of (wpAny_truthy_bool ⟨.bl (!c),H1,I1,rfl,q1⟩)
def tIf (t:TT) (ta tb:TE):TE:=λσ H Q=>t σ H λc H1=>if c=true then ta σ H1 Q else tb σ H1 Q
theorem La (hc:PT X c tA) (ha:PE X a ta) (hb:PE X b tb):PE X (.IfExp c a b pos) (tIf tA ta tb):=by
 intro pins s σ H Q I h;refine wpAny_IfExp (gK (hc pins s σ H _ I h) λd s1 ⟨H1,I1,q1⟩=>?_);cases d with
 | true=>exact ha pins s1 σ H1 Q I1 q1
 | false=>exact hb pins s1 σ H1 Q I1 q1
end
def bO (K:FG9) (H:Hp) (a:Addr) (xs:List V):Prop :=
 Rd H a (.lst xs) \/
  ∃(o:Obj) (its:Array Value) (n:Nat),K.lookup a=some o/\o.cls=.type "list"/\o.dict=none/\o.data=.seq its n/\its.size<=sizeLine/\cY xs its.toList
def sI (K:FG9) (H:Hp) (a:Addr) (xs:List V):Prop :=
 Rd H a (.tup xs) \/
  ∃(o:Obj) (its:Array Value) (n:Nat),K.lookup a=some o/\o.cls=.type "tuple"/\o.data=.seq its n/\its.size<=sizeLine/\cY xs its.toList
def SI:Value->Option V
 | .none=>some .non
 | .bool b=>some (.bl b)
 | .int i _=>some (.int i)
 | .str x _=>some (.str x)
 | .bytes b _=>some (.byt b)
 | .float b _=>some (.flt b)
 | .ref a=>some (.ref a)
 | .type n=>some (.ty n)
 | _=>none
theorem RelV.abs (r:RelV x u):SI u=some x:=by
 cases x with
 | non=>cases r;rfl
 | bl _=>cases r;rfl
 | int _=>obtain ⟨t,rfl⟩:=r;rfl
 | str _=>obtain ⟨t,rfl⟩:=r;rfl
 | byt _=>obtain ⟨t,rfl⟩:=r;rfl
 | flt _=>obtain ⟨t,rfl⟩:=r;rfl
 | ref _=>cases r;rfl
 | ty _=>cases r;rfl
theorem RelV.inj (r:RelV x u) (q:RelV y u):x=y:=cg (r.abs.symm.trans q.abs)
theorem cY.inj:∀{xs ys:List V} {us:List Value},cY xs us->cY ys us->xs=ys
 | _,_,_,.nil,.nil=>rfl
 | _,_,_,.cons r t,.cons r' t'=>by rw[r.inj r',cY.inj t t']
section
variable {X:Cx} {pins:List (Addr×Obj)} {σ:St} {H:Hp} {s:Shared} {a:Addr} {xs ys:List V}
theorem bO.of {K:FG9} (h:H a=some (.lst xs)):bO K H a xs:=.inl (.inl h)
theorem sI.of {K:FG9} (h:H a=some (.tup xs)):sI K H a xs:=.inl (.inl h)
theorem Inv.list (I:Inv X pins σ H s) (h:bO X.K H a xs):∃its:List Value,cY xs its/\PlainL s.heap a its.toArray/\xs.length<=sizeLine:=by
 rcases h with h | ⟨o,its,n,hk,hc,hd,hs,hz,r⟩
 ·obtain ⟨z,its,n,r,e⟩:=h.ok I.hok;exact ⟨its,r,⟨_,n,e,rfl,rfl,rfl⟩,z⟩
 ·refine ⟨its.toList,r,⟨o,n,I.kIn a o hk,hc,hd,by simpa using hs⟩,?_⟩;have e:=r.length;simp only[Array.length_toList] at e
  lia
theorem Inv.tuple (I:Inv X pins σ H s) (h:sI X.K H a xs):∃its:List Value,cY xs its/\IsTup s.heap a its.toArray/\xs.length<=sizeLine:=by
 rcases h with h | ⟨o,its,n,hk,hc,hs,hz,r⟩
 ·obtain ⟨z,its,r,p⟩:=h.ok I.hok;exact ⟨its,r,p,z⟩
 ·refine ⟨its.toList,r,⟨o,I.kIn a o hk,hc,n,by simpa using hs⟩,?_⟩;have e:=r.length;simp only[Array.length_toList] at e
  lia
theorem Inv.list_inj (I:Inv X pins σ H s) (h:bO X.K H a xs) (h':bO X.K H a ys):xs=ys:=by
 obtain ⟨its,r,⟨o,n,e,_,_,d⟩,_⟩:=I.list h;obtain ⟨its',r',⟨o',n',e',_,_,d'⟩,_⟩:=I.list h';rw[e] at e';cases e';rw[d] at d';injection d' with d1 _
 have:its=its':=by simpa using congrArg Array.toList d1
 subst this;exact r.inj r'
theorem Inv.tuple_inj (I:Inv X pins σ H s) (h:sI X.K H a xs) (h':sI X.K H a ys):xs=ys:=by
 obtain ⟨its,r,⟨o,e,_,n,d⟩,_⟩:=I.tuple h;obtain ⟨its',r',⟨o',e',_,n',d'⟩,_⟩:=I.tuple h';rw[e] at e';cases e';rw[d] at d';injection d' with d1 _
 have:its=its':=by simpa using congrArg Array.toList d1
 subst this;exact r.inj r'
end
abbrev Cx.wish (X:Cx) (E:Value->Shared->Prop):Cx:={ X with xe:=E }
abbrev Cx.nox (X:Cx):Cx:=X.wish λ_ _=>False
theorem Cx.Ok.wish {X:Cx} (ok:X.Ok) (E:Value->Shared->Prop):(X.wish E).Ok :=
 ⟨ok.mod,ok.kind,ok.glob,ok.blt,ok.above,ok.inj,ok.has,ok.cab,ok.hd,ok.frames,ok.stk,ok.exf,ok.bs,ok.bsz,ok.noex,ok.exfs,ok.funs,ok.frf⟩
theorem Cx.Ok.unwish {X:Cx} (ok:(X.wish E).Ok):X.Ok :=
 ⟨ok.mod,ok.kind,ok.glob,ok.blt,ok.above,ok.inj,ok.has,ok.cab,ok.hd,ok.frames,ok.stk,ok.exf,ok.bs,ok.bsz,ok.noex,ok.exfs,ok.funs,ok.frf⟩
section
variable {X:Cx} {pins:List (Addr×Obj)} {σ:St} {H:Hp} {s:Shared} {E:Value->Shared->Prop}
theorem Inv.wish (I:Inv X pins σ H s) (E:Value->Shared->Prop):Inv (X.wish E) pins σ H s:=⟨I.ok.wish E,I.os,I.bare,I.base,I.loc,I.cell,I.free,I.freeC,I.pin,I.hok,I.len⟩
theorem Inv.unwish (I:Inv (X.wish E) pins σ H s):Inv X pins σ H s:=⟨I.ok.unwish,I.os,I.bare,I.base,I.loc,I.cell,I.free,I.freeC,I.pin,I.hok,I.len⟩
theorem SP.unwish (h:SP (X.wish E) pins D f s'):SP X pins D f s':=by
 cases f with
 | next=>obtain ⟨σ',H',I,q⟩:=h;exact ⟨σ',H',I.unwish,q⟩
 | brk=>obtain ⟨σ',H',I,q⟩:=h;exact ⟨σ',H',I.unwish,q⟩
 | cont=>obtain ⟨σ',H',I,q⟩:=h;exact ⟨σ',H',I.unwish,q⟩
 | ret u=>obtain ⟨v,σ',H',I,r,q⟩:=h;exact ⟨v,σ',H',I.unwish,r,q⟩
theorem Gz.nox {st:List Stmt} (h:Gz X.nox st t):Gz X st t:=λpins s σ H D I hw =>
 wpAny_mono (h pins s σ H D (I.wish _) hw) (λ_ _ q=>q.unwish) λ_ _ z=>False.elim z
end
section
variable {X:Cx} {st:Stmt} {rest:List Stmt} {t u:TS} {e:Expr} {te:TE} {pos:Pos}
def Oq:TS:=λD σ H=>D.nx σ H
def QU (t u:TS):TS:=λD σ H=>t { D with nx:=u D } σ H
theorem cp:Gz X [] Oq:=λ_ _ σ H _ I h=>wpAny_execs_nil ⟨σ,H,I,h⟩
theorem au (h1:PS X st t) (h2:Gz X rest u):Gz X (st :: rest) (QU t u):=by
 intro pins s σ H D I h;refine wpAny_execs_cons (gK (h1 pins s σ H { D with nx:=u D } I h) λf s1 q=>?_);cases f with
 | next =>
  obtain ⟨σ',H',I',q⟩:=q;exact h2 pins s1 σ' H' D I' q
 | ret v=>exact q
 | brk=>exact q
 | cont=>exact q
theorem aF (h1:PS X st t):Gz X [st] t:=by
 intro pins s σ H D I h;refine wpAny_execs_cons (gK (h1 pins s σ H D I h) λf s1 q=>?_);cases f with
 | next=>exact wpAny_execs_nil q
 | ret v=>exact q
 | brk=>exact q
 | cont=>exact q
theorem Inv.quiet {σ:St} (I:Inv X pins σ H s):interactive X.env=false:=by simp [interactive,I.ok.kind]
def Ov (te:TE):TS:=λD σ H=>te σ H λ_ H1=>D.nx σ H1
theorem iX (he:PE X e te) (hs:swapsWith e none pos.line X.env=pure false:=by rfl):PS X (.Expr e pos) (Ov te):=by
 intro pins s σ H D I h;exact wpAny_Expr_any (gK (he pins s σ H _ I h) λv s1 ⟨x,H1,I1,r1,q1⟩=>⟨σ,H1,I1,q1⟩) I.quiet hs
def QV (te:TE):TS:=λD σ H=>te σ H D.rt
theorem a8 (he:PE X e te):PS X (.Return (some e) pos) (QV te):=by
 intro pins s σ H D I h;exact wpAny_Return_some (gK (he pins s σ H _ I h) λv s1 ⟨x,H1,I1,r1,q1⟩=>⟨x,σ,H1,I1,r1,q1⟩)
def Q0 (c:TT) (t u:TS):TS:=λD σ H=>c σ H λb H1=>if b=true then t D σ H1 else u D σ H1
theorem di (hc:PT X c tc) (ha:Gz X a t) (hb:Gz X b u):PS X (.If c a b pos) (Q0 tc t u):=by
 intro pins s σ H D I h;refine wpAny_If (gK (hc pins s σ H _ I h) λd s1 ⟨H1,I1,q1⟩=>?_);cases d with
 | true=>exact ha pins s1 σ H1 D I1 q1
 | false=>exact hb pins s1 σ H1 D I1 q1
end
abbrev TG:=V->St->Hp->(St->Hp->Prop)->Prop
abbrev Mx:=List V->St->Hp->(St->Hp->Prop)->Prop
def PG (X:Cx) (target:Expr) (t:TG):Prop :=
 ∀(pins:List (Addr×Obj)) (s:Shared) (σ:St) (H:Hp) (v:V) (u:Value) (Q:St->Hp->Prop),Inv X pins σ H s->RelV v u->t v σ H Q →
  wpAny (model X.prog X.w) X.A (assign target X.env u) (λ_ s'=>∃σ' H',Inv X pins σ' H' s'/\Q σ' H') X.xe s
def RS (X:Cx) (ts:List Expr) (t:Mx):Prop :=
 ∀(pins:List (Addr×Obj)) (s:Shared) (σ:St) (H:Hp) (vs:List V) (us:List Value) (Q:St->Hp->Prop),Inv X pins σ H s->cY vs us->t vs σ H Q →
  wpAny (model X.prog X.w) X.A (assignInOrder ((assignEach ts X.env).map (·.2)) us) (λ_ s'=>∃σ' H',Inv X pins σ' H' s'/\Q σ' H') X.xe s
abbrev Gv:=V->V->V->Hp->(Hp->Prop)->Prop
def Qu (X:Cx) (t:Gv):Prop :=
 ∀(pins:List (Addr×Obj)) (s:Shared) (σ:St) (H:Hp) (o i v:V) (ov iv u:Value) (Q:Hp->Prop),Inv X pins σ H s->RelV o ov->RelV i iv->RelV v u->t o i v H Q →
  wpAny (model X.prog X.w) X.A (setItem ov iv u) (λ_ s'=>∃H',Inv X pins σ H' s'/\Q H') X.xe s
abbrev RQ:=V->V->Hp->VK->Prop
def PIp (X:Cx) (op:Operator) (t:RQ):Prop :=
 ∀(pins:List (Addr×Obj)) (s:Shared) (σ:St) (H:Hp) (x y:V) (v u:Value) (Q:VK),Inv X pins σ H s->RelV x v->RelV y u->t x y H Q →
  wpAny (model X.prog X.w) X.A (inplaceOp op v u) (EP X pins σ Q) X.xe s
section
variable {X:Cx} {pos:Pos}
def Ip (i:Nat):TG:=λv σ H Q=>Q (σ.set i (some v)) H
theorem aS {i:Nat} {x:Str} (hN:X.N.Nodup) (hi:X.N[i]?=some x:=by exact rfl) (hx:Loc X.env.scope x:=by exact Or.inl rfl) (hf:X.fn x=true\/X.env.scope.names.lookup x=some .local:=by first | exact .inl rfl | exact .inr rfl | assumption):PG X (.Name x pos) (Ip i):=by
 intro pins s σ H v u Q I r h;exact wpAny_assign_Name (tU I hN hi hx r (λs' I'=>⟨_,H,I',h⟩) hf)
def RL:Mx:=λvs σ H Q=>vs=[]/\Q σ H
def OK (t:TG) (u:Mx):Mx:=λvs σ H Q=>∃v r,vs=v :: r/\t v σ H λσ' H'=>u r σ' H' Q
theorem gW:RS X [] RL:=by
 intro pins s σ H vs us Q I r h;obtain ⟨e,h⟩:=h;subst e;cases r;exact assignInOrder_nil ⟨σ,H,I,h⟩
theorem cE {e:Expr} {es:List Expr} {t:TG} {u:Mx} (h1:PG X e t) (h2:RS X es u)
  (hs:(assignEach (e :: es) X.env).map (·.2)=assign e X.env :: (assignEach es X.env).map (·.2):=by rfl):RS X (e :: es) (OK t u):=by
 intro pins s σ H vs us Q I r h;obtain ⟨v,vr,e1,h⟩:=h;subst e1;cases r with
 | cons r rr =>
  rw[hs];refine assignInOrder_cons (gK (h1 pins s σ H _ _ _ I r h) λ_ s1 ⟨σ1,H1,I1,q1⟩=>?_);exact h2 pins s1 σ1 H1 _ _ Q I1 rr q1
def Qi (K:FG9) (n:Nat) (t:Mx):TG:=λv σ H Q=>∃a xs,v=.ref a/\sI K H a xs/\xs.length=n/\t xs σ H Q
theorem td {es:List Expr} {k:Nat} {t:Mx} {n:Nat} (hc:X.calm=true) (h:RS X es t)
  (hn:(assignEach es X.env).length=n:=by rfl) (hst:(assignEach es X.env).findIdx? (·.1)=none:=by rfl):PG X (.Tuple es k pos) (Qi X.K n t):=by
 intro pins s σ H v u Q I r hw;obtain ⟨a,xs,e1,hq,hl,hw⟩:=hw;subst e1;cases r;obtain ⟨its,rv,ht,hz⟩:=I.tuple hq;refine assign_Tuple_tuple (I.ok.hd hc) ht (by simp [hn,<- hl,rv.length]) hst λh' hx=>?_
 have I1:Inv X pins σ H { s with heap:=h' }:=I.kept (t':=s.toks) λb o e=>hx b o (bY (Heap.lt_size e)) e
 exact h pins _ σ H xs _ Q I1 (by simpa using rv) hw
def RK (to ti:TE) (t:Gv):TG:=λv σ H Q=>to σ H λo H1=>ti σ H1 λi H2=>t o i v H2 λH3=>Q σ H3
theorem ig {o i : Expr} {to ti : TE} {t : Gv} (ho : PE X o to) (hi : PE X i ti) (hs : Qu X t)
    (ha : ∀ v, assign (.Subscript o i pos) X.env v = (do
      let ov <- holding [v] (eval o X.env)
      let iv <- holding [v, ov] (eval i X.env)
      standAt pos
      holding [v, ov, iv] (setItem ov iv v)
      release [v, ov, iv] []) := by intro _; rfl) : PG X (.Subscript o i pos) (RK to ti t) := by
  intro pins s σ H v u Q I r h;rw [ha];refine wpAny_bind (wpAny_holding (gK (ho pins s σ H _ I h) λov s1 ⟨x, H1, I1, r1, q1⟩ => ?_));refine wpAny_bind (wpAny_holding (gK (hi pins s1 σ H1 _ I1 q1) λiv s2 ⟨y, H2, I2, r2, q2⟩ => ?_));refine wpAny_bind (wpAny_standAt (wpAny_bind (wpAny_holding (gK (hs pins s2 σ H2 x y v ov iv u _ I2 r1 r2 r q2) λ_ s3 ⟨H3, I3, q3⟩ => ?_))));exact wpAny_release ⟨σ, H3, I3, q3⟩
def MJ (te:TE) (g:TG):TS:=λD σ H=>te σ H λx H1=>g x σ H1 D.nx
theorem fF {tg e:Expr} {te:TE} {g:TG} (he:PE X e te) (hg:PG X tg g) (hs:swapsWithSole [tg] e pos.line X.env=pure false:=by rfl) (hw:swappedStores [tg] e X.env=pure none:=by rfl)
  (h1:(assignEach [tg] X.env).map (·.2)=[assign tg X.env]:=by rfl):PS X (.Assign [tg] e pos) (MJ te g):=by
 intro pins s σ H D I h;refine wpAny_Assign_stores (gK (he pins s σ H _ I h) λv s1 ⟨x,H1,I1,r1,q1⟩=>?_) hs hw;rw[h1];exact gK (hg pins s1 σ H1 x v _ I1 r1 q1) λ_ s2 q=>q
theorem aZ {i:Nat} {x:Str} {e:Expr} {te:TE} {pos':Pos} (hN:X.N.Nodup) (hi:X.N[i]?=some x) (hx:Loc X.env.scope x) (he:PE X e te) (hs:swapsWith e (some (.Name x pos')) pos.line X.env=pure false:=by rfl) (hf:X.fn x=true\/X.env.scope.names.lookup x=some .local:=by first | exact .inl rfl | exact .inr rfl | assumption) :
  PS X (.Assign [.Name x pos'] e pos) (MJ te (Ip i)):=by
 intro pins s σ H D I h;refine wpAny_Assign_Name (gK (he pins s σ H _ I h) λv s1 ⟨y,H1,I1,r1,q1⟩=>?_) hs;exact tU I1 hN hi hx r1 (λs2 I2=>⟨_,H1,I2,q1⟩) hf
def QW (i j:Nat) (ta:TA):TS:=λD σ H=>ta σ H λvs H1=>∃v w,vs=[v,w]/\D.nx ((σ.set i (some v)).set j (some w)) H1
theorem K6 {i j:Nat} {x y:Str} {a b:Expr} {ta:TA} {px py pt:Pos} {kt k2 pt2} (hc:X.calm=true) (hN:X.N.Nodup) (hi:X.N[i]?=some x) (hj:X.N[j]?=some y) (hij:i≠j)
  (hx:X.env.scope.names.lookup x=some .local) (hy:X.env.scope.names.lookup y=some .local) (ha:PA X [a,b] ta)
  (hw:swappedStores [.Tuple [.Name x px,.Name y py] kt pt] (.Tuple [a,b] k2 pt2) X.env=pure (some [x,y]))
  (hs:swapsWithSole [.Tuple [.Name x px,.Name y py] kt pt] (.Tuple [a,b] k2 pt2) pos.line X.env=pure false:=by rfl) :
  PS X (.Assign [.Tuple [.Name x px,.Name y py] kt pt] (.Tuple [a,b] k2 pt2) pos) (QW i j ta):=by
 intro pins s σ H D I h;rw[exec_Assign_arm];refine wpAny_bind (wpAny_standAt ?_);rw[hs];refine wpAny_bind (wpAny_pure ?_);rw[if_neg (by decide)];refine wpAny_bind (Tuple_ (gK (ha _ pins s σ H _ I h) λus s1 ⟨vs,H1,I1,r1,q1⟩=>?_));obtain ⟨v,w,e1,q1⟩:=q1;subst e1
 obtain ⟨u1,u2,rfl,rv,rw'⟩:∃u1 u2,us=[u1,u2]/\RelV v u1/\RelV w u2:=by
  cases r1 with
  | cons p q =>
   cases q with
   | cons p' q' =>
    cases q';exact ⟨_,_,rfl,p,p'⟩
 refine wpAny_newObj_type ?_ (by show 2<=sizeLine;decide);have I2:Inv X pins σ H1 { s1 with heap:=s1.heap.push { cls:=.type "tuple",data:=.seq [u1,u2].toArray } }:=I1.kept (t':=s1.toks) λb o e=>Heap.get?_push_of_some _ e
 rw[hw];refine wpAny_bind (wpAny_pure ?_);show wpAny (model X.prog X.w) X.A (do rule "assign.swapped-stores";let items <- unpackItems (.ref s1.heap.objs.size) 2 none;assignInOrder [λv=>bindName X.env y v,λv=>bindName X.env x v] items.reverse;pure Flow.next) _ _ _
 refine wpAny_bind (wpAny_rule (wpAny_bind (unpackItems_tuple (items:=#[u1,u2]) (I.ok.hd hc) (IsTup.new s1.heap _) λh' hx'=>?_)));have I3:=I2.kept (h':=h') (t':=s1.toks) λb o e=>hx' b o (bY (Heap.lt_size e)) e
 show wpAny _ _ (assignInOrder [λv=>bindName X.env y v,λv=>bindName X.env x v] [u2,u1] >>= λ_=>pure Flow.next) _ _ _
 refine wpAny_bind (assignInOrder_cons (wpAny_bindName (tU I3 hN hj (.inl hy) rw' (λs2 I4=>?_) (.inr hy))));refine assignInOrder_cons (wpAny_bindName (tU I4 hN hi (.inl hx) rv (λs3 I5=>assignInOrder_nil (wpAny_pure ?_)) (.inr hx)));rw[List.set_comm _ _ (Ne.symm hij)] at I5;exact ⟨_,H1,I5,q1⟩
def Ow (to ti te:TE) (tget:V->V->Hp->VK->Prop) (tip:RQ) (tset:Gv):TS:=λD σ H=>to σ H λo H1=>ti σ H1 λi H2=>tget o i H2 λx H3=>te σ H3 λy H4=>tip x y H4 λz H5=>tset o i z H5 λH6=>D.nx σ H6
def RT (X:Cx) (t:V->V->Hp->VK->Prop):Prop :=
 ∀(pins:List (Addr×Obj)) (s:Shared) (σ:St) (H:Hp) (o i:V) (ov iv:Value) (Q:VK),Inv X pins σ H s->RelV o ov->RelV i iv->t o i H Q →
  wpAny (model X.prog X.w) X.A (getItem ov iv) (EP X pins σ Q) X.xe s
theorem Nz {o i e:Expr} {to ti te:TE} {tget:V->V->Hp->VK->Prop} {tip:RQ} {tset:Gv} {op:Operator} {tpos:Pos} (ho:PE X o to) (hi:PE X i ti) (hg:RT X tget) (he:PE X e te) (hp:PIp X op tip) (hs:Qu X tset)
  (ha:∀ov iv new,augStore i ov iv new=(do holding [new,ov,iv] (setItem ov iv new);release [new,ov,iv] [];pure .next):=by intros;rfl):PS X (.AugAssign (.Subscript o i tpos) op e pos) (Ow to ti te tget tip tset):=by
 intro pins s σ H D I h;refine wpAny_AugAssign_SubscriptAny (gK (ho pins s σ H _ I h) λov s1 ⟨x1,H1,I1,r1,q1⟩=>?_) ha;refine gK (hi pins s1 σ H1 _ I1 q1) λiv s2 ⟨x2,H2,I2,r2,q2⟩=>?_
 refine gK (hg pins s2 σ H2 x1 x2 ov iv _ I2 r1 r2 q2) λold s3 ⟨x3,H3,I3,r3,q3⟩=>?_
 refine gK (he pins s3 σ H3 _ I3 q3) λv s4 ⟨x4,H4,I4,r4,q4⟩=>?_
 refine gK (hp pins s4 σ H4 x3 x4 old v _ I4 r3 r4 q4) λnew s5 ⟨x5,H5,I5,r5,q5⟩=>?_
 exact gK (hs pins s5 σ H5 x1 x2 x5 ov iv new _ I5 r1 r2 r5 q5) λ_ s6 ⟨H6,I6,q6⟩=>⟨σ,H6,I6,q6⟩
def ipI (f:Int->Int->Int):RQ:=λx y H Q=>∃i j,x=.int i/\y=.int j/\Q (.int (f i j)) H
theorem Qd:PIp X .Add (ipI λi j=>i+j):=by
 intro pins s σ H x y v u Q I r1 r2 h;obtain ⟨i,j,e1,e2,q⟩:=h;subst e1;subst e2;obtain ⟨t,rfl⟩:=r1;obtain ⟨t',rfl⟩:=r2;exact iadd_int ⟨.int _,H,I.tok _,⟨_,rfl⟩,q⟩
end
section
variable {X:Cx} {pos:Pos}
def Kr (c:TT) (tb:TS):TS:=λD σ H=>∃W:Nat->St->Hp->Prop,(∃m,W m σ H)/\∀m σ H,W m σ H →
 c σ H λb H1=>if b=true then ∃N:St->Hp->Prop,(∀σ' H',N σ' H'->∃m',m' < m/\W m' σ' H')/\tb { D with nx:=N,ct:=N,bk:=D.nx } σ H1 else D.nx σ H1
theorem yW (hp:PassesOwn (model X.prog X.w) X.A X.env X.xe) (hc:PT X c tc) (hb:Gz X body tb):PS X (.While c body [] pos) (Kr tc tb):=by
 intro pins s σ H D I h;obtain ⟨W,⟨m0,w0⟩,turn⟩:=h;refine wpAny_While (codeAny_whileLoop (λn s'=>∃σ' H',Inv X pins σ' H' s'/\W n σ' H') ?_ m0 ⟨σ,H,I,w0⟩);rintro n s1 ⟨σ1,H1,I1,w1⟩;refine wpAny_passesOwn hp (gK (hc pins s1 σ1 H1 _ I1 (turn n σ1 H1 w1)) λb s2 ⟨H2,I2,q2⟩=>?_);cases b with
 | true =>
  obtain ⟨N,hN,q2⟩:=q2;rw[if_pos rfl];refine wpAny_passesOwn hp (gK (hb pins s2 σ1 H2 _ I2 q2) λf s3 q3=>?_);cases f with
  | next =>
   obtain ⟨σ3,H3,I3,n3⟩:=q3;obtain ⟨m',hm,w3⟩:=hN σ3 H3 n3;exact ⟨m',hm,σ3,H3,I3,w3⟩
  | cont =>
   obtain ⟨σ3,H3,I3,n3⟩:=q3;obtain ⟨m',hm,w3⟩:=hN σ3 H3 n3;exact ⟨m',hm,σ3,H3,I3,w3⟩
  | brk=>exact q3
  | ret v=>exact q3
 | false =>
  rw[if_neg be];exact wpAny_execs_nil ⟨σ1,H2,I2,q2⟩
end
structure It where
 go:Nat->Hp->Prop
 yld:Nat->Hp->V->Hp->Prop
 stop:Nat->Hp->Prop
def j4 (X:Cx) (pins:List (Addr×Obj)) (H:Hp) (b:Addr):Prop :=
 H b=none/\b≠X.env.locals/\b∉X.fs/\(b∈X.ex\/X.s₀.heap.objs.size<=b)/\(∀x c,X.env.cells.lookup x=some c->c≠b)/\∀p∈X.pn++pins,p.1≠b
theorem Inv.fpOk {σ:St} {b:Addr} (I:Inv X pins σ H s) (hb:s.heap.objs.size<=b) (hn:H' b=none):j4 X pins H' b:=by
 refine ⟨hn,IU (bp I.lt hb),I.nofs hb,.inr (ag I.sz hb),λx c e z=>?_,λp hp z=>?_⟩
 ·obtain ⟨v,q⟩:=I.cell x c e;exact absurd (bp q.lt (by rw[z];exact hb)) (fh _)
 ·exact absurd (bp (Heap.lt_size (I.pin p hp).1) (by rw[z];exact hb)) (fh _)
structure Turn (P:Program) (w:World) (K:FG9) (tg:Expr) (J:It) (fp:List Addr) (it:Addr) (tn:Nat->Heap->Prop):Prop where
 mem:it∈fp
 obj:∀i h,tn i h->∀b∈fp,∃o,h.get? b=some o/\∀v,o.data≠.cell v
 keep:∀i h h',tn i h->(∀b∈fp,∀o,h.get? b=some o->h'.get? b=some o)->tn i h'
 item:∀(X:Cx),X.prog=P->X.w=w->X.K=K->X.calm=true->∀(i:Nat) (pins:List (Addr×Obj)) (s:Shared) (σ:St) (H:Hp) (E:Value->Shared->Prop),Inv X pins σ H s->(∀b∈fp,j4 X pins H b)->tn i s.heap->J.go i H →
  wpAny (model P w) X.A (pyNext (.ref it)) (λr s1=>∃u,r=some u /\
   wpAny (model P w) X.A (letOwnedTupleGo tg (.ref it) u) (λ_ s2=>∃x H',Inv X pins σ H' s2/\RelV x u/\J.yld i H x H'/\tn (i+1) s2.heap/\∀b∈fp,H' b=none) E s1) E s
 done:∀(X:Cx),X.prog=P->X.w=w->X.K=K->X.calm=true->∀(i:Nat) (pins:List (Addr×Obj)) (s:Shared) (σ:St) (H:Hp) (E:Value->Shared->Prop),Inv X pins σ H s->(∀b∈fp,j4 X pins H b)->tn i s.heap->J.stop i H →
  wpAny (model P w) X.A (pyNext (.ref it)) (λr s1=>r=none/\Inv X pins σ H s1) E s
 self:∀(A:Around) (i:Nat) (s:Shared) (Q:Value->Shared->Prop) (E:Value->Shared->Prop),tn i s.heap->Q (.ref it) s->wpAny (model P w) A (pyIter (.ref it)) Q E s
abbrev TI:=St->Hp->(It->Hp->Prop)->Prop
def PIE (X:Cx) (pins:List (Addr×Obj)) (σ:St) (tg:Expr) (R:It->Hp->Prop) (itv:Value) (s2:Shared):Prop :=
 ∃(it:Addr) (fp:List Addr) (tn:Nat->Heap->Prop) (J:It) (H':Hp),itv=.ref it/\Inv X pins σ H' s2/\Turn X.prog X.w X.K tg J fp it tn/\tn 0 s2.heap/\(∀b∈fp,j4 X pins H' b)/\R J H'
def PI (X:Cx) (tg iter:Expr) (wi:TI):Prop :=
 ∀(pins:List (Addr×Obj)) (s:Shared) (σ:St) (H:Hp) (R:It->Hp->Prop),Inv X pins σ H s->wi σ H R →
  wpAny (model X.prog X.w) X.A (eval iter X.env) (λv s1=>wpAny (model X.prog X.w) X.A (pyIter v) (PIE X pins σ tg R) X.xe s1) X.xe s
theorem LG (ho:s.heap.get? it=some o) (hc:o.cls=.type n) (hd:o.data=.fields vs)
  (hn:["enumerate","zip","dict_itemiterator","dict_reverseitemiterator","odict_iterator","itertools.zip_longest","itertools.pairwise"].contains n=false) (hQ:Q () s):wpAny M A (letOwnedTupleGo tg (.ref it) u) Q E s:=by
 unfold letOwnedTupleGo
 cases tg <;> first
  | exact wpAny_pure hQ
  | (cases u <;> first | exact wpAny_pure hQ | (refine wpAny_bind (wpAny_load ho ?_);rw[hc,hd];show wpAny M A (if (["enumerate","zip","dict_itemiterator","dict_reverseitemiterator","odict_iterator","itertools.zip_longest","itertools.pairwise"].contains n && vs[0]? == some (rawInt _))=true then _ else _) Q E s;rw[if_neg (by intro h;rw[hn,Bool.false_and] at h;cases h)];exact wpAny_pure hQ))
def Of (K:FG9) (a:Addr):It :=
 ⟨λi H=>∃xs x,bO K H a xs/\xs[i]?=some x,λi H x H'=>H'=H/\∀xs,bO K H a xs->xs[i]?=some x,λi H=>∃xs,bO K H a xs/\xs.length<=i⟩
def Fm (lo:Int) (n:Nat):It:=⟨λi _=>i < n,λi H x H'=>H'=H/\x=.int (lo+i),λi _=>n<=i⟩
theorem Ja {P:Program} {w:World} {K:FG9} {tg:Expr} (a it:Addr):Turn P w K tg (Of K a) [it] it (λi h=>h.IsListIter it a i) where
 mem:=by simp
 obj:=λi h st b hb=>by
  have e:b=it:=by simpa using hb
  subst e;obtain ⟨o,e,c,d⟩:=st;exact ⟨o,e,λv z=>by rw[d] at z;cases z⟩
 keep:=λi h h' st k=>st.at λo e=>k it (by simp) o e
 item:=by
  intro X hP hw hK hc i pins s σ H E I hf st hg;subst hP hw hK;obtain ⟨xs,x,hq,hx⟩:=hg;obtain ⟨its,rv,p,hz⟩:=I.list hq;obtain ⟨u,hu,ru⟩:=rv.get hx;obtain ⟨f0,f1,f2,f3,f4,f5⟩:=hf it (by simp);refine wpAny_pyNext_list_item st p.isList (x:=u) (by simpa using hu) λh' st' sb=>?_
  have I1:Inv X pins σ H { s with heap:=h' }:=I.turned (t':=s.toks) (λb o hb e=>(sb.2 b hb).trans e) f0 f1 f3 f4 f5;obtain ⟨o,e,c,d⟩:=id st';exact ⟨u,rfl,LG (s:={ s with heap:=h' }) e c d (by decide) ⟨x,H,I1,ru,⟨rfl,λys hy=>by rw[I.list_inj hy hq];exact hx⟩,st',λb hb=>(hf b hb).1⟩⟩
 done:=by
  intro X hP hw hK hc i pins s σ H E I hf st hg;subst hP hw hK;obtain ⟨xs,hq,hx⟩:=hg;obtain ⟨its,rv,p,hz⟩:=I.list hq;obtain ⟨f0,f1,f2,f3,f4,f5⟩:=hf it (by simp);have hl:=rv.length;exact wpAny_pyNext_list_end (I.ok.hd hc) st p.isList (by simp;lia) λh' eb=>⟨rfl,I.turned (t':=s.toks) (λb o hb e=>eb b o hb e) f0 f1 f3 f4 f5⟩
 self:=λ_ _ _ _ _ st h=>wpAny_pyIter_listiter st h
theorem Fv {P:Program} {w:World} {K:FG9} {tg:Expr} (it:Addr) (lo:Int) (n:Nat):Turn P w K tg (Fm lo n) [it] it (λi h=>IsRangeIter h it (lo+(i:Nat)*1) ((n:Int) - (i:Nat)) 1) where
 mem:=by simp
 obj:=λi h st b hb=>by
  have e:b=it:=by simpa using hb
  subst e
  exact ⟨_,st,λv z=>by
   have z':Data.fields _=Data.cell v:=z;cases z'⟩
 keep:=λi h h' st k=>k it (by simp) _ st
 item:=by
  intro X hP hw hK hc i pins s σ H E I hf st hg;subst hP hw hK;obtain ⟨f0,f1,f2,f3,f4,f5⟩:=hf it (by simp);have W:=Walks.range (prog:=X.prog) (w:=X.w) (I.ok.hd hc) it lo 1 n;refine W.item i s _ _ hg st λv h' tk hv st' kk=>?_
  obtain ⟨t,rfl⟩:=hv;have I1:Inv X pins σ H { s with heap:=h',toks:=tk }:=I.turned (λb o hb e=>kk b o (by simpa using hb) e) f0 f1 f3 f4 f5;refine ⟨_,rfl,LG (s:={ s with heap:=h',toks:=tk }) (n:="range_iterator") st' rfl rfl (by decide) ⟨.int (lo+i),H,I1,⟨t,?_⟩,⟨rfl,rfl⟩,st',λb hb=>(hf b hb).1⟩⟩;rw[Int.mul_one]
 done:=by
  intro X hP hw hK hc i pins s σ H E I hf st hg;subst hP hw hK;obtain ⟨f0,f1,f2,f3,f4,f5⟩:=hf it (by simp);exact wpAny_pyNext_range_end (I.ok.hd hc) st (by have:n<=i:=hg;lia) λh' eb=>⟨rfl,I.turned (t':=s.toks) (λb o hb e=>eb b o hb e) f0 f1 f3 f4 f5⟩
 self:=λ_ _ _ _ _ st h=>wpAny_pyIter_rangeiter st h
section
variable {X:Cx} {tg:Expr}
def LC (K:FG9) (tl:TE):TI:=λσ H R=>tl σ H λx H1=>∃a,x=.ref a/\(∃xs,bO K H1 a xs)/\R (Of K a) H1
theorem cP (hl:PE X l tl):PI X tg l (LC X.K tl):=by
 intro pins s σ H R I h;refine gK (hl pins s σ H _ I h) λv s1 ⟨x,H1,I1,r1,q1⟩=>?_
 obtain ⟨a,e,⟨xs,hq⟩,q⟩:=q1;subst e;cases r1;obtain ⟨its,rv,p,hz⟩:=I1.list hq;refine wpAny_pyIter_list p.isList ?_;refine ⟨s1.heap.objs.size,[s1.heap.objs.size],_,_,H1,rfl,I1.kept (t':=s1.toks) λb o e=>Heap.get?_push_of_some _ e,Ja a _,⟨_,Heap.get?_push_size _ rfl,rfl,rfl⟩,λb hb=>?_,q⟩;have e:b=s1.heap.objs.size:=by simpa using hb
 subst e;exact I1.fpOk (ao _) (I1.hok.fresh (ao _))
theorem Ef {σ:St} {lo hi:Int} (I:Inv X pins σ H s) (h1:-(2^62)<=lo) (h2:lo < 2^62) (h3:-(2^62)<=hi) (h4:hi < 2^62)
  (q:R (Fm lo (hi - lo).toNat) H):wpAny (model X.prog X.w) X.A (pyIter (.ref s.heap.objs.size)) (PIE X pins σ tg R) E { s with heap:=s.heap.push { cls:=.type "range",data:=.fields #[.int lo t,.int hi u,.int 1 v] },toks:=tk }:=by
 refine wpAny_pyIter_range (IsRange.new ..) (small_one h1 h2 h3 h4) ?_;have I1:Inv X pins σ H { s with heap:=s.heap.push { cls:=.type "range",data:=.fields #[.int lo t,.int hi u,.int 1 v] },toks:=tk }:=I.kept λb o e=>Heap.get?_push_of_some _ e
 refine ⟨(s.heap.push { cls:=.type "range",data:=.fields #[.int lo t,.int hi u,.int 1 v] }).objs.size,[(s.heap.push { cls:=.type "range",data:=.fields #[.int lo t,.int hi u,.int 1 v] }).objs.size],_,_,H,rfl,
  I1.kept (t':=tk) λb o e=>Heap.get?_push_of_some _ e,Fv _ lo (hi - lo).toNat,?_,λb hb=>?_,q⟩
 ·have e1:lo+((0:Nat):Int)*1=lo:=by simp
  have e2:(((hi - lo).toNat:Nat):Int) - ((0:Nat):Int)=Builtin.Range.rangeSize lo hi 1:=by rw[rangeSize_one];split <;> lia
  show IsRangeIter _ _ (lo+((0:Nat):Int)*1) ((((hi - lo).toNat:Nat):Int) - ((0:Nat):Int)) 1
  rw[e1,e2];exact Heap.get?_push_size _ rfl
 ·have e:b=(s.heap.push { cls:=.type "range",data:=.fields #[.int lo t,.int hi u,.int 1 v] }).objs.size:=by simpa using hb
  subst e;exact I1.fpOk (ao _) (I1.hok.fresh (ao _))
def OH (ta:TA):TI:=λσ H R=>ta σ H λvs H1=>∃j:Int,vs=[.int j]/\-(2^62)<=j/\j < 2^62/\R (Fm 0 j.toNat) H1
def OG (ta:TA):TI:=λσ H R=>ta σ H λvs H1=>∃i j:Int,vs=[.int i,.int j]/\(-(2^62)<=i/\i < 2^62/\-(2^62)<=j/\j < 2^62)/\R (Fm i (j - i).toNat) H1
theorem cy {a:Expr} {ta:TA} {p pos:Pos} (hg:Gl X "range") (hm:X.mg "range"=none) (ha:PA X [a] ta) (hs:starEach [a] X.env=[(false,eval a X.env)]:=by rfl):PI X tg (.Call (.Name "range" p) [a] [] pos) (OH ta):=by
 intro pins s σ H R I h;refine Call_ (jE I hg hm boot_range (PyProof.Rows.callWith_type1 (gK (ha pos pins s σ H _ I h) λus s1 ⟨vs,H1,I1,r1,q1⟩=>?_) hs rfl));obtain ⟨j,e,q1,q2,q⟩:=q1;subst e;cases r1 with
 | cons r rr =>
  cases rr;obtain ⟨t,rfl⟩:=r;exact call_range_1 (Ef I1 (by lia) (by lia) q1 q2 (by simpa using q))
theorem Js {a b:Expr} {ta:TA} {p pos:Pos} (hg:Gl X "range") (hm:X.mg "range"=none) (ha:PA X [a,b] ta) (hs:starEach [a,b] X.env=[(false,eval a X.env),(false,eval b X.env)]:=by rfl) (hs2:starEach [b] X.env=[(false,eval b X.env)]:=by rfl) :
  PI X tg (.Call (.Name "range" p) [a,b] [] pos) (OG ta):=by
 intro pins s σ H R I h;refine Call_ (jE I hg hm boot_range (PyProof.Rows.callWith_type1 (gK (ha pos pins s σ H _ I h) λus s1 ⟨vs,H1,I1,r1,q1⟩=>?_) (by rw[hs,hs2]) (by rw[hs2];rfl)));obtain ⟨i,j,e,⟨q1,q2,q3,q4⟩,q⟩:=q1;subst e;cases r1 with
 | cons r rr =>
  cases rr with
  | cons r' rr =>
   cases rr;obtain ⟨t,rfl⟩:=r;obtain ⟨t',rfl⟩:=r';exact call_range_2 (Ef I1 q1 q2 q3 q4 q)
def Q1 (wi:TI) (g:TG) (tb:TS):TS:=λD σ H=>wi σ H λJ H1=>∃W:Nat->Nat->St->Hp->Prop,(∃m,W 0 m σ H1)/\∀i m σ H,W i m σ H →
 (J.stop i H/\D.nx σ H)\/(J.go i H/\∃N:St->Hp->Prop,(∀σ' H',N σ' H'->∃m',m' < m/\W (i+1) m' σ' H')/\∀x H',J.yld i H x H'->g x σ H' λσ2 H2=>tb { D with nx:=N,ct:=N,bk:=D.nx } σ2 H2)
def yY (fp:List Addr) (h:Heap):List (Addr×Obj):=fp.filterMap λb=>(h.get? b).map λo=>(b,o)
theorem oQ (hb:b∈fp) (e:h.get? b=some o):(b,o)∈yY fp h:=List.mem_filterMap.mpr ⟨b,hb,by rw[e];rfl⟩
theorem JB (hp:p∈yY fp h):p.1∈fp/\h.get? p.1=some p.2:=by
 obtain ⟨b,hb,e⟩:=List.mem_filterMap.mp hp;cases q:h.get? b with
 | none=>rw[q] at e;cases e
 | some o =>
  rw[q] at e;have e':(b,o)=p:=cg e;subst e';exact ⟨hb,q⟩
theorem Inv.pinned {σ:St} (I:Inv X pins σ H s) (hf:∀b∈fp,j4 X pins H b) (ho:∀b∈fp,∃o,s.heap.get? b=some o/\∀v,o.data≠.cell v):Inv X (pins++yY fp s.heap) σ H s :=
 I.pins_of λp hp=>(aG.mp hp).elim (λz=>I.pin p (bI _ z)) λz=>by
  obtain ⟨hb,e⟩:=JB z;obtain ⟨f0,f1,f2,_⟩:=hf p.1 hb;obtain ⟨o,e',d⟩:=ho p.1 hb;rw[e] at e';cases e';exact ⟨e,f0,f1,f2,d⟩
theorem Inv.unpinned {σ:St} (I:Inv X (pins++pl) σ H s):Inv X pins σ H s:=I.pins_of λp hp=>I.pin p (bI _ (gY _ hp))
theorem eH {iter:Expr} {body:List Stmt} {wi:TI} {g:TG} {tb:TS} {pos:Pos} (hp:PassesOwn (model X.prog X.w) X.A X.env X.xe) (hc:X.calm=true) (hi:PI X tg iter wi) (hg:PG X tg g) (hb:Gz X body tb)
  (hs:∀x,foldedSetIterable iter X.env x=pure x:=by intro _;rfl):PS X (.For tg iter body [] pos) (Q1 wi g tb):=by
 intro pins s σ H D I h;refine wpAny_For (gK (hi pins s σ H _ I h) λv s1 h1=>gK h1 λitv s2 h2=>?_) hs;obtain ⟨it,fp,tn,J,H2,e,I2,T,st2,f2,W,⟨m0,w0⟩,turn⟩:=h2;subst e;have stat:∀{H':Hp},(∀b∈fp,H' b=none)->∀b∈fp,j4 X pins H' b:=λhn b hb=>⟨hn b hb,(f2 b hb).2⟩
 refine codeAny_forLoop_any (λn s'=>∃i σ' H',Inv X pins σ' H' s'/\tn i s'.heap/\(∀b∈fp,H' b=none)/\W i n σ' H') ?_ m0 ⟨0,σ,H2,I2,st2,λb hb=>(f2 b hb).1,w0⟩;rintro n s3 ⟨i,σ3,H3,I3,st3,fr3,w3⟩;rcases turn i n σ3 H3 w3 with ⟨stop,qn⟩ | ⟨go,N,hN,step⟩
 ·refine wpAny_passesOwn hp (gK (T.done X rfl rfl rfl hc i pins s3 σ3 H3 X.xe I3 (stat fr3) st3 stop) λr s4 ⟨hr,I4⟩=>?_);subst hr;exact wpAny_execs_nil ⟨σ3,H3,I4,qn⟩
 ·refine wpAny_passesOwn hp (gK (T.item X rfl rfl rfl hc i pins s3 σ3 H3 X.xe I3 (stat fr3) st3 go) λr s4 ⟨u,hr,h4⟩=>?_);subst hr;refine wpAny_passesOwn hp (gK h4 λ_ s5 ⟨x,H5,I5,r5,y5,st5,fr5⟩=>?_);have I5':=I5.pinned (stat fr5) (T.obj _ _ st5);refine wpAny_passesOwn hp (gK (hg _ s5 σ3 H5 x u _ I5' r5 (step x H5 y5)) λ_ s6 ⟨σ6,H6,I6,q6⟩=>?_);refine wpAny_passesOwn hp (gK (hb _ s6 σ6 H6 _ I6 q6) λf s7 q7=>?_)
  have again:∀{σ7:St} {H7:Hp},Inv X (pins++yY fp s5.heap) σ7 H7 s7->N σ7 H7->∃m,m < n/\∃i σ' H',Inv X pins σ' H' s7/\tn i s7.heap/\(∀b∈fp,H' b=none)/\W i m σ' H':=λ{σ7 H7} I7 n7=>by
   obtain ⟨m',hm,w7⟩:=hN σ7 H7 n7;refine ⟨m',hm,i+1,σ7,H7,I7.unpinned,T.keep _ _ _ st5 λb hb o e=>(I7.pin (b,o) (bI _ (bI _ (oQ hb e)))).1,λb hb=>?_,w7⟩;obtain ⟨o,e,d⟩:=T.obj _ _ st5 b hb;exact (I7.pin (b,o) (bI _ (bI _ (oQ hb e)))).2.1
  cases f with
  | next=>obtain ⟨σ7,H7,I7,n7⟩:=q7;exact again I7 n7
  | cont=>obtain ⟨σ7,H7,I7,n7⟩:=q7;exact again I7 n7
  | brk=>obtain ⟨σ7,H7,I7,q7⟩:=q7;exact ⟨σ7,H7,I7.unpinned,q7⟩
  | ret v=>obtain ⟨x7,σ7,H7,I7,r7,q7⟩:=q7;exact ⟨x7,σ7,H7,I7.unpinned,r7,q7⟩
end
theorem iV {K:FG9} {g:TG} {tb:TS} {D:Ends} (Pv:Nat->St->Hp->Prop) (h0:Pv 0 σ H) (hl:∀i σ H,i<=xs.length->Pv i σ H->bO K H a xs)
  (hs:∀i x σ H,xs[i]?=some x->Pv i σ H->g x σ H λσ2 H2=>tb { D with nx:=Pv (i+1),ct:=Pv (i+1),bk:=D.nx } σ2 H2) (hd:∀σ H,Pv xs.length σ H->D.nx σ H) :
  ∃W:Nat->Nat->St->Hp->Prop,(∃m,W 0 m σ H)/\∀i m σ H,W i m σ H →
   ((Of K a).stop i H/\D.nx σ H)\/((Of K a).go i H/\∃N:St->Hp->Prop,(∀σ' H',N σ' H'->∃m',m' < m/\W (i+1) m' σ' H')/\∀x H',(Of K a).yld i H x H'->g x σ H' λσ2 H2=>tb { D with nx:=N,ct:=N,bk:=D.nx } σ2 H2):=by
 refine ⟨λi m σ H=>m=xs.length - i/\i<=xs.length/\Pv i σ H,⟨xs.length,by simp,br _,h0⟩,?_⟩;rintro i m σ H ⟨rfl,hi,p⟩;have q:=hl i σ H hi p;by_cases hlt:i < xs.length
 ·refine .inr ⟨⟨xs,xs[i],q,by simp [hlt]⟩,Pv (i+1),λσ' H' p'=>⟨xs.length - (i+1),by lia,rfl,hlt,p'⟩,λx H' y=>?_⟩;obtain ⟨e,y⟩:=y;subst e;exact hs i x σ _ (y xs q) p
 ·have e:i=xs.length:=by lia
  subst e;exact .inl ⟨⟨xs,q,ao _⟩,hd σ H p⟩
theorem Br {lo:Int} {g:TG} {tb:TS} {D:Ends} (Pv:Nat->St->Hp->Prop) (h0:Pv 0 σ H)
  (hs:∀i σ H,i < n->Pv i σ H->g (.int (lo+i)) σ H λσ2 H2=>tb { D with nx:=Pv (i+1),ct:=Pv (i+1),bk:=D.nx } σ2 H2) (hd:∀σ H,Pv n σ H->D.nx σ H) :
  ∃W:Nat->Nat->St->Hp->Prop,(∃m,W 0 m σ H)/\∀i m σ H,W i m σ H →
   ((Fm lo n).stop i H/\D.nx σ H)\/((Fm lo n).go i H/\∃N:St->Hp->Prop,(∀σ' H',N σ' H'->∃m',m' < m/\W (i+1) m' σ' H')/\∀x H',(Fm lo n).yld i H x H'->g x σ H' λσ2 H2=>tb { D with nx:=N,ct:=N,bk:=D.nx } σ2 H2):=by
 refine ⟨λi m σ H=>m=n - i/\i<=n/\Pv i σ H,⟨n,by simp,br _,h0⟩,?_⟩;rintro i m σ H ⟨rfl,hi,p⟩;by_cases hlt:i < n
 ·refine .inr ⟨hlt,Pv (i+1),λσ' H' p'=>⟨n - (i+1),by lia,rfl,hlt,p'⟩,λx H' y=>?_⟩;obtain ⟨e,y⟩:=y;subst e y;exact hs i σ _ hlt p
 ·have e:i=n:=by lia
  subst e;exact .inl ⟨ao _,hd σ H p⟩
abbrev R2:=V->V->Hp->VK->Prop
def yl (X:Cx) (f:Value->Value->Sem Value) (r:R2):Prop :=
 ∀(pins:List (Addr×Obj)) (s:Shared) (σ:St) (H:Hp) (x y:V) (v u:Value) (Q:VK),Inv X pins σ H s->RelV x v->RelV y u->r x y H Q →
  wpAny (model X.prog X.w) X.A (f v u) (EP X pins σ Q) X.xe s
def SK (X:Cx) (f:Value->Sem Value) (r:V->Hp->VK->Prop):Prop :=
 ∀(pins:List (Addr×Obj)) (s:Shared) (σ:St) (H:Hp) (x:V) (v:Value) (Q:VK),Inv X pins σ H s->RelV x v->r x H Q →
  wpAny (model X.prog X.w) X.A (f v) (EP X pins σ Q) X.xe s
def pe (X:Cx) (f:Value) (r:List V->Hp->VK->Prop):Prop :=
 ∀(pins:List (Addr×Obj)) (s:Shared) (σ:St) (H:Hp) (xs:List V) (us:List Value) (Q:VK),Inv X pins σ H s->cY xs us->r xs H Q →
  wpAny (model X.prog X.w) X.A (call f us) (EP X pins σ Q) X.xe s
def QX (r:R2) (ta tb:TE):TE:=λσ H Q=>ta σ H λx H1=>tb σ H1 λy H2=>r x y H2 Q
def Sf (r:V->Hp->VK->Prop) (ta:TE):TE:=λσ H Q=>ta σ H λx H1=>r x H1 Q
def rI (C:Int->Int->Prop) (g:Int->Int->V):R2:=λx y H Q=>∃i j,x=.int i/\y=.int j/\C i j/\Q (g i j) H
def Nw (g:Int->Int->V):R2:=λx y H Q=>∃i j,x=.int i/\y=.int j/\Q (g i j) H
def rU (g:Int->V):V->Hp->VK->Prop:=λx H Q=>∃i,x=.int i/\Q (g i) H
section
variable {X:Cx} {a b c:Expr} {ta tb tc:TE} {pos:Pos}
theorem Qs (ha:PE X a ta) (hb:PE X b tb) {σ:St} {R:V->V->Hp->Prop} (I:Inv X pins σ H s)
  (h:ta σ H λx H1=>tb σ H1 λy H2=>R x y H2) {f:Value->Value->Sem Value}
  (hf:∀v u s2 x y H2,Inv X pins σ H2 s2->RelV x v->RelV y u->R x y H2->wpAny (model X.prog X.w) X.A (f v u) Q X.xe s2) :
  wpAny (model X.prog X.w) X.A (eval a X.env) (λv s₁=>wpAny (model X.prog X.w) X.A (eval b X.env) (λu s₂=>wpAny (model X.prog X.w) X.A (f v u) Q X.xe s₂) X.xe s₁) X.xe s:=by
 refine gK (ha pins s σ H _ I h) λv s1 ⟨x,H1,I1,r1,q1⟩=>?_
 refine gK (hb pins s1 σ H1 _ I1 q1) λu s2 ⟨y,H2,I2,r2,q2⟩=>?_
 exact hf v u s2 x y H2 I2 r1 r2 q2
theorem bC (ho:yl X (binaryOp op) r) (ha:PE X a ta) (hb:PE X b tb):PE X (.BinOp a op b pos) (QX r ta tb):=by
 intro pins s σ H Q I h;exact wpAny_BinOp (Qs ha hb I h λv u s2 x y H2 I2 rx ry q=>ho pins s2 σ H2 x y v u Q I2 rx ry q)
theorem wV (ho:SK X (unaryOp op) r) (ha:PE X a ta):PE X (.UnaryOp op a pos) (Sf r ta):=by
 intro pins s σ H Q I h;exact UnaryOp_ (gK (ha pins s σ H _ I h) λv s1 ⟨x,H1,I1,r1,q1⟩=>ho pins s1 σ H1 x v Q I1 r1 q1)
theorem Sy {g:Int->Int->Int}
  (rule:∀(i j:Int) (t u:Tok) (s:Shared) (Q:Value->Shared->Prop) (E:Value->Shared->Prop),C i j->Q (.int (g i j) s.toks) { s with toks:=s.toks+1 }->wpAny (model X.prog X.w) X.A (f (.int i t) (.int j u)) Q E s) :
  yl X f (rI C λi j=>.int (g i j)):=by
 intro pins s σ H x y v u Q I rx ry h;obtain ⟨i,j,rfl,rfl,hc,q⟩:=h;obtain ⟨t,rfl⟩:=rx;obtain ⟨t',rfl⟩:=ry;exact rule i j t t' s _ _ hc ⟨.int (g i j),H,I.tok _,⟨_,rfl⟩,q⟩
theorem Rz {g:Int->Int->Int}
  (rule:∀(i j:Int) (t u:Tok) (s:Shared) (Q:Value->Shared->Prop) (E:Value->Shared->Prop),Q (.int (g i j) s.toks) { s with toks:=s.toks+1 }->wpAny (model X.prog X.w) X.A (f (.int i t) (.int j u)) Q E s) :
  yl X f (Nw λi j=>.int (g i j)):=by
 intro pins s σ H x y v u Q I rx ry h;obtain ⟨i,j,rfl,rfl,q⟩:=h;obtain ⟨t,rfl⟩:=rx;obtain ⟨t',rfl⟩:=ry;exact rule i j t t' s _ _ ⟨.int (g i j),H,I.tok _,⟨_,rfl⟩,q⟩
theorem NI {g:Int->Int->Bool}
  (rule:∀(i j:Int) (t u:Tok) (s:Shared) (Q:Value->Shared->Prop) (E:Value->Shared->Prop),Q (.bool (g i j)) s->wpAny (model X.prog X.w) X.A (f (.int i t) (.int j u)) Q E s) :
  yl X f (Nw λi j=>.bl (g i j)):=by
 intro pins s σ H x y v u Q I rx ry h;obtain ⟨i,j,rfl,rfl,q⟩:=h;obtain ⟨t,rfl⟩:=rx;obtain ⟨t',rfl⟩:=ry;exact rule i j t t' s _ _ ⟨.bl (g i j),H,I,rfl,q⟩
def Qz (i j:Int):Prop:=(-(2^64) < i/\i < 2^64)\/(-(2^64) < j/\j < 2^64)
theorem Qz.ok (h:Qz i j):IntMulOk i j:=by
 rcases h with ⟨h1,h2⟩ | ⟨h1,h2⟩
 ·exact .of_left (intBits_le_64 h1 h2)
 ·exact .of_right (intBits_le_64 h1 h2)
theorem eT:yl X (binaryOp .Add) (Nw λi j=>.int (i+j)):=Rz λ_ _ _ _ _ _ _ q=>add_int q
theorem jW:yl X (binaryOp .Sub) (Nw λi j=>.int (i - j)):=Rz λ_ _ _ _ _ _ _ q=>sub_int q
theorem mW:yl X (binaryOp .Mod) (rI (λ_ j=>0 < j) λi j=>.int (i % j)):=Sy λi j _ _ _ _ _ hc q=>by
 have h1:(0:Int) < j:=hc;exact mod_int' (by lia) (by rw[Int.fmod_eq_emod_of_nonneg i (by lia)];exact q)
theorem NH:yl X (binaryOp .Mod) (rI (λ_ j=>j≠0) λi j=>.int (i.fmod j)):=Sy λ_ _ _ _ _ _ _ hc q=>mod_int' hc q
theorem unI {g:Int->Int}
  (rule:∀(i:Int) (t:Tok) (s:Shared) (Q:Value->Shared->Prop) (E:Value->Shared->Prop),Q (.int (g i) s.toks) { s with toks:=s.toks+1 }->wpAny (model X.prog X.w) X.A (f (.int i t)) Q E s) :
  SK X f (rU λi=>.int (g i)):=by
 intro pins s σ H x v Q I rx h;obtain ⟨i,rfl,q⟩:=h;obtain ⟨t,rfl⟩:=rx;exact rule i t s _ _ ⟨.int (g i),H,I.tok _,⟨_,rfl⟩,q⟩
theorem pH:SK X (unaryOp .USub) (rU λi=>.int (-i)):=unI λ_ _ _ _ _ q=>neg_int q
end
def Q8:V->V->Bool
 | .non,.non=>true | .non,.int _=>true | .int _,.non=>true | .non,.bl _=>true | .bl _,.non=>true | .non,.str _=>true | .str _,.non=>true
 | .int _,.int _=>true | .bl _,.bl _=>true | .str _,.str _=>true | .byt _,.byt _=>true
 | .int _,.str _=>true | .str _,.int _=>true | .bl _,.str _=>true | .str _,.bl _=>true
 | _,_=>false
def Sx:R2:=λx y H Q=>Q8 x y=true/\Q (.bl (decide (x=y))) H
def Sv:R2:=λx y H Q=>Q8 x y=true/\Q (.bl (!decide (x=y))) H
theorem IA:decide (V.int i=V.int j)=(i == j):=by
 rw[kY];simp
theorem L5:decide (V.bl i=V.bl j)=(i == j):=by
 rw[kY];simp
theorem Iz:decide (V.str i=V.str j)=(i == j):=by
 rw[kY];simp
theorem IB:decide (V.byt i=V.byt j)=(i.toList == j.toList):=by
 rw[kY];cases i;cases j;simp
section
variable {X:Cx} {a b c:Expr} {ta tb tc:TE} {pos:Pos}
theorem dq {σ:St} (I:Inv X pins σ H s) (q:Q (.bl k) H) (e:k=k'):EP X pins σ Q (.bool k') s:=by
 subst e;exact ⟨.bl k,H,I,rfl,q⟩
theorem eS:yl X (compareOp .Eq) Sx:=by
 intro pins s σ H x y v u Q I rx ry h;obtain ⟨hs,q⟩:=h;cases x with
 | non =>
  cases rx;cases y with
  | non=>cases ry;exact PySem.EqNone.eq_none_none (dq I q (by simp))
  | bl j=>cases ry;exact PySem.EqNone.eq_none_bool (dq I q (by simp))
  | int j=>obtain ⟨t',rfl⟩:=ry;exact PySem.EqNone.eq_none_int (dq I q (by simp))
  | str j=>obtain ⟨t',rfl⟩:=ry;exact PySem.EqNone.eq_none_str (dq I q (by simp))
  | _=>exact absurd (show false=true from hs) be
 | bl i =>
  cases rx;cases y with
  | non=>cases ry;exact PySem.EqNone.eq_bool_none (dq I q (by simp))
  | bl j=>cases ry;exact eq_bool (dq I q L5)
  | str j=>obtain ⟨t',rfl⟩:=ry;exact PySem.EqMixed.eq_bool_str (dq I q (by simp))
  | _=>exact absurd (show false=true from hs) be
 | int i =>
  obtain ⟨t,rfl⟩:=rx;cases y with
  | non=>cases ry;exact PySem.EqNone.eq_int_none (dq I q (by simp))
  | int j=>obtain ⟨t',rfl⟩:=ry;exact eq_int (dq I q IA)
  | str j=>obtain ⟨t',rfl⟩:=ry;exact PySem.EqMixed.eq_int_str (dq I q (by simp))
  | _=>exact absurd (show false=true from hs) be
 | str i =>
  obtain ⟨t,rfl⟩:=rx;cases y with
  | non=>cases ry;exact PySem.EqNone.eq_str_none (dq I q (by simp))
  | bl j=>cases ry;exact PySem.EqMixed.eq_str_bool (dq I q (by simp))
  | int j=>obtain ⟨t',rfl⟩:=ry;exact PySem.EqMixed.eq_str_int (dq I q (by simp))
  | str j=>obtain ⟨t',rfl⟩:=ry;exact eq_str (dq I q Iz)
  | _=>exact absurd (show false=true from hs) be
 | byt i =>
  obtain ⟨t,rfl⟩:=rx;cases y with
  | byt j=>obtain ⟨t',rfl⟩:=ry;exact PySem.W.eq_bytes (dq I q IB)
  | _=>exact absurd (show false=true from hs) be
 | _=>cases y <;> exact absurd (show false=true from hs) be
theorem zg:yl X (compareOp .NotEq) Sv:=by
 intro pins s σ H x y v u Q I rx ry h;obtain ⟨hs,q⟩:=h;cases x with
 | non =>
  cases rx;cases y with
  | non=>cases ry;exact PySem.EqNone.ne_none_none (dq I q (by simp))
  | bl j=>cases ry;exact PySem.EqNone.ne_none_bool (dq I q (by simp))
  | int j=>obtain ⟨t',rfl⟩:=ry;exact PySem.EqNone.ne_none_int (dq I q (by simp))
  | str j=>obtain ⟨t',rfl⟩:=ry;exact PySem.EqNone.ne_none_str (dq I q (by simp))
  | _=>exact absurd (show false=true from hs) be
 | bl i =>
  cases rx;cases y with
  | non=>cases ry;exact PySem.EqNone.ne_bool_none (dq I q (by simp))
  | bl j=>cases ry;exact ne_bool (dq I q (congrArg not L5))
  | str j=>obtain ⟨t',rfl⟩:=ry;exact PySem.EqMixed.ne_bool_str (dq I q (by simp))
  | _=>exact absurd (show false=true from hs) be
 | int i =>
  obtain ⟨t,rfl⟩:=rx;cases y with
  | non=>cases ry;exact PySem.EqNone.ne_int_none (dq I q (by simp))
  | int j=>obtain ⟨t',rfl⟩:=ry;exact ne_int (dq I q (congrArg not IA))
  | str j=>obtain ⟨t',rfl⟩:=ry;exact PySem.EqMixed.ne_int_str (dq I q (by simp))
  | _=>exact absurd (show false=true from hs) be
 | str i =>
  obtain ⟨t,rfl⟩:=rx;cases y with
  | non=>cases ry;exact PySem.EqNone.ne_str_none (dq I q (by simp))
  | bl j=>cases ry;exact PySem.EqMixed.ne_str_bool (dq I q (by simp))
  | int j=>obtain ⟨t',rfl⟩:=ry;exact PySem.EqMixed.ne_str_int (dq I q (by simp))
  | str j=>obtain ⟨t',rfl⟩:=ry;exact ne_str (dq I q (congrArg not Iz))
  | _=>exact absurd (show false=true from hs) be
 | byt i =>
  obtain ⟨t,rfl⟩:=rx;cases y with
  | byt j=>obtain ⟨t',rfl⟩:=ry;exact PySem.W.ne_bytes (dq I q (congrArg not IB))
  | _=>exact absurd (show false=true from hs) be
 | _=>cases y <;> exact absurd (show false=true from hs) be
theorem rD:yl X (compareOp .Lt) (Nw λi j=>.bl (decide (i < j))):=NI λ_ _ _ _ _ _ _ q=>lt_int q
theorem Ry:yl X (compareOp .LtE) (Nw λi j=>.bl (decide (i<=j))):=NI λ_ _ _ _ _ _ _ q=>le_int q
theorem wY:yl X (compareOp .Gt) (Nw λi j=>.bl (decide (j < i))):=NI λ_ _ _ _ _ _ _ q=>gt_int q
theorem Bm:yl X (compareOp .GtE) (Nw λi j=>.bl (decide (j<=i))):=NI λ_ _ _ _ _ _ _ q=>ge_int q
theorem HY:yl X (compareOp .IsNot) (λx y H Q=>y=.non/\Q (.bl (!decide (x=.non))) H):=by
 intro pins s σ H x y v u Q I rx ry h;obtain ⟨rfl,q⟩:=h;cases ry;refine isnot_none_gen (dq I q ?_)
 cases x <;> first
  | (cases rx;rfl)
  | (obtain ⟨t,rfl⟩:=rx;rfl)
theorem bJ (b:Expr) {op:CmpOp} (h:op≠.In:=by decide) (h2:op≠.NotIn:=by decide):behindInMarks op b=false:=by
 have e1:(op == CmpOp.In)=false:=by cases op <;> first | rfl | exact absurd rfl h
 have e2:(op == CmpOp.NotIn)=false:=by cases op <;> first | rfl | exact absurd rfl h2
 cases b <;> simp [behindInMarks,e1,e2]
theorem j6 (ho:yl X (compareOp op) r) (ha:PE X a ta) (hb:PE X b tb) (hm:behindInMarks op b=false):PE X (.Compare a [op] [b] pos) (QX r ta tb):=by
 intro pins s σ H Q I h;exact wpAny_Compare1 (Qs ha hb I h λv u s2 x y H2 I2 rx ry q=>ho pins s2 σ H2 x y v u Q I2 rx ry q) hm
def Ol (t:TE):TT:=λσ H Q=>t σ H λx H'=>∃k,x=.bl k/\Q k H'
theorem bD (ho:yl X (compareOp op) r) (ha:PE X a ta) (hb:PE X b tb) (hm:behindInMarks op b=false):PT X (.Compare a [op] [b] pos) (Ol (QX r ta tb)):=by
 intro pins s σ H Q I h
 refine wpAny_isTrue_Compare1 (gK (ha pins s σ H _ I h) λv s1 ⟨x,H1,I1,r1,q1⟩=>gK (hb pins s1 σ H1 _ I1 q1) λu s2 ⟨y,H2,I2,r2,q2⟩ =>
  gK (ho pins s2 σ H2 x y v u _ I2 r1 r2 q2) λc s3 ⟨z,H3,I3,r3,k,e,q3⟩=>?_) hm
 subst e;cases r3;exact wpAny_truthy_bool ⟨H3,I3,q3⟩
theorem zJ:(sizeLine:Nat) < 2^63:=by rw[sizeLine_eq];decide
theorem vals1 (r:cY [x] us):∃u,us=[u]/\RelV x u:=by
 cases r with
 | cons r1 r2=>cases r2;exact ⟨_,rfl,r1⟩
theorem vals2 (r:cY [x,y] us):∃u w',us=[u,w']/\RelV x u/\RelV y w':=by
 cases r with
 | cons r1 r2 =>
  cases r2 with
  | cons r3 r4=>cases r4;exact ⟨_,_,rfl,r1,r3⟩
theorem uQ:pe X (.builtin "abs") (λxs H Q=>∃i,xs=[.int i]/\Q (.int (if i < 0 then -i else i)) H):=by
 intro pins s σ H xs us Q I r h;obtain ⟨i,rfl,q⟩:=h;obtain ⟨u,rfl,t,rfl⟩:=vals1 r;exact call_abs_int λu tk=>⟨.int (if i < 0 then -i else i),H,I.tok _,⟨_,rfl⟩,q⟩
theorem rg (hc:X.calm=true):pe X (.builtin "min") (λxs H Q=>∃i j,xs=[.int i,.int j]/\Q (.int (if j < i then j else i)) H):=by
 intro pins s σ H xs us Q I r h;obtain ⟨i,j,rfl,q⟩:=h;obtain ⟨u,w',rfl,⟨t,rfl⟩,⟨t',rfl⟩⟩:=vals2 r;refine min_two_ints (I.ok.hd hc) λh' tk k=>⟨_,H,I.kept k,?_,q⟩
 by_cases hj:j < i
 ·rw[if_pos hj,if_pos hj];exact ⟨_,rfl⟩
 ·rw[if_neg hj,if_neg hj];exact ⟨_,rfl⟩
end
structure GG (h:Heap) (x dx C:Addr) (mA:Str->Option Value):Prop where
 obj:h.get? x=some (PySem.W.instObj C dx)
 ns:h.Ns1 dx mA
 ne:dx≠x
theorem JJ {h:Heap} (n:h.Ns1 dx mA):∃od,h.get? dx=some od/\∀name,PySem.W.lookIn name od=some (mA name):=by
 obtain ⟨o,es,ep,ho,hd,hk,_,hm⟩:=n;refine ⟨o,ho,λname=>?_⟩;have e:=hm name;unfold nsFind findBy at e;rw[<- Array.find?_toList] at e;unfold PySem.W.lookIn;rw[hd]
 dsimp only
 split
 ·rename_i y q
  rw[q] at e;exact congrArg some e
 ·rename_i q
  rw[q] at e
  have a:es.toList.any (·.refKey)=false:=by
   rw[List.any_eq_false];intro y hy;obtain ⟨z,t,hkey⟩:=hk y (Array.mem_toList_iff.mp hy);simp [DictEntry.refKey,hkey]
  have a':¬es.toList.any (·.refKey)=true:=by rw[a];exact be
  rw[if_neg a'];exact congrArg some e
theorem GG.look (I:GG h x dx C mA):∃od,PySem.W.InstAt h x (PySem.W.instObj C dx) C (some od)/\∀name,PySem.W.lookIn name od=some (mA name) :=
 let ⟨od,ho,hl⟩:=JJ I.ns
 ⟨od,⟨I.obj,rfl,rfl,ho⟩,hl⟩
section
variable {prog:Program} {w:World} {A:Around} {E:Value->Shared->Prop} {s:Shared} {K:FG9} {x dx C f:Addr} {mA:Str->Option Value} {name:Str} {v:Value}
theorem get_map (X:K.In s.heap) (I:GG s.heap x dx C mA) (hg:PySem.W.plainGet K C name=true) (hh:PySem.W.hasDictIn K C=true)
  (ha:PySem.W.findIn K (.ref C) name=some none) (hv:mA name=some v) (hv':PySem.W.handedIn v=true) (h:Q v { s with toks:=s.toks+1 }) :
  wpAny (model prog w) A (getAttr (.ref x) name expr) Q E s:=by
 obtain ⟨od,J,hl⟩:=I.look;exact PySem.W.get_value X J (DB hg).1 (PySem.W.findObj_own hh ha rfl (by rw[hl,hv])) hv' h
theorem LH (X:K.In s.heap) (I:GG s.heap x dx C mA) (hg:PySem.W.plainGet K C name=true)
  (hf:PySem.W.findIn K (.ref C) name=some (some (.ref f))) (ht:PySem.W.isFn K (.ref f)=true) (hv:mA name=none) (h:Q (.ref f,[.ref x]) s) :
  wpAny (model prog w) A (getMethod (.ref x) name pl) Q E s:=by
 obtain ⟨od,J,hl⟩:=I.look;exact PySem.W.method_fn X J (DB hg).1 (DB hg).2 hf (beq_iff_eq.mp ht) (by show (PySem.W.lookIn name od).map (·.isSome)=some false;rw[hl,hv];rfl) h
theorem MU (X:K.In s.heap) (I:GG s.heap x dx C mA)
  (hs:PySem.W.findIn K (.ref C) "__setattr__"=some (some (.builtin "object.__setattr__"))) (hp:PySem.W.plainOver K C=true) (ht:PySem.W.takerIn K C name=some none) (hh:PySem.W.hasDictIn K C=true)
  (hw:PySem.Within mA ns) (hsz:ns.length<=sizeLine)
  (h:∀h',GG h' x dx C (λy=>if y=name then some v else mA y)->Heap.SameBut dx s.heap h'->Q () { s with heap:=h',toks:=s.toks+2 }) :
  wpAny (model prog w) A (setAttr (.ref x) name v) Q E s:=by
 obtain ⟨od,J,hl⟩:=I.look;refine PySem.W.set_plain X J hs (PySem.W.osa_open (s:={ s with toks:=s.toks+1 }) (r:=none) X J hp ht λb=>?_);obtain ⟨cd,hc,hd'⟩:=PySem.W.any_some hh;have hx:s.heap.get? x=some ⟨.ref C,some dx,.plain,#[]⟩:=I.obj;refine wpAny_bind (wpAny_pure (wpAny_bind (wpAny_bind (wpAny_loadPart hx (wpAny_bind (PySem.W.Looks.here (s:={ s with toks:=s.toks+1 }) (PySem.W.looks_clsIn X hc) ?_))))));rw[hd'];refine wpAny_pure (a:=some dx) (wpAny_bind (wpAny_pure (wpAny_bind ?_)));refine wpAny_nsSet1 (s:={ s with toks:=s.toks+1 }) I.ns λh' hn2 hs2=>?_
 obtain ⟨oD,esD,epD,hoD,hdD,hcD⟩:=hn2.count (PySem.Within.cons name v hw);refine wpAny_bind (wpAny_lookBehind hoD (by rw[hdD];exact pastItsLine_dict (ag hcD (by rw[bB];lia))) ?_);exact wpAny_pure (h _ ⟨(hs2.2 _ (Ne.symm I.ne)).trans I.obj,hn2,I.ne⟩ hs2)
theorem Lq (X:K.In s.heap) (hm:PySem.W.makesIn K C=true)
  (hi:PySem.W.findIn K (.ref C) "__init__"=some (some (.ref f))) (hf:PySem.W.typeIn K (.ref f)=some (.type "function"))
  (h:codeAny (model prog w) (A.under (.builtin "type.__call__" ⟨.ref C :: vs,kw⟩)) (.call (.ref f) ⟨.ref (s.heap.objs.size+1) :: vs,kw⟩) (PySem.W.InitBack (s.heap.objs.size+1) R)
   { s with heap:=(s.heap.push PySem.W.emptyDict).push (PySem.W.instObj C s.heap.objs.size) }) :
  codeAny (model prog w) A (.call (.ref C) ⟨vs,kw⟩) R s:=by
 obtain ⟨hh,g,d,t,os⟩:=s;exact PySem.W.make_core (PySem.W.makes_of X hm) (PySem.W.looks_findIn X hi) (λself=>PySem.W.bind_fn X self hf) (.inl rfl) h
end
def cz (f:Str) (v:V):List (Str×V)->List (Str×V)
 | []=>[(f,v)]
 | (g,x) :: r=>if g=f then (g,v) :: r else (g,x) :: cz f v r
theorem bG (f g:Str) (v:V):∀fs:List (Str×V),(cz f v fs).lookup g=if g=f then some v else fs.lookup g
 | []=>by
  show List.lookup g [(f,v)]=_
  by_cases h:g=f
  ·have hb:(g == f)=true:=beq_iff_eq.mpr h;simp only[List.lookup,hb,if_pos h]
  ·have hb:(g == f)=false:=beq_eq_false_iff_ne.mpr h;simp only[List.lookup,hb,if_neg h]
 | (k,x) :: r=>by
  have ih:=bG f g v r;rw[show cz f v ((k,x) :: r)=(if k=f then (k,v) :: r else (k,x) :: cz f v r) from rfl];by_cases hk:k=f
  ·rw[if_pos hk];by_cases h:g=k
   ·have hb:(g == k)=true:=beq_iff_eq.mpr h;simp only[List.lookup,hb,if_pos (h.trans hk)]
   ·have hb:(g == k)=false:=beq_eq_false_iff_ne.mpr h;simp only[List.lookup,hb,if_neg (λe:g=f=>h (e.trans hk.symm))]
  ·rw[if_neg hk];by_cases h:g=k
   ·have hb:(g == k)=true:=beq_iff_eq.mpr h;simp only[List.lookup,hb,if_neg (λe:g=f=>hk (h.symm.trans e))]
   ·have hb:(g == k)=false:=beq_eq_false_iff_ne.mpr h;simp only[List.lookup,hb];exact ih
theorem vX (f:Str) (v:V):∀fs:List (Str×V),f∈(cz f v fs).map (·.1)/\∀g,g∈fs.map (·.1)->g∈(cz f v fs).map (·.1)
 | []=>⟨by simp [cz],λg h=>by simp at h⟩
 | (k,x) :: r=>by
  obtain ⟨i1,i2⟩:=vX f v r;rw[show cz f v ((k,x) :: r)=(if k=f then (k,v) :: r else (k,x) :: cz f v r) from rfl];by_cases hk:k=f
  ·rw[if_pos hk];subst hk;exact ⟨by simp,λg h=>by simpa using h⟩
  ·rw[if_neg hk];refine ⟨?_,λg h=>?_⟩
   ·rw[ia];exact bW _ i1
   ·rw[ia] at h ⊢;rcases aI.mp h with e | e
    ·exact aI.mpr (.inl e)
    ·exact bW _ (i2 g e)
theorem wZ (f:Str) (v:V):∀fs:List (Str×V),(cz f v fs).length<=fs.length+1
 | []=>by simp [cz]
 | (k,x) :: r=>by
  have ih:=wZ f v r;rw[show cz f v ((k,x) :: r)=(if k=f then (k,v) :: r else (k,x) :: cz f v r) from rfl];by_cases hk:k=f
  ·rw[if_pos hk,bB,bB];lia
  ·rw[if_neg hk,bB,bB];lia
theorem AM.some_of (r:AM (some v) o):∃u,o=some u/\RelV v u:=by
 cases o with
 | none=>exact (show False from r).elim
 | some u=>exact ⟨u,rfl,r⟩
theorem AM.none_of (r:AM none o):o=none:=by
 cases o with
 | none=>rfl
 | some u=>exact (show False from r).elim
theorem JQ (r:RelV v u):PySem.W.handedIn u=true:=by
 cases v with
 | non=>cases (show u=Value.none from r);rfl
 | bl b=>cases (show u=Value.bool b from r);rfl
 | int i=>obtain ⟨t,e⟩:=(show ∃t,u=Value.int i t from r);cases e;rfl
 | str x=>obtain ⟨t,e⟩:=(show ∃t,u=Value.str x t from r);cases e;rfl
 | byt b=>obtain ⟨t,e⟩:=(show ∃t,u=Value.bytes b t from r);cases e;rfl
 | flt b=>obtain ⟨t,e⟩:=(show ∃t,u=Value.float b t from r);cases e;rfl
 | ref a=>cases (show u=Value.ref a from r);rfl
 | ty n=>cases (show u=Value.type n from r);rfl
section
variable {P:Program} {w:World} {H H':Hp} {h h':Heap} {a C dx:Addr} {fs fs':List (Str×V)}
theorem yj (hok:ym P w H h) (e:H a=some (.ins C dx fs)):∃mA,GG h a dx C mA/\(∀f,AM (fs.lookup f) (mA f))/\PySem.Within mA (fs.map (·.1))/\fs.length<=1000/\H dx=some (.own a):=by
 obtain ⟨d,z,ne,ob,mA,n,r,q⟩:=(show jm P w H h a (.ins C dx fs) from hok a _ e);exact ⟨mA,⟨ob,n,ne⟩,r,q,z,d⟩
end
structure Kb (K:FG9) (C:Addr):Prop where
 pg:PySem.W.plainGet K C Str.empty=true
 hd:PySem.W.hasDictIn K C=true
 po:PySem.W.plainOver K C=true
 sa:PySem.W.findIn K (.ref C) "__setattr__"=some (some (.builtin "object.__setattr__"))
theorem Kb.get {K:FG9} (c:Kb K C) (f:Str):PySem.W.plainGet K C f=true:=c.pg
def jK (K:FG9) (C:Addr) (f:Str):Prop:=PySem.W.findIn K (.ref C) f=some none
theorem jK.taker {K:FG9} (n:jK K C f):PySem.W.takerIn K C f=some none:=by
 unfold PySem.W.takerIn;rw[show PySem.W.findIn K (.ref C) f=some none from n];rfl
structure Qw (K:FG9) (C:Addr) (m:Str) (f:Addr):Prop where
 at_:PySem.W.findIn K (.ref C) m=some (some (.ref f))
 fn:PySem.W.isFn K (.ref f)=true
 kp:PySem.W.keepIn K (.ref f)=true
section
variable {X:Cx} {pins:List (Addr×Obj)} {σ:St} {H:Hp} {s:Shared} {a C dx:Addr} {fs:List (Str×V)} {f:Str} {v:V} {A:Around} {E:Value->Shared->Prop}
theorem Ge (I:Inv X pins σ H s) (e:H a=some (.ins C dx fs)) (c:Kb X.K C) (n:jK X.K C f) (l:fs.lookup f=some v)
  (h:∀u s',Inv X pins σ H s'->RelV v u->Q u s'):wpAny (model X.prog X.w) A (getAttr (.ref a) f b) Q E s:=by
 obtain ⟨mA,O,r,_,_,_⟩:=yj I.hok e;obtain ⟨u,hu,ru⟩:=AM.some_of (v:=v) (o:=mA f) (by rw[<- l];exact r f);exact get_map I.kIn O (c.get f) c.hd n hu (JQ ru) (h u _ (I.tok _) ru)
theorem Gd (I:Inv X pins σ H s) (e:H a=some (.ins C dx fs)) (c:Kb X.K C) (k:Qw X.K C m g) (l:fs.lookup m=none)
  (h:Q (.ref g,[.ref a]) s):wpAny (model X.prog X.w) A (getMethod (.ref a) m pl) Q E s:=by
 obtain ⟨mA,O,r,_,_,_⟩:=yj I.hok e;have hn:mA m=none:=AM.none_of (by rw[<- l];exact r m);exact LH I.kIn O (c.get m) k.at_ k.fn hn h
theorem Fz (I:Inv X pins σ H s) (e:H a=some (.ins C dx fs)) (c:Kb X.K C) (n:jK X.K C f) (hl:fs.length < 1000) (ry:RelV y u)
  (h:∀s',Inv X pins σ (upd H a (.ins C dx (cz f y fs))) s'->Q () s'):wpAny (model X.prog X.w) A (setAttr (.ref a) f u) Q E s:=by
 obtain ⟨mA,O,r,wi,_,ho⟩:=yj I.hok e;have hz:(fs.map (·.1)).length<=sizeLine:=by rw[ai,sizeLine_eq];lia
 refine MU I.kIn O c.sa c.po n.taker c.hd wi hz λh' O' sb=>h _ ?_
 have hd:∃o,h'.get? dx=some o:=let ⟨o,_,_,e',_⟩:=O'.ns;⟨o,e'⟩
 refine I.write (x:=a) (e:=dx) (by rw[e];exact True.intro) (.inr ho) (λb q hb z=>(sb.2 b hb).trans z) hd ?_;refine ⟨by rw[bE O.ne];exact ho,?_,O.ne,O'.obj,_,O'.ns,λg=>?_,λg hg=>?_⟩
 ·have:=wZ f y fs;lia
 ·show AM ((cz f y fs).lookup g) (if g=f then some u else mA g)
  rw[bG];by_cases q:g=f
  ·rw[if_pos q,if_pos q];exact ry
  ·rw[if_neg q,if_neg q];exact r g
 ·by_cases q:g=f
  ·rw[q];exact (vX f y fs).1
  ·refine (vX f y fs).2 g (wi g λz=>hg ?_);show (if g=f then some u else mA g)=none
   rw[if_neg q];exact z
theorem Inv.made (I:Inv X pins σ H s):Inv X pins σ (upd (upd H s.heap.objs.size (.own (s.heap.objs.size+1))) (s.heap.objs.size+1) (.ins C s.heap.objs.size []))
  { s with heap:=(s.heap.push PySem.W.emptyDict).push (PySem.W.instObj C s.heap.objs.size) }:=by
 have e1:(s.heap.push PySem.W.emptyDict).get? s.heap.objs.size=some PySem.W.emptyDict:=Heap.get?_push_size s.heap rfl
 have e2:((s.heap.push PySem.W.emptyDict).push (PySem.W.instObj C s.heap.objs.size)).get? (s.heap.objs.size+1)=some (PySem.W.instObj C s.heap.objs.size):=by
  have:=Heap.get?_push_size (s.heap.push PySem.W.emptyDict) (o:=PySem.W.instObj C s.heap.objs.size) rfl;rwa [Heap.size_push] at this
 have e3:(s.heap.push PySem.W.emptyDict).Ns s.heap.objs.size (λ_=>none):=⟨PySem.W.emptyDict,#[],_,e1,rfl,(λe he=>absurd he (by simp)),λ_=>rfl⟩;have I1:=I.laid (a:=s.heap.objs.size) (o:=.own (s.heap.objs.size+1)) (h':=s.heap.push PySem.W.emptyDict) (t':=s.toks) (λb u q=>Heap.get?_push_of_some _ q) (ao _) ⟨_,e1⟩;refine I1.laid (a:=s.heap.objs.size+1) (o:=.ins C s.heap.objs.size []) (t':=s.toks) (λb u q=>Heap.get?_push_of_some _ q) (Nat.le_of_eq (Heap.size_push _ _)) ?_;have ne:s.heap.objs.size≠s.heap.objs.size+1:=bY (iK _);refine ⟨by rw[bE ne,aM],br _,ne,e2,λ_=>none,(Heap.Ns1.of_empty e3).at λo q=>Heap.get?_push_of_some _ q,λ_=>True.intro,λy hy=>absurd rfl hy⟩
theorem Ob (hb:attributeBase e f env (eval e env)=eval e env)
  (h:wpAny (model prog w) A (eval e env) (λo s₁=>wpAny (model prog w) A (getAttr o f true) Q E s₁) E s):wpAny (model prog w) A (eval (.Attribute e f pos) env) Q E s :=
 Attribute_any_ h (by rw[arm_eval_Attribute,hb])
end
def O1 (K:FG9) (ta:TE) (f:Str):TE:=λσ H Q=>ta σ H λx H1=>∃a C dx fs v,x=.ref a/\H1 a=some (.ins C dx fs)/\Kb K C/\jK K C f/\fs.lookup f=some v/\Q v H1
def Q9 (K:FG9) (ta tv:TE) (f:Str):TS:=λD σ H=>tv σ H λy H1=>ta σ H1 λx H2=>∃a C dx fs,x=.ref a/\H2 a=some (.ins C dx fs)/\Kb K C/\jK K C f/\fs.length < 1000 /\
 D.nx σ (upd H2 a (.ins C dx (cz f y fs)))
section
variable {X:Cx} {o e value:Expr} {f:Str} {pos pos' tpos:Pos} {ta tv:TE}
theorem iN (he:PE X e ta) (hb:attributeBase e f X.env (eval e X.env)=eval e X.env):PE X (.Attribute e f pos) (O1 X.K ta f):=by
 intro pins s σ H Q I h;refine Ob hb (gK (he pins s σ H _ I h) λu s1 ⟨x,H1,I1,rx,a,C,dx,fs,v,ex,ea,c,n,l,q⟩=>?_);subst ex;obtain rfl:u=Value.ref a:=rx;exact Ge I1 ea c n l λu' s2 I2 ru=>⟨v,H1,I2,ru,q⟩
theorem vO (ha:PE X o ta) (hv:PE X value tv) (hs:swapsWith value (some (.Attribute o f pos')) pos.line X.env=pure false):PS X (.Assign [.Attribute o f pos'] value pos) (Q9 X.K ta tv f):=by
 intro pins s σ H D I h;refine plainObj_wpAny_Assign_Attribute (gK (hv pins s σ H _ I h) λu s1 ⟨y,H1,I1,ry,q⟩=>gK (ha pins s1 σ H1 _ I1 q) λov s2 ⟨x,H2,I2,rx,a,C,dx,fs,ex,ea,c,n,l,q2⟩=>?_) hs;subst ex;obtain rfl:ov=Value.ref a:=rx;exact Fz I2 ea c n l ry λs3 I3=>⟨σ,_,I3,q2⟩
end
section
variable {X:Cx} {pins:List (Addr×Obj)} {σ:St} {H:Hp} {s:Shared} {A:Around} {E:Value->Shared->Prop} {Q:Value->Shared->Prop} {c:Value} {b:Bool}
inductive wH (K:FG9) (H:Hp):V->Value->Prop where
 | non:wH K H .non (.type "NoneType")
 | bl (x:Bool):wH K H (.bl x) (.type "bool")
 | int (i:Int):wH K H (.int i) (.type "int")
 | str (x:Str):wH K H (.str x) (.type "str")
 | flt (x:UInt64):wH K H (.flt x) (.type "float")
 | lst {a:Addr} {xs:List V} (e:H a=some (.lst xs)):wH K H (.ref a) (.type "list")
 | frz {a:Addr} {o:Obj} {xs:List V} (e:H a=some (.frz o (.lst xs))):wH K H (.ref a) (.type "list")
 | tup {a:Addr} {xs:List V} (e:H a=some (.tup xs)):wH K H (.ref a) (.type "tuple")
 | dK {a:Addr} {kvs:List (Key×V)} (e:H a=some (.dK kvs)):wH K H (.ref a) (.type "dict")
 | dT {a:Addr} {kvs:List (List Key×V)} (e:H a=some (.dT kvs)):wH K H (.ref a) (.type "dict")
 | ins {a C dx:Addr} {fs:List (Str×V)} (e:H a=some (.ins C dx fs)) (cl:Kb K C) (ha:PySem.W.findIn K (.ref C) "__class__"=some (some (.builtin "object.__class__")))
   (hn:PySem.W.specialIn K (.builtin "object.__class__") "__get__"=some (some (.builtin "getset_descriptor.__get__"))) (htk:PySem.W.takesIn K (.builtin "object.__class__")=some true)
   (hm:PySem.W.mroIn K C (.type "object")=some true):wH K H (.ref a) (.ref C)
theorem Bp (I:Inv X pins σ H s) (rx:RelV x u) (ty:wH X.K H x t) (e:PySem.W.kitOne X.K t c=some b) (h:∀tk,Q (.bool b) { s with toks:=tk }) :
  wpAny (model X.prog X.w) A (call (.builtin "isinstance") [u,c]) Q E s:=by
 cases ty with
 | non=>cases (show u=Value.none from rx);exact dw PySem.W.kitx_none I.kIn True.intro e (λz=>nomatch z) h
 | bl y=>cases (show u=Value.bool y from rx);exact dw PySem.W.kitx_bool I.kIn True.intro e (λz=>nomatch z) h
 | int i=>obtain ⟨t,q⟩:=(show ∃t,u=Value.int i t from rx);cases q;exact dw PySem.W.kitx_int I.kIn True.intro e (λz=>nomatch z) h
 | str y=>obtain ⟨t,q⟩:=(show ∃t,u=Value.str y t from rx);cases q;exact dw PySem.W.kitx_str I.kIn True.intro e (λz=>nomatch z) h
 | flt y=>obtain ⟨t,q⟩:=(show ∃t,u=Value.float y t from rx);cases q;exact dw PySem.W.kitx_float I.kIn True.intro e (λz=>nomatch z) h
 | @lst a xs ea =>
  cases (show u=Value.ref a from rx);obtain ⟨_,_,n,_,h1⟩:=(show jm X.prog X.w H s.heap a (.lst xs) from I.hok a _ ea);exact dw PySem.W.kitx_list I.kIn ⟨_,h1,rfl⟩ e (λz=>nomatch z) h
 | @frz a ob xs ea =>
  cases (show u=Value.ref a from rx);obtain ⟨_,_,_,n,_,h1⟩:=(show jm X.prog X.w H s.heap a (.frz ob (.lst xs)) from I.hok a _ ea);exact dw PySem.W.kitx_list I.kIn ⟨_,h1,rfl⟩ e (λz=>nomatch z) h
 | @tup a xs ea =>
  cases (show u=Value.ref a from rx);obtain ⟨_,_,_,p⟩:=(show jm X.prog X.w H s.heap a (.tup xs) from I.hok a _ ea);obtain ⟨o,h1,h2,_⟩:=p;exact dw PySem.W.kitx_tuple I.kIn ⟨o,h1,h2⟩ e (λz=>nomatch z) h
 | @dK a kvs ea =>
  cases (show u=Value.ref a from rx);obtain ⟨_,_,vs,_,p⟩:=(show jm X.prog X.w H s.heap a (.dK kvs) from I.hok a _ ea);obtain ⟨o,es,ep,h1,h2,_⟩:=p;exact dw PySem.W.kitx_dict I.kIn ⟨o,h1,h2.1⟩ e (λz=>nomatch z) h
 | @dT a kvs ea =>
  cases (show u=Value.ref a from rx);obtain ⟨_,_,xs,_,o,es,ep,h1,h2,_⟩:=(show jm X.prog X.w H s.heap a (.dT kvs) from I.hok a _ ea);exact dw PySem.W.kitx_dict I.kIn ⟨o,h1,h2.1⟩ e (λz=>nomatch z) h
 | @ins a C dx fs ea cl ha hn htk hm =>
  cases (show u=Value.ref a from rx);obtain ⟨mA,O,_⟩:=yj I.hok ea;obtain ⟨od,J,_⟩:=O.look;exact dw (PySem.W.kitx_own (cl.get _) cl.hd ha hn htk hm) I.kIn J e (λz=>nomatch z) h
end
structure ks (k:Nat) (A:Around):Prop where
 hd:A.handled=none
 dp:A.depth+3*k+105 < recursionLimit
 un:A.units+16*k+200 < cLine
theorem ks.mono (r:ks k A) (h:j<=k):ks j A:=⟨r.hd,by have:=r.dp;lia,by have:=r.un;lia⟩
theorem ks.deeper (r:ks (k+1) A) (env:Env):ks k (A.deeper env) :=
 ⟨r.hd,by have:=r.dp;show A.depth+1+3*k+105 < _;lia,by have:=r.un;show A.units+3+16*k+200 < _;lia⟩
theorem F4 {A:Around}:(A.under (.builtin "type.__call__" ⟨.ref C :: us,kw⟩)).depth=A.depth+1:=by
 first | rfl | simp [Around.under,Code.weight,Code.isCreation,Code.isGuard,Code.isCaller,Code.frames,Code.isFrame,guardIds]
theorem F3 {A:Around}:(A.under (.builtin "type.__call__" ⟨.ref C :: us,kw⟩)).units=A.units+1:=by
 first | rfl | simp [Around.under,Code.cUnits,Code.frames,Code.isFrame]
theorem ks.make (r:ks (k+1) A) (C:Addr) (us:List Value) (kw:List (Str×Value)):ks k (A.under (.builtin "type.__call__" ⟨.ref C :: us,kw⟩)) :=
 ⟨r.hd,by have:=r.dp;rw[F4];lia,by have:=r.un;rw[F3];lia⟩
theorem ks.depth (r:ks k A):A.depth < recursionLimit:=by have:=r.dp;lia
theorem ks.units (r:ks k A):A.units+64 < cLine:=by have:=r.un;lia
def Jc:TA:=λ_ H Q=>Q [] H
def pL (ta:TE) (tr:TA):TA:=λσ H Q=>ta σ H λx H1=>tr σ H1 λxs H2=>Q (x :: xs) H2
section
variable {X:Cx} {e:Expr} {es:List Expr} {te:TE} {t:TA} {pos:Pos}
theorem aj:PA X [] Jc:=λ_ _ _ _ H Q I h=>Calls.spliced_nil ⟨[],H,I,.nil,h⟩
theorem ae (ha:PE X e te) (hr:PA X es t) (hs:starEach (e :: es) X.env=(false,eval e X.env) :: starEach es X.env:=by rfl):PA X (e :: es) (pL te t):=by
 intro pos pins s σ H Q I h;rw[hs];show wpAny _ _ (spliced ((false,eval e X.env) :: backTo pos (starEach es X.env))) _ _ s
 refine Calls.spliced_cons (gK (ha pins s σ H _ I h) λu s1 ⟨x,H1,I1,r1,q1⟩=>?_);exact gK (hr pos pins s1 σ H1 _ I1 q1) λus s2 ⟨xs,H2,I2,r2,q2⟩=>⟨x :: xs,H2,I2,.cons r1 r2,q2⟩
def QR (t:TA):TE:=λσ H Q=>t σ H λxs H1=>xs.length<=sizeLine/\∀p,H1 p=none->Q (.ref p) (upd H1 p (.tup xs))
def QZ (t:TA):TE:=λσ H Q=>t σ H λxs H1=>xs.length<=sizeLine/\∀p,H1 p=none->Q (.ref p) (upd H1 p (.lst xs))
theorem c6 (h:PA X es t):PE X (.Tuple es x1 pos) (QR t):=by
 intro pins s σ H Q I hq;refine wpAny_Tuple_spliced (gK (h pos pins s σ H _ I hq) λus s1 ⟨xs,H1,I1,r,z,q⟩=>⟨by rw[<- r.length];exact z,?_⟩);have hf:H1 s1.heap.objs.size=none:=I1.hok.fresh (ao _);refine ⟨.ref s1.heap.objs.size,upd H1 s1.heap.objs.size (.tup xs),I1.laid (t':=s1.toks) (λb u e=>Heap.get?_push_of_some _ e) (ao _) ?_,rfl,q _ hf⟩;exact ⟨z,us,r,⟨_,Heap.get?_push_size _ rfl,rfl,_,rfl⟩⟩
theorem dJ (h:PA X es t):PE X (.List es pos) (QZ t):=by
 intro pins s σ H Q I hq;refine wpAny_List_spliced (gK (h pos pins s σ H _ I hq) λus s1 ⟨xs,H1,I1,r,z,q⟩=>⟨by rw[<- r.length];exact z,?_⟩);have hf:H1 s1.heap.objs.size=none:=I1.hok.fresh (ao _);refine ⟨.ref s1.heap.objs.size,upd H1 s1.heap.objs.size (.lst xs),I1.laid (t':=s1.toks) (λb u e=>Heap.get?_push_of_some _ e) (ao _) ?_,rfl,q _ hf⟩;exact ⟨z,us,0,r,Heap.get?_push_size _ rfl⟩
end
abbrev Sp:=List V->Hp->VK->XK->Prop
abbrev Mz:=List Env->Hp->Shared->XK->Value->Shared->Prop
structure GO (P:Program) (w:World) (K:FG9) (mg:Str->Option Value) (base:Heap) (A:Around) (outer:List Env) (s:Shared) (H:Hp):Prop where
 frames:A.frames=some outer
 mod:Mod K mg base
 bs:∀b o,base.get? b=some o->s.heap.get? b=some o/\H b=none
 bsz:base.objs.size<=s.heap.objs.size
 funs:s.heap.FunFrames base outer
 frf:∀b∈J9 outer,H b=none
 hok:ym P w H s.heap
 bare:AllBare s.gens
def CE (outer:List Env) (P:Program) (w:World) (H:Hp) (s:Shared) (Q:VK) (u:Value) (s':Shared):Prop :=
 ∃v H',s'.os=s.os/\AllBare s'.gens/\Un (J9 outer) [] H H' s.heap s'.heap/\ym P w H' s'.heap/\RelV v u/\Q v H'
def CR (CX:Mz) (outer:List Env) (P:Program) (w:World) (H:Hp) (s:Shared) (Q:VK) (E:XK) (r:Result) (s':Shared):Prop :=
 match r with
 | .ok (.ret u)=>CE outer P w H s Q u s'
 | .ok _=>False
 | .error e=>CX outer H s E e s'
structure cN (P:Program) (w:World) (K:FG9) (mg:Str->Option Value) (base:Heap) (CX:Mz) (k:Nat) (f:Addr) (fd:FuncData) (ps:List Str) (sp:Sp):Prop where
 len:∀vs H Q E,sp vs H Q E->vs.length=ps.length
 run:∀(A:Around) (outer:List Env) (s:Shared) (H:Hp) (args:Args) (us:List Value) (vs:List V) (Q:VK) (E:XK),ks k A->GO P w K mg base A outer s H->BindsTo s fd args (ps.zip us)->cY vs us->sp vs H Q E →
  codeAny (model P w) A (.call (.ref f) args) (CR CX outer P w H s Q E) s
theorem GO.make {K:FG9} (e:GO P w K mg base A outer s H) (C:Addr) (us:List Value) (kw:List (Str×Value)) :
  GO P w K mg base (A.under (.builtin "type.__call__" ⟨.ref C :: us,kw⟩)) outer s H:=⟨by first | exact e.frames | (simpa [Around.under,Code.envs,Code.isFrame,pushEnvs] using e.frames),e.mod,e.bs,e.bsz,e.funs,e.frf,e.hok,e.bare⟩
section
variable {X:Cx} {pins:List (Addr×Obj)} {σ:St} {H:Hp} {s s':Shared}
theorem Inv.env0 (I:Inv X pins σ H s):GO X.prog X.w X.K X.mg X.base X.A X.stack s H :=
 ⟨I.ok.frames,I.ok.mod,I.bs,ag I.ok.bsz I.sz,I.stack,I.stkFree,I.hok,I.bare⟩
theorem Inv.after (I:Inv X pins σ H s) (h:CE X.stack X.prog X.w H s Q u s'):EP X pins σ Q u s':=by
 obtain ⟨v,H',os,bare,un,hok,r,q⟩:=h;obtain ⟨hh,g,d,t,os'⟩:=s';obtain rfl:os'=s.os:=os;exact ⟨v,H',I.call (h':=hh) (g':=g) (d':=d) (t':=t) (ch:=[]) un hok bare (λb z=>absurd z (by simp)),r,q⟩
end
def Ks (sp:Sp) (dvs:List V) (E:XK) (t:TA):TE:=λσ H Q=>t σ H λvs H1=>sp (vs++dvs) H1 Q E
def Ot (C:Addr) (m:Str) (sp:Sp) (dvs:List V) (E:XK) (ta:TE) (t:TA):TE:=λσ H Q=>ta σ H λx H1=>∃a dx fs,x=.ref a/\H1 a=some (.ins C dx fs)/\fs.lookup m=none /\
 t σ H1 λvs H2=>sp (x :: (vs++dvs)) H2 Q E
def Ou (C:Addr) (sp:Sp) (dvs:List V) (E:XK) (t:TA):TE:=λσ H Q=>t σ H λvs H1=>∀x dx,H1 x=none->H1 dx=none->dx≠x →
 sp (.ref x :: (vs++dvs)) (upd (upd H1 dx (.own x)) x (.ins C dx [])) (λv H2=>v=.non/\Q (.ref x) H2) E
def Binds (K:FG9) (fd:FuncData) (ps:List Str) (ds:List Value):Prop :=
 ∀(s:Shared) (us:List Value),K.In s.heap->(us++ds).length=ps.length->BindsTo s fd ⟨us,[]⟩ (ps.zip (us++ds))
theorem Binds.all {K:FG9} (h:∀us:List Value,us.length=ps.length->bindArgs fd ⟨us,[]⟩=pure (ps.zip us)):Binds K fd ps []:=λs us _ hl=>by
 rw[kW] at hl ⊢;exact .of_eq (h us hl)
def wJ (CX:Mz) (X:Cx) (E:XK):Prop:=∀(pins:List (Addr×Obj)) (σ:St) (H:Hp) (s:Shared) (e:Value) (s':Shared),Inv X pins σ H s->CX X.stack H s E e s'->X.xe e s'
section
variable {X:Cx} {CX:Mz} {k:Nat} {f C:Addr} {fd:FuncData} {ps:List Str} {sp:Sp} {dvs:List V} {ds:List Value} {E:XK} {x m:Str} {p pos apos:Pos} {e o:Expr} {es:List Expr} {ta:TE} {t:TA}
theorem KO {σ:St} (F:cN X.prog X.w X.K X.mg X.base CX k f fd ps sp) (hr:ks k X.A) (hb:Binds X.K fd ps ds) (hd:cY dvs ds) (hx:wJ CX X E)
  (I:Inv X pins σ H s) (r:cY vs us) (h:sp (vs++dvs) H Q E):wpAny (model X.prog X.w) X.A (call (.ref f) us) (EP X pins σ Q) X.xe s:=by
 have r2:cY (vs++dvs) (us++ds):=r.append hd;have hl:(us++ds).length=ps.length:=by rw[<- r2.length];exact F.len _ _ _ _ h
 refine wpAny_call (codeAny_mono (F.run X.A X.stack s H ⟨us,[]⟩ (us++ds) (vs++dvs) Q E hr I.env0 (hb s us I.kIn hl) r2 h) λr s' hq=>?_);cases r with
 | error e=>exact hx pins σ H s e s' I hq
 | ok fl =>
  cases fl with
  | ret u=>exact I.after hq
  | next=>exact False.elim hq
  | brk=>exact False.elim hq
  | cont=>exact False.elim hq
theorem NG (F:cN X.prog X.w X.K X.mg X.base CX k f fd ps sp) (hr:ks k X.A) (hg:Gl X x) (hm:X.mg x=some (.ref f)) (hk:PySem.W.keepIn X.K (.ref f)=true) (hb:Binds X.K fd ps ds) (hd:cY dvs ds) (hx:wJ CX X E)
  (ha:PA X (e :: es) t) (hdb:(x == ("__debug__":Str))=false:=by decide) (he:starEach (e :: es) X.env=(false,eval e X.env) :: starEach es X.env:=by rfl) (hpl:(backTo pos (starEach es X.env)).any (·.1)=false:=by rfl) :
  PE X (.Call (.Name x p) (e :: es) [] pos) (Ks sp dvs E t):=by
 intro pins s σ H Q I h;refine wpAny_Call_Name_kw (CZ I hg hm ?_ hdb);refine Fo (h₀:=X.base) I.ok.mod.kin hk (gK (ha pos pins s σ H _ I h) λus s1 ⟨vs,H1,I1,r,q⟩=>⟨I1.kIn,?_⟩) he hpl;exact KO F hr hb hd hx I1 r q
theorem NC {pl : Sem Bool} (he : PE X o ta) (c : Kb X.K C) (hm : Qw X.K C m f) (F : cN X.prog X.w X.K X.mg X.base CX k f fd ps sp) (hr : ks k X.A) (hb : Binds X.K fd ps ds) (hd : cY dvs ds) (hx : wJ CX X E) (ha : PA X (e :: es) t)
    (hst : starEach (e :: es) X.env = (false, eval e X.env) :: starEach es X.env := by rfl) (hpl : (backTo pos (starEach es X.env)).any (·.1) = false := by rfl)
    (ht : eval (.Call (.Attribute o m apos) (e :: es) [] pos) X.env = (do
      let ov <- eval o X.env
      standAt apos.atName
      let (f, first) <- holding [ov] (getMethod ov m pl)
      callWith pos f first (backTo pos (starEach (e :: es) X.env)) (backToKw pos (keywordEach [] X.env))) := by rfl) :
    PE X (.Call (.Attribute o m apos) (e :: es) [] pos) (Ot C m sp dvs E ta t) := by
  intro pins s σ H Q I h;refine PySem.W.methodCall_KW (pl := pl) (gK (he pins s σ H _ I h) λu s1 ⟨x, H1, I1, rx, a, dx, fs, ex, ea, l, q⟩ => ?_) ht;subst ex;obtain rfl : u = Value.ref a := rx;refine Gd I1 ea c hm l ?_;refine Fo (first := [.ref a]) (h₀ := X.base) I.ok.mod.kin hm.kp (gK (ha pos pins s1 σ H1 _ I1 q) λus s2 ⟨vs, H2, I2, r, q2⟩ => ⟨I2.kIn, ?_⟩) hst hpl;exact KO (us := .ref a :: us) (vs := .ref a :: vs) F hr hb hd hx I2 (.cons rfl r) q2
structure Mk (K:FG9) (C f:Addr):Prop where
 makes:PySem.W.makesIn K C=true
 init:PySem.W.findIn K (.ref C) "__init__"=some (some (.ref f))
 fn:PySem.W.isFn K (.ref f)=true
 kp:PySem.W.keepIn K (.ref C)=true
theorem KN {σ:St} (M:Mk X.K C f) (F:cN X.prog X.w X.K X.mg X.base CX k f fd ps sp) (hr:ks (k+1) X.A) (hb:Binds X.K fd ps ds) (hd:cY dvs ds)
  (hx:wJ CX X E) (I:Inv X pins σ H s) (r:cY vs us)
  (h:∀x dx,H x=none->H dx=none->dx≠x->sp (.ref x :: (vs++dvs)) (upd (upd H dx (.own x)) x (.ins C dx [])) (λv H2=>v=.non/\Q (.ref x) H2) E) :
  wpAny (model X.prog X.w) X.A (call (.ref C) us) (EP X pins σ Q) X.xe s:=by
 have hq:=h (s.heap.objs.size+1) s.heap.objs.size (I.hok.fresh (vm _)) (I.hok.fresh (ao _)) (bY (iK _));have I2:=Inv.made (C:=C) I;have r2:cY (V.ref (s.heap.objs.size+1) :: (vs++dvs)) (Value.ref (s.heap.objs.size+1) :: (us++ds)):=.cons rfl (r.append hd)
 have hl:(Value.ref (s.heap.objs.size+1) :: us++ds).length=ps.length:=by
  have e:=r2.length;rw[F.len _ _ _ _ hq] at e;exact e.symm
 refine wpAny_call (Lq (f:=f) I.kIn M.makes M.init (beq_iff_eq.mp M.fn) (codeAny_mono (F.run _ X.stack _ _ ⟨Value.ref (s.heap.objs.size+1) :: us,[]⟩ (Value.ref (s.heap.objs.size+1) :: (us++ds)) _ _ E (hr.make C us [])
  (I2.env0.make C us []) (hb _ (Value.ref (s.heap.objs.size+1) :: us) I2.kIn hl) r2 hq) λr s' hq'=>?_))
 cases r with
 | error e=>exact hx pins σ _ _ e s' I2 hq'
 | ok fl =>
  cases fl with
  | ret u =>
   obtain ⟨v,H',I3,rv,ev,q3⟩:=I2.after hq';subst ev;exact ⟨rv,⟨V.ref (s.heap.objs.size+1),H',I3,rfl,q3⟩⟩
  | next=>exact False.elim hq'
  | brk=>exact False.elim hq'
  | cont=>exact False.elim hq'
theorem ND (M:Mk X.K C f) (F:cN X.prog X.w X.K X.mg X.base CX k f fd ps sp) (hr:ks (k+1) X.A) (hg:Gl X x) (hm:X.mg x=some (.ref C)) (hb:Binds X.K fd ps ds) (hd:cY dvs ds) (hx:wJ CX X E)
  (ha:PA X (e :: es) t) (hdb:(x == ("__debug__":Str))=false:=by decide) (he:starEach (e :: es) X.env=(false,eval e X.env) :: starEach es X.env:=by rfl) (hpl:(backTo pos (starEach es X.env)).any (·.1)=false:=by rfl) :
  PE X (.Call (.Name x p) (e :: es) [] pos) (Ou C sp dvs E t):=by
 intro pins s σ H Q I h;refine wpAny_Call_Name_kw (CZ I hg hm ?_ hdb);refine Fo (h₀:=X.base) I.ok.mod.kin M.kp (gK (ha pos pins s σ H _ I h) λus s1 ⟨vs,H1,I1,r,q⟩=>⟨I1.kIn,?_⟩) he hpl;exact KN M F hr hb hd hx I1 r q
end
structure a9 (N P:List Str) (sc:Scope):Prop where
 kind:sc.kind=.function
 co:sc.isCoroutine=false
 gen:sc.isGenerator=false
 nd:N.Nodup
 pre:N.take P.length=P
 par:∀x∈P,sc.names.lookup x=some .local\/sc.names.lookup x=some .cell
 nofree:∀y∈sc.names,y.2≠.free
theorem BH {kindOf:Str->Option NameKind} {x:Str}:∀{binds:List (Str×Value)} {m:Str->Option Value},(∀v,(x,v)∉binds)->bindL kindOf binds m x=m x
 | [],_,_=>rfl
 | (n,v) :: r,m,h=>by
  unfold bindL;rw[BH λw hw=>h w (bW _ hw)]
  split
  ·have:x≠n:=by rintro rfl;exact h v dn
   simp [this]
  ·rfl
theorem BJ {kindOf:Str->Option NameKind} {x:Str}:∀{binds:List (Str×Value)} {m:Str->Option Value},(∀v,(x,v)∉binds)->bindC kindOf binds m x=m x
 | [],_,_=>rfl
 | (n,v) :: r,m,h=>by
  unfold bindC;rw[BJ λw hw=>h w (bW _ hw)]
  split
  ·rfl
  ·have:x≠n:=by rintro rfl;exact h v dn
   simp [this]
theorem BI {kindOf:Str->Option NameKind} {x:Str} {v:Value}:∀{P:List Str} {vs:List Value} {i:Nat} {m:Str->Option Value},P.Nodup->P[i]?=some x->vs[i]?=some v->kindOf x=some .local →
  bindL kindOf (P.zip vs) m x=some v
 | [],_,_,_,_,h,_,_=>by simp at h
 | _ :: _,[],_,_,_,_,h,_=>by simp at h
 | p :: P,w :: vs,0,m,nd,h1,h2,hk=>by
  simp at h1 h2;subst h1;subst h2;show bindL kindOf ((p,w) :: P.zip vs) m p=_
  unfold bindL;rw[BH λv hv=>(eB.mp nd).1 (MC hv).1,if_pos hk];simp
 | p :: P,w :: vs,i+1,m,nd,h1,h2,hk=>by
  show bindL kindOf ((p,w) :: P.zip vs) m x=_
  unfold bindL;exact BI (i:=i) (eB.mp nd).2 (by simpa using h1) (by simpa using h2) hk
theorem BK {kindOf:Str->Option NameKind} {x:Str} {v:Value}:∀{P:List Str} {vs:List Value} {i:Nat} {m:Str->Option Value},P.Nodup->P[i]?=some x->vs[i]?=some v->kindOf x≠some .local →
  bindC kindOf (P.zip vs) m x=some v
 | [],_,_,_,_,h,_,_=>by simp at h
 | _ :: _,[],_,_,_,_,h,_=>by simp at h
 | p :: P,w :: vs,0,m,nd,h1,h2,hk=>by
  simp at h1 h2;subst h1;subst h2;show bindC kindOf ((p,w) :: P.zip vs) m p=_
  unfold bindC;rw[BJ λv hv=>(eB.mp nd).1 (MC hv).1,if_neg hk];simp
 | p :: P,w :: vs,i+1,m,nd,h1,h2,hk=>by
  show bindC kindOf ((p,w) :: P.zip vs) m x=_
  unfold bindC;exact BK (i:=i) (eB.mp nd).2 (by simpa using h1) (by simpa using h2) hk
def start (N:List Str) (vs:List V):St:=vs.map some++List.replicate (N.length - vs.length) none
def JS (CX:Mz) (P:Program) (w:World) (K:FG9) (mg:Str->Option Value) (base:Heap) (N:List Str) (qual:Str) (scope:Scope) (f:Addr) (cd:Value) (A:Around) (outer:List Env) (s:Shared) (H:Hp) (E:XK):Cx where
 prog:=P
 w:=w
 K:=K
 mg:=mg
 base:=base
 A:=A.deeper (envOfC qual scope s.heap.objs.size f cd)
 N:=N
 s₀:=s
 H₀:=H
 env:=envOfC qual scope s.heap.objs.size f cd
 outer:=outer
 stack:=envOfC qual scope s.heap.objs.size f cd :: outer
 ex:=[]
 calm:=true
 fn:=λ_=>true
 pn:=[]
 xe:=λe s'=>wpAny (model P w) (A.deeper (envOfC qual scope s.heap.objs.size f cd)) (leaving (envOfC qual scope s.heap.objs.size f cd) e) (λ_ s''=>CX outer H s E e s'') (λe' s''=>CX outer H s E e' s'') s'
theorem EO {sc:Scope} (h:sc.names.lookup x=some .cell):∃c,(cellsFrom n sc.names []).lookup x=some c:=by
 have q:=yo sc.names n [] (.inl h);exact QL.mp q
theorem JM {K:FG9} 
  (S:a9 N ps scope) (hd:A.handled=none) (e0:GO P w K mg base A outer s H) (hl:vs.length=ps.length) (r:cY vs us)
  (x:InCallC s s.heap.objs.size (bindL (envOfC qual scope s.heap.objs.size f cd).kindOf (ps.zip us) λ_=>none) (cellsFrom (s.heap.objs.size+1) scope.names []) (bindC (envOfC qual scope s.heap.objs.size f cd).kindOf (ps.zip us) λ_=>none) s1) :
  Inv (JS CX P w K mg base N qual scope f cd A outer s H E) [] (start N vs) H s1:=by
 have hpl:ps.length<=N.length:=by have:=congrArg List.length S.pre;rw[cv] at this;lia
 obtain ⟨h1,tk,rfl,hk⟩:=x.done;have noA:∀b:Addr,b∉(JS CX P w K mg base N qual scope f cd A outer s H E).ex:=λb z=>absurd (show b∈([]:List Addr) from z) (by simp)
 refine ⟨⟨e0.mod,S.kind,rfl,rfl,ao _,λy z c h1 h2=>?_,λy hy=>?_,λy c _ h=>?_,λ_=>hd,Around.frames_deeper e0.frames,.inr ⟨rfl,rfl⟩,λb z=>absurd z (noA b),e0.bs,e0.bsz,λb _ _=>noA b,λb z=>absurd z (noA b),e0.funs,e0.frf⟩,
  rfl,e0.bare,Un.kept hk,⟨_,x.toInCall.ns,λi y v h1 h2 h3=>?_⟩,λy c h=>⟨_,x.cell y c h⟩,e0.hok.fresh (ao _),λy c h=>?_,λp hp=>absurd (show p∈([]:List (Addr×Obj)) from hp) (by simp),e0.hok.kept hk,?_⟩
 ·exact name_of_addr x.apart (ky h1) (ky h2)
 ·have hy:scope.names.lookup y=some .cell\/scope.names.lookup y=some .free:=hy;rcases hy with hy | hy
  ·exact EO hy
  ·exact absurd rfl (S.nofree _ (ky hy))
 ·exact bc (x.above y c (ky h))
 ·have hi:i < vs.length:=by
   unfold start at h2;by_cases hi:i < vs.length
   ·exact hi
   ·rw[bN (by simpa using hi)] at h2;rw[xU] at h2
    split at h2 <;> cases h2
  have ha:vs[i]?=some v:=by
   unfold start at h2;rw[cu (by simpa using hi),aH] at h2;cases e:vs[i]? with
   | none=>rw[e] at h2;cases h2
   | some a=>rw[e] at h2;cases h2;rfl
  obtain ⟨u,hu,rv⟩:=r.get ha
  have hp:ps[i]?=some y:=by
   rw[<- S.pre,kK (by lia)];exact h1
  have ndP:ps.Nodup:=by rw[<- S.pre];exact S.nd.sublist (List.take_sublist _ _)
  refine ⟨u,rv,?_⟩;rcases S.par y (av hp) with k | k
  ·exact .inl ⟨k,BI ndP hp hu k⟩
  ·obtain ⟨c,e⟩:=EO (n:=s.heap.objs.size+1) k;refine .inr ⟨.inl k,c,e,?_⟩;have q:=x.cell y c e;rw[BK ndP hp hu (by show scope.names.lookup y≠_;rw[k];decide)] at q;exact q
 ·exact e0.hok.fresh (bc (x.above y c (ky h)))
 ·unfold start;show _=N.length
  rw[ax,ai,bx]
  lia
theorem RN {K:FG9} {dV kV doc pm cdv ct oc:Value} 
 (lk:K.lookup f=some ⟨oc,od,.func (PySem.W.fnOf name qual params body scope dV kV doc pm an cdv ct),osl⟩) (hcd:PySem.W.codeIn K cdv qual=true) (S:a9 N ps scope)
  (len:∀vs H Q E,sp vs H Q E->vs.length=ps.length)
  (hbody:∀(A:Around) (outer:List Env) (s:Shared) (H:Hp) (vs:List V) (Q:VK) (E:XK),ks k (A.deeper (envOfC qual scope s.heap.objs.size f cdv))->sp vs H Q E →
   ∃t,Gz (JS CX P w K mg base N qual scope f cdv A outer s H E) body t/\t { nx:=λ_ H'=>Q .non H',rt:=Q } (start N vs) H) :
  cN P w K mg base CX (k+1) f (PySem.W.fnOf name qual params body scope dV kV doc pm an cdv ct) ps sp:=by
 refine ⟨len,λA outer s H args us vs Q E hr e0 hb r hsp=>?_⟩;have hl:=len _ _ _ _ hsp;have KX:K.In s.heap:=e0.mod.kin.keeps λb o e=>(e0.bs b o e).1
 have lim:s.heap.NoLimit:=e0.mod.nolimit.keeps λb o e=>(e0.bs b o e).1
 have hkind:∀y∈ps.zip us,scope.names.lookup y.1=some .local\/(scope.names.lookup y.1=some .cell/\((cellsFrom (s.heap.objs.size+1) scope.names []).lookup y.1).isSome=true):=λ⟨n,v⟩ hy=>by
  rcases S.par n (MC hy).1 with q | q
  ·exact .inl q
  ·exact .inr ⟨q,yo _ _ _ (.inl q)⟩
 refine codeAny_call_function hr.depth (KX _ _ lk) rfl S.co S.gen rfl (PySem.W.codeRec_of KX hcd) (hb _ _ _ _ ?_);refine wpAny_newFunctionEnv_cells S.kind hkind λenv he s1 x=>?_
 subst he;refine ⟨lim.keeps x.toInCall.keep,codeAny_func ?_⟩;obtain ⟨t,ht,hq⟩:=hbody A outer s H vs Q E (hr.deeper _) hsp;have I:Inv (JS CX P w K mg base N qual scope f cdv A outer s H E) [] (start N vs) H s1:=JM S hr.hd e0 hl r x;refine wpAny_mono (ht [] s1 (start N vs) H _ I hq) (λfl s' hs=>?_) λe s' hs=>hs
 have fin:∀{σ':St} {H':Hp} {v:V} {u:Value},Inv (JS CX P w K mg base N qual scope f cdv A outer s H E) [] σ' H' s'->RelV v u->Q v H'->CE outer P w H s Q u s' :=
  λ{σ' H' v u} J rv q=>⟨v,H',J.os,J.bare,J.base,J.hok,rv,q⟩
 cases fl with
 | ret u =>
  obtain ⟨v,σ',H',J,rv,q⟩:=hs;exact fin J rv q
 | next =>
  obtain ⟨σ',H',J,q⟩:=hs;exact fin (v:=V.non) (u:=Value.none) J rfl q
 | brk =>
  obtain ⟨_,_,_,q⟩:=hs;exact False.elim q
 | cont =>
  obtain ⟨_,_,_,q⟩:=hs;exact False.elim q
section
variable {X:Cx} {x:Str} {p pos:Pos} {e:Expr} {es:List Expr} {t:TA} {id T:String} {r:List V->Hp->VK->Prop}
def Sq (r:List V->Hp->VK->Prop) (t:TA):TE:=λσ H Q=>t σ H λvs H1=>r vs H1 Q
theorem bP (hc:pe X (.builtin id) r) (hg:Gl X x) (hm:X.mg x=none) (hv:bootBuiltins x=some (.builtin id)) (ha:PA X (e :: es) t) (hn:x≠"__name__":=by decide) (hdb:(x == ("__debug__":Str))=false:=by decide)
  (he:starEach (e :: es) X.env=(false,eval e X.env) :: starEach es X.env:=by rfl) (hpl:(backTo pos (starEach es X.env)).any (·.1)=false:=by rfl):PE X (.Call (.Name x p) (e :: es) [] pos) (Sq r t):=by
 intro pins s σ H Q I h;refine wpAny_Call_Name_kw (jE I hg hm hv ?_ hn hdb);exact PyProof.Rows.callWith_builtin1 (gK (ha pos pins s σ H _ I h) λus s1 ⟨vs,H1,I1,r1,q1⟩=>hc pins s1 σ H1 vs us Q I1 r1 q1) he hpl
theorem gN (hc:pe X (.type T) r) (hg:Gl X x) (hm:X.mg x=none) (hv:bootBuiltins x=some (.type T)) (ha:PA X (e :: es) t) (hn:x≠"__name__":=by decide) (hdb:(x == ("__debug__":Str))=false:=by decide)
  (he:starEach (e :: es) X.env=(false,eval e X.env) :: starEach es X.env:=by rfl) (hpl:(backTo pos (starEach es X.env)).any (·.1)=false:=by rfl):PE X (.Call (.Name x p) (e :: es) [] pos) (Sq r t):=by
 intro pins s σ H Q I h;refine wpAny_Call_Name_kw (jE I hg hm hv ?_ hn hdb);exact PyProof.Rows.callWith_type1 (gK (ha pos pins s σ H _ I h) λus s1 ⟨vs,H1,I1,r1,q1⟩=>hc pins s1 σ H1 vs us Q I1 r1 q1) he hpl
end
end L2
namespace HT
open PySem PyProof.Rows
section
open PySem.SeqAt
open PySem.AutoSeq1 (wpAny_loadPart')
open PySem.MeetsSeq PySem.MeetsSeq2 PySem.MeetsSeq3
end
section
variable {prog:Program} {w:World} {A:Around} {E:Value->Shared->Prop} {s:Shared}
def D9 (n d:Nat):Option Int->Nat
 | none=>d
 | some v=>if v < 0 then (v+(n:Int)).toNat else min v.toNat n
theorem D8 (n d:Nat):D9 n d none=d:=rfl
theorem ye (n d k:Nat):D9 n d (some (k:Int))=min k n:=by
 show (if (k:Int) < 0 then ((k:Int)+(n:Int)).toNat else min (k:Int).toNat n)=min k n
 rw[if_neg (by lia),Int.toNat_natCast]
end
end HT
namespace L2
open PySem PySem.Spec PyProof.Rows
abbrev TO:=St->Hp->(Option Int->Hp->Prop)->Prop
def PO (X:Cx) (e:Option Expr) (t:TO):Prop :=
 ∀(pins:List (Addr×Obj)) (s:Shared) (σ:St) (H:Hp) (Q:Option Int->Hp->Prop),Inv X pins σ H s->t σ H Q →
  wpAny (model X.prog X.w) X.A (evalPart e X.env) (λu s'=>∃o H',Inv X pins σ H' s'/\IsPart u o/\Q o H') X.xe s
def GY:TO:=λ_ H Q=>Q none H
def Om (t:TE):TO:=λσ H Q=>t σ H λx H1=>∃i,x=.int i/\Q (some i) H1
theorem intsAre_of:∀{us:List Value},cY (ns.map V.int) us->IntsAre us ns:=by
 induction ns with
 | nil=>intro us r;rw[List.map_nil] at r;cases r;exact .nil
 | cons n ns ih =>
  intro us r;rw[ia] at r;cases r with
  | cons r1 r2 =>
   obtain ⟨t,e⟩:=r1;subst e;exact .cons n t (ih r2)
section
variable {X:Cx} {e:Expr} {te:TE} {lo hi:Option Expr} {tl th:TO} {pos p2:Pos}
theorem HV:PO X none GY:=by
 intro pins s σ H Q I h;rw[evalPart_none];exact wpAny_pure ⟨none,H,I,.none,h⟩
theorem yf (h:PE X e te):PO X (some e) (Om te):=by
 intro pins s σ H Q I hw;rw[evalPart_some];refine gK (h pins s σ H _ I hw) λu s1 ⟨x,H1,I1,r1,q1⟩=>?_
 obtain ⟨i,rfl,q⟩:=q1;obtain ⟨t,rfl⟩:=r1;exact ⟨some i,H1,I1,.int i t,q⟩
def SO (X:Cx) (r:V->Option Int->Option Int->Hp->VK->Prop):Prop :=
 ∀(pins:List (Addr×Obj)) (s:Shared) (σ:St) (H:Hp) (x:V) (v vl vu:Value) (lo hi:Option Int) (sl:Addr) (Q:VK),Inv X pins σ H s->RelV x v->s.heap.IsSliceOf sl vl vu .none->IsPart vl lo->IsPart vu hi->r x lo hi H Q →
  ∃T id,typeLookup (.type T) "__getitem__"=pure (some (.builtin id))/\s.TypeIs v T/\wpAny (model X.prog X.w) X.A (getItem v (.ref sl)) (EP X pins σ Q) X.xe s
def tSl (r:V->Option Int->Option Int->Hp->VK->Prop) (te:TE) (tl th:TO):TE:=λσ H Q=>te σ H λx H1=>tl σ H1 λl H2=>th σ H2 λu H3=>r x l u H3 Q
theorem yZ (hr:SO X r) (he:PE X e te) (hl:PO X lo tl) (hu:PO X hi th):PE X (.Subscript e (.Slice lo hi none p2) pos) (tSl r te tl th):=by
 intro pins s σ H Q I h;refine Subscript_ (gK (he pins s σ H _ I h) λv s1 ⟨x,H1,I1,r1,q1⟩=>?_);refine wpAny_Slice (gK (hl pins s1 σ H1 _ I1 q1) λvl s2 ⟨l,H2,I2,pl,q2⟩=>gK (hu pins s2 σ H2 _ I2 q2) λvu s3 ⟨u,H3,I3,pu,q3⟩=>?_);rw[evalPart_none];refine wpAny_pure ?_;have I4:Inv X pins σ H3 { s3 with heap:=s3.heap.push { cls:=.type "slice",data:=.fields #[vl,vu,.none] } }:=I3.kept (t':=s3.toks) λb ob q=>Heap.get?_push_of_some _ q
 obtain ⟨T,id,hT,ht,hg⟩:=hr pins { s3 with heap:=s3.heap.push { cls:=.type "slice",data:=.fields #[vl,vu,.none] } } σ H3 x v vl vu l u s3.heap.objs.size Q I4 r1 (Heap.IsSliceOf.new ..) pl pu q3;show wpAny (model X.prog X.w) X.A (subscriptTail e (.Slice lo hi none p2) v (.ref s3.heap.objs.size)) (EP X pins σ Q) X.xe { s3 with heap:=s3.heap.push { cls:=.type "slice",data:=.fields #[vl,vu,.none] } }
 exact tail_any (ops:=[.ref s3.heap.objs.size,v]) ht hT hg (by with_unfolding_all rfl)
def rj (xs:List V) (lo hi:Option Int):List V:=(xs.drop (HT.D9 xs.length 0 lo)).take (HT.D9 xs.length xs.length hi - HT.D9 xs.length 0 lo)
theorem xy (xs:List V) (lo hi:Option Int):(rj xs lo hi).length<=xs.length:=by
 unfold rj;rw[cv,Kd]
 lia
end
def J8 (n:Nat) (i:Int):Option Nat:=if 0<=i then (if i < n then some i.toNat else none) else if -(n:Int)<=i then some (i+n).toNat else none
def Gr {α:Type} (xs:List α) (i:Int):Option α:=(J8 xs.length i).bind λj=>xs[j]?
theorem Il (h:J8 n i=some j):seqIndex? i n=some j/\j < n/\-(n:Int)<=i/\i < n:=by
 unfold J8 at h;by_cases h0:0<=i
 ·rw[if_pos h0] at h;by_cases h1:i < n
  ·rw[if_pos h1] at h;have e:i.toNat=j:=cg h;exact ⟨by rw[seqIndex_of h0 h1,e],by lia,by lia,h1⟩
  ·rw[if_neg h1] at h;cases h
 ·rw[if_neg h0] at h;by_cases h1:-(n:Int)<=i
  ·rw[if_pos h1] at h;have e:(i+n).toNat=j:=cg h;exact ⟨by rw[seqIndex_neg (by lia) h1,e],by lia,h1,by lia⟩
  ·rw[if_neg h1] at h;cases h
theorem Dk {xs:List α} {v:α} (h:Gr xs i=some v):∃j,seqIndex? i xs.length=some j/\xs[j]?=some v/\j < xs.length/\-(xs.length:Int)<=i/\i < xs.length:=by
 unfold Gr at h;cases e:J8 xs.length i with
 | none=>rw[e] at h;cases h
 | some j =>
  rw[e] at h;obtain ⟨h1,h2,h3,h4⟩:=Il e;exact ⟨j,h1,h,h2,h3,h4⟩
theorem eJ {xs:List α} {j:Nat} {v:α} (h:xs[j]?=some v):Gr xs (j:Int)=some v:=by
 have hj:j < xs.length:=(aJ.mp h).1
 have e:J8 xs.length (j:Int)=some j:=by
  unfold J8;rw[if_pos (by lia),if_pos (by lia)];simp
 unfold Gr;rw[e];exact h
theorem uR (xs:List α) (v:α):Gr (xs++[v]) (-1)=some v:=by
 have hl:(xs++[v]).length=xs.length+1:=by simp
 have e:J8 (xs++[v]).length (-1)=some xs.length:=by
  unfold J8;rw[hl,if_neg (by decide),if_pos (by lia)];congr 1
  lia
 unfold Gr;rw[e];show (xs++[v])[xs.length]?=some v
 simp
def Od (b:Expr):Prop:=∀o i,subscripted b false o i=operate [o,i] (getItem o i)
def RX (X:Cx) (r:R2):Prop :=
 ∀(value slice:Expr) (pins:List (Addr×Obj)) (s:Shared) (σ:St) (H:Hp) (x y:V) (v u:Value) (Q:VK),Inv X pins σ H s->RelV x v->RelV y u->r x y H Q →
  subscripted slice false v u=operate [v,u] (getItem v u)->wpAny (model X.prog X.w) X.A (subscriptTail value slice v u) (EP X pins σ Q) X.xe s
def MtR (X:Cx) (id:String) (r:V->List V->Hp->VK->Prop):Prop :=
 ∀(pins:List (Addr×Obj)) (s:Shared) (σ:St) (H:Hp) (x:V) (xs:List V) (v:Value) (us:List Value) (Q:VK),Inv X pins σ H s->RelV x v->cY xs us->r x xs H Q →
  wpAny (model X.prog X.w) X.A (call (.builtin id) (v :: us)) (EP X pins σ Q) X.xe s
section
variable {X:Cx} {a b:Expr} {ta tb:TE} {pos:Pos}
theorem a7 {r:R2} (hr:RX X r) (ha:PE X a ta) (hb:PE X b tb) (hs:Od b:=by intro _ _;rfl):PE X (.Subscript a b pos) (QX r ta tb):=by
 intro pins s σ H Q I h;exact Subscript_ (Qs ha hb I h λv u s2 x y H2 I2 rx ry q=>hr a b pins s2 σ H2 x y v u Q I2 rx ry q (hs _ _))
def PJ (K:FG9):R2:=λx y H Q=>∃p xs i v,x=.ref p/\y=.int i/\bO K H p xs/\Gr xs i=some v/\Q v H
def PH (K:FG9):R2:=λx y H Q=>∃p xs i v,x=.ref p/\y=.int i/\sI K H p xs/\Gr xs i=some v/\Q v H
theorem bQ:RX X (PJ X.K):=by
 intro value slice pins s σ H x y v u Q I rx ry h hs;obtain ⟨p,xs,i,z,rfl,rfl,hq,he,q⟩:=h;cases rx;obtain ⟨t,rfl⟩:=ry;obtain ⟨its,r,pl,hz⟩:=I.list hq;obtain ⟨j,h1,h2,h3,h4,h5⟩:=Dk he;obtain ⟨w,ew,rw'⟩:=r.get h2;have hl:=r.length;have hn:=zJ;have fin:EP X pins σ Q w s:=⟨z,H,I,rw',q⟩;by_cases h0:0<=i
 ·have hj:i.toNat=j:=by
   rw[seqIndex_of h0 h5] at h1;exact cg h1
  exact item_listR pl.isList h0 (by lia) (by rw[hj];simpa using ew) fin hs
 ·have hj:(i+(its.toArray.size:Int)).toNat=j:=by
   rw[seqIndex_neg (by lia) h4] at h1;rw[aT,<- hl];exact cg h1
  exact subscriptTail_builtinR (x:=w) pl.isList.typeIs slot_list_getitem.lookup
   (wpAny_getItem_list_neg (Q:=λr s'=>r=w/\EP X pins σ Q r s') pl.isList (by lia) (by rw[aT] <;> lia) (by lia) (by rw[hj];simpa using ew) ⟨rfl,fin⟩) hs
theorem bL:RX X (PH X.K):=by
 intro value slice pins s σ H x y v u Q I rx ry h hs;obtain ⟨p,xs,i,z,rfl,rfl,hq,he,q⟩:=h;cases rx;obtain ⟨t,rfl⟩:=ry;obtain ⟨its,r,pl,hz⟩:=I.tuple hq;obtain ⟨j,h1,h2,h3,h4,h5⟩:=Dk he;obtain ⟨w,ew,rw'⟩:=r.get h2;have hl:=r.length;have hn:=zJ;have fin:EP X pins σ Q w s:=⟨z,H,I,rw',q⟩
 exact subscriptTail_builtinR (x:=w) pl.typeIs slot_tuple_getitem.lookup
  (getItem_tuple (j:=j) (Q:=λr s'=>r=w/\EP X pins σ Q r s') pl (by lia) (by lia) (by rw[aT,<- hl];exact h1) (by simpa using ew) ⟨rfl,fin⟩) hs
theorem F2 (its:List Value) (n j:Nat) (u:Value):Obj.mapSeq (·.setIfInBounds j u) { cls:=.type "list",data:=.seq its.toArray n }={ cls:=.type "list",data:=.seq (its.set j u).toArray n }:=by
 simp [Obj.mapSeq]
theorem Inv.lst {pins:List (Addr×Obj)} {σ:St} {H:Hp} {s:Shared} {p:Addr} {xs:List V} (I:Inv X pins σ H s) (h:H p=some (.lst xs)) :
  ∃(its:List Value) (n:Nat),cY xs its/\s.heap.get? p=some { cls:=.type "list",data:=.seq its.toArray n }/\xs.length<=sizeLine:=by
 obtain ⟨z,its,n,r,e⟩:=I.hok p _ h;exact ⟨its,n,r,e,z⟩
theorem Inv.lstUpd {σ:St} {its its':List Value} (I:Inv X pins σ H s) (h:H p=some (.lst xs))
  (ho:s.heap.get? p=some { cls:=.type "list",data:=.seq its.toArray n }) (hf:f { cls:=.type "list",data:=.seq its.toArray n }={ cls:=.type "list",data:=.seq its'.toArray n' }) (r:cY ys its') (hz:ys.length<=sizeLine) (t:Nat) :
  Inv X pins σ (upd H p (.lst ys)) { s with heap:=s.heap.update p f,toks:=t }:=by
 have e:(s.heap.update p f).get? p=some { cls:=.type "list",data:=.seq its'.toArray n' }:=by
  rw[Heap.get?_update_self f ho (by rw[hf] <;> rfl),hf]
 refine I.write (x:=p) (e:=p) (by rw[h];trivial) (.inl rfl) (λb u hb q=>(Heap.get?_update_other _ _ (Ne.symm hb)).trans q) ⟨_,e⟩ ?_;exact ⟨hz,its',n',r,e⟩
def OA:V->V->V->Hp->(Hp->Prop)->Prop:=λo i v H Q=>∃p xs k j,o=.ref p/\i=.int k/\H p=some (.lst xs)/\J8 xs.length k=some j/\Q (upd H p (.lst (xs.set j v)))
theorem set_list:Qu X OA:=by
 intro pins s σ H o i v ov iv u Q I ro ri rv h;obtain ⟨p,xs,k,j,rfl,rfl,hp,hj,q⟩:=h;cases ro;obtain ⟨t,rfl⟩:=ri;obtain ⟨its,n,r,ho,hz⟩:=I.lst hp;obtain ⟨h1,h2,h3,h4⟩:=Il hj;have hl:=r.length;have hn:=zJ
 have I':Inv X pins σ (upd H p (.lst (xs.set j v))) { s with heap:=s.heap.update p (Obj.mapSeq (·.setIfInBounds j u)) } :=
  I.lstUpd hp ho (F2 its n j u) (r.set rv j) (by rw[eC];exact hz) s.toks
 by_cases h0:0<=k
 ·have hk:k.toNat=j:=by
   rw[seqIndex_of h0 h4] at h1;exact cg h1
  exact PySem.W.ki_setAt ho h0 (by lia) (by rw[aT,<- hl];exact h4) (by rw[hk];exact ⟨_,I',q⟩)
 ·have hk:(k+(its.toArray.size:Int)).toNat=j:=by
   rw[seqIndex_neg (by lia) h3] at h1;rw[aT,<- hl];exact cg h1
  exact PySem.W.ki_setBack ho (by lia) (by rw[aT,<- hl];exact h3) (by lia) (by rw[hk];exact ⟨_,I',q⟩)
theorem Cm (lo hi:Option Int) (n:Nat):(sliceBounds lo hi none n).1=((HT.D9 n 0 lo:Nat):Int)/\(sliceBounds lo hi none n).2.1=((HT.D9 n n hi:Nat):Int)/\(sliceBounds lo hi none n).2.2=1:=by
 refine ⟨?_,?_,rfl⟩
 ·cases lo with
  | none=>simp [sliceBounds,HT.D9]
  | some i =>
   simp only[sliceBounds,HT.D9,Option.getD_none,show (1:Int) > 0 by decide,if_true];by_cases h:i < 0
   ·simp only[h,if_true] <;> lia
   ·simp only[h,if_false] <;> lia
 ·cases hi with
  | none=>simp [sliceBounds,HT.D9]
  | some i =>
   simp only[sliceBounds,HT.D9,Option.getD_none,show (1:Int) > 0 by decide,if_true];by_cases h:i < 0
   ·simp only[h,if_true] <;> lia
   ·simp only[h,if_false] <;> lia
theorem Ax (its:List Value) (lo hi:Option Int):slicePick its.toArray lo hi none=((its.drop (HT.D9 its.length 0 lo)).take (HT.D9 its.length its.length hi - HT.D9 its.length 0 lo)).toArray:=by
 obtain ⟨h1,h2,h3⟩:=Cm lo hi its.toArray.size;unfold slicePick;rw[h1,h2,h3];simp only[sliceRange_one,pick_run,aT] <;> rfl
def PD (K:FG9):V->Option Int->Option Int->Hp->VK->Prop:=λx lo hi H Q=>∃a xs,x=.ref a/\bO K H a xs/\∀p,H p=none->Q (.ref p) (upd H p (.lst (rj xs lo hi)))
theorem Cn:SO X (PD X.K):=by
 intro pins s σ H x v vl vu lo hi sl Q I rx hs pl pu h;obtain ⟨a,xs,rfl,hx,q⟩:=h;cases rx;obtain ⟨its,r,ht,hz⟩:=I.list hx;have hlen:=r.length;refine ⟨"list",_,slot_list_getitem.lookup,ht.isList.typeIs,?_⟩;refine wpAny_getItem_list_slice ht.isList hs pl pu .none (by simp) ?_ (by rw[aT] <;> lia);rw[Ax,<- hlen];refine ⟨.ref s.heap.objs.size,_,I.laid (t':=s.toks) (o:=.lst (rj xs lo hi)) (λb ob q=>Heap.get?_push_of_some _ q) (ao _) ?_,rfl,q _ (I.hok.fresh (ao _))⟩;exact ⟨ag (xy xs lo hi) hz,_,0,(r.drop (HT.D9 xs.length 0 lo)).take (HT.D9 xs.length xs.length hi - HT.D9 xs.length 0 lo),Heap.get?_push_size _ rfl⟩
def uC:V->Bool
 | .non=>true
 | .bl _=>true
 | .int _=>true
 | .str _=>true
 | _=>false
def OM:V->V->Bool
 | .non,.non=>true
 | .bl a,.bl b=>a == b
 | .bl a,.int b=>(if a then 1 else 0) == b
 | .int a,.bl b=>a == (if b then 1 else 0)
 | .int a,.int b=>a == b
 | .str a,.str b=>a == b
 | _,_=>false
theorem Qj (ry:RelV y u) (rx:RelV x v) (fy:uC y=true) (fx:uC x=true):SeqAt.EqAt A s u v (OM y x):=by
 cases y with
 | non =>
  cases ry;cases x with
  | non=>cases rx;exact SeqAt.EqAt.same _
  | bl b=>cases rx;exact SeqAt.EqAt.none_bool b
  | int b=>obtain ⟨t,rfl⟩:=rx;exact SeqAt.EqAt.none_int b t
  | str b=>obtain ⟨t,rfl⟩:=rx;exact SeqAt.EqAt.none_str b t
  | _=>exact absurd (show false=true from fx) be
 | bl a =>
  cases ry;cases x with
  | non=>cases rx;exact SeqAt.EqAt.bool_none a
  | bl b=>cases rx;exact SeqAt.EqAt.bool_bool a b
  | int b=>obtain ⟨t,rfl⟩:=rx;exact SeqAt.EqAt.bool_int a b t
  | str b=>obtain ⟨t,rfl⟩:=rx;exact SeqAt.EqAt.bool_str a b t
  | _=>exact absurd (show false=true from fx) be
 | int a =>
  obtain ⟨t',rfl⟩:=ry;cases x with
  | non=>cases rx;exact SeqAt.EqAt.int_none a t'
  | bl b=>cases rx;exact SeqAt.EqAt.int_bool a t' b
  | int b=>obtain ⟨t,rfl⟩:=rx;exact SeqAt.EqAt.int_int a t' b t
  | str b=>obtain ⟨t,rfl⟩:=rx;exact SeqAt.EqAt.int_str a t' b t
  | _=>exact absurd (show false=true from fx) be
 | str a =>
  obtain ⟨t',rfl⟩:=ry;cases x with
  | non=>cases rx;exact SeqAt.EqAt.str_none a t'
  | bl b=>cases rx;exact SeqAt.EqAt.str_bool a t' b
  | int b=>obtain ⟨t,rfl⟩:=rx;exact SeqAt.EqAt.str_int a t' b t
  | str b=>obtain ⟨t,rfl⟩:=rx;exact SeqAt.EqAt.str_str a t' b t
  | _=>exact absurd (show false=true from fx) be
 | _=>exact absurd (show false=true from fy) be
def NS (x:V) (u:Value):Bool:=match u with
 | .none=>OM .non x
 | .bool b=>OM (.bl b) x
 | .int i _=>OM (.int i) x
 | .str z _=>OM (.str z) x
 | _=>false
theorem LQ (r:RelV y u) (f:uC y=true):NS x u=OM y x:=by
 cases y with
 | non=>cases r;rfl
 | bl b=>cases r;rfl
 | int i=>obtain ⟨t,rfl⟩:=r;rfl
 | str z=>obtain ⟨t,rfl⟩:=r;rfl
 | _=>exact absurd (show false=true from f) be
theorem Dm {x:V}:∀{xs:List V} {us:List Value},cY xs us->xs.all uC=true->us.any (NS x)=xs.any λy=>OM y x
 | _,_,.nil,_=>rfl
 | y :: xs,u :: us,.cons r t,f=>by
  rw[List.all_cons,dR] at f;rw[List.any_cons,List.any_cons,LQ r f.1,Dm t f.2]
theorem zH {A:Around} {s:Shared} {x:V} {v:Value} (rx:RelV x v) (fx:uC x=true):∀{xs:List V} {us:List Value},cY xs us->xs.all uC=true->∀u∈us,SeqAt.EqAt A s u v (NS x u)
 | _,_,.nil,_=>λu hu=>by cases hu
 | y :: xs,u :: us,.cons r t,f=>λu' hu=>by
  rw[List.all_cons,dR] at f;rcases aI.mp hu with rfl | hu
  ·rw[LQ r f.1];exact Qj r rx f.1 fx
  ·exact zH rx fx t f.2 u' hu
def Sg (x:V) (xs:List V):Bool:=xs.any λy=>OM y x
def rIn (K:FG9) (neg:Bool):R2:=λx y H Q=>∃p xs,y=.ref p/\(bO K H p xs\/sI K H p xs)/\uC x=true/\xs.all uC=true/\Q (.bl (if neg then !Sg x xs else Sg x xs)) H
theorem Ju:yl X (compareOp .In) (rIn X.K false):=by
 intro pins s σ H x y v u Q I rx ry h;obtain ⟨p,xs,rfl,hq,fx,fs,q⟩:=h;cases ry;rcases hq with hq | hq
 ·obtain ⟨its,r,pl,hz⟩:=I.list hq;refine SeqAt.in_listAt (NS x) pl.isList (λw hw=>zH rx fx r fs w (by simpa using hw)) ⟨.bl _,H,I,rfl,?_⟩;rw[show its.toArray.any (NS x)=its.any (NS x) by simp,Dm r fs];exact q
 ·obtain ⟨its,r,pl,hz⟩:=I.tuple hq;refine SeqAt.in_tupleAt (NS x) pl (λw hw=>zH rx fx r fs w (by simpa using hw)) ⟨.bl _,H,I,rfl,?_⟩;rw[show its.toArray.any (NS x)=its.any (NS x) by simp,Dm r fs];exact q
theorem bu:pe X (.builtin "len") (λxs H Q=>∃p ys,xs=[.ref p]/\(bO X.K H p ys\/sI X.K H p ys)/\Q (.int ys.length) H):=by
 intro pins s σ H xs us Q I r h;obtain ⟨p,ys,rfl,hq,q⟩:=h;obtain ⟨u,rfl,rx⟩:=vals1 r;cases rx;have hn:=zJ;rcases hq with hq | hq
 ·obtain ⟨its,r',pl,hz⟩:=I.list hq;have hlen:=r'.length;exact Calls.call_len_list pl.isList (by simp only[aT] <;> lia) ⟨.int ys.length,H,I.tok _,⟨s.toks+1,by rw[aT,hlen]⟩,q⟩
 ·obtain ⟨its,r',pl,hz⟩:=I.tuple hq;have hlen:=r'.length;exact len_tuple pl (by simp only[aT] <;> lia) ⟨.int ys.length,H,I.tok _,⟨s.toks+1,by rw[aT,hlen]⟩,q⟩
theorem oU:pe X (.type "list") (λxs H Q=>∃p ys,xs=[.ref p]/\(bO X.K H p ys\/sI X.K H p ys)/\∀l,H l=none->Q (.ref l) (upd H l (.lst ys))):=by
 intro pins s σ H xs us Q I r h;obtain ⟨p,ys,rfl,hq,q⟩:=h;obtain ⟨u,rfl,rx⟩:=vals1 r;cases rx
 have fin:∀(its:List Value),cY ys its->ys.length<=sizeLine->∀(h':Heap) (c':Nat),(∀b o',s.heap.get? b=some o'->h'.get? b=some o') →
   h'.get? s.heap.objs.size=some { cls:=.type "list",dict:=none,data:=.seq its.toArray c',slots:=#[] }->EP X pins σ Q (.ref s.heap.objs.size) { s with heap:=h' }:=λits r' hz h' c' kp e =>
  ⟨.ref s.heap.objs.size,_,I.laid (t':=s.toks) kp (ao _) (show jm X.prog X.w _ h' _ (.lst ys) from ⟨hz,its,c',r',e⟩),rfl,q _ (I.hok.fresh (ao _))⟩
 rcases hq with hq | hq
 ·obtain ⟨its,r',pl,hz⟩:=I.list hq;have hlen:=r'.length;obtain ⟨o,ho,hc,n,hd⟩:=pl.isList;exact call_list_seq p (.inl rfl) ho hc hd (λh' c' kp e=>fin its r' hz h' c' kp e) (by simp only[aT] <;> lia)
 ·obtain ⟨its,r',pl,hz⟩:=I.tuple hq;have hlen:=r'.length;obtain ⟨o,ho,hc,n,hd⟩:=pl;exact call_list_seq p (.inr rfl) ho hc hd (λh' c' kp e=>fin its r' hz h' c' kp e) (by simp only[aT] <;> lia)
def So (K:FG9) (T:String) (x:V) (H:Hp):Prop:=match x with
 | .str _=>T="str"
 | .int _=>T="int"
 | .ref p=>(T="list"/\∃xs,bO K H p xs)\/(T="tuple"/\∃o,K.lookup p=some o/\o.cls=.type "tuple"/\o.dict=none) \/
   (T="dict"/\((∃kvs,H p=some (.dK kvs))\/∃kvs,H p=some (.dT kvs)))\/(T="set"/\∃S n,H p=some (.set S n))
 | _=>False
theorem OX {σ:St} (I:Inv X pins σ H s) (r:RelV x v) (ty:So X.K T x H) :
  s.TypeIs v T/\∀a,v=.ref a->∃ob,s.heap.get? a=some ob/\ob.dict=none:=by
 cases x with
 | str z =>
  obtain ⟨t,rfl⟩:=r;cases (show T="str" from ty);exact ⟨typeIs_str s z t,λ_ e=>nomatch e⟩
 | int i =>
  obtain ⟨t,rfl⟩:=r;cases (show T="int" from ty);exact ⟨typeIs_int s i t,λ_ e=>nomatch e⟩
 | ref p =>
  cases r;rcases ty with ⟨rfl,xs,hq⟩ | ⟨rfl,o,hk,hc,hd⟩ | ⟨rfl,hk⟩ | ⟨rfl,S,n,hk⟩
  ·obtain ⟨its,_,pl,_⟩:=I.list hq;refine ⟨pl.isList.typeIs,λa e=>?_⟩;cases e;obtain ⟨o,n,e,c,hd,_⟩:=pl;exact ⟨o,e,hd⟩
  ·refine ⟨⟨o,I.kIn p o hk,hc⟩,λa e=>?_⟩;cases e;exact ⟨o,I.kIn _ o hk,hd⟩
  ·have z:∃o,s.heap.get? p=some o/\o.ExactDict:=by
    rcases hk with ⟨kvs,hk⟩ | ⟨kvs,hk⟩
    ·obtain ⟨_,_,_,_,o,_,_,e,ex,_⟩:=I.hok p _ hk;exact ⟨o,e,ex⟩
    ·obtain ⟨_,_,_,_,o,_,_,e,ex,_⟩:=I.hok p _ hk;exact ⟨o,e,ex⟩
   obtain ⟨o,e,ex⟩:=z;refine ⟨⟨o,e,ex.1⟩,λa e2=>?_⟩;cases e2;exact ⟨o,e,ex.2.1⟩
  ·obtain ⟨o,_,_,_,e,ex,_⟩:=I.hok p _ hk;refine ⟨⟨o,e,ex.1⟩,λa e2=>?_⟩;cases e2;exact ⟨o,e,ex.2.1⟩
 | _=>exact False.elim ty
def tBM (K:FG9) (T:String) (r:V->List V->Hp->VK->Prop) (to:TE) (t:TA):TE:=λσ H Q=>to σ H λx H1=>So K T x H1/\t σ H1 λxs H2=>r x xs H2 Q
variable {o e:Expr} {es:List Expr} {to:TE} {t:TA} {name:Str} {apos cpos:Pos} {T id:String} {r:V->List V->Hp->VK->Prop}
theorem ug (pa:PlainAttrs T) (slot:Slot T name id) (hty:typeOf (.builtin id)=pure (.type "method_descriptor")) (hm:MtR X id r) (ho:PE X o to) (ha:PA X (e :: es) t)
  (hbase:attributeBase o name X.env (eval o X.env)=eval o X.env:=by rfl)
  (hfew:((backTo cpos (starEach (e :: es) X.env)).all (λx=>!x.1) && (backToKw cpos (keywordEach [] X.env)).all (λx=>x.1.isSome)
   && decide ((e :: es).length+([]:List Keyword).length+(if ([]:List Keyword).isEmpty then 0 else 1) < 30))=true:=by rfl)
  (hline:(apos.endLine == cpos.line)=true:=by rfl) (hs:starEach (e :: es) X.env=(false,eval e X.env) :: starEach es X.env:=by rfl) (hplain:(backTo cpos (starEach es X.env)).any (·.1)=false:=by rfl) :
  PE X (.Call (.Attribute o name apos) (e :: es) [] cpos) (tBM X.K T r to t):=by
 intro pins s σ H Q I h;refine wpAny_Call_method_late hbase hfew hline rfl (gK (ho pins s σ H _ I h) λv s1 ⟨x,H1,I1,r1,ty,q1⟩=>?_);obtain ⟨h1,h2⟩:=OX I1 r1 ty;refine ⟨T,id,pa,slot,hty,h1,h2,?_⟩;have hA:=ha cpos pins s1 σ H1 _ I1 q1;rw[hs] at hA ⊢;refine Calls.callWith_builtin (by show (false || (backTo cpos (starEach es X.env)).any (·.1))=false;rw[hplain] <;> rfl) (Calls.evalArgs_plain ?_);exact gK hA λus s2 ⟨vs,H2,I2,r2,q2⟩=>hm pins s2 σ H2 x vs v us Q I2 r1 r2 q2
end
def MtM (X:Cx) (id:String) (r:V->List V->Hp->VK->Prop):Prop :=
 ∀(pins:List (Addr×Obj)) (s:Shared) (σ:St) (H:Hp) (x:V) (xs:List V) (v:Value) (us:List Value) (Q:VK),Inv X pins σ H s->RelV x v->cY xs us->r x xs H Q →
  wpAny (model X.prog X.w) X.A (call (.builtin id) (v :: us)) (EP X pins σ Q) X.xe s
theorem cY.one:∀{x:V} {us:List Value},cY [x] us->∃u,us=[u]/\RelV x u
 | _,_,.cons r .nil=>⟨_,rfl,r⟩
theorem cY.rep {xs:List V} {us:List Value} (h:cY xs us):∀k:Nat,cY (List.replicate k xs).flatten (List.replicate k us).flatten
 | 0=>.nil
 | k+1=>by
  rw[fL,fL,bU,bU];exact cY.append h (cY.rep h k)
theorem foldl_rep (its:List Value):∀(k:Nat) (acc:List Value),
  List.foldl (λx1 x2=>x1++x2) acc.toArray (List.replicate k its.toArray)=(acc++(List.replicate k its).flatten).toArray
 | 0,acc=>by simp
 | k+1,acc=>by
  have e:acc.toArray++its.toArray=(acc++its).toArray:=by simp
  have e2:(acc++its)++(List.replicate k its).flatten=acc++(List.replicate (k+1) its).flatten:=by
   rw[fL,bU,cC]
  rw[<- e2,<- foldl_rep its k (acc++its),<- e,fL,List.foldl_cons]
section
variable {X:Cx} {pins:List (Addr×Obj)} {σ:St} {H:Hp} {s:Shared} {l b:Addr} {xs ys zs:List V}
theorem Inv.lset {its its':List Value} (I:Inv X pins σ H s) (hH:H l=some (.lst xs))
  (e:s.heap.get? l=some { cls:=.type "list",data:=.seq its.toArray n }) (hf:f its.toArray=its'.toArray) (hv:cY ys its') (hz:ys.length<=sizeLine) :
  Inv X pins σ (upd H l (.lst ys)) { s with heap:=s.heap.update l (Obj.mapSeq f),toks:=t' }:=by
 have q:=ke e f;rw[hf] at q;refine I.write (x:=l) (e:=l) (by rw[hH];exact trivial) (.inl rfl) (λb' u hb hu=>(Heap.get?_update_other s.heap (Obj.mapSeq f) (Ne.symm hb)).trans hu) ⟨_,q⟩ ?_;exact ⟨hz,its',_,hv,q⟩
theorem Inv.lnew (I:Inv X pins σ H s) (hv:cY ys its) (hz:ys.length<=sizeLine) :
  Inv X pins σ (upd H s.heap.objs.size (.lst ys)) { s with heap:=s.heap.push { cls:=.type "list",data:=.seq its.toArray },toks:=t' } :=
 I.laid (λ_ _ q=>Heap.get?_push_of_some _ q) (ao _) ⟨hz,its,0,hv,Heap.get?_push_size _ rfl⟩
theorem Inv.fresh (I:Inv X pins σ H s):H s.heap.objs.size=none:=I.hok.fresh (ao _)
theorem Inv.lstM (I:Inv X pins σ H s) (hH:H l=some (.lst xs)):xs.length<=sizeLine/\∃(its:List Value) (n:Nat),cY xs its/\xs.length=its.length/\s.heap.get? l=some { cls:=.type "list",data:=.seq its.toArray n }:=by
 obtain ⟨z,its,n,r,e⟩:=I.hok l _ hH;exact ⟨z,its,n,r,r.length,e⟩
theorem Ep (h:n<=sizeLine):Builtin.List.listTooLong n=false:=by
 unfold Builtin.List.listTooLong;exact decide_eq_false (by lia)
end
section
variable {X:Cx}
def HQ:V->List V->Hp->VK->Prop:=λx vs H Q=>∃l xs y,x=.ref l/\vs=[y]/\H l=some (.lst xs)/\xs.length < sizeLine/\Q .non (upd H l (.lst (xs++[y])))
theorem ji:MtM X "list.append" HQ:=by
 intro pins s σ H x vs v us Q I rx rv h;obtain ⟨l,xs,y,rfl,rfl,hH,hz,q⟩:=h;cases rx;obtain ⟨u,rfl,ru⟩:=rv.one;obtain ⟨z,its,n,r,hl,e⟩:=I.lstM hH;refine call_meets F.slot_list_append ⟨_,e,rfl⟩ F.entry_list_append (F.args_list_append_2 _ _) (PySem.list_append l its.toArray n u (by rw[aT];lia)) ⟨e,?_⟩;refine ⟨.non,_,I.lset (its':=its++[u]) hH e (by simp) (r.append (.cons ru .nil)) ?_,rfl,q⟩;rw[ax,bS]
 lia
def Nx:V->List V->Hp->VK->Prop:=λx vs H Q=>∃l b xs zs,x=.ref l/\vs=[.ref b]/\H l=some (.lst xs)/\H b=some (.lst zs)/\xs.length+zs.length<=sizeLine/\Q .non (upd H l (.lst (xs++zs)))
theorem JG:MtM X "list.extend" Nx:=by
 intro pins s σ H x vs v us Q I rx rv h;obtain ⟨l,b,xs,zs,rfl,rfl,hH,hB,hz,q⟩:=h;cases rx;obtain ⟨u,rfl,ru⟩:=rv.one;cases ru;obtain ⟨z,its,n,r,hl,e⟩:=I.lstM hH;obtain ⟨z2,its2,n2,r2,hl2,e2⟩:=I.lstM hB;have hsz:its.toArray.size+its2.toArray.size<=sizeLine:=by rw[aT,aT];lia
 have hlong:¬(!its.toArray.isEmpty && Builtin.List.listTooLong (its.toArray.size+its2.toArray.size))=true:=by
  rw[Ep hsz,Bool.and_false];exact be
 refine call_meets F.slot_list_extend ⟨_,e,rfl⟩ F.entry_list_extend (F.args_list_extend_2 _ _)
  (AutoSeq1.list_extend_list_list_0 l its.toArray n b its2.toArray n2 hlong (by rw[aT];lia) (by lia)) ⟨e,e2,?_⟩
 refine ⟨.non,_,I.lset (its':=its++its2) hH e (by simp) (r.append r2) ?_,rfl,q⟩;rw[ax]
 lia
def Rv:R2:=λx y H Q=>∃l b xs zs,x=.ref l/\y=.ref b/\H l=some (.lst xs)/\H b=some (.lst zs)/\xs.length+zs.length<=sizeLine/\∀p,H p=none->Q (.ref p) (upd H p (.lst (xs++zs)))
theorem jX:yl X (binaryOp .Add) Rv:=by
 intro pins s σ H x y v u Q I rx ry h;obtain ⟨l,b,xs,zs,rfl,rfl,hH,hB,hz,q⟩:=h;cases rx;cases ry;obtain ⟨z,its,n,r,hl,e⟩:=I.lstM hH;obtain ⟨z2,its2,n2,r2,hl2,e2⟩:=I.lstM hB;refine PySem.P.add_list e e2 ?_ (by rw[aT,aT];lia);have ea:its.toArray++its2.toArray=(its++its2).toArray:=by simp
 rw[ea];exact ⟨.ref _,_,I.lnew (t':=s.toks) (r.append r2) (by rw[ax];lia),rfl,q _ I.fresh⟩
def Ro:R2:=λx y H Q=>∃l k xs,x=.ref l/\y=.int k/\H l=some (.lst xs)/\-(2^63)<=k/\k < 2^63/\xs.length*k.toNat<=sizeLine /\
 ∀p,H p=none->Q (.ref p) (upd H p (.lst (List.replicate k.toNat xs).flatten))
theorem len_rep {α:Type} (xs:List α) (k:Nat):(List.replicate k xs).flatten.length=k*xs.length:=by
 induction k with
 | zero=>simp
 | succ k ih=>rw[fL,bU,ax,ih,c8,rh]
theorem Le:yl X (binaryOp .Mult) Ro:=by
 intro pins s σ H x y v u Q I rx ry h;obtain ⟨l,k,xs,rfl,rfl,hH,h1,h2,hz,q⟩:=h;cases rx;obtain ⟨t,rfl⟩:=ry;obtain ⟨z,its,n,r,hl,e⟩:=I.lstM hH;have hlen:its.toArray.size*k.toNat<=sizeLine:=by rw[aT,<- hl];exact hz
 have hcap:¬its.toArray.size*k.toNat > (2^63 - 1) / 8:=by
  have:(sizeLine:Nat)<=(2^63 - 1) / 8:=by decide
  lia
 have hfit:¬(!Builtin.List.listFitsIndex k)=true:=by
  rw[fitsIndex_both h1 h2];exact be
 have hlong:¬Builtin.List.listTooLong (its.toArray.size*k.toNat)=true:=by
  rw[Ep hlen];exact be
 have hnew:List.foldl (λx1 x2=>x1++x2) #[] (List.replicate (if its.toArray.isEmpty=true then 0 else k.toNat) its.toArray)=(List.replicate k.toNat its).flatten.toArray:=by
  have f0:∀m:Nat,List.foldl (λx1 x2=>x1++x2) #[] (List.replicate m its.toArray)=(List.replicate m its).flatten.toArray:=λm=>by
   have:=foldl_rep its m [];rw[cS] at this;exact this
  rw[f0];cases its with
  | nil=>simp
  | cons a r'=>rw[if_neg (by simp)]
 refine wpAny_binaryOp_repeat_ref (T:="list") (U:="int") (by decide) ⟨_,e,rfl⟩ (λs'=>typeIs_int s' k t) noFill_list_mul F.fills_int_mul F.slot_int_rmul repeat_list F.slot_int_index.lookup
  (call_meets F.slot_int_rmul (typeIs_int s k t) F.entry_int_rmul (F.args_int_rmul_2 _ _) (int___rmul___int_list k t l its.toArray n)
   ⟨e,rfl,⟨_,e,rfl⟩,call_meets F.slot_list_mul ⟨_,e,rfl⟩ F.entry_list_mul (F.args_list_mul_2 _ _) (AutoListH.list___mul___list_int_3 l its.toArray n k t hfit hcap hlong) ⟨e,?_⟩⟩)
 rw[hnew];exact ⟨.ref _,_,I.lnew (t':=s.toks) (r.rep k.toNat) (by rw[len_rep,cw];exact hz),rfl,q _ I.fresh⟩
end
end L2
namespace Att
open PySem PySem.W PySem.Calls PyProof.Rows
theorem xY:∀(ns:List Int) (vs:List Value),WellAll P h vs (ns.map WData.int)->IntsAre vs ns:=by
 intro ns
 induction ns with
 | nil =>
  intro vs w;rw[List.map_nil] at w;cases w;exact .nil
 | cons n ns ih =>
  intro vs w;rw[ia] at w;cases w with
  | cons a b =>
   cases a;exact .cons _ _ (ih _ b)
theorem Ji {l:OpenLaw} (hn:l.most=some n) 
  (hpre:l.row.toRowW.claim.pre args=true) (hwl:WellAll P h vals args) :
  ∃a vs ns,vals=[Value.ref a]/\args=[WData.list (ns.map WData.int)]/\h.get? a=some { cls:=.type "list",data:=.seq vs.toArray }/\IntsAre vs ns/\ns.length<=n:=by
 have hsh:WShape.hasAll [] args [.list .int]=true:=(pre_splitW hpre).1;have hc:l.pre.holds [] { args:=args }=true:=(pre_splitW hpre).2;obtain ⟨d,r,rfl,h1,h2⟩:=hasAllW_cons hsh;obtain rfl:=hasAllW_nil h2;obtain ⟨xs,rfl,h3⟩:=hasW_list h1;obtain ⟨ns,rfl⟩:=items_int h3
 have hlen:ns.length<=n:=by
  unfold OpenLaw.pre at hc
  have h4:(WTm.not (.lt (.lit (.int (n:Int))) (.len (.arg 0)))).holds [] { args:=[.list (ns.map .int)] }=true:=by
   have h4:=(holds_andW hc).1;rw[hn] at h4;exact h4
  have h5:=condW_of h4 (w_not (w_lt w_lit (w_len_list (w_arg rfl))));rw[ai] at h5;refine Nat.le_of_not_lt λq=>?_
  have q':(n:Int) < ((ns.length:Nat):Int):=by lia
  first
   | (rw[decide_eq_true q'] at h5;exact absurd h5 (by decide))
   | (simp at h5;lia)
 cases hwl with
 | cons w1 w2 =>
  cases w2;cases w1 with
  | list ho hall=>exact ⟨_,_,ns,rfl,rfl,ho,xY ns _ hall,hlen⟩
theorem Jr (l:OpenLaw) (args:List WData):l.row.toRowW.claim.post args (.bool true) args=true :=
 postW_of (r:=l.row.toRowW) (X:=(true == true))
  (show WShape.has [] (.bool true) .bool=true by first | rfl | decide | simp [WShape.has,WShape.arms,WShape.armsAll])
  (show (WTm.eq .res (.lit (.bool true))).value [] { args:=args,res:=some (.bool true),after:=args }=some (.bool (true == true)) from w_eq_bool (w_res rfl) w_lit) rfl
theorem EU {l:OpenLaw} 
  (hn:l.most=some n) (hdf:d.params.defaults=[])
  (call:∀(w:World) (s₀ s₁:Shared) (mg mb:Str->Option Value) (fa:Addr) (o:Obj) (pm cd doc:Value) (a:Addr) (vs:List Value) (ns:List Int),
   Ground q loose [] XP w s₀ mg mb s₁.heap->YP w s₁.heap →
   s₁.heap.get? fa=some o->o.data=.func (docDef d.name d.params d.body d.scope pm cd doc)->s₁.heap.CodeRec cd d.name->mg d.name=some (.ref fa) →
   s₁.heap.get? a=some { cls:=.type "list",data:=.seq vs.toArray }->IntsAre vs ns->ns.length<=n->s₁.gens=#[] →
   codeAny (model l.prog w) callerA (.call (.ref fa) ⟨[.ref a],[]⟩) (λr s'=>r=.ok (.ret (.bool true))/\OldK s₁.heap s'.heap/\s'.os=s₁.os/\AllBare s'.gens) s₁) :
  WalkO q loose XP YP l.row.toRowW d [] (λf vs=>PySem.call f vs):=by
 intro w s₀ s₁ mg mb G Y fa o pm cd doc dV kV ho hd hcd hD hmg hg args vals as hpre hlay hrd hwl hlo;obtain rfl:dV=.none:=Dflts.none hD hdf;obtain rfl:kV=.none:=Dflts.noKw hD;obtain ⟨a,vs,ns,rfl,rfl,hobj,hints,hlen⟩:=Ji hn hpre hwl;refine enter_call (codeAny_mono (call w s₀ s₁ mg mb fa o pm cd doc a vs ns G Y ho (fd_plain hd) hcd hmg hobj hints hlen hg) λr s' hq=>?_);obtain ⟨rfl,h2,h3,h4⟩:=hq;exact ⟨.inl ⟨.bool true,.bool true,[],rfl,λ_=>rfl,.bool true,Jr l _,λ_=>⟨List.Pairwise.nil,λ_ hm=>(nomatch hm)⟩⟩,h2,h3,h4⟩
section
variable {prog:Program} {w:World} {A:Around} {E:Value->Shared->Prop} {s:Shared} {K:Frag}
end
end Att
namespace L2
open PySem PySem.Spec PyProof.Rows
theorem AY:∀{vs:List Value} {ns:List Int},IntsAre vs ns->cY (ns.map V.int) vs
 | _,_,.nil=>.nil
 | _,_,.cons n t h=>.cons ⟨t,rfl⟩ (AY h)
def Qv (H:Hp):Prop:=∀b,H b=none\/∃o xs,H b=some (.frz o (.lst xs))
theorem Lr {K:FG9} 
  (KX:K.In s₁.heap) (hns:s₁.heap.Ns mainGlobals mg) (hb:s₁.heap.Ns builtinsNs mb) (hbb:∀x:Str,x≠"__name__"->mb x=bootBuiltins x) (hlim:s₁.heap.NoLimit) (hsr:s₁.heap.NoSeer) (hg:s₁.gens=#[])
  (ha:s₁.heap.get? a=some { cls:=.type "list",data:=.seq vs.toArray }) (hi:IntsAre vs ns) (hl:ns.length<=sizeLine) (hr:ks k callerA)
  (F:∀base:Heap,K.In base->base.Ns mainGlobals mg->cN P w K mg base CX k fa fd [x] sp) (hbind:∀(s:Shared) (u:Value),BindsTo s fd ⟨[u],[]⟩ [(x,u)])
  (hsp:∀H:Hp,Qv H->bO K H a (ns.map V.int)->sp [.ref a] H (λv _=>v=.bl true) λ_ _ _=>False)
  (hCX:∀H e s',CX [] H s₁ (λ_ _ _=>False) e s'->False) :
  codeAny (model P w) callerA (.call (.ref fa) ⟨[.ref a],[]⟩) (λr s'=>r=.ok (.ret (.bool true))/\OldK s₁.heap s'.heap/\s'.os=s₁.os/\AllBare s'.gens) s₁:=by
 have rv:=AY hi;have lenV:=hi.length
 have core:∀H:Hp,Qv H->bO K H a (ns.map V.int)->ym P w H s₁.heap->(∀b,H b≠none->b=a)->(H a≠none->K.lookup a=none) →
   codeAny (model P w) callerA (.call (.ref fa) ⟨[.ref a],[]⟩) (λr s'=>r=.ok (.ret (.bool true))/\OldK s₁.heap s'.heap/\s'.os=s₁.os/\AllBare s'.gens) s₁:=by
  intro H hO hS hok hA hK;have base_of:∀{b:Addr} {o:Obj},s₁.heap.get? b=some o->H b=none->(C2 s₁.heap H).get? b=some o:=λe n=>LD e n
  have noA:∀{b:Addr} {o:Obj} {es:Array DictEntry} {ep:Nat},s₁.heap.get? b=some o->o.data=.dict es ep->H b=none:=λ{b o es ep} e d=>by
   cases q:H b with
   | none=>rfl
   | some u =>
    have e':b=a:=hA b (by rw[q];simp);subst e';rw[ha] at e;cases e;have d':Data.seq vs.toArray _=Data.dict es ep:=d;cases d'
  have nsK:∀{b:Addr} {m:Str->Option Value},s₁.heap.Ns b m->(C2 s₁.heap H).Ns b m:=λ{b m} ⟨o,es,ep,e,d,r⟩=>⟨o,es,ep,base_of e (noA e d),d,r⟩
  have hKb:K.In (C2 s₁.heap H):=λb o e=>base_of (KX b o e) (by
   cases q:H b with
   | none=>rfl
   | some u =>
    have e':b=a:=hA b (by rw[q];simp);subst e';rw[hK (by rw[q];simp)] at e;cases e)
  have hM:Mod K mg (C2 s₁.heap H):=⟨hKb,nsK hns,⟨mb,nsK hb,hbb⟩,let ⟨mc,h1,h2⟩:=hlim;⟨mc,nsK h1,h2⟩,⟨let ⟨mc,h1,h2⟩:=hsr.statics;⟨mc,nsK h1,h2⟩,let ⟨mm,h1,h2⟩:=hsr.mods;⟨mm,nsK h1,h2⟩,⟨mb,nsK hb,hbb⟩,let ⟨mg',bm,ob,h1,h2,h3,h4,h5⟩:=hsr.main;⟨mg',bm,ob,nsK h1,h2,base_of h3 (by
   cases q:H bm with
   | none=>rfl
   | some u =>
    have e':bm=a:=hA bm (by rw[q];simp);subst e';rw[ha] at h3;cases h3;injection h4 with q4
    exact absurd q4 (by decide)),h4,h5⟩⟩⟩
  have e0:GO P w K mg (C2 s₁.heap H) callerA [] s₁ H:=⟨rfl,hM,λb o e=>NJ e,Nat.le_of_eq (JP _ _),trivial,λb hb=>absurd (show b∈([]:List Addr) from hb) (by simp),hok,.of_eq hg⟩;refine codeAny_mono ((F _ hKb (nsK hns)).run callerA [] s₁ H ⟨[.ref a],[]⟩ [.ref a] [.ref a] _ _ hr e0 (hbind s₁ (.ref a)) (.cons rfl .nil) (hsp H hO hS)) λr s' h=>?_
  cases r with
  | error e=>exact (hCX H e s' h).elim
  | ok fl =>
   cases fl with
   | next=>exact False.elim h
   | brk=>exact False.elim h
   | cont=>exact False.elim h
   | ret u =>
    obtain ⟨v,H',os,bare,un,hok',r',q⟩:=h;have q':v=.bl true:=q;subst q';obtain rfl:u=Value.bool true:=r';refine ⟨rfl,OldK.of_keep λb o e=>?_,os,bare⟩;cases q:H b with
    | none=>exact un.keep b o e q (by intro z;exact absurd (show b∈([]:List Addr) from z) (by simp)) (by simp)
    | some u =>
     rcases hO b with z | ⟨ob,xs,z⟩
     ·rw[q] at z;cases z
     ·have z2:=un.frzs b ob _ z;obtain ⟨e1,_⟩:=hok b _ z;obtain ⟨e2,_⟩:=hok' b _ z2;rw[e] at e1;cases e1;exact e2
 cases hk:K.lookup a with
 | some o =>
  have e:=KX a o hk;rw[ha] at e;cases e;refine core (λ_=>none) (λ_=>.inl rfl) (.inr ⟨_,vs.toArray,_,hk,rfl,rfl,rfl,by rw[aT,lenV];exact hl,by simpa using rv⟩) (λb u z=>by have z':(none:Option HO)=some u:=z;cases z') (λb z=>absurd rfl z) λz=>absurd rfl z
 | none =>
  refine core (λb=>if b=a then some (.frz { cls:=.type "list",data:=.seq vs.toArray } (.lst (ns.map V.int))) else none) (λb=>?_) (.inl (.inr ⟨{ cls:=.type "list",data:=.seq vs.toArray },if_pos rfl⟩)) (λb u z=>?_) (λb z=>?_) λ_=>hk
  ·by_cases hb:b=a
   ·exact .inr ⟨_,_,if_pos hb⟩
   ·exact .inl (if_neg hb)
  ·by_cases hb:b=a
   ·have z':=(if_pos hb).symm.trans z;cases z';subst hb;exact ⟨ha,by rw[ai];exact hl,vs,_,rv,ha⟩
   ·have z':=(if_neg hb).symm.trans z;cases z'
  ·by_cases hb:b=a
   ·exact hb
   ·exact absurd (if_neg hb) z
theorem MG {l:PySem.W.OpenLaw} {K:Params->FG9} {CX:World->Mz} {sp:World->Sp} 
  (hn:l.most=some n) (hn2:n<=sizeLine) (hdf:d.params.defaults=[]) (hr:ks k callerA) (hi:importsNone q=true)
  (hY:∀(w:World) (h:Heap),YP w h->(K w.params).In h)
  (F:∀(w:World) (mg:Str->Option Value) (fa:Addr) (h:Heap),(K w.params).In h->h.Ns mainGlobals mg->mg d.name=some (.ref fa) →
   ∃fd:FuncData,(∀(s:Shared) (u:Value),BindsTo s fd ⟨[u],[]⟩ [(x,u)]) /\
    ∀base:Heap,(K w.params).In base->base.Ns mainGlobals mg->cN l.prog w (K w.params) mg base (CX w) k fa fd [x] (sp w))
  (hsp:∀(w:World) (H:Hp) (a:Addr) (ns:List Int),ns.length<=n->Qv H->bO (K w.params) H a (ns.map V.int)->sp w [.ref a] H (λv _=>v=.bl true) λ_ _ _=>False)
  (hCX:∀(w:World) (H:Hp) (s:Shared) (e:Value) (s':Shared),CX w [] H s (λ_ _ _=>False) e s'->False) :
  PySem.W.WalkO q loose XP YP l.row.toRowW d [] (λf vs=>PySem.call f vs):=by
 refine Att.EU hn hdf λw s₀ s₁ mg mb fa o pm cd doc a vs ns G Y ho hd hcd hmg hobj hints hlen hg=>?_
 have KX:=hY w _ Y;obtain ⟨fd,hb,hF⟩:=F w mg fa _ KX G.T.g hmg;exact Lr KX G.T.g G.T.b G.T.builtins G.T.nolimit (G.T.seer hi) hg hobj hints (ag hlen hn2) hr hF hb (λH hO hS=>hsp w H a ns hlen hO hS) λH e s'=>hCX w H s₁ e s'
end L2

namespace L2
open PySem PySem.Spec PyProof.Rows
def inClass (s:Stmt) (j:Nat):Stmt:=match s with
 | .ClassDef _ _ _ body _ _ _ _ _ _ _=>body.getD j (.Pass ⟨0,0,0,0⟩)
 | _=>.Pass ⟨0,0,0,0⟩
def kT (s:Stmt):Arguments:=match s with
 | .FunctionDef _ a _ _ _ _ _ _ _ _=>a
 | _=>{ posonlyargs:=[],args:=[],vararg:=none,kwonlyargs:=[],kw_defaults:=[],kwarg:=none,defaults:=[] }
def jF (s:Stmt):List Stmt:=match s with
 | .FunctionDef _ _ b _ _ _ _ _ _ _=>b
 | _=>[]
def aL (s:Stmt):Scope:=match s with
 | .FunctionDef _ _ _ _ _ _ sc _ _ _=>sc
 | _=>{ kind:=.function,names:=[],isGenerator:=false,isCoroutine:=false }
abbrev fX:Mz:=λ_ _ _ _ _ _=>False
abbrev E0:XK:=λ_ _ _=>False
theorem Ld:wJ fX X E0:=λ_ _ _ _ _ _ _ h=>h.elim
structure My (K:FG9) (x qual:Str) (st:Stmt) (f:Addr) (fd:FuncData):Prop where
 ex:∃(oc:Value) (od:Option Addr) (kV doc pm:Value) (an:Option Addr) (cdv ct:Value) (osl:Array (Option Value)),
  fd=PySem.W.fnOf x qual (kT st) (jF st) (aL st) .none kV doc pm an cdv ct/\K.lookup f=some ⟨oc,od,.func fd,osl⟩/\PySem.W.codeIn K cdv qual=true
 kp:PySem.W.keepIn K (.ref f)=true
section
variable {P:Program} {w:World} {K:FG9} {mg:Str->Option Value} {base:Heap}
theorem My.ok {st:Stmt} (F:My K x qual st f fd) (S:a9 N ps (aL st)) (len:∀vs H Q E,sp vs H Q E->vs.length=ps.length)
  (hbody:∀(cdv:Value) (A:Around) (outer:List Env) (s:Shared) (H:Hp) (vs:List V) (Q:VK) (E:XK),ks k (A.deeper (envOfC qual (aL st) s.heap.objs.size f cdv))->sp vs H Q E →
   ∃t,Gz (JS fX P w K mg base N qual (aL st) f cdv A outer s H E).nox (jF st) t/\t { nx:=λ_ H'=>Q .non H',rt:=Q } (start N vs) H):cN P w K mg base fX (k+1) f fd ps sp:=by
 obtain ⟨oc,od,kV,doc,pm,an,cdv,ct,osl,rfl,lk,hcd⟩:=F.ex;refine RN lk hcd S len λA outer s H vs Q E hr hsp=>?_
 obtain ⟨t,h,q⟩:=hbody cdv A outer s H vs Q E hr hsp;exact ⟨t,h.nox,q⟩
theorem My.binds {st:Stmt} (F:My K x qual st f fd)
  (h:∀(kV doc pm:Value) (an:Option Addr) (cdv ct:Value) (us:List Value),us.length=ps.length->bindArgs (PySem.W.fnOf x qual (kT st) (jF st) (aL st) .none kV doc pm an cdv ct) ⟨us,[]⟩=pure (ps.zip us)):Binds K fd ps []:=by
 obtain ⟨oc,od,kV,doc,pm,an,cdv,ct,osl,rfl,lk,hcd⟩:=F.ex;exact .all (h kV doc pm an cdv ct)
theorem Gf {st:Stmt} {kV doc pm cdv ct:Value} (l:K.lookup f=some ⟨oc,od,.func (PySem.W.fnOf x qual (kT st) (jF st) (aL st) .none kV doc pm an cdv ct),osl⟩)
  (c:PySem.W.codeIn K cdv qual=true) (k:PySem.W.keepIn K (.ref f)=true):My K x qual st f (PySem.W.fnOf x qual (kT st) (jF st) (aL st) .none kV doc pm an cdv ct):=⟨⟨oc,od,kV,doc,pm,an,cdv,ct,osl,rfl,l,c⟩,k⟩
end
structure Df (K:FG9) (mg:Str->Option Value) (x:Str) (st:Stmt) (ps:List Str) (f:Addr) (fd:FuncData):Prop where
 m:mg x=some (.ref f)
 b:Binds K fd ps []
 F:My K x x st f fd
structure Dh (K:FG9) (x:Str) (st:Stmt) (f:Addr) (fd:FuncData):Prop where
 a:PySem.W.nsIn K mainGlobals x=some (some (.ref f))
 F:My K x x st f fd
theorem RO {K:FG9} {st:Stmt} {kV doc pm cdv ct:Value} (a:PySem.W.nsIn K mainGlobals x=some (some (.ref f))) (l:K.lookup f=some ⟨oc,od,.func (PySem.W.fnOf x x (kT st) (jF st) (aL st) .none kV doc pm an cdv ct),osl⟩) (c:PySem.W.codeIn K cdv x=true) (k:PySem.W.keepIn K (.ref f)=true):Dh K x st f (PySem.W.fnOf x x (kT st) (jF st) (aL st) .none kV doc pm an cdv ct):=⟨a,Gf l c k⟩
theorem Dh.D {K:FG9} {x:Str} {st:Stmt} {f:Addr} {fd:FuncData} {ps:List Str} {mg:Str->Option Value} {h:Heap} (d:Dh K x st f fd) (X:K.In h) (G:h.Ns mainGlobals mg) (hb:∀(kV doc pm:Value) (an:Option Addr) (cdv ct:Value) (us:List Value),us.length=ps.length->bindArgs (PySem.W.fnOf x x (kT st) (jF st) (aL st) .none kV doc pm an cdv ct) ⟨us,[]⟩=pure (ps.zip us):=by walk_at "b"):Df K mg x st ps f fd:=⟨PySem.W.mg_of X G d.a,d.F.binds hb,d.F⟩
theorem cG {X:Cx} {k k':Nat} {f:Addr} {fd:FuncData} {ps:List Str} {sp:Sp} {x:Str} {st:Stmt} {p pos:Pos} {e:Expr} {es:List Expr} {t:TA} (F:cN X.prog X.w X.K X.mg X.base fX k f fd ps sp) (hr:ks k' X.A) (D:Df X.K X.mg x st ps f fd) (ha:PA X (e :: es) t) (hle:k<=k':=by decide) (hg:Gl X x:=by exact rfl) (hdb:(x == ("__debug__":Str))=false:=by decide) (he:starEach (e :: es) X.env=(false,eval e X.env) :: starEach es X.env:=by rfl) (hpl:(backTo pos (starEach es X.env)).any (·.1)=false:=by rfl):PE X (.Call (.Name x p) (e :: es) [] pos) (Ks sp [] E0 t):=NG F (hr.mono hle) hg D.m D.F.kp D.b .nil Ld ha hdb he hpl
theorem bK (h:n<=1000):n < sizeLine:=bg h (by decide)
section
variable {X:Cx}
theorem pv (i:Nat) {x:Str} {pos:Pos} (hN:X.N[i]?=some x:=by rfl) (hv:SJ X.env.scope x:=by first | exact Or.inl rfl | exact Or.inr (Or.inl rfl) | exact Or.inr (Or.inr rfl)) (hd:(x == ("__debug__":Str))=false:=by decide)
  (hcd:(x == ("__classdict__":Str))=false:=by decide):PE X (.Name x pos) (O0 i):=PM hN hv hd hcd
end
theorem Qc {A B:Prop} (h:B):if false=true then A else B:=by
 rw[if_neg be];exact h
theorem RE {A B:Prop} (h:A):if true=true then A else B:=by
 rw[if_pos rfl];exact h
theorem iG {c A B:Prop} [Decidable c] (h1:c->A) (h2:¬c->B):if c then A else B:=by
 by_cases h:c
 ·rw[if_pos h];exact h1 h
 ·rw[if_neg h];exact h2 h
def aK (H H':Hp):Prop:=∀b o,H b=some o->H' b=some o
theorem aK.refl (H:Hp):aK H H:=λ_ _ h=>h
theorem aK.trans (a:aK H H1) (b:aK H1 H2):aK H H2:=λc o h=>b c o (a c o h)
theorem aK.free (e:aK H H') (h:H' l=Option.none):H l=Option.none:=by
 cases q:H l with
 | none=>rfl
 | some o =>
  rw[e l o q] at h;cases h
theorem aK.seq {K:FG9} (e:aK H H') (h:bO K H a xs):bO K H' a xs:=by
 rcases h with (h | ⟨o,h⟩) | h
 ·exact .inl (.inl (e _ _ h))
 ·exact .inl (.inr ⟨o,e _ _ h⟩)
 ·exact .inr h
end L2
namespace Nm
theorem LJ (a b:Int):Int.gcd b (a.fmod b)=Int.gcd a b:=by
 rw[Int.fmod_def,i8 a b];apply Nat.dvd_antisymm
 ·apply Mu
  ·exact eP ..
  ·have h1:=eP (a:=b) (b:=a - b*a.fdiv b);have h2:=fB (a:=b) (b:=a - b*a.fdiv b);have h3:=Int.dvd_add h2 (lZ (c:=a.fdiv b) h1);rwa [Int.sub_add_cancel] at h3
 ·apply Mu
  ·exact eP ..
  ·exact Int.dvd_sub (fB ..) (lZ (eP ..))
theorem LK (a b:Int):Int.gcd b (a % b)=Int.gcd a b:=by
 rw[Int.emod_def,i8 a b];apply Nat.dvd_antisymm
 ·apply Mu
  ·exact eP ..
  ·have h1:=eP (a:=b) (b:=a - b*(a / b));have h2:=fB (a:=b) (b:=a - b*(a / b));have h3:=Int.dvd_add h2 (lZ (c:=a / b) h1);rwa [Int.sub_add_cancel] at h3
 ·apply Mu
  ·exact eP ..
  ·exact Int.dvd_sub (fB ..) (lZ (eP ..))
theorem NR (a b:Int) (h:b≠0):(a.fmod b).natAbs < b.natAbs:=by
 rcases Int.lt_or_gt_of_ne h with h | h
 ·have e:a.fmod b=-((-a).fmod (-b)):=by
   have:=Int.neg_fmod_neg (-a) (-b);simp only[Int.neg_neg] at this;exact this
  have h1:=Int.fmod_nonneg_of_pos (-a) (b:=-b) (by lia);have h2:=Int.fmod_lt_of_pos (-a) (b:=-b) (by lia)
  lia
 ·have h1:=Int.fmod_nonneg_of_pos a h;have h2:=Int.fmod_lt_of_pos a h
  lia
def g (t b:Int):Int:=(Int.gcd t b:Int)
def lo (t b:Int):Int:=t / g t b
def hi (t b:Int):Int:=b / g t b
theorem zP (h:b≠0):0 < g t b:=by
 unfold g;have:0 < Int.gcd t b:=MF _ h
 lia
theorem zI (t b:Int):lo t b*g t b=t:=Int.ediv_mul_cancel (eP ..)
theorem vY (t b:Int):hi t b*g t b=b:=Int.ediv_mul_cancel (fB ..)
theorem F8 (h:0 < b):0 < hi t b:=by
 have h1:=zP (t:=t) (b:=b) (by lia);have h2:=vY t b;by_cases h3:0 < hi t b
 ·exact h3
 ·have:hi t b*g t b<=0:=Int.mul_nonpos_of_nonpos_of_nonneg (by lia) (by lia)
  lia
theorem Eu (h:b≠0):Int.gcd (lo t b) (hi t b)=1:=by
 have h1:=zP (t:=t) h;have e:=Int.gcd_mul_right (lo t b) (g t b) (hi t b);rw[zI,vY] at e;have e2:(g t b).natAbs=Int.gcd t b:=by unfold g;simp
 rw[e2] at e;have h2:0 < Int.gcd t b:=MF _ h;exact Nat.eq_of_mul_eq_mul_right h2 (by rw[<- e,lY])
theorem F7 (t b:Int):lo t b*b=t*hi t b:=by
 have h1:=zI t b;have h2:=vY t b
 calc lo t b*b=lo t b*(hi t b*g t b):=by rw[h2]
  _=(lo t b*g t b)*hi t b:=by rw[kg (hi t b),<- kM]
  _=t*hi t b:=by rw[h1]
theorem oR (h:Int.gcd a b=1) (hd:a∣b*c):a∣c:=by
 have h1:a.natAbs∣b.natAbs*c.natAbs:=by rw[<- cI];exact gI.mpr hd
 have h2:Nat.Coprime a.natAbs b.natAbs:=h;exact gI.mp (h2.dvd_of_dvd_mul_left h1)
theorem uniq (hb:0 < b) (hd:0 < d) (h1:Int.gcd a b=1) (h2:Int.gcd c d=1) (e:a*d=c*b):a=c/\b=d:=by
 have e1:b∣d:=by
  have:b∣a*d:=⟨c,by rw[e,kg]⟩;exact oR (by rw[i8];exact h1) this
 have e2:d∣b:=by
  have:d∣c*b:=⟨a,by rw[<- e,kg]⟩;exact oR (by rw[i8];exact h2) this
 have e3:b=d:=Int.dvd_antisymm (by lia) (by lia) e1 e2;subst e3;exact ⟨OV (by lia) e,rfl⟩
theorem mY {a b:Int} (h:b≠0):a.natAbs<=(a*b).natAbs:=by
 rw[cI];exact cn _ (Int.natAbs_pos.mpr h)
theorem lo_le (h:b≠0):(lo t b).natAbs<=t.natAbs:=by
 have:=mY (a:=lo t b) (b:=g t b) (by have:=zP (t:=t) h;lia);rwa [zI] at this
theorem OJ (h:b≠0):(hi t b).natAbs<=b.natAbs:=by
 have:=mY (a:=hi t b) (b:=g t b) (by have:=zP (t:=t) h;lia);rwa [vY] at this
def Sz (k:Nat) (x:Int):Prop:=x.natAbs < 2^k
theorem Sz.mono (h:Sz j x) (l:j<=k):Sz k x:=bp h (ar (by decide) l)
theorem Sz.mul (h1:Sz j x) (h2:Sz k y):Sz (j+k) (x*y):=by
 unfold Sz at *
 rw[cI,az];exact Nat.mul_lt_mul'' h1 h2
theorem Sz.neg (h:Sz k x):Sz k (-x):=by unfold Sz at *;rw[sO];exact h
theorem Sz.le (h:Sz k y) (l:x.natAbs<=y.natAbs):Sz k x:=bg l h
theorem Sz.hi {k:Nat} {t b:Int} (h:Sz k b) (hb:b≠0):Sz k (hi t b):=h.le (OJ hb)
end Nm
namespace L2
open PySem PySem.Spec PyProof.Rows
structure Bk (env:Env) (scope:Scope) (own capN:List Str):Prop where
 kind:scope.kind=.function
 locs:∀y∈scope.names,y.2=.local->scope.names.lookup y.1=some .local
 ownk:∀x∈own,scope.names.lookup x=some .local\/scope.names.lookup x=some .cell
 cells:∀y∈scope.names,y.2=.cell->y.1∈own/\y.1∉capN
 frees:∀y∈scope.names,y.2=.free->y.1∈capN/\y.1∉own
 capf:∀x∈capN,scope.names.lookup x=some .free
 caps:∀x∈capN,env.kindOf x=some .cell\/env.kindOf x=some .free
def Sh (scope:Scope) (own capN:List Str):Bool :=
 decide (scope.kind=.function) && scope.names.all (λy=>decide (y.2=.local->scope.names.lookup y.1=some .local) && decide (y.2=.cell->y.1∈own/\y.1∉capN) && decide (y.2=.free->y.1∈capN/\y.1∉own)) &&
 own.all (λx=>decide (scope.names.lookup x=some .local\/scope.names.lookup x=some .cell)) && capN.all λx=>decide (scope.names.lookup x=some .free)
def BG (env:Env):List Str->Bool
 | []=>true
 | x :: r=>(match env.kindOf x with | some .cell=>true | some .free=>true | _=>false) && BG env r
theorem ER {env:Env}:∀{capN:List Str},BG env capN=true->∀x∈capN,env.kindOf x=some .cell\/env.kindOf x=some .free
 | [],_,_,h=>nomatch h
 | y :: r,h,x,hx=>by
  unfold BG at h;rw[dR] at h;rcases aI.mp hx with e | hx
  ·subst e;have h1:=h.1
   split at h1
   ·rename_i e;exact .inl e
   ·rename_i e;exact .inr e
   ·cases h1
  ·exact ER h.2 x hx
theorem Bk.of (h1:Sh scope own capN=true) (h2:BG env capN=true):Bk env scope own capN:=by
 unfold Sh at h1;rw[dR,dR,dR,nW,nW,nW] at h1;obtain ⟨⟨⟨a1,a2⟩,a3⟩,a4⟩:=h1
 have a2':∀y∈scope.names,(y.2=.local->scope.names.lookup y.1=some .local)/\(y.2=.cell->y.1∈own/\y.1∉capN)/\(y.2=.free->y.1∈capN/\y.1∉own):=λy hy=>by
  have q:=a2 y hy;rw[dR,dR] at q;exact ⟨of_decide_eq_true q.1.1,of_decide_eq_true q.1.2,of_decide_eq_true q.2⟩
 exact ⟨of_decide_eq_true a1,λy hy=>(a2' y hy).1,λx hx=>of_decide_eq_true (a3 x hx),λy hy=>(a2' y hy).2.1,λy hy=>(a2' y hy).2.2,λx hx=>of_decide_eq_true (a4 x hx),ER h2⟩
def d5 (env:Env):List (Str×NameKind)->List (Str×Addr)->List (Str×Addr)
 | [],acc=>acc
 | (n,k) :: r,acc=>if k == .free then d5 env r ((n,(env.cells.lookup n).getD 0) :: acc) else d5 env r acc
theorem iH (env:Env):∀(names:List (Str×NameKind)) (acc:List (Str×Addr)),d5 env names acc=d5 env names []++acc
 | [],_=>rfl
 | (n,k) :: r,acc=>by
  unfold d5
  split
  ·rw[iH env r (_ :: acc),iH env r [_],cC];rfl
  ·exact iH env r acc
theorem oS (env:Env):∀(names:List (Str×NameKind)) {x:Str} {c:Addr},(x,c)∈d5 env names []->(x,NameKind.free)∈names/\c=(env.cells.lookup x).getD 0
 | [],_,_,h=>nomatch h
 | (n,k) :: r,x,c,h=>by
  unfold d5 at h
  split at h
  ·rename_i hk
   have ek:k=.free:=by simpa using hk
   subst ek;rw[iH] at h;rcases aG.mp h with h | h
   ·have q:=oS env r h;exact ⟨bW _ q.1,q.2⟩
   ·have e:(x,c)=(n,(env.cells.lookup n).getD 0):=by simpa using h
    cases e;exact ⟨dn,rfl⟩
  ·have q:=oS env r h;exact ⟨bW _ q.1,q.2⟩
theorem jd {α:Type}:∀{l:List (Str×α)} {x:Str} {c:α},(x,c)∈l->∃d,l.lookup x=some d
 | (k,v) :: r,x,c,h=>by
  rw[kf];cases hb:x == k with
  | true=>exact ⟨v,rfl⟩
  | false =>
   rcases aI.mp h with e | h
   ·cases e;simp at hb
   ·exact jd h
theorem oT (env:Env):∀(names:List (Str×NameKind)) {x:Str},(x,NameKind.free)∈names->∃c,(x,c)∈d5 env names []
 | (n,k) :: r,x,h=>by
  unfold d5;rcases aI.mp h with e | h
  ·cases e;rw[if_pos (by decide),iH];exact ⟨_,bI _ dn⟩
  ·obtain ⟨c,q⟩:=oT env r h
   split
   ·rw[iH];exact ⟨c,gY _ q⟩
   ·exact ⟨c,q⟩
theorem Ae (h:∀y∈scope.names,y.2=.free->∃c,env.cells.lookup y.1=some c):closureFor scope env=pure (d5 env scope.names []):=by
 have gen:∀(names:List (Str×NameKind)) (acc:List (Str×Addr)) (f:Str×NameKind->List (Str×Addr)->Sem (ForInStep (List (Str×Addr)))),
   (∀name kind cells,f (name,kind) cells=if kind == .free then (do let a <- cellOf env name;pure (.yield ((name,a) :: cells))) else pure (.yield cells)) →
   (∀y∈names,y.2=.free->∃c,env.cells.lookup y.1=some c)->forIn names acc f=pure (d5 env names acc):=by
  intro names
  induction names with
  | nil=>intro acc f hf _;rw[BV];rfl
  | cons y r ih =>
   intro acc f hf hh;obtain ⟨n,k⟩:=y;rw[ME,hf];unfold d5;by_cases hk:(k == NameKind.free)=true
   ·obtain ⟨c,hc⟩:=hh (n,k) dn (by simpa using hk);have hc':env.cells.lookup n=some c:=hc;have e:cellOf env n=pure c:=by unfold cellOf;rw[hc']
    rw[if_pos hk,if_pos hk,e,hc'];simp only[pure_bind,nV];exact ih _ f hf λy hy=>hh y (bW _ hy)
   ·rw[if_neg hk,if_neg hk];simp only[pure_bind];exact ih _ f hf λy hy=>hh y (bW _ hy)
 simp only[closureFor];rw[gen scope.names [] _ (λname kind cells=>by cases hkc:kind == NameKind.free <;> simp [hkc]) h];rfl
theorem fH:∀(names:List (Str×NameKind)) (n:Nat) (acc:List (Str×Addr)),cellsFrom n names acc=cellsFrom n names []++acc
 | [],_,_=>rfl
 | (x,k) :: r,n,acc=>by
  unfold cellsFrom
  split
  ·rw[fH r (n+1) (_ :: acc),fH r (n+1) [_],cC];rfl
  ·exact fH r n acc
theorem ka:∀(names:List (Str×NameKind)) (n:Nat) {x:Str} {c:Addr},(x,c)∈cellsFrom n names []->(x,NameKind.cell)∈names
 | [],_,_,_,h=>nomatch h
 | (y,k) :: r,n,x,c,h=>by
  unfold cellsFrom at h
  split at h
  ·rename_i hk
   have ek:k=.cell:=by simpa using hk
   subst ek;rw[fH] at h;rcases aG.mp h with h | h
   ·exact bW _ (ka r _ h)
   ·have e:(x,c)=(y,n):=by simpa using h
    cases e;exact dn
  ·exact bW _ (ka r _ h)
def wC (env:Env) (scope:Scope) (C:Addr):Env :=
 { scope:=relabel scope env,locals:=C,globals:=env.globals,cells:=cellsFrom (C+1) scope.names (d5 env scope.names []),qual:=env.qual,func:=none,code:=env.code,frame:=env.frame,builtins:=env.builtins }
theorem Es 
  (h:Q (newEnv scope s.heap.objs.size g (cellsFrom (s.heap.objs.size+1) scope.names cl) qual none .none (some env) builtinsNs) { s with heap:=pushCells (s.heap.push { cls:=.type "dict",data:=.dict #[] }) scope.names }) :
  wpAny M A (newFunctionEnv scope g cl [] qual none .none (some env)) Q E s:=by
 simp only[newFunctionEnv,Option.isSome_some,if_true];refine wpAny_bind (wpAny_alloc ?_);refine wpAny_bind (wpAny_layCells _ (λname kind cells=>by cases hkc:kind == NameKind.cell <;> simp [hkc]) _ _ _ _ ?_);rw[show ({ s with heap:=s.heap.push { cls:=.type "dict",data:=.dict #[] } }:Shared).heap.objs.size=s.heap.objs.size+1 from Heap.size_push ..];rw[BV];exact wpAny_bind (wpAny_pure (wpAny_pure h))
theorem tZ:∀{k:NameKind},(relabel scope env).names.lookup x=some k->∃k0,scope.names.lookup x=some k0/\(k=k0\/(k0=.free/\k=.cell)):=by
 unfold relabel;show ∀{k:NameKind},(scope.names.map λ(n,k)=>if (k == NameKind.free && env.scope.kind == .function && env.kindOf n == some .cell) then (n,NameKind.cell) else (n,k)).lookup x=some k->_
 induction scope.names with
 | nil=>intro k h;cases h
 | cons y r ih =>
  intro k h;obtain ⟨n,k1⟩:=y;rw[ia,kf] at h;rw[kf];by_cases hc:(k1 == NameKind.free && env.scope.kind == .function && env.kindOf n == some .cell)=true
  ·simp only[hc,if_true] at h;cases hb:x == n with
   | true =>
    simp only[hb] at h
    have e1:k1=.free:=by
     rw[dR,dR] at hc;simpa using hc.1.1
    cases h;exact ⟨k1,rfl,.inr ⟨e1,rfl⟩⟩
   | false=>simp only[hb] at h;exact ih h
  ·have hc':(k1 == NameKind.free && env.scope.kind == .function && env.kindOf n == some .cell)=false:=by simpa using hc
   simp only[hc',jb,if_false] at h;cases hb:x == n with
   | true=>simp only[hb] at h;cases h;exact ⟨_,rfl,.inl rfl⟩
   | false=>simp only[hb] at h;exact ih h
theorem Ee:scope.names.lookup x=some .free->(relabel scope env).names.lookup x=some .cell\/(relabel scope env).names.lookup x=some .free:=by
 unfold relabel;show _->(scope.names.map λ(n,k)=>if (k == NameKind.free && env.scope.kind == .function && env.kindOf n == some .cell) then (n,NameKind.cell) else (n,k)).lookup x=some .cell\/(scope.names.map λ(n,k)=>if (k == NameKind.free && env.scope.kind == .function && env.kindOf n == some .cell) then (n,NameKind.cell) else (n,k)).lookup x=some .free
 induction scope.names with
 | nil=>intro h;cases h
 | cons y r ih =>
  intro h;obtain ⟨n,k1⟩:=y;rw[kf] at h;rw[ia];by_cases hc:(k1 == NameKind.free && env.scope.kind == .function && env.kindOf n == some .cell)=true
  ·simp only[hc,if_true,kf];cases hb:x == n with
   | true=>exact .inl rfl
   | false=>rw[hb] at h;exact ih h
  ·have hc':(k1 == NameKind.free && env.scope.kind == .function && env.kindOf n == some .cell)=false:=by simpa using hc
   simp only[hc',jb,if_false,kf];cases hb:x == n with
   | true=>rw[hb] at h;cases h;exact .inr rfl
   | false=>rw[hb] at h;exact ih h
structure Bz where
 s:Shared
 H:Hp
 fp:List Addr
 C:Addr
def xZ (X:Cx) (own capN:List Str) (scope:Scope) (Z:Bz):Cx where
 prog:=X.prog
 w:=X.w
 K:=X.K
 mg:=X.mg
 base:=X.base
 A:=X.A
 N:=own++capN
 s₀:=Z.s
 H₀:=Z.H
 env:=wC X.env scope Z.C
 outer:=X.stack
 stack:=X.stack
 ex:=Z.fp
 fn:=λx=>own.contains x
 calm:=true
 pn:=[]
 xe:=λ_ _=>False
section
variable {X:Cx} {pins:List (Addr×Obj)} {σ:St} {own capN:List Str} {scope:Scope} {Z:Bz}
theorem jl (B:Bk X.env scope own capN) (I:Inv X pins σ Z.H Z.s) (h:(wC X.env scope Z.C).cells.lookup x=some c) :
  (x∈own/\(x,c)∈cellsFrom (Z.C+1) scope.names [])\/(x∈capN/\x∉own/\X.env.cells.lookup x=some c):=by
 have h':(cellsFrom (Z.C+1) scope.names (d5 X.env scope.names [])).lookup x=some c:=h;rw[fH] at h';rcases aG.mp (mem_of_lookup h') with m | m
 ·exact .inl ⟨(B.cells _ (ka _ _ m) rfl).1,m⟩
 ·obtain ⟨m1,e⟩:=oS _ _ m;obtain ⟨q1,q2⟩:=B.frees _ m1 rfl;obtain ⟨d,hd⟩:=I.ok.has x (B.caps x q1);rw[hd] at e;exact .inr ⟨q1,q2,by rw[hd,e];rfl⟩
theorem Oa (B:Bk X.env scope own capN) (I:Inv X pins σ Z.H Z.s) (hx:x∈capN) (h:X.env.cells.lookup x=some c):(wC X.env scope Z.C).cells.lookup x=some c:=by
 have hm:(x,NameKind.free)∈scope.names:=mem_of_lookup (B.capf x hx);obtain ⟨c1,m1⟩:=oT X.env scope.names hm
 have hs:∃d,(wC X.env scope Z.C).cells.lookup x=some d:=by
  show ∃d,(cellsFrom (Z.C+1) scope.names (d5 X.env scope.names [])).lookup x=some d
  rw[fH];exact jd (bI _ m1)
 obtain ⟨d,hd⟩:=hs;rcases jl B I hd with ⟨q,m⟩ | ⟨_,_,q⟩
 ·exact absurd hx (B.cells _ (ka _ _ m) rfl).2
 ·rw[h] at q;cases q;exact hd
theorem Jt (h:Heap) (C:Addr) (hC:h.objs.size=C+1) (names:List (Str×NameKind)):CellsOk (pushCells h names) (C+1) (cellsFrom (C+1) names []):=by
 have q:=cellsFrom_ok names h (C+1) [] ⟨λ_ _ hm=>(nomatch hm),List.Pairwise.nil⟩ (by rw[hC];exact ao _);rwa [hC] at q
theorem Dj (I:Inv X pins σ Z.H Z.s) (h:X.env.cells.lookup x=some c):@LT.lt Nat instLTNat c Z.s.heap.objs.size:=by
 obtain ⟨v,q⟩:=I.cell x c h;exact q.lt
theorem Qr (I:Inv X pins σ Z.H Z.s) (hc:X.calm=true) (B:Bk X.env scope own capN) (hC:Z.s.heap.objs.size<=Z.C) (hcl:CellsOk h1 (Z.C+1) (cellsFrom (Z.C+1) scope.names []))
  (hf:∀b∈Z.fp,j4 X pins Z.H b/\@LT.lt Nat instLTNat b Z.s.heap.objs.size):(xZ X own capN scope Z).Ok:=by
 refine ⟨I.ok.mod,B.kind,I.ok.glob,I.ok.blt,hC,λx y c h1 h2=>?_,λx hx=>?_,λx c hx h=>?_,λ_=>I.ok.hd hc,I.ok.frames,.inl rfl,λb hb=>⟨?_,λx c h=>?_⟩,I.bs,ag I.ok.bsz I.sz,λb o e hb=>?_,λb hb hz=>?_,I.stack,I.stkFree⟩
 ·rcases jl B I h1 with ⟨q1,m1⟩ | ⟨q1,n1,m1⟩ <;> rcases jl B I h2 with ⟨q2,m2⟩ | ⟨q2,n2,m2⟩
  ·exact name_of_addr hcl.apart m1 m2
  ·have l1:=(hcl.empty _ _ m1).2;have l2:=Dj I m2
   lia
  ·have l1:=(hcl.empty _ _ m2).2;have l2:=Dj I m1
   lia
  ·exact I.ok.inj x y c m1 m2
 ·have hx':(relabel scope X.env).names.lookup x=some .cell\/(relabel scope X.env).names.lookup x=some .free:=hx
  have hk:scope.names.lookup x=some .cell\/scope.names.lookup x=some .free:=by
   rcases hx' with h | h
   ·obtain ⟨k0,e,q | ⟨q,_⟩⟩:=tZ h
    ·exact .inl (by rw[e,<- q])
    ·exact .inr (by rw[e,q])
   ·obtain ⟨k0,e,q | ⟨_,q⟩⟩:=tZ h
    ·exact .inr (by rw[e,<- q])
    ·cases q
  show ∃c,(cellsFrom (Z.C+1) scope.names (d5 X.env scope.names [])).lookup x=some c
  rcases hk with h | h
  ·exact QL.mp (yo scope.names (Z.C+1) _ (.inl h))
  ·obtain ⟨c,m⟩:=oT X.env scope.names (mem_of_lookup h);rw[fH];exact jd (bI _ m)
 ·have ho:x∈own:=by have hx':own.contains x=true:=hx;simpa using hx'
  rcases jl B I h with ⟨_,m⟩ | ⟨_,n,_⟩
  ·have:=(hcl.empty _ _ m).2;have hC':Z.s.heap.objs.size<=Z.C:=hC;show Z.s.heap.objs.size<=c
   lia
  ·exact absurd ho n
 ·intro e;have e':@Eq Nat b Z.C:=e;have:=(hf b hb).2
  lia
 ·have l:=(hf b hb).2;rcases jl B I h with ⟨_,m⟩ | ⟨_,_,m⟩
  ·intro e;have e':@Eq Nat c b:=e;have:=(hcl.empty _ _ m).2
   lia
  ·exact (hf b hb).1.2.2.2.2.1 x c m
 ·obtain ⟨_,_,_,f3,_⟩:=(hf b hb).1;rcases f3 with f3 | f3
  ·exact I.ok.noex b o e f3
  ·exact absurd (bp (Heap.lt_size e) (ag I.ok.bsz f3)) (fh _)
 ·obtain ⟨_,f1,f2,_⟩:=(hf b hb).1;rcases aI.mp (I.stkSub b hz) with e | e
  ·exact f1 e
  ·exact f2 e
def J7 (k:Nat) (cap:List Nat) (σ:St):St:=List.replicate k none++cap.map λj=>(σ[j]?).join
def xR (X:Cx) (capN:List Str) (cap:List Nat):Prop:=cap.map (λj=>X.N[j]?)=capN.map some
theorem xR.get (h:xR X capN cap) {i:Nat} (e:capN[i]?=some x):∃j,cap[i]?=some j/\X.N[j]?=some x:=by
 have q:=congrArg (λl=>l[i]?) h;simp only[aH,e,Option.map_some] at q;cases hc:cap[i]? with
 | none=>rw[hc] at q;cases q
 | some j=>rw[hc] at q;exact ⟨j,rfl,by simpa using q⟩
theorem ES (I:Inv X pins σ Z.H Z.s) (B:Bk X.env scope own capN) (hcap:xR X capN cap)
  (kc:∀x c,X.env.cells.lookup x=some c->∀v,Z.s.heap.IsCell c v->h'.IsCell c v) {i:Nat} (e1:(own++capN)[i]?=some x) (e2:(J7 own.length cap σ)[i]?=some (some v)) :
  ∃u,RelV v u/\Look (wC X.env scope Z.C) h' m x u:=by
 have hi:own.length<=i:=by
  by_cases hi:own.length<=i
  ·exact hi
  ·exfalso
   unfold J7 at e2;rw[cu (by simpa using hi),xU] at e2
   split at e2 <;> cases e2
 rw[bN hi] at e1;unfold J7 at e2;rw[bN (by simpa using hi),bx,aH] at e2;obtain ⟨j,hj,hN⟩:=hcap.get e1;rw[hj] at e2;have e3:(σ[j]?).join=some v:=by simpa using e2
 have e4:σ[j]?=some (some v):=by
  cases q:σ[j]? with
  | none=>rw[q] at e3;cases e3
  | some o=>rw[q] at e3;simp at e3;rw[e3]
 have hx:x∈capN:=av e1;have hk:=B.caps x hx;obtain ⟨m0,_,hl⟩:=I.loc;obtain ⟨u,r,l⟩:=hl j x v hN e4 (.inr hk);refine ⟨u,r,.inr ⟨Ee (B.capf x hx),?_⟩⟩;rcases l with ⟨hk2,_⟩ | ⟨_,c,hc,z⟩
 ·rcases hk with hk | hk
  ·rw[hk] at hk2;cases hk2
  ·rw[hk] at hk2;cases hk2
 ·exact ⟨c,Oa B I hx hc,kc x c hc _ z⟩
theorem RM (I:Inv X pins σ Z.H Z.s) (h:b∈J9 X.stack):@LT.lt Nat instLTNat b Z.s.heap.objs.size:=by
 obtain ⟨_,o,ho,_⟩:=I.stack.mem h;exact Heap.lt_size ho
theorem N7 {D:Addr} (I:Inv X pins σ Z.H Z.s) (hc:X.calm=true) (B:Bk X.env scope own capN) (hcap:xR X capN cap) (hC:Z.s.heap.objs.size<=Z.C)
  (hcl:CellsOk h1 (Z.C+1) (cellsFrom (Z.C+1) scope.names [])) (hf:∀b∈Z.fp,j4 X pins Z.H b/\@LT.lt Nat instLTNat b Z.s.heap.objs.size)
  (hk:∀b o,Z.s.heap.get? b=some o->h1.get? b=some o) (hn:h1.Ns Z.C λ_=>none) (hD:Z.s.heap.objs.size<=D) (hDC:D≠Z.C) (hoD:h1.get? D=some oD) (hdD:∀v,oD.data≠.cell v) :
  Inv (xZ X own capN scope Z) [(D,oD)] (J7 own.length cap σ) Z.H { Z.s with heap:=h1,toks:=t1 }:=by
 refine ⟨Qr I hc B hC hcl hf,rfl,I.bare,Un.kept hk,⟨_,hn,λi x v e1 e2 _=>ES I B hcap (λx c _ v z=>z.keeps hk) e1 e2⟩,λx c h=>?_,I.hok.fresh hC,λx c h=>?_,λp hp=>?_,I.hok.kept hk,?_⟩
 ·rcases jl B I h with ⟨_,m⟩ | ⟨_,_,m⟩
  ·exact ⟨none,(hcl.empty _ _ m).1⟩
  ·obtain ⟨v,q⟩:=I.cell x c m;exact ⟨v,q.keeps hk⟩
 ·rcases jl B I h with ⟨_,m⟩ | ⟨_,_,m⟩
  ·exact I.hok.fresh (by have:=(hcl.empty _ _ m).2;lia)
  ·exact I.freeC x c m
 ·have e:p=(D,oD):=by simpa [xZ] using hp
  subst e;exact ⟨hoD,I.hok.fresh hD,hDC,λz=>fh _ (bp (RM I z) hD),hdD⟩
 ·show (J7 own.length cap σ).length=(own++capN).length
  have:=congrArg List.length hcap;simp only[ai] at this;unfold J7;simp [this]
theorem Mi {σ':St} (I:Inv X pins σ Z.H Z.s) (B:Bk X.env scope own capN) (hcap:xR X capN cap) (hf:∀b∈Z.fp,j4 X pins Z.H b/\@LT.lt Nat instLTNat b Z.s.heap.objs.size)
  (J:Inv (xZ X own capN scope Z) pins' σ' H' s'):Inv (xZ X own capN scope Z) pins' (J7 own.length cap σ) H' s':=by
 refine ⟨J.ok,J.os,J.bare,J.base,?_,J.cell,J.free,J.freeC,J.pin,J.hok,?_⟩
 ·obtain ⟨m,hn,_⟩:=J.loc;refine ⟨m,hn,λi x v e1 e2 _=>ES I B hcap (λx c hx v z=>?_) e1 e2⟩;obtain ⟨o,ho,hd⟩:=z;obtain ⟨sl,e⟩:=J.base.any ho (I.freeC x c hx) λz=>(hf c z).1.2.2.2.2.1 x c hx rfl
  exact ⟨_,e,hd⟩
 ·show (J7 own.length cap σ).length=(own++capN).length
  have:=congrArg List.length hcap;simp only[ai] at this;unfold J7;simp [this]
theorem N9 {σ':St} {D:Addr} (I:Inv X pins σ Z.H Z.s) (hf:∀b∈Z.fp,j4 X pins Z.H b/\@LT.lt Nat instLTNat b Z.s.heap.objs.size) (hD:Z.s.heap.objs.size<=D)
  (J:Inv (xZ X own capN scope Z) [(D,{ cls:=.type "list",data:=.seq its.toArray n })] σ' H' s') (r:cY ys its) (hz:ys.length<=sizeLine) :
  Inv X pins σ (upd H' D (.lst ys)) s':=by
 have pD:=J.pin (D,{ cls:=.type "list",data:=.seq its.toArray n }) (by simp);have ne:∀{b:Addr} {o:Obj},Z.s.heap.get? b=some o->b≠D:=λe z=>by subst z;exact fh _ (bp (Heap.lt_size e) hD)
 have nt:∀{b:Addr} {u:HO},H' b=some u->b≠D:=λe z=>by rw[z,pD.2.1] at e;cases e
 refine I.call' (ch:=Z.fp) J.os ⟨J.base.keep,J.base.slot,λb o e h hx=>?_,J.base.there,λb xs e=>?_,λb o u e=>?_,λb ps e=>?_⟩ (λb u e=>?_) J.bare λb hb=>?_
 ·rw[bE (ne e)];exact J.base.free b o e h hx
 ·have q:=J.base.tups b xs e;rw[bE (nt q)];exact q
 ·have q:=J.base.frzs b o u e;rw[bE (nt q)];exact q
 ·obtain ⟨more,q⟩:=J.base.tbls b ps e;exact ⟨more,by rw[bE (nt q)];exact q⟩
 ·by_cases hb:b=D
  ·subst hb;rw[aM] at e;cases e;exact ⟨hz,its,n,r,pD.1⟩
  ·rw[bE hb] at e;exact (J.hok b u e).stay (λc v _ q=>q) (λc q=>by rw[bE (nt q)];exact q) λc xs q=>by rw[bE (nt q)];exact q
 ·obtain ⟨_,f1,_,f3,f4,f5⟩:=(hf b hb).1;exact ⟨f3,f1,f4,f5⟩
end
theorem OZ {t:Sem α} {Q Q':α->Shared->Prop} (h:wpAny M A t Q (λ_ _=>False) s) (hQ:∀a s,Q a s->Q' a s):wpAny M A t Q' E s :=
 wpAny_mono h hQ λ_ _ z=>False.elim z
theorem Dg (I:Nat->Shared->Prop)
  (turn:∀(E:Value->Shared->Prop) n s,I n s->wpAny (model prog w) A (pyNext it) (λr s₁=>match r with
   | none=>R (.ok .next) s₁
   | some v=>wpAny (model prog w) A (letOwnedTupleGo target it v) (λ_ s₂=>wpAny (model prog w) A (assign target env v) (λ_ s₃ =>
     wpAny (model prog w) A (forIn ifs true λc r=>if r=true then do let ok <- isTrue c env (eval c env);pure (ForInStep.yield ok) else pure (ForInStep.yield r)) (λok s₄ =>
      if ok=true then wpAny (model prog w) A (eval elt env) (λx s₅=>wpAny (model prog w) A (call (.builtin "list.append") [acc,x]) (λ_ s₆=>∃m,m < n/\I m s₆) E s₅) E s₄
      else ∃m,m < n/\I m s₄) E s₃) E s₂) E s₁) E s)
  (n:Nat) (h:I n s):codeAny (model prog w) A (.compLoop (.ListComp elt [⟨target,iter,ifs,0⟩] scope pos) 0 it acc env) R s:=by
 refine codeAny_loop rfl I (λn s hI=>?_) n h;show wpAny _ A ((compTurn (.ListComp elt [⟨target,iter,ifs,0⟩] scope pos) 0 it acc env).onRaise (λx=>do noteFrame x env;theTreesLotGoes x)) _ _ s
 refine wpAny_noted ?_;rw[compTurn_list];refine wpAny_bind (wpAny_standAt (wpAny_bind (wpAny_mono (turn _ n s hI) (λr s₁ h₁=>?_) λ_ _ h'=>h')));cases r with
 | none=>exact wpAny_pure h₁
 | some v =>
  refine wpAny_bind (wpAny_mono h₁ (λ_ s₂ h₂=>wpAny_bind (wpAny_mono h₂ (λ_ s₃ h₃=>wpAny_bind (wpAny_mono h₃ (λok s₄ h₄=>?_) λ_ _ h'=>h')) λ_ _ h'=>h')) λ_ _ h'=>h');cases ok with
  | false=>exact wpAny_pure ⟨rfl,h₄⟩
  | true =>
   exact wpAny_bind (wpAny_bind (wpAny_mono h₄ (λx s₅ h₅=>wpAny_bind (wpAny_mono h₅ (λ_ s₆ h₆=>wpAny_pure (wpAny_pure ⟨rfl,h₆⟩)) λ_ _ h'=>h')) λ_ _ h'=>h'))
def PF (X:Cx) (ifs:List Expr) (t:TT):Prop :=
 ∀(pins:List (Addr×Obj)) (s:Shared) (σ:St) (H:Hp) (Q:Bool->Hp->Prop),Inv X pins σ H s->t σ H Q →
  wpAny (model X.prog X.w) X.A (forIn ifs true λc r=>if r=true then do let ok <- isTrue c X.env (eval c X.env);pure (ForInStep.yield ok) else pure (ForInStep.yield r)) (TP X pins σ Q) X.xe s
def QQ:TT:=λ_ H Q=>Q true H
theorem cB:PF X [] QQ:=λ_ _ _ H _ I h=>wpAny_tests_nil ⟨H,I,h⟩
def pK (σ₀:St) (g:TG) (tf:TT) (te:TE) (x:V) (H:Hp) (NY:V->Hp->Prop) (NN:Hp->Prop):Prop :=
 g x σ₀ H λσ2 H2=>tf σ2 H2 λb H3=>if b=true then te σ2 H3 NY else NN H3
def qQ (J:It) (σ₀:St) (g:TG) (tf:TT) (te:TE) (Q:VK) (H1:Hp):Prop :=
 ∃W:Nat->Nat->List V->Hp->Prop,(∃m,W 0 m [] H1)/\∀i m ys H,W i m ys H →
  (J.stop i H/\ys.length<=sizeLine/\∀p,H p=none->Q (.ref p) (upd H p (.lst ys))) \/
  (J.go i H/\ys.length < sizeLine/\∃(NY:V->Hp->Prop) (NN:Hp->Prop),(∀y H',NY y H'->∃m',m' < m/\W (i+1) m' (ys++[y]) H')/\(∀H',NN H'->∃m',m' < m/\W (i+1) m' ys H') /\
   ∀x H',J.yld i H x H'->pK σ₀ g tf te x H' NY NN)
def DJ (wi:TI) (k:Nat) (cap:List Nat) (g:TG) (tf:TT) (te:TE):TE:=λσ H Q=>wi σ H λJ H1=>qQ J (J7 k cap σ) g tf te Q H1
abbrev lobj (its:List Value) (n:Nat):Obj:={ cls:=.type "list",data:=.seq its.toArray n }
section
variable {X:Cx} {own capN:List Str} {cap:List Nat} {scope:Scope} {elt tg iter:Expr} {ifs:List Expr} {pos:Pos} {wi:TI} {g:TG} {tf:TT} {te:TE}
theorem BE (hc:X.calm=true) (B:Bk X.env scope own capN) (hcap:xR X capN cap)
  (hi:PI X tg iter wi) (hg:∀Z,PG (xZ X own capN scope Z) tg g) (hf:∀Z,PF (xZ X own capN scope Z) ifs tf) (he:∀Z,PE (xZ X own capN scope Z) elt te)
  (hs:∀x,foldedSetIterable iter X.env x=pure x) {σ:St} (I:Inv X pins σ H s) (h:DJ wi own.length cap g tf te σ H Q)
  (fin:∀(D C:Addr) (s':Shared) (H':Hp),Inv X pins σ H' s'->j4 X pins H' C->(∃m,s'.heap.Ns C m)->Q (.ref D) H'->compPost (model X.prog X.w) X.A X.xe use Qe (.ref D) C (.ok .next) s') :
  wpAny (model X.prog X.w) X.A (comprehension (.ListComp elt [⟨tg,iter,ifs,0⟩] scope pos) scope X.env fpos (newList []) false (eval iter X.env) use) Qe X.xe s:=by
 refine wpAny_comprehension_free (use:=use) rfl hs (Ae λy hy hk=>I.ok.has y.1 (B.caps _ (B.frees y hy hk).1)) B.kind B.locs ?_;refine gK (hi pins s σ H _ I h) λv s1 h1=>gK h1 λitv s2 h2=>?_
 obtain ⟨it,fp,tn,J,H2,e,I2,T,st2,f2,W,⟨m0,w0⟩,turn⟩:=h2;subst e;have hfp:∀b∈fp,j4 X pins H2 b/\@LT.lt Nat instLTNat b s2.heap.objs.size:=λb hb=>⟨f2 b hb,let ⟨_,e,_⟩:=T.obj _ _ st2 b hb;Heap.lt_size e⟩
 refine wpAny_newObj_type (Es ?_) (br _);have es:(s2.heap.push { cls:=.type "list",data:=.seq ([]:List Value).toArray }).objs.size=s2.heap.objs.size+1:=Heap.size_push ..
 show codeAny _ _ (.compStart _ 0 (.ref it) (.ref s2.heap.objs.size) { newEnv scope (s2.heap.push { cls:=.type "list",data:=.seq ([]:List Value).toArray }).objs.size X.env.globals (cellsFrom ((s2.heap.push { cls:=.type "list",data:=.seq ([]:List Value).toArray }).objs.size+1) scope.names (d5 X.env scope.names [])) X.env.qual none .none (some X.env) builtinsNs with scope:=relabel scope X.env })
  (compPost (model X.prog X.w) X.A X.xe use Qe (.ref s2.heap.objs.size) (s2.heap.push { cls:=.type "list",data:=.seq ([]:List Value).toArray }).objs.size)
  { s2 with heap:=pushCells ((s2.heap.push { cls:=.type "list",data:=.seq ([]:List Value).toArray }).push { cls:=.type "dict",data:=.dict #[] }) scope.names }
 have hk1:∀b o,(s2.heap.push { cls:=.type "list",data:=.seq ([]:List Value).toArray }).get? b=some o->(pushCells ((s2.heap.push { cls:=.type "list",data:=.seq ([]:List Value).toArray }).push { cls:=.type "dict",data:=.dict #[] }) scope.names).get? b=some o :=
  λb o e=>pushCells_keeps _ _ _ _ (Heap.get?_push_of_some _ e)
 have hk:∀b o,s2.heap.get? b=some o->(pushCells ((s2.heap.push { cls:=.type "list",data:=.seq ([]:List Value).toArray }).push { cls:=.type "dict",data:=.dict #[] }) scope.names).get? b=some o:=λb o e=>hk1 b o (Heap.get?_push_of_some _ e)
 have hoD:=hk1 s2.heap.objs.size _ (Heap.get?_push_size s2.heap (o:={ cls:=.type "list",data:=.seq ([]:List Value).toArray }) rfl);have hn:=(Heap.Ns.new (s2.heap.push { cls:=.type "list",data:=.seq ([]:List Value).toArray }) (.type "dict")).keeps (pushCells_keeps scope.names _);have hcl:=Jt ((s2.heap.push { cls:=.type "list",data:=.seq ([]:List Value).toArray }).push { cls:=.type "dict",data:=.dict #[] }) (s2.heap.objs.size+1) (by rw[Heap.size_push,es]) scope.names;rw[es] at hn ⊢;generalize pushCells ((s2.heap.push { cls:=.type "list",data:=.seq ([]:List Value).toArray }).push { cls:=.type "dict",data:=.dict #[] }) scope.names=h3 at hk hoD hn hcl ⊢;have Z:Bz:=⟨s2,H2,fp,s2.heap.objs.size+1⟩
 have I3:Inv (xZ X own capN scope ⟨s2,H2,fp,s2.heap.objs.size+1⟩) [(s2.heap.objs.size,lobj [] 0)] (J7 own.length cap σ) H2 { s2 with heap:=h3 } :=
  N7 (Z:=⟨s2,H2,fp,s2.heap.objs.size+1⟩) (t1:=s2.toks) I2 hc B hcap (vm _) hcl hfp hk hn (ao _) (bY (iK _)) hoD (λv z=>nomatch z)
 have st3:tn 0 h3:=T.keep _ _ _ st2 λb _ o e=>hk b o e
 have loop:codeAny (model X.prog X.w) X.A (.compLoop (.ListComp elt [⟨tg,iter,ifs,0⟩] scope pos) 0 (.ref it) (.ref s2.heap.objs.size) (wC X.env scope (s2.heap.objs.size+1))) (compPost (model X.prog X.w) X.A X.xe use Qe (.ref s2.heap.objs.size) (s2.heap.objs.size+1)) { s2 with heap:=h3 }:=by
  refine Dg (λm s'=>∃i ys σ' H' its n,Inv (xZ X own capN scope ⟨s2,H2,fp,s2.heap.objs.size+1⟩) [(s2.heap.objs.size,lobj its n)] σ' H' s'/\tn i s'.heap/\(∀b∈fp,H' b=none)/\cY ys its/\W i m ys H') ?_ m0
   ⟨0,[],_,H2,[],0,I3,st3,λb hb=>(f2 b hb).1,.nil,w0⟩
  rintro E n s4 ⟨i,ys,σ4,H4,its,k,I4,st4,fr4,rv,w4⟩
  have fpo:∀{pp:List (Addr×Obj)} {H':Hp},(∀p∈pp,p.1=s2.heap.objs.size)->(∀b∈fp,H' b=none)->∀b∈fp,j4 (xZ X own capN scope ⟨s2,H2,fp,s2.heap.objs.size+1⟩) pp H' b:=λ{pp H'} hpp hn b hb=>by
   obtain ⟨e1,e2⟩:=I4.ok.exf b hb;refine ⟨hn b hb,e1,I4.ok.exfs b hb,.inl hb,e2,λp hp=>?_⟩;have hp':p∈pp:=by simpa [xZ] using hp
   have l:=(hfp b hb).2;rw[hpp p hp'];exact λz=>fh _ (by rw[<- z] at l;exact l)
  have pinD:∀{its:List Value} {n:Nat},∀p∈[(s2.heap.objs.size,lobj its n)],p.1=s2.heap.objs.size:=λp hp=>by simp at hp;rw[hp]
  rcases turn i n ys H4 w4 with ⟨stop,hz,q⟩ | ⟨go,hlt,NY,NN,hNY,hNN,step⟩
  ·refine gK (T.done (xZ X own capN scope ⟨s2,H2,fp,s2.heap.objs.size+1⟩) rfl rfl rfl rfl i _ s4 σ4 H4 E I4 (fpo pinD fr4) st4 stop) λr s5 ⟨hr,I5⟩=>?_
   subst hr;have pD:=I5.pin (s2.heap.objs.size,lobj its k) (by simp);have I6:=N9 (Z:=⟨s2,H2,fp,s2.heap.objs.size+1⟩) I2 hfp (ao _) I5 rv hz
   have hC:upd H4 s2.heap.objs.size (.lst ys) (s2.heap.objs.size+1)=none:=by
    rw[bE (IU (iK _))];exact I5.free
   obtain ⟨m,hm,_⟩:=I5.loc;exact fin _ _ s5 _ I6 (I2.fpOk (vm _) hC) ⟨m,hm⟩ (q _ pD.2.1)
  ·refine gK (T.item (xZ X own capN scope ⟨s2,H2,fp,s2.heap.objs.size+1⟩) rfl rfl rfl rfl i _ s4 σ4 H4 E I4 (fpo pinD fr4) st4 go) λr s5 ⟨u,hr,h5⟩=>?_
   subst hr;refine gK h5 λ_ s6 ⟨x,H6,I6,r6,y6,st6,fr6⟩=>?_
   have I6':=(Mi (Z:=⟨s2,H2,fp,s2.heap.objs.size+1⟩) I2 B hcap hfp I6).pinned (fpo pinD fr6) (T.obj _ _ st6)
   have back:∀{σ7:St} {H7:Hp} {s7:Shared},Inv (xZ X own capN scope ⟨s2,H2,fp,s2.heap.objs.size+1⟩) ([(s2.heap.objs.size,lobj its k)]++yY fp s6.heap) σ7 H7 s7 →
     Inv (xZ X own capN scope ⟨s2,H2,fp,s2.heap.objs.size+1⟩) [(s2.heap.objs.size,lobj its k)] σ7 H7 s7/\tn (i+1) s7.heap/\∀b∈fp,H7 b=none:=λ{σ7 H7 s7} I7=>by
    refine ⟨I7.unpinned,T.keep _ _ _ st6 λb hb o e=>(I7.pin (b,o) (bI _ (bI _ (oQ hb e)))).1,λb hb=>?_⟩;obtain ⟨o,e,d⟩:=T.obj _ _ st6 b hb;exact (I7.pin (b,o) (bI _ (bI _ (oQ hb e)))).2.1
   refine OZ (hg _ _ s6 _ H6 x u _ I6' r6 (step x H6 y6)) λ_ s7 ⟨σ7,H7,I7,q7⟩=>?_
   refine OZ (hf _ _ s7 σ7 H7 _ I7 q7) λok s8 ⟨H8,I8,q8⟩=>?_
   cases ok with
   | false =>
    rw[if_neg be] at q8 ⊢;obtain ⟨m',hm,w8⟩:=hNN H8 q8;obtain ⟨J1,J2,J3⟩:=back I8;exact ⟨m',hm,i+1,ys,σ7,H8,its,k,J1,J2,J3,rv,w8⟩
   | true =>
    rw[if_pos rfl] at q8 ⊢;refine OZ (he _ _ s8 σ7 H8 _ I8 q8) λz s9 ⟨y,H9,I9,r9,q9⟩=>?_
    obtain ⟨J1,J2,J3⟩:=back I9;obtain ⟨m',hm,w9⟩:=hNY y H9 q9;have pD:=J1.pin (s2.heap.objs.size,lobj its k) (by simp);have hl:=rv.length;refine call_meets F.slot_list_append ⟨_,pD.1,rfl⟩ F.entry_list_append (F.args_list_append_2 _ _) (PySem.list_append s2.heap.objs.size its.toArray k z (by rw[aT];lia)) ⟨pD.1,?_⟩;have e9:=ke pD.1 (λa=>a.push z);have e9':(its.toArray.push z)=(its++[z]).toArray:=by simp
    rw[e9'] at e9;obtain ⟨n',e9⟩:∃n',(s9.heap.update s2.heap.objs.size (Obj.mapSeq λa=>a.push z)).get? s2.heap.objs.size=some (lobj (its++[z]) n'):=⟨_,e9⟩
    have J4:Inv (xZ X own capN scope ⟨s2,H2,fp,s2.heap.objs.size+1⟩) [] σ7 H9 { s9 with heap:=s9.heap.update s2.heap.objs.size (Obj.mapSeq λa=>a.push z),toks:=s9.toks } :=
     (J1.pins_of (pins':=[]) λp hp=>nomatch hp).turned (λb o hb e=>(Heap.get?_update_other s9.heap _ (Ne.symm hb)).trans e) pD.2.1 pD.2.2.1 (.inr (ao _)) (λx c hx z=>by
      rcases jl (Z:=⟨s2,H2,fp,s2.heap.objs.size+1⟩) B I2 hx with ⟨_,m⟩ | ⟨_,_,m⟩
      ·have:=(hcl.empty _ _ m).2;have z':@Eq Nat c s2.heap.objs.size:=z
       lia
      ·have:=Dj (Z:=⟨s2,H2,fp,s2.heap.objs.size+1⟩) I2 m;rw[z] at this;exact fh _ this) λp hp=>by simp [xZ] at hp
    have nfp:∀b∈fp,b≠s2.heap.objs.size:=λb hb z=>by have:=(hfp b hb).2;rw[z] at this;exact fh _ this
    refine ⟨m',hm,i+1,ys++[y],σ7,H9,its++[z],n',J4.pins_of λp hp=>?_,T.keep _ _ _ J2 λb hb o e=>(Heap.get?_update_other s9.heap _ (Ne.symm (nfp b hb))).trans e,J3,rv.append (.cons r9 .nil),w9⟩;have ep:p=(s2.heap.objs.size,lobj (its++[z]) n'):=by simpa using hp
    rw[ep];exact ⟨e9,pD.2.1,pD.2.2.1,pD.2.2.2.1,λv z=>nomatch z⟩
 exact codeAny_compStart_list loop (T.self _ _ _ _ _ st3 loop)
theorem b9 (own capN:List Str) (cap:List Nat) (hi:PI X tg iter wi) (hg:∀Z,PG (xZ X own capN scope Z) tg g) (hf:∀Z,PF (xZ X own capN scope Z) ifs tf) (he:∀Z,PE (xZ X own capN scope Z) elt te)
  (h1:Sh scope own capN=true:=by decide +kernel) (h2:BG X.env capN=true:=by rfl) (hcap:xR X capN cap:=by rfl) (hc:X.calm=true:=by rfl) (hs:∀x,foldedSetIterable iter X.env x=pure x:=by intro _;rfl) :
  PE X (.ListComp elt [⟨tg,iter,ifs,0⟩] scope pos) (DJ wi own.length cap g tf te):=by
 intro pins s σ H Q I h;rw[eval_ListComp];refine BE (use:=none) hc (Bk.of h1 h2) hcap hi hg hf he hs I h λD C s' H' I' fC hm q=>?_
 obtain ⟨m,hm⟩:=hm;refine ⟨m,hm,λh' hs'=>?_⟩;obtain ⟨f0,f1,f2,f3,f4,f5⟩:=fC;exact ⟨.ref D,H',I'.turned (t':=s'.toks) (λb o hb e=>(hs'.2 b hb).trans e) f0 f1 f3 f4 f5,rfl,q⟩
theorem qS (i:Nat) (own capN:List Str) (cap:List Nat) {x:Str} {pos' spos:Pos} (hN:X.N.Nodup) (hi':X.N[i]?=some x) (hx:X.env.scope.names.lookup x=some .local) (hi:PI X tg iter wi) (hg:∀Z,PG (xZ X own capN scope Z) tg g) (hf:∀Z,PF (xZ X own capN scope Z) ifs tf) (he:∀Z,PE (xZ X own capN scope Z) elt te)
  (h1:Sh scope own capN=true:=by decide +kernel) (h2:BG X.env capN=true:=by rfl) (hcap:xR X capN cap:=by rfl) (hc:X.calm=true:=by rfl) (hs:∀x,foldedSetIterable iter X.env x=pure x:=by intro _;rfl)
  (hsw:swapsWith (.ListComp elt [⟨tg,iter,ifs,0⟩] scope pos) (some (.Name x pos')) spos.line X.env=pure true:=by rfl) :
  PS X (.Assign [.Name x pos'] (.ListComp elt [⟨tg,iter,ifs,0⟩] scope pos) spos) (MJ (DJ wi own.length cap g tf te) (Ip i)):=by
 intro pins s σ H D I h;rw[exec_Assign_Name_used _ _ _ _ hsw];refine wpAny_bind (wpAny_standAt (wpAny_bind ?_));rw[arm_evalThenUse_ListComp];refine wpAny_bind (BE (Q:=λv H1=>D.nx (σ.set i (some v)) H1) (use:=some _) hc (Bk.of h1 h2) hcap hi hg hf he hs I h λL C s' H' I' fC hm q=>?_);obtain ⟨m,hm⟩:=hm;obtain ⟨f0,f1,f2,f3,f4,f5⟩:=fC;refine wpAny_assign_Name (A0 I' hN hi' (.inl hx) (v:=.ref L) rfl (λs'' I'' ⟨a,sb,ha⟩=>?_) (.inr hx))
 have hCa:C≠a:=by
  rcases ha with e | e
  ·rw[e];exact f1
  ·exact (f4 x a e).symm
 refine ⟨m,hm.at' λo e=>(sb.2 C hCa).trans e,λh' hs'=>?_⟩;have I3:=I''.turned (h':=h') (t':=s''.toks) (λb o hb e=>(hs'.2 b hb).trans e) f0 f1 f3 f4 f5;exact wpAny_pure (wpAny_pure ⟨_,H',I3,q⟩)
end
section
variable {K:FG9} {a:Addr} {xs:List V} {g:TG} {tf:TT} {te:TE} {Q:VK} {σ₀:St} {H:Hp}
theorem gO (Pv:Nat->List V->Hp->Prop) (hz:xs.length<=sizeLine) (h0:Pv 0 [] H) (hl:∀i ys H,i<=xs.length->Pv i ys H->bO K H a xs)
  (hs:∀i x ys H,xs[i]?=some x->ys.length<=i->Pv i ys H->pK σ₀ g tf te x H (λy H'=>Pv (i+1) (ys++[y]) H') (λH'=>Pv (i+1) ys H'))
  (hd:∀ys H,ys.length<=xs.length->Pv xs.length ys H->∀p,H p=none->Q (.ref p) (upd H p (.lst ys))):qQ (Of K a) σ₀ g tf te Q H:=by
 refine ⟨λi m ys H=>m=xs.length - i/\i<=xs.length/\ys.length<=i/\Pv i ys H,⟨xs.length,by simp,br _,br _,h0⟩,?_⟩;rintro i m ys H ⟨rfl,hi,hy,p⟩;have q:=hl i ys H hi p;by_cases hlt:i < xs.length
 ·refine .inr ⟨⟨xs,xs[i],q,by simp [hlt]⟩,by lia,λy H'=>Pv (i+1) (ys++[y]) H',λH'=>Pv (i+1) ys H',λy H' p'=>⟨xs.length - (i+1),by lia,rfl,hlt,by rw[ax,bS];lia,p'⟩,λH' p'=>⟨xs.length - (i+1),by lia,rfl,hlt,by lia,p'⟩,λx H' y=>?_⟩;obtain ⟨e,y⟩:=y;subst e;exact hs i x ys _ (y xs q) hy p
 ·have e:i=xs.length:=by lia
  subst e;exact .inl ⟨⟨xs,q,ao _⟩,by lia,hd ys H hy p⟩
theorem tO {lo:Int} (Pv:Nat->List V->Hp->Prop) (hz:n<=sizeLine) (h0:Pv 0 [] H)
  (hs:∀i ys H,i < n->ys.length<=i->Pv i ys H->pK σ₀ g tf te (.int (lo+i)) H (λy H'=>Pv (i+1) (ys++[y]) H') (λH'=>Pv (i+1) ys H'))
  (hd:∀ys H,ys.length<=n->Pv n ys H->∀p,H p=none->Q (.ref p) (upd H p (.lst ys))):qQ (Fm lo n) σ₀ g tf te Q H:=by
 refine ⟨λi m ys H=>m=n - i/\i<=n/\ys.length<=i/\Pv i ys H,⟨n,by simp,br _,br _,h0⟩,?_⟩;rintro i m ys H ⟨rfl,hi,hy,p⟩;by_cases hlt:i < n
 ·refine .inr ⟨hlt,by lia,λy H'=>Pv (i+1) (ys++[y]) H',λH'=>Pv (i+1) ys H',λy H' p'=>⟨n - (i+1),by lia,rfl,hlt,by rw[ax,bS];lia,p'⟩,λH' p'=>⟨n - (i+1),by lia,rfl,hlt,by lia,p'⟩,λx H' y=>?_⟩;obtain ⟨e,y⟩:=y;subst e y;exact hs i ys _ hlt hy p
 ·have e:i=n:=by lia
  subst e;exact .inl ⟨ao _,by lia,hd ys H hy p⟩
end
open Nm
def fK (i j:Int):Prop:=Qz i j\/∃m n,Sz m i/\Sz n j/\m+n<=1000000
def mG (i j:Int):Prop:=j≠0/\Sz 449950 j
theorem Ag (h:Sz k i):Builtin.Int.intBits i<=k:=by
 unfold Builtin.Int.intBits;by_cases e:i=0
 ·subst e;simp
 ·have e':(i == 0)=false:=by simpa using e
  rw[e'];have hn:i.natAbs≠0:=by lia
  have:=(Nat.log2_lt hn).mpr h;simp only[jb,if_false]
  lia
theorem fK.ok (h:fK i j):IntMulOk i j:=by
 rcases h with h | ⟨m,n,h1,h2,h3⟩
 ·exact h.ok
 ·have e:(2:Nat)^20=1048576:=by decide
  exact .of_bits (by have:=Ag h1;lia) (by have:=Ag h2;lia)
section
variable {X:Cx} {a b:Expr} {ta tb:TE} {pos:Pos}
theorem cV:yl X (binaryOp .Mult) (rI fK λi j=>.int (i*j)):=Sy λ_ _ _ _ _ _ _ hc q=>mul_int q hc.ok
theorem ij (hs:X.stack=env :: l) (S:a9 N ps sc) (he:env.scope=sc) (hb:env.builtins=builtinsNs) (hg:env.globals=mainGlobals) (ht:X.prog.given.tree=none) (hd:X.A.depth+Builtin.pylongFrames < recursionLimit):yl X (binaryOp .FloorDiv) (rI mG λi j=>.int (i.fdiv j)):=by
 intro pins s σ H x y v u Q I rx ry h;obtain ⟨i,j,rfl,rfl,hc,q⟩:=h;obtain ⟨t,rfl⟩:=rx;obtain ⟨t',rfl⟩:=ry;refine floordiv_int hc.1 ⟨.int _,H,I.tok _,⟨_,rfl⟩,q⟩ (.inr (PySem.PylongRoom.of I.nolimit hd (PySem.SeerAt.of (I.ok.mod.seer.keeps I.bk) ht (env:=env) (l:=l) (by rw[I.ok.frames,hs]) (by rw[he];exact S.gen) (by rw[he];exact S.co) hb hg)))
theorem qF (hr:ks k A):A.depth+Builtin.pylongFrames < recursionLimit:=by have:=hr.dp;show A.depth+100 < _;lia
def QT (t u:TS):TS:=λD σ H=>∃N:St->Hp->Prop,t { D with nx:=N } σ H/\∀σ' H',N σ' H'->u D σ' H'
theorem jg {st:Stmt} (h1:PS X st t) (h2:Gz X rest u):Gz X (st :: rest) (QT t u):=by
 intro pins s σ H D I h;obtain ⟨N,h,k⟩:=h;refine wpAny_execs_cons (gK (h1 pins s σ H { D with nx:=N } I h) λf s1 q=>?_);cases f with
 | next =>
  obtain ⟨σ',H',I',q⟩:=q;exact h2 pins s1 σ' H' D I' (k _ _ q)
 | ret v=>exact q
 | brk=>exact q
 | cont=>exact q
def OB (K:FG9):V->V->Hp->VK->Prop:=λo i H Q=>∃p xs k v,o=.ref p/\i=.int k/\bO K H p xs/\Gr xs k=some v/\Q v H
theorem LI:RT X (OB X.K):=by
 intro pins s σ H o i ov iv Q I ro ri h;obtain ⟨p,xs,k,z,rfl,rfl,hq,he,q⟩:=h;cases ro;obtain ⟨t,rfl⟩:=ri;obtain ⟨its,r,pl,hz⟩:=I.list hq;obtain ⟨j,h1,h2,h3,h4,h5⟩:=Dk he;obtain ⟨w,ew,rw'⟩:=r.get h2;have hl:=r.length;have hn:=zJ;have fin:EP X pins σ Q w s:=⟨z,H,I,rw',q⟩;by_cases h0:0<=k
 ·have hj:k.toNat=j:=by
   rw[seqIndex_of h0 h5] at h1;exact cg h1
  exact wpAny_getItem_list pl.isList h0 (by lia) (by rw[hj];simpa using ew) fin
 ·have hj:(k+(its.toArray.size:Int)).toNat=j:=by
   rw[seqIndex_neg (by lia) h4] at h1;rw[aT,<- hl];exact cg h1
  exact wpAny_getItem_list_neg pl.isList (by lia) (by rw[aT] <;> lia) (by lia) (by rw[hj];simpa using ew) fin
def Jp (K:FG9) (T:String):V->Hp->VK->Prop:=λx H Q=>∃t b,wH K H x t/\PySem.W.kitOne K t (.type T)=some b/\Q (.bl b) H
theorem CI {c:Str} {T:String} {p p2:Pos} (hg:Gl X "isinstance") (hm:X.mg "isinstance"=none) (hb:bootBuiltins c=some (.type T)) (hmc:X.mg c=none) (ha:PE X a ta) (hgc:Gl X c:=by rfl) (hn:c≠"__name__":=by decide)
  (hd:(c == ("__debug__":Str))=false:=by decide) (he:starEach [a,.Name c p2] X.env=[(false,eval a X.env),(false,eval (.Name c p2) X.env)]:=by rfl)
  (hpl:(backTo pos (starEach [.Name c p2] X.env)).any (·.1)=false:=by rfl) (he2:starEach [.Name c p2] X.env=[(false,eval (.Name c p2) X.env)]:=by rfl):PE X (.Call (.Name "isinstance" p) [a,.Name c p2] [] pos) (Sf (Jp X.K T) ta):=by
 intro pins s σ H Q I h;refine wpAny_Call_Name_kw (jE I hg hm PyProof.Rows.boot_isinstance ?_);have hA:PA X [a,.Name c p2] (pL ta (pL (tC (.ty T)) Jc)):=ae ha (ae (HX hgc hmc hb rfl hn hd) aj he2) (by rw[he,he2])
 have hq:pL ta (pL (tC (.ty T)) Jc) σ H (λvs H1=>∃x,vs=[x,.ty T]/\Jp X.K T x H1 Q):=by
  show ta σ H λx H1=>∃x',[x,V.ty T]=[x',V.ty T]/\Jp X.K T x' H1 Q
  have e:(λx H1=>∃x',[x,V.ty T]=[x',V.ty T]/\Jp X.K T x' H1 Q)=λx H1=>Jp X.K T x H1 Q:=by
   funext x H1;apply propext;constructor
   ·rintro ⟨x',e,q⟩;cases e;exact q
   ·intro q;exact ⟨x,rfl,q⟩
  rw[e];exact h
 refine PyProof.Rows.callWith_builtin1 (gK (hA pos pins s σ H _ I hq) λus s1 ⟨vs,H1,I1,r1,x,e,q1⟩=>?_) (by rw[he,he2]) hpl;subst e;obtain ⟨u,w',rfl,ru,rt⟩:=vals2 r1;cases rt;obtain ⟨t,bb,ty,ek,q⟩:=q1;exact Bp I1 ru ty ek λtk=>⟨.bl bb,H1,I1.tok tk,rfl,q⟩
end
structure Kind (α:Type) [DecidableEq α] where
 R:FG9->Hp->V->α->Prop
 d:Nat
 inj:∀{X:Cx} {pins:List (Addr×Obj)} {σ:St} {H:Hp} {s:Shared} {x:V} {a b:α},Inv X pins σ H s->R X.K H x a->R X.K H x b->a=b
 rc:∀{X:Cx} {pins:List (Addr×Obj)} {σ:St} {H:Hp} {s:Shared} {x y:V} {v u:Value} {a b:α} {A:Around},Inv X pins σ H s->RelV x v->RelV y u->R X.K H x a->R X.K H y b->A.units+d < cLine->SeqAt.RcAt A s v u (decide (a=b))
 ne:∀{X:Cx} {pins:List (Addr×Obj)} {σ:St} {H:Hp} {s:Shared} {x y:V} {v u:Value} {a b:α} {A:Around},Inv X pins σ H s->RelV x v->RelV y u->R X.K H x a->R X.K H y b->A.units+d < cLine->SeqAt.RcNeAt A s v u (!decide (a=b))
 eq:∀{X:Cx} {pins:List (Addr×Obj)} {σ:St} {H:Hp} {s:Shared} {x y:V} {v u:Value} {a b:α} {A:Around},Inv X pins σ H s->RelV x v->RelV y u->R X.K H x a->R X.K H y b->A.units+d < cLine->SeqAt.EqAt A s v u (decide (a=b))
def SG:Kind Int where
 R:=λ_ _ x i=>x=.int i
 d:=0
 inj:=λ_ h1 h2=>by rw[h1] at h2;cases h2;rfl
 rc:=λ{X pins σ H s x y v u a b A} I rx ry h1 h2 _=>by
  subst h1 h2;obtain ⟨t,rfl⟩:=rx;obtain ⟨t',rfl⟩:=ry;have q:=SeqAt.RcAt.int_int (A:=A) (s:=s) a t b t';rwa [gJ] at q
 ne:=λ{X pins σ H s x y v u a b A} I rx ry h1 h2 _=>by
  subst h1 h2;obtain ⟨t,rfl⟩:=rx;obtain ⟨t',rfl⟩:=ry;have q:=SeqAt.RcNeAt.int_int (A:=A) (s:=s) a t b t';rwa [gJ] at q
 eq:=λ{X pins σ H s x y v u a b A} I rx ry h1 h2 _=>by
  subst h1 h2;obtain ⟨t,rfl⟩:=rx;obtain ⟨t',rfl⟩:=ry;have q:=SeqAt.EqAt.int_int (A:=A) (s:=s) a t b t';rwa [gJ] at q
theorem jU {α β:Type} {F:α->β->Prop}:∀{l1:List α} {l2:List β} {i:Nat} (_:Paired F l1 l2) (h1:i < l1.length) (h2:i < l2.length),F l1[i] l2[i]
 | _,_,_,.nil,h1,_=>absurd h1 (fE _)
 | _,_,0,.cons r _,_,_=>r
 | _,_,i+1,.cons _ t,h1,h2=>jU (i:=i) t (Nat.lt_of_succ_lt_succ h1) (Nat.lt_of_succ_lt_succ h2)
theorem lM {α β:Type} {F:α->β->Prop} (hF:∀a b x,F a x->F b x->a=b):∀{l1 l2:List α} {l:List β},Paired F l1 l->Paired F l2 l->l1=l2
 | _,_,_,.nil,.nil=>rfl
 | _,_,_,.cons r t,.cons r' t'=>by rw[hF _ _ _ r r',lM hF t t']
theorem uE {α:Type} [DecidableEq α] (as bs:List α) (h:as.length=bs.length):(List.range as.length).all (λj=>decide (as[j]?=bs[j]?))=decide (as=bs):=by
 rw[kY,nW,decide_eq_true_iff];constructor
 ·intro q;apply gZ;intro i;by_cases hi:i < as.length
  ·exact of_decide_eq_true (q i (sL.mpr hi))
  ·rw[aW (by lia),aW (by lia)]
 ·rintro rfl i _;simp
section
variable {α:Type} [DecidableEq α] (k:Kind α)
theorem Kind.items {X:Cx} {pins:List (Addr×Obj)} {σ:St} {H:Hp} {s:Shared} {A:Around} (I:Inv X pins σ H s) (hA:A.units+k.d < cLine) {xs ys:List V} {us ws:List Value} {as bs:List α}
  (rx:cY xs us) (ry:cY ys ws) (ha:Paired (λa x=>k.R X.K H x a) as xs) (hb:Paired (λa x=>k.R X.K H x a) bs ys) :
  ∀j (h1:j < us.toArray.size) (h2:j < ws.toArray.size),SeqAt.EqAt A s us.toArray[j] ws.toArray[j] (decide (as[j]?=bs[j]?)):=λj h1 h2=>by
 have l1:j < us.length:=by simpa using h1
 have l2:j < ws.length:=by simpa using h2
 have e1:=rx.length;have e2:=ry.length;have e3:=ha.length;have e4:=hb.length;obtain ⟨u,hu,ru⟩:=rx.get (i:=j) (x:=xs[j]'(by lia)) (by simp);obtain ⟨w,hw,rw'⟩:=ry.get (i:=j) (x:=ys[j]'(by lia)) (by simp);have q:=k.eq (A:=A) I ru rw' (jU ha (by lia) (by lia)) (jU hb (by lia) (by lia)) hA
 have eu:us.toArray[j]=u:=by
  have:=hu;rw[af l1] at this;simpa using this
 have ew:ws.toArray[j]=w:=by
  have:=hw;rw[af l2] at this;simpa using this
 rw[eu,ew,af (show j < as.length by lia),af (show j < bs.length by lia)];have e5:decide (some as[j]=some bs[j])=decide (as[j]=bs[j]):=by simp
 rw[e5];exact q
theorem Cc {α:Type} [DecidableEq α] (as bs:List α) {n m:Nat} (h1:as.length=n) (h2:bs.length=m):((List.range (min n m)).all (λj=>decide (as[j]?=bs[j]?)) && n == m)=decide (as=bs):=by
 subst h1 h2;by_cases e:as.length=bs.length
 ·rw[show min as.length bs.length=as.length by lia,uE as bs e];simp [e]
 ·have h1:(as.length == bs.length)=false:=by simpa using e
  rw[h1,Bool.and_false];exact (decide_eq_false λz=>e (by rw[z])).symm
def SD:Kind (List α) where
 R:=λK H x as=>∃p xs,x=.ref p/\sI K H p xs/\Paired (λa x=>k.R K H x a) as xs
 d:=k.d+1
 inj:=λ{X pins σ H s x a b} I h1 h2=>by
  obtain ⟨p,xs,rfl,hp,pa⟩:=h1;obtain ⟨q,ys,e,hq,pb⟩:=h2;cases e;have e:=I.tuple_inj hp hq;subst e;exact lM (F:=λa x=>k.R X.K H x a) (λa b x=>k.inj I) pa pb
 rc:=λ{X pins σ H s x y v u a b A} I rx ry h1 h2 hA=>by
  obtain ⟨p,xs,rfl,hp,pa⟩:=h1;obtain ⟨q,ys,rfl,hq,pb⟩:=h2;cases rx;cases ry;obtain ⟨us,r1,t1,_⟩:=I.tuple hp;obtain ⟨ws,r2,t2,_⟩:=I.tuple hq;have z:=SeqAt.RcAt.tuples (A:=A) (e:=λj=>decide (a[j]?=b[j]?)) (show s.heap.IsTuple p us.toArray from t1) (show s.heap.IsTuple q ws.toArray from t2) (by lia) (k.items (A:=A.in1) I (by show A.units+1+k.d < cLine;lia) r1 r2 pa pb);rwa [Cc a b (by rw[pa.length,r1.length];simp) (by rw[pb.length,r2.length];simp)] at z
 ne:=λ{X pins σ H s x y v u a b A} I rx ry h1 h2 hA=>by
  obtain ⟨p,xs,rfl,hp,pa⟩:=h1;obtain ⟨q,ys,rfl,hq,pb⟩:=h2;cases rx;cases ry;obtain ⟨us,r1,t1,_⟩:=I.tuple hp;obtain ⟨ws,r2,t2,_⟩:=I.tuple hq;have z:=SeqAt.RcNeAt.tuples (A:=A) (e:=λj=>decide (a[j]?=b[j]?)) (show s.heap.IsTuple p us.toArray from t1) (show s.heap.IsTuple q ws.toArray from t2) (by lia) (k.items (A:=A.in1) I (by show A.units+1+k.d < cLine;lia) r1 r2 pa pb);rwa [Cc a b (by rw[pa.length,r1.length];simp) (by rw[pb.length,r2.length];simp)] at z
 eq:=λ{X pins σ H s x y v u a b A} I rx ry h1 h2 hA=>by
  obtain ⟨p,xs,rfl,hp,pa⟩:=h1;obtain ⟨q,ys,rfl,hq,pb⟩:=h2;cases rx;cases ry;by_cases e:p=q
  ·subst e;have e:=I.tuple_inj hp hq;subst e;rw[lM (F:=λa x=>k.R X.K H x a) (λa b x=>k.inj I) pa pb,decide_eq_true rfl];exact SeqAt.EqAt.same _
  ·obtain ⟨us,r1,t1,_⟩:=I.tuple hp;obtain ⟨ws,r2,t2,_⟩:=I.tuple hq;have z:=SeqAt.RcAt.tuples (A:=A) (e:=λj=>decide (a[j]?=b[j]?)) (show s.heap.IsTuple p us.toArray from t1) (show s.heap.IsTuple q ws.toArray from t2) (by lia) (k.items (A:=A.in1) I (by show A.units+1+k.d < cLine;lia) r1 r2 pa pb);rw[Cc a b (by rw[pa.length,r1.length];simp) (by rw[pb.length,r2.length];simp)] at z;exact .of_refs e z
theorem F5 {X:Cx} {pins:List (Addr×Obj)} {σ:St} {H:Hp} {s:Shared} {p q:Addr} {xs ys:List V} {a b:List α} {A:Around} (I:Inv X pins σ H s) (hp:bO X.K H p xs) (hq:bO X.K H q ys)
  (pa:Paired (λa x=>k.R X.K H x a) a xs) (pb:Paired (λa x=>k.R X.K H x a) b ys) (hA:A.units+(k.d+1) < cLine) :
  SeqAt.RcAt A s (.ref p) (.ref q) (decide (a=b))/\SeqAt.RcNeAt A s (.ref p) (.ref q) (!decide (a=b)):=by
 obtain ⟨us,r1,t1,_⟩:=I.list hp;obtain ⟨ws,r2,t2,_⟩:=I.list hq;have l1:=r1.length;have l2:=r2.length;have l3:=pa.length;have l4:=pb.length;by_cases e:us.length=ws.length
 ·have it:=k.items (A:=A.in1) I (by show A.units+1+k.d < cLine;lia) r1 r2 pa pb;have z:=SeqAt.RcAt.lists (A:=A) (e:=λj=>decide (a[j]?=b[j]?)) t1.isList t2.isList (by simpa using e) (by lia) it;have z2:=SeqAt.RcNeAt.lists (A:=A) (e:=λj=>decide (a[j]?=b[j]?)) t1.isList t2.isList (by simpa using e) (by lia) it;have e1:us.toArray.size=a.length:=by rw[aT];lia
  rw[e1,uE a b (by lia)] at z z2;exact ⟨z,z2⟩
 ·have hne:¬a=b:=λz=>e (by have:=congrArg List.length z;lia)
  rw[decide_eq_false hne];exact ⟨SeqAt.RcAt.lists_lengths t1.isList t2.isList (by simpa using e) (by lia),SeqAt.RcNeAt.lists_lengths t1.isList t2.isList (by simpa using e) (by lia)⟩
def RD:Kind (List α) where
 R:=λK H x as=>∃p xs,x=.ref p/\bO K H p xs/\Paired (λa x=>k.R K H x a) as xs
 d:=k.d+1
 inj:=λ{X pins σ H s x a b} I h1 h2=>by
  obtain ⟨p,xs,rfl,hp,pa⟩:=h1;obtain ⟨q,ys,e,hq,pb⟩:=h2;cases e;have e:=I.list_inj hp hq;subst e;exact lM (F:=λa x=>k.R X.K H x a) (λa b x=>k.inj I) pa pb
 rc:=λ{X pins σ H s x y v u a b A} I rx ry h1 h2 hA=>by
  obtain ⟨p,xs,rfl,hp,pa⟩:=h1;obtain ⟨q,ys,rfl,hq,pb⟩:=h2;cases rx;cases ry;exact (F5 k I hp hq pa pb hA).1
 ne:=λ{X pins σ H s x y v u a b A} I rx ry h1 h2 hA=>by
  obtain ⟨p,xs,rfl,hp,pa⟩:=h1;obtain ⟨q,ys,rfl,hq,pb⟩:=h2;cases rx;cases ry;exact (F5 k I hp hq pa pb hA).2
 eq:=λ{X pins σ H s x y v u a b A} I rx ry h1 h2 hA=>by
  obtain ⟨p,xs,rfl,hp,pa⟩:=h1;obtain ⟨q,ys,rfl,hq,pb⟩:=h2;cases rx;cases ry;by_cases e:p=q
  ·subst e;have e:=I.list_inj hp hq;subst e;rw[lM (F:=λa x=>k.R X.K H x a) (λa b x=>k.inj I) pa pb,decide_eq_true rfl];exact SeqAt.EqAt.same _
  ·exact .of_refs e (F5 k I hp hq pa pb hA).1
def Kind.via {β:Type} [DecidableEq β] (f:β->α) (fi:∀a b,f a=f b->a=b) (R':FG9->Hp->V->β->Prop) (im:∀{K H x b},R' K H x b->k.R K H x (f b)):Kind β where
 R:=R'
 d:=k.d
 inj:=λI h1 h2=>fi _ _ (k.inj I (im h1) (im h2))
 rc:=λ{X pins σ H s x y v u a b A} I rx ry h1 h2 hA=>by
  have z:=k.rc (A:=A) I rx ry (im h1) (im h2) hA;rwa [decide_eq_decide.mpr (show f a=f b↔a=b from ⟨fi a b,λe=>by rw[e]⟩)] at z
 ne:=λ{X pins σ H s x y v u a b A} I rx ry h1 h2 hA=>by
  have z:=k.ne (A:=A) I rx ry (im h1) (im h2) hA;rwa [decide_eq_decide.mpr (show f a=f b↔a=b from ⟨fi a b,λe=>by rw[e]⟩)] at z
 eq:=λ{X pins σ H s x y v u a b A} I rx ry h1 h2 hA=>by
  have z:=k.eq (A:=A) I rx ry (im h1) (im h2) hA;rwa [decide_eq_decide.mpr (show f a=f b↔a=b from ⟨fi a b,λe=>by rw[e]⟩)] at z
end
def GH (K:FG9) (H:Hp) (x:V) (n:Int×Int):Prop:=∃p,x=.ref p/\sI K H p [.int n.1,.int n.2]
def SE:Kind (Int×Int):=(SD SG).via (λn=>[n.1,n.2]) (λa b e=>by cases a;cases b;simp at e;rw[e.1,e.2]) GH λ⟨p,e,h⟩=>⟨p,_,e,h,.cons rfl (.cons rfl .nil)⟩
def Sw (K:FG9):R2:=λx y H Q=>∃(α:Type) (_:DecidableEq α) (k:Kind α) (a b:α),k.d<=50/\k.R K H x a/\k.R K H y b/\Q (.bl (decide (a=b))) H
def Su (K:FG9):R2:=λx y H Q=>∃(α:Type) (_:DecidableEq α) (k:Kind α) (a b:α),k.d<=50/\k.R K H x a/\k.R K H y b/\Q (.bl (!decide (a=b))) H
theorem FP (hu:X.A.units+50 < cLine):yl X (compareOp .Eq) (Sw X.K):=by
 intro pins s σ H x y v u Q I rx ry h;obtain ⟨α,_,k,a,b,hd,ha,hb,q⟩:=h;exact k.rc (A:=X.A) I rx ry ha hb (by lia) _ _ _ _ ⟨.bl (decide (a=b)),H,I,rfl,q⟩
theorem FO (hu:X.A.units+50 < cLine):yl X (compareOp .NotEq) (Su X.K):=by
 intro pins s σ H x y v u Q I rx ry h;obtain ⟨α,_,k,a,b,hd,ha,hb,q⟩:=h;exact k.ne (A:=X.A) I rx ry ha hb (by lia) _ _ _ _ ⟨.bl (!decide (a=b)),H,I,rfl,q⟩
theorem JO (hr:ks k A):A.units+50 < cLine:=by have:=hr.units;lia
def Inner (H:Hp) (p q:Addr):Prop:=∃a b c:Int,H p=some (.lst [.int a,.int b,.int c,.ref q])
def cZ (p:Addr) (H H':Hp):Prop:=(∀b o,H b=some o->b≠p->H' b=some o)/\∀q,Inner H p q->Inner H' p q
theorem cZ.refl (H:Hp):cZ p H H:=⟨λ_ _ h _=>h,λ_ h=>h⟩
theorem cZ.trans (a:cZ p H H1) (b:cZ p H1 H2):cZ p H H2:=⟨λc o h n=>b.1 c o (a.1 c o h n) n,λq h=>b.2 q (a.2 q h)⟩
theorem Inner.inj (h:Inner H p q) (h':Inner H p q'):q=q':=by
 obtain ⟨a,b,c,e⟩:=h;obtain ⟨a',b',c',e'⟩:=h';rw[e] at e';have:=HO.lst.inj (cg e');simp at this;exact this.2.2.2
theorem cZ.set (h:H p=some (.lst [.int a,.int b,.int c,.ref q])):cZ p H (upd H p (.lst [.int a',.int b',.int c',.ref q])) :=
 ⟨λb u h n=>by rw[bE n];exact h,λq' h'=>by
  rw[(Inner.inj ⟨a,b,c,h⟩ h').symm];exact ⟨a',b',c',aM⟩⟩
theorem aK.upto (h:aK H H'):cZ p H H':=⟨λb o e _=>h b o e,λq ⟨a,b,c,e⟩=>⟨a,b,c,h _ _ e⟩⟩
theorem aK.new (h:H p=Option.none):aK H (upd H p o):=λb u e=>by rw[bE (fG e h)];exact e
theorem aK.sqt {K:FG9} (e:aK H H') (h:sI K H a xs):sI K H' a xs:=by
 rcases h with (h | ⟨o,h⟩) | h
 ·exact .inl (.inl (e _ _ h))
 ·exact .inl (.inr ⟨o,e _ _ h⟩)
 ·exact .inr h
theorem aK.num {K:FG9} (e:aK H H') (h:GH K H x n):GH K H' x n:=by obtain ⟨p,q,r⟩:=h;exact ⟨p,q,e.sqt r⟩
section
variable {σ:St} {H:Hp} {D:Ends}
theorem aU {t:TS} (e:σ0=σ) (h:t D σ H):t D σ0 H:=by rw[e];exact h
theorem Pg (h:t { D with nx:=u D } σ H):QU t u D σ H:=h
theorem Nc (h:D.nx σ H):Oq D σ H:=h
theorem PB {g:TG} (h:te σ H λx H1=>g x σ H1 D.nx):MJ te g D σ H:=h
theorem K2 (h:Q (σ.set i (some v)) H):Ip i v σ H Q:=h
theorem Ph (h:te σ H D.rt):QV te D σ H:=h
theorem Pt (h:c σ H λb H1=>if b=true then t D σ H1 else u D σ H1):Q0 c t u D σ H:=h
theorem Nl (h:te σ H λ_ H1=>D.nx σ H1):Ov te D σ H:=h
theorem Pj (h:ta σ H λvs H1=>∃v w,vs=[v,w]/\D.nx ((σ.set i (some v)).set j (some w)) H1):QW i j ta D σ H:=h
theorem Nt 
  (h:to σ H λo H1=>ti σ H1 λi H2=>tget o i H2 λx H3=>te σ H3 λy H4=>tip x y H4 λz H5=>tset o i z H5 λH6=>D.nx σ H6):Ow to ti te tget tip tset D σ H:=h
theorem Pq (h:Q (.int (f i j)) H):ipI f (.int i) (.int j) H Q:=⟨i,j,rfl,rfl,h⟩
theorem Pw {g:TG} (h:wi σ H λJ H1=>∃W:Nat->Nat->St->Hp->Prop,(∃m,W 0 m σ H1)/\∀i m σ H,W i m σ H →
  (J.stop i H/\D.nx σ H)\/(J.go i H/\∃N:St->Hp->Prop,(∀σ' H',N σ' H'->∃m',m' < m/\W (i+1) m' σ' H')/\∀x H',J.yld i H x H'->g x σ H' λσ2 H2=>tb { D with nx:=N,ct:=N,bk:=D.nx } σ2 H2)):Q1 wi g tb D σ H:=h
variable {Q:VK} {QA:List V->Hp->Prop} {QB:Bool->Hp->Prop}
theorem Pd (e:σ[i]?=some (some v)) (h:Q v H):O0 i σ H Q:=⟨v,e,h⟩
theorem Sr (h:Q v H):tC v σ H Q:=h
theorem Rk (h:ta σ H λx H1=>tb σ H1 λy H2=>r x y H2 Q):QX r ta tb σ H Q:=h
theorem Rf (h:ta σ H λx H1=>r x H1 Q):Sf r ta σ H Q:=h
theorem Rn {g:Int->Int->V} (h:Q (g i j) H):Nw g (.int i) (.int j) H Q:=⟨i,j,rfl,rfl,h⟩
theorem fj {g:Int->Int->V} (hc:C i j) (h:Q (g i j) H):rI C g (.int i) (.int j) H Q:=⟨i,j,rfl,rfl,hc,h⟩
theorem Ss {g:Int->V} (h:Q (g i) H):rU g (.int i) H Q:=⟨i,rfl,h⟩
theorem Pz (h:Q (.bl (decide (i=j))) H):Sx (.int i) (.int j) H Q:=⟨rfl,by
 have e:decide (V.int i=V.int j)=decide (i=j):=by simp
 rw[e];exact h⟩
theorem Po (h:Q (.bl (!decide (i=j))) H):Sv (.int i) (.int j) H Q:=⟨rfl,by
 have e:decide (V.int i=V.int j)=decide (i=j):=by simp
 rw[e];exact h⟩
theorem Py (h:Q (.bl (decide (i=j))) H):Sx (.str i) (.str j) H Q:=⟨rfl,by
 have e:decide (V.str i=V.str j)=decide (i=j):=by simp
 rw[e];exact h⟩
theorem Pn (h:Q (.bl (!decide (i=j))) H):Sv (.str i) (.str j) H Q:=⟨rfl,by
 have e:decide (V.str i=V.str j)=decide (i=j):=by simp
 rw[e];exact h⟩
theorem M6 (h:t σ H λx H'=>∃k,x=.bl k/\QB k H'):Ol t σ H QB:=h
theorem Rh (h:t σ H λx H'=>∃k,x=.bl k/\QB k H'):tB t σ H QB:=h
theorem PC (h:t σ H λc H1=>if c=true then u σ H1 QB else QB false H1):Q2 t u σ H QB:=h
theorem Rj (h:t σ H λc H1=>if c=true then QB true H1 else u σ H1 QB):tOr t u σ H QB:=h
theorem Pk (h:t σ H λc H1=>QB (!c) H1):QY t σ H QB:=h
theorem Nu (h:t σ H λx H1=>∃c,x=.bl c/\if c=true then u σ H1 Q else Q (.bl false) H1):Ox t u σ H Q:=h
theorem Na (h:t σ H λx H1=>∃c,x=.bl c/\Q (.bl (!c)) H1):Oo t σ H Q:=h
theorem Pu (h:c σ H λb H1=>if b=true then ta σ H1 Q else tb σ H1 Q):tIf c ta tb σ H Q:=h
theorem Pc (h:QB true H):QQ σ H QB:=h
theorem Pl (h:QA [] H):Jc σ H QA:=h
theorem Nn (h:ta σ H λx H1=>tr σ H1 λxs H2=>QA (x :: xs) H2):pL ta tr σ H QA:=h
theorem Nr (h:t σ H λvs H1=>sp vs H1 Q E):Ks sp [] E t σ H Q:=by
 have e:(λvs H1=>sp (vs++[]) H1 Q E)=λvs H1=>sp vs H1 Q E:=by funext vs H1;rw[kW]
 show t σ H λvs H1=>sp (vs++[]) H1 Q E
 rw[e];exact h
theorem Rl (h:t σ H λvs H1=>r vs H1 Q):Sq r t σ H Q:=h
theorem FK {K:FG9} (hx:sI K H p xs) (e:Gr xs i=some v) (h:Q v H):PH K (.ref p) (.int i) H Q:=⟨p,xs,i,v,rfl,rfl,hx,e,h⟩
theorem cx {K:FG9} (hx:bO K H p xs) (e:Gr xs i=some v) (h:Q v H):PJ K (.ref p) (.int i) H Q:=⟨p,xs,i,v,rfl,rfl,hx,e,h⟩
theorem Nk {K:FG9} (hx:bO K H p xs) (e:Gr xs i=some v) (h:Q v H):OB K (.ref p) (.int i) H Q:=⟨p,xs,i,v,rfl,rfl,hx,e,h⟩
theorem ft (hx:H p=some (.lst xs)) (e:J8 xs.length i=some j) (ey:xs.set j v=ys) (h:QH (upd H p (.lst ys))):OA (.ref p) (.int i) v H QH:=⟨p,xs,i,j,rfl,rfl,hx,e,by rw[ey];exact h⟩
theorem Ni (h:to σ H λo H1=>ti σ H1 λi H2=>t o i v H2 λH3=>QS σ H3):RK to ti t v σ H QS:=h
theorem K3 (h:t v σ H λσ' H'=>u r σ' H' QS):OK t u (v :: r) σ H QS:=⟨v,r,rfl,h⟩
theorem Nj (h:QS σ H):RL [] σ H QS:=⟨rfl,h⟩
theorem Nh {K:FG9} (hx:sI K H a xs) (hl:xs.length=n) (h:t xs σ H QS):Qi K n t (.ref a) σ H QS:=⟨a,xs,rfl,hx,hl,h⟩
theorem Ri (h:te σ H λx H1=>tl σ H1 λl H2=>th σ H2 λu H3=>r x l u H3 Q):tSl r te tl th σ H Q:=h
theorem Jo (h:QO none H):GY σ H QO:=h
theorem M8 (h:t σ H λx H1=>∃i,x=.int i/\QO (some i) H1):Om t σ H QO:=h
variable {R:It->Hp->Prop} {K:FG9}
theorem KY (h:tl σ H λx H1=>∃a,x=.ref a/\(∃xs,bO K H1 a xs)/\R (Of K a) H1):LC K tl σ H R:=h
theorem KW (h:ta σ H λvs H1=>∃j:Int,vs=[.int j]/\-(2^62)<=j/\j < 2^62/\R (Fm 0 j.toNat) H1):OH ta σ H R:=h
theorem KU (h:ta σ H λvs H1=>∃i j:Int,vs=[.int i,.int j]/\(-(2^62)<=i/\i < 2^62/\-(2^62)<=j/\j < 2^62)/\R (Fm i (j - i).toNat) H1):OG ta σ H R:=h
theorem Nq {g:TG} (e:J7 k cap σ=σ₀) (h:wi σ H λJ H1=>qQ J σ₀ g tf te Q H1):DJ wi k cap g tf te σ H Q:=by
 unfold DJ;rw[e];exact h
theorem M5 {g:TG} {NY:V->Hp->Prop} (h:g x σ H λσ2 H2=>tf σ2 H2 λb H3=>if b=true then te σ2 H3 NY else NN H3):pK σ g tf te x H NY NN:=h
theorem Rm (h:to σ H λx H1=>So K T x H1/\t σ H1 λxs H2=>r x xs H2 Q):tBM K T r to t σ H Q:=h
def RV (Q:VK) (xs:List V) (H:Hp):Prop:=xs.length<=sizeLine/\∀p,H p=none->Q (.ref p) (upd H p (.tup xs))
def RW (Q:VK) (xs:List V) (H:Hp):Prop:=xs.length<=sizeLine/\∀p,H p=none->Q (.ref p) (upd H p (.lst xs))
theorem Pe (h:t σ H (RV Q)):QR t σ H Q:=h
theorem Pp (h:t σ H (RW Q)):QZ t σ H Q:=h
theorem jo (h:Nat.ble n 1000=true):n<=sizeLine:=bc (bK (Nat.le_of_ble_eq_true h))
theorem cA {xs:List V} (h:∀p H',aK H H'->H' p=some (.tup xs)->Q (.ref p) H') (hl:Nat.ble xs.length 1000=true:=by rfl):RV Q xs H :=
 ⟨jo hl,λp hp=>h p _ (aK.new hp) aM⟩
theorem dy {xs:List V} (h:∀p H',aK H H'->H p=none->H' p=some (.lst xs)->Q (.ref p) H') (hl:Nat.ble xs.length 1000=true:=by rfl):RW Q xs H :=
 ⟨jo hl,λp hp=>h p _ (aK.new hp) hp aM⟩
theorem RH {A B:Prop} (h:B):if (!true)=true then A else B:=Qc h
theorem RI {A B:Prop} (h:A):if (!false)=true then A else B:=RE h
def WB (tb:TS) (D:Ends) (Pv:St->Hp->Prop) (μ:St->Hp->Nat) (n:Nat) (σ:St) (H:Hp):Prop:=∃N:St->Hp->Prop,(∀σ' H',N σ' H'->∃m',m' < n/\(m'=μ σ' H'/\Pv σ' H'))/\tb { D with nx:=N,ct:=N,bk:=D.nx } σ H
theorem Oz (h:tb { D with nx:=λσ' H'=>Pv σ' H'/\μ σ' H' < n,ct:=λσ' H'=>Pv σ' H'/\μ σ' H' < n,bk:=D.nx } σ H):WB tb D Pv μ n σ H :=
 ⟨_,λσ' H' ⟨p,l⟩=>⟨_,l,rfl,p⟩,h⟩
theorem Ca (Pv:St->Hp->Prop) (μ:St->Hp->Nat) (h0:Pv σ H) (hs:∀σ H,Pv σ H->c σ H λb H1=>if b=true then WB tb D Pv μ (μ σ H) σ H1 else D.nx σ H1):Kr c tb D σ H:=by
 refine ⟨λm σ H=>m=μ σ H/\Pv σ H,⟨_,rfl,h0⟩,?_⟩;rintro m σ H ⟨rfl,p⟩;exact hs σ H p
end
def hZ (H:Hp) (p:Addr):Prop:=∃(q:Addr) (a b c:Int) (cs:List Int),H p=some (.lst [.int a,.int b,.int c,.ref q])/\H q=some (.lst (cs.map V.int))/\0<=a/\0<=c/\c<=(cs.length:Int)/\∀x∈cs,(0:Int)<=x
theorem JU {H:Hp} {cs:List Int} (hp:H p=some (.lst [.int a,.int b,.int c,.ref q])) (hq:H q=some (.lst (cs.map V.int))):q≠p:=λe=>by
 rw[e,hp] at hq;have h:=HO.lst.inj (cg hq);cases cs with
 | nil=>cases h
 | cons x1 cs=>cases cs with
  | nil=>cases h
  | cons x2 cs=>cases cs with
   | nil=>cases h
   | cons x3 cs=>cases cs with
    | nil=>cases h
    | cons x4 cs=>simp at h
theorem hZ.same (h:hZ H p) (e:aK H H'):hZ H' p:=by obtain ⟨q,a,b,c,cs,h1,h2,r⟩:=h;exact ⟨q,a,b,c,cs,e _ _ h1,e _ _ h2,r⟩
theorem cZ.tup {H H':Hp} {p r:Addr} {xs:List V} (u:cZ p H H') (B:hZ H p) (h:H r=some (.tup xs)):H' r=some (.tup xs):=by
 obtain ⟨q,a,b,c,cs,h1,_⟩:=B;exact u.1 r _ h λe=>by rw[e,h1] at h;cases h
theorem cZ.other (u:cZ p H H') (n:r≠p) (h:H r=some o):H' r=some o:=u.1 r _ h n
theorem hZ.inner (h:hZ H p):∃q,Inner H p q/\∃xs,H q=some (.lst xs):=by obtain ⟨q,a,b,c,cs,h1,h2,_⟩:=h;exact ⟨q,⟨a,b,c,h1⟩,_,h2⟩
theorem hZ.upd (h:hZ H p) (hi:Inner H p q) (n1:r≠p) (n2:r≠q):hZ (L2.upd H r o) p:=by
 obtain ⟨q',a,b,c,cs,h1,h2,z⟩:=h;have e:q'=q:=Inner.inj ⟨a,b,c,h1⟩ hi;subst e;exact ⟨q',a,b,c,cs,by rw[bE n1.symm];exact h1,by rw[bE n2.symm];exact h2,z⟩
theorem Inner.upd (hi:Inner H p q) (n1:r≠p):Inner (L2.upd H r o) p q:=by obtain ⟨a,b,c,h⟩:=hi;exact ⟨a,b,c,by rw[bE n1.symm];exact h⟩
def ML:Sp:=λvs H Q _=>∃p n,vs=[.ref p,.int n]/\hZ H p/\0 < n/\n < 2^64/\∀v H',0<=v->v < n->hZ H' p->cZ p H H'->Q (.int v) H'
inductive KC (K:FG9) (vs:List V) (H:Hp) (Q:VK) (E9:XK):Prop
 | mk (a:Addr) (ns:List Int):vs=[.ref a]->bO K H a (ns.map V.int)->ns.length<=63->(∀p H',H p=none->hZ H' p->aK H H'->Q (.ref p) H')->KC K vs H Q E9
inductive yC (K:FG9) (vs:List V) (H:Hp) (Q:VK) (E9:XK):Prop
 | mk (a:Addr) (ns:List Int):vs=[.ref a]->bO K H a (ns.map V.int)->ns.length<=63->(∀H',Q (.bl true) H')->yC K vs H Q E9
def O6:Sp:=λvs H Q _=>∃t b,vs=[.int t,.int b]/\0 < b/\Sz 449950 b/\∀r H',aK H H'->H' r=some (.tup [.int (lo t b),.int (hi t b)])->Q (.ref r) H'
def Q5:Sp:=λvs H Q _=>∃a b,vs=[.int a,.int b]/\Q (.int (g a b)) H
def Jg:Sp:=λvs H Q _=>∃t b,vs=[.int t,.int b]/\b≠0/\Sz 449950 b/\∀r H',aK H H'->H' r=some (.tup [.int (lo (if b < 0 then -t else t) (if b < 0 then -b else b)),.int (hi (if b < 0 then -t else t) (if b < 0 then -b else b))])->Q (.ref r) H'
def OL (a b c d:Int):Int:=a*d+c*b
def LP (a b c d:Int):Int:=a*d - c*b
def LO (a _b c _d:Int):Int:=a*c
def HN (K:FG9) (f:Int->Int->Int->Int->Int):Sp:=λvs H Q _=>∃p q a b c d,vs=[.ref p,.ref q]/\sI K H p [.int a,.int b]/\sI K H q [.int c,.int d]/\0 < b/\0 < d/\Sz 200000 a/\Sz 200000 b/\Sz 200000 c/\Sz 200000 d /\
 ∀r H',aK H H'->H' r=some (.tup [.int (lo (f a b c d) (b*d)),.int (hi (f a b c d) (b*d))])->Q (.ref r) H'
theorem bT {α β:Type} {F:α->β->Prop}:∀{l1 l1':List α} {l2 l2':List β},Paired F l1 l2->Paired F l1' l2'->Paired F (l1++l1') (l2++l2')
 | _,_,_,_,.nil,h=>h
 | _,_,_,_,.cons r t,h=>.cons r (bT t h)
theorem dj {h:Heap} (ha:h.get? a=some o) (hb:h.get? b=some u) (hc:o.cls≠u.cls):a≠b:=λe=>by
 subst e;rw[ha] at hb;cases hb;exact hc rfl
theorem lh (h:a≠b):Value.type a≠Value.type b:=λe=>h (by injection e)
theorem AX {z TI TO i1 i2 l1 l2:Addr} (hz:IsZip h z TI TO f0) (hTI:IsPair h TI (.ref i1) (.ref i2)) (hTO:IsPair h TO a b)
  (h1:h.IsListIter i1 l1 k1) (h2:h.IsListIter i2 l2 k2) (hl1:h.IsList l1 xs) (hl2:h.IsList l2 ys) (hT:TI≠TO) (hi:i1≠i2):ZipApart z TI TO i1 i2 l1 l2:=by
 obtain ⟨o1,g1,c1,_⟩:=h1;obtain ⟨o2,g2,c2,_⟩:=h2;obtain ⟨p1,q1,d1,_⟩:=hl1;obtain ⟨p2,q2,d2,_⟩:=hl2;refine ⟨dj hTI hz ?_,dj hTO hz ?_,dj g1 hz ?_,dj g2 hz ?_,hT,dj hTI g1 ?_,dj hTI g2 ?_,dj hTO g1 ?_,dj hTO g2 ?_,hi,dj q1 hz ?_,dj q1 hTO ?_,dj q1 g1 ?_,dj q1 g2 ?_,dj q2 hz ?_,dj q2 hTO ?_,dj q2 g1 ?_,dj q2 g2 ?_⟩
 all_goals first
  | (rw[d1];first | (rw[c1];exact lh (by decide)) | (rw[c2];exact lh (by decide)) | exact lh (by decide))
  | (rw[d2];first | (rw[c1];exact lh (by decide)) | (rw[c2];exact lh (by decide)) | exact lh (by decide))
  | (rw[c1];exact lh (by decide))
  | (rw[c2];exact lh (by decide))
  | exact lh (by decide)
def Qx (K : FG9) (l1 l2 : Addr) : It :=
  ⟨λi H => ∃ xs ys x y, bO K H l1 xs /\ bO K H l2 ys /\ xs[i]? = some x /\ ys[i]? = some y,
   λi H v H' => ∃ p x y, v = .ref p /\ H p = none /\ H' = upd H p (.tup [x, y]) /\ (∀ xs, bO K H l1 xs → xs[i]? = some x) /\ ∀ ys, bO K H l2 ys → ys[i]? = some y,
   λi H => ∃ xs ys, bO K H l1 xs /\ bO K H l2 ys /\ (xs.length ≤ i \/ ys.length ≤ i)⟩
def tnZ (z TI TO i1 i2 l1 l2:Addr) (i:Nat) (h:Heap):Prop:=IsZip h z TI TO .none/\IsPair h TI (.ref i1) (.ref i2)/\(∃a b,IsPair h TO a b)/\h.IsListIter i1 l1 i/\h.IsListIter i2 l2 i
theorem Kp {P:Program} {w:World} {K:FG9} {elts:List Expr} {kk:Nat} {tpos:Pos} (z TI TO i1 i2 l1 l2:Addr) (hT:TI≠TO) (hi:i1≠i2):Turn P w K (.Tuple elts kk tpos) (Qx K l1 l2) [z,TI,TO,i1,i2] z (tnZ z TI TO i1 i2 l1 l2) where
 mem:=by simp
 obj:=λi h st b hb=>by
  obtain ⟨hz,hTI,⟨a,c,hTO⟩,⟨o1,g1,c1,d1⟩,⟨o2,g2,c2,d2⟩⟩:=st;simp only[aI,ba,or_false] at hb;rcases hb with rfl | rfl | rfl | rfl | rfl
  ·exact ⟨_,hz,λv q=>nomatch q⟩
  ·exact ⟨_,hTI,λv q=>nomatch q⟩
  ·exact ⟨_,hTO,λv q=>nomatch q⟩
  ·exact ⟨o1,g1,λv q=>by rw[d1] at q;cases q⟩
  ·exact ⟨o2,g2,λv q=>by rw[d2] at q;cases q⟩
 keep:=λi h h' st k=>by
  obtain ⟨hz,hTI,⟨a,c,hTO⟩,h1,h2⟩:=st;exact ⟨k z (by simp) _ hz,k TI (by simp) _ hTI,⟨a,c,k TO (by simp) _ hTO⟩,h1.at λo e=>k i1 (by simp) o e,h2.at λo e=>k i2 (by simp) o e⟩
 item:=by
  intro X hP hw hK hc i pins s σ H E I hf st hg;subst hP hw hK;obtain ⟨hz,hTI,⟨a,c,hTO⟩,h1,h2⟩:=st;obtain ⟨xs,ys,x,y,qx,qy,ex,ey⟩:=hg;obtain ⟨us,rx,px,_⟩:=I.list qx;obtain ⟨ws,ry,py,_⟩:=I.list qy;obtain ⟨u,eu,ru⟩:=rx.get ex;obtain ⟨v,ev,rv⟩:=ry.get ey;have D:=AX hz hTI hTO h1 h2 px.isList py.isList hT hi;refine wpAny_pyNext_zip_item D hz hTI hTO h1 h2 px.isList py.isList (x:=u) (y:=v) (by simpa using eu) (by simpa using ev) λh' a1 a2 a3 a4 a5 a6 hk=>?_
  refine ⟨_,rfl,wpAny_letOwnedTupleGo_zip a1 λh'' hz'' hs=>?_⟩;have hT0:H s.heap.objs.size=none:=I.hok.fresh (ao _);have zne:s.heap.objs.size≠z:=IU (Heap.lt_size hz)
  have up:∀b o,b∉[z,TO,i1,i2]->s.heap.get? b=some o->h''.get? b=some o:=λb o hb e=>by
   simp only[aI,ba,or_false,not_or] at hb;exact (hs.2 b hb.1).trans (hk b o hb.1 hb.2.1 hb.2.2.1 hb.2.2.2 e)
  have fx:∀b∈[z,TO,i1,i2],j4 X pins H b:=λb hb=>hf b (by
   simp only[aI,ba,or_false] at hb ⊢;rcases hb with rfl | rfl | rfl | rfl <;> simp)
  have nx:∀b o,H b=some o->b∉[z,TO,i1,i2]:=λb o e hb=>by
   have:=(fx b hb).1;rw[this] at e;cases e
  have nT:∀{b:Addr} {o:HO},H b=some o->b≠s.heap.objs.size:=λe q=>by rw[q,hT0] at e;cases e
  have tup:h''.get? s.heap.objs.size=some { cls:=.type "tuple",data:=.seq #[u,v] }:=(hs.2 _ zne).trans a5
  have I2:Inv X pins σ (upd H s.heap.objs.size (.tup [x,y])) { s with heap:=h'' }:=by
   refine I.step (g':=s.gens) (d':=s.drawn) (t':=s.toks) (ch:=[z,TO,i1,i2]) (λb hb=>?_) (λb o _ _ hb e _=>up b o hb e) (λb o _ _ hb e _=>⟨o.slots,up b o hb e⟩) (λb o hb e n=>?_)
    (λb o hb e=>⟨o,up b o hb e⟩) (λb q e=>by rw[bE (nT e)];exact e) (λb o q e=>by rw[bE (nT e)];exact e) (λb q e=>⟨#[],by rw[bE (nT e),e];simp⟩) (λm hm=>?_) (λb o e=>?_) I.bare
   ·obtain ⟨_,f1,_,f3,f4,f5⟩:=fx b hb;exact ⟨f3,f1,f4,f5⟩
   ·rw[bE (bY (Heap.lt_size e))];exact n
   ·obtain ⟨o,es,ep,ho,r⟩:=hm;exact ⟨o,es,ep,up _ o (λz=>(fx _ z).2.1 rfl) ho,r⟩
   ·by_cases hb:b=s.heap.objs.size
    ·subst hb;rw[aM] at e;cases e;exact ⟨jo rfl,[u,v],.cons ru (.cons rv .nil),⟨_,tup,rfl,_,rfl⟩⟩
    ·rw[bE hb] at e;refine (I.hok b o e).stay (λc v' hc q=>up c v' ?_ q) (λc q=>by rw[bE (nT q)];exact q) λc xs q=>by rw[bE (nT q)];exact q
     rcases hc with rfl | hc
     ·exact nx _ _ e
     ·exact nx _ _ hc
  refine ⟨.ref s.heap.objs.size,_,I2,rfl,⟨_,x,y,rfl,hT0,rfl,λxs' q=>by rw[I.list_inj q qx];exact ex,λys' q=>by rw[I.list_inj q qy];exact ey⟩,?_,λb hb=>?_⟩
  ·refine ⟨hz'',(hs.2 _ D.TIz).trans (hk _ _ D.TIz D.TITO D.TIi1 D.TIi2 hTI),⟨_,_,(hs.2 _ D.TOz).trans a2⟩,a3.at λo e=>(hs.2 _ D.i1z).trans e,a4.at λo e=>(hs.2 _ D.i2z).trans e⟩
  ·obtain ⟨o,e,_⟩:∃o,s.heap.get? b=some o/\True:=by
    obtain ⟨o1,g1,_⟩:=h1;obtain ⟨o2,g2,_⟩:=h2;simp only[aI,ba,or_false] at hb;rcases hb with rfl | rfl | rfl | rfl | rfl
    ·exact ⟨_,hz,trivial⟩
    ·exact ⟨_,hTI,trivial⟩
    ·exact ⟨_,hTO,trivial⟩
    ·exact ⟨_,g1,trivial⟩
    ·exact ⟨_,g2,trivial⟩
   rw[bE (bY (Heap.lt_size e))];exact (hf b hb).1
 done:=by
  intro X hP hw hK hc i pins s σ H E I hf st hg;subst hP hw hK;obtain ⟨hz,hTI,⟨a,c,hTO⟩,h1,h2⟩:=st;obtain ⟨xs,ys,qx,qy,hend⟩:=hg;obtain ⟨us,rx,px,_⟩:=I.list qx;obtain ⟨ws,ry,py,_⟩:=I.list qy;have lx:=rx.length;have ly:=ry.length;have D:=AX hz hTI hTO h1 h2 px.isList py.isList hT hi
  refine wpAny_pyNext_zip_end (I.ok.hd hc) D hz hTI hTO h1 h2 px.isList py.isList (by
   rcases hend with q | q
   ·exact .inl (by simp;lia)
   ·exact .inr (by simp;lia)) λh' hk=>⟨rfl,?_⟩
  have up:∀b o,b∉[z,TO,i1,i2]->s.heap.get? b=some o->h'.get? b=some o:=λb o hb e=>by
   simp only[aI,ba,or_false,not_or] at hb;exact hk b o hb.1 hb.2.1 hb.2.2.1 hb.2.2.2 e
  have fx:∀b∈[z,TO,i1,i2],j4 X pins H b:=λb hb=>hf b (by
   simp only[aI,ba,or_false] at hb ⊢;rcases hb with rfl | rfl | rfl | rfl <;> simp)
  have nx:∀b o,H b=some o->b∉[z,TO,i1,i2]:=λb o e hb=>by
   have:=(fx b hb).1;rw[this] at e;cases e
  refine I.step (g':=s.gens) (d':=s.drawn) (t':=s.toks) (ch:=[z,TO,i1,i2]) (λb hb=>?_) (λb o _ _ hb e _=>up b o hb e) (λb o _ _ hb e _=>⟨o.slots,up b o hb e⟩) (λb o hb e n=>n)
   (λb o hb e=>⟨o,up b o hb e⟩) (λb q e=>e) (λb o q e=>e) (λb q e=>⟨#[],by rw[e];simp⟩) (λm hm=>?_) (λb o e=>?_) I.bare
  ·obtain ⟨_,f1,_,f3,f4,f5⟩:=fx b hb;exact ⟨f3,f1,f4,f5⟩
  ·obtain ⟨o,es,ep,ho,r⟩:=hm;exact ⟨o,es,ep,up _ o (λz=>(fx _ z).2.1 rfl) ho,r⟩
  ·refine (I.hok b o e).stay (λc v' hc q=>up c v' ?_ q) (λc q=>q) λc xs q=>q
   rcases hc with rfl | hc
   ·exact nx _ _ e
   ·exact nx _ _ hc
 self:=λ_ _ _ _ _ st h=>wpAny_pyIter_zip st.1 h
section
variable {X:Cx}
def Qf (K:FG9) (ta:TA):TI:=λσ H R=>ta σ H λvs H1=>∃l1 l2,vs=[.ref l1,.ref l2]/\(∃xs,bO K H1 l1 xs)/\(∃ys,bO K H1 l2 ys)/\R (Qx K l1 l2) H1
theorem oz {a b:Expr} {ta:TA} {p pos tpos:Pos} {elts:List Expr} {kk:Nat} (hg:Gl X "zip") (hm:X.mg "zip"=none) (ha:PA X [a,b] ta) (hs:starEach [a,b] X.env=[(false,eval a X.env),(false,eval b X.env)]:=by rfl) (hs2:starEach [b] X.env=[(false,eval b X.env)]:=by rfl) :
  PI X (.Tuple elts kk tpos) (.Call (.Name "zip" p) [a,b] [] pos) (Qf X.K ta):=by
 intro pins s σ H R I h;refine Call_ (jE I hg hm boot_zip (PyProof.Rows.callWith_type1 (gK (ha pos pins s σ H _ I h) λus s1 ⟨vs,H1,I1,r1,q1⟩=>?_) (by rw[hs,hs2]) (by rw[hs2];rfl)));obtain ⟨l1,l2,e,⟨xs,qx⟩,⟨ys,qy⟩,q⟩:=q1;subst e;obtain ⟨u,v,rfl,ru,rv⟩:=vals2 r1;cases ru;cases rv;obtain ⟨us,rx,px,_⟩:=I1.list qx;obtain ⟨ws,ry,py,_⟩:=I1.list qy;refine call_zip_2 px.isList py.isList λh' a1 a2 a3 a4 a5 a6 hk=>wpAny_pyIter_zip a1 ?_
 have I2:Inv X pins σ H1 { s1 with heap:=h' }:=I1.kept (t':=s1.toks) hk;refine ⟨_,[s1.heap.objs.size+4,s1.heap.objs.size+2,s1.heap.objs.size+3,s1.heap.objs.size,s1.heap.objs.size+1],_,_,H1,rfl,I2,Kp (s1.heap.objs.size+4) (s1.heap.objs.size+2) (s1.heap.objs.size+3) s1.heap.objs.size (s1.heap.objs.size+1) l1 l2 (bY (iK _)) (bY (iK _)),⟨a1,a2,⟨_,_,a3⟩,a4,a5⟩,λb hb=>?_,q⟩
 have hb':s1.heap.objs.size<=b:=by
  simp only[aI,ba,or_false] at hb;rcases hb with rfl | rfl | rfl | rfl | rfl <;> first | exact xT _ _ | exact ao _
 exact I1.fpOk hb' (I1.hok.fresh hb')
theorem Mg (hc:X.calm=true):pe X (.builtin "all") (λxs H Q=>∃(p:Addr) (bs:List Bool),xs=[.ref p]/\bO X.K H p (bs.map V.bl)/\Q (.bl (bs.all id)) H):=by
 intro pins s σ H xs us Q I r h;obtain ⟨p,bs,rfl,hp,q⟩:=h;obtain ⟨u,rfl,ru⟩:=vals1 r;cases ru;obtain ⟨vs,rv,pl,hz⟩:=I.list hp
 have hb:PyProof.Rows.LSm.BoolsAre vs bs:=by
  clear q hp pl hz
  induction bs generalizing vs with
  | nil=>cases rv;exact .nil
  | cons b bs ih =>
   rw[ia] at rv;cases rv with
   | cons r1 r2=>cases r1;exact .cons b (ih _ r2)
 have hlt:p < s.heap.objs.size:=by obtain ⟨_,e,_⟩:=pl.isList;exact Heap.lt_size e
 refine call_all_walk (wpAny_pyIter_list pl.isList ?_)
 refine ⟨s.heap.objs.size,[s.heap.objs.size,p],[s.heap.objs.size],vs.toArray.size,_,_,λi=>(bs[i]?).getD true,rfl,Walks.list (A:=X.A.in1) (I.ok.hd hc) _ p (bY hlt) vs.toArray,
  ⟨⟨_,Heap.get?_push_size _ rfl,rfl,rfl⟩,pl.isList.push _⟩,λi v s' Q' E' hP hQ=>?_,λh' tk hk=>?_⟩
 ·obtain ⟨b,e,rfl⟩:=hb.get i v (by simpa using hP);simp only[e,nV] at hQ;exact wpAny_truthy_bool hQ
 ·have e:((List.range vs.toArray.size).all λi=>(bs[i]?).getD true)=bs.all id:=by
   rw[aT,hb.length];exact PyProof.Rows.LSm.range_all bs
  rw[e];exact ⟨.bl _,H,I.kept (t':=tk) (PyProof.Rows.LSm.kept_iter hk),rfl,q⟩
theorem ET (hc:X.calm=true):pe X (.builtin "sum") (λxs H Q=>∃(p:Addr) (ns:List Int),xs=[.ref p]/\bO X.K H p (ns.map V.int)/\Q (.int ns.sum) H):=by
 intro pins s σ H xs us Q I r h;obtain ⟨p,ns,rfl,hp,q⟩:=h;obtain ⟨u,rfl,ru⟩:=vals1 r;cases ru;obtain ⟨vs,rv,pl,_⟩:=I.list hp;have hi:IntsAre vs ns:=intsAre_of rv;obtain ⟨xs,hx⟩:=hi.allInts.items;have hl':s.heap.IsList p (intItems xs):=hx ▸ pl.isList;refine sum_intListG (I.ok.hd hc) hl' λh' tk t' hk=>?_
 have e1:ns=xs.toList.map (·.1):=by
  rw[<- nums_intItems,<- hx];exact (show numsOf vs.toArray.toList=ns from hi.numsOf).symm
 have e2:preSum (numAt xs) xs.size=ns.sum:=by
  rw[preSum_eq,aE (by simp),e1]
 rw[e2];exact ⟨.int _,H,I.kept (t':=tk) hk,⟨_,rfl⟩,q⟩
end
section
variable {K:FG9} {l1 l2:Addr} {xs ws:List V} {g:TG} {tf:TT} {te:TE} {Q:VK} {σ₀:St} {H:Hp}
theorem nO (Pv:Nat->List V->Hp->Prop) (hz:xs.length<=sizeLine) (hw:ws.length=xs.length) (h0:Pv 0 [] H) (hl:∀i ys H,i<=xs.length->Pv i ys H->bO K H l1 xs/\bO K H l2 ws)
  (hs:∀i x y ys H p,xs[i]?=some x->ws[i]?=some y->ys.length<=i->Pv i ys H->H p=none->pK σ₀ g tf te (.ref p) (upd H p (.tup [x,y])) (λy H'=>Pv (i+1) (ys++[y]) H') (λH'=>Pv (i+1) ys H'))
  (hd:∀ys H,ys.length<=xs.length->Pv xs.length ys H->∀p,H p=none->Q (.ref p) (upd H p (.lst ys))):qQ (Qx K l1 l2) σ₀ g tf te Q H:=by
 refine ⟨λi m ys H=>m=xs.length - i/\i<=xs.length/\ys.length<=i/\Pv i ys H,⟨xs.length,by simp,br _,br _,h0⟩,?_⟩;rintro i m ys H ⟨rfl,hi,hy,p⟩;obtain ⟨q1,q2⟩:=hl i ys H hi p;by_cases hlt:i < xs.length
 ·refine .inr ⟨⟨xs,ws,xs[i],ws[i]'(by lia),q1,q2,by simp [hlt],by simp⟩,by lia,λy H'=>Pv (i+1) (ys++[y]) H',λH'=>Pv (i+1) ys H',λy H' p'=>⟨xs.length - (i+1),by lia,rfl,hlt,by rw[ax,bS];lia,p'⟩,λH' p'=>⟨xs.length - (i+1),by lia,rfl,hlt,by lia,p'⟩,λx H' y=>?_⟩;obtain ⟨r,x',y',rfl,hr,rfl,e1,e2⟩:=y;exact hs i x' y' ys _ r (e1 xs q1) (e2 ws q2) hy p hr
 ·have e:i=xs.length:=by lia
  subst e;exact .inl ⟨⟨xs,ws,q1,q2,.inl (ao _)⟩,by lia,hd ys H hy p⟩
theorem NQ {tb:TS} {D:Ends} (Pv:Nat->St->Hp->Prop) (hw:ws.length=xs.length) (h0:Pv 0 σ H) (hl:∀i σ H,i<=xs.length->Pv i σ H->bO K H l1 xs/\bO K H l2 ws)
  (hs:∀i x y σ H p,xs[i]?=some x->ws[i]?=some y->Pv i σ H->H p=none->g (.ref p) σ (upd H p (.tup [x,y])) λσ2 H2=>tb { D with nx:=Pv (i+1),ct:=Pv (i+1),bk:=D.nx } σ2 H2) (hd:∀σ H,Pv xs.length σ H->D.nx σ H) :
  ∃W:Nat->Nat->St->Hp->Prop,(∃m,W 0 m σ H)/\∀i m σ H,W i m σ H →
   ((Qx K l1 l2).stop i H/\D.nx σ H)\/((Qx K l1 l2).go i H/\∃N:St->Hp->Prop,(∀σ' H',N σ' H'->∃m',m' < m/\W (i+1) m' σ' H')/\∀x H',(Qx K l1 l2).yld i H x H'->g x σ H' λσ2 H2=>tb { D with nx:=N,ct:=N,bk:=D.nx } σ2 H2):=by
 refine ⟨λi m σ H=>m=xs.length - i/\i<=xs.length/\Pv i σ H,⟨xs.length,by simp,br _,h0⟩,?_⟩;rintro i m σ H ⟨rfl,hi,p⟩;obtain ⟨q1,q2⟩:=hl i σ H hi p;by_cases hlt:i < xs.length
 ·refine .inr ⟨⟨xs,ws,xs[i],ws[i]'(by lia),q1,q2,by simp [hlt],by simp⟩,Pv (i+1),λσ' H' p'=>⟨xs.length - (i+1),by lia,rfl,hlt,p'⟩,λx H' y=>?_⟩;obtain ⟨r,x',y',rfl,hr,rfl,e1,e2⟩:=y;exact hs i x' y' σ _ r (e1 xs q1) (e2 ws q2) p hr
 ·have e:i=xs.length:=by lia
  subst e;exact .inl ⟨⟨xs,ws,q1,q2,.inl (ao _)⟩,hd σ H p⟩
end
section
variable {X:Cx}
theorem me (K:FG9) (n:Nat) {es:List Expr} {k:Nat} {pos:Pos} {t:Mx} (h:RS X es t) (hK:X.K=K:=by rfl) (hc:X.calm=true:=by rfl)
  (hn:(assignEach es X.env).length=n:=by rfl) (hst:(assignEach es X.env).findIdx? (·.1)=none:=by rfl):PG X (.Tuple es k pos) (Qi K n t):=by subst hK;exact td hc h hn hst
theorem qX (K:FG9) (hK:X.K=K):RX X (PH K):=by subst hK;exact bL
theorem gM (K:FG9) (hK:X.K=K):RX X (PJ K):=by subst hK;exact bQ
theorem Ei (K:FG9) {tg l:Expr} {tl:TE} (hl:PE X l tl) (hK:X.K=K:=by rfl):PI X tg l (LC K tl):=by subst hK;exact cP hl
theorem KG (K:FG9) (hK:X.K=K):SO X (PD K):=by subst hK;exact Cn
end
theorem eh {X:Cx} {e e':Expr} {es:List Expr} {te:TE} {t:TA} (h:e=e') (ha:PE X e' te) (hr:PA X es t) (hs:∀l,starEach (e' :: l) X.env=(false,eval e' X.env) :: starEach l X.env:=by intro _;rfl):PA X (e :: es) (pL te t):=by subst h;exact ae ha hr (hs _)
section
variable {σ:St} {H:Hp} {D:Ends} {Q:VK}
theorem jf (hl:H l=some (.lst xs)) (hz:xs.length < sizeLine) (h:Q .non (upd H l (.lst (xs++[y])))):HQ (.ref l) [y] H Q:=⟨l,xs,y,rfl,rfl,hl,hz,h⟩
theorem Ng {K:FG9} (h:ta σ H λvs H1=>∃l1 l2,vs=[.ref l1,.ref l2]/\(∃xs,bO K H1 l1 xs)/\(∃ys,bO K H1 l2 ys)/\R (Qx K l1 l2) H1):Qf K ta σ H R:=h
theorem lJ (h1:H l=some (.lst xs)) (h2:H b=some (.lst zs)) (hz:xs.length+zs.length<=sizeLine) (h:∀p H',aK H H'->H p=none->H' p=some (.lst (xs++zs))->Q (.ref p) H'):Rv (.ref l) (.ref b) H Q :=
 ⟨l,b,xs,zs,rfl,rfl,h1,h2,hz,λp hp=>h p _ (aK.new hp) hp aM⟩
theorem Pf {K:FG9} {lo hi:Option Int} (h1:bO K H a xs) (h:∀p H',aK H H'->H p=none->H' p=some (.lst (rj xs lo hi))->Q (.ref p) H'):PD K (.ref a) lo hi H Q :=
 ⟨a,xs,rfl,h1,λp hp=>h p _ (aK.new hp) hp aM⟩
theorem jH {xs:List α} {i:Int} (h0:0<=i) (h1:i < xs.length):∃v,Gr xs i=some v/\v∈xs/\xs[i.toNat]?=some v:=by
 have hj:i.toNat < xs.length:=by lia
 refine ⟨xs[i.toNat],?_,aD hj,by simp [hj]⟩;have:=eJ (xs:=xs) (j:=i.toNat) (v:=xs[i.toNat]) (by simp [hj]);rwa [Int.toNat_of_nonneg h0] at this
end
theorem dh {α β:Type} {F:α->β->Prop}:∀{l1:List α} {l2:List β} {y:β},Paired F l1 l2->y∈l2->∃x∈l1,F x y
 | _,_,_,.nil,h=>nomatch h
 | _,_,_,.cons r t,h=>by
  rcases aI.mp h with rfl | h
  ·exact ⟨_,dn,r⟩
  ·obtain ⟨x,hx,q⟩:=dh t h;exact ⟨x,bW _ hx,q⟩
theorem bX {F:α->β->Prop} {l1:List α} {l2:List β} {i:Nat} {y:β} (h:Paired F l1 l2) (e:l2[i]?=some y):∃x,l1[i]?=some x/\F x y:=by
 have hl:=h.length;have hi:i < l2.length:=(aJ.mp e).1;refine ⟨l1[i]'(by lia),by simp,?_⟩;have:=jU h (i:=i) (by lia) hi;have e2:l2[i]=y:=(aJ.mp e).2;rwa [e2] at this
def E8 (n:Int×Int):Prop:=0 < n.2/\Int.gcd n.1 n.2=1/\Sz 400000 n.1/\Sz 400000 n.2
theorem take_snoc {α:Type} {l:List α} {v:α} (h:l[i]?=some v):l.take (i+1)=l.take i++[v]:=by rw[List.take_add_one,h];rfl
theorem aK.after (s:aK H H') (h:H r=Option.none):aK H (upd H' r o):=λb u e=>by rw[bE (fG e h)];exact s b u e
theorem cZ.after (s:cZ b H H') (h:H r=Option.none):cZ b H (upd H' r o):=⟨λc u e n=>by rw[bE (fG e h)];exact s.1 c u e n,λq hi=>(s.2 q hi).upd λz=>by obtain ⟨_,_,_,e⟩:=hi;rw[<- z,h] at e;cases e⟩
theorem cZ.same (s:cZ b H H') (e:aK H' H''):cZ b H H'':=s.trans e.upto
theorem yk {α:Type} {Pr:α->Prop} {l:List α} {a:α} (h:∀n∈l,Pr n) (ha:Pr a):∀n∈l++[a],Pr n:=λn hn=>by
 rcases aG.mp hn with hn | hn
 ·exact h n hn
 ·have e:n=a:=by simpa using hn
  rw[e];exact ha
abbrev Ao (h:Heap) (z TI TO:Addr) (f0 f1:Value):Prop:=h.get? z=some { cls:=.type "zip",dict:=none,data:=.fields #[f0,f1,.bool false,.ref TI,.ref TO],slots:=#[] }
section
variable {prog:Program} {w:World} {A:Around} {E:Value->Shared->Prop} {s:Shared}
theorem Gs (e:s.heap.get? a=some o) (h:Q (some o) s):wpAny (model prog w) A (loadIfAlive a) Q E s:=by
 intro Γ p hp;show Sem.wp _ _ (.loadIfAlive a .pure) _ _ _ _
 simp only[Sem.wp_loadIfAlive,e];exact wpAny_pure h Γ p hp
theorem zf {z TI TO T:Addr} (zr:Ao s.heap z TI TO (rawInt T) (.bool b1)) (al:s.heap.get? T=some o)
  (h:∀h',Ao h' z TI TO (rawInt T) (.bool true)->Heap.SameBut z s.heap h'->Q false { s with heap:=h' }):wpAny (model prog w) A (Builtin.SmallTypes.ownedTupleIsFree (.ref z)) Q E s:=by
 unfold Builtin.SmallTypes.ownedTupleIsFree;refine wpAny_bind (wpAny_field zr rfl (x:=rawInt T) rfl ?_);refine wpAny_bind (Gs (a:=T) al ?_);refine wpAny_bind (wpAny_field zr rfl (x:=.bool b1) rfl ?_);cases b1 with
 | true=>exact wpAny_pure (h _ zr (.refl ..))
 | false=>exact wpAny_bind (wpAny_setField_rec zr (by simp) λh' zr' sb=>wpAny_pure (h h' zr' sb))
theorem JI {z TI TO T i1 i2 l1 l2:Addr} {Q:Value->Shared->Prop} (D:ZipApart z TI TO i1 i2 l1 l2) (zr:Ao s.heap z TI TO (rawInt T) (.bool b1)) (al:s.heap.get? T=some o)
  (pt:IsPair s.heap TI (.ref i1) (.ref i2)) (j1:s.heap.IsListIter i1 l1 k1) (j2:s.heap.IsListIter i2 l2 k2) (m1:s.heap.IsList l1 us) (m2:s.heap.IsList l2 ws) (eu:us[k1]?=some u) (ev:ws[k2]?=some v)
  (hQ:∀h',Ao h' z TI TO (rawInt T) (.bool true)->h'.IsListIter i1 l1 (k1+1)->h'.IsListIter i2 l2 (k2+1)->IsPair h' s.heap.objs.size u v->(∀c o,c≠z->c≠i1->c≠i2->s.heap.get? c=some o->h'.get? c=some o)->Q (.ref s.heap.objs.size) { s with heap:=h' }) :
  wpAny (model prog w) A (Builtin.«zip.__next__» ⟨[.ref z],[]⟩) (λfin s'=>∃v,fin=.done (.ret v)/\Q v s') E s:=by
 change wpAny _ _ (field (Value.ref z) 2 >>= _) _ _ s
 refine wpAny_bind (wpAny_field zr rfl (x:=.bool false) rfl ?_)
 change wpAny _ _ (field (Value.ref z) 3 >>= _) _ _ s
 refine wpAny_bind (wpAny_field zr rfl (x:=.ref TI) rfl (wpAny_bind (wpAny_seqItems pt rfl ?_)))
 change wpAny _ _ (Builtin.SmallTypes.ownedTupleIsFree (Value.ref z) >>= _) _ _ s
 refine wpAny_bind (zf zr al λg1 zr1 sb1=>?_);simp only[jb,if_false];refine wpAny_bind ?_;rw[<- Array.forIn_toList];simp only[ME,BV];have j1':=j1.extBut sb1.extBut D.i1z;have m1':=m1.extBut sb1.extBut D.l1z;refine wpAny_bind (wpAny_bind (wpAny_holding ?_))
 change wpAny _ _ (Builtin.SmallTypes.nextOf (Value.ref i1) >>= _) _ _ _
 refine wpAny_bind (wpAny_nextOf_list_item j1' m1' eu λg2 j1a sb2=>wpAny_pure ?_);refine wpAny_pure ?_;have j2':=(j2.extBut sb1.extBut D.i2z).extBut sb2.extBut D.i12.symm;have m2':=(m2.extBut sb1.extBut D.l2z).extBut sb2.extBut D.l2i1;refine wpAny_bind (wpAny_bind (wpAny_holding ?_))
 change wpAny _ _ (Builtin.SmallTypes.nextOf (Value.ref i2) >>= _) _ _ _
 refine wpAny_bind (wpAny_nextOf_list_item j2' m2' ev λg3 j2a sb3=>wpAny_pure ?_);refine wpAny_pure (wpAny_pure ?_);refine wpAny_bind (wpAny_newTuple (hsz:=jo rfl) ?_);have sz:g3.objs.size=s.heap.objs.size:=by rw[sb3.1,sb2.1,sb1.1]
 have up:∀c o,c≠z->c≠i1->c≠i2->s.heap.get? c=some o->g3.get? c=some o:=λc o c1 c2 c3 e=>sb3.extBut _ _ c3 (sb2.extBut _ _ c2 (sb1.extBut _ _ c1 e))
 have zr3:Ao g3 z TI TO (rawInt T) (.bool true):=sb3.extBut _ _ D.i2z.symm (sb2.extBut _ _ D.i1z.symm zr1);refine wpAny_pure ⟨_,rfl,?_⟩
 change Q (.ref g3.objs.size) { s with heap:=g3.push { cls:=.type "tuple",data:=.seq #[u,v] } }
 have last:=hQ (g3.push { cls:=.type "tuple",data:=.seq #[u,v] }) (Heap.get?_push_of_some _ zr3) ((j1a.extBut sb3.extBut D.i12).at λo e=>Heap.get?_push_of_some _ e) (j2a.at λo e=>Heap.get?_push_of_some _ e)
  (by rw[<- sz];exact Heap.get?_push_size _ rfl) λc o c1 c2 c3 e=>Heap.get?_push_of_some _ (up c o c1 c2 c3 e)
 rw[sz];exact last
theorem Lo {z TI TO T i1 i2 l1 l2:Addr} (hh:A.handled=none) (D:ZipApart z TI TO i1 i2 l1 l2) (zr:Ao s.heap z TI TO (rawInt T) (.bool b1)) (al:s.heap.get? T=some o)
  (pt:IsPair s.heap TI (.ref i1) (.ref i2)) (j1:s.heap.IsListIter i1 l1 k1) (m1:s.heap.IsList l1 us) (eu:us[k1]?=none)
  (hE:∀h' e,(∀c o,c≠z->c≠i1->c≠i2->s.heap.get? c=some o->h'.get? c=some o)->(∃o,h'.get? e=some o/\o.cls=.type "StopIteration")->E (.ref e) { s with heap:=h' }) :
  wpAny (model prog w) A (Builtin.«zip.__next__» ⟨[.ref z],[]⟩) Q E s:=by
 change wpAny _ _ (field (Value.ref z) 2 >>= _) _ _ s
 refine wpAny_bind (wpAny_field zr rfl (x:=.bool false) rfl ?_)
 change wpAny _ _ (field (Value.ref z) 3 >>= _) _ _ s
 refine wpAny_bind (wpAny_field zr rfl (x:=.ref TI) rfl (wpAny_bind (wpAny_seqItems pt rfl ?_)))
 change wpAny _ _ (Builtin.SmallTypes.ownedTupleIsFree (Value.ref z) >>= _) _ _ s
 refine wpAny_bind (zf zr al λg1 zr1 sb1=>?_);simp only[jb,if_false];refine wpAny_bind ?_;rw[<- Array.forIn_toList];simp only[ME,BV];refine wpAny_bind (wpAny_bind (wpAny_holding ?_))
 change wpAny _ _ (Builtin.SmallTypes.nextOf (Value.ref i1) >>= _) _ _ _
 exact wpAny_bind (wpAny_nextOf_list_end hh (j1.extBut sb1.extBut D.i1z) (m1.extBut sb1.extBut D.l1z) eu λg2 e xb he=>hE g2 e (λc o c1 c2 _ q=>xb _ _ c2 (sb1.extBut _ _ c1 q)) he)
theorem JE {z TI TO T i1 i2 l1 l2:Addr} (D:ZipApart z TI TO i1 i2 l1 l2) (zr:Ao s.heap z TI TO (rawInt T) (.bool b1)) (al:s.heap.get? T=some o)
  (pt:IsPair s.heap TI (.ref i1) (.ref i2)) (j1:s.heap.IsListIter i1 l1 k1) (j2:s.heap.IsListIter i2 l2 k2) (m1:s.heap.IsList l1 us) (m2:s.heap.IsList l2 ws) (eu:us[k1]?=some u) (ev:ws[k2]?=some v)
  (hQ:∀h',Ao h' z TI TO (rawInt T) (.bool true)->h'.IsListIter i1 l1 (k1+1)->h'.IsListIter i2 l2 (k2+1)->IsPair h' s.heap.objs.size u v->(∀c o,c≠z->c≠i1->c≠i2->s.heap.get? c=some o->h'.get? c=some o)->Q (some (.ref s.heap.objs.size)) { s with heap:=h' }) :
  wpAny (model prog w) A (pyNext (.ref z)) Q E s:=by
 have ty:s.TypeIs (.ref z) "zip":=⟨_,zr,rfl⟩;unfold pyNext;refine wpAny_bind (wpAny_attempt (wpAny_callSpecial?_slot (name:=Str.ofString "__next__") ty nU (wpAny_call_entry nU ty PySem.F.entry_zip_next ?_ (Sa _))));exact JI D zr al pt j1 j2 m1 m2 eu ev λh' a1 a2 a3 a4 a5=>wpAny_pure (hQ h' a1 a2 a3 a4 a5)
theorem JD {z TI TO T i1 i2 l1 l2:Addr} (hh:A.handled=none) (D:ZipApart z TI TO i1 i2 l1 l2) (zr:Ao s.heap z TI TO (rawInt T) (.bool b1)) (al:s.heap.get? T=some o)
  (pt:IsPair s.heap TI (.ref i1) (.ref i2)) (j1:s.heap.IsListIter i1 l1 k1) (m1:s.heap.IsList l1 us) (eu:us[k1]?=none)
  (hQ:∀h',(∀c o,c≠z->c≠i1->c≠i2->s.heap.get? c=some o->h'.get? c=some o)->Q none { s with heap:=h' }):wpAny (model prog w) A (pyNext (.ref z)) Q E s:=by
 have ty:s.TypeIs (.ref z) "zip":=⟨_,zr,rfl⟩;unfold pyNext;refine wpAny_bind (wpAny_attempt (wpAny_callSpecial?_slot (name:=Str.ofString "__next__") ty nU (wpAny_call_entry nU ty PySem.F.entry_zip_next ?_ (Sa _))));refine Lo hh D zr al pt j1 m1 eu λh' e kk ⟨oe,he,hc⟩=>?_
 exact wpAny_bind (wpAny_isInstance (T:="StopIteration") (b:=true) ⟨oe,he,hc⟩ isSubtype_stop (wpAny_pure (hQ _ kk)))
end
section
variable {X:Cx} {pins:List (Addr×Obj)} {σ:St} {H:Hp} {s:Shared}
theorem Inv.moved {ch:List Addr} (I:Inv X pins σ H s) (fx:∀b∈ch,j4 X pins H b) (up:∀b o,b∉ch->s.heap.get? b=some o->h'.get? b=some o) (hg:AllBare g') :
  Inv X pins σ H { s with heap:=h',gens:=g',drawn:=d',toks:=t' }:=by
 have nx:∀b o,H b=some o->b∉ch:=λb o e hb=>by have:=(fx b hb).1;rw[this] at e;cases e
 refine I.step (ch:=ch) (λb hb=>?_) (λb o _ _ hb e _=>up b o hb e) (λb o _ _ hb e _=>⟨o.slots,up b o hb e⟩) (λb o hb e n=>n) (λb o hb e=>⟨o,up b o hb e⟩) (λb q e=>e) (λb o q e=>e) (λb q e=>⟨#[],by rw[e];simp⟩) (λm hm=>?_) (λb o e=>?_) hg
 ·obtain ⟨_,f1,_,f3,f4,f5⟩:=fx b hb;exact ⟨f3,f1,f4,f5⟩
 ·obtain ⟨o,es,ep,ho,r⟩:=hm;exact ⟨o,es,ep,up _ o (λz=>(fx _ z).2.1 rfl) ho,r⟩
 ·refine (I.hok b o e).stay (λc v' hc q=>up c v' ?_ q) (λc q=>q) λc xs q=>q
  rcases hc with rfl | hc
  ·exact nx _ _ e
  ·exact nx _ _ hc
theorem Inv.track (I:Inv X pins σ H s) (fp:j4 X pins H p) (new:jm X.prog X.w (upd H p o) s.heap p o):Inv X pins σ (upd H p o) s:=by
 have nt:∀{b:Addr} {u:HO},H b=some u->b≠p:=λe z=>by rw[z,fp.1] at e;cases e
 refine I.step (h':=s.heap) (g':=s.gens) (d':=s.drawn) (t':=s.toks) (ch:=[p]) (λb hb=>?_) (λb o _ _ _ e _=>e) (λb o _ _ _ e _=>⟨o.slots,e⟩) (λb o hb e n=>?_) (λb o _ e=>⟨o,e⟩) (λb q e=>by rw[bE (nt e)];exact e) (λb o q e=>by rw[bE (nt e)];exact e)
  (λb q e=>⟨#[],by rw[bE (nt e),e];simp⟩) (λm hm=>hm) (λb u e=>?_) I.bare
 ·have e:b=p:=by simpa using hb
  subst e;obtain ⟨_,f1,_,f3,f4,f5⟩:=fp;exact ⟨f3,f1,f4,f5⟩
 ·rw[bE λz=>hb (by simp [z])];exact n
 ·by_cases hb:b=p
  ·subst hb;rw[aM] at e;cases e;exact new
  ·rw[bE hb] at e;exact (I.hok b u e).stay (λc v _ q=>q) (λc q=>by rw[bE (nt q)];exact q) λc xs q=>by rw[bE (nt q)];exact q
end
def OR (H:Hp) (p:V×V) (x:V):Prop:=∃T,x=.ref T/\H T=some (.tup [p.1,p.2])
theorem OR.same (h:OR H p x) (e:aK H H'):OR H' p x:=by obtain ⟨T,q,g⟩:=h;exact ⟨T,q,e _ _ g⟩
def Zst (h:Heap) (z TI TO:Addr) (base:Nat):Prop:=(∃a b,IsPair h TO a b)/\(IsZip h z TI TO .none\/∃(T:Addr) (b1:Bool) (o:Obj),Ao h z TI TO (rawInt T) (.bool b1)/\h.get? T=some o/\@LE.le Nat instLENat base T)
theorem BY {z TI TO i1 i2 l1 l2:Addr} (hz:Ao h z TI TO f0 f1) (hTI:IsPair h TI (.ref i1) (.ref i2)) (hTO:IsPair h TO a b) (h1:h.IsListIter i1 l1 k1) (h2:h.IsListIter i2 l2 k2) (hl1:h.IsList l1 xs) (hl2:h.IsList l2 ys) (hT:TI≠TO) (hi:i1≠i2):ZipApart z TI TO i1 i2 l1 l2:=by
 obtain ⟨o1,g1,c1,_⟩:=h1;obtain ⟨o2,g2,c2,_⟩:=h2;obtain ⟨p1,q1,d1,_⟩:=hl1;obtain ⟨p2,q2,d2,_⟩:=hl2;have zt:Value.type "zip"≠.type "tuple":=lh (by decide);have it:Value.type "list_iterator"≠.type "tuple":=lh (by decide);have iz:Value.type "list_iterator"≠.type "zip":=lh (by decide);have lz:Value.type "list"≠.type "zip":=lh (by decide);have lt:Value.type "list"≠.type "tuple":=lh (by decide);have li:Value.type "list"≠.type "list_iterator":=lh (by decide)
 exact ⟨dj hTI hz zt.symm,dj hTO hz zt.symm,dj g1 hz (by rw[c1];exact iz),dj g2 hz (by rw[c2];exact iz),hT,dj hTI g1 (by rw[c1];exact it.symm),dj hTI g2 (by rw[c2];exact it.symm),dj hTO g1 (by rw[c1];exact it.symm),dj hTO g2 (by rw[c2];exact it.symm),hi,
  dj q1 hz (by rw[d1];exact lz),dj q1 hTO (by rw[d1];exact lt),dj q1 g1 (by rw[d1,c1];exact li),dj q1 g2 (by rw[d1,c2];exact li),dj q2 hz (by rw[d2];exact lz),dj q2 hTO (by rw[d2];exact lt),dj q2 g1 (by rw[d2,c1];exact li),dj q2 g2 (by rw[d2,c2];exact li)⟩
section
variable {X:Cx} {pins:List (Addr×Obj)} {σ:St}
theorem j4.heap (f:j4 X pins H b) (e:H' b=none):j4 X pins H' b:=⟨e,f.2⟩
structure Dp where
 z:Addr
 TI:Addr
 TO:Addr
 i1:Addr
 i2:Addr
 S:Addr
 base:Nat
def Dp.all (a:Dp):List Addr:=[a.z,a.TI,a.TO,a.i1,a.i2,a.S]
structure Dp.Ok (a:Dp):Prop where
 tt:a.TI≠a.TO
 ii:a.i1≠a.i2
 Sz:a.S≠a.z
 STI:a.S≠a.TI
 STO:a.S≠a.TO
 Si1:a.S≠a.i1
 Si2:a.S≠a.i2
 lt:∀b∈a.all,@LT.lt Nat instLTNat b a.base
structure Oe (X:Cx) (pins:List (Addr×Obj)) (σ:St) (H1:Hp) (a:Dp) (l1 l2:Addr) (i:Nat) (H:Hp) (s:Shared):Prop where
 inv:Inv X pins σ H s
 same:aK H1 H
 fps:∀b∈a.all,j4 X pins H b
 sz:a.base<=s.heap.objs.size
 zst:Zst s.heap a.z a.TI a.TO a.base
 pt:IsPair s.heap a.TI (.ref a.i1) (.ref a.i2)
 j1:s.heap.IsListIter a.i1 l1 i
 j2:s.heap.IsListIter a.i2 l2 i
variable {a:Dp} {l1 l2:Addr} {H1 H:Hp} {s:Shared} {i:Nat} {xs ys:List V}
theorem Oe.push (L:Oe X pins σ H1 a l1 l2 i H s) (O:a.Ok) (k:∀b o,b≠a.S->s.heap.get? b=some o->h'.get? b=some o) (hz:h'.objs.size=s.heap.objs.size):Oe X pins σ H1 a l1 l2 i H { s with heap:=h' }:=by
 refine ⟨L.inv.moved (g':=s.gens) (d':=s.drawn) (t':=s.toks) (ch:=[a.S]) (λb hb=>?_) (λb o hb e=>k b o (λz=>hb (by simp [z])) e) L.inv.bare,L.same,L.fps,by show a.base<=h'.objs.size;rw[hz];exact L.sz,?_,k _ _ O.STI.symm L.pt,L.j1.at λo e=>k _ o O.Si1.symm e,L.j2.at λo e=>k _ o O.Si2.symm e⟩
 ·have e:b=a.S:=by simpa using hb
  rw[e];exact L.fps _ (by simp [Dp.all])
 ·obtain ⟨⟨c,d,z0⟩,z4⟩:=L.zst;refine ⟨⟨c,d,k _ _ O.STO.symm z0⟩,?_⟩;rcases z4 with z1 | ⟨T,b1,o,z1,z2,z3⟩
  ·exact .inl (k _ _ O.Sz.symm z1)
  ·refine .inr ⟨T,b1,o,k _ _ O.Sz.symm z1,k _ _ (λe=>?_) z2,z3⟩;have:=O.lt a.S (by simp [Dp.all]);rw[<- e] at this;exact absurd this (Nat.not_lt.mpr z3)
theorem Kg (O:a.Ok) (q1:bO X.K H1 l1 xs) (q2:bO X.K H1 l2 ys) (ex:xs[i]?=some x) (ey:ys[i]?=some y) (L:Oe X pins σ H1 a l1 l2 i H s)
  (hQ:∀s',Oe X pins σ H1 a l1 l2 (i+1) (upd H s.heap.objs.size (.tup [x,y])) s'->(∀c o,c∉[a.z,a.TO,a.i1,a.i2]->s.heap.get? c=some o->s'.heap.get? c=some o)->H s.heap.objs.size=none->Q (some (.ref s.heap.objs.size)) s'):wpAny (model X.prog X.w) A' (pyNext (.ref a.z)) Q E s:=by
 obtain ⟨I,sm,fps,sz,zst,pt,j1,j2⟩:=id L;obtain ⟨us,ru,pu,_⟩:=I.list (sm.seq q1);obtain ⟨ws,rw',pw,_⟩:=I.list (sm.seq q2);obtain ⟨u,eu,r1⟩:=ru.get ex;obtain ⟨v,ev,r2⟩:=rw'.get ey;have fx:∀b∈[a.z,a.TO,a.i1,a.i2],j4 X pins H b:=λb hb=>fps b (by simp only[Dp.all,aI,ba,or_false] at hb ⊢;rcases hb with e | e | e | e <;> simp [e])
 have hT0:H s.heap.objs.size=none:=I.hok.fresh (ao _);have fT:j4 X pins H s.heap.objs.size:=I.fpOk (ao _) hT0;have lt:∀b∈a.all,b≠s.heap.objs.size:=λb hb e=>by have:=O.lt b hb;rw[e] at this;exact absurd this (Nat.not_lt.mpr sz)
 have fin:∀h',(∀c o,c∉[a.z,a.TO,a.i1,a.i2]->s.heap.get? c=some o->h'.get? c=some o)->IsPair h' s.heap.objs.size u v->IsPair h' a.TI (.ref a.i1) (.ref a.i2)->h'.IsListIter a.i1 l1 (i+1)->h'.IsListIter a.i2 l2 (i+1)->Zst h' a.z a.TI a.TO a.base →
   Q (some (.ref s.heap.objs.size)) { s with heap:=h' }:=λh' up pr pt' j1' j2' zst'=>by
  have I2:Inv X pins σ H { s with heap:=h' }:=I.moved (g':=s.gens) (d':=s.drawn) (t':=s.toks) fx up I.bare;have I3:Inv X pins σ (upd H s.heap.objs.size (.tup [x,y])) { s with heap:=h' }:=I2.track fT ⟨jo rfl,[u,v],.cons r1 (.cons r2 .nil),⟨_,pr,rfl,_,rfl⟩⟩;refine hQ _ ⟨I3,sm.trans (aK.new hT0),λb hb=>(fps b hb).heap (by rw[bE (lt b hb)];exact (fps b hb).1),?_,zst',pt',j1',j2'⟩ up hT0;exact ag sz (bc (Heap.lt_size pr))
 obtain ⟨⟨c,d,z0⟩,z4⟩:=zst;rcases z4 with z1 | ⟨T,b1,o,z1,z2,z3⟩
 ·have D:=BY z1 pt z0 j1 j2 pu.isList pw.isList O.tt O.ii;refine wpAny_pyNext_zip_item D z1 pt z0 j1 j2 pu.isList pw.isList (x:=u) (y:=v) (by simpa using eu) (by simpa using ev) λh' a1 a2 a3 a4 a5 a6 hk=>?_
  have up:∀c o,c∉[a.z,a.TO,a.i1,a.i2]->s.heap.get? c=some o->h'.get? c=some o:=λc o hc e=>by
   simp only[aI,ba,or_false,not_or] at hc;exact hk c o hc.1 hc.2.1 hc.2.2.1 hc.2.2.2 e
  exact fin h' up a5 (hk _ _ D.TIz D.TITO D.TIi1 D.TIi2 pt) a3 a4 ⟨⟨_,_,a2⟩,.inr ⟨s.heap.objs.size,false,_,a1,a5,sz⟩⟩
 ·have D:=BY z1 pt z0 j1 j2 pu.isList pw.isList O.tt O.ii;refine JE D z1 z2 pt j1 j2 pu.isList pw.isList (u:=u) (v:=v) (by simpa using eu) (by simpa using ev) λh' a1 a3 a4 a5 hk=>?_
  have up:∀c o,c∉[a.z,a.TO,a.i1,a.i2]->s.heap.get? c=some o->h'.get? c=some o:=λc o hc e=>by
   simp only[aI,ba,or_false,not_or] at hc;exact hk c o hc.1 hc.2.2.1 hc.2.2.2 e
  have Tn:∀b∈a.all,T≠b:=λb hb e=>by have:=O.lt b hb;rw[<- e] at this;exact absurd this (Nat.not_lt.mpr z3)
  exact fin h' up a5 (hk _ _ D.TIz D.TIi1 D.TIi2 pt) a3 a4 ⟨⟨_,_,hk _ _ D.TOz D.TOi1 D.TOi2 z0⟩,.inr ⟨T,true,o,a1,hk _ _ (Tn _ (by simp [Dp.all])) (Tn _ (by simp [Dp.all])) (Tn _ (by simp [Dp.all])) z2,z3⟩⟩
theorem Kf (hh:A'.handled=none) (O:a.Ok) (q1:bO X.K H1 l1 xs) (q2:bO X.K H1 l2 ys) (hi:xs.length<=i) (L:Oe X pins σ H1 a l1 l2 i H s)
  (hQ:∀s',Inv X pins σ H s'->(∀c o,c∉[a.z,a.TO,a.i1,a.i2]->s.heap.get? c=some o->s'.heap.get? c=some o)->Q none s'):wpAny (model X.prog X.w) A' (pyNext (.ref a.z)) Q E s:=by
 obtain ⟨I,sm,fps,sz,zst,pt,j1,j2⟩:=id L;obtain ⟨us,ru,pu,_⟩:=I.list (sm.seq q1);obtain ⟨ws,rw',pw,_⟩:=I.list (sm.seq q2);have lx:=ru.length;have none1:us.toArray[i]?=none:=by simp;lia
 have fx:∀b∈[a.z,a.TO,a.i1,a.i2],j4 X pins H b:=λb hb=>fps b (by simp only[Dp.all,aI,ba,or_false] at hb ⊢;rcases hb with e | e | e | e <;> simp [e])
 have fin:∀h',(∀c o,c∉[a.z,a.TO,a.i1,a.i2]->s.heap.get? c=some o->h'.get? c=some o)->Q none { s with heap:=h' }:=λh' up=>hQ _ (I.moved (g':=s.gens) (d':=s.drawn) (t':=s.toks) fx up I.bare) up
 obtain ⟨⟨c,d,z0⟩,z4⟩:=zst;rcases z4 with z1 | ⟨T,b1,o,z1,z2,z3⟩
 ·have D:=BY z1 pt z0 j1 j2 pu.isList pw.isList O.tt O.ii;refine wpAny_pyNext_zip_end hh D z1 pt z0 j1 j2 pu.isList pw.isList (.inl none1) λh' hk=>fin h' λc o hc e=>?_
  simp only[aI,ba,or_false,not_or] at hc;exact hk c o hc.1 hc.2.1 hc.2.2.1 hc.2.2.2 e
 ·have D:=BY z1 pt z0 j1 j2 pu.isList pw.isList O.tt O.ii;refine JD hh D z1 z2 pt j1 pu.isList none1 λh' hk=>fin h' λc o hc e=>?_
  simp only[aI,ba,or_false,not_or] at hc;exact hk c o hc.1 hc.2.2.1 hc.2.2.2 e
theorem Ki (hh:A'.handled=none) (O:a.Ok) (hz:xs.length<=sizeLine) (hl:ys.length=xs.length) (q1:bO X.K H1 l1 xs) (q2:bO X.K H1 l2 ys)
  (fin:∀s' H' ts acc c,Inv X pins σ H' s'->aK H1 H'->j4 X pins H' a.S->s'.heap.get? a.S=some (lobj acc c)->cY ts acc->Paired (OR H') (xs.zip ys) ts->R (.ok (.ret .none)) s') :
  ∀(k i:Nat) (s:Shared) (H:Hp) (ts:List V) (acc:List Value) (c:Nat),xs.length - i=k->i<=xs.length->Oe X pins σ H1 a l1 l2 i H s->s.heap.get? a.S=some (lobj acc c)->cY ts acc->Paired (OR H) ((xs.zip ys).take i) ts →
   codeAny (model X.prog X.w) A' (.builtin "list.extend.loop" ⟨[.ref a.S,.ref a.z,.none],[]⟩) R s:=by
 have Sn:a.S∉[a.z,a.TO,a.i1,a.i2]:=λh=>by
  simp only[aI,ba,or_false] at h;rcases h with e | e | e | e
  ·exact O.Sz e
  ·exact O.STO e
  ·exact O.Si1 e
  ·exact O.Si2 e
 intro k
 induction k with
 | zero =>
  intro i s H ts acc c hk hi L gS rv prs;have e:i=xs.length:=by lia
  refine codeAny_builtin QC ?_;rw[Around.under_plainId kx _]
  change wpAny _ A'.in1 (pyNext (Value.ref a.z) >>= _) _ _ s
  refine wpAny_bind (Kf hh O q1 q2 (by lia) L λs' I' up=>wpAny_pure (fin s' H ts acc c I' L.same (L.fps _ (by simp [Dp.all])) (up _ _ Sn gS) rv ?_));rwa [aE (by rw[pG];lia)] at prs
 | succ k ih =>
  intro i s H ts acc c hk hi L gS rv prs;have hlt:i < xs.length:=by lia
  have lt:=prs.length;have la:=rv.length;refine codeAny_builtin QC ?_;rw[Around.under_plainId kx _]
  change wpAny _ A'.in1 (pyNext (Value.ref a.z) >>= _) _ _ s
  refine wpAny_bind (Kg O q1 q2 (x:=xs[i]) (y:=ys[i]'(by lia)) (by simp [hlt]) (by simp) L λs' L' up hT=>?_);have gS':=up _ _ Sn gS
  change wpAny _ A'.in1 (updateSeq a.S (·.push (Value.ref s.heap.objs.size)) >>= _) _ _ s'
  have small:acc.length<=sizeLine:=by
   rw[cv,pG] at lt
   lia
  refine wpAny_bind (wpAny_updateSeq gS' rfl (wpAny_pure ⟨plainId_quiet kx _,?_⟩) (by rw[aT];exact small) (by
   show (acc.toArray.push (Value.ref s.heap.objs.size)).size<=sizeLine+1
   rw[Array.size_push,aT]
   lia))
  have gS2:=ke gS' (λb=>b.push (Value.ref s.heap.objs.size));have e2:(acc.toArray.push (Value.ref s.heap.objs.size))=(acc++[Value.ref s.heap.objs.size]).toArray:=by simp
  rw[e2] at gS2;refine ih (i+1) _ (upd H s.heap.objs.size (.tup [xs[i],ys[i]'(by lia)])) (ts++[.ref s.heap.objs.size]) (acc++[.ref s.heap.objs.size]) _ (by lia) hlt (L'.push O (λb o hb e=>(Heap.get?_update_other _ _ (Ne.symm hb)).trans e) (Heap.size_update ..)) gS2 (rv.append (show cY [V.ref s.heap.objs.size] [Value.ref s.heap.objs.size] from .cons rfl .nil)) ?_;have zp:(xs.zip ys)[i]?=some (xs[i],ys[i]'(by lia)):=by simp [QD,hlt]
  rw[take_snoc zp];exact (Paired.imp' (λ_ _ z=>z.same (aK.new hT)) prs).snoc ⟨_,rfl,aM⟩
theorem Fs:typeLookup (.type "zip") "__len__"=pure Option.none:=by rw[typeLookup_type,builtinLookup_eq_fast];kernel_rfl
theorem DE:typeLookup (.type "zip") "__length_hint__"=pure Option.none:=by rw[typeLookup_type,builtinLookup_eq_fast];kernel_rfl
theorem Kh (hh:A'.handled=none) (O:a.Ok) (hz:xs.length<=sizeLine) (hl:ys.length=xs.length) (q1:bO X.K H1 l1 xs) (q2:bO X.K H1 l2 ys) (L:Oe X pins σ H1 a l1 l2 0 H s) (gS:s.heap.get? a.S=some (lobj [] 0)) (z0:IsZip s.heap a.z a.TI a.TO .none)
  (fin:∀s' H' ts acc c,Inv X pins σ H' s'->aK H1 H'->j4 X pins H' a.S->s'.heap.get? a.S=some (lobj acc c)->cY ts acc->Paired (OR H') (xs.zip ys) ts->R (.ok (.ret .none)) s') :
  wpAny (model X.prog X.w) A'.in1 (Builtin.«list.__init__» ⟨[.ref a.S,.ref a.z],[]⟩) (λfl s'=>match fl with | .done f=>R (.ok f) s' | .again c'=>c'.quiet=true/\codeAny (model X.prog X.w) A' c' R s') (λe s'=>R (.error e) s') s:=by
 change wpAny _ A'.in1 (do let old <- Builtin.List.listItems (Value.ref a.S);Builtin.List.listUpdate (Value.ref a.S) (λ_=>#[]);letGo old.toList.reverse;Builtin.List.listExtendWith (Value.ref a.S) (Value.ref a.z) Value.none) _ _ s
 refine wpAny_bind ?_;unfold Builtin.List.listItems;refine wpAny_bind (wpAny_seqItems gS rfl (wpAny_pure ?_))
 change wpAny _ A'.in1 (updateSeq a.S (λ_=>#[]) >>= λ_=>letGo (#[]:Array Value).toList.reverse >>= λ_=>Builtin.List.listExtendWith (Value.ref a.S) (Value.ref a.z) Value.none) _ _ s
 refine wpAny_bind (wpAny_updateSeq gS rfl ?_);have g1:=ke gS (λ_=>(#[]:Array Value));obtain ⟨n1,g1⟩:∃n1,(s.heap.update a.S (Obj.mapSeq λ_=>(#[]:Array Value))).get? a.S=some (lobj [] n1):=⟨_,g1⟩;have L1:=L.push (h':=s.heap.update a.S (Obj.mapSeq λ_=>(#[]:Array Value))) O (λb o hb e=>(Heap.get?_update_other _ _ (Ne.symm hb)).trans e) (Heap.size_update ..);have z1:IsZip (s.heap.update a.S (Obj.mapSeq λ_=>(#[]:Array Value))) a.z a.TI a.TO .none:=(Heap.get?_update_other _ _ O.Sz).trans z0;refine wpAny_bind (wpAny_letGo ?_);unfold Builtin.List.listExtendWith;have ty:Shared.TypeIs { s with heap:=s.heap.update a.S (Obj.mapSeq λ_=>(#[]:Array Value)) } (.ref a.z) "zip":=⟨_,z1,rfl⟩;refine wpAny_bind (wpAny_typeOf ty ?_);have h1:Builtin.List.listSameRef (.ref a.S) (.ref a.z)=false:=by simp [Builtin.List.listSameRef,O.Sz]
 have h2:(Value.type "zip" == Value.type "list")=false:=by decide
 have h3:(Value.type "zip" == Value.type "tuple")=false:=by decide
 simp only[h1,h2,h3,Bool.or_false,jb,if_false];refine wpAny_bind (wpAny_pyIter_zip z1 (wpAny_bind (wpAny_holding ?_)));unfold Builtin.List.listLengthHint;refine wpAny_bind (wpAny_specialOf ty Fs ?_)
 change wpAny _ A'.in1 (specialOf (Value.ref a.z) (Str.ofString "__length_hint__") >>= _) _ _ _
 refine wpAny_bind (wpAny_specialOf ty DE (wpAny_pure ?_))
 change wpAny _ A'.in1 (rule "list.extend.makes-room" >>= λ_=>Builtin.List.listTouch (Value.ref a.S) >>= λ_=>again (.builtin "list.extend.loop" ⟨[Value.ref a.S,Value.ref a.z,Value.none],[]⟩)) _ _ _
 refine wpAny_bind (wpAny_rule (wpAny_bind ?_))
 change wpAny _ A'.in1 (updateSeq a.S (·.push Value.none) >>= λ_=>updateSeq a.S (·.pop)) _ _ _
 refine wpAny_bind (wpAny_updateSeq g1 rfl ?_);have g2:=ke g1 (λb=>b.push Value.none);obtain ⟨n2,g2⟩:∃n2,((s.heap.update a.S (Obj.mapSeq λ_=>(#[]:Array Value))).update a.S (Obj.mapSeq λb=>b.push Value.none)).get? a.S=some (lobj [Value.none] n2):=⟨_,g2⟩;have L2:=L1.push (h':=(s.heap.update a.S (Obj.mapSeq λ_=>(#[]:Array Value))).update a.S (Obj.mapSeq λb=>b.push Value.none)) O (λb o hb e=>(Heap.get?_update_other _ _ (Ne.symm hb)).trans e) (Heap.size_update ..);refine wpAny_updateSeq g2 rfl ?_ (jo rfl);have g3:=ke g2 (λb=>b.pop);have L3:=L2.push (h':=((s.heap.update a.S (Obj.mapSeq λ_=>(#[]:Array Value))).update a.S (Obj.mapSeq λb=>b.push Value.none)).update a.S (Obj.mapSeq λb=>b.pop)) O (λb o hb e=>(Heap.get?_update_other _ _ (Ne.symm hb)).trans e) (Heap.size_update ..);exact wpAny_pure ⟨plainId_quiet kx _,Ki hh O hz hl q1 q2 fin _ 0 _ H [] [] _ rfl (br _) L3 g3 .nil .nil⟩
end
section
variable {X:Cx}
theorem OW (n:Nat):Dp.Ok ⟨n+4,n+2,n+3,n,n+1,n+5,n+5+1⟩:=by
 have ne:∀p q:Nat,p≠q->@Ne Addr p q:=λ_ _ h=>h
 refine ⟨ne (n+2) (n+3) (by lia),ne n (n+1) (by lia),ne (n+5) (n+4) (by lia),ne (n+5) (n+2) (by lia),ne (n+5) (n+3) (by lia),ne (n+5) n (by lia),ne (n+5) (n+1) (by lia),λb hb=>?_⟩;have hb':b∈[n+4,n+2,n+3,n,n+1,n+5]:=hb;show @LT.lt Nat instLTNat b (n+5+1)
 simp only[aI,ba,or_false] at hb';rcases hb' with e | e | e | e | e | e <;> (rw[e];exact bp (iK _) (by lia))
def DH (K:FG9) (ta:TA):TE:=λσ H Q=>ta σ H λvs H1=>∃(l1 l2:Addr) (xs ys:List V),vs=[.ref l1,.ref l2]/\bO K H1 l1 xs/\bO K H1 l2 ys/\ys.length=xs.length /\
 ∀L ts H',aK H1 H'->H1 L=none->H' L=some (.lst ts)->Paired (OR H') (xs.zip ys) ts->Q (.ref L) H'
theorem y7 {e1 e2:Expr} {ta:TA} {p p2 pos pos2:Pos} (hg:Gl X "list") (hm:X.mg "list"=none) (hg2:Gl X "zip") (hm2:X.mg "zip"=none) (ha:PA X [e1,e2] ta) (hc:X.calm=true:=by rfl)
  (hs:starEach [e1,e2] X.env=[(false,eval e1 X.env),(false,eval e2 X.env)]:=by rfl) (hs2:starEach [e2] X.env=[(false,eval e2 X.env)]:=by rfl)
  (hs3:starEach [Expr.Call (.Name "zip" p2) [e1,e2] [] pos2] X.env=[(false,eval (.Call (.Name "zip" p2) [e1,e2] [] pos2) X.env)]:=by rfl) :
  PE X (.Call (.Name "list" p) [.Call (.Name "zip" p2) [e1,e2] [] pos2] [] pos) (DH X.K ta):=by
 intro pins s σ H Q I h;refine wpAny_Call_Name_kw (jE I hg hm boot_list ?_);refine PyProof.Rows.callWith_type1 ?_ (by rw[hs3];rfl) rfl;rw[hs3];show wpAny _ _ (spliced ((false,eval (.Call (.Name "zip" p2) [e1,e2] [] pos2) X.env) :: [])) _ _ s
 refine Calls.spliced_cons ?_;refine Call_ (jE I hg2 hm2 boot_zip (PyProof.Rows.callWith_type1 (gK (ha pos2 pins s σ H _ I h) λus s1 ⟨vs,H1,I1,r1,q1⟩=>?_) (by rw[hs,hs2]) (by rw[hs2];rfl)));obtain ⟨l1,l2,xs,ys,e,qx,qy,hl,q⟩:=q1;subst e;obtain ⟨u,v,rfl,ru,rv⟩:=vals2 r1;cases ru;cases rv;obtain ⟨us,rx,px,hz⟩:=I1.list qx;obtain ⟨ws,ry,py,_⟩:=I1.list qy;refine call_zip_2 px.isList py.isList λh' a1 a2 a3 a4 a5 a6 hk=>?_
 refine Calls.spliced_nil ?_;have I2:Inv X pins σ H1 { s1 with heap:=h' }:=I1.kept (t':=s1.toks) hk;have up:∀b o,h'.get? b=some o->(h'.push { cls:=.type "list",data:=.seq #[] }).get? b=some o:=λb o e=>Heap.get?_push_of_some _ e
 have O:Dp.Ok ⟨s1.heap.objs.size+4,s1.heap.objs.size+2,s1.heap.objs.size+3,s1.heap.objs.size,s1.heap.objs.size+1,h'.objs.size,h'.objs.size+1⟩:=by
  rw[a6];exact OW s1.heap.objs.size
 have old:∀b∈(Dp.mk (s1.heap.objs.size+4) (s1.heap.objs.size+2) (s1.heap.objs.size+3) s1.heap.objs.size (s1.heap.objs.size+1) h'.objs.size (h'.objs.size+1)).all,s1.heap.objs.size<=b:=λb hb=>by
  rw[a6] at hb;simp only[Dp.all,aI,ba,or_false] at hb;rcases hb with rfl | rfl | rfl | rfl | rfl | rfl <;> first | exact xT _ _ | exact ao _
 have gS:(h'.push { cls:=.type "list",data:=.seq #[] }).get? h'.objs.size=some (lobj [] 0):=Heap.get?_push_size _ rfl;refine callType_codes (Q₁:=λob t=>ob=.ref h'.objs.size/\t={ s1 with heap:=h'.push { cls:=.type "list",data:=.seq #[] } }) PySem.F.called_list (PySem.F.typeCall_list_1 _) PySem.F.entry_list_init (code_list_new _ ⟨rfl,rfl⟩) λob t ht=>?_
 obtain ⟨rfl,rfl⟩:=ht;refine ⟨⟨_,gS,rfl⟩,PySem.F.args_list_init_2 _ _,?_⟩
 have L:Oe X pins σ H1 ⟨s1.heap.objs.size+4,s1.heap.objs.size+2,s1.heap.objs.size+3,s1.heap.objs.size,s1.heap.objs.size+1,h'.objs.size,h'.objs.size+1⟩ l1 l2 0 H1 { s1 with heap:=h'.push { cls:=.type "list",data:=.seq #[] } } :=
  ⟨I2.kept (t':=s1.toks) up,aK.refl _,λb hb=>I1.fpOk (old b hb) (I1.hok.fresh (old b hb)),by rw[Heap.size_push];exact ao _,⟨⟨_,_,up _ _ a3⟩,.inl (up _ _ a1)⟩,up _ _ a2,a4.at λo e=>up _ o e,a5.at λo e=>up _ o e⟩
 refine Kh (A':=X.A.in1) (I.ok.hd hc) O hz hl qx qy L gS (up _ _ a1) λs' H' ts acc c I' sm fS gS' vs' prs=>⟨rfl,?_⟩
 have nS:H1 h'.objs.size=none:=I1.hok.fresh (old _ (by simp [Dp.all]));have lt:=prs.length;rw[pG] at lt;exact ⟨.ref h'.objs.size,_,I'.track (o:=.lst ts) fS ⟨by lia,acc,c,vs',gS'⟩,rfl,q _ ts _ (sm.trans (aK.new fS.1)) nS aM (Paired.imp' (λ_ _ z=>z.same (aK.new fS.1)) prs)⟩
end
end L2
namespace Nm
def vW:List Int->Int->Int
 | [],m=>m
 | b :: r,m=>vW r (m*(b / g m b))
theorem uy (hm:0 < m) (hb:0 < b):0 < m*(b / g m b):=hJ hm (F8 (t:=m) hb)
theorem C0:b∣m*(b / g m b):=by
 have h1:=zI m b;refine ⟨lo m b,?_⟩;have h2:b / g m b*g m b=b:=vY m b
 calc m*(b / g m b)=lo m b*g m b*(b / g m b):=by rw[h1]
  _=lo m b*(b / g m b*g m b):=by rw[kM,kg (g m b)]
  _=b*lo m b:=by rw[h2,kg]
theorem zK:∀{bs:List Int} {m:Int},0 < m->(∀b∈bs,0 < b)->0 < vW bs m
 | [],_,hm,_=>hm
 | b :: r,m,hm,h=>zK (bs:=r) (uy hm (h b dn)) λc hc=>h c (bW _ hc)
theorem Ey:∀{bs:List Int} {m:Int},m∣vW bs m
 | [],_=>IX _
 | b :: r,m=>Int.dvd_trans (Int.dvd_mul_right m _) (Ey (bs:=r))
theorem Ex:∀{bs:List Int} {m b:Int},b∈bs->b∣vW bs m
 | c :: r,m,b,h=>by
  rcases aI.mp h with rfl | h
  ·exact Int.dvd_trans C0 (Ey (bs:=r))
  ·exact Ex (bs:=r) h
end Nm
namespace L2
open PySem PySem.Spec PyProof.Rows Nm
def Gx (K:FG9) (H:Hp) (p:Addr) (ns:List (Int×Int)):Prop:=∃xs,H p=some (.lst xs)/\Paired (λn x=>GH K H x n) ns xs
theorem Gx.same {K:FG9} (h:Gx K H p ns) (e:aK H H'):Gx K H' p ns:=by obtain ⟨xs,g,q⟩:=h;exact ⟨xs,e _ _ g,Paired.imp' (λ_ _ z=>e.num z) q⟩
def Eg (K:FG9) (T:String):V->Hp->VK->Prop:=λx H Q=>Jp K T x H Q\/∃a xs b,x=.ref a/\sI K H a xs/\PySem.W.kitOne K (.type "tuple") (.type T)=some b/\Q (.bl b) H
theorem Bo:∀{bs:List Int} {m b:Int},vW (bs++[b]) m=vW bs m*(b / g (vW bs m) b)
 | [],_,_=>rfl
 | c :: r,m,b=>Bo (bs:=r)
def dC (ns:List (Int×Int)) (B:Int):List Int:=ns.map λn=>n.1*(B / n.2)
def eI (ns:List (Int×Int)):Int:=vW (ns.map (·.2)) 1
def Gk (ns ms:List (Int×Int)):Int:=(List.zipWith (λx y=>x*y) (dC ns (eI ns)) (dC ms (eI ms))).sum
theorem qI (h:n∈ns):n.2∣eI ns:=Ex (aB.mpr ⟨n,h,rfl⟩)
theorem FJ {K:FG9} (h:ta σ H λvs H1=>∃(l1 l2:Addr) (xs ys:List V),vs=[.ref l1,.ref l2]/\bO K H1 l1 xs/\bO K H1 l2 ys/\ys.length=xs.length /\
 ∀L ts H',aK H1 H'->H1 L=none->H' L=some (.lst ts)->Paired (OR H') (xs.zip ys) ts->Q (.ref L) H'):DH K ta σ H Q:=h
theorem SH (hb:0 < b) (h:Sz k b):Sz k (g m b):=h.le (by
 have h1:(g m b).natAbs=Int.gcd m b:=by unfold g;simp
 rw[h1];exact kI (by lia) (by have:=fB (a:=m) (b:=b);exact gI.mpr this |> λz=>by simpa using z))
theorem GU {ts us:List Int} {i:Nat} (h:((ts.map V.int).zip (us.map V.int))[i]?=some pq):∃t u,ts[i]?=some t/\us[i]?=some u/\pq=(.int t,.int u):=by
 rw[QD,aH,aH] at h;obtain ⟨h1,h2⟩:=h;cases e1:ts[i]? with
 | none=>rw[e1] at h1;cases h1
 | some t =>
  cases e2:us[i]? with
  | none=>rw[e2] at h2;cases h2
  | some u =>
   rw[e1] at h1;rw[e2] at h2;refine ⟨t,u,rfl,rfl,?_⟩;cases pq;simp at h1 h2;rw[h1,h2]
inductive Be (K:FG9) (vs:List V) (H:Hp) (Q:VK) (E9:XK):Prop
 | mk (p:Addr) (ns:List (Int×Int)):vs=[.ref p,.int ns.length]->Gx K H p ns->ns.length<=1000->(∀n∈ns,E8 n)->(∀H',aK H H'->Q (.bl true) H')->Be K vs H Q E9
theorem NF {X:Cx} {a:Expr} {ta:TE} {pos:Pos} {c:Str} {T:String} {p p2:Pos} (hg:Gl X "isinstance") (hm:X.mg "isinstance"=none) (hb:bootBuiltins c=some (.type T)) (hmc:X.mg c=none) (ha:PE X a ta) (hgc:Gl X c:=by rfl) (hn:c≠"__name__":=by decide)
  (hd:(c == ("__debug__":Str))=false:=by decide) (he:starEach [a,.Name c p2] X.env=[(false,eval a X.env),(false,eval (.Name c p2) X.env)]:=by rfl)
  (hpl:(backTo pos (starEach [.Name c p2] X.env)).any (·.1)=false:=by rfl) (he2:starEach [.Name c p2] X.env=[(false,eval (.Name c p2) X.env)]:=by rfl):PE X (.Call (.Name "isinstance" p) [a,.Name c p2] [] pos) (Sf (Eg X.K T) ta):=by
 intro pins s σ H Q I h;refine wpAny_Call_Name_kw (jE I hg hm PyProof.Rows.boot_isinstance ?_);have hA:PA X [a,.Name c p2] (pL ta (pL (tC (.ty T)) Jc)):=ae ha (ae (HX hgc hmc hb rfl hn hd) aj he2) (by rw[he,he2])
 have hq:pL ta (pL (tC (.ty T)) Jc) σ H (λvs H1=>∃x,vs=[x,.ty T]/\Eg X.K T x H1 Q):=by
  show ta σ H λx H1=>∃x',[x,V.ty T]=[x',V.ty T]/\Eg X.K T x' H1 Q
  have e:(λx H1=>∃x',[x,V.ty T]=[x',V.ty T]/\Eg X.K T x' H1 Q)=λx H1=>Eg X.K T x H1 Q:=by
   funext x H1;apply propext;constructor
   ·rintro ⟨x',e,q⟩;cases e;exact q
   ·intro q;exact ⟨x,rfl,q⟩
  rw[e];exact h
 refine PyProof.Rows.callWith_builtin1 (gK (hA pos pins s σ H _ I hq) λus s1 ⟨vs,H1,I1,r1,x,e,q1⟩=>?_) (by rw[he,he2]) hpl;subst e;obtain ⟨u,w',rfl,ru,rt⟩:=vals2 r1;cases rt;rcases q1 with ⟨t,bb,ty,ek,q⟩ | ⟨ad,xs,bb,rfl,hs,ek,q⟩
 ·exact Bp I1 ru ty ek λtk=>⟨.bl bb,H1,I1.tok tk,rfl,q⟩
 ·cases ru;obtain ⟨its,_,⟨o,g1,g2,_⟩,_⟩:=I1.tuple hs;exact dw PySem.W.kitx_tuple I1.kIn ⟨o,g1,g2⟩ ek (λz=>nomatch z) λtk=>⟨.bl bb,H1,I1.tok tk,rfl,q⟩
theorem KS (h:H l=some (.lst [x])) (hk:k<=1000) (q:∀p H',aK H H'->H p=none->H' p=some (.lst (List.replicate k x))->Q (.ref p) H'):Ro (.ref l) (.int k) H Q :=
 ⟨l,k,[x],rfl,rfl,h,by lia,by lia,bc (bK (by simp;lia)),λp hp=>q p _ (aK.new hp) hp (by rw[aM];simp)⟩
theorem Qp {k:Nat} (h:k<=xs.length):rj xs none (some (k:Int))=xs.take k:=by
 unfold rj;rw[HT.D8,HT.ye,pE h];simp
theorem tm {α β:Type} {F:α->β->Prop} {x:α} {y:β} (h:F x y):∀m:Nat,Paired F (List.replicate m x) (List.replicate m y)
 | 0=>.nil
 | m+1=>.cons h (tm h m)
theorem fO (h:a < n):J8 n (a:Int)=some a:=by
 unfold J8;rw[if_pos (by lia),if_pos (by lia),Int.toNat_natCast]
theorem L9 {k:Nat}:rj xs none (some (k:Int))=xs.take k:=by
 by_cases h:k<=xs.length
 ·exact Qp h
 ·unfold rj;rw[HT.D8,HT.ye,Nat.min_eq_right (by lia),aE (by simp),aE (by lia)];rfl
theorem qj {α β:Type} {F:α->β->Prop}:∀{l1:List α} {l2:List β} (_:Paired F l1 l2) (k:Nat),Paired F (l1.take k) (l2.take k)
 | _,_,.nil,k=>by simp;exact .nil
 | _,_,.cons h r,0=>.nil
 | _,_,.cons h r,k+1=>.cons h (qj r k)
def Nv (K:FG9):List V->Hp->VK->Prop:=λxs H Q=>∃p ys,xs=[.ref p]/\(bO K H p ys\/sI K H p ys)/\∀l,H l=none->Q (.ref l) (upd H l (.lst ys))
theorem nA (K:FG9) (hK:X.K=K):pe X (.type "list") (Nv K):=by subst hK;exact oU
theorem aK.none (s:aK H H') (h:H' l=Option.none):H l=Option.none:=by
 cases e:H l with
 | none=>rfl
 | some o=>have:=s _ _ e;rw[h] at this;cases this
theorem Fw (h:b.natAbs<=1000000):Sz 20 b:=bg h (by decide)
theorem cZ.none (u:cZ b H H') (B:hZ H' b) (h:H' l=Option.none):H l=Option.none:=by
 cases e:H l with
 | none=>rfl
 | some o =>
  by_cases z:l=b
  ·obtain ⟨_,_,_,_,_,e2,_⟩:=B;rw[<- z,h] at e2;cases e2
  ·have:=u.1 l o e z;rw[h] at this;cases this
end L2
namespace Nm
def nm (q:Rat):Int×Int:=(q.num,(q.den:Int))
theorem gP (q:Rat):0 < (nm q).2:=by have:=q.den_pos;show 0 < (q.den:Int);lia
theorem zD (q:Rat):Int.gcd (nm q).1 (nm q).2=1:=q.reduced
theorem PV (h:nm p=nm q):p=q:=by
 have h1:p.num=q.num:=congrArg Prod.fst h;have h2:(p.den:Int)=q.den:=congrArg Prod.snd h;exact Rat.ext h1 (by lia)
theorem iY (q:Rat):(q.num:Rat)=q*(q.den:Rat):=by
 have h:=Rat.num_divInt_den q;rw[Rat.divInt_eq_div] at h
 have hd:((q.den:Int):Rat)≠0:=by
  intro z;have z:=xS.mp z;have:=q.den_pos
  lia
 have e:((q.den:Int):Rat)=(q.den:Rat):=aO _
 calc (q.num:Rat)=(q.num:Rat) / ((q.den:Int):Rat)*((q.den:Int):Rat):=(k6 hd).symm
  _=q*(q.den:Rat):=by rw[h,e]
theorem Lj (hb:0 < b) (hg:Int.gcd a b=1) (e:q*(b:Rat)=(a:Rat)):(a,b)=nm q:=by
 have h1:a*(q.den:Int)=q.num*b:=by
  apply du.mp;rw[aR,aR,<- e,iY,aO];grind
 obtain ⟨e1,e2⟩:=uniq hb (gP q) hg (zD q) h1;exact Prod.ext e1 e2
theorem mj {t b:Int} (hb:0 < b) (e:q*(b:Rat)=(t:Rat)):(lo t b,hi t b)=nm q:=by
 refine Lj (F8 hb) (Eu (by lia)) ?_;have h:=F7 t b;have hb':(b:Rat)≠0:=λz=>by have:=xS.mp z;lia
 have h2:((lo t b:Int):Rat)*(b:Rat)=(t:Rat)*((hi t b:Int):Rat):=by rw[<- aR,h,aR]
 rw[<- e] at h2;have h3:(q*((hi t b:Int):Rat) - ((lo t b:Int):Rat))*(b:Rat)=0:=by grind
 rcases gR.mp h3 with h4 | h4
 ·grind
 ·exact absurd h4 hb'
def Fr (M V:Nat) (q:Rat):Prop:=∃z:Int,q*(M:Rat)=(z:Rat)/\z.natAbs<=V*M
theorem Fr.mono (h:Fr M V q) (l:V<=V'):Fr M V' q:=by obtain ⟨z,e,b⟩:=h;exact ⟨z,e,ag b (ay _ l)⟩
theorem Fr.scale (h:Fr M V q) (k:Nat):Fr (M*k) V q:=by
 obtain ⟨z,e,b⟩:=h;refine ⟨z*k,?_,?_⟩
 ·rw[fD,aR,<- e,aO,Rat.mul_assoc]
 ·rw[cI,b6,<- cK];exact ay _ b
theorem Fr.scaleL (h:Fr M V q) (k:Nat):Fr (k*M) V q:=by rw[cw];exact h.scale k
theorem Fr.dvd (h:Fr M V q) (d:M∣N):Fr N V q:=by obtain ⟨k,rfl⟩:=d;exact h.scale k
theorem Fr.add (h:Fr M V p) (h':Fr M W q):Fr M (V+W) (p+q):=by
 obtain ⟨z,e,b⟩:=h;obtain ⟨z',e',b'⟩:=h';refine ⟨z+z',by rw[Av,<- e,<- e',Rat.add_mul],?_⟩;rw[Mt];have:=Int.natAbs_add_le z z'
 lia
theorem Fr.neg (h:Fr M V q):Fr M V (-q):=by
 obtain ⟨z,e,b⟩:=h;exact ⟨-z,by rw[dH,<- e,Rat.neg_mul],by rw[sO];exact b⟩
theorem Fr.sub (h:Fr M V p) (h':Fr M W q):Fr M (V+W) (p - q):=by rw[Rat.sub_eq_add_neg];exact h.add h'.neg
theorem Fr.mul (h:Fr M V p) (h':Fr N W q):Fr (M*N) (V*W) (p*q):=by
 obtain ⟨z,e,b⟩:=h;obtain ⟨z',e',b'⟩:=h';refine ⟨z*z',?_,?_⟩
 ·rw[fD,aR,<- e,<- e'];grind
 ·rw[cI]
  calc z.natAbs*z'.natAbs<=(V*M)*(W*N):=aw b b'
   _=V*W*(M*N):=by rw[cK,Nat.mul_left_comm M,<- cK]
theorem Fr.zero:Fr M V 0:=⟨0,by simp,by simp⟩
theorem Fr.int {i:Int} (h:i.natAbs<=V):Fr M V (i:Rat):=⟨i*M,by rw[aR,aO],by rw[cI,b6];exact ay _ h⟩
theorem Fr.one (h:1<=V):Fr M V 1:=Fr.int (i:=1) h
theorem Fr.den (h:Fr M V q):(q.den:Int)∣(M:Int):=by
 obtain ⟨z,e,b⟩:=h
 have h1:q.num*(M:Int)=z*(q.den:Int):=by
  apply du.mp;rw[aR,aR,<- e,iY,aO,aO];grind
 have h2:(q.den:Int)∣q.num*(M:Int):=⟨z,by rw[h1,kg]⟩;exact oR (by rw[i8];exact zD q) h2
theorem Fr.den_le (h:Fr M V q) (hM:0 < M):q.den<=M:=kI hM (xV.mp h.den)
theorem Fr.num_le (h:Fr M V q) (hM:0 < M):q.num.natAbs<=V*M:=by
 have hd:=h.den;obtain ⟨z,e,b⟩:=h;obtain ⟨k,hk⟩:=xV.mp hd;have hk0:k≠0:=λz=>by rw[z,IV] at hk;lia
 have h1:z=q.num*(k:Int):=by
  apply du.mp;rw[aR,<- e,iY,aO,hk,fD];grind
 rw[h1] at b;exact ag (mY (by lia)) b
theorem Fr.own (q:Rat) (h:q.num.natAbs<=V):Fr q.den V q:=⟨q.num,(iY q).symm,ag h (cn _ q.den_pos)⟩
theorem Fr.sz (h:Fr M V q) (hM:0 < M) (h1:M<=2^k) (h2:V<=2^j):Sz (j+k+1) (nm q).1/\Sz (k+1) (nm q).2:=by
 constructor
 ·show q.num.natAbs < 2^(j+k+1)
  have h3:=h.num_le hM;have h4:V*M<=2^j*2^k:=aw h2 h1;rw[ff,az];have:=Nat.two_pow_pos (j+k);rw[az] at this
  lia
 ·show (q.den:Int).natAbs < 2^(k+1)
  have h3:=h.den_le hM;rw[b6,ff];have:=Nat.two_pow_pos k
  lia
theorem Fr.sum {M V:Nat}:∀{l:List Rat},(∀x∈l,Fr M V x)->Fr M (l.length*V) l.sum
 | [],_=>by simp;exact Fr.zero
 | x :: r,h=>by
  rw[List.sum_cons,bB,c8,rh];exact (h x (.head _)).add (Fr.sum λy hy=>h y (.tail _ hy))
def cm (xs ys:List Rat):Rat:=(List.zipWith (λx y=>x*y) xs ys).sum
theorem Fr.dot (h:∀x∈xs,Fr M V x) (h':∀y∈ys,Fr N W y):Fr (M*N) (xs.length*(V*W)) (cm xs ys):=by
 have q:=Fr.sum (M:=M*N) (V:=V*W) (l:=List.zipWith (λx y=>x*y) xs ys) λz hz=>by
  obtain ⟨i,hi,e⟩:=aY hz;rw[bM] at e;rw[<- e];exact (h _ (aD _)).mul (h' _ (aD _))
 exact q.mono (ay _ (by rw[aQ];lia))
theorem yh:∀{bs:List Int} {m M:Int},0 < m->m∣M->(∀b∈bs,0 < b/\b∣M)->vW bs m∣M
 | [],_,_,_,h,_=>h
 | b :: r,m,M,hm,h,hb=>by
  have b1:=hb b dn;refine yh (bs:=r) (uy hm b1.1) ?_ λc hc=>hb c (bW _ hc)
  have gp:0 < g m b:=zP (by lia);have e1:=zI m b;have e2:=vY m b;obtain ⟨u,hu⟩:=h;obtain ⟨v,hv⟩:=b1.2
  have h3:lo m b*u=hi m b*v:=by
   apply OV (show g m b≠0 by lia)
   calc lo m b*u*g m b=lo m b*g m b*u:=by rw[kM,kg u,<- kM]
    _=m*u:=by rw[e1]
    _=M:=hu.symm
    _=b*v:=hv
    _=hi m b*g m b*v:=by rw[e2]
    _=hi m b*v*g m b:=by rw[kM,kg (g m b),<- kM]
  have h4:hi m b∣lo m b*u:=⟨v,h3⟩;have h5:hi m b∣u:=oR (by rw[i8];exact Eu (by lia)) h4;obtain ⟨w,hw⟩:=h5;refine ⟨w,?_⟩;show M=m*hi m b*w
  rw[hu,hw,kM]
theorem C6 (hb:0 < b) (d:a∣b) (h:Sz k b):Sz k a:=h.le (kI (by lia) (gI.mpr d))
end Nm
namespace Nm
def Dr (W:Nat) (x:Rat):Prop:=x.num.natAbs<=W/\x.den<=W
def ue:List Nat->Nat
 | []=>1
 | a :: r=>a*ue r
theorem vP:∀{l:List Nat},(∀a∈l,0 < a)->0 < ue l
 | [],_=>Nat.one_pos
 | a :: r,h=>aN (h a (.head _)) (vP λb hb=>h b (.tail _ hb))
theorem vQ:∀{l:List Nat} {a:Nat},a∈l->a∣ue l
 | b :: r,a,h=>by
  rcases aI.mp h with rfl | h
  ·exact jN ..
  ·exact kJ (vQ h) (dg ..)
theorem yX {k:Nat}:∀{l:List Nat},(∀a∈l,a<=2^k)->ue l<=2^(k*l.length)
 | [],_=>by simp [ue]
 | a :: r,h=>by
  rw[bB,Nat.mul_succ,az,cw (2^(k*r.length))];exact aw (h a (.head _)) (yX λb hb=>h b (.tail _ hb))
def GF (M V:Nat) (rows:LR9):Prop:=∀xs∈rows,∀x∈xs,Fr M V x
def Qy (c n i:Nat) (rows:LR9):Prop:=∃M,0 < M/\M<=2^(i*(c*n+2))/\GF M (2^(20+2*i)) rows
theorem Qg:Qy c n 0 []:=⟨1,by decide,by simp,λ_ h=>nomatch h⟩
theorem Qh (c n i:Nat):(i+1)*(c*n+2)=i*(c*n+2)+(c*n+2):=c8 ..
theorem NO (h:Qy c n i rows) (hl:xs.length=n) (hd:∀x∈xs,Dr (2^c) x) (hc:c<=20):Qy c n (i+1) (rows++[xs]):=by
 obtain ⟨M,h0,h1,h2⟩:=h
 have dp:0 < ue (xs.map (·.den)):=vP λa ha=>by
  obtain ⟨x,_,rfl⟩:=aB.mp ha;exact x.den_pos
 have dl:ue (xs.map (·.den))<=2^(c*n):=by
  have:=yX (k:=c) (l:=xs.map (·.den)) λa ha=>by
   obtain ⟨x,hx,rfl⟩:=aB.mp ha;exact (hd x hx).2
  rwa [ai,hl] at this
 refine ⟨M*ue (xs.map (·.den)),aN h0 dp,?_,λys hy x hx=>?_⟩
 ·rw[Qh,az];exact aw h1 (ag dl (ar (by decide) (by lia)))
 ·rcases aG.mp hy with hy | hy
  ·exact ((h2 ys hy x hx).scale _).mono (ar (by decide) (by lia))
  ·have e:ys=xs:=by simpa using hy
   subst e;have f:Fr x.den (2^c) x:=Fr.own x (hd x hx).1;have g:=(f.dvd (vQ (aB.mpr ⟨x,hx,rfl⟩))).scaleL M;exact g.mono (ar (by decide) (by lia))
def b8 (rows:LR9) (w:Nat):LR9:=(List.range w).map λj=>rows.map λxs=>xs.getD j 0
def vo (one other:LR9) (w:Nat):LR9:=one.map λxs=>(b8 other w).map λys=>cm ys xs
theorem cR:(b8 rows w).length=w:=by simp [b8]
theorem fQ:∀ys∈b8 rows w,ys.length=rows.length:=λys hy=>by
 obtain ⟨j,_,rfl⟩:=aB.mp hy;exact ai ..
theorem getD_map {α:Type} {l:List α} {f:α->Rat} (h:i < l.length):(l.map f).getD i 0=f l[i]:=by
 rw[aa,aH,af h];rfl
theorem IZ (h:∀xs∈rows,xs.length=w):b8 (b8 rows w) rows.length=rows:=by
 apply dB
 ·exact cR
 ·intro i h1 h2;have e:(b8 (b8 rows w) rows.length)[i]=(b8 rows w).map λxs=>xs.getD i 0:=by simp [b8]
  rw[e];have hw:=h rows[i] (aD h2);apply dB
  ·rw[ai,cR,hw]
  ·intro j h3 h4;rw[iL];have e2:(b8 rows w)[j]'(by rw[cR];lia)=rows.map λxs=>xs.getD j 0:=by simp [b8]
   rw[e2,getD_map h2,aa,af h4];rfl
end Nm
namespace L2
open PySem PySem.Spec PyProof.Rows Nm
theorem cZ.sqt {K:FG9} (u:cZ b H H') (B:hZ H b) (h:sI K H a xs):sI K H' a xs:=by
 rcases h with (h | ⟨o,h⟩) | h
 ·exact .inl (.inl (u.tup B h))
 ·exact .inl (.inr ⟨o,u.other (λz=>by obtain ⟨_,_,_,_,_,e,_⟩:=B;rw[z,e] at h;cases h) h⟩)
 ·exact .inr h
theorem Ku {K:FG9} (h:sI K H a xs) (hl:H l=some (.lst ys)):sI K (upd H l o) a xs:=by
 rcases h with (h | ⟨o,h⟩) | h
 ·exact .inl (.inl (by rw[bE λz=>by rw[z,hl] at h;cases h];exact h))
 ·exact .inl (.inr ⟨o,by rw[bE λz=>by rw[z,hl] at h;cases h];exact h⟩)
 ·exact .inr h
def bV (K:FG9) (H:Hp) (q:Rat) (x:V):Prop:=GH K H x (nm q)
section
variable {K:FG9} {H H':Hp} {q:Rat} {x:V} {b l p:Addr} {qs:List Rat}
theorem bV.same (h:bV K H q x) (e:aK H H'):bV K H' q x:=e.num h
theorem bV.upto (h:bV K H q x) (u:cZ b H H') (B:hZ H b):bV K H' q x:=by obtain ⟨p,e,s⟩:=h;exact ⟨p,e,u.sqt B s⟩
theorem bV.updL (h:bV K H q x) (hl:H l=some (.lst ys)):bV K (upd H l o) q x:=by obtain ⟨p,e,s⟩:=h;exact ⟨p,e,Ku s hl⟩
theorem bV.mk (h:H r=some (.tup [.int a,.int c])) (e:(a,c)=nm q):bV K H q (.ref r):=⟨r,rfl,by rw[<- e];exact sI.of h⟩
def cL (K:FG9) (H:Hp) (p:Addr) (qs:List Rat):Prop:=∃xs,H p=some (.lst xs)/\Paired (bV K H) qs xs
theorem cL.same (h:cL K H p qs) (e:aK H H'):cL K H' p qs:=by obtain ⟨xs,g,r⟩:=h;exact ⟨xs,e _ _ g,Paired.imp' (λ_ _ z=>z.same e) r⟩
theorem cL.upto (h:cL K H p qs) (u:cZ b H H') (B:hZ H b) (n:p≠b):cL K H' p qs:=by obtain ⟨xs,g,r⟩:=h;exact ⟨xs,u.other n g,Paired.imp' (λ_ _ z=>z.upto u B) r⟩
theorem cL.updL (h:cL K H p qs) (hl:H l=some (.lst ys)) (n:p≠l):cL K (upd H l o) p qs:=by obtain ⟨xs,g,r⟩:=h;exact ⟨xs,by rw[bE n];exact g,Paired.imp' (λ_ _ z=>z.updL hl) r⟩
theorem wW {α β γ:Type} {F:α->β->Prop} {f:γ->α}:∀{l:List γ} {l2:List β},Paired (λc x=>F (f c) x) l l2->Paired F (l.map f) l2
 | _,_,.nil=>.nil
 | _,_,.cons r t=>.cons r (wW t)
theorem cL.rowK (h:cL K H p qs):Gx K H p (qs.map nm):=by obtain ⟨xs,g,r⟩:=h;exact ⟨xs,g,wW (F:=λn x=>GH K H x n) r⟩
def dm (K:FG9) (H0 H:Hp) (qs:List Rat) (x:V):Prop:=∃q,x=V.ref q/\H0 q=none/\cL K H q qs
def bH (K:FG9) (H0 H:Hp) (p:Addr) (rows:LR9):Prop:=∃xs,H p=some (.lst xs)/\Paired (dm K H0 H) rows xs/\V.ref p∉xs
theorem jy {rows:LR9} (h:∃H2,H2 p=none/\Paired (dm K H0 H2) rows ys):V.ref p∉ys:=λhm=>by
 obtain ⟨H2,e,pr⟩:=h;obtain ⟨qs,_,q,z,_,xs,g,_⟩:=dh pr hm;cases z;rw[e] at g;cases g
variable {H0:Hp} {rows:LR9}
theorem dm.same (h:dm K H0 H qs x) (e:aK H H'):dm K H0 H' qs x:=by obtain ⟨q,a,b,c⟩:=h;exact ⟨q,a,b,c.same e⟩
theorem dm.upto (h:dm K H0 H qs x) (u:cZ b H H') (B:hZ H b) (nb:H0 b≠none):dm K H0 H' qs x:=by obtain ⟨q,a,c,d⟩:=h;exact ⟨q,a,c,d.upto u B λz=>nb (by rw[<- z];exact c)⟩
theorem dm.weak (h:dm K H0 H qs x) (e:aK H1 H0):dm K H1 H qs x:=by obtain ⟨q,a,b,c⟩:=h;exact ⟨q,a,e.none b,c⟩
theorem bH.same (h:bH K H0 H p rows) (e:aK H H'):bH K H0 H' p rows:=by obtain ⟨xs,g,r,n⟩:=h;exact ⟨xs,e _ _ g,Paired.imp' (λ_ _ z=>z.same e) r,n⟩
theorem bH.upto (h:bH K H0 H p rows) (u:cZ b H H') (B:hZ H b) (n:p≠b) (nb:H0 b≠none):bH K H0 H' p rows:=by obtain ⟨xs,g,r,nn⟩:=h;exact ⟨xs,u.other n g,Paired.imp' (λ_ _ z=>z.upto u B nb) r,nn⟩
theorem bH.weak (h:bH K H0 H p rows) (e:aK H1 H0):bH K H1 H p rows:=by obtain ⟨xs,g,r,n⟩:=h;exact ⟨xs,g,Paired.imp' (λ_ _ z=>z.weak e) r,n⟩
end
def Lx:Kind Rat:=SE.via nm (λ_ _ e=>PV e) (λK H x q=>bV K H q x) id
def Ij:Kind (List Rat):=RD Lx
def Ly:Kind (LR9):=RD Ij
theorem cL.kind {K:FG9} (h:cL K H p qs):Ij.R K H (.ref p) qs:=by obtain ⟨xs,g,q⟩:=h;exact ⟨p,xs,rfl,bO.of g,q⟩
theorem bH.kind {K:FG9} (h:bH K H0 H p rows):Ly.R K H (.ref p) rows:=by obtain ⟨xs,g,q,_⟩:=h;exact ⟨p,xs,rfl,bO.of g,Paired.imp' (λ_ _ ⟨q,a,_,c⟩=>by rw[a];exact c.kind) q⟩
def iZ (x:Rat):Prop:=Sz 200000 (nm x).1/\Sz 200000 (nm x).2
def Fits (l:List Rat):Prop:=∃M V:Nat,0 < M/\M<=2^900/\V<=2^900/\∀x∈l,Fr M V x
theorem Fits.szn (h:Fits l) (hx:x∈l):iZ x:=by
 obtain ⟨M,V,h0,h1,h2,h3⟩:=h;obtain ⟨a,b⟩:=(h3 x hx).sz h0 h1 h2;exact ⟨a.mono (by decide),b.mono (by decide)⟩
theorem Fits.ok (h:Fits l) (hx:x∈l):E8 (nm x):=⟨gP x,zD x,(h.szn hx).1.mono (by decide),(h.szn hx).2.mono (by decide)⟩
theorem Gg {M V:Nat} (h0:0 < M) (h1:M<=2^1800) (h2:V<=2^1810) (h:Fr M V x):iZ x:=by
 obtain ⟨a,b⟩:=h.sz h0 h1 h2;exact ⟨a.mono (by decide),b.mono (by decide)⟩
inductive nZ (K:FG9) (f:Rat->Rat->Rat) (vs:List V) (H:Hp) (Q:VK) (E9:XK):Prop
 | mk (u v:V) (x y:Rat):vs=[u,v]->bV K H x u->bV K H y v->iZ x->iZ y->(∀r H',aK H H'->bV K H' (f x y) (.ref r)->Q (.ref r) H')->nZ K f vs H Q E9
section
variable {K:FG9} {vs:List V} {H:Hp} {Q:VK} {E:XK}
theorem FQ (hf:∀x y:Rat,(f x y)*(((nm x).2*(nm y).2:Int):Rat)=((F (nm x).1 (nm x).2 (nm y).1 (nm y).2:Int):Rat)) (h:nZ K f vs H Q E):HN K F vs H Q E:=by
 obtain ⟨u,v,x,y,rfl,⟨p,rfl,hp⟩,⟨q,rfl,hq⟩,⟨s1,s2⟩,⟨s3,s4⟩,k⟩:=h;refine ⟨p,q,_,_,_,_,rfl,hp,hq,gP x,gP y,s1,s2,s3,s4,λr H' s g=>k r H' s (bV.mk g ?_)⟩;exact mj (hJ (gP x) (gP y)) (hf x y)
theorem tD (x:Rat):(((nm x).1:Int):Rat)=x*(((nm x).2:Int):Rat):=by
 show (x.num:Rat)=x*(((x.den:Nat):Int):Rat)
 rw[iY,aO]
theorem IJ (h:nZ K (λx y=>x+y) vs H Q E):HN K OL vs H Q E:=FQ (λx y=>by
 unfold OL;rw[Av,aR,aR,aR,tD,tD];grind) h
theorem yd (h:nZ K (λx y=>x - y) vs H Q E):HN K LP vs H Q E:=FQ (λx y=>by
 unfold LP;rw[Rat.intCast_sub,aR,aR,aR,tD,tD];grind) h
theorem Ia (h:nZ K (λx y=>x*y) vs H Q E):HN K LO vs H Q E:=FQ (λx y=>by
 unfold LO;rw[aR,aR,tD,tD];grind) h
end
def E7 (M:Int) (ns:List (Int×Int)):Prop:=0 < M/\Sz 220000 M/\∀n∈ns,0 < n.2/\n.2∣M/\Sz 220000 n.1
theorem E7.bot (h:E7 M ns):0 < eI ns/\Sz 220000 (eI ns):=by
 have hb:∀b∈ns.map (·.2),0 < b/\b∣M:=λb hb=>by
  obtain ⟨n,hn,rfl⟩:=aB.mp hb;exact ⟨(h.2.2 n hn).1,(h.2.2 n hn).2.1⟩
 exact ⟨zK (by decide) λb q=>(hb b q).1,C6 h.1 (yh (by decide) (Int.one_dvd _) hb) h.2.1⟩
inductive Ky (K:FG9) (vs:List V) (H:Hp) (Q:VK) (E9:XK):Prop
 | mk (p:Addr) (bs:List Int) (M:Int):vs=[.ref p]->bO K H p (bs.map V.int)->0 < M->Sz 220000 M->((∀b∈bs,0 < b/\b∣M))->Q (.int (vW bs 1)) H->Ky K vs H Q E9
inductive Kz (K:FG9) (vs:List V) (H:Hp) (Q:VK) (E9:XK):Prop
 | mk (p:Addr) (ns:List (Int×Int)) (M:Int):vs=[.ref p]->Gx K H p ns->ns.length<=1000->E7 M ns->(∀H',aK H H'->Q (.int (eI ns)) H')->Kz K vs H Q E9
inductive DM (K:FG9) (vs:List V) (H:Hp) (Q:VK) (E9:XK):Prop
 | mk (p:Addr) (ns:List (Int×Int)) (M:Int) (B:Int):vs=[.ref p,.int B]->Gx K H p ns->ns.length<=1000->E7 M ns->0 < B->Sz 220000 B->(∀r H',H r=none->aK H H'->H' r=some (.lst ((dC ns B).map V.int))->Q (.ref r) H')->DM K vs H Q E9
theorem tR (h:E7 M ns) (hB:0 < B) (sB:Sz 220000 B) (ht:t∈dC ns B):Sz 440000 t:=by
 obtain ⟨n,hn,rfl⟩:=aB.mp ht;have hp:=h.2.2 n hn
 have sq:Sz 220000 (B / n.2):=sB.le (by
  rw[QE (by lia)];exact Nat.div_le_self ..)
 exact (hp.2.2.mul sq).mono (by lia)
theorem pJ (h:(nm x).2∣B):(((nm x).1*(B / (nm x).2):Int):Rat)=x*(B:Rat):=by
 obtain ⟨k,rfl⟩:=h;have hp:=gP x;rw[Int.mul_ediv_cancel_left _ (by lia),aR,aR,tD];grind
theorem EC {B C:Int}:∀{xs ys:List Rat},(∀x∈xs,(nm x).2∣B)->(∀y∈ys,(nm y).2∣C)->(((List.zipWith (λx y=>x*y) (dC (xs.map nm) B) (dC (ys.map nm) C)).sum:Int):Rat)=cm xs ys*((B:Rat)*(C:Rat))
 | [],ys,_,_=>by simp [dC,cm]
 | x :: xs,[],_,_=>by simp [dC,cm]
 | x :: xs,y :: ys,h1,h2=>by
  have ih:=EC (B:=B) (C:=C) (xs:=xs) (ys:=ys) (λz hz=>h1 z (.tail _ hz)) (λz hz=>h2 z (.tail _ hz));have e1:=pJ (h1 x (.head _));have e2:=pJ (h2 y (.head _));have e3:(List.zipWith (λx y=>x*y) (dC ((x :: xs).map nm) B) (dC ((y :: ys).map nm) C)).sum=((nm x).1*(B / (nm x).2))*((nm y).1*(C / (nm y).2))+(List.zipWith (λx y=>x*y) (dC (xs.map nm) B) (dC (ys.map nm) C)).sum:=rfl;have e4:cm (x :: xs) (y :: ys)=x*y+cm xs ys:=rfl;rw[e3,e4,Av,aR,ih,e1,e2];grind
theorem Iw (h1:0 < eI (xs.map nm)) (h2:0 < eI (ys.map nm)):(lo (Gk (xs.map nm) (ys.map nm)) (eI (xs.map nm)*eI (ys.map nm)),hi (Gk (xs.map nm) (ys.map nm)) (eI (xs.map nm)*eI (ys.map nm)))=nm (cm xs ys):=by
 refine mj (hJ h1 h2) ?_;unfold Gk;rw[EC (λx hx=>qI (aB.mpr ⟨x,hx,rfl⟩)) (λx hx=>qI (aB.mpr ⟨x,hx,rfl⟩)),aR]
inductive DL (K:FG9) (vs:List V) (H:Hp) (Q:VK) (E9:XK):Prop
 | mk (p:Addr) (w:Nat) (H0:Hp) (rows:LR9):vs=[.ref p,.int w]->bH K H0 H p rows->rows.length<=1000->w<=1000->(∀xs∈rows,xs.length=w)->(∀r H',H r=none->aK H H'->bH K H H' r (b8 rows w)->Q (.ref r) H')->DL K vs H Q E9
inductive yB (K:FG9) (vs:List V) (H:Hp) (Q:VK) (E9:XK):Prop
 | mk (b:Addr) (w:Nat):vs=[.ref b,.int w]->hZ H b->1<=w->w<=1000000->(∀r x H',Dr (max w 6) x->bV K H' x (.ref r)->hZ H' b->cZ b H H'->Q (.ref r) H')->yB K vs H Q E9
inductive DW (K:FG9) (vs:List V) (H:Hp) (Q:VK) (E9:XK):Prop
 | mk (b:Addr) (m w:Nat):vs=[.ref b,.int m,.int w]->hZ H b->m<=1000->1<=w->w<=1000000->(∀r xs H',H r=none->cL K H' r xs->xs.length=m->(∀x∈xs,Dr (max w 6) x)->hZ H' b->cZ b H H'->Q (.ref r) H')->DW K vs H Q E9
inductive DP (K:FG9) (vs:List V) (H:Hp) (Q:VK) (E9:XK):Prop
 | mk (p q:Addr) (xs ys:List Rat):vs=[.ref p,.ref q]->cL K H p xs->cL K H q ys->ys.length=xs.length->xs.length<=1000->(∀x∈xs,iZ x)->(∀y∈ys,iZ y)->(∀r H',H r=none->aK H H'->cL K H' r (List.zipWith (λx y=>x+y) xs ys)->Q (.ref r) H')->DP K vs H Q E9
inductive KA (K:FG9) (vs:List V) (H:Hp) (Q:VK) (E9:XK):Prop
 | mk (u:V) (q:Addr) (c:Rat) (ys:List Rat):vs=[u,.ref q]->bV K H c u->iZ c->cL K H q ys->ys.length<=1000->(∀y∈ys,iZ y)->(∀r H',H r=none->aK H H'->cL K H' r (ys.map λy=>c*y)->Q (.ref r) H')->KA K vs H Q E9
inductive yF (K:FG9) (vs:List V) (H:Hp) (Q:VK) (E9:XK):Prop
 | mk (p:Addr) (H0:Hp) (rows:LR9):vs=[.ref p]->bH K H0 H p rows->rows.length<=1000->(∀xs∈rows,xs.length<=1000)->(∀r H',H r=none->aK H H'->bH K H H' r rows->Q (.ref r) H')->yF K vs H Q E9
section
variable {K:FG9} {a:Addr} {xs:List V} {g:TG} {tf:TT} {te:TE} {Q:VK} {σ₀:St} {H:Hp} {α β:Type}
theorem dN {F:Hp->α->V->Prop} (G:Hp->β->V->Prop) (f:α->β) (hx:H a=some (.lst xs)) (pf:Paired (F H) as xs) (hl:as.length<=1000)
  (hF:∀{H H' c x},F H c x->aK H H'->F H' c x) (hG:∀{H H' c x},G H c x->aK H H'->G H' c x)
  (hs:∀(i:Nat) c x H' NY NN,as[i]?=some c->aK H H'->F H' c x->(∀y H2,aK H' H2->G H2 (f c) y->NY y H2)->pK σ₀ g tf te x H' NY NN)
  (hd:∀ys H' p,H p=none->aK H H'->H' p=some (.lst ys)->Paired (G H') (as.map f) ys->(∃H2,H2 p=none/\Paired (G H2) (as.map f) ys)->Q (.ref p) H'):qQ (Of K a) σ₀ g tf te Q H:=by
 have lx:=pf.length;refine gO (K:=K) (xs:=xs) (λi ys H'=>aK H H'/\Paired (G H') ((as.take i).map f) ys) (bc (bK (by lia))) ⟨aK.refl _,.nil⟩ (λi ys H' _ ⟨s,_⟩=>bO.of (s _ _ hx)) ?_ ?_
 ·rintro i x ys H' hx' hlen ⟨s,pr⟩;obtain ⟨c,ec,hc⟩:=bX pf hx';refine hs i c x H' _ _ ec s (hF hc s) λy H2 s2 gy=>⟨s.trans s2,?_⟩
  rw[take_snoc ec,ck];exact bT (Paired.imp' (λ_ _ z=>hG z s2) pr) (.cons gy .nil)
 ·rintro ys H' hy ⟨s,pr⟩ p hp;rw[aE (by lia)] at pr;exact hd ys _ p (s.none hp) (s.trans (aK.new hp)) aM (Paired.imp' (λ_ _ z=>hG z (aK.new hp)) pr) ⟨H',hp,pr⟩
theorem fk (G:Hp->β->V->Prop) (f:Nat->β) (hl:n<=1000) (hG:∀{H H' c x},G H c x->aK H H'->G H' c x)
  (hs:∀(i:Nat) H' NY NN,i < n->aK H H'->(∀y H2,aK H' H2->G H2 (f i) y->NY y H2)->pK σ₀ g tf te (.int i) H' NY NN)
  (hd:∀ys H' p,H p=none->aK H H'->H' p=some (.lst ys)->Paired (G H') ((List.range n).map f) ys->(∃H2,H2 p=none/\Paired (G H2) ((List.range n).map f) ys)->Q (.ref p) H'):qQ (Fm 0 n) σ₀ g tf te Q H:=by
 refine tO (λi ys H'=>aK H H'/\Paired (G H') ((List.range i).map f) ys) (bc (bK (by lia))) ⟨aK.refl _,.nil⟩ ?_ ?_
 ·rintro i ys H' hi hlen ⟨s,pr⟩;rw[IW];refine hs i H' _ _ hi s λy H2 s2 gy=>⟨s.trans s2,?_⟩
  rw[MB,ck];exact bT (Paired.imp' (λ_ _ z=>hG z s2) pr) (.cons gy .nil)
 ·rintro ys H' hy ⟨s,pr⟩ p hp;exact hd ys _ p (s.none hp) (s.trans (aK.new hp)) aM (Paired.imp' (λ_ _ z=>hG z (aK.new hp)) pr) ⟨H',hp,pr⟩
theorem wo (G:Hp->β->V->Prop) (C:β->Prop) (hB:hZ H b) (hl:n<=1000) (hG:∀{H' H'' c x},G H' c x->cZ b H' H''->hZ H' b->G H'' c x)
  (hs:∀(i:Nat) H' NY NN,i < n->cZ b H H'->hZ H' b->(∀y c H2,cZ b H' H2->hZ H2 b->C c->G H2 c y->NY y H2)->pK σ₀ g tf te (.int i) H' NY NN)
  (hd:∀ys cs H' p,H p=none->cZ b H H'->hZ H' b->H' p=some (.lst ys)->cs.length=n->(∀c∈cs,C c)->Paired (G H') cs ys->(∃H2,H2 p=none/\Paired (G H2) cs ys)->Q (.ref p) H'):qQ (Fm 0 n) σ₀ g tf te Q H:=by
 refine tO (λi ys H'=>cZ b H H'/\hZ H' b/\∃cs,cs.length=i/\(∀c∈cs,C c)/\Paired (G H') cs ys) (bc (bK (by lia))) ⟨(aK.refl _).upto,hB,[],rfl,(λ_ z=>nomatch z),.nil⟩ ?_ ?_
 ·rintro i ys H' hi hlen ⟨u,B,cs,lc,hc,pr⟩;rw[IW];refine hs i H' _ _ hi u B λy c H2 u2 B2 cc gy=>⟨u.trans u2,B2,cs++[c],by simp [lc],yk hc cc,bT (Paired.imp' (λ_ _ z=>hG z u2 B) pr) (.cons gy .nil)⟩
 ·rintro ys H' hy ⟨u,B,cs,lc,hc,pr⟩ p hp;have s:aK H' (upd H' p (.lst ys)):=aK.new hp;exact hd ys cs _ p (u.none B hp) (u.same s) (B.same s) aM lc hc (Paired.imp' (λ_ _ z=>hG z s.upto B) pr) ⟨H',hp,pr⟩
end
section
variable {X:Cx}
theorem eX {g:TG} {tb:TS} {D:Ends} (Pv:Nat->St->Hp->Prop) (h0:Pv 0 σ H)
  (hs:∀(i:Nat) σ H,i < n->Pv i σ H->g (.int i) σ H λσ2 H2=>tb { D with nx:=Pv (i+1),ct:=Pv (i+1),bk:=D.nx } σ2 H2) (hd:∀σ H,Pv n σ H->D.nx σ H) :
  ∃W:Nat->Nat->St->Hp->Prop,(∃m,W 0 m σ H)/\∀i m σ H,W i m σ H →
   ((Fm 0 n).stop i H/\D.nx σ H)\/((Fm 0 n).go i H/\∃N:St->Hp->Prop,(∀σ' H',N σ' H'->∃m',m' < m/\W (i+1) m' σ' H')/\∀x H',(Fm 0 n).yld i H x H'->g x σ H' λσ2 H2=>tb { D with nx:=N,ct:=N,bk:=D.nx } σ2 H2) :=
 Br (lo:=0) Pv h0 (λi σ H hi p=>by rw[IW];exact hs i σ H hi p) hd
theorem nP:pe X (.type "int") (λxs H Q=>∃b:Bool,xs=[.bl b]/\Q (.int (if b=true then 1 else 0)) H):=by
 intro pins s σ H xs us Q I r h;obtain ⟨b,rfl,q⟩:=h;obtain ⟨u,rfl,ru⟩:=vals1 r;cases ru;exact call_int_bool ⟨.int _,H,I.tok _,⟨_,rfl⟩,q⟩
theorem AJ (K:FG9) (hK:X.K=K):pe X (.builtin "len") (λxs H Q=>∃p ys,xs=[.ref p]/\(bO K H p ys\/sI K H p ys)/\Q (.int ys.length) H):=by subst hK;exact bu
theorem HU {st:Stmt}:PS X st (λ_ _ _=>False):=λ_ _ _ _ _ _ h=>h.elim
end
theorem F6 {t b:Int} (hb:0 < b) (h1:t.natAbs<=W) (h2:b.natAbs<=W):∃q:Rat,(lo t b,hi t b)=nm q/\Dr W q/\q*(b:Rat)=(t:Rat):=by
 have hb':(b:Rat)≠0:=λz=>by have:=xS.mp z;lia
 have e:(t:Rat) / (b:Rat)*(b:Rat)=t:=k6 hb';have h:=mj hb e;refine ⟨_,h,⟨?_,?_⟩,e⟩
 ·have:=congrArg Prod.fst h;have z:=lo_le (t:=t) (b:=b) (by lia);show ((nm ((t:Rat) / (b:Rat))).1).natAbs<=W
  rw[<- this];exact ag z h1
 ·have:=congrArg Prod.snd h;have z:=OJ (t:=t) (b:=b) (by lia);have hd:(((t:Rat) / (b:Rat)).den:Int)=hi t b:=this.symm;have hp:=F8 (t:=t) hb
  lia
theorem Ik {K:FG9} (h:Paired (bV K H) qs xs) (hj:j < qs.length):∃v,Gr xs (j:Int)=some v/\bV K H (qs.getD j 0) v:=by
 have hl:=h.length;refine ⟨xs[j]'(by lia),eJ (by simp),?_⟩;have:=jU h (i:=j) hj (by lia);rwa [aa,af hj]
theorem v8 {xs ys:List Rat} (h1:i < xs.length) (h2:i < ys.length):cm (xs.take (i+1)) (ys.take (i+1))=cm (xs.take i) (ys.take i)+xs.getD i 0*ys.getD i 0:=by
 have e1:xs[i]?=some (xs.getD i 0):=by rw[aa,af h1];rfl
 have e2:ys[i]?=some (ys.getD i 0):=by rw[aa,af h2];rfl
 unfold cm;rw[take_snoc e1,take_snoc e2,iI (by simp;lia),pF];simp [kd]
theorem getD_mem {xs:List Rat} (h:i < xs.length):xs.getD i 0∈xs:=by
 rw[aa,af h];exact aD h
theorem AW {xs ys:List Rat} (h:ys.length=xs.length):List.zipWith (λx y=>x+y) xs ys=(List.range xs.length).map λi=>xs.getD i 0+ys.getD i 0:=by
 apply gZ;intro i;rw[bo,aH];by_cases hi:i < xs.length
 ·rw[cH hi,af hi,af (show i < ys.length by lia)];simp [aa,af hi,af (show i < ys.length by lia)]
 ·rw[aW (show (List.range xs.length).length<=i by simp;lia),aW (show xs.length<=i by lia)];rfl
theorem dm.updL {K:FG9} (h:dm K H0 H qs x) (hl:H l=some (.lst ys)) (nl:H0 l≠none):dm K H0 (upd H l o) qs x:=by obtain ⟨q,a,b,c⟩:=h;exact ⟨q,a,b,c.updL hl λz=>nl (by rw[<- z];exact b)⟩
theorem hZ.at (B:hZ H b):H b≠none:=by obtain ⟨_,_,_,_,_,e,_⟩:=B;rw[e];simp
theorem Inner.at (B:hZ H b) (i:Inner H b q):H q≠none:=by
 obtain ⟨q',i',xs,e⟩:=B.inner;rw[<- Inner.inj i' i,e];simp
theorem jV {F:α->β->Prop} {l1:List α} {l2:List β} (h:Paired F l1 l2) (hi:i < l1.length):∃x y,l1[i]?=some x/\l2[i]?=some y/\x∈l1/\F x y:=by
 have hl:=h.length;exact ⟨l1[i],l2[i]'(by lia),by simp,by simp,aD _,jU h hi (by lia)⟩
theorem Di (h1:-(2^64) < i) (h2:i < 2^64):fK i j:=.inl (.inl ⟨h1,h2⟩)
theorem IG (h1:-(2^64) < j) (h2:j < 2^64):fK i j:=.inl (.inr ⟨h1,h2⟩)
def QJ (K : FG9) (l : Addr) : It :=
  ⟨λi H => ∃ xs x, bO K H l xs /\ xs[i]? = some x,
   λi H v H' => ∃ p x, v = .ref p /\ H p = none /\ H' = upd H p (.tup [.int i, x]) /\ ∀ xs, bO K H l xs → xs[i]? = some x,
   λi H => ∃ xs, bO K H l xs /\ xs.length ≤ i⟩
def tnE (e it l:Addr) (i:Nat) (h:Heap):Prop:=(∃old,IsEnum h e it i old)/\h.IsListIter it l i
theorem Jb {P:Program} {w:World} {K:FG9} {elts:List Expr} {kk:Nat} {tpos:Pos} (e it l:Addr) (hei:e≠it):Turn P w K (.Tuple elts kk tpos) (QJ K l) [e,it] e (tnE e it l) where
 mem:=by simp
 obj:=λi h st b hb=>by
  obtain ⟨⟨old,he⟩,⟨o1,g1,c1,d1⟩⟩:=st;simp only[aI,ba,or_false] at hb;rcases hb with rfl | rfl
  ·exact ⟨_,he,λv q=>nomatch q⟩
  ·exact ⟨o1,g1,λv q=>by rw[d1] at q;cases q⟩
 keep:=λi h h' st k=>by
  obtain ⟨⟨old,he⟩,h1⟩:=st;exact ⟨⟨old,k e (by simp) _ he⟩,h1.at λo q=>k it (by simp) o q⟩
 item:=by
  intro X hP hw hK hc i pins s σ H E I hf st hg;subst hP hw hK;obtain ⟨⟨old,he⟩,h1⟩:=st;obtain ⟨xs,x,qx,ex⟩:=hg;obtain ⟨us,rx,px,_⟩:=I.list qx;obtain ⟨u,eu,ru⟩:=rx.get ex;refine wpAny_pyNext_enum_item he h1 px.isList (x:=u) (by simpa using eu) hei λh' a1 a2 a3 a4 hk=>?_
  refine ⟨_,rfl,wpAny_letOwnedTupleGo_enum a1 λh'' he'' hs=>?_⟩;have hT0:H s.heap.objs.size=none:=I.hok.fresh (ao _);have ene:s.heap.objs.size≠e:=IU (Heap.lt_size he)
  have up:∀b o,b∉[e,it]->s.heap.get? b=some o->h''.get? b=some o:=λb o hb q=>by
   simp only[aI,ba,or_false,not_or] at hb;exact (hs.2 b hb.1).trans (hk b o hb.1 hb.2 q)
  have tup:h''.get? s.heap.objs.size=some { cls:=.type "tuple",data:=.seq #[.int i s.toks,u] }:=(hs.2 _ ene).trans a3;have I1:Inv X pins σ H { s with heap:=h'',toks:=s.toks+1 }:=I.moved (g':=s.gens) (d':=s.drawn) (t':=s.toks+1) (ch:=[e,it]) hf up I.bare;have fT:j4 X pins H s.heap.objs.size:=I.fpOk (ao _) hT0;have I2:=I1.track (o:=.tup [.int i,x]) fT ⟨jo rfl,[.int i s.toks,u],.cons ⟨_,rfl⟩ (.cons ru .nil),⟨_,tup,rfl,_,rfl⟩⟩;refine ⟨.ref s.heap.objs.size,_,I2,rfl,⟨_,x,rfl,hT0,rfl,λxs' q=>by rw[I.list_inj q qx];exact ex⟩,?_,λb hb=>?_⟩
  ·exact ⟨⟨_,by simpa using he''⟩,a2.at λo q=>(hs.2 _ hei.symm).trans q⟩
  ·rw[bE]
   ·exact (hf b hb).1
   ·obtain ⟨o1,g1,_⟩:=h1;simp only[aI,ba,or_false] at hb;rcases hb with rfl | rfl
    ·exact ene.symm
    ·exact bY (Heap.lt_size g1)
 done:=by
  intro X hP hw hK hc i pins s σ H E I hf st hg;subst hP hw hK;obtain ⟨⟨old,he⟩,h1⟩:=st;obtain ⟨xs,qx,hend⟩:=hg;obtain ⟨us,rx,px,_⟩:=I.list qx;have lx:=rx.length;refine wpAny_pyNext_enum_end (I.ok.hd hc) he h1 px.isList (by simp;lia) λh' hk=>⟨rfl,?_⟩
  exact I.moved (g':=s.gens) (d':=s.drawn) (t':=s.toks) (ch:=[e,it]) hf (λb o hb q=>hk b o (λz=>hb (by simp [z])) q) I.bare
 self:=λ_ _ _ _ _ st h=>let ⟨⟨_,he⟩,_⟩:=st;wpAny_pyIter_enum he h
section
variable {X:Cx}
def OI (K:FG9) (ta:TA):TI:=λσ H R=>ta σ H λvs H1=>∃l,vs=[.ref l]/\(∃xs,bO K H1 l xs)/\R (QJ K l) H1
theorem NB {a:Expr} {ta:TA} {p pos tpos:Pos} {elts:List Expr} {kk:Nat} (hg:Gl X "enumerate") (hm:X.mg "enumerate"=none) (ha:PA X [a] ta) (hs:starEach [a] X.env=[(false,eval a X.env)]:=by rfl) :
  PI X (.Tuple elts kk tpos) (.Call (.Name "enumerate" p) [a] [] pos) (OI X.K ta):=by
 intro pins s σ H R I h;refine Call_ (jE I hg hm boot_enumerate (PyProof.Rows.callWith_type1 (gK (ha pos pins s σ H _ I h) λus s1 ⟨vs,H1,I1,r1,q1⟩=>?_) (by rw[hs];rfl) rfl));obtain ⟨l,e,⟨xs,qx⟩,q⟩:=q1;subst e;obtain ⟨u,rfl,ru⟩:=vals1 r1;cases ru;obtain ⟨us,rx,px,_⟩:=I1.list qx;refine call_enumerate_list px.isList λh' a1 a2 a3 hk=>wpAny_pyIter_enum a1 ?_
 have I2:Inv X pins σ H1 { s1 with heap:=h' }:=I1.kept (t':=s1.toks) hk;refine ⟨_,[s1.heap.objs.size+1,s1.heap.objs.size],_,_,H1,rfl,I2,Jb (s1.heap.objs.size+1) s1.heap.objs.size l (Nat.succ_ne_self _),⟨⟨_,a1⟩,a2⟩,λb hb=>?_,q⟩
 have hb':s1.heap.objs.size<=b:=by
  simp only[aI,ba,or_false] at hb;rcases hb with rfl | rfl <;> first | exact vm _ | exact ao _
 exact I1.fpOk hb' (I1.hok.fresh hb')
end
theorem KZ {K:FG9} (h:ta σ H λvs H1=>∃l,vs=[.ref l]/\(∃xs,bO K H1 l xs)/\R (QJ K l) H1):OI K ta σ H R:=h
theorem LM {K:FG9} {g:TG} {tb:TS} {D:Ends} (Pv:Nat->St->Hp->Prop) (h0:Pv 0 σ H) (hl:∀i σ H,i<=xs.length->Pv i σ H->bO K H l xs)
  (hs:∀i x σ H p,xs[i]?=some x->Pv i σ H->H p=none->g (.ref p) σ (upd H p (.tup [.int i,x])) λσ2 H2=>tb { D with nx:=Pv (i+1),ct:=Pv (i+1),bk:=D.nx } σ2 H2) (hd:∀σ H,Pv xs.length σ H->D.nx σ H) :
  ∃W:Nat->Nat->St->Hp->Prop,(∃m,W 0 m σ H)/\∀i m σ H,W i m σ H →
   ((QJ K l).stop i H/\D.nx σ H)\/((QJ K l).go i H/\∃N:St->Hp->Prop,(∀σ' H',N σ' H'->∃m',m' < m/\W (i+1) m' σ' H')/\∀x H',(QJ K l).yld i H x H'->g x σ H' λσ2 H2=>tb { D with nx:=N,ct:=N,bk:=D.nx } σ2 H2):=by
 refine ⟨λi m σ H=>m=xs.length - i/\i<=xs.length/\Pv i σ H,⟨xs.length,by simp,br _,h0⟩,?_⟩;rintro i m σ H ⟨rfl,hi,p⟩;have q1:=hl i σ H hi p;by_cases hlt:i < xs.length
 ·refine .inr ⟨⟨xs,xs[i],q1,by simp [hlt]⟩,Pv (i+1),λσ' H' p'=>⟨xs.length - (i+1),by lia,rfl,hlt,p'⟩,λx H' y=>?_⟩;obtain ⟨r,x',rfl,hr,rfl,e1⟩:=y;exact hs i x' σ _ r (e1 xs q1) p hr
 ·have e:i=xs.length:=by lia
  subst e;exact .inl ⟨⟨xs,q1,ao _⟩,hd σ H p⟩
section
variable {X:Cx}
theorem HW (K:FG9) {e:Expr} {f:Str} {pos:Pos} {ta:TE} (he:PE X e ta) (hb:attributeBase e f X.env (eval e X.env)=eval e X.env) (hK:X.K=K:=by rfl):PE X (.Attribute e f pos) (O1 K ta f):=by subst hK;exact iN he hb
end
theorem Px {K:FG9} (h:ta σ H λx H1=>∃a C dx fs v,x=.ref a/\H1 a=some (.ins C dx fs)/\Kb K C/\jK K C f/\fs.lookup f=some v/\Q v H1):O1 K ta f σ H Q:=h
theorem M7 {K:FG9} (h:tv σ H λy H1=>ta σ H1 λx H2=>∃a C dx fs,x=.ref a/\H2 a=some (.ins C dx fs)/\Kb K C/\jK K C f/\fs.length < 1000 /\
 D.nx σ (upd H2 a (.ins C dx (cz f y fs)))):Q9 K ta tv f D σ H:=h
theorem Nd (h:ta σ H λx H1=>∃a dx fs,x=.ref a/\H1 a=some (.ins C dx fs)/\fs.lookup m=none /\
 t σ H1 λvs H2=>sp (x :: vs) H2 Q E):Ot C m sp [] E ta t σ H Q:=by
 have e:(λ(x:V) H1=>∃a dx fs,x=.ref a/\H1 a=some (.ins C dx fs)/\fs.lookup m=none/\t σ H1 λvs H2=>sp (x :: (vs++[])) H2 Q E)=λx H1=>∃a dx fs,x=.ref a/\H1 a=some (.ins C dx fs)/\fs.lookup m=none/\t σ H1 λvs H2=>sp (x :: vs) H2 Q E:=by
  funext x H1;simp only[kW]
 show ta σ H (λ(x:V) H1=>∃a dx fs,x=.ref a/\H1 a=some (.ins C dx fs)/\fs.lookup m=none/\t σ H1 λvs H2=>sp (x :: (vs++[])) H2 Q E)
 rw[e];exact h
theorem Nf (h:t σ H λvs H1=>∀x dx,H1 x=none->H1 dx=none->dx≠x →
 sp (.ref x :: vs) (upd (upd H1 dx (.own x)) x (.ins C dx [])) (λv H2=>v=.non/\Q (.ref x) H2) E):Ou C sp [] E t σ H Q:=by
 have e:(λvs (H1:Hp)=>∀x dx,H1 x=none->H1 dx=none->dx≠x->sp (.ref x :: (vs++[])) (upd (upd H1 dx (.own x)) x (.ins C dx [])) (λv H2=>v=.non/\Q (.ref x) H2) E)=λvs H1=>∀x dx,H1 x=none->H1 dx=none->dx≠x->sp (.ref x :: vs) (upd (upd H1 dx (.own x)) x (.ins C dx [])) (λv H2=>v=.non/\Q (.ref x) H2) E:=by
  funext vs H1;simp only[kW]
 show t σ H (λvs (H1:Hp)=>∀x dx,H1 x=none->H1 dx=none->dx≠x->sp (.ref x :: (vs++[])) (upd (upd H1 dx (.own x)) x (.ins C dx [])) (λv H2=>v=.non/\Q (.ref x) H2) E)
 rw[e];exact h
def Dz (x:Addr) (H H':Hp):Prop:=∀b o,H b=some o->b≠x->H' b=some o
theorem Dz.upd:Dz x H (L2.upd H x o):=λb u h n=>by rw[bE n];exact h
def sJ (H:Hp) (x:Addr):Prop:=∃C dx fs,H x=some (.ins C dx fs)
section
variable {K:FG9} {H H' H0:Hp} {q:Rat} {v:V} {x p:Addr} {qs:List Rat} {rows:LR9}
theorem bV.exc (h:bV K H q v) (e:Dz x H H') (hx:sJ H x):bV K H' q v:=by
 obtain ⟨C,dx,fs,hx⟩:=hx;obtain ⟨r,er,s⟩:=h;refine ⟨r,er,?_⟩;rcases s with (h | ⟨o,h⟩) | h
 ·exact .inl (.inl (e _ _ h λz=>by rw[z,hx] at h;cases h))
 ·exact .inl (.inr ⟨o,e _ _ h λz=>by rw[z,hx] at h;cases h⟩)
 ·exact .inr h
theorem cL.exc (h:cL K H p qs) (e:Dz x H H') (hx:sJ H x):cL K H' p qs:=by
 obtain ⟨xs,g,r⟩:=h;have hx':=hx;obtain ⟨C,dx,fs,hx⟩:=hx;exact ⟨xs,e _ _ g (λz=>by rw[z,hx] at g;cases g),Paired.imp' (λ_ _ z=>z.exc e hx') r⟩
theorem dm.exc (h:dm K H0 H qs v) (e:Dz x H H') (hx:sJ H x):dm K H0 H' qs v:=by obtain ⟨q,a,b,c⟩:=h;exact ⟨q,a,b,c.exc e hx⟩
theorem bH.exc (h:bH K H0 H p rows) (e:Dz x H H') (hx:sJ H x):bH K H0 H' p rows:=by
 obtain ⟨xs,g,r,n⟩:=h;have hx':=hx;obtain ⟨C,dx,fs,hx⟩:=hx;exact ⟨xs,e _ _ g (λz=>by rw[z,hx] at g;cases g),Paired.imp' (λ_ _ z=>z.exc e hx') r,n⟩
end
def oZ (a b c:Addr) (n i o:Nat):List (Str×V):=cz "outs" (.int o) (cz "look" (.ref c) (cz "ins" (.int i) (cz "put" (.ref b) (cz "states" (.int n) (cz "move" (.ref a) [])))))
section
variable {a b c:Addr} {n i o:Nat}
theorem Ho:(oZ a b c n i o).lookup ("ins":Str)=some (.int i):=by
 unfold oZ;rw[bG,if_neg (by decide +kernel),bG,if_neg (by decide +kernel),bG,if_pos rfl]
theorem Cf:(oZ a b c n i o).lookup ("put":Str)=some (.ref b):=by
 unfold oZ;rw[bG,if_neg (by decide +kernel),bG,if_neg (by decide +kernel),bG,if_neg (by decide +kernel),bG,if_pos rfl]
theorem lB:(oZ a b c n i o).lookup ("states":Str)=some (.int n):=by
 unfold oZ;rw[bG,if_neg (by decide +kernel),bG,if_neg (by decide +kernel),bG,if_neg (by decide +kernel),bG,if_neg (by decide +kernel),bG,if_pos rfl]
theorem DK:(oZ a b c n i o).lookup ("move":Str)=some (.ref a):=by
 unfold oZ;rw[bG,if_neg (by decide +kernel),bG,if_neg (by decide +kernel),bG,if_neg (by decide +kernel),bG,if_neg (by decide +kernel),bG,if_neg (by decide +kernel),bG,if_pos rfl]
theorem O2 {m:Str} (h1:¬m="outs") (h2:¬m="look") (h3:¬m="ins") (h4:¬m="put") (h5:¬m="states") (h6:¬m="move"):(oZ a b c n i o).lookup m=none:=by
 unfold oZ;rw[bG,if_neg h1,bG,if_neg h2,bG,if_neg h3,bG,if_neg h4,bG,if_neg h5,bG,if_neg h6];rfl
theorem Jd:(oZ a b c n i o).lookup ("moved":Str)=none:=O2 (by decide +kernel) (by decide +kernel) (by decide +kernel) (by decide +kernel) (by decide +kernel) (by decide +kernel)
end
theorem d9 {k:Str} {v:V}:∀{l:List (Str×V)},(cz k v l).length<=l.length+1
 | []=>ao _
 | (x,y) :: r=>by
  unfold cz
  split
  ·simp
  ·have:=d9 (k:=k) (v:=v) (l:=r);simp only[bB]
   lia
structure gG (mv pt lk:LR9):Prop where
 n8:mv.length<=8
 i4:pt.length<=4
 o4:lk.length<=4
 mw:∀xs∈mv,xs.length=mv.length
 pw:∀xs∈pt,xs.length=mv.length
 lw:∀xs∈lk,xs.length=mv.length
def BU (mv pt lk:LR9):Prop:=∃M V:Nat,0 < M/\M<=2^800/\V<=2^400/\GF M V mv/\GF M V pt/\GF M V lk
def kU (K:FG9) (H0 H:Hp) (C p:Addr) (mv pt lk:LR9):Prop:=∃dx a b c,H p=some (.ins C dx (oZ a b c mv.length pt.length lk.length))/\H0 a=none/\H0 b=none/\H0 c=none/\bH K H0 H a mv/\bH K H0 H b pt/\bH K H0 H c lk
section
variable {K:FG9} {H H' H0 H1:Hp} {C p b:Addr} {mv pt lk:LR9}
theorem kU.same (h:kU K H0 H C p mv pt lk) (e:aK H H'):kU K H0 H' C p mv pt lk:=by obtain ⟨dx,a,b,c,g,n1,n2,n3,g1,g2,g3⟩:=h;exact ⟨dx,a,b,c,e _ _ g,n1,n2,n3,g1.same e,g2.same e,g3.same e⟩
theorem kU.upto (h:kU K H0 H C p mv pt lk) (u:cZ b H H') (B:hZ H b) (nb:H0 b≠none):kU K H0 H' C p mv pt lk:=by
 obtain ⟨dx,a,b',c,g,n1,n2,n3,g1,g2,g3⟩:=h;refine ⟨dx,a,b',c,u.other (λz=>by obtain ⟨_,_,_,_,_,e,_⟩:=B;rw[z,e] at g;cases g) g,n1,n2,n3,g1.upto u B (λz=>nb (by rw[<- z];exact n1)) nb,g2.upto u B (λz=>nb (by rw[<- z];exact n2)) nb,g3.upto u B (λz=>nb (by rw[<- z];exact n3)) nb⟩
theorem kU.weak (h:kU K H0 H C p mv pt lk) (e:aK H1 H0):kU K H1 H C p mv pt lk:=by obtain ⟨dx,a,b,c,g,n1,n2,n3,g1,g2,g3⟩:=h;exact ⟨dx,a,b,c,g,e.none n1,e.none n2,e.none n3,g1.weak e,g2.weak e,g3.weak e⟩
theorem BU.fits (h:BU mv pt lk) (hl:∀x∈l,(∃xs∈mv,x∈xs)\/(∃xs∈pt,x∈xs)\/(∃xs∈lk,x∈xs)\/x=0):Fits l:=by
 obtain ⟨M,V,h0,h1,h2,h3,h4,h5⟩:=h;refine ⟨M,V,h0,ag h1 (ar (by decide) (by decide)),ag h2 (ar (by decide) (by decide)),λx hx=>?_⟩;rcases hl x hx with ⟨xs,a,b⟩ | ⟨xs,a,b⟩ | ⟨xs,a,b⟩ | rfl
 ·exact h3 xs a x b
 ·exact h4 xs a x b
 ·exact h5 xs a x b
 ·exact Fr.zero
end
def Je:Sp:=λvs H Q _=>∃i:Int,vs=[.int i]/\Q (.bl true) H
def Jh (K:FG9):Sp:=λvs H Q _=>∃x n,vs=[x]/\GH K H x n/\E8 n/\∀H',aK H H'->Q (.bl true) H'
inductive Hu (vs:List V) (H:Hp) (Q:VK) (E9:XK):Prop
 | mk (p:Addr) (xs:List V) (a m:Int):vs=[.ref p,.int a,.int m]->H p=some (.lst xs)->(xs.length:Int)<=m->Q .non H->Hu  vs H Q E9
inductive HM (K:FG9) (vs:List V) (H:Hp) (Q:VK) (E9:XK):Prop
 | mk (p:Addr) (H0:Hp) (rows:LR9) (w:Nat):vs=[.ref p,.int w]->bH K H0 H p rows->rows.length<=1000->w<=1000->((∀xs∈rows,xs.length=w/\∀x∈xs,E8 (nm x)))->(∀r H',H r=none->aK H H'->bH K H H' r rows->Q (.ref r) H')->HM K vs H Q E9
def QK (rows:LR9):Prop:=∀xs∈rows,∀x∈xs,E8 (nm x)
inductive HH (K:FG9) (C:Addr) (vs:List V) (H:Hp) (Q:VK) (E9:XK):Prop
 | mk (x dx p q r:Addr) (Hb H0 H1 H2:Hp) (mv pt lk:LR9):vs=[.ref x,.ref p,.ref q,.ref r]->Hb x=none->Hb dx=none->dx≠x->H=upd (upd Hb dx (.own x)) x (.ins C dx [])->bH K H0 Hb p mv->bH K H1 Hb q pt->bH K H2 Hb r lk->gG mv pt lk->QK mv->QK pt->QK lk->(∀H',aK Hb H'->kU K Hb H' C x mv pt lk->Q .non H')->HH K C vs H Q E9
def gQ (mv pt:LR9) (st pu:List Rat):List Rat:=List.zipWith (λline col=>cm (line++col) (st++pu)) mv (b8 pt mv.length)
theorem BU.ok (h:BU mv pt lk):QK mv/\QK pt/\QK lk :=
 ⟨λxs hx x hx'=>(h.fits (l:=xs) λy hy=>.inl ⟨xs,hx,hy⟩).ok hx',λxs hx x hx'=>(h.fits (l:=xs) λy hy=>.inr (.inl ⟨xs,hx,hy⟩)).ok hx',λxs hx x hx'=>(h.fits (l:=xs) λy hy=>.inr (.inr (.inl ⟨xs,hx,hy⟩))).ok hx'⟩
def fN (K:FG9) (A:Addr->Prop) (H:Hp) (n:Nat) (C:Rat->Prop) (x:V):Prop:=∃q qs,x=V.ref q/\A q/\cL K H q qs/\qs.length=n/\∀y∈qs,C y
section
variable {K:FG9} {A A':Addr->Prop} {H H' H0:Hp} {n:Nat} {C C':Rat->Prop} {x v:V} {q b l p:Addr} {xs zs:List V} {y:Rat} {o:HO}
theorem fN.same (h:fN K A H n C x) (e:aK H H'):fN K A H' n C x:=by obtain ⟨q,qs,a,c,r,z⟩:=h;exact ⟨q,qs,a,c,r.same e,z⟩
theorem fN.upto (h:fN K A H n C x) (u:cZ b H H') (B:hZ H b) (nb:¬A b):fN K A H' n C x:=by obtain ⟨q,qs,a,c,r,z⟩:=h;exact ⟨q,qs,a,c,r.upto u B (λe=>nb (by rw[<- e];exact c)),z⟩
theorem fN.other (h:fN K A H n C x) (hl:H l=some (.lst zs)) (nl:¬A l):fN K A (upd H l o) n C x:=by obtain ⟨q,qs,a,c,r,z⟩:=h;exact ⟨q,qs,a,c,r.updL hl (λe=>nl (by rw[<- e];exact c)),z⟩
theorem fN.weak (h:fN K A H n C x) (w:∀q,A q->A' q) (wc:∀y,C y->C' y):fN K A' H n C' x:=by obtain ⟨q,qs,a,c,r,l,z⟩:=h;exact ⟨q,qs,a,w q c,r,l,λy hy=>wc y (z y hy)⟩
theorem za {α β:Type} {F:α->β->Prop} {a:α} {b:β} (h:F a b):∀{l1:List α} {l2:List β} (j:Nat),Paired F l1 l2->Paired F (l1.set j a) (l2.set j b)
 | _,_,_,.nil=>.nil
 | _,_,0,.cons _ t=>.cons h t
 | _,_,j+1,.cons r t=>.cons r (za h j t)
theorem fN.put (h:fN K A H n C x) (hq:H q=some (.lst zs)) (hv:bV K H y v) (hc:C y) (j:Nat):fN K A (upd H q (.lst (zs.set j v))) n C x:=by
 obtain ⟨q1,qs,rfl,a,⟨zs1,g1,pr⟩,l1,c1⟩:=h;by_cases e:q1=q
 ·subst e;rw[hq] at g1;cases g1;refine ⟨q1,qs.set j y,rfl,a,⟨_,aM,za (hv.updL hq) j (Paired.imp' (λ_ _ z=>z.updL hq) pr)⟩,by rw[eC];exact l1,λz hz=>?_⟩;rcases cF hz with hz | rfl
  ·exact c1 z hz
  ·exact hc
 ·exact ⟨q1,qs,rfl,a,⟨zs1,by rw[bE e];exact g1,Paired.imp' (λ_ _ z=>z.updL hq) pr⟩,l1,c1⟩
theorem fN.at (h:fN K A H n C x):∃q zs qs,x=V.ref q/\A q/\H q=some (.lst zs)/\zs.length=n/\Paired (bV K H) qs zs/\qs.length=n/\∀y∈qs,C y:=by obtain ⟨q,qs,a,c,⟨zs,g,pr⟩,l,z⟩:=h;exact ⟨q,zs,qs,a,c,g,by rw[<- pr.length];exact l,pr,l,z⟩
end
theorem qE {i:Int} (h:i.natAbs<=W) (hW:1<=W):Dr W (i:Rat):=⟨h,hW⟩
def RY (K:FG9) (A:Addr->Prop) (H:Hp) (n:Nat) (C:Rat->Prop) (p:Addr) (m:Nat):Prop:=∃us,H p=some (.lst us)/\us.length=m/\¬A p/\∀x∈us,fN K A H n C x
structure Fb (A:Addr->Prop) (m p l b q0:Addr):Prop where
 am:¬A m
 ap:¬A p
 al:¬A l
 ab:¬A b
 aq:¬A q0
 mb:m≠b
 pb:p≠b
 lb:l≠b
 mp:m≠p
 ml:m≠l
 mq:m≠q0
theorem Iq {M:Nat} {z:Int} (h:z.natAbs<=2):Fr 1 2 (z:Rat):=Fr.int h
theorem C3 {z:Int} (hz:z.natAbs<=2) (ha:Fr M W a) (hc:Fr M W c):Fr M (3*W) (a+(z:Rat)*c):=by
 have h:=(Iq (M:=M) hz).mul hc;rw[lY] at h;exact (ha.add h).mono (by lia)
theorem Ce {z:Int} (h:z.natAbs<=1000):iZ (z:Rat):=Gg (M:=1) (V:=1000) (by decide) (cX) (ag (show 1000<=2^10 by decide) (ar (by decide) (by decide))) (Fr.int h)
theorem yw {z:Int} (hz:z.natAbs<=2) (hc:Fr M W c) (h0:0 < M) (h1:M<=2^800) (hW:W<=2^140):iZ ((z:Rat)*c):=by
 have h:=(Iq (M:=M) hz).mul hc;rw[lY] at h;refine Gg h0 (ag h1 (ar (by decide) (by decide))) (ag (aA 2 hW) ?_) h;rw[show 2*2^140=2^141 by rw[ff,cw]];exact ar (by decide) (by decide)
def iJ (A:Addr->Prop) (b m:Addr) (H H':Hp):Prop:=∀c u,H c=some u->c≠b->¬A c->c≠m->H' c=some u
theorem iJ.same (h:iJ A b m H H1) (s:aK H1 H2):iJ A b m H H2:=λc u e n1 n2 n3=>s _ _ (h c u e n1 n2 n3)
theorem iJ.upto (h:iJ A b m H H1) (s:cZ b H1 H2):iJ A b m H H2:=λc u e n1 n2 n3=>s.1 _ _ (h c u e n1 n2 n3) n1
theorem iJ.upd (h:iJ A b m H H1) (hq:A q\/q=m):iJ A b m H (L2.upd H1 q o):=λc u e n1 n2 n3=>by
 rw[bE]
 ·exact h c u e n1 n2 n3
 ·rintro rfl;rcases hq with hq | hq
  ·exact n2 hq
  ·exact n3 hq
theorem iJ.new (h:iJ A b m H H1) (hA:∀q,H q=none->A q) (B:hZ H1 b) (hm:H1 m≠none) (hr:H1 r=none):A r:=by
 by_cases z:A r
 ·exact z
 ·cases e:H r with
  | none=>exact hA r e
  | some u =>
   have:=h r u e (λy=>B.at (by rw[<- y];exact hr)) z (λy=>hm (by rw[<- y];exact hr));rw[hr] at this;cases this
structure IS (K:FG9) (A:Addr->Prop) (n:Nat) (C:Rat->Prop) (r p b q0:Addr) (us:List V) (H0 H:Hp):Prop where
 gr:H r=some (.lst us)
 ru:∀x∈us,fN K A H n C x
 rp:fN K A H n C (.ref p)
 bag:hZ H b
 inn:Inner H b q0
 up:cZ b H0 H
section
variable {K:FG9} {A:Addr->Prop} {n:Nat} {C:Rat->Prop} {r p b q0:Addr} {us:List V} {H0 H H':Hp} {y:Rat} {v:V}
theorem IS.same (h:IS K A n C r p b q0 us H0 H) (e:aK H H'):IS K A n C r p b q0 us H0 H':=⟨e _ _ h.gr,λx hx=>(h.ru x hx).same e,h.rp.same e,h.bag.same e,(e.upto (p:=b)).2 _ h.inn,h.up.same e⟩
theorem IS.upto (h:IS K A n C r p b q0 us H0 H) (u:cZ b H H') (B:hZ H' b) (nb:¬A b) (rb:r≠b):IS K A n C r p b q0 us H0 H':=⟨u.other rb h.gr,λx hx=>(h.ru x hx).upto u h.bag nb,h.rp.upto u h.bag nb,B,u.2 _ h.inn,h.up.trans u⟩
theorem IS.put (h:IS K A n C r p b q0 us H0 H) (ap:A p) (nr:¬A r) (nb:¬A b) (nq:¬A q0) (hp:H0 p=none) (hv:bV K H y v) (hc:C y) (j:Nat):∃zs,H p=some (.lst zs)/\zs.length=n/\IS K A n C r p b q0 us H0 (upd H p (.lst (zs.set j v))):=by
 obtain ⟨q,zs,qs,e,a,g,l,_⟩:=h.rp.at;cases e;have ne:∀{z},¬A z->z≠p:=λh e=>h (by rw[e];exact ap)
 exact ⟨zs,g,l,by rw[bE (ne nr)];exact h.gr,λx hx=>(h.ru x hx).put g hv hc j,h.rp.put g hv hc j,h.bag.upd h.inn (ne nb).symm (ne nq).symm,h.inn.upd (ne nb).symm,h.up.after hp⟩
end
theorem yU {K:FG9} (h:∀x∈us,fN K A H n C x):∃rows:LR9,Paired (λqs x=>∃q,x=V.ref q/\A q/\cL K H q qs) rows us/\rows.length=us.length/\∀qs∈rows,qs.length=n/\∀y∈qs,C y:=by
 induction us with
 | nil=>exact ⟨[],.nil,rfl,λ_ z=>nomatch z⟩
 | cons u us ih =>
  obtain ⟨rows,pr,l,hr⟩:=ih λx hx=>h x (.tail _ hx)
  obtain ⟨q,qs,e,a,r,l1,c⟩:=h u (.head _);refine ⟨qs :: rows,.cons ⟨q,e,a,r⟩ pr,by simp [l],λzs hz=>?_⟩;rcases aI.mp hz with rfl | hz
  ·exact ⟨l1,c⟩
  ·exact hr zs hz
theorem FI {K:FG9} {rows:LR9} (pr:Paired (λqs x=>∃q,x=V.ref q/\A q/\cL K H q qs) rows us) (h:∀qs∈rows,qs.length=n/\∀y∈qs,C y):∀x∈us,fN K A H n C x:=λx hx=>by
 obtain ⟨qs,hq,q,e,a,r⟩:=dh pr hx;exact ⟨q,qs,e,a,r,(h qs hq).1,(h qs hq).2⟩
theorem vZ {n:Nat}:∀{rows:LR9},(∀xs∈rows,xs.length=n)->rows.flatten.length=rows.length*n
 | [],_=>by simp
 | xs :: rows,h=>by
  rw[bU,ax,h xs (.head _),vZ λys hy=>h ys (.tail _ hy),bB,c8,rh]
theorem MZ {rows:LR9} (h:∀qs∈rows,qs.length=n/\∀y∈qs,Dr (2^c) y):∃M:Nat,0 < M/\M<=2^(c*(rows.length*n))/\∀qs∈rows,∀y∈qs,Fr M (2^c) y:=by
 have fl:rows.flatten.length=rows.length*n:=vZ λys hy=>(h ys hy).1
 have hm:∀a∈rows.flatten.map (·.den),0 < a/\a<=2^c:=λa ha=>by
  obtain ⟨y,hy,rfl⟩:=aB.mp ha;obtain ⟨qs,hq,hy⟩:=dQ.mp hy;exact ⟨y.den_pos,((h qs hq).2 y hy).2⟩
 refine ⟨ue (rows.flatten.map (·.den)),vP λa ha=>(hm a ha).1,?_,λqs hq y hy=>?_⟩
 ·have:=yX (k:=c) (l:=rows.flatten.map (·.den)) λa ha=>(hm a ha).2
  rwa [ai,fl] at this
 ·exact (Fr.own y ((h qs hq).2 y hy).1).dvd (vQ (aB.mpr ⟨y,dQ.mpr ⟨qs,hq,hy⟩,rfl⟩))
theorem j3 {K:FG9} (h:RY K A H n C p m) (w:∀q,A q->H0 q=none):∃rows,bH K H0 H p rows/\rows.length=m/\∀qs∈rows,qs.length=n/\∀y∈qs,C y:=by
 obtain ⟨us,g,l,a,r⟩:=h;obtain ⟨rows,pr,lr,hr⟩:=yU r;refine ⟨rows,⟨us,g,Paired.imp' (λ_ _ ⟨q,e,aq,rq⟩=>⟨q,e,w q aq,rq⟩) pr,λhm=>?_⟩,by rw[lr,l],hr⟩;obtain ⟨q,_,e,aq,_⟩:=r _ hm;cases e;exact a aq
theorem iJ.trans (h:iJ A b m H H1) (h':iJ A b m H1 H2):iJ A b m H H2:=λc u e n1 n2 n3=>h' c u (h c u e n1 n2 n3) n1 n2 n3
theorem KP {K:FG9} {rows:LR9} (pr:Paired (dm K H0 H) rows us) (h:∀qs∈rows,qs.length=n/\∀y∈qs,C y) (w:∀q,V.ref q∈us->H0 q=none->H q≠none->A q):∀x∈us,fN K A H n C x:=λx hx=>by
 obtain ⟨qs,hq,q,e,a,r⟩:=dh pr hx;subst e;exact ⟨q,qs,rfl,w q hx a (by obtain ⟨_,g,_⟩:=r;rw[g];simp),r,(h qs hq).1,(h qs hq).2⟩
def Jf:Sp:=λvs H Q _=>∃b,vs=[.ref b]/\hZ H b/\∀r (n i o w:Nat) H',H' r=some (.tup [.int n,.int i,.int o,.int w])->n<=5->i<=4->o<=4->(w=4\/w=9\/(w=1000000/\n<=2))->(n=5->i<=2/\o<=2)->hZ H' b->cZ b H H'->Q (.ref r) H'
def gH (K:FG9) (H0 H:Hp) (r:Addr) (mv pt lk:LR9):Prop:=∃m p l,H r=some (.tup [.ref m,.ref p,.ref l])/\H0 m=none/\H0 p=none/\H0 l=none/\bH K H0 H m mv/\bH K H0 H p pt/\bH K H0 H l lk
section
variable {K:FG9} {H H' H0 H1:Hp} {r b:Addr} {mv pt lk:LR9}
theorem gH.same (h:gH K H0 H r mv pt lk) (e:aK H H'):gH K H0 H' r mv pt lk:=by obtain ⟨m,p,l,g,n1,n2,n3,g1,g2,g3⟩:=h;exact ⟨m,p,l,e _ _ g,n1,n2,n3,g1.same e,g2.same e,g3.same e⟩
theorem gH.upto (h:gH K H0 H r mv pt lk) (u:cZ b H H') (B:hZ H b) (nb:H0 b≠none):gH K H0 H' r mv pt lk:=by
 obtain ⟨m,p,l,g,n1,n2,n3,g1,g2,g3⟩:=h;exact ⟨m,p,l,u.tup B g,n1,n2,n3,g1.upto u B (λz=>nb (by rw[<- z];exact n1)) nb,g2.upto u B (λz=>nb (by rw[<- z];exact n2)) nb,g3.upto u B (λz=>nb (by rw[<- z];exact n3)) nb⟩
theorem gH.weak (h:gH K H0 H r mv pt lk) (e:∀q,H0 q=none->H1 q=none):gH K H1 H r mv pt lk:=by
 obtain ⟨m,p,l,g,n1,n2,n3,⟨x1,y1,z1,w1⟩,⟨x2,y2,z2,w2⟩,⟨x3,y3,z3,w3⟩⟩:=h;exact ⟨m,p,l,g,e _ n1,e _ n2,e _ n3,⟨x1,y1,Paired.imp' (λ_ _ ⟨q,a,b,c⟩=>⟨q,a,e _ b,c⟩) z1,w1⟩,⟨x2,y2,Paired.imp' (λ_ _ ⟨q,a,b,c⟩=>⟨q,a,e _ b,c⟩) z2,w2⟩,⟨x3,y3,Paired.imp' (λ_ _ ⟨q,a,b,c⟩=>⟨q,a,e _ b,c⟩) z3,w3⟩⟩
end
inductive yy (K:FG9) (C:Addr) (vs:List V) (H:Hp) (Q:VK) (E9:XK):Prop
 | mk (r:Addr) (H0:Hp) (mv pt lk:LR9):vs=[.ref r]->gH K H0 H r mv pt lk->gG mv pt lk->BU mv pt lk->(∀x H',H x=none->aK H H'->kU K H H' C x mv pt lk->Q (.ref x) H')->yy K C vs H Q E9
def nextK (mv pt:LR9) (st pu:List Rat) (k:Nat):List Rat:=List.zipWith (λline col=>cm (line++col.take k) (st++pu.take k)) mv (b8 pt mv.length)
theorem jh {st pu:List Rat}:(nextK mv pt st pu k).length=mv.length:=by unfold nextK;rw[aQ,cR];lia
theorem qU {st pu:List Rat} (h1:pt.length<=k) (h2:pu.length<=k):nextK mv pt st pu k=gQ mv pt st pu:=by
 unfold nextK gQ;apply gZ;intro i;rw[bo,bo];cases e1:mv[i]? with
 | none=>rfl
 | some line =>
  cases e2:(b8 pt mv.length)[i]? with
  | none=>rfl
  | some col =>
   have:=fQ col (av e2);show some _=some _
   rw[aE (by lia),aE h2]
theorem GX (h:i < w):(b8 rows w)[i]?=some (rows.map λxs=>xs.getD i 0):=by
 unfold b8;rw[aH,cH h];rfl
theorem FY {st pu:List Rat}:nextK mv pt st pu 0=mv.map λxs=>cm xs st:=by
 unfold nextK;apply gZ;intro i;rw[bo,aH];by_cases hi:i < mv.length
 ·rw[GX hi,af hi];simp
 ·rw[aW (by lia)];rfl
theorem zE {st pu:List Rat} (hi:i < mv.length):(nextK mv pt st pu k).getD i 0=cm (mv[i]++(pt.map λxs=>xs.getD i 0).take k) (st++pu.take k):=by
 rw[aa];unfold nextK;rw[bo,af hi,GX hi];rfl
theorem qG (h:as.length=xs.length):cm (as++bs) (xs++ys)=cm as xs+cm bs ys:=by
 unfold cm;rw[iI h,pF]
theorem FZ {st pu:List Rat} (hm:∀xs∈mv,xs.length=st.length) (h1:k < pt.length) (h2:k < pu.length) (hw:(pt[k]).length=mv.length) :
  List.zipWith (λx y=>x+y) (nextK mv pt st pu k) ((pt[k]).map λy=>pu[k]*y)=nextK mv pt st pu (k+1):=by
 have l1:((pt[k]).map λy=>pu[k]*y).length=mv.length:=by rw[ai,hw]
 rw[AW (by rw[l1,jh])];apply gZ;intro i;rw[aH,jh];by_cases hi:i < mv.length
 ·have e0:(nextK mv pt st pu (k+1))[i]?=some ((nextK mv pt st pu (k+1)).getD i 0):=by
   rw[aa,af (by rw[jh];exact hi)];rfl
  rw[cH hi,e0,zE hi];have ll:=hm mv[i] (aD hi);have ec:(pt.map λxs=>xs.getD i 0)[k]?=some ((pt[k]).getD i 0):=by rw[aH,af h1];rfl
  have ep:pu[k]?=some pu[k]:=af h2
  have e3:((pt[k]).map λy=>pu[k]*y).getD i 0=pu[k]*(pt[k]).getD i 0:=by
   rw[getD_map (by rw[hw];exact hi),aa,af (by rw[hw];exact hi)];rfl
  show some ((nextK mv pt st pu k).getD i 0+((pt[k]).map λy=>pu[k]*y).getD i 0)=some _
  rw[zE hi,e3,take_snoc ec,take_snoc ep,qG ll,qG ll,qG (by rw[cv,cv,ai];lia)];have:cm [(pt[k]).getD i 0] [pu[k]]=(pt[k]).getD i 0*pu[k]:=by simp [cm,kd]
  rw[this];congr 1;grind
 ·rw[aW (by simpa using hi),aW (by rw[jh];lia)];rfl
theorem kU.weakN {K:FG9} (h:kU K H0 H C p mv pt lk) (e:∀q,H0 q=none->H1 q=none):kU K H1 H C p mv pt lk:=by
 obtain ⟨dx,a,b,c,g,n1,n2,n3,⟨x1,y1,z1,w1⟩,⟨x2,y2,z2,w2⟩,⟨x3,y3,z3,w3⟩⟩:=h;exact ⟨dx,a,b,c,g,e _ n1,e _ n2,e _ n3,⟨x1,y1,Paired.imp' (λ_ _ ⟨q,a,b,c⟩=>⟨q,a,e _ b,c⟩) z1,w1⟩,⟨x2,y2,Paired.imp' (λ_ _ ⟨q,a,b,c⟩=>⟨q,a,e _ b,c⟩) z2,w2⟩,⟨x3,y3,Paired.imp' (λ_ _ ⟨q,a,b,c⟩=>⟨q,a,e _ b,c⟩) z3,w3⟩⟩
theorem JH {st pu:List Rat}:(gQ mv pt st pu).length=mv.length:=by unfold gQ;rw[aQ,cR];lia
def oY (k j:Nat) (l:List Rat):Prop:=∃M V:Nat,0 < M/\M<=2^k/\V<=2^j/\∀x∈l,Fr M V x
theorem NP {M V:Nat} (h0:0 < M) (h1:M<=2^2000) (h2:V<=2^1950) (h:Fr M V x):iZ x:=by
 obtain ⟨a,b⟩:=h.sz h0 h1 h2;exact ⟨a.mono (by decide),b.mono (by decide)⟩
section
variable {k j k' j':Nat} {l xs ys:List Rat} {x y:Rat}
theorem oY.szn (h:oY k j l) (hx:x∈l) (hk:k+j<=197500:=by decide):iZ x:=by
 obtain ⟨M,V,h0,h1,h2,h3⟩:=h;obtain ⟨a,b⟩:=(h3 x hx).sz h0 h1 h2;exact ⟨a.mono (by lia),b.mono (by lia)⟩
theorem oY.rowM (h:oY k j l) (hk:k+j<=210000:=by decide):∃M,E7 M (l.map nm):=by
 obtain ⟨M,V,h0,h1,h2,h3⟩:=h;refine ⟨M,by lia,?_,λn hn=>?_⟩
 ·show ((M:Nat):Int).natAbs < 2^220000
  rw[b6];exact bg h1 (c7 (by decide) (by lia))
 ·obtain ⟨x,hx,rfl⟩:=aB.mp hn;obtain ⟨a,_⟩:=(h3 x hx).sz h0 h1 h2;exact ⟨gP x,(h3 x hx).den,a.mono (by lia)⟩
theorem oY.one (h:oY k j l) (hx:x∈l):oY k j [x]:=by
 obtain ⟨M,V,h0,h1,h2,h3⟩:=h;exact ⟨M,V,h0,h1,h2,λy hy=>by rw[cD.mp hy];exact h3 x hx⟩
theorem LZ (h:oY k j xs) (h':oY k' j' ys) (hl:xs.length<=1000) (i:Nat) (hk:(k+k')+(j+j')<=196500:=by decide):iZ (cm (xs.take i) (ys.take i)):=by
 obtain ⟨M,V,h0,h1,h2,h3⟩:=h;obtain ⟨N,W,k0,k1,k2,k3⟩:=h'
 have e:1000*(V*W)<=2^(10+(j+j')):=by
  rw[az 2 10];exact aw (by decide) (ag (aw h2 k2) (by rw[<- az];exact ao _))
 obtain ⟨a,b⟩:=((Fr.dot (λx hx=>h3 x (bR hx)) (λy hy=>k3 y (bR hy))).mono (ay _ (show (xs.take i).length<=1000 by rw[cv];lia))).sz (aN h0 k0) (ag (aw h1 k1) (by rw[<- az];exact ao _)) e;exact ⟨a.mono (by lia),b.mono (by lia)⟩
theorem Ll (hx:oY k j [x]) (hy:oY k' j' [y]) (hk:(k+k')+(j+j')<=196500:=by decide):iZ (x*y):=by
 obtain ⟨M,V,h0,h1,h2,h3⟩:=hx;obtain ⟨N,W,k0,k1,k2,k3⟩:=hy;obtain ⟨a,b⟩:=((h3 x (.head _)).mul (k3 y (.head _))).sz (aN h0 k0) (ag (aw h1 k1) (by rw[<- az];exact ao _)) (ag (aw h2 k2) (by rw[<- az];exact ao _));exact ⟨a.mono (by lia),b.mono (by lia)⟩
def Fl (xs ys:List Rat):Prop:=∃k j k' j':Nat,oY k j xs/\oY k' j' ys/\(k+k')+(j+j')<=196500
theorem Fl.sys (h:oY 400 120 xs) (h':oY 1500 1800 ys):Fl xs ys:=⟨_,_,_,_,h,h',by decide⟩
end
def Ka (mv pt lk:LR9):Prop:=∃M V:Nat,0 < M/\M<=2^400/\V<=2^120/\GF M V mv/\GF M V pt/\GF M V lk
section
variable {mv pt lk:LR9}
theorem Ka.fits (h:Ka mv pt lk) (hl:∀x∈l,(∃xs∈mv,x∈xs)\/(∃xs∈pt,x∈xs)\/(∃xs∈lk,x∈xs)\/x=0):oY 400 120 l:=by
 obtain ⟨M,V,h0,h1,h2,g1,g2,g3⟩:=h;refine ⟨M,V,h0,h1,h2,λx hx=>?_⟩;rcases hl x hx with ⟨xs,a,b⟩ | ⟨xs,a,b⟩ | ⟨xs,a,b⟩ | rfl
 ·exact g1 xs a x b
 ·exact g2 xs a x b
 ·exact g3 xs a x b
 ·exact Fr.zero
theorem Ka.sf (h:Ka mv pt lk):BU mv pt lk:=by obtain ⟨M,V,a,b,c,d⟩:=h;exact ⟨M,V,a,ag b (ar (by decide) (by decide)),ag c (ar (by decide) (by decide)),d⟩
end
inductive Ck (K:FG9) (vs:List V) (H:Hp) (Q:VK) (E9:XK):Prop
 | mk (p q:Addr) (xs ys:List Rat):vs=[.ref p,.ref q]->cL K H p xs->cL K H q ys->ys.length=xs.length->xs.length<=1000->Fl xs ys->(∀r H',aK H H'->bV K H' (cm xs ys) (.ref r)->Q (.ref r) H')->Ck K vs H Q E9
inductive Cj (K:FG9) (vs:List V) (H:Hp) (Q:VK) (E9:XK):Prop
 | mk (p q:Addr) (H0:Hp) (rows:LR9) (ys:List Rat):vs=[.ref p,.ref q]->bH K H0 H p rows->cL K H q ys->rows.length<=1000->ys.length<=1000->((∀xs∈rows,xs.length=ys.length/\Fl xs ys))->(∀r H',H r=none->aK H H'->cL K H' r (rows.map λxs=>cm xs ys)->Q (.ref r) H')->Cj K vs H Q E9
inductive A7 (K:FG9) (C:Addr) (vs:List V) (H:Hp) (Q:VK) (E9:XK):Prop
 | mk (x p q:Addr) (H0:Hp) (mv pt lk:LR9) (st pu:List Rat):vs=[.ref x,.ref p,.ref q]->kU K H0 H C x mv pt lk->gG mv pt lk->Ka mv pt lk->cL K H p st->cL K H q pu->st.length=mv.length->pu.length=pt.length->oY 1500 1800 (st++pu)->(∀r H',H r=none->aK H H'->cL K H' r (gQ mv pt st pu)->Q (.ref r) H')->A7 K C vs H Q E9
def pN (mv pt:LR9) (st:List Rat) (pus:LR9) (k:Nat):List Rat:=(pus.take k).foldl (gQ mv pt) st
def my (mv pt:LR9) (st:List Rat) (pus:LR9):LR9:=(List.range (pus.length+1)).map (pN mv pt st pus)
section
variable {mv pt lk pus:LR9} {st:List Rat} {k:Nat}
theorem pM (h:pus[k]?=some pu):pN mv pt st pus (k+1)=gQ mv pt (pN mv pt st pus k) pu:=by
 unfold pN;rw[take_snoc h,List.foldl_append];rfl
theorem j5 (h:st.length=mv.length):∀{k:Nat},k<=pus.length->(pN mv pt st pus k).length=mv.length
 | 0,_=>h
 | k+1,hk=>by rw[pM (af (show k < pus.length by lia)),JH]
theorem tL:(my mv pt st pus).length=pus.length+1:=by unfold my;rw[ai,bw]
theorem rf (h:k<=pus.length):(my mv pt st pus)[k]?=some (pN mv pt st pus k):=by
 unfold my;rw[aH,cH (by lia)];rfl
def AV (mv pt:LR9) (st:List Rat) (pus:LR9):Prop:=∀k,k<=pus.length->∃N W:Nat,0 < N/\N<=2^1500/\W<=2^1800/\(∀x∈pN mv pt st pus k,Fr N W x)/\∀xs∈pus,∀x∈xs,Fr N W x
theorem AV.both (h:AV mv pt st pus) (hk:k<=pus.length) (hp:pu∈pus):oY 1500 1800 (pN mv pt st pus k++pu):=by
 obtain ⟨N,W,a,b,c,d,e⟩:=h k hk;exact ⟨N,W,a,b,c,λx hx=>(aG.mp hx).elim (d x) (e pu hp x)⟩
theorem AV.state (h:AV mv pt st pus) (hk:k<=pus.length):oY 1500 1800 (pN mv pt st pus k):=by
 obtain ⟨N,W,a,b,c,d,e⟩:=h k hk;exact ⟨N,W,a,b,c,d⟩
end
def wI (K:FG9) (H:Hp) (l:Addr) (H':Hp) (xs:List Rat) (x:V):Prop:=∃q,x=.ref q/\H q=none/\q≠l/\cL K H' q xs
section
variable {K:FG9} {H H' H2:Hp} {l:Addr} {xs:List Rat} {x:V}
theorem wI.same (h:wI K H l H' xs x) (e:aK H' H2):wI K H l H2 xs x:=by obtain ⟨q,a,b,c,d⟩:=h;exact ⟨q,a,b,c,d.same e⟩
theorem wI.upd {ys:List V} {o:HO} (h:wI K H l H' xs x) (hl:H' l=some (.lst ys)):wI K H l (upd H' l o) xs x:=by obtain ⟨q,a,b,c,d⟩:=h;exact ⟨q,a,b,c,d.updL hl c⟩
theorem wI.rowF (h:wI K H l H' xs x):dm K H H' xs x:=by obtain ⟨q,a,b,_,d⟩:=h;exact ⟨q,a,b,d⟩
theorem Jm (e:aK H H') (n:H l=none):aK H (upd H' l o):=λb u h=>by
 rw[bE (λz=>by rw[z,n] at h;cases h)];exact e b u h
theorem yV:∀{rows:LR9} {ys:List V},Paired (wI K H l H') rows ys->V.ref l∉ys
 | _,_,.nil=>by simp
 | _,_,.cons ⟨q,a,_,c,_⟩ r=>by
  intro hm;rcases aI.mp hm with e | hm
  ·rw[a] at e;cases e;exact c rfl
  ·exact yV r hm
end
inductive yE (K:FG9) (C:Addr) (vs:List V) (H:Hp) (Q:VK) (E9:XK):Prop
 | mk (x s p:Addr) (H0 H1:Hp) (mv pt lk pus:LR9) (st:List Rat):vs=[.ref x,.ref s,.ref p]->kU K H0 H C x mv pt lk->gG mv pt lk->Ka mv pt lk->cL K H s st->st.length=mv.length->bH K H1 H p pus->pus.length<=100->(∀xs∈pus,xs.length=pt.length)->AV mv pt st pus->(∀r H',H r=none->aK H H'->bH K H H' r (my mv pt st pus)->Q (.ref r) H')->yE K C vs H Q E9
theorem qY {l:List Rat} (h:∀x∈l,Dr (2^c) x) (hc:c<=20):∃B:Nat,0 < B/\B<=2^(c*l.length+2)/\∀x∈l,Fr B (2^22) x:=by
 obtain ⟨M,h0,h1,h2⟩:=NO (c:=c) (n:=l.length) (i:=0) (rows:=[]) Qg rfl h hc;refine ⟨M,h0,?_,h2 l (by simp)⟩;rw[Nat.zero_add,lY] at h1;exact h1
theorem zT {i:Nat}:∀{pus:LR9},(∀xs∈pus,xs.length=i)->pus.flatten.length=pus.length*i
 | [],_=>by simp
 | x :: r,h=>by
  rw[bU,ax,h x (.head _),zT (λxs hx=>h xs (.tail _ hx)),bB,c8]
  lia
theorem Q7 {i:Int} (h:i=0\/i=1):Fr 1 1 (i:Rat):=Fr.int (by rcases h with rfl | rfl <;> decide)
theorem rC {α β:Type} {F:α->β->Prop}:∀{l1:List α} {l2:List β} (_:Paired F l1 l2) (k:Nat),Paired F (l1.drop k) (l2.drop k)
 | _,_,h,0=>h
 | _,_,.nil,_+1=>.nil
 | _,_,.cons _ r,k+1=>rC r k
theorem N2 {t n:Nat} (h:t+n<=xs.length):rj xs (some (t:Int)) (some ((t:Int)+(n:Int)))=(xs.drop t).take n:=by
 unfold rj;rw[show ((t:Int)+(n:Int))=((t+n:Nat):Int) by lia,HT.ye,HT.ye,pE (show t<=xs.length by lia),pE h,Sb]
end L2
namespace L2
abbrev iC:=Nat->Rat
def Aw (F:List iC->Rat) (r:Nat):List iC->List iC->Rat->Rat
 | _,[],_=>0
 | pre,v :: post,s=>s*v r*F (pre++post)+Aw F r (pre++[v]) post (-s)
def iO:List Nat->List iC->Rat
 | [],[]=>1
 | [],_ :: _=>0
 | r :: rs,vs=>Aw (λws=>iO rs ws) r [] vs 1
theorem C7:iO [] (a++x :: b)=0:=by
 cases a <;> rfl
theorem CY {F:List iC->Rat} {r:Nat} {f g h:iC} {x y:Rat} (hF:∀a b,F (a++h :: b)=x*F (a++f :: b)+y*F (a++g :: b)):∀(b p q:List iC) (s:Rat),Aw F r (p++h :: q) b s=x*Aw F r (p++f :: q) b s+y*Aw F r (p++g :: q) b s
 | [],p,q,s=>by simp only[Aw,fP,kd]
 | v :: b,p,q,s=>by
  have i1:=hF p (q++b);have i2:=CY (r:=r) hF b p (q++[v]) (-s);simp only[Aw,cC,eO] at i1 i2 ⊢;rw[i1,i2];grind
theorem Ic {F:List iC->Rat} {r:Nat} {f g h:iC} {x y:Rat} (hF:∀a b,F (a++h :: b)=x*F (a++f :: b)+y*F (a++g :: b)) (hr:h r=x*f r+y*g r):∀(a pre b:List iC) (s:Rat),Aw F r pre (a++h :: b) s=x*Aw F r pre (a++f :: b) s+y*Aw F r pre (a++g :: b) s
 | [],pre,b,s=>by
  have i2:=CY (r:=r) hF b pre [] (-s);simp only[Aw,cS] at i2 ⊢;rw[i2,hr];grind
 | v :: a,pre,b,s=>by
  have i1:=hF (pre++a) b;have i2:=Ic hF hr a (pre++[v]) b (-s);simp only[Aw,cC,eO] at i1 i2 ⊢;rw[i1,i2];grind
theorem qD {f g h:iC} {x y:Rat}:∀{rs:List Nat},(∀r∈rs,h r=x*f r+y*g r)->∀a b,iO rs (a++h :: b)=x*iO rs (a++f :: b)+y*iO rs (a++g :: b)
 | [],_,a,b=>by rw[C7,C7,C7];grind
 | r :: rs,hr,a,b=>Ic (λa b=>qD (λr' h'=>hr r' (.tail _ h')) a b) (hr r (.head _)) a [] b 1
theorem LV (hr:∀r∈rs,h r=f r) (a b:List iC):iO rs (a++h :: b)=iO rs (a++f :: b):=by
 rw[qD (f:=f) (g:=f) (x:=1) (y:=0) (λr h'=>by rw[hr r h'];grind) a b];grind
theorem Iv (hr:∀r∈rs,h r=0) (a b:List iC):iO rs (a++h :: b)=0:=by
 rw[qD (f:=h) (g:=h) (x:=0) (y:=0) (λr h'=>by rw[hr r h'];grind) a b];grind
theorem Ie {F:List iC->Rat} {r:Nat} {x:iC} (hF:∀a b,F (a++x :: x :: b)=0):∀(b p q:List iC) (s:Rat),Aw F r (p++x :: x :: q) b s=0
 | [],p,q,s=>rfl
 | v :: b,p,q,s=>by
  have i1:=hF p (q++b);have i2:=Ie (r:=r) hF b p (q++[v]) (-s);simp only[Aw,cC,eO] at i1 i2 ⊢;rw[i1,i2];grind
theorem Ig {F:List iC->Rat} {r:Nat} {x:iC} (hF:∀a b,F (a++x :: x :: b)=0):∀(a pre b:List iC) (s:Rat),Aw F r pre (a++x :: x :: b) s=0
 | [],pre,b,s=>by
  have i2:=Ie (r:=r) hF b pre [] (- -s);simp only[Aw,cS,cC,eO] at i2 ⊢;rw[i2];grind
 | v :: a,pre,b,s=>by
  have i1:=hF (pre++a) b;have i2:=Ig (r:=r) hF a (pre++[v]) b (-s);simp only[Aw,cC,eO] at i1 i2 ⊢;rw[i1,i2];grind
theorem zU {x:iC}:∀{rs:List Nat} (a b:List iC),iO rs (a++x :: x :: b)=0
 | [],a,b=>C7
 | r :: rs,a,b=>Ig (λa b=>zU a b) a [] b 1
theorem NW (a b:List iC):iO rs (a++x :: y :: b)=- iO rs (a++y :: x :: b):=by
 have hr:∀r∈rs,(λr=>1*x r+1*y r) r=1*x r+1*y r:=λ_ _=>rfl
 have h0:=zU (x:=λr=>1*x r+1*y r) (rs:=rs) a b;have h1:=qD hr a ((λr=>1*x r+1*y r) :: b);have h2:=qD hr (a++[x]) b;have h3:=qD hr (a++[y]) b;have h4:=zU (x:=x) (rs:=rs) a b;have h5:=zU (x:=y) (rs:=rs) a b;simp only[cC,eO,cS] at h0 h1 h2 h3 h4 h5;rw[h1,h2,h3,h4,h5] at h0;grind
theorem C9 {x:iC} {rs:List Nat}:∀(b a c:List iC),iO rs (a++x :: (b++x :: c))=0
 | [],a,c=>zU a c
 | y :: b,a,c=>by
  have:=C9 (x:=x) (rs:=rs) b (a++[y]) c;simp only[cC,eO,cS] at this;rw[eO,NW,this];rfl
def bF:Nat->(Nat->Rat)->Rat
 | 0,_=>0
 | k+1,f=>bF k f+f k
theorem aP {f g:Nat->Rat}:∀{k:Nat},(∀j,j < k->f j=g j)->bF k f=bF k g
 | 0,_=>rfl
 | k+1,h=>by
  show bF k f+f k=bF k g+g k
  rw[aP λj hj=>h j (by lia),h k (by lia)]
theorem iP {f g:Nat->Rat}:∀{k:Nat},bF k (λj=>f j+g j)=bF k f+bF k g
 | 0=>by show (0:Rat)=0+0;grind
 | k+1=>by
  show bF k (λj=>f j+g j)+_=(bF k f+f k)+(bF k g+g k)
  rw[iP];grind
theorem cM {f:Nat->Rat} {c:Rat}:∀{k:Nat},bF k (λj=>c*f j)=c*bF k f
 | 0=>by show (0:Rat)=c*0;grind
 | k+1=>by
  show bF k (λj=>c*f j)+_=c*(bF k f+f k)
  rw[cM];grind
theorem c9 {f:Nat->Rat}:∀{k:Nat},(∀j,j < k->f j=0)->bF k f=0
 | 0,_=>rfl
 | k+1,h=>by
  show bF k f+f k=0
  rw[c9 λj hj=>h j (by lia),h k (by lia)];grind
theorem fU {f:Nat->Rat} {i:Nat}:∀{k:Nat},i < k->(∀j,j < k->j≠i->f j=0)->bF k f=f i
 | k+1,hi,h=>by
  show bF k f+f k=f i
  by_cases e:i=k
  ·subst e;rw[c9 λj hj=>h j (by lia) (by lia)];grind
  ·rw[fU (by lia) λj hj=>h j (by lia),h k (by lia) (λz=>e z.symm)];grind
theorem fR {f:Nat->Nat->Rat} {m:Nat}:∀{k:Nat},bF k (λi=>bF m (f i))=bF m (λj=>bF k λi=>f i j)
 | 0=>(c9 λ_ _=>rfl).symm
 | k+1=>by
  show bF k (λi=>bF m (f i))+bF m (f k)=bF m (λj=>bF k (λi=>f i j)+f k j)
  rw[fR,iP]
theorem v5 {rs:List Nat} {W:iC} {v:Nat->iC} {c:Nat->Rat} (a b:List iC):∀{k:Nat} {W:iC},(∀r∈rs,W r=bF k λj=>c j*v j r)->iO rs (a++W :: b)=bF k λj=>c j*iO rs (a++v j :: b)
 | 0,W,h=>Iv h a b
 | k+1,W,h=>by
  rw[qD (f:=λr=>bF k λj=>c j*v j r) (g:=v k) (x:=1) (y:=c k) (λr hr=>by rw[h r hr];show bF k _+_=_;grind) a b,v5 a b (k:=k) (W:=λr=>bF k λj=>c j*v j r) λr _=>rfl];show _=bF k _+_
  grind
end L2
namespace L2
open Nm
def kH (f:Nat->Nat):Nat->List Nat
 | 0=>[]
 | k+1=>f k :: kH f k
def hX (v:Nat->iC):Nat->List iC
 | 0=>[]
 | k+1=>v k :: hX v k
def Ac (v:Nat->iC) (i:Nat):Nat->List iC
 | 0=>[]
 | k+1=>if k<=i then [] else v k :: Ac v i k
theorem ow {f:Nat->Nat}:∀{k:Nat},(kH f k).length=k
 | 0=>rfl
 | k+1=>by show (kH f k).length+1=_;rw[ow]
theorem cw_len {v:Nat->iC}:∀{k:Nat},(hX v k).length=k
 | 0=>rfl
 | k+1=>by show (hX v k).length+1=_;rw[cw_len]
theorem kD {f:Nat->Nat} {r:Nat}:∀{k:Nat},r∈kH f k->∃t,t < k/\r=f t
 | k+1,h=>by
  rcases aI.mp h with h | h
  ·exact ⟨k,by lia,h⟩
  ·obtain ⟨t,a,b⟩:=kD h;exact ⟨t,by lia,b⟩
theorem Ec {f g:Nat->Nat}:∀{k:Nat},(∀j,j < k->f j=g j)->kH f k=kH g k
 | 0,_=>rfl
 | k+1,h=>by
  show f k :: kH f k=g k :: kH g k
  rw[h k (by lia),Ec λj hj=>h j (by lia)]
theorem cw_congr {f g:Nat->iC}:∀{k:Nat},(∀j,j < k->f j=g j)->hX f k=hX g k
 | 0,_=>rfl
 | k+1,h=>by
  show f k :: hX f k=g k :: hX g k
  rw[h k (by lia),cw_congr λj hj=>h j (by lia)]
theorem cw_mem {v:Nat->iC} {j:Nat}:∀{k:Nat},j < k->v j∈hX v k
 | k+1,h=>by
  by_cases e:j=k
  ·subst e;exact .head _
  ·exact .tail _ (cw_mem (by lia))
theorem cw_in {v:Nat->iC} {x:iC}:∀{k:Nat},x∈hX v k->∃t,t < k/\x=v t
 | k+1,h=>by
  rcases aI.mp h with h | h
  ·exact ⟨k,by lia,h⟩
  ·obtain ⟨t,a,b⟩:=cw_in h;exact ⟨t,by lia,b⟩
theorem L8 {v:Nat->iC} {i j:Nat} (h1:i < j):∀{k:Nat},j < k->v j∈Ac v i k
 | k+1,h=>by
  show v j∈if k<=i then [] else v k :: Ac v i k
  rw[if_neg (by lia)];by_cases e:j=k
  ·subst e;exact .head _
  ·exact .tail _ (L8 h1 (by lia))
theorem EL {v:Nat->iC} {i:Nat} {x:iC}:∀{k:Nat},x∈Ac v i k->∃t,t < k/\x=v t
 | k+1,h=>by
  have h:x∈if k<=i then [] else v k :: Ac v i k:=h
  split at h
  ·cases h
  ·rcases aI.mp h with h | h
   ·exact ⟨k,by lia,h⟩
   ·obtain ⟨t,a,b⟩:=EL h;exact ⟨t,by lia,b⟩
theorem cw_split {v:Nat->iC} {i:Nat}:∀{k:Nat},i < k->hX v k=Ac v i k++v i :: hX v i
 | k+1,h=>by
  show v k :: hX v k=(if k<=i then [] else v k :: Ac v i k)++_
  by_cases e:i=k
  ·subst e;rw[if_pos (ao _)];rfl
  ·rw[if_neg (by lia),cw_split (k:=k) (i:=i) (by lia)];rfl
theorem v7 {c:Nat->Rat} (hi:i < k) (hW:∀r∈rs,W r=bF k λj=>c j*v j r):iO rs (Ac v i k++W :: hX v i)=c i*iO rs (hX v k):=by
 rw[v5 (v:=v) (c:=c) (W:=W) _ _ hW,fU hi λj hj ne=>?_,cw_split hi];rcases c4 j i with h | h
 ·obtain ⟨s,t,e⟩:=Fp (cw_mem (v:=v) h);rw[e,C9];grind
 ·obtain ⟨s,t,e⟩:=Fp (L8 (v:=v) (show i < j by lia) hj);have:=C9 (x:=v j) (rs:=rs) t s (hX v i);rw[e,cC,eO,this];grind
theorem Qn {c:Nat->Rat} (hW:∀r∈rs,W r=bF k λj=>c j*v j r):iO rs (W :: hX v k)=0:=by
 have:=v5 (v:=v) (c:=c) (W:=W) [] (hX v k) hW;rw[cS] at this;rw[this];refine c9 λj hj=>?_
 obtain ⟨s,t,e⟩:=Fp (cw_mem (v:=v) hj);have:=C9 (x:=v j) (rs:=rs) s [] t;rw[cS] at this;rw[e,cS,this];grind
theorem JR {c:Nat->Rat} (hi:i∉rs) (h1:W i=bF k (λj=>c j*v j i)+s) (hW:∀r∈rs,W r=bF k λj=>c j*v j r):iO (i :: rs) (W :: hX v k)=s*iO rs (hX v k):=by
 have e:=qD (rs:=i :: rs) (h:=W) (f:=λr=>bF k λj=>c j*v j r) (g:=λr=>if r=i then 1 else 0) (x:=1) (y:=s) (λr hr=>by
  rcases aI.mp hr with rfl | hr
  ·rw[h1,if_pos rfl];grind
  ·rw[hW r hr,if_neg (λz=>hi (by rw[<- z];exact hr))];grind) [] (hX v k)
 rw[cS,cS,cS,Qn (c:=c) λr _=>rfl] at e
 have e2:iO (i :: rs) ((λr=>if r=i then (1:Rat) else 0) :: hX v k)=iO rs (hX v k):=by
  show 1*(if i=i then (1:Rat) else 0)*iO rs ([]++hX v k)+Aw (λws=>iO rs ws) i ([]++[λr=>if r=i then (1:Rat) else 0]) (hX v k) (-1)=_
  have hF:∀a b,(λws=>iO rs ws) (a++(λr=>if r=i then (1:Rat) else 0) :: b)=0*(λws=>iO rs ws) (a++(λr=>if r=i then (1:Rat) else 0) :: b)+0*(λws=>iO rs ws) (a++(λr=>if r=i then (1:Rat) else 0) :: b):=λa b=>by
   have:=Iv (h:=λr=>if r=i then (1:Rat) else 0) (rs:=rs) (λr hr=>if_neg λz=>hi (by rw[<- z];exact hr)) a b
   dsimp only
   rw[this];grind
  have:=CY (r:=i) hF (hX v k) [] [] (-1);rw[this,if_pos rfl,cS];grind
 rw[e2] at e;rw[e];grind
theorem OD {F:List iC->Rat} {r B W:Nat}:∀{post pre:List iC} {s:Rat},(∀ws,(∀w∈ws,w∈pre++post)->ws.length+1=(pre++post).length->Fr 1 B (F ws))->(∀w∈post,Fr 1 W (w r))->Fr 1 1 s->Fr 1 (post.length*(W*B)) (Aw F r pre post s)
 | [],pre,s,_,_,_=>by show Fr 1 _ 0;exact Fr.zero
 | v :: post,pre,s,hF,hw,hs=>by
  have t1:Fr 1 (W*B) (s*v r*F (pre++post)):=by
   have:=(hs.mul (hw v (.head _))).mul (hF (pre++post) (λw h=>by
    rcases aG.mp h with h | h
    ·exact gY _ h
    ·exact bI _ (.tail _ h)) (by simp only[ax,bB];lia))
   simpa using this
  have t2:=OD (F:=F) (r:=r) (B:=B) (W:=W) (post:=post) (pre:=pre++[v]) (s:=-s) (λws h h'=>hF ws (λw hw=>by simpa using h w hw) (by simpa using h')) (λw h=>hw w (.tail _ h)) (by simpa using hs.neg);exact (t1.add t2).mono (by rw[bB,c8];lia)
theorem xc {W N:Nat}:∀{rs:List Nat} {vs:List iC},vs.length<=N->(∀v∈vs,∀r∈rs,Fr 1 W (v r))->Fr 1 ((N*W)^rs.length) (iO rs vs)
 | [],[],_,_=>by show Fr 1 1 1;exact (Fr.int (i:=1) (by decide))
 | [],_ :: _,_,_=>by show Fr 1 _ 0;exact Fr.zero
 | r :: rs,vs,hl,h=>by
  have:=OD (F:=λws=>iO rs ws) (r:=r) (B:=(N*W)^rs.length) (W:=W) (post:=vs) (pre:=[]) (s:=1) (λws h1 h2=>xc (by rw[cS] at h2;lia) λv hv r' hr'=>h v (by simpa using h1 v hv) r' (.tail _ hr')) (λw hw=>h w hw r (.head _)) (Fr.int (i:=1) (by decide));refine this.mono ?_;rw[bB,ff,cw ((N*W)^rs.length),cK N];exact ay _ hl
structure Au (a:Nat->Nat->Rat) (m k:Nat) (pm p:Nat->Nat) (l:Nat->Nat->Rat) (d:Rat):Prop where
 inj:∀i j,i < m->j < m->pm i=pm j->i=j
 rng:∀i,i < m->pm i < m
 km:k<=m
 d0:d≠0
 det:d=iO (kH pm k) (hX (λj r=>a r (p j)) k)
 eqs:∀i,i < m->∀c,d*a (pm i) c=bF k (λj=>a (pm i) (p j)*l j c)+if i < k then 0 else l i c
 unit:∀i,i < m->∀j,j < k->l i (p j)=if i=j then d else 0
section
variable {a l:Nat->Nat->Rat} {m k:Nat} {pm p:Nat->Nat} {d:Rat}
theorem Au.start (h:∀i,i < m->pm i=i):Au a m 0 pm p a 1 where
 inj i j hi hj e:=by rw[h i hi,h j hj] at e;exact e
 rng i hi:=by rw[h i hi];exact hi
 km:=br _
 d0:=by decide
 det:=rfl
 eqs i hi c:=by
  rw[h i hi,if_neg (by lia)];show 1*a i c=0+a i c
  grind
 unit i _ j hj:=absurd hj (by lia)
theorem Au.coef (B:Au a m k pm p l d) (hi:i < m):a (pm i) c=bF k (λj=>(l j c / d)*a (pm i) (p j))+if i < k then 0 else l i c / d:=by
 have h:=B.eqs i hi c;have d0:=B.d0
 have e:bF k (λj=>(l j c / d)*a (pm i) (p j))=(1 / d)*bF k (λj=>a (pm i) (p j)*l j c):=by
  rw[<- cM];exact aP λj _=>by grind
 rw[e]
 split at h
 ·rw[if_pos (by assumption)];grind
 ·rw[if_neg (by assumption)];grind
theorem Au.old (B:Au a m k pm p l d) (hi:i < k):l i c=iO (kH pm k) (Ac (λj r=>a r (p j)) i k++(λr=>a r c) :: hX (λj r=>a r (p j)) i):=by
 have km:=B.km;have d0:=B.d0;rw[v7 (v:=λj r=>a r (p j)) (c:=λj=>l j c / d) hi λr hr=>?_,<- B.det]
 ·grind
 ·obtain ⟨t,ht,rfl⟩:=kD hr;have:=B.coef (i:=t) (c:=c) (by lia);rw[if_pos ht] at this;rw[this];grind
theorem Au.new (B:Au a m k pm p l d) (h1:k<=i) (hi:i < m):l i c=iO (pm i :: kH pm k) ((λr=>a r c) :: hX (λj r=>a r (p j)) k):=by
 have km:=B.km;have d0:=B.d0
 have hn:pm i∉kH pm k:=λhm=>by
  obtain ⟨t,ht,e⟩:=kD hm;have:=B.inj i t hi (by lia) e
  lia
 have e1:a (pm i) c=bF k (λj=>(l j c / d)*a (pm i) (p j))+l i c / d:=by
  have:=B.coef (i:=i) (c:=c) hi;rwa [if_neg (by lia)] at this
 have e2:∀r∈kH pm k,a r c=bF k (λj=>(l j c / d)*a r (p j)):=λr hr=>by
  obtain ⟨t,ht,rfl⟩:=kD hr;have:=B.coef (i:=t) (c:=c) (by lia);rw[if_pos ht] at this;rw[this];grind
 rw[JR (v:=λj r=>a r (p j)) (c:=λj=>l j c / d) (W:=λr=>a r c) (s:=l i c / d) hn e1 e2,<- B.det];grind
theorem Au.fr (B:Au a m k pm p l d) (hN:k < N) (hW:1<=W) (ha:∀i,i < m->∀c,Fr 1 W (a i c)) (hi:i < m):Fr 1 ((N*W)^(k+1)) (l i c):=by
 have km:=B.km;have mono:∀t,t<=k+1->(N*W)^t<=(N*W)^(k+1):=λt ht=>ar (aN (by lia) hW) ht
 have ha':∀r∈kH pm k,∀c,Fr 1 W (a r c):=λr hr c=>by
  obtain ⟨t,ht,rfl⟩:=kD hr;exact ha _ (B.rng t (by lia)) c
 by_cases h:i < k
 ·rw[B.old h];refine (xc (W:=W) (N:=N) ?_ ?_).mono (mono _ (by rw[ow];lia))
  ·have:=congrArg List.length (cw_split (v:=λj r=>a r (p j)) h);rw[ax,bB,cw_len] at this;rw[ax,bB]
   lia
  ·intro v hv r hr;rcases aG.mp hv with hv | hv
   ·obtain ⟨t,_,rfl⟩:=EL hv;exact ha' r hr _
   ·rcases aI.mp hv with rfl | hv
    ·exact ha' r hr _
    ·obtain ⟨t,_,rfl⟩:=cw_in hv;exact ha' r hr _
 ·rw[B.new (by lia) hi];refine (xc (W:=W) (N:=N) ?_ ?_).mono (mono _ (by rw[bB,ow];lia))
  ·rw[bB,cw_len]
   lia
  ·intro v hv r hr
   have hr':∀c,Fr 1 W (a r c):=λc=>by
    rcases aI.mp hr with rfl | hr
    ·exact ha _ (B.rng i hi) c
    ·exact ha' r hr c
   rcases aI.mp hv with rfl | hv
   ·exact hr' _
   ·obtain ⟨t,_,rfl⟩:=cw_in hv;exact hr' _
theorem Au.dfr (B:Au a m k pm p l d) (hN:k<=N) (ha:∀i,i < m->∀c,Fr 1 W (a i c)):Fr 1 ((N*W)^k) d:=by
 have km:=B.km;rw[B.det]
 have:=xc (W:=W) (N:=N) (rs:=kH pm k) (vs:=hX (λj r=>a r (p j)) k) (by rw[cw_len];exact hN) λv hv r hr=>by
  obtain ⟨t,ht,rfl⟩:=kD hr;obtain ⟨t',_,rfl⟩:=cw_in hv;exact ha _ (B.rng t (by lia)) _
 rwa [ow] at this
def vv (k t i:Nat):Nat:=if i=k then t else if i=t then k else i
theorem tT (hk:k < m) (ht:t < m) (hi:i < m):vv k t i < m:=by
 unfold vv
 split
 ·exact ht
 ·split
  ·exact hk
  ·exact hi
theorem O3 (h:vv k t i=vv k t j):i=j:=by
 unfold vv at h
 split at h <;> split at h <;> (try split at h) <;> (try split at h) <;> lia
theorem vp (h:k<=t) (hi:i < k):vv k t i=i:=by
 unfold vv;rw[if_neg (by lia),if_neg (by lia)]
theorem yc (h:k<=t) (hi:k<=i):k<=vv k t i:=by
 unfold vv
 split
 ·exact h
 ·split <;> lia
theorem Au.swap (B:Au a m k pm p l d) {t:Nat} (h:k<=t) (ht:t < m):Au a m k (λi=>pm (vv k t i)) p (λi=>l (vv k t i)) d where
 inj i j hi hj e:=O3 (B.inj _ _ (tT (by lia) ht hi) (tT (by lia) ht hj) e)
 rng i hi:=B.rng _ (tT (by lia) ht hi)
 km:=B.km
 d0:=B.d0
 det:=by rw[B.det,Ec (f:=pm) (g:=λi=>pm (vv k t i)) λj hj=>by rw[vp h hj]]
 eqs i hi c:=by
  have e:=B.eqs (vv k t i) (tT (by lia) ht hi) c;have e1:bF k (λj=>a (pm (vv k t i)) (p j)*l (vv k t j) c)=bF k (λj=>a (pm (vv k t i)) (p j)*l j c):=aP λj hj=>by rw[vp h hj]
  rw[e1];by_cases hk:i < k
  ·rw[vp h hk] at e ⊢;exact e
  ·rw[if_neg hk];rw[if_neg (by have:=yc h (show k<=i by lia);lia)] at e;exact e
 unit i hi j hj:=by
  rw[B.unit _ (tT (by lia) ht hi) j hj];by_cases hk:i < k
  ·rw[vp h hk]
  ·have:=yc h (show k<=i by lia);rw[if_neg (by lia),if_neg (by lia)]
theorem Au.step (B:Au a m k pm p l d) {c0:Nat} (hk:k < m) (h0:l k c0≠0):Au a m (k+1) pm (λj=>if j=k then c0 else p j) (λi c=>if i=k then l k c else (l k c0*l i c - l i c0*l k c) / d) (l k c0) where
 inj:=B.inj
 rng:=B.rng
 km:=hk
 d0:=h0
 det:=by
  rw[B.new (ao _) hk];show _=iO (pm k :: kH pm k) ((λr=>a r (if k=k then c0 else p k)) :: hX _ k)
  rw[if_pos rfl];congr 2;exact cw_congr λj hj=>by rw[if_neg (show j≠k by lia)]
 eqs i hi c:=by
  have d0:=B.d0;have e1:=B.eqs i hi c;have e2:=B.eqs i hi c0;show l k c0*a (pm i) c=(bF k _+_)+_
  have s1:bF k (λj=>a (pm i) (if j=k then c0 else p j)*(if j=k then l k c else (l k c0*l j c - l j c0*l k c) / d))=(l k c0 / d)*bF k (λj=>a (pm i) (p j)*l j c)+(- l k c / d)*bF k (λj=>a (pm i) (p j)*l j c0):=by
   rw[<- cM,<- cM,<- iP];refine aP λj hj=>?_
   rw[if_neg (show j≠k by lia),if_neg (show j≠k by lia)];grind
  rw[s1];simp only[if_true];generalize bF k (λj=>a (pm i) (p j)*l j c)=S1 at e1 ⊢;generalize bF k (λj=>a (pm i) (p j)*l j c0)=S2 at e2 ⊢;rcases vh i k with h | h | h
  ·rw[if_pos h] at e1 e2;rw[if_pos (by lia)];grind
  ·subst h;rw[if_neg (by lia)] at e1 e2;rw[if_pos (by lia)];grind
  ·rw[if_neg (by lia)] at e1 e2;rw[if_neg (by lia),if_neg (by lia)];grind
 unit i hi j hj:=by
  have d0:=B.d0;by_cases e:j=k
  ·subst e;simp only[if_true];by_cases ei:i=j
   ·rw[if_pos ei,if_pos ei]
   ·rw[if_neg ei,if_neg ei];grind
  ·have hj':j < k:=by lia
   rw[if_neg e];by_cases ei:i=k
   ·rw[if_pos ei,B.unit k hk j hj',if_neg (by lia),if_neg (by lia)]
   ·rw[if_neg ei,B.unit i hi j hj',B.unit k hk j hj',if_neg (show k≠j by lia)]
    split
    ·grind
    ·grind
end
def fo (m:Nat) (a:Nat->Nat->Rat) (x:Nat->Rat):Prop:=∃w:Nat->Rat,∀c,x c=bF m λt=>w t*a t c
section
variable {m m' k n:Nat} {a b:Nat->Nat->Rat} {x y:Nat->Rat}
theorem fo.row (hi:i < m):fo m a (a i):=⟨λt=>if t=i then 1 else 0,λc=>by
 rw[fU hi λj _ ne=>by dsimp only;rw[if_neg ne];grind]
 dsimp only
 rw[if_pos rfl];grind⟩
theorem fo.lin (α β:Rat) (hx:fo m a x) (hy:fo m a y):fo m a λc=>α*x c+β*y c:=by
 obtain ⟨w,hw⟩:=hx;obtain ⟨v,hv⟩:=hy;refine ⟨λt=>α*w t+β*v t,λc=>?_⟩
 dsimp only
 rw[hw c,hv c,<- cM,<- cM,<- iP];exact aP λj _=>by grind
theorem fo.congr (h:∀c,x c=y c) (hx:fo m a x):fo m a y:=by obtain ⟨w,hw⟩:=hx;exact ⟨w,λc=>by rw[<- h c];exact hw c⟩
theorem fo.trans (h:∀t,t < m'->fo m a (b t)) (hx:fo m' b x):fo m a x:=by
 obtain ⟨v,hv⟩:=hx
 have h2:∀t,∃w:Nat->Rat,t < m'->∀c,b t c=bF m λs=>w s*a s c:=λt=>by
  by_cases ht:t < m'
  ·obtain ⟨w,hw⟩:=h t ht;exact ⟨w,λ_=>hw⟩
  ·exact ⟨λ_=>0,λz=>absurd z ht⟩
 have hc:=Classical.axiomOfChoice h2;obtain ⟨w,hw⟩:=hc;refine ⟨λs=>bF m' λt=>v t*w t s,λc=>?_⟩;rw[hv c];have e1:bF m' (λt=>v t*b t c)=bF m' (λt=>bF m λs=>v t*(w t s*a s c)):=aP λt ht=>by rw[hw t ht c,<- cM]
 rw[e1,fR];refine aP λs _=>?_
 have:bF m' (λt=>v t*w t s)*a s c=a s c*bF m' (λt=>v t*w t s):=dA ..;rw[this,<- cM];exact aP λt _=>by grind
theorem fo.zero (h:∀c,x c=0):fo m a x:=⟨λ_=>0,λc=>by rw[h c,c9 λ_ _=>by grind]⟩
end
structure E6 (m n:Nat) (a:Nat->Nat->Rat) (k:Nat) (p:Nat->Nat) (R:Nat->Nat->Rat):Prop where
 inc:∀i j,i < j->j < k->p i < p j
 low:∀j,j < k->p j < n
 unit:∀i,i < k->∀j,j < k->R i (p j)=if i=j then 1 else 0
 lead:∀i,i < k->∀c,c < p i->R i c=0
 span:∀i,i < m->fo k R (a i)
 back:∀i,i < k->fo m a (R i)
section
variable {m m' k k' n:Nat} {a a' R R':Nat->Nat->Rat} {p p':Nat->Nat} {x:Nat->Rat}
theorem E6.coef (h:E6 m n a k p R) (hx:fo k R x) (c:Nat):x c=bF k λj=>x (p j)*R j c:=by
 obtain ⟨w,hw⟩:=hx;rw[hw c];refine aP λj hj=>?_
 rw[hw (p j),fU hj λt ht ne=>by rw[h.unit t ht j hj,if_neg ne];grind,h.unit j hj j hj,if_pos rfl];grind
theorem E6.lead_in (h:E6 m n a k p R) (hx:fo k R x) (h1:x c≠0) (h0:∀c',c' < c->x c'=0):∃j,j < k/\p j=c:=by
 refine Classical.byContradiction λhn=>h1 ?_
 rw[h.coef hx c];refine c9 λj hj=>?_
 rcases vh (p j) c with z | z | z
 ·rw[h0 _ z];grind
 ·exact absurd ⟨j,hj,z⟩ hn
 ·rw[h.lead j hj c z];grind
theorem inc_le (h1:∀i j,i < j->j < k->p i < p j) (h2:∀i j,i < j->j < k'->p' i < p' j) (hs:∀j,j < k'->∃i,i < k/\p i=p' j):∀{j:Nat},j < k'->∀{i:Nat},i < k->p i=p' j->j<=i
 | 0,_,_,_,_=>br _
 | j+1,hj,i,hi,e=>by
  obtain ⟨i0,hi0,e0⟩:=hs j (by lia);have:=inc_le h1 h2 hs (j:=j) (by lia) hi0 e0;have lt:=h2 j (j+1) (by lia) hj;rcases vh i0 i with z | z | z
  ·lia
  ·subst z;lia
  ·have:=h1 i i0 z hi0;lia
theorem LA (h1:∀i j,i < j->j < k->p i < p j) (h:i<=j) (hj:j < k):p i<=p j:=by
 rcases c4 i j with z | z
 ·exact bc (h1 i j z hj)
 ·have:i=j:=by lia
  rw[this];exact ao _
theorem Im (h1:∀i j,i < j->j < k->p i < p j) (h2:∀i j,i < j->j < k'->p' i < p' j) (hs:∀j,j < k'->∃i,i < k/\p i=p' j):k'<=k/\∀j,j < k'->p j<=p' j:=by
 refine ⟨?_,λj hj=>?_⟩
 ·rcases k9 k' with z | z
  ·lia
  ·obtain ⟨i,hi,e⟩:=hs (k' - 1) (by lia);have:=inc_le h1 h2 hs (j:=k' - 1) (by lia) hi e
   lia
 ·obtain ⟨i,hi,e⟩:=hs j hj;rw[<- e];exact LA h1 (inc_le h1 h2 hs hj hi e) hi
theorem E6.uniq (h:E6 m n a k p R) (h':E6 m' n a' k' p' R') (s1:∀i,i < m->fo m' a' (a i)) (s2:∀i,i < m'->fo m a (a' i)):k=k'/\(∀j,j < k->p j=p' j)/\∀i,i < k->∀c,R i c=R' i c:=by
 have x1:∀i,i < k->fo k' R' (R i):=λi hi=>fo.trans (λt ht=>h'.span t ht) (fo.trans s1 (h.back i hi))
 have x2:∀i,i < k'->fo k R (R' i):=λi hi=>fo.trans (λt ht=>h.span t ht) (fo.trans s2 (h'.back i hi))
 have y1:∀j,j < k->∃i,i < k'/\p' i=p j:=λj hj=>h'.lead_in (x1 j hj) (by rw[h.unit j hj j hj,if_pos rfl];decide) (h.lead j hj)
 have y2:∀j,j < k'->∃i,i < k/\p i=p' j:=λj hj=>h.lead_in (x2 j hj) (by rw[h'.unit j hj j hj,if_pos rfl];decide) (h'.lead j hj)
 obtain ⟨z1,w1⟩:=Im h'.inc h.inc y1;obtain ⟨z2,w2⟩:=Im h.inc h'.inc y2;have ek:k=k':=Nat.le_antisymm z1 z2;subst ek;have ep:∀j,j < k->p j=p' j:=λj hj=>Nat.le_antisymm (w2 j hj) (w1 j hj)
 refine ⟨rfl,ep,λi hi c=>?_⟩;rw[h.coef (x2 i hi) c,fU hi λj hj ne=>by rw[ep j hj,h'.unit i hi j hj,if_neg (λz=>ne z.symm)];grind,ep i hi,h'.unit i hi i hi,if_pos rfl];grind
end
structure nG (a:Nat->Nat->Rat) (m k P:Nat) (p:Nat->Nat) (l:Nat->Nat->Rat) (d:Rat):Prop where
 km:k<=m
 d0:d≠0
 unit:∀i,i < m->∀j,j < k->l i (p j)=if i=j then d else 0
 inc:∀i j,i < j->j < k->p i < p j
 low:∀j,j < k->p j < P
 zero:∀i,k<=i->i < m->∀c,c < P->l i c=0
 lead:∀j,j < k->∀c,c < p j->l j c=0
 there:∀i,i < m->fo m l (a i)
 back:∀i,i < m->fo m a (l i)
section
variable {m k n P:Nat} {a l l':Nat->Nat->Rat} {p:Nat->Nat} {d d':Rat}
theorem nG.start:nG a m 0 0 p a 1 where
 km:=br _
 d0:=by decide
 unit _ _ j hj:=absurd hj (by lia)
 inc _ j _ hj:=absurd hj (by lia)
 low j hj:=absurd hj (by lia)
 zero _ _ _ c hc:=absurd hc (by lia)
 lead j hj:=absurd hj (by lia)
 there i hi:=fo.row hi
 back i hi:=fo.row hi
theorem nG.skip (E:nG a m k P p l d) (h:∀i,k<=i->i < m->l i P=0):nG a m k (P+1) p l d :=
 ⟨E.km,E.d0,E.unit,E.inc,λj hj=>Nat.lt_succ_of_lt (E.low j hj),λi h1 h2 c hc=>by
  by_cases e:c=P
  ·rw[e];exact h i h1 h2
  ·exact E.zero i h1 h2 c (by lia),E.lead,E.there,E.back⟩
theorem Q3:vv k t (vv k t i)=i:=by
 unfold vv
 split
 ·split <;> (try split) <;> lia
 ·split
  ·rw[if_pos rfl];lia
  ·rfl
theorem nG.swap (E:nG a m k P p l d) {t:Nat} (h:k<=t) (ht:t < m):nG a m k P p (λi=>l (vv k t i)) d where
 km:=E.km
 d0:=E.d0
 unit i hi j hj:=by
  rw[E.unit _ (tT (by lia) ht hi) j hj];by_cases hk:i < k
  ·rw[vp h hk]
  ·have:=yc h (show k<=i by lia);rw[if_neg (by lia),if_neg (by lia)]
 inc:=E.inc
 low:=E.low
 zero i h1 h2 c hc:=E.zero _ (yc h h1) (tT (by lia) ht h2) c hc
 lead j hj c hc:=by rw[vp h hj];exact E.lead j hj c hc
 there i hi:=fo.trans (λs hs=>fo.congr (λc=>by rw[Q3]) (fo.row (a:=λi=>l (vv k t i)) (i:=vv k t s) (tT (by lia) ht hs))) (E.there i hi)
 back i hi:=E.back _ (tT (by lia) ht hi)
theorem nG.step (E:nG a m k P p l d) (hk:k < m) (h0:d'≠0) (unit':∀i,i < m->∀j,j < k+1->l' i (if j=k then P else p j)=if i=j then d' else 0)
  (hl:∀i,i < m->∃β γ:Rat,β≠0/\(i=k->γ=0)/\∀c,l' i c=β*l i c+γ*l k c):nG a m (k+1) (P+1) (λj=>if j=k then P else p j) l' d' where
 km:=hk
 d0:=h0
 unit:=unit'
 inc i j hij hj:=by
  by_cases e:j=k
  ·rw[if_pos e,if_neg (by lia)];exact E.low i (by lia)
  ·rw[if_neg e,if_neg (by lia)];exact E.inc i j hij (by lia)
 low j hj:=by
  by_cases e:j=k
  ·rw[if_pos e];lia
  ·rw[if_neg e];exact Nat.lt_succ_of_lt (E.low j (by lia))
 zero i h1 h2 c hc:=by
  by_cases e:c=P
  ·have:=unit' i h2 k (by lia);rw[if_pos rfl,if_neg (by lia)] at this;rw[e];exact this
  ·obtain ⟨β,γ,_,_,q⟩:=hl i h2;rw[q c,E.zero i (by lia) h2 c (by lia),E.zero k (ao _) hk c (by lia)];grind
 lead j hj c hc:=by
  have km:=E.km;obtain ⟨β,γ,_,_,q⟩:=hl j (by lia);by_cases e:j=k
  ·rw[if_pos e] at hc;rw[q c,e,E.zero k (ao _) hk c hc];grind
  ·rw[if_neg e] at hc;have:=E.low j (by lia);rw[q c,E.lead j (by lia) c hc,E.zero k (ao _) hk c (by lia)];grind
 there i hi:=by
  refine fo.trans (λs hs=>?_) (E.there i hi);obtain ⟨β,γ,b0,_,q⟩:=hl s hs;obtain ⟨βk,γk,bk0,gk,qk⟩:=hl k hk;have g0:=gk rfl;refine fo.congr (λc=>?_) (fo.lin (1 / β) (-(γ / β) / βk) (fo.row (a:=l') hs) (fo.row (a:=l') hk));rw[q c,qk c,g0];grind
 back i hi:=by
  obtain ⟨β,γ,_,_,q⟩:=hl i hi;exact fo.congr (λc=>(q c).symm) (fo.lin β γ (E.back i hi) (E.back k hk))
theorem nG.done (E:nG a m k n p l d) (ha:∀i,i < m->∀c,n<=c->a i c=0):E6 m n a k p (λi c=>l i c / d) where
 inc:=E.inc
 low:=E.low
 unit i hi j hj:=by
  have d0:=E.d0;have km:=E.km;rw[E.unit i (by lia) j hj]
  split
  ·grind
  ·grind
 lead i hi c hc:=by
  rw[E.lead i hi c hc];grind
 span i hi:=by
  have d0:=E.d0;refine fo.trans (λs hs=>?_) (E.there i hi);by_cases z:s < k
  ·refine fo.congr (λc=>?_) (fo.lin d 0 (fo.row (a:=λi c=>l i c / d) z) (fo.row (a:=λi c=>l i c / d) z));grind
  ·refine fo.zero λc=>?_
   by_cases hc:c < n
   ·exact E.zero s (by lia) hs c hc
   ·obtain ⟨w,hw⟩:=E.back s hs;rw[hw c,c9 λt ht=>by rw[ha t ht c (by lia)];grind]
 back i hi:=by
  have km:=E.km;have d0:=E.d0;refine fo.congr (λc=>?_) (fo.lin (1 / d) 0 (E.back i (by lia)) (E.back i (by lia)));grind
end
def eY (ls:List (List Int)) (i c:Nat):Rat:=(((ls.getD i []).getD c 0:Int):Rat)
def cJ (rows:LR9) (i c:Nat):Rat:=(rows.getD i []).getD c 0
def nX (ls:List (List Int)) (k t:Nat):List (List Int):=(ls.set k (ls.getD t [])).set t (ls.getD k [])
def EM (ls:List (List Int)) (k c:Nat) (b:Int):List (List Int):=(ls.map λzs=>List.zipWith (λx y=>((ls.getD k []).getD c 0*x - zs.getD c 0*y).fdiv b) zs (ls.getD k [])).set k (ls.getD k [])
section
variable {ls ls0:List (List Int)} {k t n P c:Nat} {b d:Int} {ps:List Nat}
theorem qB {α:Type} {l:List α} {x e:α} (hi:i < l.length):(l.set i x).getD j e=if j=i then x else l.getD j e:=by
 rw[aa,aa,List.getElem?_set];by_cases h:j=i
 ·subst h;rw[if_pos rfl,if_pos hi,if_pos rfl];rfl
 ·rw[if_neg (λz=>h z.symm),if_neg h]
theorem vq:(nX ls k t).length=ls.length:=by unfold nX;rw[eC,eC]
theorem Mf:(EM ls k c b).length=ls.length:=by unfold EM;rw[eC,ai]
theorem getD_in {α:Type} {l:List α} {e:α} (h:i < l.length):l.getD i e∈l:=by
 rw[aa,af h];exact aD h
theorem Hq (w:∀zs∈ls,zs.length=n) (hk:k < ls.length) (ht:t < ls.length):∀zs∈nX ls k t,zs.length=n:=λzs hz=>by
 unfold nX at hz;rcases cF hz with h | h
 ·rcases cF h with h | h
  ·exact w zs h
  ·rw[h];exact w _ (getD_in ht)
 ·rw[h];exact w _ (getD_in hk)
theorem IH (w:∀zs∈ls,zs.length=n) (hk:k < ls.length):∀zs∈EM ls k c b,zs.length=n:=λzs hz=>by
 unfold EM at hz;rcases cF hz with h | h
 ·obtain ⟨y,hy,rfl⟩:=aB.mp h;rw[aQ,w y hy,w _ (getD_in hk)]
  lia
 ·rw[h];exact w _ (getD_in hk)
theorem uB (hk:k < ls.length) (ht:t < ls.length) (i c:Nat):eY (nX ls k t) i c=eY ls (vv k t i) c:=by
 unfold eY nX vv;rw[qB (by rw[eC];exact ht),qB hk];by_cases h1:i=t
 ·rw[if_pos h1];by_cases h2:i=k
  ·rw[if_pos h2,<- h1,<- h2]
  ·rw[if_neg h2,if_pos h1]
 ·rw[if_neg h1];by_cases h2:i=k
  ·rw[if_pos h2,if_pos h2]
  ·rw[if_neg h2,if_neg h2,if_neg h1]
theorem zS (w:∀zs∈ls,zs.length=n) (hc:n<=c):eY ls i c=0:=by
 unfold eY;by_cases h:i < ls.length
 ·have:=w _ (getD_in (e:=[]) h);rw[aa (l:=ls.getD i []),aW (by lia)];rfl
 ·rw[aa (l:=ls),aW (by lia)];rfl
theorem o8 {x:Int} (h:(x:Rat)=0):x=0:=by
 have:(x:Rat)=((0:Int):Rat):=h;exact du.mp this
theorem Gi {x b:Int} (hb:b≠0) (hq:∃z:Int,q=(z:Rat)) (e:(x:Rat)=(b:Rat)*q):((x.fdiv b:Int):Rat)=q:=by
 obtain ⟨z,rfl⟩:=hq;rw[<- aR] at e;have:=du.mp e;rw[this,Int.mul_fdiv_cancel_left _ hb]
theorem uA (h:Fr 1 W q):∃z:Int,q=(z:Rat):=by
 obtain ⟨z,e,_⟩:=h;exact ⟨z,by rw[<- e];simp⟩
theorem tK {z:Int} (h:Fr 1 W (z:Rat)):z.natAbs<=W:=by
 obtain ⟨y,e,b⟩:=h;have:(z:Rat)=(y:Rat):=by rw[<- e];simp
 rw[du.mp this];simpa using b
theorem LN (w:∀zs∈ls,zs.length=n) (hk:k < ls.length) (hb:b≠0) (hi:i < ls.length) (hz:∀c,∃z:Int,(eY ls k P*eY ls i c - eY ls i P*eY ls k c) / (b:Rat)=(z:Rat)) (c:Nat) :
  eY (EM ls k P b) i c=if i=k then eY ls k c else (eY ls k P*eY ls i c - eY ls i P*eY ls k c) / (b:Rat):=by
 by_cases e:i=k
 ·rw[if_pos e];unfold eY EM;rw[qB (by rw[ai];exact hk),if_pos e]
 ·rw[if_neg e];by_cases hc:c < n
  ·have hb':(b:Rat)≠0:=λz=>hb (o8 z)
   have lk:=w _ (getD_in (e:=[]) hk);have li:=w _ (getD_in (e:=[]) hi)
   have e1:eY (EM ls k P b) i c=(((((ls.getD k []).getD P 0*(ls.getD i []).getD c 0 - (ls.getD i []).getD P 0*(ls.getD k []).getD c 0).fdiv b:Int)):Rat):=by
    unfold EM;rw[eY,qB (by rw[ai];exact hk),if_neg e];rw[aa (l:=List.map _ ls),aH,af hi];show ((((List.zipWith _ ls[i] (ls.getD k [])).getD c 0:Int)):Rat)=_
    have ei:ls.getD i []=ls[i]:=by rw[aa,af hi];rfl
    rw[<- ei];rw[aa (l:=List.zipWith _ _ _),bo,aa (l:=ls.getD i []) (i:=c),aa (l:=ls.getD k []) (i:=c),af (show c < (ls.getD i []).length by lia),af (show c < (ls.getD k []).length by lia)];rfl
   rw[e1];refine Gi hb (hz c) ?_;rw[Rat.intCast_sub,aR,aR];show _=(b:Rat)*((eY ls k P*eY ls i c - eY ls i P*eY ls k c) / (b:Rat))
   show eY ls k P*eY ls i c - eY ls i P*eY ls k c=_
   grind
  ·rw[zS (IH w hk) (show n<=c by lia),zS w (i:=i) (show n<=c by lia),zS w (i:=k) (show n<=c by lia)];grind
end
section
variable {m k n P:Nat} {a l l2:Nat->Nat->Rat} {pm p p2:Nat->Nat} {d:Rat}
theorem Au.congr (B:Au a m k pm p l d) (hp:∀j,j < k->p2 j=p j) (hl:∀i,i < m->∀c,l2 i c=l i c):Au a m k pm p2 l2 d where
 inj:=B.inj
 rng:=B.rng
 km:=B.km
 d0:=B.d0
 det:=by rw[B.det,cw_congr (f:=λj r=>a r (p j)) (g:=λj r=>a r (p2 j)) λj hj=>by rw[hp j hj]]
 eqs i hi c:=by
  have km:=B.km;rw[B.eqs i hi c,hl i hi c];congr 1;exact aP λj hj=>by rw[hp j hj,hl j (by lia) c]
 unit i hi j hj:=by rw[hp j hj,hl i hi];exact B.unit i hi j hj
theorem fo.rows (h:∀i,i < m->∀c,l2 i c=l i c) (hx:fo m l x):fo m l2 x:=by obtain ⟨w,hw⟩:=hx;exact ⟨w,λc=>by rw[hw c];exact aP λt ht=>by rw[h t ht c]⟩
theorem nG.congr (E:nG a m k P p l d) (hp:∀j,j < k->p2 j=p j) (hl:∀i,i < m->∀c,l2 i c=l i c):nG a m k P p2 l2 d where
 km:=E.km
 d0:=E.d0
 unit i hi j hj:=by rw[hp j hj,hl i hi];exact E.unit i hi j hj
 inc i j hij hj:=by rw[hp i (by lia),hp j hj];exact E.inc i j hij hj
 low j hj:=by rw[hp j hj];exact E.low j hj
 zero i h1 h2 c hc:=by rw[hl i h2];exact E.zero i h1 h2 c hc
 lead j hj c hc:=by
  have km:=E.km;rw[hp j hj] at hc;rw[hl j (by lia)];exact E.lead j hj c hc
 there i hi:=(E.there i hi).rows hl
 back i hi:=(E.back i hi).congr λc=>(hl i hi c).symm
theorem nG.kP (E:nG a m k P p l d):k<=P:=by
 have:∀j,j < k->j<=p j:=by
  intro j
  induction j with
  | zero=>intro _;exact br _
  | succ j ih =>
   intro hj;have:=ih (by lia);have:=E.inc j (j+1) (by lia) hj
   lia
 rcases k9 k with z | z
 ·lia
 ·have h1:=this (k - 1) (by lia);have h2:=E.low (k - 1) (by lia)
  lia
end
structure BS (ls0:List (List Int)) (n P:Nat) (ls:List (List Int)) (ps:List Nat) (d:Int):Prop where
 len:ls.length=ls0.length
 wide:∀zs∈ls,zs.length=n
 bar:∃pm,Au (eY ls0) ls0.length ps.length pm (λj=>ps.getD j 0) (eY ls) d
 el:nG (eY ls0) ls0.length ps.length P (λj=>ps.getD j 0) (eY ls) d
section
variable {ls0 ls:List (List Int)} {n P:Nat} {ps:List Nat} {d:Int}
theorem BS.start (w:∀zs∈ls0,zs.length=n):BS ls0 n 0 ls0 [] 1:=⟨rfl,w,⟨λi=>i,Au.start λ_ _=>rfl⟩,nG.start⟩
theorem BS.d0 (h:BS ls0 n P ls ps d):d≠0:=λz=>h.el.d0 (by rw[z];rfl)
theorem BS.skip (h:BS ls0 n P ls ps d) (hz:∀i,ps.length<=i->i < ls.length->eY ls i P=0):BS ls0 n (P+1) ls ps d:=⟨h.len,h.wide,h.bar,h.el.skip λi h1 h2=>hz i h1 (by rw[h.len];exact h2)⟩
theorem getD_snoc (hj:j < l.length+1):(l++[x]).getD j 0=if j=l.length then x else l.getD j 0:=by
 rw[aa,aa];by_cases e:j=l.length
 ·rw[if_pos e,e,bN (ao _),i5];rfl
 ·rw[if_neg e,cu (by lia)]
theorem BS.int (h:BS ls0 n P ls ps d) (hW:1<=W) (h0:∀i,i < ls0.length->∀c,Fr 1 W (eY ls0 i c)) (ht:ps.length<=t) (ht2:t < ls.length) (hne:eY ls t P≠0) :
  ∀i,i < ls.length->i≠ps.length->∀c,∃z:Int,(eY (nX ls ps.length t) ps.length P*eY (nX ls ps.length t) i c - eY (nX ls ps.length t) i P*eY (nX ls ps.length t) ps.length c) / (d:Rat)=(z:Rat):=λi hi ne c=>by
 obtain ⟨pm,B⟩:=h.bar;have hl:=h.len;have hk:ps.length < ls.length:=by lia
 have B1:=(B.swap ht (by lia)).congr (p2:=λj=>ps.getD j 0) (l2:=eY (nX ls ps.length t)) (λ_ _=>rfl) (λi _ c=>uB hk ht2 i c)
 have h1:eY (nX ls ps.length t) ps.length P≠0:=by
  rw[uB hk ht2];unfold vv;rw[if_pos rfl];exact hne
 have B2:=B1.step (c0:=P) (by lia) h1;have:=B2.fr (W:=W) (N:=ps.length+2) (by lia) hW h0 (i:=i) (c:=c) (by lia);rw[if_neg ne] at this;exact uA this
theorem BS.step (h:BS ls0 n P ls ps d) (hW:1<=W) (h0:∀i,i < ls0.length->∀c,Fr 1 W (eY ls0 i c)) (ht:ps.length<=t) (ht2:t < ls.length) (hne:eY ls t P≠0) :
  BS ls0 n (P+1) (EM (nX ls ps.length t) ps.length P d) (ps++[P]) (((EM (nX ls ps.length t) ps.length P d).getD ps.length []).getD P 0):=by
 obtain ⟨pm,B⟩:=h.bar;have hl:=h.len;have hk:ps.length < ls.length:=by lia
 have hz:=h.int hW h0 ht ht2 hne;have w1:=Hq h.wide hk ht2;have k1:ps.length < (nX ls ps.length t).length:=by rw[vq];exact hk
 have B1:=(B.swap ht (by lia)).congr (p2:=λj=>ps.getD j 0) (l2:=eY (nX ls ps.length t)) (λ_ _=>rfl) (λi _ c=>uB hk ht2 i c);have E1:=(h.el.swap ht (by lia)).congr (p2:=λj=>ps.getD j 0) (l2:=eY (nX ls ps.length t)) (λ_ _=>rfl) (λi _ c=>uB hk ht2 i c)
 have h1:eY (nX ls ps.length t) ps.length P≠0:=by
  rw[uB hk ht2];unfold vv;rw[if_pos rfl];exact hne
 have B2:=B1.step (c0:=P) (by lia) h1
 have fc:∀i,i < ls0.length->∀c,eY (EM (nX ls ps.length t) ps.length P d) i c=if i=ps.length then eY (nX ls ps.length t) ps.length c else (eY (nX ls ps.length t) ps.length P*eY (nX ls ps.length t) i c - eY (nX ls ps.length t) i P*eY (nX ls ps.length t) ps.length c) / (d:Rat):=λi hi c=>by
  by_cases e:i=ps.length
  ·rw[if_pos e];unfold eY EM;rw[qB (by rw[ai];exact k1),if_pos e]
  ·have:=LN w1 k1 h.d0 (i:=i) (by rw[vq];lia) (hz i (by lia) e) c;rw[this]
 have ed:(((((EM (nX ls ps.length t) ps.length P d).getD ps.length []).getD P 0:Int)):Rat)=eY (nX ls ps.length t) ps.length P:=by
  have:=fc ps.length (by lia) P;rw[if_pos rfl] at this;exact this
 have lp:(ps++[P]).length=ps.length+1:=by rw[ax];rfl
 have hp:∀j,j < ps.length+1->(ps++[P]).getD j 0=if j=ps.length then P else ps.getD j 0:=λj hj=>getD_snoc hj
 refine ⟨by rw[Mf,vq];exact hl,IH w1 k1,⟨λi=>pm (vv ps.length t i),?_⟩,?_⟩
 ·rw[ed,lp];exact B2.congr hp fc
 ·rw[ed,lp];refine nG.congr (E1.step (d':=eY (nX ls ps.length t) ps.length P) (l':=λi c=>if i=ps.length then eY (nX ls ps.length t) ps.length c else (eY (nX ls ps.length t) ps.length P*eY (nX ls ps.length t) i c - eY (nX ls ps.length t) i P*eY (nX ls ps.length t) ps.length c) / (d:Rat)) (by lia) h1 B2.unit λi hi=>?_) hp fc;have d0:=h.el.d0;by_cases e:i=ps.length
  ·refine ⟨1,0,by decide,λ_=>rfl,λc=>?_⟩;rw[if_pos e,e];grind
  ·refine ⟨eY (nX ls ps.length t) ps.length P / (d:Rat),-(eY (nX ls ps.length t) i P) / (d:Rat),?_,λz=>absurd z e,λc=>?_⟩
   ·intro z;apply h1;grind
   ·rw[if_neg e];grind
theorem BS.sz (h:BS ls0 n P ls ps d) (hW:1<=W) (h0:∀i,i < ls0.length->∀c,Fr 1 W (eY ls0 i c)) (hP:P<=n) (hr:min ls0.length n<=r) (r15:r<=15):(d.natAbs<=(16*W)^r)/\∀zs∈ls,∀z∈zs,z.natAbs<=(16*W)^r:=by
 obtain ⟨pm,B⟩:=h.bar;have kP:=h.el.kP;have km:=B.km;have hl:=h.len;have mono:∀{s t:Nat},s<=t->(16*W)^s<=(16*W)^t:=λhs=>ar (aN (by decide) hW) hs
 refine ⟨ag (tK (B.dfr (W:=W) (N:=16) (by lia) h0)) (mono (by lia)),λzs hz z hz'=>?_⟩;obtain ⟨i,hi,rfl⟩:=aY hz;obtain ⟨c,hc,rfl⟩:=aY hz';have hw:=h.wide _ (aD hi)
 have ez:eY ls i c=(((ls[i])[c]:Int):Rat):=by
  unfold eY;rw[aa (l:=ls),af hi];show ((ls[i].getD c 0:Int):Rat)=_
  rw[aa,af hc];rfl
 by_cases hk:i < ps.length
 ·have:Fr 1 ((16*W)^ps.length) (eY ls i c):=by
   have hd:=B.d0;rw[B.old hk]
   have:=xc (W:=W) (N:=16) (rs:=kH pm ps.length) (vs:=Ac (λj r=>eY ls0 r (ps.getD j 0)) i ps.length++(λr=>eY ls0 r c) :: hX (λj r=>eY ls0 r (ps.getD j 0)) i) (by
    have:=congrArg List.length (cw_split (v:=λj r=>eY ls0 r (ps.getD j 0)) hk);rw[ax,bB,cw_len] at this;rw[ax,bB]
    lia) (by
    intro v hv r hr
    have hr':∀c,Fr 1 W (eY ls0 r c):=λc=>by
     obtain ⟨t,ht,rfl⟩:=kD hr;exact h0 _ (B.rng t (by lia)) c
    rcases aG.mp hv with hv | hv
    ·obtain ⟨t,_,rfl⟩:=EL hv;exact hr' _
    ·rcases aI.mp hv with rfl | hv
     ·exact hr' _
     ·obtain ⟨t,_,rfl⟩:=cw_in hv;exact hr' _)
   rwa [ow] at this
  rw[ez] at this;exact ag (tK this) (mono (by lia))
 ·by_cases hn:ps.length < n
  ·have:=B.fr (W:=W) (N:=16) (by lia) hW h0 (i:=i) (c:=c) (by lia);rw[ez] at this;exact ag (tK this) (mono (by lia))
  ·have:=h.el.zero i (by lia) (by lia) c (by lia);rw[ez] at this;rw[o8 this];exact br _
end
def Tp (M W:Nat) (q:Rat):Prop:=∃z:Int,q*(M:Rat)=(z:Rat)/\z.natAbs<=W
theorem Tp.of {M V W:Nat} (h:Fr M V q) (hW:V*M<=W):Tp M W q:=by obtain ⟨z,a,b⟩:=h;exact ⟨z,a,ag b hW⟩
theorem Tp.mono (h:Tp M W q) (hW:W<=W'):Tp M W' q:=by obtain ⟨z,a,b⟩:=h;exact ⟨z,a,ag b hW⟩
theorem Tp.fr (h:Tp M W q) (h0:0 < M):Fr M W q:=by obtain ⟨z,a,b⟩:=h;exact ⟨z,a,ag b (cn _ h0)⟩
def E5 (rows:LR9) (n w:Nat):Prop:=∃M W:Nat,0 < M/\M<=2^215000/\1<=W/\W<=2^w/\(∀xs∈rows,∀x∈xs,Tp M W x)/\w<=215000/\min rows.length n<=15/\min rows.length n*(w+4)<=445000
def kh (xs:List Rat):List Int:=dC (xs.map nm) (eI (xs.map nm))
theorem tS:(kh xs).length=xs.length:=by unfold kh dC;rw[ai,ai]
theorem Af {xs:List Rat}:0 < eI (xs.map nm):=zK (by decide) λb hb=>by
 obtain ⟨n,hn,rfl⟩:=aB.mp hb;obtain ⟨x,_,rfl⟩:=aB.mp hn;exact gP x
theorem MI:(((kh xs).getD c 0:Int):Rat)=xs.getD c 0*((eI (xs.map nm):Int):Rat):=by
 unfold kh dC;rw[aa,aa,aH,aH];cases e:xs[c]? with
 | none=>show ((0:Int):Rat)=0*_;rw[kb];rfl
 | some x=>exact pJ (qI (aB.mpr ⟨x,av e,rfl⟩))
section
variable {rows:LR9} {n w i c:Nat} {xs:List Rat}
theorem DD (hi:i < rows.length):eY (rows.map kh) i c=((eI ((rows.getD i []).map nm):Int):Rat)*cJ rows i c:=by
 unfold eY cJ
 have e:(rows.map kh).getD i []=kh (rows.getD i []):=by
  rw[aa,aa,aH,af hi];rfl
 rw[e,MI,dA]
theorem C4 (hw:∀xs∈rows,xs.length=n) (hc:n<=c):cJ rows i c=0:=by
 unfold cJ;by_cases h:i < rows.length
 ·have:=hw _ (getD_in (e:=[]) h);rw[aa (l:=rows.getD i []),aW (by lia)];rfl
 ·rw[aa (l:=rows),aW (by lia)];rfl
theorem GS (i:Nat) (hi:i < rows.length):fo rows.length (eY (rows.map kh)) (cJ rows i):=by
 have h0:((eI ((rows.getD i []).map nm):Int):Rat)≠0:=λz=>by
  have:=Af (xs:=rows.getD i []);have:=o8 z
  lia
 refine fo.congr (λc=>?_) (fo.lin (1 / ((eI ((rows.getD i []).map nm):Int):Rat)) 0 (fo.row (a:=eY (rows.map kh)) hi) (fo.row (a:=eY (rows.map kh)) hi));rw[DD hi];grind
theorem GR (i:Nat) (hi:i < rows.length):fo rows.length (cJ rows) (eY (rows.map kh) i):=by
 refine fo.congr (λc=>?_) (fo.lin ((eI ((rows.getD i []).map nm):Int):Rat) 0 (fo.row (a:=cJ rows) hi) (fo.row (a:=cJ rows) hi));rw[DD hi];grind
theorem sP (h:Tp M W x):(nm x).2∣(M:Int):=by
 obtain ⟨z,e,b⟩:=h
 exact Fr.den (V:=z.natAbs) (M:=M) ⟨z,e,by
  rcases k9 M with h | h
  ·subst h;have:(z:Rat)=0:=by rw[<- e];simp
   rw[o8 this];simp
  ·exact cn _ h⟩
theorem yv (h:Tp M W x) (h0:0 < M) (hB:0 < B) (d1:(nm x).2∣B) (d2:B∣(M:Int)):∃t:Int,x*(B:Rat)=(t:Rat)/\t.natAbs<=W:=by
 obtain ⟨z,e,b⟩:=h;obtain ⟨s,es⟩:=d2;refine ⟨(nm x).1*(B / (nm x).2),(pJ d1).symm,?_⟩
 have s0:0 < s:=by
  rcases Int.lt_trichotomy s 0 with h | h | h
  ·have:=Int.mul_neg_of_pos_of_neg hB h
   lia
  ·rw[h] at es;lia
  ·exact h
 have e2:(((nm x).1*(B / (nm x).2)*s:Int):Rat)=(z:Rat):=by
  rw[aR,pJ d1,<- e,<- aO,es,aR];grind
 have e3:=du.mp e2;have:((nm x).1*(B / (nm x).2)).natAbs*s.natAbs=z.natAbs:=by rw[<- cI,e3]
 have h1:1<=s.natAbs:=by lia
 have:=cn ((nm x).1*(B / (nm x).2)).natAbs h1
 lia
theorem II (h0:0 < M) (h:∀x∈xs,Tp M W x):eI (xs.map nm)∣(M:Int):=yh (by decide) (Int.one_dvd _) λb hb=>by
 obtain ⟨n,hn,rfl⟩:=aB.mp hb;obtain ⟨x,hx,rfl⟩:=aB.mp hn;exact ⟨gP x,sP (h x hx)⟩
theorem E5.rowM (F:E5 rows n w) (hx:xs∈rows):∃M,E7 M (xs.map nm):=by
 obtain ⟨M,W,h0,h1,hW,h2,h3,h4,_⟩:=F;refine ⟨M,by lia,?_,λy hy=>?_⟩
 ·show ((M:Nat):Int).natAbs < 2^220000
  rw[b6];exact bg h1 (c7 (by decide) (by decide))
 ·obtain ⟨x,hx',rfl⟩:=aB.mp hy;have t:=h3 xs hx x hx';refine ⟨gP x,sP t,?_⟩;obtain ⟨s,e,b⟩:=yv t h0 (gP x) (IX _) (sP t);have e2:(((nm x).1:Int):Rat)=(s:Rat):=by rw[<- e];exact iY x
  rw[du.mp e2];exact bg (ag b h2) (c7 (by decide) (by lia))
theorem E5.ent (F:E5 rows n w):∃W:Nat,1<=W/\W<=2^w/\∀i,i < (rows.map kh).length->∀c,Fr 1 W (eY (rows.map kh) i c):=by
 obtain ⟨M,W,h0,h1,hW,h2,h3,h4,_⟩:=F;refine ⟨W,hW,h2,λi hi c=>?_⟩;rw[ai] at hi;have hx:=getD_in (e:=[]) hi;rw[DD hi];unfold cJ;generalize rows.getD i []=xs at hx ⊢;by_cases hc:c < xs.length
 ·have t:=h3 xs hx _ (getD_in (e:=0) hc);obtain ⟨s,e,b⟩:=yv t h0 (Af (xs:=xs)) (qI (aB.mpr ⟨_,getD_in (e:=0) hc,rfl⟩)) (II h0 (h3 xs hx));rw[dA,e];exact Fr.int b
 ·rw[aa,aW (by lia)];show Fr 1 W (_*0)
  rw[fP];exact Fr.zero
end
def cO (rows:LR9) (n:Nat) (R:LR9) (ps:List Nat):Prop:=R.length=ps.length/\(∀xs∈R,xs.length=n)/\E6 rows.length n (cJ rows) ps.length (λj=>ps.getD j 0) (cJ R)
structure SM (rows:LR9) (n w:Nat) (R:LR9) (ps:List Nat) (d:Int) (ls:List (List Int)):Prop where
 rr:cO rows n R ps
 d0:d≠0
 len:ls.length=ps.length
 wide:∀zs∈ls,zs.length=n
 val:∀i c,eY ls i c=(d:Rat)*cJ R i c
 dsz:d.natAbs<=2^(min rows.length n*(w+4))
 zsz:∀zs∈ls,∀z∈zs,z.natAbs<=2^(min rows.length n*(w+4))
 tp:∀xs∈R,∀x∈xs,Tp d.natAbs (2^(min rows.length n*(w+4))) x
 km:ps.length<=rows.length
theorem E6.congrR {a R R2:Nat->Nat->Rat} (h:E6 m n a k p R) (hr:∀i,i < k->∀c,R2 i c=R i c):E6 m n a k p R2 :=
 ⟨h.inc,h.low,λi hi j hj=>by rw[hr i hi];exact h.unit i hi j hj,λi hi c hc=>by rw[hr i hi];exact h.lead i hi c hc,λi hi=>(h.span i hi).rows hr,λi hi=>(h.back i hi).congr λc=>(hr i hi c).symm⟩
theorem E6.other (h:E6 m n a k p R) (s1:∀i,i < m->fo m' a' (a i)) (s2:∀i,i < m'->fo m a (a' i)):E6 m' n a' k p R :=
 ⟨h.inc,h.low,h.unit,h.lead,λi hi=>fo.trans h.span (s2 i hi),λi hi=>fo.trans s1 (h.back i hi)⟩
theorem FL (h:W<=2^w):(16*W)^r<=2^(r*(w+4)):=by
 calc (16*W)^r<=(2^(w+4))^r:=kz (by rw[az];lia) _
  _=2^(r*(w+4)):=by rw[<- ph,cw]
theorem BS.done (h:BS (rows.map kh) n n ls ps d) (hw:∀xs∈rows,xs.length=n) (F:E5 rows n w) :
  ∃R,SM rows n w R ps d (ls.take ps.length):=by
 obtain ⟨W,hW,W2,ent⟩:=F.ent;obtain ⟨_,_,_,_,_,_,_,_,r15,_⟩:=F;have hl:=h.len;have d0:=h.d0;have d0':(d:Rat)≠0:=λz=>d0 (o8 z)
 have km:=h.el.km;have hm:(rows.map kh).length=rows.length:=ai ..;obtain ⟨s1,s2⟩:=h.sz (r:=min rows.length n) hW ent (ao _) (by rw[hm];exact ao _) r15;have s2':∀zs∈ls,∀z∈zs,z.natAbs<=2^(min rows.length n*(w+4)):=λzs hz z hz'=>ag (s2 zs hz z hz') (FL W2)
 have er:∀i c,cJ ((ls.take ps.length).map λzs=>zs.map λ(z:Int)=>(z:Rat) / (d:Rat)) i c=eY (ls.take ps.length) i c / (d:Rat):=λi c=>by
  unfold cJ eY;rw[aa (l:=List.map _ _),aH,aa (l:=List.take _ _)];cases e:(ls.take ps.length)[i]? with
  | none=>show (0:Rat)=((0:Int):Rat) / _;grind
  | some zs =>
   show (zs.map λ(z:Int)=>(z:Rat) / (d:Rat)).getD c 0=((zs.getD c 0:Int):Rat) / (d:Rat)
   rw[aa,aa,aH];cases e2:zs[c]? with
   | none=>show (0:Rat)=((0:Int):Rat) / _;grind
   | some z=>rfl
 have et:∀i,i < ps.length->∀c,eY (ls.take ps.length) i c=eY ls i c:=λi hi c=>by
  unfold eY;rw[aa (l:=List.take _ _),kK hi,<- aa]
 have RR:=(h.el.done λi hi c hc=>zS (n:=n) (λzs hz=>by
  obtain ⟨xs,hx,rfl⟩:=aB.mp hz;rw[tS];exact hw xs hx) hc).congrR (R2:=cJ ((ls.take ps.length).map λzs=>zs.map λ(z:Int)=>(z:Rat) / (d:Rat))) λi hi c=>by rw[er,et i hi]
 rw[hm] at RR;refine ⟨(ls.take ps.length).map λzs=>zs.map λ(z:Int)=>(z:Rat) / (d:Rat),⟨by rw[ai,cv];lia,λxs hx=>?_,RR.other GR GS⟩,d0,by rw[cv];lia,λzs hz=>h.wide zs (bR hz),λi c=>?_,ag s1 (FL W2),λzs hz=>s2' zs (bR hz),λxs hx x hx'=>?_,by lia⟩
 ·obtain ⟨zs,hz,rfl⟩:=aB.mp hx;rw[ai];exact h.wide zs (bR hz)
 ·rw[er];grind
 ·obtain ⟨zs,hz,rfl⟩:=aB.mp hx;obtain ⟨z,hz',rfl⟩:=aB.mp hx';have b:=s2' zs (bR hz) z hz';rcases QM d with e | e
  ·refine ⟨z,?_,b⟩;have:((d.natAbs:Nat):Rat)=(d:Rat):=by rw[<- aO,<- e]
   rw[this];grind
  ·refine ⟨-z,?_,by rw[sO];exact b⟩;have:((d.natAbs:Nat):Rat)=-(d:Rat):=by rw[<- aO,<- dH];congr 1;lia
   rw[this,dH];grind
theorem LL (hl:R.length=R'.length) (w1:∀xs∈R,xs.length=n) (w2:∀xs∈R',xs.length=n) (h:∀i,i < R.length->∀c,cJ R i c=cJ R' i c):R=R':=by
 apply dB hl;intro i h1 h2;apply dB (by rw[w1 _ (aD h1),w2 _ (aD h2)]);intro c h3 h4;have:=h i h1 c;unfold cJ at this;rw[aa (l:=R),aa (l:=R'),af h1,af h2] at this;have this:(R[i]).getD c 0=(R'[i]).getD c 0:=this;rw[aa,aa,af h3,af h4] at this;exact this
theorem cO.uniq (h:cO rows n R ps) (h':cO rows' n R' ps') (s1:∀i,i < rows.length->fo rows'.length (cJ rows') (cJ rows i)) (s2:∀i,i < rows'.length->fo rows.length (cJ rows) (cJ rows' i)):R=R'/\ps=ps':=by
 obtain ⟨l1,w1,r1⟩:=h;obtain ⟨l2,w2,r2⟩:=h';obtain ⟨ek,ep,eR⟩:=r1.uniq r2 s1 s2;refine ⟨LL (by lia) w1 w2 λi hi c=>eR i (by lia) c,?_⟩;apply dB ek;intro j h1 h2;have:=ep j h1;rw[aa,aa,af h1,af h2] at this;exact this
theorem cO.same (h:cO rows n R ps) (h':cO rows n R' ps'):R=R'/\ps=ps':=h.uniq h' (λ_ hi=>fo.row hi) (λ_ hi=>fo.row hi)
open PySem PySem.Spec PyProof.Rows
def IQ (l:Addr) (H:Hp) (zs:List Int) (v:V):Prop:=∃q,v=V.ref q/\q≠l/\H q=some (.lst (zs.map V.int))
def qL (l:Addr) (H:Hp) (p:Addr) (ls:List (List Int)):Prop:=p≠l/\∃xs,H p=some (.lst xs)/\Paired (IQ l H) ls xs
theorem IQ.same (h:IQ l H zs v) (e:aK H H'):IQ l H' zs v:=by obtain ⟨q,a,n,b⟩:=h;exact ⟨q,a,n,e _ _ b⟩
theorem IQ.upd {l:Addr} {H:Hp} {zs:List Int} {v:V} {o:HO} (h:IQ l H zs v):IQ l (upd H l o) zs v:=by obtain ⟨q,a,n,b⟩:=h;exact ⟨q,a,n,by rw[bE n];exact b⟩
theorem qL.upd {l:Addr} {H:Hp} {p:Addr} {ls:List (List Int)} {o:HO} (h:qL l H p ls):qL l (upd H l o) p ls:=by obtain ⟨n,xs,a,b⟩:=h;exact ⟨n,xs,by rw[bE n];exact a,Paired.imp' (λ_ _ z=>z.upd) b⟩
theorem ne_old {H:Hp} (h:H l≠none) (n:H r=none):r≠l:=λz=>h (by rw[<- z];exact n)
theorem jT {α β:Type} {F:α->β->Prop}:∀{l1:List α} {l2:List β} (_:Paired F l1 l2) (i:Nat) {x:α} {y:β},F x y->Paired F (l1.set i x) (l2.set i y)
 | _,_,.nil,_,_,_,_=>.nil
 | _,_,.cons _ r,0,_,_,h=>.cons h r
 | _,_,.cons a r,i+1,_,_,h=>.cons a (jT r i h)
theorem Kk (h:ls[i]?=some zs):eY ls i c=((zs.getD c 0:Int):Rat):=by
 unfold eY;rw[aa (l:=ls),h];rfl
theorem Sm:((z:Int):Rat)≠0↔z≠0:=⟨λh e=>h (by rw[e];rfl),λh e=>h (o8 e)⟩
theorem yt {zs:List Int} (h:c < zs.length):Gr (zs.map V.int) (c:Int)=some (V.int (zs.getD c 0)):=eJ (by rw[aH,aa,af h];rfl)
inductive Bg (vs:List V) (H:Hp) (Q:VK) (E9:XK):Prop
 | mk (l p:Addr) (ls:List (List Int)) (b c:Nat):vs=[.ref p,.int b,.int c]->qL l H p ls->ls.length<=1000->b<=1000->(∀zs∈ls,c < zs.length)->(∀t:Nat,b<=t->t < ls.length->eY ls t c≠0->Q (.int t) H)->((∀t,b<=t->t < ls.length->eY ls t c=0)->Q .non H)->Bg  vs H Q E9
inductive wU (vs:List V) (H:Hp) (Q:VK) (E9:XK):Prop
 | mk (l p:Addr) (ls:List (List Int)) (t k:Nat):vs=[.ref p,.int t,.int k]->H l≠none->qL l H p ls->ls.length<=1000->t < ls.length->k < ls.length->(∀r H',H r=none->aK H H'->qL l H' r (nX ls k t)->Q (.ref r) H')->wU  vs H Q E9
inductive Bh (vs:List V) (H:Hp) (Q:VK) (E9:XK):Prop
 | mk (l p:Addr) (ls:List (List Int)) (k c n:Nat) (b:Int):vs=[.ref p,.int k,.int c,.int b]->H l≠none->qL l H p ls->ls.length<=1000->k < ls.length->(∀zs∈ls,zs.length=n)->n<=1000->c < n->b≠0->Sz 449950 b->(∀zs∈ls,∀z∈zs,Sz 449950 z)->(∀r H',H r=none->aK H H'->qL l H' r (EM ls k c b)->Q (.ref r) H')->Bh  vs H Q E9
theorem K8 (K:FG9) {X:Cx} {a b:Expr} {ta:TA} {p pos tpos:Pos} {elts:List Expr} {kk:Nat} (hg:Gl X "zip") (hm:X.mg "zip"=none) (ha:PA X [a,b] ta) (hK:X.K=K:=by rfl) (hs:starEach [a,b] X.env=[(false,eval a X.env),(false,eval b X.env)]:=by rfl) (hs2:starEach [b] X.env=[(false,eval b X.env)]:=by rfl) :
  PI X (.Tuple elts kk tpos) (.Call (.Name "zip" p) [a,b] [] pos) (Qf K ta):=by subst hK;exact oz hg hm ha hs hs2
def ko (ps:List Nat):List V:=ps.map λ(j:Nat)=>V.int (j:Int)
inductive A2 (K:FG9) (vs:List V) (H:Hp) (Q:VK) (E9:XK):Prop
 | mk (p:Addr) (n w:Nat) (H0:Hp) (rows:LR9):vs=[.ref p,.int n]->bH K H0 H p rows->rows.length<=100->n<=100->(∀xs∈rows,xs.length=n)->E5 rows n w->(∀t lp qp R ps d ls H',H' t=some (.tup [.ref lp,.ref qp])->H' qp=some (.lst (ko ps))->qL qp H' lp ls->aK H H'->SM rows n w R ps d ls->Q (.ref t) H')->A2 K vs H Q E9
inductive wQ (K:FG9) (vs:List V) (H:Hp) (Q:VK) (E9:XK):Prop
 | mk (p:Addr) (n w:Nat) (H0:Hp) (rows:LR9):vs=[.ref p,.int n]->bH K H0 H p rows->rows.length<=100->n<=100->(∀xs∈rows,xs.length=n)->E5 rows n w->(∀r R ps M H',H r=none->aK H H'->bH K H H' r R->cO rows n R ps->ps.length<=rows.length->0 < M->M<=2^(min rows.length n*(w+4))->(∀xs∈R,∀x∈xs,Tp M (2^(min rows.length n*(w+4))) x)->Q (.ref r) H')->wQ K vs H Q E9
def Mh (rows:LR9) (i:Nat):Rat:=((eI ((rows.getD i []).map nm):Int):Rat)
section
variable {rows rs rs':LR9} {n P w a:Nat} {ps:List Nat}
end
theorem kB (h:Tp M W x) (h0:0 < M) (h1:M<=2^199750) (h2:W<=2^199750):iZ x:=by
 refine ⟨?_,?_⟩
 ·obtain ⟨s,e,b⟩:=yv h h0 (gP x) (IX _) (sP h);have e2:(((nm x).1:Int):Rat)=(s:Rat):=by rw[<- e];exact iY x
  rw[du.mp e2];exact bg (ag b h2) (c7 (by decide) (by decide))
 ·have:=kI h0 (xV.mp (sP h));show ((x.den:Nat):Int).natAbs < _
  rw[b6];exact bg (ag this h1) (c7 (by decide) (by decide))
theorem Tp.mul (h:Tp M W x) (h':Tp M' W' y):Tp (M*M') (W*W') (x*y):=by
 obtain ⟨z,e,b⟩:=h;obtain ⟨z',e',b'⟩:=h';refine ⟨z*z',?_,by rw[cI];exact aw b b'⟩;rw[aR,<- e,<- e',fD];grind
inductive vB (K:FG9) (vs:List V) (H:Hp) (Q:VK) (E9:XK):Prop
 | mk (p q:Addr) (xs ys:List Rat):vs=[.ref p,.ref q]->cL K H p xs->cL K H q ys->ys.length=xs.length->xs.length<=1000->(∀x∈xs,iZ x)->(∀y∈ys,iZ y)->(∀r H',H r=none->aK H H'->cL K H' r (List.zipWith (λx y=>x - y) xs ys)->Q (.ref r) H')->vB K vs H Q E9
theorem Fq {xs ys:List Rat} (h:ys.length=xs.length):List.zipWith (λx y=>x - y) xs ys=(List.range xs.length).map λi=>xs.getD i 0 - ys.getD i 0:=by
 apply gZ;intro i;rw[bo,aH];by_cases hi:i < xs.length
 ·rw[cH hi,af hi,af (show i < ys.length by lia)];simp [aa,af hi,af (show i < ys.length by lia)]
 ·rw[aW (show (List.range xs.length).length<=i by simp;lia),aW (show xs.length<=i by lia)];rfl
theorem Bq {K:FG9} {rows:LR9} (pr:Paired (dm K H0 H) rows vs) (s:aK H H') (n:H q=none) (g:H' q=some (.lst vs)):bH K H0 H' q rows :=
 ⟨vs,g,Paired.imp' (λ_ _ z=>z.same s) pr,λz=>by
  obtain ⟨_,_,q',e,_,_,g',_⟩:=dh pr z;cases e;rw[n] at g';cases g'⟩
theorem cO.le (h:cO rows n R ps):ps.length<=n:=by
 obtain ⟨_,_,rr⟩:=h;rcases c4 n ps.length with z | z
 ·have inc:∀j,j < ps.length->j<=ps.getD j 0:=by
   intro j
   induction j with
   | zero=>intro _;exact br _
   | succ j ih =>
    intro hj;have:=ih (by lia);have:=rr.inc j (j+1) (by lia) hj
    lia
  have h1:=inc (ps.length - 1) (by lia);have h2:=rr.low (ps.length - 1) (by lia)
  lia
 ·exact z
theorem Tp.zero:Tp M W 0:=⟨0,by simp,by simp⟩
theorem Tp.add (h:Tp M W x) (h':Tp M W' y):Tp M (W+W') (x+y):=by
 obtain ⟨z,e,b⟩:=h;obtain ⟨z',e',b'⟩:=h';refine ⟨z+z',?_,ag (Int.natAbs_add_le _ _) (Nat.add_le_add b b')⟩;rw[Av,<- e,<- e'];grind
theorem Tp.sum {M W:Nat} {f:Nat->Rat}:∀{k:Nat},(∀j,j < k->Tp M W (f j))->Tp M (k*W) (bF k f)
 | 0,_=>Tp.zero
 | k+1,h=>by
  have:=(Tp.sum (k:=k) λj hj=>h j (by lia)).add (h k (by lia));exact this.mono (by rw[c8];exact ao _)
theorem gU {xs:List Rat} (h:∀x∈xs,Tp M W x) (c:Nat):Tp M W (xs.getD c 0):=by
 by_cases hc:c < xs.length
 ·exact h _ (getD_in hc)
 ·rw[aa,aW (by lia)];exact Tp.zero
theorem QP (h:∀xs∈R,∀x∈xs,Tp M W x) (i c:Nat):Tp M W (cJ R i c):=by
 unfold cJ;by_cases hi:i < R.length
 ·exact gU (h _ (getD_in hi)) c
 ·rw[aa (l:=R),aW (by lia)];exact Tp.zero
theorem zb {α β:Type} {F:α->β->Prop}:∀{l1:List α} {l2:List β},Paired F l1 l2->Paired F l1.reverse l2.reverse
 | _,_,.nil=>.nil
 | _,_,.cons a r=>by rw[mJ,mJ];exact bT (zb r) (.cons a .nil)
theorem LB {j:Nat}:Sg (.int (j:Int)) (ko ps)=decide (j∈ps):=by
 unfold Sg ko;rw[List.any_map,kY,List.any_eq_true,decide_eq_true_iff];constructor
 ·rintro ⟨x,hx,e⟩;have e:((x:Int) == (j:Int))=true:=e;have:(x:Int)=j:=by simpa using e
  have:x=j:=by lia
  rw[<- this];exact hx
 ·intro h;exact ⟨j,h,by show ((j:Int) == (j:Int))=true;simp⟩
theorem JF:(ko ps).all uC=true:=by
 unfold ko;rw[List.all_map];exact nW.mpr λ_ _=>rfl
theorem Lk:(ko ps).length=ps.length:=ai ..
theorem NL {i:Nat} (h:(ko ps)[i]?=some v):∃j,ps[i]?=some j/\v=V.int (j:Int):=by
 unfold ko at h;rw[aH] at h;cases e:ps[i]? with
 | none=>rw[e] at h;cases h
 | some x=>rw[e] at h;exact ⟨x,rfl,(cg h).symm⟩
section
variable {R rows:LR9} {ps:List Nat} {n a j:Nat}
theorem cW:∀{xs ys:List Rat},xs.length=ys.length->cm xs ys=bF xs.length λc=>xs.getD c 0*ys.getD c 0:=by
 intro xs ys h
 have key:∀k,k<=xs.length->cm (xs.take k) (ys.take k)=bF k λc=>xs.getD c 0*ys.getD c 0:=by
  intro k
  induction k with
  | zero=>intro _;rfl
  | succ k ih =>
   intro hk;rw[v8 (by lia) (by lia),ih (by lia)];rfl
 have:=key xs.length (ao _);rwa [aE (ao _),aE (by lia)] at this
end
theorem Iy {q:Rat} (h:q.den<=9):q.den∣2520:=by
 have:=q.den_pos;generalize q.den=d at h this;have:d=1\/d=2\/d=3\/d=4\/d=5\/d=6\/d=7\/d=8\/d=9:=by lia
 rcases this with rfl | rfl | rfl | rfl | rfl | rfl | rfl | rfl | rfl <;> decide
theorem LW (h:Dr 9 q) (hM:2520∣M):Fr M 9 q:=(Fr.own q h.1).dvd (kJ (Iy h.2) hM)
def dk (rows:LR9) (due:List Rat):LR9:=List.zipWith (λrow d=>row++[d]) rows due
def tV (R:LR9) (ps:List Nat) (n j:Nat):List Rat:=(List.range n).map λc=>bF j λi=>if ps.getD i 0=c then cJ R i n else 0
def iQ (R:LR9) (ps:List Nat) (n:Nat):List Rat:=tV R ps n ps.length
section
variable {rows R:LR9} {due xs:List Rat} {ps:List Nat} {n j:Nat}
theorem kG (h:due.length=rows.length):(dk rows due).length=rows.length:=by unfold dk;rw[aQ];lia
theorem C1 (h:∀xs∈rows,xs.length=n):∀xs∈dk rows due,xs.length=n+1:=λxs hx=>by
 unfold dk at hx;obtain ⟨i,hi,rfl⟩:=aY hx;rw[bM,ax,h _ (aD _)];rfl
theorem OF {i:Nat} (h1:rows[i]?=some row) (h2:due[i]?=some d):(dk rows due)[i]?=some (row++[d]):=by
 unfold dk;rw[bo,h1,h2]
theorem w5 (hd:due.length=rows.length) (hw:∀xs∈rows,xs.length=n) (hi:i < rows.length):(∀c,c < n->cJ (dk rows due) i c=cJ rows i c)/\cJ (dk rows due) i n=due.getD i 0:=by
 have e1:=af hi;have e2:=af (show i < due.length by lia);have ej:=OF e1 e2;have wi:=hw _ (aD hi);refine ⟨λc hc=>?_,?_⟩
 ·unfold cJ;rw[aa (l:=dk rows due),ej,aa (l:=rows),e1];show (rows[i]++[due[i]]).getD c 0=(rows[i]).getD c 0
  rw[aa,aa,cu (by lia)]
 ·unfold cJ;rw[aa (l:=dk rows due),ej,aa (l:=due),e2];show (rows[i]++[due[i]]).getD n 0=due[i]
  rw[aa,bN (by lia),wi,i5];rfl
theorem jP:(tV R ps n j).length=n:=by unfold tV;rw[ai,bw]
theorem KE (h:c < n):(tV R ps n j).getD c 0=bF j λi=>if ps.getD i 0=c then cJ R i n else 0:=by
 unfold tV;rw[aa,aH,cH h];rfl
theorem MQ:tV R ps n 0=List.replicate n 0:=by
 unfold tV;show (List.range n).map (λ_=>(0:Rat))=_
 rw[MD,bw]
theorem MR (RR:cO J (n+1) R ps) (hj:j < ps.length):(tV R ps n j).set (ps.getD j 0) (cJ R j n)=tV R ps n (j+1):=by
 obtain ⟨_,_,rr⟩:=RR;apply dB (by rw[eC,jP,jP]);intro c h1 h2;rw[jP] at h2;have e1:(tV R ps n j)[c]'(by rw[jP];exact h2)=bF j λi=>if ps.getD i 0=c then cJ R i n else 0:=by simp only[tV,iL,sN]
 have e2:(tV R ps n (j+1))[c]'(by rw[jP];exact h2)=bF j (λi=>if ps.getD i 0=c then cJ R i n else 0)+if ps.getD j 0=c then cJ R j n else 0:=by simp only[tV,iL,sN];rfl
 rw[List.getElem_set,e2];by_cases q:ps.getD j 0=c
 ·rw[if_pos q,if_pos q,c9 λi hi=>?_,Rat.zero_add];rw[if_neg];intro z;have:=rr.inc i j hi hj
  lia
 ·rw[if_neg q,if_neg q,e1,kd]
theorem MS (hp:c∉ps):(iQ R ps n).getD c 0=0:=by
 by_cases hc:c < n
 ·unfold iQ;rw[KE hc,c9 λi hi=>?_];rw[if_neg (λz=>hp (by rw[<- z];exact getD_in hi))]
 ·rw[aa,aW (by unfold iQ;rw[jP];lia)];rfl
theorem KD (hd:due.length=rows.length) (hw:∀xs∈rows,xs.length=n) (RR:cO (dk rows due) (n+1) R ps) (hn:n∉ps) (hr:rows[i]?=some row):cm row (iQ R ps n)=due.getD i 0:=by
 obtain ⟨_,_,rr⟩:=RR;have hi:=(aJ.mp hr).1;have wr:=hw row (av hr);have ef:∀c,cJ rows i c=row.getD c 0:=λc=>by unfold cJ;rw[aa (l:=rows),hr];rfl
 obtain ⟨f1,f2⟩:=w5 hd hw hi
 have low:∀j,j < ps.length->ps.getD j 0 < n:=λj hj=>by
  have:=rr.low j hj;have:ps.getD j 0≠n:=λz=>hn (by rw[<- z];exact getD_in hj)
  lia
 have co:=rr.coef (rr.span i (by rw[kG hd];exact hi)) n;rw[f2] at co;rw[co,cW (by unfold iQ;rw[jP,wr]),wr]
 have e1:bF n (λc=>row.getD c 0*(iQ R ps n).getD c 0)=bF n (λc=>bF ps.length λj=>if ps.getD j 0=c then row.getD (ps.getD j 0) 0*cJ R j n else 0):=by
  refine aP λc hc=>?_
  unfold iQ;rw[KE hc,<- cM];refine aP λj _=>?_
  split
  ·rename_i q;rw[q]
  ·grind
 rw[e1,<- fR];refine aP λj hj=>?_
 rw[fU (i:=ps.getD j 0) (low j hj) λc _ ne=>if_neg λz=>ne z.symm,if_pos rfl,f1 _ (low j hj),ef]
theorem DZ (hd:due.length=rows.length) (hw:∀xs∈rows,xs.length=n) (RR:cO (dk rows due) (n+1) R ps) (hn:n∈ps):∃w:Nat->Rat,(∀c,c < n->bF rows.length (λi=>w i*cJ rows i c)=0)/\bF rows.length (λi=>w i*due.getD i 0)=1:=by
 obtain ⟨_,_,rr⟩:=RR;obtain ⟨j,hj,ej⟩:=aY hn;have ejD:ps.getD j 0=n:=by rw[aa,af hj];exact ej
 obtain ⟨w,hw'⟩:=rr.back j hj;rw[kG hd] at hw';refine ⟨w,λc hc=>?_,?_⟩
 ·have z:=rr.lead j hj c (by rw[ejD];exact hc);rw[hw' c] at z;rw[<- z];exact aP λi hi=>by rw[(w5 hd hw hi).1 c hc]
 ·have u:=rr.unit j hj j hj;rw[if_pos rfl,ejD,hw' n] at u;rw[<- u];exact aP λi hi=>by rw[(w5 hd hw hi).2]
theorem Q6 (h0:0 < M) (tp:∀xs∈R,∀x∈xs,Tp M W x) (RR:cO J (n+1) R ps):∀x∈iQ R ps n,Tp M W x:=λx hx=>by
 obtain ⟨_,_,rr⟩:=RR;obtain ⟨c,hc,rfl⟩:=aB.mp hx;by_cases hp:∃j,j < ps.length/\ps.getD j 0=c
 ·obtain ⟨j,hj,e⟩:=hp;rw[fU hj λi hi ne=>if_neg λz=>?_,if_pos e]
  ·exact QP tp j n
  ·rcases vh i j with q | q | q
   ·have:=rr.inc i j q hj;lia
   ·exact ne q
   ·have:=rr.inc j i q hi;lia
 ·rw[c9 λj hj=>if_neg λz=>hp ⟨j,hj,z⟩];exact Tp.zero
end
inductive yz (K:FG9) (vs:List V) (H:Hp) (Q:VK) (E9:XK):Prop
 | mk (p q:Addr) (n w:Nat) (H0:Hp) (rows:LR9) (due:List Rat):vs=[.ref p,.int n,.ref q]->bH K H0 H p rows->cL K H q due->due.length=rows.length->rows.length<=99->n<=99->(∀xs∈rows,xs.length=n)->E5 (dk rows due) (n+1) w->((∀x R ps M H',cO (dk rows due) (n+1) R ps->n∉ps->H x=none->aK H H'->cL K H' x (iQ R ps n)->0 < M->M<=2^(min rows.length (n+1)*(w+4))->(∀y∈iQ R ps n,Tp M (2^(min rows.length (n+1)*(w+4))) y)->Q (.ref x) H')/\(∀R ps H',cO (dk rows due) (n+1) R ps->n∈ps->aK H H'->Q .non H'))->yz K vs H Q E9
theorem Lp:((List.range n).map λ_=>(0:Rat))=List.replicate n 0:=by rw[MD,bw]
def O5 (K:FG9):Sp:=λvs H Q _=>∃m:Nat,vs=[.int m]/\m<=100/\∀r H',H r=none->aK H H'->cL K H' r (List.replicate m 0)->Q (.ref r) H'
def Sd (rows:LR9) (ws:List Rat) (n j:Nat):List Rat:=(List.range n).map λc=>bF j λi=>ws.getD i 0*cJ rows i c
def Oi (rows:LR9) (ws:List Rat) (n:Nat):List Rat:=Sd rows ws n ws.length
section
variable {rows:LR9} {ws xs row:List Rat} {n j:Nat}
theorem Kl:(Sd rows ws n j).length=n:=by unfold Sd;rw[ai,bw]
theorem BZ (hc:c < n):(Oi rows ws n).getD c 0=bF ws.length λi=>ws.getD i 0*cJ rows i c:=by
 unfold Oi Sd;rw[aa,aH,cH hc];rfl
theorem lA (hc:c < n):(b8 rows n)[c]?=some (rows.map λxs=>xs.getD c 0):=by
 unfold b8;rw[aH,cH hc];rfl
theorem PY:(rows.map λxs=>xs.getD c 0).getD i 0=cJ rows i c:=by
 unfold cJ;rw[aa,aH,aa (l:=rows)];cases rows[i]? with
 | none=>rfl
 | some y=>rfl
theorem IY (hl:row.length=n) (RR:cO (dk (b8 rows n) row) (rows.length+1) R ps) (hn:rows.length∉ps):Oi rows (iQ R ps rows.length) n=row:=by
 have ls:(iQ R ps rows.length).length=rows.length:=jP;apply dB (by unfold Oi;rw[Kl,hl]);intro c h1 h2;have hc:c < n:=by lia
 have d:=KD (rows:=b8 rows n) (by rw[cR,hl]) (λxs hx=>fQ xs hx) RR hn (lA hc);have e:=BZ (rows:=rows) (ws:=iQ R ps rows.length) hc;have e1:(Oi rows (iQ R ps rows.length) n).getD c 0=(Oi rows (iQ R ps rows.length) n)[c]:=by rw[aa,af h1];rfl
 have e2:row.getD c 0=row[c]:=by rw[aa,af h2];rfl
 rw[<- e1,<- e2,e,<- d,cW (by rw[ai,ls]),ai,ls];exact aP λi _=>by rw[PY];grind
end
theorem Fr.up {M V M' V':Nat} (h:Fr M V x) (hd:M∣M') (hv:V<=V'):Fr M' V' x:=(h.dvd hd).mono hv
section
variable {rows R:LR9} {due:List Rat} {ps:List Nat} {n:Nat}
theorem Mc (hd:due.length=rows.length) (hw:∀xs∈rows,xs.length=n) (RR:cO (dk rows due) (n+1) R ps) (hn:n∉ps):cO rows n (R.map λxs=>xs.take n) ps:=by
 obtain ⟨l1,w1,rr⟩:=RR
 have low:∀j,j < ps.length->ps.getD j 0 < n:=λj hj=>by
  have:=rr.low j hj;have:ps.getD j 0≠n:=λz=>hn (by rw[<- z];exact getD_in hj)
  lia
 have ef:∀i c,c < n->cJ (R.map λxs=>xs.take n) i c=cJ R i c:=λi c hc=>by
  unfold cJ;rw[aa (l:=List.map _ R),aH,aa (l:=R)];cases R[i]? with
  | none=>rfl
  | some xs =>
   show (xs.take n).getD c 0=xs.getD c 0
   rw[aa,aa,kK hc]
 have wT:∀xs∈R.map (λxs=>xs.take n),xs.length=n:=λxs hx=>by
  obtain ⟨y,hy,rfl⟩:=aB.mp hx;rw[cv,w1 y hy]
  lia
 have far:∀i c,n<=c->cJ (R.map λxs=>xs.take n) i c=0:=λi c hc=>C4 wT hc
 refine ⟨by rw[ai];exact l1,wT,rr.inc,low,λi hi j hj=>?_,λi hi c hc=>?_,λi hi=>?_,λi hi=>?_⟩
 ·rw[ef i _ (low j hj)];exact rr.unit i hi j hj
 ·have:=low i hi;rw[ef i c (by lia)];exact rr.lead i hi c hc
 ·obtain ⟨w,hw'⟩:=rr.span i (by rw[kG hd];exact hi);refine ⟨w,λc=>?_⟩;by_cases hc:c < n
  ·rw[<- (w5 hd hw hi).1 c hc,hw' c];exact aP λj _=>by rw[ef j c hc]
  ·rw[C4 hw (by lia),c9 λj _=>by rw[far j c (by lia)];grind]
 ·obtain ⟨w,hw'⟩:=rr.back i hi;rw[kG hd] at hw';refine ⟨w,λc=>?_⟩;by_cases hc:c < n
  ·rw[ef i c hc,hw' c];exact aP λj hj=>by rw[(w5 hd hw hj).1 c hc]
  ·rw[far i c (by lia),c9 λj _=>by rw[C4 hw (by lia)];grind]
theorem NZ {M V D B:Nat} (h:ys.length=xs.length) (hx:∀x∈xs,Fr M V x) (hy:∀y∈ys,Fr D B y):Fr (M*D) (xs.length*(V*B)) (cm xs ys):=by
 rw[cW h.symm]
 have key:∀j,j<=xs.length->Fr (M*D) (j*(V*B)) (bF j λc=>xs.getD c 0*ys.getD c 0):=by
  intro j
  induction j with
  | zero=>intro _;exact Fr.zero
  | succ j ih =>
   intro hj;exact ((ih (by lia)).add ((hx _ (getD_in (by lia))).mul (hy _ (getD_in (by lia))))).mono (Nat.le_of_eq (c8 j (V*B)).symm)
 exact key _ (ao _)
end
def JV (K:FG9) (P:Addr->Prop) (H:Hp) (xs:List Rat) (v:V):Prop:=∃q,v=.ref q/\P q/\cL K H q xs
section
variable {K:FG9} {P:Addr->Prop} {H H':Hp} {xs:List Rat} {v:V} {b l:Addr}
theorem JV.updL (h:JV K P H xs v) (hl:H l=some (.lst ys)) (nb:∀q,P q->q≠l):JV K P (upd H l o) xs v:=by obtain ⟨q,a,c,d⟩:=h;exact ⟨q,a,c,d.updL hl (nb q c)⟩
theorem bH.ofE {rows:LR9} (g:H l=some (.lst us)) (h:Paired (JV K P H) rows us) (h0:∀q,P q->H0 q=none) (hn:∀q,P q->q≠l):bH K H0 H l rows :=
 ⟨us,g,Paired.imp' (λ_ _ ⟨q,a,c,d⟩=>⟨q,a,h0 q c,d⟩) h,λz=>by
  obtain ⟨_,_,q,e,c,_⟩:=dh h z;cases e;exact hn _ c rfl⟩
end
theorem wX {α β:Type} {F G:α->β->Prop}:∀{l1:List α} {l2:List β},(∀a b,b∈l2->F a b->G a b)->Paired F l1 l2->Paired G l1 l2
 | _,_,_,.nil=>.nil
 | _,_,h,.cons a r=>.cons (h _ _ (by simp) a) (wX (λx y hy=>h x y (by simp [hy])) r)
section
variable {rows rows' R R':LR9} {n w W:Nat} {ps ps':List Nat}
theorem AZ (hw:∀xs∈rows,xs.length=n) (hW:1<=W) (ent:∀i,i < (rows.map kh).length->∀c,Fr 1 W (eY (rows.map kh) i c)):∀P,P<=n->∃ls ps d,BS (rows.map kh) n P ls ps d:=by
 intro P
 induction P with
 | zero=>intro _;exact ⟨_,_,_,BS.start λzs hz=>by obtain ⟨x,hx,rfl⟩:=aB.mp hz;rw[tS];exact hw x hx⟩
 | succ P ih =>
  intro hP;obtain ⟨ls,ps,d,I⟩:=ih (by lia);by_cases e:∃t,ps.length<=t/\t < ls.length/\eY ls t P≠0
  ·obtain ⟨t,h1,h2,h3⟩:=e;exact ⟨_,_,_,I.step hW ent h1 h2 h3⟩
  ·exact ⟨_,_,_,I.skip λi h1 h2=>by
    by_cases z:eY ls i P=0
    ·exact z
    ·exact absurd ⟨i,h1,h2,z⟩ e⟩
theorem Bi (hw:∀xs∈rows,xs.length=n) (F:E5 rows n w):∃R ps d ls,SM rows n w R ps d ls:=by
 obtain ⟨W,hW,W2,ent⟩:=F.ent;obtain ⟨ls,ps,d,I⟩:=AZ hw hW ent n (ao _);obtain ⟨R,S⟩:=I.done hw F;exact ⟨R,ps,d,_,S⟩
theorem Rb (hw:∀xs∈rows,xs.length=n) (F:E5 rows n w) (RR:cO rows n R ps):ps.length<=rows.length/\∃M,0 < M/\M<=2^(min rows.length n*(w+4))/\∀xs∈R,∀x∈xs,Tp M (2^(min rows.length n*(w+4))) x:=by
 obtain ⟨R2,ps2,d,ls,S⟩:=Bi hw F;obtain ⟨rfl,rfl⟩:=S.rr.same RR;exact ⟨S.km,d.natAbs,Int.natAbs_pos.mpr S.d0,S.dsz,S.tp⟩
theorem JN {p q:Nat->Nat} (hp:∀i j,i < j->j < k->p i < p j) (hq:∀i j,i < j->j < k->q i < q j) (hs:∀i,i < k->∃j,j < k/\q j=p i):∀i,i < k->p i=q i:=by
 have hqm:∀i j,i<=j->j < k->q i<=q j:=λi j h hj=>by
  rcases c4 i j with z | z
  ·exact bc (hq i j z hj)
  ·have:i=j:=by lia
   rw[this];exact ao _
 have hqi:∀i j,i < k->j < k->q i < q j->i < j:=λi j hi hj h=>by
  rcases c4 i j with z | z
  ·exact z
  ·have:=hqm j i z hi
   lia
 have key:∀i,i < k->∀j,j < k->q j=p i->i<=j:=by
  intro i
  induction i with
  | zero=>intro _ j _ _;exact br _
  | succ i ih =>
   intro hi j hj e;obtain ⟨j',hj',e'⟩:=hs i (by lia);have h1:=ih (by lia) j' hj' e';have h2:=hp i (i+1) (by lia) hi;have:=hqi j' j hj' hj (by lia)
   lia
 have key2:∀t i,i+t+1=k->∀j,j < k->q j=p i->j<=i:=by
  intro t
  induction t with
  | zero=>intro i e j hj _;lia
  | succ t ih =>
   intro i e j hj ej;obtain ⟨j',hj',e'⟩:=hs (i+1) (by lia);have h1:=ih (i+1) (by lia) j' hj' e';have h2:=hp i (i+1) (by lia) (by lia);have:=hqi j j' hj hj' (by lia)
   lia
 intro i hi;obtain ⟨j,hj,e⟩:=hs i hi;have h1:=key i hi j hj e;have h2:=key2 (k - 1 - i) i (by lia) j hj e;have:j=i:=by lia
 rw[<- e,this]
theorem Jn (h:cO rows n R ps) (h':cO rows' n R' ps') (hl:ps.length=ps'.length) (hs:∀i,i < ps.length->fo ps'.length (cJ R') (cJ R i)):R=R'/\ps=ps':=by
 obtain ⟨l1,w1,r1⟩:=h;obtain ⟨l2,w2,r2⟩:=h'
 have ep:∀i,i < ps.length->ps.getD i 0=ps'.getD i 0:=JN r1.inc (by rw[hl];exact r2.inc) λi hi=>by
  have u:=r1.unit i hi i hi;rw[if_pos rfl] at u;obtain ⟨j,hj,e⟩:=r2.lead_in (hs i hi) (c:=ps.getD i 0) (by rw[u];decide) (λc hc=>r1.lead i hi c hc);exact ⟨j,by lia,e⟩
 have eps:ps=ps':=by
  apply dB hl;intro i a b;have:=ep i a;rw[aa,aa,af a,af b] at this;exact this
 refine ⟨LL (n:=n) (by lia) w1 w2 λi hi c=>?_,eps⟩;rw[l1] at hi;rw[r2.coef (hs i hi) c,<- hl,fU hi λj hj hj'=>?_]
 ·rw[<- ep i hi];have u:=r1.unit i hi i hi;rw[if_pos rfl] at u;rw[u];grind
 ·rw[<- ep j hj];have u:=r1.unit i hi j hj;rw[if_neg (Ne.symm hj')] at u;rw[u];grind
end
def qT (mv:LR9) (x:List Rat):List Rat:=mv.map λxs=>cm xs x
def kry (mv pt:LR9):Nat->LR9
 | 0=>[]
 | t+1=>pt++(kry mv pt t).map (qT mv)
section
variable {mv pt R R' S X Y:LR9} {n t m i c:Nat} {ps ps':List Nat} {a:Nat->Nat->Rat}
theorem CJ:(qT mv x).length=mv.length:=ai ..
theorem Lf (lm:mv.length=n) (wm:∀xs∈mv,xs.length=n) (wR:∀xs∈R,xs.length=n) (hi:i < R.length) (c:Nat):cJ (R.map (qT mv)) i c=bF n λj=>cJ mv c j*cJ R i j:=by
 have wi:=wR _ (aD hi);have e1:(R.map (qT mv)).getD i []=qT mv R[i]:=by rw[aa,aH,af hi];rfl
 have e2:R.getD i []=R[i]:=by rw[aa,af hi];rfl
 by_cases hc:c < n
 ·have wc:=wm _ (aD (show c < mv.length by lia));have e3:mv.getD c []=mv[c]'(by lia):=by rw[aa,af (by lia)];rfl
  have e4:(qT mv R[i]).getD c 0=cm (mv[c]'(by lia)) R[i]:=by
   unfold qT;rw[aa,aH,af (by lia)];rfl
  unfold cJ;rw[e1,e2,e3,e4,cW (by lia),wc]
 ·have e3:mv.getD c []=[]:=by rw[aa,aW (by lia)];rfl
  unfold cJ
  rw[e1,e3,aa,aW (by rw[CJ];lia),c9 λj _=>by
   show ([]:List Rat).getD j 0*_=0
   rw[aa];show (0:Rat)*_=0
   grind]
  rfl
theorem Fx (lm:mv.length=n) (wm:∀xs∈mv,xs.length=n) (wR:∀xs∈R,xs.length=n) (wS:∀xs∈S,xs.length=n) (hi:i < R.length) (h:fo S.length (cJ S) (cJ R i)):fo (S.map (qT mv)).length (cJ (S.map (qT mv))) (cJ (R.map (qT mv)) i):=by
 obtain ⟨w,hw⟩:=h;refine ⟨w,λc=>?_⟩;rw[Lf lm wm wR hi,ai]
 have e1:bF n (λj=>cJ mv c j*cJ R i j)=bF n (λj=>bF S.length λs=>w s*(cJ mv c j*cJ S s j)):=aP λj _=>by
  rw[hw j,<- cM];exact aP λs _=>by grind
 rw[e1,fR];exact aP λs hs=>by rw[cM,Lf lm wm wS hs]
theorem Oc (h:i < X.length):cJ (X++Y) i=cJ X i:=by
 funext c;unfold cJ;rw[aa (l:=X++Y),cu h,<- aa]
theorem Qt:cJ (X++Y) (X.length+i)=cJ Y i:=by
 funext c;unfold cJ;rw[aa (l:=X++Y),bN (by lia),show X.length+i - X.length=i by lia,<- aa]
theorem Ci (h1:∀i,i < X.length->fo m a (cJ X i)) (h2:∀i,i < Y.length->fo m a (cJ Y i)):∀i,i < (X++Y).length->fo m a (cJ (X++Y) i):=λi hi=>by
 rw[ax] at hi;by_cases h:i < X.length
 ·rw[Oc h];exact h1 i h
 ·obtain ⟨j,rfl⟩:∃j,i=X.length+j:=⟨i - X.length,by lia⟩;rw[Qt];exact h2 j (by lia)
theorem yx (h:i < X.length):fo (X++Y).length (cJ (X++Y)) (cJ X i):=by
 have:=fo.row (a:=cJ (X++Y)) (m:=(X++Y).length) (i:=i) (by rw[ax];lia);rwa [Oc h] at this
theorem vA (h:fo Y.length (cJ Y) x):fo (X++Y).length (cJ (X++Y)) x:=fo.trans (λs hs=>by
 have:=fo.row (a:=cJ (X++Y)) (m:=(X++Y).length) (i:=X.length+s) (by rw[ax];lia);rwa [Qt] at this) h
theorem eo (lm:mv.length=n) (wp:∀xs∈pt,xs.length=n):∀t,∀xs∈kry mv pt t,xs.length=n:=by
 intro t
 induction t with
 | zero=>intro xs hx;cases hx
 | succ t ih =>
  intro xs hx;rcases aG.mp hx with hx | hx
  ·exact wp xs hx
  ·obtain ⟨y,_,rfl⟩:=aB.mp hx;rw[CJ,lm]
theorem zM (lm:mv.length=n) (wm:∀xs∈mv,xs.length=n) (wp:∀xs∈pt,xs.length=n) (RR:cO (kry mv pt t) n R ps) (RR':cO (pt++R.map (qT mv)) n R' ps'):cO (kry mv pt (t+1)) n R' ps':=by
 have wk:=eo (mv:=mv) lm wp t;refine ⟨RR'.1,RR'.2.1,RR'.2.2.other ?_ ?_⟩
 ·refine Ci (λi hi=>yx hi) λi hi=>vA ?_
  rw[ai] at hi;exact Fx lm wm RR.2.1 wk hi (RR.2.2.back i (by rw[<- RR.1];exact hi))
 ·refine Ci (λi hi=>yx hi) λi hi=>vA ?_
  rw[ai] at hi;have:=RR.2.2.span i hi;rw[<- RR.1] at this;exact Fx lm wm wk RR.2.1 hi this
theorem Lu (lm:mv.length=n) (wm:∀xs∈mv,xs.length=n) (wp:∀xs∈pt,xs.length=n):∀t i,i < (kry mv pt t).length->fo (kry mv pt (t+1)).length (cJ (kry mv pt (t+1))) (cJ (kry mv pt t) i):=by
 intro t
 induction t with
 | zero=>intro i hi;cases hi
 | succ t ih =>
  refine Ci (λi hi=>yx hi) λi hi=>vA ?_
  rw[ai] at hi;exact Fx lm wm (eo lm wp t) (eo lm wp (t+1)) hi (ih i hi)
theorem zL (lm:mv.length=n) (wm:∀xs∈mv,xs.length=n) (wp:∀xs∈pt,xs.length=n) (RR:cO (kry mv pt t) n R ps) (RR':cO (kry mv pt (t+1)) n R' ps'):∀i,i < ps.length->fo ps'.length (cJ R') (cJ R i):=λi hi =>
 fo.trans (λs hs=>RR'.2.2.span s hs) (fo.trans (Lu lm wm wp t) (RR.2.2.back i hi))
theorem JK (lm:mv.length=n) (wm:∀xs∈mv,xs.length=n) (wp:∀xs∈pt,xs.length=n) (RR:cO (kry mv pt t) n R ps) (RR':cO (pt++R.map (qT mv)) n R' ps') (hl:ps'.length=ps.length):∀s,cO (kry mv pt (t+s)) n R ps:=by
 have K1:=zM lm wm wp RR RR';obtain ⟨e1,e2⟩:=Jn RR K1 hl.symm (zL lm wm wp RR K1);subst e1 e2;intro s
 induction s with
 | zero=>exact RR
 | succ s ih=>exact zM lm wm wp ih RR'
theorem Lv (lm:mv.length=n) (wm:∀xs∈mv,xs.length=n) (wp:∀xs∈pt,xs.length=n) (RR:cO (kry mv pt t) n R ps) (RR':cO (kry mv pt (t+1)) n R' ps'):ps.length<=ps'.length:=by
 have h:=zL lm wm wp RR RR'
 have hs:∀i,i < ps.length->∃j,j < ps'.length/\ps'.getD j 0=ps.getD i 0:=λi hi=>by
  have u:=RR.2.2.unit i hi i hi;rw[if_pos rfl] at u;exact RR'.2.2.lead_in (h i hi) (c:=ps.getD i 0) (by rw[u];decide) (λc hc=>RR.2.2.lead i hi c hc)
 rcases c4 ps'.length ps.length with z | z
 ·exfalso
  have key:∀i,i < ps.length->∀j,j < ps'.length->ps'.getD j 0=ps.getD i 0->i<=j:=by
   intro i
   induction i with
   | zero=>intro _ j _ _;exact br _
   | succ i ih =>
    intro hi j hj e;obtain ⟨j',hj',e'⟩:=hs i (by lia);have h1:=ih (by lia) j' hj' e';have h2:=RR.2.2.inc i (i+1) (by lia) hi;rcases c4 j' j with y | y
    ·lia
    ·rcases c4 j j' with x | x
     ·have:=RR'.2.2.inc j j' x hj'
      lia
     ·have:j=j':=by lia
      rw[this] at e
      lia
  obtain ⟨j,hj,e⟩:=hs (ps.length - 1) (by lia);have:=key (ps.length - 1) (by lia) j hj e
  lia
 ·exact z
theorem P6 {M V c:Nat} (lm:mv.length=n) (wm:∀xs∈mv,xs.length=n) (wp:∀xs∈pt,xs.length=n) (hc:(n+1)*V<=2^c) (fm:GF M V mv) (fp:GF M V pt):∀t,∀xs∈kry mv pt t,∀x∈xs,Fr (M^t) (2^(c*t)) x:=by
 intro t
 induction t with
 | zero=>intro xs hx;cases hx
 | succ t ih =>
  intro xs hx x hx';have hV:V<=2^c:=ag (bZ _ (by lia)) hc;rcases aG.mp hx with hx | hx
  ·refine Fr.up (fp xs hx x hx') (by rw[ff];exact dg _ _) (ag hV (ar (by decide) (cn _ (by lia))))
  ·obtain ⟨y,hy,rfl⟩:=aB.mp hx;unfold qT at hx';obtain ⟨r,hr,rfl⟩:=aB.mp hx';have wr:=wm r hr;have wy:=eo (mv:=mv) lm wp t y hy;have f:=NZ (by lia) (fm r hr) (ih y hy);rw[ff,cw (M^t)];refine f.mono ?_;rw[gh,Ms,az,cw (2^(c*t)),<- cK,wr];exact ay _ (ag (ay _ (by lia)) hc)
def wK (mv pt:LR9) (a c:Nat):Prop:=∃M V:Nat,0 < M/\M<=2^a/\(mv.length+1)*V<=2^c/\GF M V mv/\GF M V pt/\a<=400/\c<=40/\mv.length*(mv.length*(a+c)+4)<=1740/\mv.length*(mv.length*(mv.length*(a+c)+4)+a+c+4)<=445000
theorem wK.swf {a c:Nat} (F:wK mv pt a c) (D:mv.length<=8) (wm:∀xs∈mv,xs.length=mv.length) (wp:∀xs∈pt,xs.length=mv.length) (ht:t<=mv.length):E5 (kry mv pt t) mv.length (mv.length*(a+c)):=by
 obtain ⟨M,V,M0,Ma,hV,fm,fp,a3,c3,e14,e89⟩:=F;have f:=P6 rfl wm wp hV fm fp t;have h1:mv.length*(a+c)<=8*440:=aw D (by lia);have hM:M^t<=2^(a*mv.length):=ag (kz Ma _) (by rw[<- ph];exact ar (by decide) (aA _ ht));have h2:a*mv.length<=mv.length*(a+c):=by rw[cw];exact aA _ (by lia)
 have h3:mv.length=0\/mv.length*(a+c)<=1740:=by
  rcases k9 mv.length with z | z
  ·exact .inl z
  ·right
   have:=bZ (mv.length*(a+c)+4) z
   lia
 have h4:mv.length*(a+c)<=1740:=by
  rcases h3 with z | z
  ·rw[z];lia
  ·exact z
 refine ⟨M^t,2^(mv.length*(a+c)),fZ M0,ag hM (ar (by decide) (by lia)),cX,ao _,λxs hx x hx'=>Tp.of (f xs hx x hx') ?_,by lia,by lia,?_⟩
 ·refine ag (aw (ar (by decide) (aA c ht)) hM) ?_;rw[<- az];refine ar (by decide) ?_;rw[cw c,cw a,<- gh,rh c];exact ao _
 ·exact ag (ay _ (Kc _ _)) (by lia)
theorem wK.tp {a c:Nat} (F:wK mv pt a c) (D:mv.length<=8) (wm:∀xs∈mv,xs.length=mv.length) (wp:∀xs∈pt,xs.length=mv.length) (ht:t<=mv.length) (RR:cO (kry mv pt t) mv.length R ps):∃M,0 < M/\M<=2^(mv.length*(mv.length*(a+c)+4))/\∀xs∈R,∀x∈xs,Tp M (2^(mv.length*(mv.length*(a+c)+4))) x:=by
 obtain ⟨_,M,h0,h1,h2⟩:=Rb (eo rfl wp t) (F.swf D wm wp ht) RR;have le:2^(min (kry mv pt t).length mv.length*(mv.length*(a+c)+4))<=2^(mv.length*(mv.length*(a+c)+4)):=ar (by decide) (ay _ (Kc _ _));exact ⟨M,h0,ag h1 le,λxs hx x hx'=>(h2 xs hx x hx').mono le⟩
theorem wK.step {a c:Nat} (F:wK mv pt a c) (D:mv.length<=8) (wm:∀xs∈mv,xs.length=mv.length) (wp:∀xs∈pt,xs.length=mv.length) (ht:t<=mv.length) (RR:cO (kry mv pt t) mv.length R ps):E5 (pt++R.map (qT mv)) mv.length (mv.length*(mv.length*(a+c)+4)+a+c):=by
 obtain ⟨N,N0,N1,tN⟩:=F.tp D wm wp ht RR;obtain ⟨M,V,M0,Ma,hV,fm,fp,a3,c3,e14,e89⟩:=F;generalize mv.length*(mv.length*(a+c)+4)=e at *
 have V1:V<=2^c:=ag (bZ _ (by lia)) hV;have eW:(2:Nat)^(e+a+c)=2^c*(2^a*2^e):=by rw[<- az,<- az];congr 1;lia
 refine ⟨N*M,2^(e+a+c),aN N0 M0,?_,cX,ao _,λxs hx x hx'=>?_,by lia,by lia,?_⟩
 ·exact ag (aw N1 Ma) (by rw[<- az];exact ar (by decide) (by lia))
 ·rcases aG.mp hx with hx | hx
  ·refine Tp.of ((fp xs hx x hx').scaleL N) ?_;rw[eW,cw N];exact aw V1 (aw Ma N1)
  ·obtain ⟨y,hy,rfl⟩:=aB.mp hx;unfold qT at hx';obtain ⟨r,hr,rfl⟩:=aB.mp hx';have wr:=wm r hr;have wy:=RR.2.1 y hy;rw[cW (by lia),wr];have t1:∀j,Tp M (V*M) (r.getD j 0):=λj=>gU (λx hx=>Tp.of (fm r hr x hx) (ao _)) j
   have t2:∀j,Tp N (2^e) (y.getD j 0):=λj=>gU (tN y hy) j
   have:=Tp.sum (k:=mv.length) (M:=N*M) (W:=V*M*2^e) (f:=λj=>r.getD j 0*y.getD j 0) λj _=>by
    have:=(t1 j).mul (t2 j);rwa [cw M N] at this
   refine this.mono ?_;rw[eW,cK V,<- cK mv.length];exact aw (ag (ay _ (by lia)) hV) (ay _ Ma)
 ·exact ag (ay _ (Kc _ _)) (by rw[show e+a+c+4=e+a+c+4 from rfl];exact e89)
theorem wK.fit {a c:Nat} (F:wK mv pt a c) (D:mv.length<=8) (wm:∀xs∈mv,xs.length=mv.length) (wp:∀xs∈pt,xs.length=mv.length) (ht:t<=mv.length) (RR:cO (kry mv pt t) mv.length R ps):∀xs∈mv,∀r∈R,Fl xs r:=λxs hx r hr=>by
 obtain ⟨N,N0,N1,tN⟩:=F.tp D wm wp ht RR;obtain ⟨M,V,M0,Ma,hV,fm,fp,a3,c3,e14,e89⟩:=F;have V1:V<=2^c:=ag (bZ _ (by lia)) hV;have p14:=ar (show 0 < 2 by decide) e14;exact ⟨400,40,1740,1740,⟨M,V,M0,ag Ma (ar (by decide) a3),ag V1 (ar (by decide) c3),fm xs hx⟩,⟨N,2^1740,N0,ag N1 p14,ao _,λx hx=>((tN r hr x hx).mono p14).fr N0⟩,by decide⟩
end
inductive A6 (K:FG9) (C:Addr) (vs:List V) (H:Hp) (Q:VK) (E9:XK):Prop
 | mk (x p:Addr) (H0 H1:Hp) (mv pt lk R:LR9):vs=[.ref x,.ref p]->kU K H0 H C x mv pt lk->gG mv pt lk->bH K H1 H p R->R.length<=100->(∀r∈R,r.length=mv.length)->(∀xs∈mv,∀r∈R,Fl xs r)->(∀r H',H r=none->aK H H'->bH K H H' r (R.map (qT mv))->Q (.ref r) H')->A6 K C vs H Q E9
structure Ap (mv pt:LR9) (Rs:List (LR9)):Prop where
 ne:Rs≠[]
 rr:∀t R,Rs[t]?=some R->∃ps,cO (kry mv pt t) mv.length R ps
 up:∀t R R',Rs[t]?=some R->Rs[t+1]?=some R'->R.length < R'.length
def GrL (K:FG9) (H0 H:Hp) (l:Addr) (Rs:List (LR9)):Prop:=∃us,H l=some (.lst us)/\Paired (λR v=>∃q,v=V.ref q/\H0 q=none/\q≠l/\bH K H0 H q R) Rs us
inductive Bf (K:FG9) (C:Addr) (vs:List V) (H:Hp) (Q:VK) (E9:XK):Prop
 | mk (x:Addr) (a c st:Nat) (H0:Hp) (mv pt lk:LR9):vs=[.ref x,.int st]->st<=1000->kU K H0 H C x mv pt lk->gG mv pt lk->wK mv pt a c->(∀r Rs H',H r=none->aK H H'->GrL K H H' r Rs->Ap mv pt Rs->Rs.length<=st+1->(∀R,Rs.getLast?=some R->∀s,(Rs.length - 1=st/\s=st\/Rs.length - 1 < st/\Rs.length - 1<=s)->∃ps,cO (kry mv pt s) mv.length R ps)->Q (.ref r) H')->Bf K C vs H Q E9
section
variable {K:FG9} {H0 H1 H H':Hp} {p l:Addr} {rows mv pt R R':LR9} {Rs:List (LR9)} {t:Nat}
theorem bH.weakN (h:bH K H0 H p rows) (hn:∀q,H0 q=none->H1 q=none):bH K H1 H p rows:=by obtain ⟨xs,g,r,n⟩:=h;exact ⟨xs,g,Paired.imp' (λ_ _ ⟨q,a,b,c⟩=>⟨q,a,hn q b,c⟩) r,n⟩
theorem bH.updL (h:bH K H0 H p rows) (hl:H l=some (.lst ys)) (nl:H0 l≠none) (pl:p≠l):bH K H0 (upd H l o) p rows:=by obtain ⟨xs,g,r,n⟩:=h;exact ⟨xs,by rw[bE pl];exact g,Paired.imp' (λ_ _ z=>dm.updL z hl nl) r,n⟩
theorem Pb:cO [] n [] []:=⟨rfl,(λ_ h=>by cases h),(λ_ _ _ h=>absurd h (fE _)),(λ_ h=>absurd h (fE _)),(λ_ h=>absurd h (fE _)),(λ_ h=>absurd h (fE _)),(λ_ h=>absurd h (fE _)),(λ_ h=>absurd h (fE _))⟩
theorem Ap.len (h:Ap mv pt Rs):∀(t:Nat) (R:LR9),Rs[t]?=some R->t<=R.length:=by
 intro t
 induction t with
 | zero=>intro R _;exact br _
 | succ t ih =>
  intro R e;have ht:=(aJ.mp e).1;have e0:=af (show t < Rs.length by lia);have:=ih _ e0;have:=h.up t _ R e0 e
  lia
theorem Ap.snoc (h:Ap mv pt (Rs++[R])) (h1:cO (kry mv pt (Rs.length+1)) mv.length R' ps') (h2:R.length < R'.length):Ap mv pt ((Rs++[R])++[R']):=by
 have l1:(Rs++[R]).length=Rs.length+1:=by rw[ax];rfl
 refine ⟨by simp,λt S e=>?_,λt S S' e e'=>?_⟩
 ·rcases c4 t (Rs.length+1) with z | z
  ·rw[cu (by lia)] at e;exact h.rr t S e
  ·have ht:=(aJ.mp e).1;rw[ax,bS] at ht;have:t=Rs.length+1:=by lia
   subst this;rw[bN (by lia),l1,i5] at e;cases e;exact ⟨ps',h1⟩
 ·have ht:=(aJ.mp e').1;rw[ax,bS] at ht;rw[cu (by lia)] at e;rcases c4 (t+1) (Rs.length+1) with z | z
  ·rw[cu (by lia)] at e';exact h.up t S S' e e'
  ·have:t=Rs.length:=by lia
   subst this;rw[bN (by lia),l1,i5] at e';cases e';rw[bN (ao _),i5] at e;cases e;exact h2
end
theorem bH.toE {K:FG9} (h:bH K H0 H l rows):∃us,H l=some (.lst us)/\Paired (JV K (λq=>H0 q=none/\q≠l) H) rows us:=by
 obtain ⟨us,g,pr,nn⟩:=h;exact ⟨us,g,wX (λxs v hv ⟨q,e,a,b⟩=>⟨q,e,⟨a,λz=>nn (by rw[<- z,<- e];exact hv)⟩,b⟩) pr⟩
theorem Bn {α:Type} {v:α}:∀{l:List α},l.Nodup->v∉l->∀j,(l.set j v).Nodup
 | [],_,_,_=>mK
 | a :: l,h,hn,0=>by
  rw[eB] at h;rw[List.set_cons_zero,eB];exact ⟨λz=>hn (.tail _ z),h.2⟩
 | a :: l,h,hn,j+1=>by
  rw[eB] at h;rw[List.set_cons_succ,eB];refine ⟨λz=>?_,Bn h.2 (λz=>hn (.tail _ z)) j⟩;rcases cF z with z | z
  ·exact h.1 z
  ·exact hn (by rw[z];exact .head _)
structure jL (K:FG9) (A:Addr->Prop) (H:Hp) (n:Nat) (C:V->Rat->Prop) (m p l b q0:Addr) (us ws vs:List V):Prop where
 bag:hZ H b
 inn:Inner H b q0
 gm:H m=some (.lst us)
 gp:H p=some (.lst ws)
 gl:H l=some (.lst vs)
 lm:us.length=n
 row:∀x∈us++vs++ws,fN K A H n (C x) x
 nd:(us++vs++ws).Nodup
section
variable {K:FG9} {A:Addr->Prop} {H H':Hp} {n:Nat} {C C':V->Rat->Prop} {m p l b q0 q:Addr} {us ws vs zs:List V} {y:Rat} {v:V}
theorem jL.same (h:jL K A H n C m p l b q0 us ws vs) (e:aK H H'):jL K A H' n C m p l b q0 us ws vs :=
 ⟨h.bag.same e,(e.upto (p:=b)).2 _ h.inn,e _ _ h.gm,e _ _ h.gp,e _ _ h.gl,h.lm,λx hx=>(h.row x hx).same e,h.nd⟩
theorem jL.upto (h:jL K A H n C m p l b q0 us ws vs) (M:Fb A m p l b q0) (u:cZ b H H') (B':hZ H' b):jL K A H' n C m p l b q0 us ws vs :=
 ⟨B',u.2 _ h.inn,u.other M.mb h.gm,u.other M.pb h.gp,u.other M.lb h.gl,h.lm,λx hx=>(h.row x hx).upto u h.bag M.ab,h.nd⟩
theorem jL.weak (h:jL K A H n C m p l b q0 us ws vs) (w:∀x∈us++vs++ws,∀y,C x y->C' x y):jL K A H n C' m p l b q0 us ws vs :=
 ⟨h.bag,h.inn,h.gm,h.gp,h.gl,h.lm,λx hx=>(h.row x hx).weak (λ_ z=>z) (w x hx),h.nd⟩
theorem jL.put (h:jL K A H n C m p l b q0 us ws vs) (M:Fb A m p l b q0) (aq:A q) (hq:H q=some (.lst zs)) (hv:bV K H y v) (hc:C (.ref q) y) (j:Nat):jL K A (upd H q (.lst (zs.set j v))) n C m p l b q0 us ws vs:=by
 have ne:∀{z},¬A z->z≠q:=λh e=>h (by rw[e];exact aq)
 refine ⟨h.bag.upd h.inn (ne M.ab).symm (ne M.aq).symm,h.inn.upd (ne M.ab).symm,by rw[bE (ne M.am)];exact h.gm,by rw[bE (ne M.ap)];exact h.gp,by rw[bE (ne M.al)];exact h.gl,h.lm,λx hx=>?_,h.nd⟩;by_cases e:x=.ref q
 ·subst e;exact (h.row _ hx).put hq hv hc j
 ·obtain ⟨q1,qs,rfl,a1,r1,l1,c1⟩:=h.row x hx;exact ⟨q1,qs,rfl,a1,r1.updL hq (λz=>e (by rw[z])),l1,c1⟩
theorem jL.set (h:jL K A H n C m p l b q0 us ws vs) (M:Fb A m p l b q0) (hx:fN K A H n (C v) v) (hn:v∉us++vs++ws) (j:Nat):jL K A (upd H m (.lst (us.set j v))) n C m p l b q0 (us.set j v) ws vs:=by
 have mem:∀x∈us.set j v++vs++ws,x=v\/x∈us++vs++ws:=λx hx=>by
  rcases aG.mp hx with hx | hx
  ·rcases aG.mp hx with hx | hx
   ·rcases cF hx with hx | hx
    ·exact .inr (by simp [hx])
    ·exact .inl hx
   ·exact .inr (by simp [hx])
  ·exact .inr (by simp [hx])
 refine ⟨h.bag.upd h.inn M.mb M.mq,h.inn.upd M.mb,aM,by rw[bE M.mp.symm];exact h.gp,by rw[bE M.ml.symm];exact h.gl,by rw[eC];exact h.lm,λx hx'=>?_,?_⟩
 ·rcases mem x hx' with rfl | hx'
  ·exact hx.other h.gm M.am
  ·exact (h.row x hx').other h.gm M.am
 ·have nd:=h.nd;rw[cC] at nd hn ⊢;obtain ⟨n1,n2,n3⟩:=dG.mp nd;refine dG.mpr ⟨?_,n2,λa ha c hc=>?_⟩
  ·rcases c4 j us.length with z | z
   ·exact Bn n1 (λz'=>hn (aG.mpr (.inl z'))) j
   ·rw[List.set_eq_of_length_le z];exact n1
  ·rcases cF ha with ha | rfl
   ·exact n3 a ha c hc
   ·exact λz=>hn (aG.mpr (.inr (by rw[z];exact hc)))
end
theorem Ir (h0:0 < M) (h1:M<=2^800) (hW:W<=2^140) (h:Fr M W x):iZ x :=
 Gg h0 (ag h1 (ar (by decide) (by decide))) (ag hW (ar (by decide) (by decide))) h
theorem NA {t V c:Nat} (ht:t<=3) (hV:V<=2^20) (hc:c<=9):c*(9^t*V)<=2^140:=by
 have h1:9^t<=9^3:=ar (by decide) ht;have h2:c*(9^t*V)<=9*(9^3*2^20):=aw hc (aw h1 hV);exact ag h2 (ag (show 9*(9^3*2^20)<=2^40 by decide) (ar (by decide) (by decide)))
theorem oE {α:Type} {l:List α} {v:α} (h:l.Nodup) (hn:v∉l):(l++[v]).Nodup:=dG.mpr ⟨h,by simp,λa ha c hc=>by rw[cD.mp hc];exact λz=>hn (by rw[<- z];exact ha)⟩
section
variable {K:FG9} {a:Addr} {xs:List V} {g:TG} {tf:TT} {te:TE} {Q:VK} {σ₀:St} {H:Hp} {α β:Type}
theorem BF (G:Hp->β->V->Prop) (C:β->Prop) (hB:hZ H b) (hl:n<=1000) (hG:∀{H' H'' c x},G H' c x->cZ b H' H''->hZ H' b->G H'' c x)
  (hA:∀{H' c x},G H' c x->∃q,x=V.ref q/\H' q≠none)
  (hs:∀(i:Nat) H' NY NN,i < n->cZ b H H'->hZ H' b->(∀y c H2,cZ b H' H2->hZ H2 b->C c->G H2 c y->(∃q,y=V.ref q/\H' q=none)->NY y H2)->pK σ₀ g tf te (.int i) H' NY NN)
  (hd:∀ys cs H' p,H p=none->cZ b H H'->hZ H' b->H' p=some (.lst ys)->cs.length=n->ys.Nodup->(∀c∈cs,C c)->Paired (G H') cs ys->(∃H2,H2 p=none/\Paired (G H2) cs ys)->Q (.ref p) H'):qQ (Fm 0 n) σ₀ g tf te Q H:=by
 refine tO (λi ys H'=>cZ b H H'/\hZ H' b/\∃cs,cs.length=i/\ys.Nodup/\(∀c∈cs,C c)/\Paired (G H') cs ys) (bc (bK (by lia))) ⟨(aK.refl _).upto,hB,[],rfl,mK,(λ_ z=>nomatch z),.nil⟩ ?_ ?_
 ·rintro i ys H' hi hlen ⟨u,B,cs,lc,nd,hc,pr⟩;rw[IW];refine hs i H' _ _ hi u B λy c H2 u2 B2 cc gy ⟨q,ey,nq⟩=>⟨u.trans u2,B2,cs++[c],by simp [lc],oE nd (λz=>by obtain ⟨c',_,gc⟩:=dh pr z;obtain ⟨q',e',h'⟩:=hA gc;rw[ey] at e';cases e';exact h' nq),yk hc cc,bT (Paired.imp' (λ_ _ z=>hG z u2 B) pr) (.cons gy .nil)⟩
 ·rintro ys H' hy ⟨u,B,cs,lc,nd,hc,pr⟩ p hp;have s:aK H' (upd H' p (.lst ys)):=aK.new hp;exact hd ys cs _ p (u.none B hp) (u.same s) (B.same s) aM lc nd hc (Paired.imp' (λ_ _ z=>hG z s.upto B) pr) ⟨H',hp,pr⟩
end
structure Gy (K:FG9) (A:Addr->Prop) (n:Nat) (C:Rat->Prop) (m p l b q0:Addr) (us ws vs:List V) (H0 H:Hp):Prop where
 mix:jL K A H n (λ_=>C) m p l b q0 us ws vs
 gp:H p=some (.lst ws)
 gl:H l=some (.lst vs)
 kp:iJ A b m H0 H
section
variable {K:FG9} {A:Addr->Prop} {n:Nat} {C:Rat->Prop} {m p l b q0 q:Addr} {us ws vs:List V} {H0 H H':Hp} {y:Rat} {v:V}
theorem Gy.same (h:Gy K A n C m p l b q0 us ws vs H0 H) (e:aK H H'):Gy K A n C m p l b q0 us ws vs H0 H':=⟨h.mix.same e,e _ _ h.gp,e _ _ h.gl,h.kp.same e⟩
theorem Gy.upto (h:Gy K A n C m p l b q0 us ws vs H0 H) (M:Fb A m p l b q0) (u:cZ b H H') (B:hZ H' b):Gy K A n C m p l b q0 us ws vs H0 H':=⟨h.mix.upto M u B,u.other M.pb h.gp,u.other M.lb h.gl,h.kp.upto u⟩
theorem Gy.row (h:Gy K A n C m p l b q0 us ws vs H0 H) (hx:x∈ws\/x∈vs):fN K A H n C x:=h.mix.row x (by rcases hx with hx | hx <;> simp [hx])
theorem Gy.put (h:Gy K A n C m p l b q0 us ws vs H0 H) (M:Fb A m p l b q0) (hx:V.ref q∈ws\/V.ref q∈vs) (hv:bV K H y v) (hc:C y) (j:Nat):∃zs,H q=some (.lst zs)/\zs.length=n/\Gy K A n C m p l b q0 us ws vs H0 (upd H q (.lst (zs.set j v))):=by
 obtain ⟨q',zs,qs,e,a,g,lz,_⟩:=(h.row hx).at;cases e;have ne:∀{z},¬A z->z≠q:=λh e=>h (by rw[e];exact a)
 exact ⟨zs,g,lz,h.mix.put M a g hv hc j,by rw[bE (ne M.ap)];exact h.gp,by rw[bE (ne M.al)];exact h.gl,h.kp.upd (.inl a)⟩
end
inductive DS (K:FG9) (vs:List V) (H:Hp) (Q:VK) (E9:XK):Prop
 | mk (b:Addr) (n w:Nat) (way first:Int):vs=[.ref b,.int n,.int way,.int first,.int w]->hZ H b->n<=8->1<=w->w<=1000000->(∀r us H',H r=none->H' r=some (.lst us)->us.length=n->us.Nodup->(∀x∈us,fN K (λq=>H q=none/\q≠r) H' n (Dr (max w 6)) x)->hZ H' b->cZ b H H'->Q (.ref r) H')->DS K vs H Q E9
def PtF (n i o w c:Nat) (mv pt lk:LR9):Prop:=∃M V1:Nat,0 < M/\GF M V1 mv/\GF M V1 pt/\GF M V1 lk/\((w<=9/\M=2520/\V1=9^3*9)\/(9 < w/\M<=2^(c*((n+i+o)*n))/\V1=9^3*2^c))
inductive DT (K:FG9) (vs:List V) (H:Hp) (Q:VK) (E9:XK):Prop
 | mk (b:Addr) (n:Nat):vs=[.ref b,.int n]->hZ H b->1<=n->n<=8->(∀r mv pt lk H',gH K H H' r mv pt lk->mv.length=n->pt.length=1->lk.length=1->gG mv pt lk->GF 1 1 mv->GF 1 1 pt->GF 1 1 lk->hZ H' b->cZ b H H'->Q (.ref r) H')->DT K vs H Q E9
theorem yi (M0:0 < M) (hM:M<=2^a) (hn:mv.length<=n0) (hV:(n0+1)*V1<=2^c) (fm:GF M V1 mv) (fp:GF M V1 pt) (h4:a<=400/\c<=40/\n0*(n0*(a+c)+4)<=1740/\n0*(n0*(n0*(a+c)+4)+a+c+4)<=445000):wK mv pt a c:=by
 obtain ⟨h1,h2,h3,h5⟩:=h4;have e1:mv.length*(a+c)<=n0*(a+c):=ay _ hn;have e2:mv.length*(mv.length*(a+c)+4)<=n0*(n0*(a+c)+4):=aw hn (by lia);have e3:mv.length*(mv.length*(mv.length*(a+c)+4)+a+c+4)<=n0*(n0*(n0*(a+c)+4)+a+c+4):=aw hn (by lia);exact ⟨M,V1,M0,hM,ag (ay _ (by lia)) hV,fm,fp,h1,h2,by lia,by lia⟩
def MK (K:FG9):Sp:=λvs H Q _=>∃b:Addr,vs=[.ref b]/\hZ H b /\
 ∀r mv pt lk H',gH K H H' r mv pt lk->6<=mv.length->gG mv pt lk->GF 1 (9^3) mv->GF 1 (9^3) pt->GF 1 (9^3) lk->hZ H' b->cZ b H H'->Q (.ref r) H'
theorem C8 {rs:List Nat} {v v':Nat->iC}:∀{k:Nat} (pre:List iC),(∀j,j < k->∀r∈rs,v j r=v' j r)->iO rs (pre++hX v k)=iO rs (pre++hX v' k)
 | 0,_,_=>rfl
 | k+1,pre,h=>by
  show iO rs (pre++v k :: hX v k)=iO rs (pre++v' k :: hX v' k)
  rw[LV (h k (by lia))];have:=C8 (k:=k) (pre++[v' k]) λj hj=>h j (by lia)
  simpa using this
theorem cw_map {τ:iC->iC} {v:Nat->iC}:∀{k:Nat},(hX v k).map τ=hX (λj=>τ (v j)) k
 | 0=>rfl
 | k+1=>by show τ (v k) :: _=_;rw[cw_map];rfl
section
variable {rows fs ls:LR9} {n r M W Wv Wb k P:Nat} {Pm Y Z B E a:Nat->Nat->Rat} {d:Rat} {ps:List Nat} {rs:LR9}
end
section
variable {rows R R1 R2 mv pt:LR9} {n r M V1 W W' Wv Wb k P:Nat} {Pm Y Z B E a:Nat->Nat->Rat} {d:Rat} {ps ps1 ps2:List Nat} {rs:LR9}
theorem OY (h0:0 < M) (h3:∀xs∈rows,∀x∈xs,Tp M W x):∀i,i < rows.length->∀c,Fr 1 W (eY (rows.map kh) i c):=λi hi c=>by
 have hx:=getD_in (e:=[]) hi;rw[DD hi];unfold cJ;generalize rows.getD i []=xs at hx ⊢;by_cases hc:c < xs.length
 ·have t:=h3 xs hx _ (getD_in (e:=0) hc);obtain ⟨s,e,b⟩:=yv t h0 (Af (xs:=xs)) (qI (aB.mpr ⟨_,getD_in (e:=0) hc,rfl⟩)) (II h0 (h3 xs hx));rw[dA,e];exact Fr.int b
 ·rw[aa,aW (by lia)];show Fr 1 W (_*0)
  rw[fP];exact Fr.zero
theorem Gh {V:Nat} {f:Nat->Rat}:∀{k:Nat},(∀j,j < k->Fr 1 V (f j))->Fr 1 (k*V) (bF k f)
 | 0,_=>Fr.zero
 | k+1,h=>by
  rw[c8];exact (Gh λj hj=>h j (by lia)).add (h k (by lia))
theorem vz {f:Nat->Rat} {a:Nat}:∀{b:Nat},bF (a+b) f=bF a f+bF b λt=>f (a+t)
 | 0=>by show bF a f=bF a f+0;grind
 | b+1=>by
  show bF (a+b) f+f (a+b)=_+(bF b _+f (a+b))
  rw[vz];grind
end
section
variable {rows R R1 R2 mv pt:LR9} {n t t2 a c:Nat} {ps ps1 ps2:List Nat}
theorem Iu (h:∀i,i < rows.length->∀c,Tp M W (cJ rows i c)):∀xs∈rows,∀x∈xs,Tp M W x:=λxs hx x hx'=>by
 obtain ⟨i,hi,rfl⟩:=aY hx;obtain ⟨c,hc,rfl⟩:=aY hx';have:=h i hi c;unfold cJ at this;rw[aa (l:=rows),af hi] at this;have e:(some rows[i]).getD []=rows[i]:=rfl;rw[e,aa,af hc] at this;exact this
end
section
variable {K:FG9} {a:Addr} {xs:List V} {g:TG} {tf:TT} {te:TE} {Q:VK} {σ₀:St} {H:Hp} {α β:Type}
theorem BD {F:Hp->α->V->Prop} (G:Hp->β->V->Prop) (f:α->β) (hx:H a=some (.lst xs)) (pf:Paired (F H) as xs) (hl:as.length<=1000)
  (hF:∀{H H' c x},F H c x->aK H H'->F H' c x) (hG:∀{H H' c x},G H c x->aK H H'->G H' c x) (hA:∀{H' c x},G H' c x->∃q,x=V.ref q/\H' q≠none)
  (hs:∀(i:Nat) c x H' NY NN,as[i]?=some c->aK H H'->F H' c x->(∀y H2,aK H' H2->G H2 (f c) y->(∃q,y=V.ref q/\H' q=none)->NY y H2)->pK σ₀ g tf te x H' NY NN)
  (hd:∀ys H' p,H p=none->aK H H'->H' p=some (.lst ys)->ys.Nodup->(∀y∈ys,∃q,y=V.ref q/\H q=none/\q≠p)->Paired (G H') (as.map f) ys->Q (.ref p) H'):qQ (Of K a) σ₀ g tf te Q H:=by
 have lx:=pf.length;refine gO (K:=K) (xs:=xs) (λi ys H'=>aK H H'/\ys.Nodup/\(∀y∈ys,∃q,y=V.ref q/\H q=none)/\Paired (G H') ((as.take i).map f) ys) (bc (bK (by lia))) ⟨aK.refl _,mK,(λ_ z=>nomatch z),.nil⟩ (λi ys H' _ ⟨s,_⟩=>bO.of (s _ _ hx)) ?_ ?_
 ·rintro i x ys H' hx' hlen ⟨s,nd,hn,pr⟩;obtain ⟨c,ec,hc⟩:=bX pf hx';refine hs i c x H' _ _ ec s (hF hc s) λy H2 s2 gy ⟨q,ey,nq⟩=>⟨s.trans s2,oE nd (λz=>?_),yk hn ⟨q,ey,s.none nq⟩,?_⟩
  ·obtain ⟨c',_,gc⟩:=dh pr z;obtain ⟨q',e',h'⟩:=hA gc;rw[ey] at e';cases e';exact h' nq
  ·rw[take_snoc ec,ck];exact bT (Paired.imp' (λ_ _ z=>hG z s2) pr) (.cons gy .nil)
 ·rintro ys H' hy ⟨s,nd,hn,pr⟩ p hp;rw[aE (by lia)] at pr;refine hd ys _ p (s.none hp) (s.trans (aK.new hp)) aM nd (λy hy=>?_) (Paired.imp' (λ_ _ z=>hG z (aK.new hp)) pr);obtain ⟨q,e,nq⟩:=hn y hy;refine ⟨q,e,nq,λz=>?_⟩;obtain ⟨c',_,gc⟩:=dh pr hy;obtain ⟨q',e',h'⟩:=hA gc;rw[e] at e';cases e';exact h' (by rw[z];exact hp)
end
structure Si (K:FG9) (H0 H:Hp) (n:Nat) (fd:Addr) (L:List (Addr×List V)):Prop where
 gf:H fd=some (.lst (L.map λe=>V.ref e.1))
 nf:H0 fd=none
 ls:∀e∈L,H0 e.1=none/\e.1≠fd/\H e.1=some (.lst e.2)
 nd:(L.map λe=>e.1).Nodup
 rows:∀e∈L,∀x∈e.2,fN K (λq=>(H0 q=none/\q≠fd)/\q∉L.map λe=>e.1) H n (Fr 1 1) x
 rd:(L.flatMap λe=>e.2).Nodup
section
variable {K:FG9} {H0 H H1:Hp} {n:Nat} {fd q:Addr} {L:List (Addr×List V)} {us:List V}
theorem Si.snoc (h:Si K H0 H n fd L) (s0:aK H0 H) (s:aK H H1) (hq:H q=none) (gq:H1 q=some (.lst us)) (nd:us.Nodup) (hr:∀x∈us,fN K (λz=>H z=none/\z≠q) H1 n (Fr 1 1) x):Si K H0 (upd H1 fd (.lst ((L.map λe=>V.ref e.1)++[.ref q]))) n fd (L++[(q,us)]):=by
 have qf:q≠fd:=λz=>by rw[z,h.gf] at hq;cases hq
 have old:∀{z},z∈(L.map λe=>e.1)->H z≠none:=λhz=>by
  obtain ⟨e,he,rfl⟩:=aB.mp hz;rw[(h.ls e he).2.2];exact λz=>nomatch z
 have g1:=s _ _ h.gf;refine ⟨by rw[aM,ck];rfl,h.nf,λe he=>?_,?_,λe he x hx=>?_,?_⟩
 ·rcases aG.mp he with he | he
  ·obtain ⟨a,b,c⟩:=h.ls e he;exact ⟨a,b,by rw[bE b];exact s _ _ c⟩
  ·rw[cD.mp he];exact ⟨s0.none hq,qf,by rw[bE qf];exact gq⟩
 ·rw[ck];exact oE h.nd λz=>old z hq
 ·have key:fN K (λz=>(H0 z=none/\z≠fd)/\z∉(L++[(q,us)]).map λe=>e.1) H1 n (Fr 1 1) x:=by
   rcases aG.mp he with he | he
   ·obtain ⟨z,qs,e1,⟨e2,e3⟩,e4,e5⟩:=h.rows e he x hx;refine ⟨z,qs,e1,⟨e2,λhz=>?_⟩,e4.same s,e5⟩;rw[ck] at hz;rcases aG.mp hz with hz | hz
    ·exact e3 hz
    ·have hz:z=q:=cD.mp hz;obtain ⟨_,gg,_⟩:=e4;rw[hz,hq] at gg;cases gg
   ·rw[cD.mp he] at hx;refine (hr x hx).weak (λz hz=>⟨⟨s0.none hz.1,λy=>by rw[y] at hz;rw[h.gf] at hz;exact absurd hz.1 (λw=>nomatch w)⟩,λy=>?_⟩) (λ_ w=>w);rw[ck] at y;rcases aG.mp y with y | y
    ·exact old y hz.1
    ·exact hz.2 (cD.mp y)
  exact key.other g1 (λz=>z.1.2 rfl)
 ·rw[List.flatMap_append];refine dG.mpr ⟨h.rd,by simpa using nd,λx hx y hy z=>?_⟩;obtain ⟨e,he,hx⟩:=List.mem_flatMap.mp hx;obtain ⟨w,qs,e1,_,⟨_,gg,_⟩,_⟩:=h.rows e he x hx;obtain ⟨w',_,e1',⟨hw,_⟩,_⟩:=hr y (by simpa using hy);rw[<- z,e1] at e1';cases e1';rw[hw] at gg;cases gg
end
theorem KL:typeLookup (.type "list_reverseiterator") "__len__"=pure none:=by
 rw[typeLookup_type,builtinLookup_eq_fast]
 kernel_rfl
theorem MX:typeLookup (.type "list_reverseiterator") "__length_hint__"=pure (some (.builtin "list_reverseiterator.__length_hint__")):=by
 rw[typeLookup_type,builtinLookup_eq_fast]
 kernel_rfl
section
variable {prog:Program} {w:World} {A:Around} {E:Value->Shared->Prop} {s:Shared}
theorem MV (hit:s.heap.IsRevIter it l i) (q:Q false s):wpAny (model prog w) A (Builtin.List.listLengthHint (.ref it)) Q E s:=by
 unfold Builtin.List.listLengthHint;refine wpAny_bind (wpAny_specialOf hit.typeIs KL ?_);show wpAny _ A (specialOf (Value.ref it) (Str.ofString "__length_hint__") >>= _) Q E s
 refine wpAny_bind (wpAny_specialOf hit.typeIs MX ?_);generalize hid:("list_reverseiterator.__length_hint__":String)=id0
 dsimp only
 rw[show splitId id0=some ("list_reverseiterator","__length_hint__") from by subst hid;decide +kernel];subst hid;refine wpAny_bind (wpAny_isInstance (T:="list_reverseiterator") (b:=true) hit.typeIs (by rw[isSubtype_type];kernel_rfl) ?_);refine wpAny_ite_split (λz=>absurd z (by decide)) (λ_=>?_);refine wpAny_ite_split (λ_=>?_) (λz=>absurd (by decide +kernel) z);exact wpAny_ite_split (λz=>absurd z (by decide +kernel)) (λ_=>wpAny_pure q)
theorem MY (hh:A.handled=none) (hit:s.heap.IsRevIter I l ((items.size:Int) - 1)) (hl:s.heap.IsList l items) (nI:l≠I) (nS:S≠I) (nL:S≠l) (hn:items.size<=sizeLine) (hS:s.heap.get? S=some { cls:=.type "list",data:=.seq #[] c0 })
  (hR:∀h' tk acc c,(∀b o,b≠S->b≠I->s.heap.get? b=some o->h'.get? b=some o)->h'.get? S=some { cls:=.type "list",data:=.seq acc c }->ItemsOf (λi v=>items[items.size - 1 - i]?=some v) acc items.size->R (.ok (.ret res)) { s with heap:=h',toks:=tk }) :
  wpAny (model prog w) A.in1 (Builtin.List.listExtendWith (.ref S) (.ref I) res) (λfin s2=>match fin with | .done f=>R (.ok f) s2 | .again c=>c.quiet=true/\codeAny (model prog w) A c R s2) (λe s2=>R (.error e) s2) s:=by
 have W:=(Walks.listRev (prog:=prog) (w:=w) (A:=A.in1) hh I l nI items).toS;unfold Builtin.List.listExtendWith;refine wpAny_bind (wpAny_typeOf hit.typeIs ?_);rw[if_neg (by simp [Builtin.List.listSameRef,nS])];refine wpAny_bind (wpAny_pyIter_revIter hit ?_);refine wpAny_bind (wpAny_holding (MV hit ?_));refine wpAny_ite_split (λz=>absurd z (by decide +kernel)) (λ_=>?_);have h0:s.heap.IsRevIter I l ((items.size:Int) - 1 - ((0:Nat):Int)):=by simpa using hit
 refine wpAny_pure ⟨plainId_quiet F.plain_extend_loop _,codeAny_extend_loopS W hn S (by simp [nS,nL]) res items.size 0 s #[] c0 rfl (br _) ⟨br _,h0,hl⟩ hS (ItemsOf.nil _) λs2 acc c hm h2 hi=>?_⟩;rw[Moved.eq_with hm];exact hR s2.heap s2.toks acc c (λb o n1 n2 e=>hm.heap b o (by simp [n1,n2]) e) h2 hi
theorem MW (hh:A.handled=none) (hit:s.heap.IsRevIter I l ((items.size:Int) - 1)) (hl:s.heap.IsList l items) (nI:l≠I) (hn:items.size<=sizeLine)
  (hQ:∀h' tk acc c,(∀b o,b≠I->s.heap.get? b=some o->h'.get? b=some o)->h'.get? s.heap.objs.size=some { cls:=.type "list",data:=.seq acc c }->ItemsOf (λi v=>items[items.size - 1 - i]?=some v) acc items.size->Q (.ref s.heap.objs.size) { s with heap:=h',toks:=tk }) :
  wpAny (model prog w) A (call (.type "list") [.ref I]) Q E s:=by
 refine callType_codes (Q₁:=λx s2=>x=.ref s.heap.objs.size/\s2={ s with heap:=s.heap.push { cls:=.type "list",data:=.seq #[] } }) F.called_list (F.typeCall_list_1 _) F.entry_list_init (code_list_new _ ⟨rfl,rfl⟩) λx s2 hx=>?_
 obtain ⟨rfl,rfl⟩:=hx;have up:∀b o,s.heap.get? b=some o->(s.heap.push { cls:=.type "list",data:=.seq #[] }).get? b=some o:=λb o e=>Heap.get?_push_of_some _ e
 have hS:(s.heap.push { cls:=.type "list",data:=.seq #[] }).get? s.heap.objs.size=some { cls:=.type "list",data:=.seq #[] }:=Heap.get?_push_size _ rfl
 have lI:I≠s.heap.objs.size:=by
  obtain ⟨o,ho,_⟩:=hit;exact bY (Heap.lt_size ho)
 have lL:l≠s.heap.objs.size:=by
  obtain ⟨o,ho,_⟩:=hl;exact bY (Heap.lt_size ho)
 refine ⟨⟨_,hS,rfl⟩,F.args_list_init_2 _ _,?_⟩;show wpAny _ A.in1.in1 (do let old <- Builtin.List.listItems (.ref s.heap.objs.size);Builtin.List.listUpdate (.ref s.heap.objs.size) (λ_=>#[]);letGo old.toList.reverse;Builtin.List.listExtendWith (.ref s.heap.objs.size) (.ref I) .none) _ _ _
 refine wpAny_bind ?_;unfold Builtin.List.listItems;refine wpAny_bind (wpAny_seqItems hS rfl (wpAny_pure ?_));refine wpAny_bind (m:=Builtin.List.listUpdate (.ref s.heap.objs.size) (λ_=>#[])) (wpAny_updateSeq hS rfl ?_);have h3:=Heap.get?_update_self (Obj.mapSeq (λ_=>(#[]:Array Value))) hS rfl;have o3:∀b o,b≠s.heap.objs.size->(s.heap.push { cls:=.type "list",data:=.seq #[] }).get? b=some o->((s.heap.push { cls:=.type "list",data:=.seq #[] }).update s.heap.objs.size (Obj.mapSeq (λ_=>(#[]:Array Value)))).get? b=some o:=λb o nb e=>(Heap.get?_update_other _ _ (Ne.symm nb)).trans e
 refine wpAny_bind (wpAny_letGo ?_);refine MY (A:=A.in1) hh (hit.at λo e=>o3 _ _ lI (up _ _ e)) (hl.at λo e=>o3 _ _ lL (up _ _ e)) nI lI.symm lL.symm hn h3 λh' tk acc c hk h2 hi=>?_
 exact ⟨rfl,hQ h' tk acc c (λb o nb e=>hk b o (bY (Heap.lt_size e)) nb (o3 _ _ (bY (Heap.lt_size e)) (up _ _ e))) h2 hi⟩
end
section
variable {X:Cx}
def DI (K:FG9) (ta:TA):TE:=λσ H Q=>ta σ H λvs H1=>∃l xs,vs=[.ref l]/\bO K H1 l xs/\xs.length<=1000/\∀L H',aK H1 H'->H1 L=none->H' L=some (.lst xs.reverse)->Q (.ref L) H'
theorem DF:∀{xs:List V} {us:List Value},cY xs us->cY xs.reverse us.reverse
 | _,_,.nil=>.nil
 | _,_,.cons h r=>by
  rw[mJ,mJ];exact cY.append (DF r) (.cons h .nil)
theorem FN (K:FG9) {e1:Expr} {ta:TA} {p p2 pos pos2:Pos} (hg:Gl X "list") (hm:X.mg "list"=none) (hg2:Gl X "reversed") (hm2:X.mg "reversed"=none) (ha:PA X [e1] ta) (hK:X.K=K:=by rfl) (hc:X.calm=true:=by rfl)
  (hs:starEach [e1] X.env=[(false,eval e1 X.env)]:=by rfl)
  (hs3:starEach [Expr.Call (.Name "reversed" p2) [e1] [] pos2] X.env=[(false,eval (.Call (.Name "reversed" p2) [e1] [] pos2) X.env)]:=by rfl) :
  PE X (.Call (.Name "list" p) [.Call (.Name "reversed" p2) [e1] [] pos2] [] pos) (DI K ta):=by
 subst hK;intro pins s σ H Q I h;refine wpAny_Call_Name_kw (jE I hg hm boot_list ?_);refine PyProof.Rows.callWith_type1 ?_ (by rw[hs3];rfl) rfl;rw[hs3];show wpAny _ _ (spliced ((false,eval (.Call (.Name "reversed" p2) [e1] [] pos2) X.env) :: [])) _ _ s
 refine Calls.spliced_cons ?_;refine Call_ (jE I hg2 hm2 boot_reversed (PyProof.Rows.callWith_type1 (gK (ha pos2 pins s σ H _ I h) λus s1 ⟨vs,H1,I1,r1,q1⟩=>?_) hs rfl));obtain ⟨l,xs,e,hl,hn,q⟩:=q1;subst e;obtain ⟨u,rfl,ru⟩:=vals1 r1;cases ru;obtain ⟨its,rv,pl,hz⟩:=I1.list hl;have hlen:=rv.length;have pI:=pl.isList;refine call_reversed_list pI ?_;refine Calls.spliced_nil ?_;have kp:∀b o,s1.heap.get? b=some o->(s1.heap.push (revObj l ((its.toArray.size:Int) - 1))).get? b=some o:=λb o e=>Heap.get?_push_of_some _ e
 have nI:l≠s1.heap.objs.size:=by
  obtain ⟨o,ho,_⟩:=pI;exact bY (Heap.lt_size ho)
 refine MW (I.ok.hd hc) (I:=s1.heap.objs.size) (l:=l) (items:=its.toArray) ⟨_,Heap.get?_push_size _ rfl,rfl,rfl⟩ (pI.at λo e=>kp _ _ e) nI (by rw[aT];lia) λh' tk acc c hk hS hacc=>?_
 have sz:s1.heap.objs.size<=(s1.heap.push (revObj l ((its.toArray.size:Int) - 1))).objs.size:=by rw[Heap.size_push];exact vm _
 have nS:=I1.hok.fresh sz
 have ea:acc.toList=its.reverse:=by
  apply gZ;intro j;rcases c4 j its.length with z | z
  ·have hj:j < acc.toList.length:=by rw[Array.length_toList,hacc.1,aT];exact z
   have:=hacc.2 j acc.toList[j] (by rw[<- Array.getElem?_toList];exact af hj);rw[af hj,List.getElem?_reverse z];simpa using this.symm
  ·rw[aW (by rw[Array.length_toList,hacc.1,aT];exact z),aW (by rw[bA];exact z)]
 have vs':cY xs.reverse acc.toList:=by rw[ea];exact DF rv
 have sl:xs.reverse.length<=sizeLine:=by rw[bA];exact hz
 refine ⟨.ref _,_,I1.laid (o:=.lst xs.reverse) (λb o e=>hk b o (bY (Heap.lt_size e)) (kp b o e)) sz ?_,rfl,q _ _ (aK.new nS) nS aM⟩;exact ⟨sl,acc.toList,c,vs',by simpa using hS⟩
end
theorem Et {F G:List iC->Rat} {r:Nat} {g:Nat->Rat} {c:Rat} (hF:∀ws:List iC,F (ws.map λv i=>g i*v i)=c*G ws):∀(post pre:List iC) (s:Rat),Aw F r (pre.map λv i=>g i*v i) (post.map λv i=>g i*v i) s=g r*c*Aw G r pre post s
 | [],_,_=>by show (0:Rat)=_*0;grind
 | v :: post,pre,s=>by
  have i1:=hF (pre++post);have i2:=Et (r:=r) hF post (pre++[v]) (-s);simp only[ck,ia,List.map_nil,Aw] at i1 i2 ⊢;rw[i1,i2];grind
theorem uD {g:Nat->Rat}:∀(rs:List Nat) (vs:List iC),iO rs (vs.map λv i=>g i*v i)=(rs.map g).foldr (λx y=>x*y) 1*iO rs vs
 | [],[]=>by show (1:Rat)=1*1;grind
 | [],_ :: _=>by show (0:Rat)=1*0;grind
 | r :: rs,vs=>by
  have:=Et (r:=r) (F:=λws=>iO rs ws) (G:=λws=>iO rs ws) (c:=(rs.map g).foldr (λx y=>x*y) 1) (λws=>uD rs ws) vs [] 1;exact this
theorem CG {g:Nat->Rat}:∀{rs:List Nat},(∀r∈rs,g r≠0)->(rs.map g).foldr (λx y=>x*y) 1≠0
 | [],_=>by show (1:Rat)≠0;decide
 | r :: rs,h=>by
  show g r*_≠0
  have h1:=h r (.head _);have h2:=CG λr' hr'=>h r' (.tail _ hr')
  intro z;rcases gR.mp z with z | z
  ·exact h1 z
  ·exact h2 z
section
variable {rows R X K0:LR9} {due L:List Rat} {n m M W D E W0 W1:Nat} {ps:List Nat}
theorem BC (hw:∀xs∈rows,xs.length=n) (hW:1<=W) (h0:0 < M) (h3:∀xs∈rows,∀x∈xs,Tp M W x) (RR:cO rows n R ps):∃pm:Nat->Nat,(∀i j,i < ps.length->j < ps.length->pm i=pm j->i=j)/\(∀t,t < ps.length->pm t < rows.length)/\ps.length<=rows.length/\iO (kH pm ps.length) (hX (λj i=>cJ rows i (ps.getD j 0)) ps.length)≠0:=by
 have ent:=OY h0 h3;obtain ⟨ls,ps2,d,I⟩:=AZ hw hW (by rw[ai];exact ent) n (ao _);obtain ⟨_,_,⟨pm,B⟩,E⟩:=I;rw[ai] at B E
 have RF:E6 rows.length n (cJ rows) ps2.length (λj=>ps2.getD j 0) (λi c=>eY ls i c / d):=E6.other (E.done λi hi c hc=>zS (n:=n) (λzs hz=>by
  obtain ⟨xs,hx,rfl⟩:=aB.mp hz;rw[tS];exact hw xs hx) hc) GR GS
 obtain ⟨e1,e2,e3⟩:=RF.uniq RR.2.2 (λ_ hi=>fo.row hi) (λ_ hi=>fo.row hi);have km:=B.km;have dt:=B.det;have d0:=B.d0
 have e4:iO (kH pm ps2.length) ([]++hX (λj r=>eY (rows.map kh) r (ps2.getD j 0)) ps2.length)=iO (kH pm ps2.length) ([]++hX (λj i=>Mh rows i*cJ rows i (ps.getD j 0)) ps2.length):=C8 [] λj hj r hr=>by
  obtain ⟨t,ht,rfl⟩:=kD hr;rw[DD (B.rng t (by lia)),e2 j hj];rfl
 have e5:hX (λj i=>Mh rows i*cJ rows i (ps.getD j 0)) ps2.length=(hX (λj i=>cJ rows i (ps.getD j 0)) ps2.length).map λv i=>Mh rows i*v i:=(cw_map (τ:=λv i=>Mh rows i*v i)).symm
 refine ⟨pm,λi j hi hj e=>B.inj i j (by lia) (by lia) e,λt ht=>B.rng t (by lia),by lia,?_⟩;rw[<- e1];intro z;apply d0;rw[dt];have e4:iO (kH pm ps2.length) (hX (λj r=>eY (rows.map kh) r (ps2.getD j 0)) ps2.length)=iO (kH pm ps2.length) (hX (λj i=>Mh rows i*cJ rows i (ps.getD j 0)) ps2.length):=e4;rw[e4,e5,uD,z,fP]
theorem Oy (hd:due.length=X.length) (hw:∀xs∈X,xs.length=n) (RR:cO (dk X due) (n+1) R ps) (hn:n∉ps) (hi:i < X.length):due.getD i 0=bF ps.length λj=>cJ R j n*cJ X i (ps.getD j 0):=by
 obtain ⟨j1,j2⟩:=w5 hd hw hi;have sp:=RR.2.2.span i (by rw[kG hd];exact hi);have:=RR.2.2.coef sp n;rw[<- j2,this];refine aP λj hj=>?_
 have lo:=RR.2.2.low j hj;have ne:ps.getD j 0≠n:=λz=>hn (by rw[<- z];exact getD_in hj)
 rw[j1 _ (by lia)];exact dA _ _
theorem HP (RR:cO X (n+1) R ps) (hy:y∈iQ R ps n):y=0\/∃j,j < ps.length/\y=cJ R j n:=by
 obtain ⟨c,hc,rfl⟩:=aY hy;have lc:(iQ R ps n).length=n:=jP;have e:(iQ R ps n)[c]=(iQ R ps n).getD c 0:=by rw[aa,af hc];rfl
 rw[e];by_cases hp:c∈ps
 ·obtain ⟨j,hj,ej⟩:=aY hp
  right
  refine ⟨j,hj,?_⟩;have ej':ps.getD j 0=c:=by rw[aa,af hj];exact ej
  have:=KE (R:=R) (ps:=ps) (n:=n) (j:=ps.length) (c:=c) (by lia);unfold iQ;rw[this,fU hj λi hi ne=>if_neg λz=>?_,if_pos ej'];rcases c4 i j with y | y
  ·have:=RR.2.2.inc i j y hj
   lia
  ·have:=RR.2.2.inc j i (by lia) hi
   lia
 ·exact .inl (MS hp)
theorem LU (hl:vs.length<=N) (h:∀v∈vs,∀r∈rs,Fr 1 Wx (v r)):∃z:Int,iO rs vs=(z:Rat)/\z.natAbs<=(N*Wx)^rs.length:=by
 have f:=xc hl h;obtain ⟨z,ez⟩:=uA f;rw[ez] at f;exact ⟨z,ez,tK f⟩
theorem MO (he:ps.length<=n->ps.length<=e) (hK:∀xs∈K0,xs.length=n) (hL:L.length=n) (n15:n<=15) (D0:0 < D) (E0:0 < E) (w0:1<=W0) (w1:1<=W1) (tk:∀xs∈K0,∀x∈xs,Tp D W0 x) (tl:∀x∈L,Tp E W1 x) (RR:cO (dk (b8 K0 n) L) (K0.length+1) R ps) (hn:K0.length∉ps) :
  ∃q:Nat,0 < q/\q<=(16*W0)^e/\∀y∈iQ R ps K0.length,Tp (E*q) (D*(n*(W1*(16*W0)^e))) y:=by
 have lt:(b8 K0 n).length=n:=cR;have wt:∀xs∈b8 K0 n,xs.length=K0.length:=fQ;have hd:L.length=(b8 K0 n).length:=by rw[lt];exact hL
 have tfn:∀i,i < n->∀j,cJ (b8 K0 n) i j=cJ K0 j i:=λi hi j=>by
  unfold cJ;rw[aa (l:=b8 K0 n),lA hi];show (K0.map λxs=>xs.getD i 0).getD j 0=_
  rw[aa,aH,aa (l:=K0)];cases K0[j]? with
  | none=>show (0:Rat)=([]:List Rat).getD i 0;rw[aa];rfl
  | some xs=>rfl
 have tkf:∀j i,Tp D W0 (cJ K0 j i):=λj i=>by
  unfold cJ;rw[aa (l:=K0)];by_cases hj:j < K0.length
  ·rw[af hj];exact gU (tk _ (aD hj)) i
  ·rw[aW (by lia)];show Tp D W0 (([]:List Rat).getD i 0)
   exact gU (by intro x z;cases z) i
 have tlf:∀i,Tp E W1 (L.getD i 0):=λi=>gU tl i
 have tj:∀xs∈dk (b8 K0 n) L,∀x∈xs,Tp (D*E) (W0*E+W1*D) x:=Iu λi hi c=>by
  rw[kG hd,lt] at hi;obtain ⟨j1,j2⟩:=w5 hd wt (by rw[lt];exact hi);by_cases hc:c < K0.length
  ·rw[j1 c hc,tfn i hi];obtain ⟨z,ee,b⟩:=tkf c i;exact ⟨z*E,by rw[fD,aR,<- ee,aO];grind,by rw[cI,b6];exact ag (ay _ b) (xT _ _)⟩
  ·by_cases hc2:c=K0.length
   ·rw[hc2,j2];obtain ⟨z,ee,b⟩:=tlf i;exact ⟨z*D,by rw[fD,aR,<- ee,aO];grind,by rw[cI,b6];exact ag (ay _ b) (Nat.le_add_left _ _)⟩
   ·rw[C4 (C1 wt) (by lia)];exact ⟨0,by rw[kb];rfl,br _⟩
 obtain ⟨pm,pinj,plt,kn,dne⟩:=BC (C1 wt) (W:=W0*E+W1*D) (ag (aN w0 E0) (xT _ _)) (aN D0 E0) tj RR;rw[kG hd,lt] at plt kn
 have pl:∀j,j < ps.length->ps.getD j 0 < K0.length:=λj hj=>by
  have lo:=RR.2.2.low j hj;have ne:ps.getD j 0≠K0.length:=λz=>hn (by rw[<- z];exact getD_in hj)
  lia
 have Dne:(D:Rat)≠0:=λz=>by
  have:((D:Int):Rat)=0:=by rw[aO];exact z
  have:=o8 this
  lia
 have Ene:(E:Rat)≠0:=λz=>by
  have:((E:Int):Rat)=0:=by rw[aO];exact z
  have:=o8 this
  lia
 have rlt:∀r∈kH pm ps.length,r < n:=λr hr=>by
  obtain ⟨t,ht,rfl⟩:=kD hr;exact plt t ht
 obtain ⟨v,ev⟩:∃v:Nat->iC,v=λj i=>(D:Rat)*cJ K0 (ps.getD j 0) i:=⟨_,rfl⟩
 have vint:∀j r,Fr 1 W0 (v j r):=λj r=>by
  obtain ⟨z,ee,b⟩:=tkf (ps.getD j 0) r;rw[ev];show Fr 1 W0 ((D:Rat)*_)
  rw[dA,ee];exact Fr.int b
 have den:iO (kH pm ps.length) (hX v ps.length)≠0:=by
  have e1:iO (kH pm ps.length) ([]++hX v ps.length)=iO (kH pm ps.length) ([]++hX (λj i=>(D:Rat)*cJ (dk (b8 K0 n) L) i (ps.getD j 0)) ps.length):=C8 [] λj hj r hr=>by
   have hr:=rlt r hr;obtain ⟨j1,_⟩:=w5 hd wt (i:=r) (by rw[lt];exact hr);rw[j1 _ (pl j hj),tfn r hr,ev]
  have e2:hX (λj i=>(D:Rat)*cJ (dk (b8 K0 n) L) i (ps.getD j 0)) ps.length=(hX (λj i=>cJ (dk (b8 K0 n) L) i (ps.getD j 0)) ps.length).map λv i=>(λ_=>(D:Rat)) i*v i:=(cw_map (τ:=λv i=>(D:Rat)*v i)).symm
  have e1:iO (kH pm ps.length) (hX v ps.length)=iO (kH pm ps.length) (hX (λj i=>(D:Rat)*cJ (dk (b8 K0 n) L) i (ps.getD j 0)) ps.length):=e1;rw[e1,e2,uD];intro z;rcases gR.mp z with z | z
  ·exact CG (g:=λ_=>(D:Rat)) (λ_ _=>Dne) z
  ·exact dne z
 obtain ⟨q,eq,bq⟩:=LU (N:=16) (Wx:=W0) (rs:=kH pm ps.length) (vs:=hX v ps.length) (by rw[cw_len];lia) λw hw r _=>by
  obtain ⟨t,_,rfl⟩:=cw_in hw;exact vint t r
 rw[ow] at bq;have up:(16*W0)^ps.length<=(16*W0)^e:=ar (by lia) (he kn);have q0:q≠0:=λz=>den (by rw[eq,z];rfl)
 refine ⟨q.natAbs,by lia,ag bq up,λy hy=>?_⟩;rcases HP RR hy with rfl | ⟨i,hi,rfl⟩
 ·exact ⟨0,by rw[kb];rfl,br _⟩
 ·have hW:∀r∈kH pm ps.length,(E:Rat)*L.getD r 0=bF ps.length λj=>((E:Rat)*cJ R j K0.length / D)*v j r:=λr hr=>by
   have hr:=rlt r hr;rw[Oy hd wt RR hn (i:=r) (by rw[lt];exact hr),<- cM];refine aP λj hj=>?_
   rw[tfn r hr,ev]
   dsimp only
   grind
  have cr:=v7 (v:=v) (c:=λj=>(E:Rat)*cJ R j K0.length / D) (W:=λr=>(E:Rat)*L.getD r 0) hi hW
  have ex:iO (kH pm ps.length) (Ac v i ps.length++(λr=>(E:Rat)*L.getD r 0) :: hX v i)=bF ps.length λt=>((E:Rat)*L.getD (pm t) 0)*iO (kH pm ps.length) (Ac v i ps.length++(λr=>if r=pm t then 1 else 0) :: hX v i):=v5 (W:=λ_=>0) (v:=λt r=>if r=pm t then 1 else 0) (c:=λt=>(E:Rat)*L.getD (pm t) 0) _ _ (λr hr=>by
   obtain ⟨t,ht,rfl⟩:=kD hr;rw[fU ht λj hj ne=>by rw[if_neg λz=>ne (pinj j t hj ht z.symm),fP],if_pos rfl,vg])
  have hlen:∀x:iC,(Ac v i ps.length++x :: hX v i).length<=16:=λx=>by
   have:=congrArg List.length (cw_split (v:=v) hi);rw[ax,bB,cw_len] at this;rw[ax,bB]
   lia
  have nf:Fr 1 (n*(W1*(16*W0)^e)) (iO (kH pm ps.length) (Ac v i ps.length++(λr=>(E:Rat)*L.getD r 0) :: hX v i)):=by
   rw[ex];refine (Gh (V:=W1*(16*W0)^e) λt ht=>?_).mono (ay _ kn);obtain ⟨z,ee,b⟩:=tlf (pm t)
   have f1:Fr 1 W1 ((E:Rat)*L.getD (pm t) 0):=by
    rw[dA,ee];exact Fr.int b
   have f2:=xc (W:=W0) (N:=16) (rs:=kH pm ps.length) (hlen λr=>if r=pm t then 1 else 0) λw hw r _=>by
    rcases aG.mp hw with hw | hw
    ·obtain ⟨s,_,rfl⟩:=EL hw;exact vint s r
    ·rcases aI.mp hw with rfl | hw
     ·dsimp only
      split
      ·exact Fr.one w0
      ·exact Fr.zero
     ·obtain ⟨s,_,rfl⟩:=cw_in hw;exact vint s r
   rw[ow] at f2;have:=f1.mul f2;rw[lY] at this;exact this.mono (aA _ up)
  obtain ⟨z,ez⟩:=uA nf;rw[ez] at nf cr;have bz:=tK nf;rw[eq] at cr
  have key:cJ R i K0.length*((E:Rat)*(q:Rat))=(D:Rat)*(z:Rat):=by
   rw[cr];grind
  have kq:(((E*q.natAbs:Nat):Rat))=(E:Rat)*((q.natAbs:Nat):Rat):=fD ..;rcases QM q with h | h
  ·have hq:((q.natAbs:Nat):Rat)=(q:Rat):=by rw[<- aO,<- h]
   refine ⟨D*z,?_,by rw[cI,b6];exact aA _ bz⟩;rw[kq,hq,key,aR,aO]
  ·have hq:((q.natAbs:Nat):Rat)=-(q:Rat):=by rw[<- aO,<- dH];congr 1;lia
   refine ⟨-(D*z),?_,by rw[sO,cI,b6];exact aA _ bz⟩;rw[kq,hq,dH,aR,aO,<- key];grind
theorem O7 (hK:∀xs∈K0,xs.length=n) (hL:L.length=n) (n15:n<=15) (D0:0 < D) (E0:0 < E) (w0:1<=W0) (w1:1<=W1) (tk:∀xs∈K0,∀x∈xs,Tp D W0 x) (tl:∀x∈L,Tp E W1 x) (RR:cO (dk (b8 K0 n) L) (K0.length+1) R ps) (hn:K0.length∉ps) :
  ∃q:Nat,0 < q/\q<=(16*W0)^n/\∀y∈iQ R ps K0.length,Tp (E*q) (D*(n*(W1*(16*W0)^n))) y :=
 MO (λh=>h) hK hL n15 D0 E0 w0 w1 tk tl RR hn
end
def lK (mv:LR9):Nat->List Rat->List Rat
 | 0,x=>x
 | t+1,x=>qT mv (lK mv t x)
section
variable {mv pt lk pus:LR9} {st pu go:List Rat} {n t T c:Nat}
theorem md (h:st.length=mv.length):∀t,(lK mv t st).length=mv.length
 | 0=>h
 | _+1=>CJ
theorem zO {x y:List Rat} (h:x.length=y.length) (e:∀c,c < x.length->x.getD c 0=y.getD c 0):x=y:=by
 apply dB h;intro c h1 h2;have:=e c h1;rwa [aa,aa,af h1,af h2] at this
theorem RA (wm:∀xs∈mv,xs.length=mv.length) (h:st.length=mv.length) (hc:c < mv.length):(qT mv st).getD c 0=bF mv.length λj=>cJ mv c j*st.getD j 0:=by
 have e:(qT mv st).getD c 0=cm mv[c] st:=by
  unfold qT;rw[aa,aH,af hc];rfl
 have wc:=wm _ (aD hc);rw[e,cW (by lia),wc];refine aP λj _=>?_
 unfold cJ;rw[aa (l:=mv),af hc];rfl
theorem Ln (D:gG mv pt lk) (h:st.length=mv.length) (hp:pu.length=pt.length) (hc:c < mv.length):(gQ mv pt st pu).getD c 0=bF mv.length (λj=>cJ mv c j*st.getD j 0)+bF pt.length λi=>pu.getD i 0*cJ pt i c:=by
 have wc:=D.mw _ (aD hc)
 have e:(gQ mv pt st pu).getD c 0=cm (mv[c]++pt.map λxs=>xs.getD c 0) (st++pu):=by
  unfold gQ;rw[aa,bo,af hc,lA hc];rfl
 rw[e,qG (by lia),cW (by lia),cW (by rw[ai];lia),wc,ai];congr 1
 ·refine aP λj _=>?_
  unfold cJ;rw[aa (l:=mv),af hc];rfl
 ·refine aP λi hi=>?_
  rw[dA];congr 1;unfold cJ;rw[aa,aH,aa (l:=pt),af hi];rfl
theorem gX:∀t,(kry mv pt t).length=t*pt.length
 | 0=>by rw[Nat.zero_mul];rfl
 | t+1=>by
  show (pt++(kry mv pt t).map (qT mv)).length=_
  rw[ax,ai,gX t,c8,rh]
theorem qC:∀{pus:LR9},(∀xs∈pus,xs.length=i)->pus.flatten.length=pus.length*i:=zT
theorem nY (D:gG mv pt lk) (ls:st.length=mv.length):∀k,k<=pus.length->(∀xs∈pus,xs.length=pt.length)->∀c,c < mv.length->(pN mv pt st pus k).getD c 0=(lK mv k st).getD c 0+bF (kry mv pt k).length λi=>((pus.take k).reverse.flatten).getD i 0*cJ (kry mv pt k) i c:=by
 intro k
 induction k with
 | zero =>
  intro _ _ c _;show st.getD c 0=st.getD c 0+0
  grind
 | succ k ih =>
  intro hk hp c hc;have hk':k < pus.length:=hk;have e:=af hk';have hl:=hp _ (aD hk');have ls':=j5 (pt:=pt) (pus:=pus) ls (k:=k) (by lia)
  have lf:((pus.take k).reverse.flatten).length=(kry mv pt k).length:=by
   rw[gX,zT (i:=pt.length) λxs hx=>hp xs (bR (cU.mp hx)),bA,cv,pE (by lia)]
  rw[pM e,Ln D ls' hl hc]
  have er:(pus.take (k+1)).reverse.flatten=pus[k]++(pus.take k).reverse.flatten:=by
   rw[take_snoc e,List.reverse_append];simp
  have ek:kry mv pt (k+1)=pt++(kry mv pt k).map (qT mv):=rfl;rw[er,ek,ax,ai,vz]
  have p1:(bF pt.length λi=>(pus[k]++(pus.take k).reverse.flatten).getD i 0*cJ (pt++(kry mv pt k).map (qT mv)) i c)=bF pt.length λi=>pus[k].getD i 0*cJ pt i c:=aP λi hi=>by
   rw[Oc hi,aa,cu (by lia),aa]
  have p2:(bF (kry mv pt k).length λi=>(pus[k]++(pus.take k).reverse.flatten).getD (pt.length+i) 0*cJ (pt++(kry mv pt k).map (qT mv)) (pt.length+i) c)=bF mv.length λj=>cJ mv c j*bF (kry mv pt k).length λi=>((pus.take k).reverse.flatten).getD i 0*cJ (kry mv pt k) i j:=by
   have q1:∀i,i < (kry mv pt k).length->(pus[k]++(pus.take k).reverse.flatten).getD (pt.length+i) 0*cJ (pt++(kry mv pt k).map (qT mv)) (pt.length+i) c=bF mv.length λj=>cJ mv c j*(((pus.take k).reverse.flatten).getD i 0*cJ (kry mv pt k) i j):=λi hi=>by
    rw[Qt,Lf rfl D.mw (eo rfl D.pw k) hi,aa,bN (by lia),hl,Sb,<- aa,<- cM];exact aP λj _=>by grind
   rw[aP q1,fR];exact aP λj _=>cM
  rw[p1,p2];have p3:(lK mv (k+1) st).getD c 0=bF mv.length λj=>cJ mv c j*(lK mv k st).getD j 0:=RA D.mw (md ls k) hc
  rw[p3]
  have p4:(bF mv.length λj=>cJ mv c j*(pN mv pt st pus k).getD j 0)=(bF mv.length λj=>cJ mv c j*(lK mv k st).getD j 0)+bF mv.length λj=>cJ mv c j*bF (kry mv pt k).length λi=>((pus.take k).reverse.flatten).getD i 0*cJ (kry mv pt k) i j:=by
   rw[<- iP];refine aP λj hj=>?_
   rw[ih (by lia) hp j hj];grind
  rw[p4];grind
end
section
variable {mv pt lk pus R:LR9} {st pu go w pr L:List Rat} {n t T c u k:Nat} {ps:List Nat}
theorem Kt (D:gG mv pt lk) (ls:st.length=mv.length):pN mv pt st (List.replicate T (List.replicate pt.length 0)) T=lK mv T st:=by
 have l1:=j5 (pt:=pt) (pus:=List.replicate T (List.replicate pt.length 0)) ls (k:=T) (by rw[bx];exact ao _);refine zO (by rw[l1,md ls]) λc hc=>?_
 rw[l1] at hc;rw[nY D ls T (by rw[bx];exact ao _) (λxs hx=>by rw[(dI.mp hx).2,bx]) c hc,c9 λi _=>?_,kd]
 have z:(((List.replicate T (List.replicate pt.length (0:Rat))).take T).reverse.flatten).getD i 0=0:=by
  rw[aa];cases e:(((List.replicate T (List.replicate pt.length (0:Rat))).take T).reverse.flatten)[i]? with
  | none=>rfl
  | some y =>
   have:=av e;obtain ⟨l,hl,hy⟩:=dQ.mp this;have hl:=bR (cU.mp hl);rw[(dI.mp hl).2] at hy;exact (dI.mp hy).2
 rw[z,kb]
def dO (mv:LR9) (T:Nat) (st go:List Rat):List Rat:=List.zipWith (λx y=>x - y) go (lK mv T st)
theorem qA (ls:st.length=mv.length) (lg:go.length=mv.length):(dO mv T st go).length=mv.length:=by
 unfold dO;rw[aQ,md ls,lg,fg]
theorem BX {x y:List Rat} (h:x.length=y.length) (hc:c < x.length):(List.zipWith (λx y=>x - y) x y).getD c 0=x.getD c 0 - y.getD c 0:=by
 rw[aa,bo,aa (l:=x),aa (l:=y),af hc,af (by lia)];rfl
theorem Ii:∀u,∃Z,kry mv pt (u+1)=kry mv pt u++Z
 | 0=>⟨pt++[],rfl⟩
 | u+1=>by
  obtain ⟨Z,e⟩:=Ii u;refine ⟨Z.map (qT mv),?_⟩;show pt++(kry mv pt (u+1)).map (qT mv)=(pt++(kry mv pt u).map (qT mv))++_
  rw[e,ck,cC]
theorem Ez {u:Nat}:∀s,∃Z,kry mv pt (u+s)=kry mv pt u++Z
 | 0=>⟨[],by rw[kW];rfl⟩
 | s+1=>by
  obtain ⟨Z,e⟩:=Ez (u:=u) s;obtain ⟨Y,e'⟩:=Ii (mv:=mv) (pt:=pt) (u+s);exact ⟨Z++Y,by rw[<- Nat.add_assoc,e',e,cC]⟩
def wg (w:List Rat) (u k:Nat):LR9:=(List.range u).map λt=>(w.drop (t*k)).take k
theorem uP:∀{u:Nat} {w:List Rat},w.length=u*k->(wg w u k).flatten=w
 | 0,w,h=>by
  rw[Nat.zero_mul] at h;rw[List.length_eq_zero_iff.mp h];rfl
 | u+1,w,h=>by
  have e:wg w (u+1) k=wg (w.take (u*k)) u k++[w.drop (u*k)]:=by
   unfold wg;rw[MB,ck];congr 1
   ·refine List.map_congr_left λt ht=>?_
    have ht:=sL.mp ht;have:t*k+k<=u*k:=by rw[<- c8];exact ay _ ht
    rw[List.drop_take,List.take_take,pE (by lia)]
   ·show [(w.drop (u*k)).take k]=_
    rw[aE (by rw[Kd,h,c8];lia)]
  rw[e,fM,uP (by rw[cv,h,c8];lia)];simp
theorem RP (h:w.length=u*k):∀xs∈wg w u k,xs.length=k:=λxs hx=>by
 obtain ⟨t,ht,rfl⟩:=aB.mp hx;have ht:=sL.mp ht;have:t*k+k<=u*k:=by rw[<- c8];exact ay _ ht
 rw[cv,Kd]
 lia
theorem Md (hx:xs∈wg w u k) (hx':x∈xs):x∈w:=by
 obtain ⟨t,_,rfl⟩:=aB.mp hx;exact List.mem_of_mem_drop (bR hx')
def vN (w:List Rat) (T u k:Nat):LR9:=List.replicate (T - u) (List.replicate k 0)++(wg w u k).reverse
theorem HR (hu:u<=T):(vN w T u k).length=T:=by
 unfold vN wg;rw[ax,bx,bA,ai,bw]
 lia
theorem K4 (h:w.length=u*k):∀xs∈vN w T u k,xs.length=k:=λxs hx=>by
 rcases aG.mp hx with hx | hx
 ·rw[(dI.mp hx).2,bx]
 ·exact RP h xs (cU.mp hx)
theorem Ny {P:Rat->Prop} (h0:P 0) (h:∀x∈w,P x):∀xs∈vN w T u k,∀x∈xs,P x:=λxs hx x hx'=>by
 rcases aG.mp hx with hx | hx
 ·rw[(dI.mp hx).2] at hx';rw[(dI.mp hx').2];exact h0
 ·exact h x (Md (cU.mp hx) hx')
theorem KR:(List.replicate T (List.replicate k (0:Rat))).flatten=List.replicate (T*k) 0:=by
 rw[List.flatten_replicate_replicate]
theorem Ad (D:gG mv pt lk) (ls:st.length=mv.length) (lg:go.length=mv.length) (hu:u<=T) (hw:w.length=(kry mv pt u).length) (e:Oi (kry mv pt u) w mv.length=dO mv T st go):pN mv pt st (vN w T u pt.length) T=go:=by
 have hw':w.length=u*pt.length:=by rw[hw,gX]
 have lp:=HR (w:=w) (k:=pt.length) hu;have l1:=j5 (pt:=pt) (pus:=vN w T u pt.length) ls (k:=T) (by lia);refine zO (by rw[l1,lg]) λc hc=>?_
 rw[l1] at hc;rw[nY D ls T (by lia) (K4 hw') c hc,aE (by lia)]
 have er:(vN w T u pt.length).reverse.flatten=w++List.replicate ((T - u)*pt.length) 0:=by
  unfold vN;rw[List.reverse_append,pk,fM,uP hw',List.reverse_replicate,KR]
 obtain ⟨Z,eZ⟩:=Ez (mv:=mv) (pt:=pt) (u:=u) (T - u);rw[show u+(T - u)=T by lia] at eZ;rw[er,eZ,ax,vz]
 have p1:(bF (kry mv pt u).length λi=>(w++List.replicate ((T - u)*pt.length) 0).getD i 0*cJ (kry mv pt u++Z) i c)=(dO mv T st go).getD c 0:=by
  rw[<- e,BZ hc,hw];exact aP λi hi=>by rw[Oc hi,aa,cu (by lia),aa]
 have p2:(bF Z.length λi=>(w++List.replicate ((T - u)*pt.length) 0).getD ((kry mv pt u).length+i) 0*cJ (kry mv pt u++Z) ((kry mv pt u).length+i) c)=0:=c9 λi _=>by
  have z:(w++List.replicate ((T - u)*pt.length) (0:Rat)).getD ((kry mv pt u).length+i) 0=0:=by
   rw[aa,bN (by lia),xU]
   split <;> rfl
  rw[z,kb]
 rw[p1,p2,kd];unfold dO;rw[BX (by rw[lg,md ls]) (by lia)];grind
theorem Jq (wp:∀xs∈pt,xs.length=mv.length) (RRu:cO (kry mv pt u) mv.length R ps) (RRT:cO (kry mv pt T) mv.length R ps') (lp:pr.length=mv.length) (h:∀xs∈kry mv pt u,cm xs pr=0):∀xs∈kry mv pt T,cm xs pr=0:=λxs hx=>by
 have wu:=eo (mv:=mv) rfl wp u;have wT:=eo (mv:=mv) rfl wp T;obtain ⟨i,hi,rfl⟩:=aY hx;have s1:fo (kry mv pt u).length (cJ (kry mv pt u)) (cJ (kry mv pt T) i):=fo.trans (λt ht=>RRu.2.2.back t (by rw[<- RRu.1,RRT.1];exact ht)) (RRT.2.2.span i hi);obtain ⟨v,hv⟩:=s1
 have fn:∀{X:LR9} {i:Nat} (h:i < X.length) (c:Nat),X[i].getD c 0=cJ X i c:=λ{X i} h c=>by
  unfold cJ;rw[aa (l:=X),af h];rfl
 have w1:=wT _ (aD hi);rw[cW (by lia),w1]
 have e1:(bF mv.length λc=>(kry mv pt T)[i].getD c 0*pr.getD c 0)=bF (kry mv pt u).length λt=>v t*bF mv.length λc=>cJ (kry mv pt u) t c*pr.getD c 0:=by
  have q:∀c,c < mv.length->(kry mv pt T)[i].getD c 0*pr.getD c 0=bF (kry mv pt u).length λt=>v t*(cJ (kry mv pt u) t c*pr.getD c 0):=λc _=>by
   rw[fn hi c,hv c,dA,<- cM];exact aP λt _=>by grind
  rw[aP q,fR];exact aP λt _=>cM
 rw[e1];refine c9 λt ht=>?_
 have w2:=wu _ (aD ht);have:=h _ (aD ht);rw[cW (by lia),w2] at this
 have q:(bF mv.length λc=>cJ (kry mv pt u) t c*pr.getD c 0)=0:=by
  refine Eq.trans ?_ this;exact aP λc _=>by rw[fn ht c]
 rw[q,fP]
end
def CW (l:Addr):Hp:=λq=>if q=l then some (.lst []) else none
theorem off_ne:CW l l≠none:=by unfold CW;rw[if_pos rfl];exact λz=>nomatch z
theorem Li (h:q≠l):CW l q=none:=by unfold CW;rw[if_neg h]
def Fn (K:FG9) (l:Addr) (H:Hp) (R:LR9) (v:V):Prop:=∃q,v=V.ref q/\q≠l/\bH K (CW l) H q R
section
variable {K:FG9} {H0 H H':Hp} {l p q:Addr} {R:LR9} {v:V} {mv pt:LR9} {u T:Nat}
theorem bH.off (h:bH K H0 H p R) (hl:H l=none):p≠l/\bH K (CW l) H p R:=by
 obtain ⟨xs,g,r,n⟩:=h;refine ⟨λz=>(by rw[z,hl] at g;cases g),xs,g,Paired.imp' (λ_ _ ⟨q,a,b,c⟩=>⟨q,a,Li λz=>?_,c⟩) r,n⟩;obtain ⟨_,gg,_⟩:=c;rw[z,hl] at gg;cases gg
theorem Fn.same (h:Fn K l H R v) (s:aK H H'):Fn K l H' R v:=by obtain ⟨q,a,b,c⟩:=h;exact ⟨q,a,b,c.same s⟩
theorem Fn.upd {ys zs:List V} (h:Fn K l H R v) (g:H l=some (.lst ys)):Fn K l (upd H l (.lst zs)) R v:=by obtain ⟨q,a,b,c⟩:=h;exact ⟨q,a,b,c.updL g off_ne b⟩
def AL (mv pt:LR9) (u:Nat):List (LR9):=(List.range u).map λs=>pt.map (lK mv s)
theorem Dn:AL mv pt (u+1)=AL mv pt u++[pt.map (lK mv u)]:=by unfold AL;rw[MB,ck];rfl
theorem jI:∀u,(AL mv pt u).flatten=kry mv pt u
 | 0=>rfl
 | u+1=>by
  have e:AL mv pt (u+1)=pt :: (AL mv pt u).map (List.map (qT mv)):=by
   unfold AL;rw[List.range_succ_eq_map,ia,yr];congr 1
   ·exact pA pt
   ·rw[yr];refine List.map_congr_left λs _=>?_
    show pt.map (lK mv (s+1))=(pt.map (lK mv s)).map (qT mv)
    rw[yr];rfl
  rw[e,bU,<- List.map_flatten,jI u];rfl
end
inductive HL (K:FG9) (vs:List V) (H:Hp) (Q:VK) (E9:XK):Prop
 | mk (p:Addr) (u k:Nat) (w:List Rat):vs=[.ref p,.int u,.int k]->cL K H p w->w.length=u*k->u*k<=1000->u<=1000->k<=1000->(∀r H',H r=none->aK H H'->bH K H H' r (wg w u k)->Q (.ref r) H')->HL K vs H Q E9
inductive DQ (K:FG9) (C:Addr) (vs:List V) (H:Hp) (Q:VK) (E9:XK):Prop
 | mk (x:Addr) (T:Nat) (H0:Hp) (mv pt lk:LR9):vs=[.ref x,.int T]->T<=100->kU K H0 H C x mv pt lk->gG mv pt lk->(∀r H',H r=none->aK H H'->bH K H H' r (List.replicate T (List.replicate pt.length 0))->Q (.ref r) H')->DQ K C vs H Q E9
inductive DU (K:FG9) (C:Addr) (vs:List V) (H:Hp) (Q:VK) (E9:XK):Prop
 | mk (x s g:Addr) (T:Nat) (H0:Hp) (mv pt lk:LR9) (st go:List Rat):vs=[.ref x,.ref s,.ref g,.int T]->T<=99->kU K H0 H C x mv pt lk->gG mv pt lk->Ka mv pt lk->cL K H s st->st.length=mv.length->cL K H g go->go.length=mv.length->AV mv pt st (List.replicate T (List.replicate pt.length 0))->(∀x∈go,iZ x)->(∀r H',H r=none->aK H H'->cL K H' r (dO mv T st go)->Q (.ref r) H')->DU K C vs H Q E9
structure R6 (mv pt:LR9) (L:List Rat) (D W0 E W1:Nat):Prop where
 d0:0 < D
 e0:0 < E
 w0:1<=W0
 w1:1<=W1
 tk:∀u,u<=mv.length->∀xs∈kry mv pt u,∀x∈xs,Tp D W0 x
 tl:∀x∈L,Tp E W1 x
 de:D*E<=2^215000
 sw:∃w,W0*E+W1*D+D*E<=2^w/\w<=215000/\(mv.length+1)*(w+4)<=445000
theorem R6.join (F:R6 mv pt L D W0 E W1) (hd:due.length=rows.length) (h1:∀xs∈rows,∀x∈xs,Tp (D*E) (W0*E+W1*D+D*E) x) (h2:∀x∈due,Tp (D*E) (W0*E+W1*D+D*E) x) (n8:mv.length<=8) (hm:min rows.length n'<=mv.length+1):∃w,E5 (dk rows due) n' w:=by
 obtain ⟨w,b1,b2,b3⟩:=F.sw;have:=aN F.d0 F.e0;refine ⟨w,D*E,W0*E+W1*D+D*E,aN F.d0 F.e0,F.de,by lia,b1,λxs hx x hx'=>?_,b2,by rw[kG hd];lia,by rw[kG hd];exact ag (ay _ hm) b3⟩;unfold dk at hx;obtain ⟨i,hi,rfl⟩:=aY hx;rw[bM] at hx';rcases aG.mp hx' with z | z
 ·exact h1 _ (aD _) x z
 ·rw[cD.mp z];exact h2 _ (aD _)
theorem Tp.up (h:Tp M W q) (k:Nat) (hx:W*k<=x):Tp (M*k) x q:=by
 obtain ⟨z,e,b⟩:=h;exact ⟨z*k,by rw[fD,aR,<- e,aO];grind,by rw[cI,b6];exact ag (ay _ b) hx⟩
structure RU (mv pt:LR9) (st pu:List Rat):Prop where
 f2:∀xs∈mv,Fl xs st
 part:∀kk,∀x∈nextK mv pt st pu kk,iZ x
 su:∀u∈pu,iZ u
 sp:∀row∈pt,∀y∈row,iZ y
 mul:∀u∈pu,∀row∈pt,∀y∈row,iZ (u*y)
inductive DR (K:FG9) (vs:List V) (H:Hp) (Q:VK) (E9:XK):Prop
 | mk (r s u:Addr) (H0:Hp) (mv pt lk:LR9) (st pu:List Rat):vs=[.ref r,.ref s,.ref u]->gH K H0 H r mv pt lk->gG mv pt lk->cL K H s st->cL K H u pu->st.length=mv.length->pu.length=pt.length->RU mv pt st pu->(∀t H',H t=none->aK H H'->cL K H' t (gQ mv pt st pu)->Q (.ref t) H')->DR K vs H Q E9
structure Bd (mv pt:LR9) (M1 M2 V a1 a2 c:Nat):Prop where
 m1:0 < M1
 m2:0 < M2
 b1:M1<=2^a1
 b2:M2<=2^a2
 gm:GF M1 V mv
 gp:GF M2 V pt
 vc:(mv.length+4)*V<=2^c
section
variable {mv pt lk pus:LR9} {st pu go:List Rat} {M1 M2 V a1 a2 c N Np p t T ν:Nat}
theorem Bd.v1 (B:Bd mv pt M1 M2 V a1 a2 c):V<=2^c:=ag (bZ _ (by lia)) B.vc
theorem zR (h0:0 < M) (h1:M<=2^a) (h2:W<=2^b) (hab:a+b<=199500) (h:Fr M W x):iZ x:=by
 refine kB (Tp.of h (ao _)) h0 (ag h1 (ar (by decide) (by lia))) ?_;refine ag (aw h2 h1) ?_;rw[<- az];exact ar (by decide) (by lia)
theorem Bd.next (B:Bd mv pt M1 M2 V a1 a2 c) (D:gG mv pt lk) (ls:st.length=mv.length) (lu:pu.length=pt.length) (N0:0 < N) (dv:M2*Np∣M1*N) (hs:∀x∈st,Fr N (2^p) x) (hu:∀x∈pu,Fr Np (2^p) x) (hN:N<=2^ν) (sz:a1+ν+c+p<=195000) (sp2:a2+c<=195000):RU mv pt st pu/\∀x∈gQ mv pt st pu,Fr (M1*N) (2^(c+p)) x:=by
 have V1:=B.v1;have i4:=D.i4;have MN0:0 < M1*N:=aN B.m1 N0;have MN:M1*N<=2^(a1+ν):=by rw[az];exact aw B.b1 hN
 have Np0:0 < Np:=by
  rcases k9 Np with z | z
  ·rw[z,IV] at dv;have:=Nat.eq_zero_of_zero_dvd dv
   lia
  ·exact z
 have NpMN:Np<=M1*N:=ag (bZ _ B.m2) (kI MN0 dv)
 have one:∀u∈pu,∀row∈pt,∀y∈row,Fr (M1*N) (V*2^p) (u*y):=λu hu' row hr y hy=>by
  have:=(B.gp row hr y hy).mul (hu u hu');rw[dA];exact this.dvd dv
 have part:∀kk,kk<=pt.length->∀x∈nextK mv pt st pu kk,Fr (M1*N) (2^(c+p)) x:=λkk hkk x hx=>by
  obtain ⟨j,hj,e⟩:=aY hx;rw[jh] at hj;have e2:=zE (mv:=mv) (pt:=pt) (st:=st) (pu:=pu) (k:=kk) hj;rw[aa,af (by rw[jh];exact hj)] at e2;have e3:x=cm (mv[j]++(pt.map λxs=>xs.getD j 0).take kk) (st++pu.take kk):=by rw[<- e,<- e2];rfl
  have wj:=D.mw _ (aD hj);rw[e3,qG (by lia)];have f1:=Fr.dot (B.gm _ (aD hj)) hs;rw[wj] at f1
  have f2:Fr (M1*N) (4*(V*2^p)) (cm ((pt.map λxs=>xs.getD j 0).take kk) (pu.take kk)):=by
   have hc:∀y∈(pt.map λxs=>xs.getD j 0).take kk,Fr M2 V y:=λy hy=>by
    obtain ⟨xs,hxs,rfl⟩:=aB.mp (bR hy);rw[aa];cases e:xs[j]? with
    | none=>exact Fr.zero
    | some z=>exact B.gp xs hxs z (av e)
   have:=Fr.dot (ys:=pu.take kk) hc (λy hy=>hu y (bR hy));refine (this.dvd dv).mono (ay _ ?_);rw[cv,ai]
   lia
  refine (f1.add f2).mono ?_;rw[<- Mt,az,<- cK];exact ay _ B.vc
 have szb:∀{x:Rat},Fr (M1*N) (2^(c+p)) x->iZ x:=λh=>zR MN0 MN (ao _) (by lia) h
 have all:∀kk,∀x∈nextK mv pt st pu kk,Fr (M1*N) (2^(c+p)) x:=λkk x hx=>by
  rcases c4 pt.length kk with z | z
  ·have e:nextK mv pt st pu kk=nextK mv pt st pu pt.length:=(qU (by lia) (by lia)).trans (qU (ao _) (by lia)).symm;rw[e] at hx;exact part _ (ao _) x hx
  ·exact part kk z x hx
 refine ⟨⟨λxs hx=>⟨a1,c,ν,p,⟨M1,V,B.m1,B.b1,V1,B.gm xs hx⟩,⟨N,2^p,N0,hN,ao _,hs⟩,by lia⟩,λkk x hx=>szb (all kk x hx),λu hu'=>?_,λrow hr y hy=>?_,λu hu' row hr y hy=>szb ((one u hu' row hr y hy).mono (by rw[az];exact ay _ V1))⟩,λx hx=>?_⟩
 ·exact zR Np0 (ag NpMN MN) (ao _) (by lia) (hu u hu')
 ·exact zR B.m2 B.b2 V1 (by lia) (B.gp row hr y hy)
 ·rw[<- qU (k:=pt.length) (ao _) (by lia)] at hx;exact all _ x hx
end
section
variable {mv pt lk pus:LR9} {st pu go:List Rat} {M1 M2 V a1 a2 c N Np p t T ν k:Nat}
def OT (mv pt pus:LR9) (st:List Rat):Prop:=∃M1 M2 V a1 a2 c N Np p ν,Bd mv pt M1 M2 V a1 a2 c/\0 < N/\N<=2^ν/\M2*Np∣N/\(∀x∈st,Fr N (2^p) x)/\(∀xs∈pus,∀x∈xs,Fr Np (2^p) x)/\a1*(pus.length+1)+ν+c*(pus.length+1)+p<=195000/\a2+c<=195000
theorem iT (h:M<=2^a) (hN:N<=2^ν):M^t*N<=2^(a*t+ν):=by
 rw[az,ph];exact aw (kz h t) hN
theorem Bd.states (B:Bd mv pt M1 M2 V a1 a2 c) (D:gG mv pt lk) (ls:st.length=mv.length) (wp:∀xs∈pus,xs.length=pt.length) (N0:0 < N) (hN:N<=2^ν) (dv:M2*Np∣N) (hs:∀x∈st,Fr N (2^p) x) (hu:∀xs∈pus,∀x∈xs,Fr Np (2^p) x) (sz:a1*(pus.length+1)+ν+c*(pus.length+1)+p<=195000) (sp2:a2+c<=195000):∀k,k<=pus.length->(∀x∈pN mv pt st pus k,Fr (M1^k*N) (2^(c*k+p)) x)/\∀pu,pus[k]?=some pu->RU mv pt (pN mv pt st pus k) pu:=by
 have key:∀k,k<=pus.length->(∀x∈pN mv pt st pus k,Fr (M1^k*N) (2^(c*k+p)) x)->∀pu,pus[k]?=some pu->RU mv pt (pN mv pt st pus k) pu/\∀x∈gQ mv pt (pN mv pt st pus k) pu,Fr (M1*(M1^k*N)) (2^(c+(c*k+p))) x:=λk hk f pu hpu=>by
  have mp:=av hpu;have kl:=(aJ.mp hpu).1;have e1:a1*(k+1)<=a1*(pus.length+1):=aA _ (by lia);have e2:c*(k+1)<=c*(pus.length+1):=aA _ (by lia);rw[gh,Ms] at e1 e2;refine B.next D (j5 ls hk) (wp pu mp) (aN (fZ B.m1) N0) ?_ f (λx hx=>(hu pu mp x hx).mono (ar (by decide) (Nat.le_add_left _ _))) (iT B.b1 hN) (by lia) sp2;exact kJ dv (kJ (dg _ _) (dg _ _))
 have fr:∀k,k<=pus.length->∀x∈pN mv pt st pus k,Fr (M1^k*N) (2^(c*k+p)) x:=by
  intro k
  induction k with
  | zero =>
   intro _ x hx;rw[Nat.pow_zero,lY,IV,Nat.zero_add];exact hs x hx
  | succ k ih =>
   intro hk x hx;have e:=af (show k < pus.length by lia);rw[pM e] at hx;have:=(key k (by lia) (ih (by lia)) _ e).2 x hx;rw[<- cK,cw M1,<- ff,show c+(c*k+p)=c*(k+1)+p by rw[gh];lia] at this;exact this
 exact λk hk=>⟨fr k hk,λpu hpu=>(key k hk (fr k hk) pu hpu).1⟩
theorem OT.nx (h:OT mv pt pus st) (D:gG mv pt lk) (ls:st.length=mv.length) (wp:∀xs∈pus,xs.length=pt.length) (hk:k<=pus.length) (hpu:pus[k]?=some pu):RU mv pt (pN mv pt st pus k) pu:=by
 obtain ⟨M1,M2,V,a1,a2,c,N,Np,p,ν,B,N0,hN,dv,hs,hu,sz,sp2⟩:=h;exact (B.states D ls wp N0 hN dv hs hu sz sp2 k hk).2 pu hpu
def SV (mv:LR9) (st:List Rat) (T:Nat):Prop:=∃M1 V a1 c N p ν,0 < M1/\M1<=2^a1/\GF M1 V mv/\(mv.length+4)*V<=2^c/\0 < N/\N<=2^ν/\(∀x∈st,Fr N (2^p) x)/\a1*(T+1)+ν+c*(T+1)+p<=195000
theorem K7 (gm:GF M1 V mv) (wm:∀xs∈mv,xs.length=mv.length) (vc:(mv.length+4)*V<=2^c) (ls:st.length=mv.length) (hs:∀x∈st,Fr N (2^p) x):∀t,∀x∈lK mv t st,Fr (M1^t*N) (2^(c*t+p)) x:=by
 intro t
 induction t with
 | zero =>
  intro x hx;rw[Nat.pow_zero,lY,IV,Nat.zero_add];exact hs x hx
 | succ t ih =>
  intro x hx;obtain ⟨row,hr,rfl⟩:=aB.mp (show x∈mv.map λxs=>cm xs (lK mv t st) from hx);have f:=Fr.dot (gm row hr) ih;rw[<- cK,cw M1,<- ff] at f;refine f.mono ?_;rw[wm row hr,<- cK,show c*(t+1)+p=c+(c*t+p) by rw[gh];lia,az 2 c];exact ay _ (ag (ay V (show mv.length<=mv.length+4 by lia)) vc)
theorem SV.fit (h:SV mv st T) (wm:∀xs∈mv,xs.length=mv.length) (ls:st.length=mv.length) (ht:t<=T):(∀xs∈mv,Fl xs (lK mv t st))/\∀x∈lK mv t st,iZ x:=by
 obtain ⟨M1,V,a1,c,N,p,ν,m0,m1,gm,vc,N0,hN,hs,sz⟩:=h;have f:=K7 gm wm vc ls hs t;have V1:V<=2^c:=ag (bZ _ (by lia)) vc;have e1:a1*t<=a1*T:=aA _ ht;have e2:c*t<=c*T:=aA _ ht;rw[gh,gh,Ms,Ms] at sz;exact ⟨λxs hx=>⟨a1,c,a1*t+ν,c*t+p,⟨M1,V,m0,m1,V1,gm xs hx⟩,⟨M1^t*N,2^(c*t+p),aN (fZ m0) N0,iT m1 hN,ao _,f⟩,by lia⟩,λx hx=>zR (aN (fZ m0) N0) (iT m1 hN) (ao _) (by lia) (f x hx)⟩
def OU (mv pt:LR9) (T:Nat):Prop:=∃M1 M2 V a1 a2 c,Bd mv pt M1 M2 V a1 a2 c/\a1*(T+1)+a2+c*(T+2)<=195000
theorem OU.row (h:OU mv pt T) (wm:∀xs∈mv,xs.length=mv.length) (wp:∀xs∈pt,xs.length=mv.length):∀xs∈pt,SV mv xs T:=λxs hx=>by
 obtain ⟨M1,M2,V,a1,a2,c,B,sz⟩:=h;refine ⟨M1,V,a1,c,M2,c,a2,B.m1,B.b1,B.gm,B.vc,B.m2,B.b2,λx hx'=>(B.gp xs hx x hx').mono B.v1,?_⟩;rw[gh c T 2] at sz;rw[gh c T 1]
 lia
end
inductive HJ (K:FG9) (vs:List V) (H:Hp) (Q:VK) (E9:XK):Prop
 | mk (r s p:Addr) (H0 H1:Hp) (mv pt lk pus:LR9) (st:List Rat):vs=[.ref r,.ref s,.ref p]->gH K H0 H r mv pt lk->gG mv pt lk->cL K H s st->st.length=mv.length->bH K H1 H p pus->pus.length<=100->(∀xs∈pus,xs.length=pt.length)->OT mv pt pus st->(∀t H',H t=none->aK H H'->cL K H' t (pN mv pt st pus pus.length)->Q (.ref t) H')->HJ K vs H Q E9
section
variable {X:Cx}
theorem JT (hc:X.calm=true):pe X (.builtin "max") (λxs H Q=>∃(p:Addr) (ns:List Int),xs=[.ref p]/\bO X.K H p (ns.map V.int)/\0 < ns.length/\∀M,M∈ns->(∀a,a∈ns->a<=M)->Q (.int M) H):=by
 intro pins s σ H xs us Q I r h;obtain ⟨p,ns,rfl,hp,hne,q⟩:=h;obtain ⟨u,rfl,ru⟩:=vals1 r;cases ru;obtain ⟨its,r2,pl,_⟩:=I.list hp;have hi:=intsAre_of r2;have hl:=pl.isList;obtain ⟨xs,e⟩:=hi.allInts.items
 have hns:ns=xs.toList.map (·.1):=by
  rw[<- hi.numsOf,<- nums_intItems,<- e]
 have hsz:0 < xs.size:=by
  have h3:=hne;rw[hns,ai,Array.length_toList] at h3;exact h3
 rw[e] at hl;refine max_intList (I.ok.hd hc) hl hsz λv h' tk hv hk=>?_
 obtain ⟨t,rfl⟩:=intItems_at hv;obtain ⟨h1,h2⟩:=argBest_gt (numAt xs) (xs.size - 1);refine ⟨.int _,H,I.kept hk,⟨_,rfl⟩,q _ ?_ λa ha=>?_⟩
 ·rw[hns,numAt_eq];exact getD_in (by rw[ai,Array.length_toList];lia)
 ·rw[hns] at ha;obtain ⟨j,hj,rfl⟩:=mem_getD ha;rw[ai,Array.length_toList] at hj;rw[<- numAt_eq];exact h2 j (by lia)
end
theorem Bl {α β:Type} {f:α->β}:∀{l1:List α} {l2:List β},Paired (λa b=>b=f a) l1 l2->l2=l1.map f
 | _,_,.nil=>rfl
 | _,_,.cons h r=>by rw[h,Bl r];rfl
def SN (mv pt:LR9) (T:Nat):Prop:=T<=12/\(T<=3\/((∀xs∈mv++pt,∀x∈xs,x.den<=9/\x.num.natAbs < 1000)/\(5 < mv.length->T<=mv.length)/\(3<=mv.length->mv.length<=5->T<=mv.length+1)))
def QG (x:Rat):Int:=(x.den:Int)+(x.num.natAbs:Int) / 1000*9
theorem N6 (h:QG x<=9):x.den<=9/\x.num.natAbs < 1000:=by
 unfold QG at h;have:=x.den_pos
 lia
inductive A3 (K:FG9) (vs:List V) (H:Hp) (Q:VK) (E9:XK):Prop
 | mk (b r:Addr) (H0:Hp) (mv pt lk:LR9):vs=[.ref b,.ref r]->hZ H b->H0 b≠none->gH K H0 H r mv pt lk->gG mv pt lk->(∀xs∈mv++pt,∀x∈xs,iZ x)->(∀(T:Nat) H',SN mv pt T->hZ H' b->cZ b H H'->Q (.int T) H')->A3 K vs H Q E9
inductive DN (K:FG9) (vs:List V) (H:Hp) (Q:VK) (E9:XK):Prop
 | mk (b r:Addr) (T w:Nat) (H0:Hp) (mv pt lk:LR9):vs=[.ref b,.ref r,.int T,.int w]->T<=100->1<=w->w<=1000->hZ H b->H0 b≠none->gH K H0 H r mv pt lk->gG mv pt lk->(∀p pus H',H p=none->bH K H H' p pus->pus.length=T->(∀xs∈pus,xs.length=pt.length/\∀x∈xs,Dr (max w 6) x)->hZ H' b->cZ b H H'->Q (.ref p) H')->DN K vs H Q E9
section
variable {mv pt lk pus:LR9} {st pr go:List Rat} {T k:Nat}
theorem JC (D:gG mv pt lk) (ls:st.length=mv.length) (lg:go.length=mv.length) (lp:pus.length=T) (wp:∀xs∈pus,xs.length=pt.length) (h1:pN mv pt st pus T=go) (lpr:pr.length=mv.length) (h2:∀xs∈kry mv pt T,cm xs pr=0):cm pr (dO mv T st go)=0:=by
 have ll:=qA (T:=T) ls lg;rw[cW (by lia),lpr];have f:=nY (pus:=pus) (st:=st) D ls T (by lia) wp;rw[h1] at f;have wT:=eo (mv:=mv) rfl D.pw T
 have e1:(bF mv.length λc=>pr.getD c 0*(dO mv T st go).getD c 0)=bF (kry mv pt T).length λi=>((pus.take T).reverse.flatten).getD i 0*bF mv.length λc=>cJ (kry mv pt T) i c*pr.getD c 0:=by
  have q:∀c,c < mv.length->pr.getD c 0*(dO mv T st go).getD c 0=bF (kry mv pt T).length λi=>((pus.take T).reverse.flatten).getD i 0*(cJ (kry mv pt T) i c*pr.getD c 0):=λc hc=>by
   have e:(dO mv T st go).getD c 0=bF (kry mv pt T).length λi=>((pus.take T).reverse.flatten).getD i 0*cJ (kry mv pt T) i c:=by
    unfold dO;rw[BX (by rw[lg,md ls]) (by lia),f c hc];grind
   rw[e,<- cM];exact aP λi _=>by grind
  rw[aP q,fR];exact aP λi _=>cM
 rw[e1];refine c9 λi hi=>?_
 have w1:=wT _ (aD hi);have:=h2 _ (aD hi);rw[cW (by lia),w1] at this
 have q:(bF mv.length λc=>cJ (kry mv pt T) i c*pr.getD c 0)=0:=by
  refine Eq.trans (aP λc _=>?_) this;unfold cJ;rw[aa (l:=kry mv pt T),af hi];rfl
 rw[q,fP]
end
structure CtF (mv pt:LR9) (T:Nat) (st go:List Rat) (D W0 E W1:Nat):Prop where
 cf:AV mv pt st (List.replicate T (List.replicate pt.length 0))
 sg:∀x∈go,iZ x
 co:R6 mv pt (dO mv T st go) D W0 E W1
 en:∀(pus:LR9) (q:Nat),0 < q->q<=(16*W0)^mv.length->pus.length=T->(∀xs∈pus,∀x∈xs,Tp (E*q) (D*(mv.length*(W1*(16*W0)^mv.length))) x)->OT mv pt pus st
def DrP (pt:LR9) (T w:Nat) (pus:LR9):Prop:=pus.length=T/\∀xs∈pus,xs.length=pt.length/\∀x∈xs,Dr (max w 6) x
theorem Lm (ws vs:List V) (M1 M2 M3:Nat):∃μ:V->Nat,(∀x∈ws,μ x=M2)/\(∀x∈vs,x∉ws->μ x=M3)/\(∀x,x∉ws->x∉vs->μ x=M1)/\∀x,μ x=M1\/μ x=M2\/μ x=M3:=by
 classical
 refine ⟨λx=>if x∈ws then M2 else if x∈vs then M3 else M1,λx h=>if_pos h,λx h h'=>?_,λx h h'=>?_,λx=>?_⟩
 ·show (if x∈ws then M2 else if x∈vs then M3 else M1)=M3
  rw[if_neg h',if_pos h]
 ·show (if x∈ws then M2 else if x∈vs then M3 else M1)=M1
  rw[if_neg h,if_neg h']
 ·show (if x∈ws then M2 else if x∈vs then M3 else M1)=M1\/(if x∈ws then M2 else if x∈vs then M3 else M1)=M2\/(if x∈ws then M2 else if x∈vs then M3 else M1)=M3
  by_cases h:x∈ws
  ·rw[if_pos h];exact .inr (.inl rfl)
  ·rw[if_neg h];by_cases h':x∈vs
   ·rw[if_pos h'];exact .inr (.inr rfl)
   ·rw[if_neg h'];exact .inl rfl
theorem jL.apart {K:FG9} (h:jL K A H n C m p l b q0 us ws vs):(∀x∈us,x∉ws/\x∉vs)/\∀x∈vs,x∉ws:=by
 obtain ⟨n1,n2,n3⟩:=dG.mp h.nd;obtain ⟨n4,n5,n6⟩:=dG.mp n1;exact ⟨λx hx=>⟨λz=>n3 x (aG.mpr (.inl hx)) x z rfl,λz=>n6 x hx x z rfl⟩,λx hx z=>n3 x (aG.mpr (.inr hx)) x z rfl⟩
theorem jL.fr3 {K:FG9} (h:jL K A H n (λ_=>Dr (2^c)) m p l b q0 us ws vs):∃M1 M2 M3,0 < M1/\0 < M2/\0 < M3/\M1<=2^(c*(n*n))/\M2<=2^(c*(ws.length*n))/\M3<=2^(c*(vs.length*n))/\(∀x∈us,fN K A H n (Fr M1 (2^c)) x)/\(∀x∈ws,fN K A H n (Fr M2 (2^c)) x)/\∀x∈vs,fN K A H n (Fr M3 (2^c)) x:=by
 have one:∀l:List V,(∀x∈l,x∈us++vs++ws)->∃M,0 < M/\M<=2^(c*(l.length*n))/\∀x∈l,fN K A H n (Fr M (2^c)) x:=λl hl=>by
  obtain ⟨ra,pa,la,ha⟩:=yU λx hx=>h.row x (hl x hx)
  obtain ⟨M,m0,m1,m2⟩:=MZ (c:=c) (n:=n) (rows:=ra) ha;exact ⟨M,m0,by rw[la] at m1;exact m1,FI pa λqs hq=>⟨(ha qs hq).1,m2 qs hq⟩⟩
 obtain ⟨M1,a1,a2,a3⟩:=one us λx hx=>by simp [hx]
 obtain ⟨M2,b1,b2,b3⟩:=one ws λx hx=>by simp [hx]
 obtain ⟨M3,c1,c2,c3⟩:=one vs λx hx=>by simp [hx]
 rw[h.lm] at a2;exact ⟨M1,M2,M3,a1,b1,c1,a2,b2,c2,a3,b3,c3⟩
inductive A8 (K:FG9) (xs:List V) (H:Hp) (Q:VK) (E9:XK):Prop
 | mk (b m p l q0:Addr) (n V1:Nat) (μ:V->Nat) (A:Addr->Prop) (us ws vs:List V):xs=[.ref b,.ref m,.ref p,.ref l]->Fb A m p l b q0->jL K A H n (λx=>Fr (μ x) V1) m p l b q0 us ws vs->n<=8->ws.length<=4->vs.length<=4->(∀x,0 < μ x)->(∀x,μ x<=2^800)->(∃M,∀x,x∉ws->x∉vs->μ x=M)->V1<=2^20->(∀q,H q=none->A q)->(∀r us' H',H' r=some (.tup [.ref m,.ref p,.ref l])->jL K A H' n (λx=>Fr (μ x) (9^3*V1)) m p l b q0 us' ws vs->iJ A b m H H'->Q (.ref r) H')->A8 K xs H Q E9
def SQ (n i o w c:Nat) (mv pt lk:LR9):Prop:=∃M1 M2 M3 V1:Nat,0 < M1/\0 < M2/\0 < M3/\GF M1 V1 mv/\GF M2 V1 pt/\GF M3 V1 lk/\((w<=9/\M1=2520/\M2=2520/\M3=2520/\V1=9^3*9)\/(9 < w/\M1<=2^(c*(n*n))/\M2<=2^(c*(i*n))/\M3<=2^(c*(o*n))/\V1=9^3*2^c))
inductive A5 (K:FG9) (vs:List V) (H:Hp) (Q:VK) (E9:XK):Prop
 | mk (b:Addr) (n i o w c:Nat):vs=[.ref b,.int n,.int i,.int o,.int w]->hZ H b->n<=8->i<=4->o<=4->1<=w->w<=1000000->max w 6<=2^c->c<=20->c*((n+i+o)*n)<=800->(∀r mv pt lk H',gH K H H' r mv pt lk->mv.length=n->pt.length=i->lk.length=o->gG mv pt lk->SQ n i o w c mv pt lk->hZ H' b->cZ b H H'->Q (.ref r) H')->A5 K vs H Q E9
def Rg (mv pt:LR9) (w:Nat):Prop:=(w<=9/\Bd mv pt 1 1 (9^3) 0 0 14)\/(w<=9/\mv.length<=5/\Bd mv pt 2520 2520 (9^3*9) 12 12 16)\/(w=1000/\mv.length<=2/\∃M1 M2,Bd mv pt M1 M2 (9^3*2^20) 80 160 33)
def MM (K:FG9):Sp:=λvs H Q _=>∃b:Addr,vs=[.ref b]/\hZ H b /\
 ∀t r (w a c:Nat) mv pt lk H',H' t=some (.tup [.ref r,.int w])->gH K H H' r mv pt lk->gG mv pt lk->Ka mv pt lk->wK mv pt a c->Rg mv pt w->1<=w->w<=1000->hZ H' b->cZ b H H'->Q (.ref t) H'
theorem F9 {M V:Nat} (h:GF M V l) (k:Nat):GF (k*M) V l:=λxs hx x hx'=>(h xs hx x hx').scaleL k
theorem SQ.n {n i o w c:Nat} (h:SQ n i o w c mv pt lk):PtF n i o w c mv pt lk:=by
 obtain ⟨M1,M2,M3,V1,a1,a2,a3,f1,f2,f3,hc⟩:=h;rcases hc with ⟨w9,rfl,rfl,rfl,e⟩ | ⟨w9,e1,e2,e3,e⟩
 ·exact ⟨2520,V1,by decide,f1,f2,f3,.inl ⟨w9,rfl,e⟩⟩
 ·refine ⟨M1*M2*M3,V1,aN (aN a1 a2) a3,?_,?_,?_,.inr ⟨w9,?_,e⟩⟩
  ·have:=F9 f1 (M2*M3);rwa [show M2*M3*M1=M1*M2*M3 by rw[cw (M2*M3),cK]] at this
  ·have:=F9 f2 (M1*M3);rwa [show M1*M3*M2=M1*M2*M3 by rw[cK,cw M3,cK]] at this
  ·exact F9 f3 (M1*M2)
  ·refine ag (aw (aw e1 e2) e3) ?_;rw[<- az,<- az,show c*((n+i+o)*n)=c*(n*n)+c*(i*n)+c*(o*n) by rw[Mt,Mt,gh,gh]];exact ao _
def zd (n a1 a2:Nat):Nat:=a1*(n - 1)+a2
def zw (n a1 a2 c:Nat):Nat:=zd n a1 a2+c*n
def zq (n a1 a2 c:Nat):Nat:=n*(4+zw n a1 a2 c)
def ze (a1 a2 T b:Nat):Nat:=a1*T+a2+b
def zu (a1 a2 c T b g:Nat):Nat:=ze a1 a2 T b+(c*T+g+1)
abbrev ZS (n a1 a2 c T b g:Nat):Prop:=ze a1 a2 T b<=1500/\c*T+g<=1800/\zw n a1 a2 c+ze a1 a2 T b+zu a1 a2 c T b g+zd n a1 a2+2<=215000/\(n+1)*(zw n a1 a2 c+ze a1 a2 T b+zu a1 a2 c T b g+zd n a1 a2+6)<=445000/\a1*(T+1)+(a2+ze a1 a2 T b+zq n a1 a2 c)+c*(T+1)+(zd n a1 a2+3+zu a1 a2 c T b g+zq n a1 a2 c)<=195000/\a2+c<=195000/\a1*(T+1)+a2+c*(T+2)<=195000
abbrev ZP (n a1 a2 c T b g:Nat):Prop:=2*(zq n a1 a2 c+5+zu a1 a2 c T b g)+zu a1 a2 c T b g<=196500/\2*(zq n a1 a2 c+5+zu a1 a2 c T b g)+(a1*T+a2+c*(T+1))<=196500
theorem Kj {n n' a1 a2 c T T' b b' g:Nat} (hn:n<=n') (hT:T<=T') (hb:b<=b'):zd n a1 a2<=zd n' a1 a2/\zw n a1 a2 c<=zw n' a1 a2 c/\zq n a1 a2 c<=zq n' a1 a2 c/\ze a1 a2 T b<=ze a1 a2 T' b'/\zu a1 a2 c T b g<=zu a1 a2 c T' b' g/\a1*T<=a1*T'/\c*T<=c*T'/\a1*(T+1)<=a1*(T'+1)/\c*(T+1)<=c*(T'+1)/\c*(T+2)<=c*(T'+2):=by
 have e1:a1*(n - 1)<=a1*(n' - 1):=aA _ (by lia);have e2:c*n<=c*n':=aA _ hn;have e3:a1*T<=a1*T':=aA _ hT;have e4:c*T<=c*T':=aA _ hT;have w:zw n a1 a2 c<=zw n' a1 a2 c:=by unfold zw zd;lia
 have q:zq n a1 a2 c<=zq n' a1 a2 c:=aw hn (by lia);refine ⟨by unfold zd;lia,w,q,by unfold ze;lia,by unfold zu ze;lia,e3,e4,aA _ (by lia),aA _ (by lia),aA _ (by lia)⟩
theorem l7 {n n' a1 a2 c T T' b b' g:Nat} (hn:n<=n') (hT:T<=T') (hb:b<=b') (h:ZS n' a1 a2 c T' b' g):ZS n a1 a2 c T b g:=by
 obtain ⟨h1,h2,h3,h4,h5,h6,h7⟩:=h;obtain ⟨m1,m2,m3,m4,m5,m6,m7,m8,m9,m10⟩:=Kj (a1:=a1) (a2:=a2) (c:=c) (g:=g) hn hT hb;refine ⟨by lia,by lia,by lia,ag (aw (by lia) (by lia)) h4,by lia,h6,by lia⟩
theorem ya {n n' a1 a2 c T T' b b' g:Nat} (hn:n<=n') (hT:T<=T') (hb:b<=b') (h:ZP n' a1 a2 c T' b' g):ZP n a1 a2 c T b g:=by
 obtain ⟨h1,h2⟩:=h;obtain ⟨m1,m2,m3,m4,m5,m6,m7,m8,m9,m10⟩:=Kj (a1:=a1) (a2:=a2) (c:=c) (g:=g) hn hT hb;exact ⟨by lia,by lia⟩
section
variable {mv pt lk pus:LR9} {st pu go pr:List Rat} {M1 M2 V a1 a2 c B b g p t T w:Nat}
theorem Bd.kry (X:Bd mv pt M1 M2 V a1 a2 c) (D:gG mv pt lk):∀t,∀xs∈kry mv pt t,∀x∈xs,Fr (M1^(t - 1)*M2) (2^(c*t)) x:=by
 intro t
 induction t with
 | zero=>intro xs hx;exact nomatch hx
 | succ t ih =>
  intro xs hx x hx';rcases aG.mp (show xs∈pt++(L2.kry mv pt t).map (qT mv) from hx) with hx | hx
  ·refine Fr.up (X.gp xs hx x hx') (dg _ _) (ag X.v1 (ar (by decide) ?_));exact cn _ (by lia)
  ·obtain ⟨ys,hy,rfl⟩:=aB.mp hx;obtain ⟨row,hr,rfl⟩:=aB.mp (show x∈mv.map λzs=>cm zs ys from hx');rcases t with _ | t
   ·exact nomatch hy
   have f:=Fr.dot (X.gm row hr) (ih ys hy);rw[show M1*(M1^(t+1 - 1)*M2)=M1^(t+1+1 - 1)*M2 by rw[<- cK,show t+1 - 1=t by lia,show t+1+1 - 1=t+1 by lia,ff,cw M1]] at f;refine f.mono ?_;rw[D.mw row hr,<- cK,show c*(t+1+1)=c+c*(t+1) by rw[gh c (t+1)];lia,az 2 c];exact ay _ (ag (ay V (show mv.length<=mv.length+4 by lia)) X.vc)
theorem Bd.lack (X:Bd mv pt M1 M2 V a1 a2 c) (D:gG mv pt lk) (ls:st.length=mv.length) (hs:∀x∈st,Fr B (2^g) x) (hg:∀x∈go,Fr (M1^T*(M2*B)) (2^(c*T+g)) x):∀x∈dO mv T st go,Fr (M1^T*(M2*B)) (2^(c*T+g+1)) x:=λx hx=>by
 unfold dO at hx;obtain ⟨j,hj,e⟩:=aY hx;rw[bM] at e;rw[<- e,show 2^(c*T+g+1)=2^(c*T+g)+2^(c*T+g) by rw[ff];lia];exact (hg _ (aD _)).sub ((K7 X.gm D.mw X.vc ls hs T _ (aD _)).dvd (Nat.mul_dvd_mul_left _ (dg _ _)))
theorem Bd.end (X:Bd mv pt M1 M2 V a1 a2 c) (D:gG mv pt lk) (ls:st.length=mv.length) (lp:pus.length=T) (wp:∀xs∈pus,xs.length=pt.length) (b0:0 < B) (b1:B<=2^b) (hs:∀x∈st,Fr B (2^g) x) (hu:∀xs∈pus,∀x∈xs,Fr B (2^g) x) (Z:ZS mv.length a1 a2 c T b g):OT mv pt pus st/\∀k,k<=T->∀x∈pN mv pt st pus k,Fr (M1^k*(M2*B)) (2^(c*k+g)) x:=by
 obtain ⟨h1,h2,h3,h4,h5,h6,h7⟩:=Z;have n0:0 < M2*B:=aN X.m2 b0;have hN:M2*B<=2^(a2+b):=by rw[az];exact aw X.b2 b1
 have hs':∀x∈st,Fr (M2*B) (2^g) x:=λx hx=>(hs x hx).scaleL _
 have sz:a1*(pus.length+1)+(a2+b)+c*(pus.length+1)+g<=195000:=by
  rw[lp];unfold zu ze at h5
  lia
 exact ⟨⟨M1,M2,V,a1,a2,c,M2*B,B,g,a2+b,X,n0,hN,yp _,hs',hu,sz,h6⟩,λk hk=>(X.states D ls wp n0 hN (yp _) hs' hu sz h6 k (by lia)).1⟩
theorem Ed (h:xs∈List.replicate T (List.replicate i (0:Rat))) (hx:x∈xs):x=0:=by
 rw[kL h] at hx;exact kL hx
theorem Bd.ctf (X:Bd mv pt M1 M2 V a1 a2 c) (D:gG mv pt lk) (ls:st.length=mv.length) (b0:0 < B) (b1:B<=2^b) (hs:∀x∈st,Fr B (2^g) x) (hg:∀x∈go,Fr (M1^T*(M2*B)) (2^(c*T+g)) x) (Z:ZS mv.length a1 a2 c T b g):CtF mv pt T st go (M1^(mv.length - 1)*M2) (2^(c*mv.length)*(M1^(mv.length - 1)*M2)) (M1^T*(M2*B)) (2^(c*T+g+1)*(M1^T*(M2*B))):=by
 have Z':=Z;obtain ⟨h1,h2,h3,h4,h5,h6,h7⟩:=Z;have n0:0 < M2*B:=aN X.m2 b0;have hN:M2*B<=2^(a2+b):=by rw[az];exact aw X.b2 b1
 obtain ⟨Dd,eD⟩:∃d,M1^(mv.length - 1)*M2=d:=⟨_,rfl⟩;obtain ⟨E,eE⟩:∃d,M1^T*(M2*B)=d:=⟨_,rfl⟩;have D0:0 < Dd:=by rw[<- eD];exact aN (fZ X.m1) X.m2
 have E0:0 < E:=by rw[<- eE];exact aN (fZ X.m1) n0
 have dD:Dd<=2^zd mv.length a1 a2:=by rw[<- eD];exact iT X.b1 X.b2
 have dE:E<=2^ze a1 a2 T b:=by
  rw[<- eE,show ze a1 a2 T b=a1*T+(a2+b) by unfold ze;lia];exact iT X.b1 hN
 have dW:2^(c*mv.length)*Dd<=2^zw mv.length a1 a2 c:=by
  rw[show zw mv.length a1 a2 c=c*mv.length+zd mv.length a1 a2 by unfold zw;lia,az];exact aA _ dD
 have dU:2^(c*T+g+1)*E<=2^zu a1 a2 c T b g:=by
  rw[show zu a1 a2 c T b g=c*T+g+1+ze a1 a2 T b by unfold zu;lia,az 2 (c*T+g+1)];exact aA _ dE
 have hl:=X.lack D ls hs hg;have hg':=hg;rw[eD,eE];rw[eE] at hl hg'
 have q2:(16*(2^(c*mv.length)*Dd))^mv.length<=2^zq mv.length a1 a2 c:=by
  have:16*(2^(c*mv.length)*Dd)<=2^(4+zw mv.length a1 a2 c):=by rw[az];exact aA _ dW
  refine ag (kz this _) ?_;rw[<- ph,cw];exact ao _
 refine ⟨λk hk=>?_,λx hx=>zR E0 dE (ao _) (by lia) (hg' x hx),⟨D0,E0,aN (fZ (by decide)) D0,aN (fZ (by decide)) E0,λu hu xs hx x hx'=>?_,λx hx=>Tp.of (hl x hx) (ao _),?_,?_⟩,λqs q q0 hq lq hp=>?_⟩
 ·have wz:∀xs∈List.replicate T (List.replicate pt.length (0:Rat)),xs.length=pt.length:=λxs hx=>by rw[kL hx,bx]
  have lz:(List.replicate T (List.replicate pt.length (0:Rat))).length=T:=bx ..;rw[lz] at hk;obtain ⟨_,f⟩:=X.end D ls lz wz b0 b1 hs (λxs hx x hx'=>by rw[Ed hx hx'];exact Fr.zero) Z';have m1:a1*k<=a1*T:=aA _ hk;have m2:c*k<=c*T:=aA _ hk;exact ⟨M1^k*(M2*B),2^(c*k+g),aN (fZ X.m1) n0,ag (iT X.b1 hN) (ar (by decide) (by unfold ze at h1;lia)),ar (by decide) (by lia),f k hk,λxs hx x hx'=>by rw[Ed hx hx'];exact Fr.zero⟩
 ·have f:=X.kry D u xs hx x hx';rw[<- eD];refine Tp.of (Fr.up (M':=M1^(mv.length - 1)*M2) (V':=2^(c*mv.length)) f (Nat.mul_dvd_mul_right (Nat.pow_dvd_pow _ (by lia)) _) (ar (by decide) (aA _ hu))) (ao _)
 ·refine ag (aw dD dE) ?_;rw[<- az];exact ar (by decide) (by lia)
 ·refine ⟨zw mv.length a1 a2 c+ze a1 a2 T b+zu a1 a2 c T b g+zd mv.length a1 a2+2,?_,h3,h4⟩
  have S:∀{x y k j:Nat},x<=2^k->y<=2^j->k+j<=zw mv.length a1 a2 c+ze a1 a2 T b+zu a1 a2 c T b g+zd mv.length a1 a2->x*y<=2^(zw mv.length a1 a2 c+ze a1 a2 T b+zu a1 a2 c T b g+zd mv.length a1 a2):=λhx hy hk=>by
   refine ag (aw hx hy) ?_;rw[<- az];exact ar (by decide) hk
  have s1:=S dW dE (by lia);have s2:=S dU dD (by lia);have s3:=S dD dE (by lia);rw[az _ _ 2];generalize 2^(zw mv.length a1 a2 c+ze a1 a2 T b+zu a1 a2 c T b g+zd mv.length a1 a2)=P at s1 s2 s3 ⊢
  lia
 ·have Np0:0 < E*q:=aN E0 q0;have hq':q<=2^zq mv.length a1 a2 c:=ag hq q2
  have hP:Dd*(mv.length*(2^(c*T+g+1)*E*(16*(2^(c*mv.length)*Dd))^mv.length))<=2^(zd mv.length a1 a2+3+zu a1 a2 c T b g+zq mv.length a1 a2 c):=by
   have n3:mv.length<=2^3:=D.n8;refine ag (aw dD (aw n3 (aw dU q2))) ?_;rw[<- az,<- az,<- az];exact ar (by decide) (by lia)
  refine ⟨M1,M2,V,a1,a2,c,M2*(E*q),E*q,zd mv.length a1 a2+3+zu a1 a2 c T b g+zq mv.length a1 a2 c,a2+ze a1 a2 T b+zq mv.length a1 a2 c,X,aN X.m2 Np0,?_,yp _,λx hx=>?_,λxs hx x hx'=>((hp xs hx x hx').fr Np0).mono hP,?_,h6⟩
  ·rw[az,az,cK];exact aw X.b2 (aw dE hq')
  ·refine Fr.up (hs x hx) ?_ (ar (by decide) (by unfold zu;lia));rw[<- eE];exact kJ (kJ (kJ (dg _ M2) (dg _ (M1^T))) (jN _ q)) (dg _ _)
  ·rw[lq];exact h5
theorem Sl (h:ZS n a1 a2 c T b (g+1)):ZS n a1 a2 c T b g:=by
 obtain ⟨h1,h2,h3,h4,h5,h6,h7⟩:=h;have e:zu a1 a2 c T b g<=zu a1 a2 c T b (g+1):=by unfold zu;lia
 exact ⟨h1,by lia,by lia,ag (aA _ (by lia)) h4,by lia,h6,h7⟩
structure Us (mv pt:LR9) (w T M1 M2 V a1 a2 c b1 b2:Nat):Prop where
 bd:Bd mv pt M1 M2 V a1 a2 c
 z1:ZS mv.length a1 a2 c T b1 23
 zp:ZP mv.length a1 a2 c T b1 23
 z2:ZS mv.length a1 a2 c T b2 23
 dr:∀l:List Rat,(∀x∈l,Dr (max w 6) x)->∃B,0 < B/\6∣B/\(∀x∈l,Fr B (2^22) x)/\(l.length<=2*mv.length+T*pt.length->B<=2^b1)/\(l.length<=2*mv.length+2*(T*pt.length)->B<=2^b2)
end
section
variable {mv pt lk pus pus':LR9} {st st' pu go pr:List Rat} {M1 M2 V a1 a2 c B b1 b2 g p t T w:Nat}
theorem Us.pair (U:Us mv pt w T M1 M2 V a1 a2 c b1 b2) (ls:st.length=mv.length) (hs:∀x∈st,Dr (max w 6) x) (hp:DrP pt T w pus):∃B,0 < B/\B<=2^b1/\6∣B/\(∀x∈st,Fr B (2^22) x)/\∀xs∈pus,∀x∈xs,Fr B (2^22) x:=by
 obtain ⟨B,h0,h6,h,h1,_⟩:=U.dr (st++pus.flatten) λx hx=>by
  rcases aG.mp hx with hx | hx
  ·exact hs x hx
  ·obtain ⟨xs,m1,m2⟩:=dQ.mp hx;exact (hp.2 xs m1).2 x m2
 refine ⟨B,h0,h1 ?_,h6,λx hx=>h x (gY _ hx),λxs hx x hx'=>h x (bI _ (dQ.mpr ⟨xs,hx,hx'⟩))⟩;rw[ax,vZ λxs hx=>(hp.2 xs hx).1,hp.1,ls]
 lia
theorem PX {l:List Rat} (h:∀x∈l,Fr B (2^22) x):∀x∈l,Fr B (2^23) x:=λx hx=>(h x hx).mono (by decide)
end
def rB (ws col:List Rat):List Rat:=List.zipWith (λv w=>v / w) col ws
def jO (ws:List Rat) (T:Nat):List Rat:=(List.replicate T ws).flatten
def nK (rows:LR9) (ws:List Rat) (n:Nat):LR9:=vo ((b8 rows n).map (rB ws)) rows n
def gF (rows:LR9) (ws x y:List Rat):Rat:=bF rows.length λk=>cm (rows.getD k []) x*cm (rows.getD k []) y / ws.getD k 0
def QI (rows:LR9) (ws:List Rat) (n:Nat) (g x:List Rat):Prop:=x.length=n/\g.length=n/\∀y:List Rat,y.length=n->cm y g=gF rows ws y x
section
variable {rows more R:LR9} {ws wm x x1 x2 x' y g g1 g2:List Rat} {n:Nat} {ps:List Nat} {c:Rat}
theorem Hs {f:Nat->Rat}:∀k,(∀j,j < k->0<=f j)->0<=bF k f
 | 0,_=>Rat.le_refl
 | k+1,h=>by
  have h1:=Hs k λj hj=>h j (by lia)
  have h2:=h k (by lia);have e:bF (k+1) f=bF k f+f k:=rfl;rw[e];grind
theorem Cg {f:Nat->Rat}:∀k,(∀j,j < k->0<=f j)->bF k f=0->∀j,j < k->f j=0
 | 0,_,_,j,hj=>absurd hj (fE _)
 | k+1,h,z,j,hj=>by
  have h1:=Hs k λj hj=>h j (by lia)
  have h2:=h k (by lia);have e:bF (k+1) f=bF k f+f k:=rfl;rw[e] at z;by_cases q:j=k
  ·rw[q];grind
  ·exact Cg k (λj hj=>h j (by lia)) (by grind) j (by lia)
theorem Pa (hw:∀xs∈rows,xs.length=n) (hk:k < rows.length):(rows.getD k []).length=n:=by
 rw[aa,af hk];exact hw _ (aD _)
theorem Dc (hw:∀xs∈rows,xs.length=n) (hk:k < rows.length) (lx:x.length=n):cm (rows.getD k []) x=bF n λb=>cJ rows k b*x.getD b 0:=by
 have l:=Pa hw hk;rw[cW (by rw[l,lx]),l];rfl
theorem Ih (hw:∀xs∈rows,xs.length=n) (lw:ws.length=rows.length) (lx:x.length=n) (ha:a < n):∃row,(nK rows ws n)[a]?=some row/\row.length=n/\cm row x=bF rows.length λk=>cJ rows k a*(cm (rows.getD k []) x / ws.getD k 0):=by
 refine ⟨(b8 rows n).map λys=>cm ys (rB ws (rows.map λxs=>xs.getD a 0)),?_,by rw[ai,cR],?_⟩
 ·unfold nK vo;rw[aH,aH,lA ha];rfl
 ·have e1:∀b,b < n->((b8 rows n).map λys=>cm ys (rB ws (rows.map λxs=>xs.getD a 0))).getD b 0=bF rows.length λk=>cJ rows k b*(cJ rows k a / ws.getD k 0):=λb hb=>by
   rw[aa,aH,lA hb];show cm (rows.map λxs=>xs.getD b 0) _=_
   have l1:(rB ws (rows.map λxs=>xs.getD a 0)).length=rows.length:=by
    unfold rB;rw[aQ,ai,lw,fg]
   rw[cW (by rw[ai,l1]),ai];refine aP λk hk=>?_
   have at_:∀j,(rows.map λxs=>xs.getD j 0).getD k 0=cJ rows k j:=λj=>by
    rw[getD_map hk];unfold cJ;rw[aa (l:=rows),af hk];rfl
   rw[at_];congr 1;unfold rB;rw[aa,bo,aH,af hk,af (show k < ws.length by lia),aa (l:=ws),af (show k < ws.length by lia)];show (rows[k].getD a 0) / ws[k]=_
   unfold cJ;rw[aa (l:=rows),af hk];rfl
  rw[cW (by rw[ai,cR,lx]),ai,cR,aP λb hb=>by rw[e1 b hb]]
  have e2:(λb=>(bF rows.length λk=>cJ rows k b*(cJ rows k a / ws.getD k 0))*x.getD b 0)=λb=>bF rows.length λk=>(cJ rows k a / ws.getD k 0)*(cJ rows k b*x.getD b 0):=by
   funext b;rw[dA,<- cM];exact aP λk _=>by grind
  rw[e2,fR];refine aP λk hk=>?_
  rw[cM,<- Dc hw hk lx,fY,fY];grind
theorem D3 (hw:∀xs∈rows,xs.length=n) (lg:g.length=n) (lx:x.length=n) (h:∀a,a < n->g.getD a 0=bF rows.length λk=>cJ rows k a*(cm (rows.getD k []) x / ws.getD k 0)):QI rows ws n g x:=by
 refine ⟨lx,lg,λy ly=>?_⟩;rw[cW (by rw[ly,lg]),ly,aP λa ha=>by rw[h a ha,<- cM]];rw[fR];refine aP λk hk=>?_
 have e:(λa=>y.getD a 0*(cJ rows k a*(cm (rows.getD k []) x / ws.getD k 0)))=λa=>(cm (rows.getD k []) x / ws.getD k 0)*(cJ rows k a*y.getD a 0):=by
  funext a;grind
 rw[e,cM,<- Dc hw hk ly,fY,fY];grind
theorem qW:(nK rows ws n).length=n:=by unfold nK vo;rw[ai,ai,cR]
theorem uv:∀xs∈nK rows ws n,xs.length=n:=λxs hx=>by
 unfold nK vo at hx;obtain ⟨ys,_,rfl⟩:=aB.mp hx;rw[ai,cR]
theorem O8 (hw:∀xs∈rows,xs.length=n) (lw:ws.length=rows.length) (lg:g.length=n) (RR:cO (dk (nK rows ws n) g) (n+1) R ps) (hn:n∉ps):QI rows ws n g (iQ R ps n):=by
 have lx:(iQ R ps n).length=n:=jP;refine D3 hw lg lx λa ha=>?_
 obtain ⟨row,er,_,ed⟩:=Ih hw lw lx ha;rw[<- ed];exact (KD (by rw[qW,lg]) uv RR hn er).symm
theorem O4 {a w:Rat} (h:0 < w):0<=a*a / w:=by
 have h1:0<=a*a:=by
  rcases Rat.le_total (a:=0) (b:=a) with z | z
  ·exact mH z z
  ·have:0<=-a:=by grind
   have:=mH this this;grind
 rw[fY];exact mH h1 (Rat.le_of_lt (Rat.inv_pos.mpr h))
theorem GW (hp:∀w∈ws,0 < w) (hk:k < ws.length):0 < ws.getD k 0:=by
 rw[aa,af hk];exact hp _ (aD _)
theorem MT (hw:∀xs∈rows,xs.length=n) (lw:ws.length=rows.length) (hp:∀w∈ws,0 < w) (lg:g.length=n) (hz:∀pr:List Rat,pr.length=n->(∀xs∈rows,cm xs pr=0)->cm pr g=0) (RR:cO (dk (nK rows ws n) g) (n+1) R ps):n∉ps:=λhn=>by
 obtain ⟨w,h1,h2⟩:=DZ (by rw[qW,lg]) uv RR hn;rw[qW] at h1 h2;obtain ⟨pr,epr⟩:∃pr:List Rat,pr=(List.range n).map w:=⟨_,rfl⟩;have lp:pr.length=n:=by rw[epr,ai,bw]
 have ap:∀i,i < n->pr.getD i 0=w i:=λi hi=>by rw[epr,aa,aH,cH hi];rfl
 have d1:cm pr g=1:=by
  rw[cW (by rw[lp,lg]),lp,<- h2];exact aP λi hi=>by rw[ap i hi]
 have f0:gF rows ws pr pr=0:=by
  have e1:∀i,i < n->bF n (λb=>cJ (nK rows ws n) i b*pr.getD b 0)=bF rows.length λk=>cJ rows k i*(cm (rows.getD k []) pr / ws.getD k 0):=λi hi=>by
   obtain ⟨row,er,lr,ed⟩:=Ih hw lw lp hi;rw[<- ed,cW (by rw[lr,lp]),lr];refine aP λb _=>?_
   unfold cJ;rw[aa (l:=nK rows ws n),er];rfl
  have e2:bF n (λi=>w i*bF n (λb=>cJ (nK rows ws n) i b*pr.getD b 0))=0:=by
   have e:(λi=>w i*bF n (λb=>cJ (nK rows ws n) i b*pr.getD b 0))=λi=>bF n λb=>pr.getD b 0*(w i*cJ (nK rows ws n) i b):=by
    funext i;rw[<- cM];exact aP λb _=>by grind
   rw[e,fR];exact c9 λb hb=>by rw[cM,h1 b hb,fP]
  have S:QI rows ws n ((List.range n).map λi=>bF rows.length λk=>cJ rows k i*(cm (rows.getD k []) pr / ws.getD k 0)) pr:=D3 hw (by rw[ai,bw]) lp λa ha=>by
   rw[aa,aH,cH ha];rfl
  rw[<- S.2.2 pr lp,cW (by rw[lp,S.2.1]),lp];refine Eq.trans (aP λi hi=>?_) e2;rw[e1 i hi,ap i hi];congr 1;rw[aa,aH,cH hi];rfl
 have z:=Cg rows.length (λk hk=>O4 (GW hp (by lia))) f0
 have zz:∀xs∈rows,cm xs pr=0:=λxs hx=>by
  obtain ⟨k,hk,e⟩:=aY hx;have:=z k hk;have wp:=GW hp (k:=k) (by lia);rw[aa,af hk,nV,e,fY] at this
  have wi:(ws.getD k 0)⁻¹≠0:=λq=>by
   have:=Rat.inv_pos.mpr wp;grind
  rcases gR.mp this with q | q
  ·rcases gR.mp q with q | q <;> exact q
  ·exact absurd q wi
 rw[hz pr lp zz] at d1;exact absurd d1 (by decide)
end
section
variable {K0:LR9} {n D wl:Nat}
theorem MP (hK:∀xs∈K0,xs.length=n) (n15:n<=15) (D0:0 < D) (tk:∀xs∈K0,∀x∈xs,Tp D (2^wl) x) (F:∃w,E5 (b8 K0 n) K0.length w):∃q:Nat,0 < q/\q<=2^((wl+4)*n)/\∀(E W1:Nat) (L:List Rat) (R:LR9) (ps:List Nat),0 < E->L.length=n->(∀x∈L,Tp E W1 x)->cO (dk (b8 K0 n) L) (K0.length+1) R ps->K0.length∉ps->∀y∈iQ R ps K0.length,Tp (E*q) (D*(n*(W1*2^((wl+4)*n - wl)))) y:=by
 have lt:(b8 K0 n).length=n:=cR;have wt:∀xs∈b8 K0 n,xs.length=K0.length:=fQ
 have tfn:∀i,i < n->∀j,cJ (b8 K0 n) i j=cJ K0 j i:=λi hi j=>by
  unfold cJ;rw[aa (l:=b8 K0 n),lA hi];show (K0.map λxs=>xs.getD i 0).getD j 0=_
  rw[aa,aH,aa (l:=K0)];cases K0[j]? with
  | none=>show (0:Rat)=([]:List Rat).getD i 0;rw[aa];rfl
  | some xs=>rfl
 have tkf:∀j i,Tp D (2^wl) (cJ K0 j i):=λj i=>by
  unfold cJ;rw[aa (l:=K0)];by_cases hj:j < K0.length
  ·rw[af hj];exact gU (tk _ (aD hj)) i
  ·rw[aW (by lia)];show Tp D (2^wl) (([]:List Rat).getD i 0)
   exact gU (by intro x z;cases z) i
 have w0:1<=2^wl:=cX;obtain ⟨w,F⟩:=F;obtain ⟨R0,ps,_,_,SR⟩:=Bi wt F;have RR0:=SR.rr
 obtain ⟨pm,pinj,plt,kn,dne⟩:=BC wt w0 D0 (Iu λi hi c=>by
  rw[tfn i (by lia)];exact tkf c i) RR0
 rw[lt] at plt kn;have pl:∀j,j < ps.length->ps.getD j 0 < K0.length:=λj hj=>RR0.2.2.low j hj
 have Dne:(D:Rat)≠0:=λz=>by
  have:((D:Int):Rat)=0:=by rw[aO];exact z
  have:=o8 this
  lia
 have rlt:∀r∈kH pm ps.length,r < n:=λr hr=>by
  obtain ⟨t,ht,rfl⟩:=kD hr;exact plt t ht
 obtain ⟨v,ev⟩:∃v:Nat->iC,v=λj i=>(D:Rat)*cJ K0 (ps.getD j 0) i:=⟨_,rfl⟩
 have vint:∀j r,Fr 1 (2^wl) (v j r):=λj r=>by
  obtain ⟨z,ee,b⟩:=tkf (ps.getD j 0) r;rw[ev];show Fr 1 (2^wl) ((D:Rat)*_)
  rw[dA,ee];exact Fr.int b
 have den:iO (kH pm ps.length) (hX v ps.length)≠0:=by
  have e1:iO (kH pm ps.length) ([]++hX v ps.length)=iO (kH pm ps.length) ([]++hX (λj i=>(D:Rat)*cJ (b8 K0 n) i (ps.getD j 0)) ps.length):=C8 [] λj hj r hr=>by
   rw[tfn r (rlt r hr),ev]
  have e2:hX (λj i=>(D:Rat)*cJ (b8 K0 n) i (ps.getD j 0)) ps.length=(hX (λj i=>cJ (b8 K0 n) i (ps.getD j 0)) ps.length).map λv i=>(λ_=>(D:Rat)) i*v i:=(cw_map (τ:=λv i=>(D:Rat)*v i)).symm
  have e1:iO (kH pm ps.length) (hX v ps.length)=iO (kH pm ps.length) (hX (λj i=>(D:Rat)*cJ (b8 K0 n) i (ps.getD j 0)) ps.length):=e1;rw[e1,e2,uD];intro z;rcases gR.mp z with z | z
  ·exact CG (g:=λ_=>(D:Rat)) (λ_ _=>Dne) z
  ·exact dne z
 have p16:(16*2^wl:Nat)=2^(wl+4):=by rw[az];lia
 obtain ⟨q,eq,bq⟩:=LU (N:=16) (Wx:=2^wl) (rs:=kH pm ps.length) (vs:=hX v ps.length) (by rw[cw_len];lia) λw hw r _=>by
  obtain ⟨t,_,rfl⟩:=cw_in hw;exact vint t r
 rw[ow,p16,<- ph] at bq;have up:(wl+4)*ps.length<=(wl+4)*n:=aA _ kn;have q0:q≠0:=λz=>den (by rw[eq,z];rfl)
 refine ⟨q.natAbs,by lia,ag bq (ar (by decide) up),λE W1 L R ps' E0 hL tl RR hn y hy=>?_⟩;have hd:L.length=(b8 K0 n).length:=by rw[lt];exact hL
 obtain ⟨_,rfl⟩:=(Mc hd wt RR hn).same RR0;have tlf:∀i,Tp E W1 (L.getD i 0):=λi=>gU tl i
 have Ene:(E:Rat)≠0:=λz=>by
  have:((E:Int):Rat)=0:=by rw[aO];exact z
  have:=o8 this
  lia
 rcases HP RR hy with rfl | ⟨i,hi,rfl⟩
 ·exact ⟨0,by rw[kb];rfl,br _⟩
 ·have hW:∀r∈kH pm ps'.length,(E:Rat)*L.getD r 0=bF ps'.length λj=>((E:Rat)*cJ R j K0.length / D)*v j r:=λr hr=>by
   have hr:=rlt r hr;rw[Oy hd wt RR hn (i:=r) (by rw[lt];exact hr),<- cM];refine aP λj hj=>?_
   rw[tfn r hr,ev]
   dsimp only
   grind
  have cr:=v7 (v:=v) (c:=λj=>(E:Rat)*cJ R j K0.length / D) (W:=λr=>(E:Rat)*L.getD r 0) hi hW
  have ex:iO (kH pm ps'.length) (Ac v i ps'.length++(λr=>(E:Rat)*L.getD r 0) :: hX v i)=bF ps'.length λt=>((E:Rat)*L.getD (pm t) 0)*iO (kH pm ps'.length) (Ac v i ps'.length++(λr=>if r=pm t then 1 else 0) :: hX v i):=v5 (W:=λ_=>0) (v:=λt r=>if r=pm t then 1 else 0) (c:=λt=>(E:Rat)*L.getD (pm t) 0) _ _ (λr hr=>by
   obtain ⟨t,ht,rfl⟩:=kD hr;rw[fU ht λj hj ne=>by rw[if_neg λz=>ne (pinj j t hj ht z.symm),fP],if_pos rfl,vg])
  have hlen:∀x:iC,(Ac v i ps'.length++x :: hX v i).length<=16:=λx=>by
   have:=congrArg List.length (cw_split (v:=v) hi);rw[ax,bB,cw_len] at this;rw[ax,bB]
   lia
  have unit:∀t,Fr 1 (2^((wl+4)*n - wl)) (iO (kH pm ps'.length) (Ac v i ps'.length++(λr=>if r=pm t then 1 else 0) :: hX v i)):=λt=>by
   have mk:∀(u:iC) (W:Nat),1<=W->W=2^wl->(∀r,Fr 1 W (u r))->Fr 1 (2^((wl+4)*ps'.length)) (iO (kH pm ps'.length) (Ac v i ps'.length++u :: hX v i)):=λu W _ eW hu=>by
    subst eW
    have f2:=xc (W:=2^wl) (N:=16) (rs:=kH pm ps'.length) (hlen u) λw hw r _=>by
     rcases aG.mp hw with hw | hw
     ·obtain ⟨s,_,rfl⟩:=EL hw;exact vint s r
     ·rcases aI.mp hw with rfl | hw
      ·exact hu r
      ·obtain ⟨s,_,rfl⟩:=cw_in hw;exact vint s r
    rw[ow,p16,<- ph] at f2;exact f2
   have big:=mk (λr=>((2^wl:Nat):Rat)*(if r=pm t then 1 else 0)) _ w0 rfl λr=>by
    split
    ·rw[vg,<- aO];exact Fr.int (by rw[b6];exact ao _)
    ·rw[fP];exact Fr.zero
   have sm:=mk (λr=>if r=pm t then 1 else 0) _ w0 rfl λr=>by
    split
    ·exact Fr.one w0
    ·exact Fr.zero
   have lin:iO (kH pm ps'.length) (Ac v i ps'.length++(λr=>((2^wl:Nat):Rat)*(if r=pm t then 1 else 0)) :: hX v i)=0+((2^wl:Nat):Rat)*iO (kH pm ps'.length) (Ac v i ps'.length++(λr=>if r=pm t then 1 else 0) :: hX v i):=v5 (W:=λ_=>0) (v:=λ_ r=>if r=pm t then 1 else 0) (c:=λ_=>((2^wl:Nat):Rat)) (Ac v i ps'.length) (hX v i) (k:=1) λr _=>by
    show _=0+_
    rw[Rat.zero_add]
   rw[Rat.zero_add] at lin;obtain ⟨z,ez⟩:=uA sm;rw[ez] at lin ⊢;rw[lin,<- aO,<- aR] at big;have b1:=tK big;rw[cI,b6] at b1;refine Fr.int ?_;have g0:wl<=(wl+4)*ps'.length:=ag (by lia) (cn _ (show 0 < ps'.length by lia));have e1:2^((wl+4)*ps'.length)=2^wl*2^((wl+4)*ps'.length - wl):=by rw[<- az];congr 1;lia
   rw[e1] at b1;exact ag (Nat.le_of_mul_le_mul_left b1 w0) (ar (by decide) (by lia))
  have nf:Fr 1 (n*(W1*2^((wl+4)*n - wl))) (iO (kH pm ps'.length) (Ac v i ps'.length++(λr=>(E:Rat)*L.getD r 0) :: hX v i)):=by
   rw[ex];refine (Gh (V:=W1*2^((wl+4)*n - wl)) λt ht=>?_).mono (ay _ kn);obtain ⟨z,ee,b⟩:=tlf (pm t)
   have f1:Fr 1 W1 ((E:Rat)*L.getD (pm t) 0):=by
    rw[dA,ee];exact Fr.int b
   have:=f1.mul (unit t);rwa [lY] at this
  obtain ⟨z,ez⟩:=uA nf;rw[ez] at nf cr;have bz:=tK nf;rw[eq] at cr
  have key:cJ R i K0.length*((E:Rat)*(q:Rat))=(D:Rat)*(z:Rat):=by
   rw[cr];grind
  have kq:(((E*q.natAbs:Nat):Rat))=(E:Rat)*((q.natAbs:Nat):Rat):=fD ..;rcases QM q with h | h
  ·have hq:((q.natAbs:Nat):Rat)=(q:Rat):=by rw[<- aO,<- h]
   refine ⟨D*z,?_,by rw[cI,b6];exact aA _ bz⟩;rw[kq,hq,key,aR,aO]
  ·have hq:((q.natAbs:Nat):Rat)=-(q:Rat):=by rw[<- aO,<- dH];congr 1;lia
   refine ⟨-(D*z),?_,by rw[sO,cI,b6];exact aA _ bz⟩;rw[kq,hq,dH,aR,aO,<- key];grind
end
def SU (K:FG9) (a:Addr) (n:Nat):It :=
 ⟨λi H=>i < n/\∃xs x,bO K H a xs/\xs[n - 1 - i]?=some x,λi H x H'=>H'=H/\∀xs,bO K H a xs->xs[n - 1 - i]?=some x,λi _=>n<=i⟩
theorem Kq {P:Program} {w:World} {K:FG9} {tg:Expr} (a it:Addr) (n:Nat):Turn P w K tg (SU K a n) [it] it (λi h=>i<=n/\h.IsRevIter it a ((n:Int) - 1 - (i:Nat))) where
 mem:=by simp
 obj:=λi h st b hb=>by
  have e:b=it:=by simpa using hb
  subst e;obtain ⟨_,o,e,c,d⟩:=st;exact ⟨o,e,λv z=>by rw[d] at z;cases z⟩
 keep:=λi h h' st k=>⟨st.1,st.2.at λo e=>k it (by simp) o e⟩
 item:=by
  intro X hP hw hK hc i pins s σ H E I hf st hg;subst hP hw hK;obtain ⟨hi,xs,x,hq,hx⟩:=hg;obtain ⟨its,rv,p,hz⟩:=I.list hq;obtain ⟨u,hu,ru⟩:=rv.get hx;obtain ⟨f0,f1,f2,f3,f4,f5⟩:=hf it (by simp);have st2:=st.2;rw[show (n:Int) - 1 - (i:Nat)=((n - 1 - i:Nat):Int) by lia] at st2;refine wpAny_pyNext_rev_item st2 p.isList (x:=u) (by simpa using hu) λh' st' sb=>?_
  have I1:Inv X pins σ H { s with heap:=h' }:=I.turned (t':=s.toks) (λb o hb e=>(sb.2 b hb).trans e) f0 f1 f3 f4 f5;rw[show ((n - 1 - i:Nat):Int) - 1=(n:Int) - 1 - ((i+1:Nat):Int) by lia] at st';obtain ⟨o,e,c,d⟩:=id st';exact ⟨u,rfl,LG (s:={ s with heap:=h' }) e c d (by decide) ⟨x,H,I1,ru,⟨rfl,λys hy=>by rw[I.list_inj hy hq];exact hx⟩,⟨hi,st'⟩,λb hb=>(hf b hb).1⟩⟩
 done:=by
  intro X hP hw hK hc i pins s σ H E I hf st hg;subst hP hw hK;obtain ⟨f0,f1,f2,f3,f4,f5⟩:=hf it (by simp);have st2:=st.2;have:n<=i:=hg;have:=st.1;rw[show (n:Int) - 1 - (i:Nat)=-1 by lia] at st2;exact wpAny_pyNext_rev_end (I.ok.hd hc) st2 λh' eb=>⟨rfl,I.turned (t':=s.toks) (λb o hb e=>eb b o hb e) f0 f1 f3 f4 f5⟩
 self:=λ_ _ _ _ _ st h=>wpAny_pyIter_revIter st.2 h
def RJ (K:FG9) (ta:TA):TI:=λσ H R=>ta σ H λvs H1=>∃l xs,vs=[.ref l]/\bO K H1 l xs/\R (SU K l xs.length) H1
theorem PL {X:Cx} {e1:Expr} {ta:TA} {p pos:Pos} {tg:Expr} (hg:Gl X "reversed") (hm:X.mg "reversed"=none) (ha:PA X [e1] ta) (hs:starEach [e1] X.env=[(false,eval e1 X.env)]:=by rfl) :
  PI X tg (.Call (.Name "reversed" p) [e1] [] pos) (RJ X.K ta):=by
 intro pins s σ H R I h;refine Call_ (jE I hg hm boot_reversed (PyProof.Rows.callWith_type1 (gK (ha pos pins s σ H _ I h) λus s1 ⟨vs,H1,I1,r1,q1⟩=>?_) hs rfl));obtain ⟨l,xs,e,qx,q⟩:=q1;subst e;obtain ⟨u,rfl,ru⟩:=vals1 r1;cases ru;obtain ⟨us,rx,px,_⟩:=I1.list qx;have lx:=rx.length;have kp:∀b o,s1.heap.get? b=some o->(s1.heap.push (revObj l ((us.toArray.size:Int) - 1))).get? b=some o:=λb o e=>Heap.get?_push_of_some _ e
 have st:(s1.heap.push (revObj l ((us.toArray.size:Int) - 1))).IsRevIter s1.heap.objs.size l ((us.toArray.size:Int) - 1):=⟨_,Heap.get?_push_size _ rfl,rfl,rfl⟩;refine call_reversed_list px.isList (wpAny_pyIter_revIter st ?_);have I2:Inv X pins σ H1 { s1 with heap:=s1.heap.push (revObj l ((us.toArray.size:Int) - 1)) }:=I1.kept (t':=s1.toks) kp;refine ⟨_,[s1.heap.objs.size],_,_,H1,rfl,I2,Kq l s1.heap.objs.size xs.length,⟨br _,?_⟩,λb hb=>?_,q⟩
 ·have e:((us.toArray.size:Int) - 1)=(xs.length:Int) - 1 - ((0:Nat):Int):=by rw[aT];lia
  rw[<- e];exact st
 ·have hb':b=s1.heap.objs.size:=by simpa using hb
  subst hb';exact I1.fpOk (ao _) (I1.hok.fresh (ao _))
def DA (xs:List Rat):Prop:=∃M,E7 M (xs.map nm)
theorem sY (h0:0 < M) (h1:M<=2^215000) (h2:W<=2^215000) (h:∀x∈xs,Tp M W x):DA xs:=by
 refine ⟨M,by lia,?_,λy hy=>?_⟩
 ·show ((M:Nat):Int).natAbs < 2^220000
  rw[b6];exact bg h1 (c7 (by decide) (by decide))
 ·obtain ⟨x,hx',rfl⟩:=aB.mp hy;have t:=h x hx';refine ⟨gP x,sP t,?_⟩;obtain ⟨s,e,b⟩:=yv t h0 (gP x) (IX _) (sP t);have e2:(((nm x).1:Int):Rat)=(s:Rat):=by rw[<- e];exact iY x
  rw[du.mp e2];exact bg (ag b h2) (c7 (by decide) (by decide))
inductive HK (K:FG9) (vs:List V) (H:Hp) (Q:VK) (E9:XK):Prop
 | mk (p q:Addr) (xs ys:List Rat):vs=[.ref p,.ref q]->cL K H p xs->cL K H q ys->ys.length=xs.length->xs.length<=1000->DA xs/\DA ys->(∀r H',aK H H'->bV K H' (cm xs ys) (.ref r)->Q (.ref r) H')->HK K vs H Q E9
inductive HI (K:FG9) (vs:List V) (H:Hp) (Q:VK) (E9:XK):Prop
 | mk (p q:Addr) (H0:Hp) (rows:LR9) (ys:List Rat):vs=[.ref p,.ref q]->bH K H0 H p rows->cL K H q ys->rows.length<=1000->ys.length<=1000->((∀xs∈rows,xs.length=ys.length/\(DA xs/\DA ys)))->(∀r H',H r=none->aK H H'->cL K H' r (rows.map λxs=>cm xs ys)->Q (.ref r) H')->HI K vs H Q E9
inductive yD (K:FG9) (vs:List V) (H:Hp) (Q:VK) (E9:XK):Prop
 | mk (p q:Addr) (w:Nat) (H0 H1:Hp) (one other:LR9):vs=[.ref p,.ref q,.int w]->bH K H0 H p one->bH K H1 H q other->one.length<=1000->other.length<=1000->w<=1000->((∀xs∈one,xs.length=other.length/\∀ys∈b8 other w,DA ys/\DA xs))->(∀xs∈other,xs.length=w)->(∀r H',H r=none->aK H H'->bH K H H' r (vo one other w)->Q (.ref r) H')->yD K vs H Q E9
theorem Me {K:FG9} {g:TG} (Pv:Nat->List V->Hp->Prop) (hz:xs.length<=sizeLine) (h0:Pv 0 [] H) (hl:∀i ys H,i<=xs.length->Pv i ys H->bO K H a xs)
  (hs:∀i x ys H,i < xs.length->xs[xs.length - 1 - i]?=some x->ys.length<=i->Pv i ys H->pK σ₀ g tf te x H (λy H'=>Pv (i+1) (ys++[y]) H') (λH'=>Pv (i+1) ys H'))
  (hd:∀ys H,ys.length<=xs.length->Pv xs.length ys H->∀p,H p=none->Q (.ref p) (upd H p (.lst ys))):qQ (SU K a xs.length) σ₀ g tf te Q H:=by
 refine ⟨λi m ys H=>m=xs.length - i/\i<=xs.length/\ys.length<=i/\Pv i ys H,⟨xs.length,by simp,br _,br _,h0⟩,?_⟩;rintro i m ys H ⟨rfl,hi,hy,p⟩;have q1:=hl i ys H hi p;by_cases hlt:i < xs.length
 ·refine .inr ⟨⟨hlt,xs,xs[xs.length - 1 - i]'(by lia),q1,af _⟩,by lia,λy H'=>Pv (i+1) (ys++[y]) H',λH'=>Pv (i+1) ys H',λy H' p'=>⟨xs.length - (i+1),by lia,rfl,hlt,by rw[ax,bS];lia,p'⟩,λH' p'=>⟨xs.length - (i+1),by lia,rfl,hlt,by lia,p'⟩,λx H' y=>?_⟩;obtain ⟨rfl,e1⟩:=y;exact hs i x ys _ hlt (e1 xs q1) hy p
 ·have e:i=xs.length:=by lia
  subst e;exact .inl ⟨ao _,by lia,hd ys H hy p⟩
theorem NK (hy:0 < y):0 < (nm x).2*(nm y).1/\(lo ((nm x).1*(nm y).2) ((nm x).2*(nm y).1),hi ((nm x).1*(nm y).2) ((nm x).2*(nm y).1))=nm (x / y):=by
 have yn:0 < (nm y).1:=pC.mp hy;have hb:0 < (nm x).2*(nm y).1:=hJ (gP x) yn
 have e1:(((nm x).1:Int):Rat)=x*(((nm x).2:Int):Rat):=by
  show (x.num:Rat)=x*(((x.den:Nat):Int):Rat)
  rw[iY,aO]
 have e2:(((nm y).1:Int):Rat)=y*(((nm y).2:Int):Rat):=by
  show (y.num:Rat)=y*(((y.den:Nat):Int):Rat)
  rw[iY,aO]
 have y0:y≠0:=λz=>by rw[z] at hy;exact absurd hy (by decide)
 have e3:x / y*y=x:=k6 y0;refine ⟨hb,mj hb ?_⟩;rw[aR,aR,e1,e2];grind
inductive yA (K:FG9) (vs:List V) (H:Hp) (Q:VK) (E9:XK):Prop
 | mk (u v:V) (x y:Rat):vs=[u,v]->bV K H x u->bV K H y v->0 < y->iZ x->iZ y->(∀r H',aK H H'->bV K H' (x / y) (.ref r)->Q (.ref r) H')->yA K vs H Q E9
inductive Hv (K:FG9) (vs:List V) (H:Hp) (Q:VK) (E9:XK):Prop
 | mk (p q:Addr) (ws xs:List Rat):vs=[.ref p,.ref q]->cL K H p ws->cL K H q xs->ws.length=xs.length->xs.length<=1000->(∀w∈ws,0 < w/\iZ w)->(∀x∈xs,iZ x)->(∀r H',H r=none->aK H H'->cL K H' r (rB ws xs)->Q (.ref r) H')->Hv K vs H Q E9
inductive DV (vs:List V) (H:Hp) (Q:VK) (E9:XK):Prop
 | mk (p:Addr) (us:List V) (zss:List (List V)):vs=[.ref p]->H p=some (.lst us)->Paired (λzs u=>∃q,u=V.ref q/\H q=some (.lst zs)) zss us->zss.flatten.length<=1000->(∀r H',H r=none->aK H H'->H' r=some (.lst zss.flatten)->Q (.ref r) H')->DV vs H Q E9
def l5 (mv pt:LR9) (ws:List Rat) (T:Nat) (x:List Rat):LR9:=(AL mv pt T).reverse.map λrows=>rB ws (rows.map λr=>cm r x)
inductive DO (K:FG9) (vs:List V) (H:Hp) (Q:VK) (E9:XK):Prop
 | mk (p q l:Addr) (us:List V) (Rs:List (LR9)) (ws x:List Rat):vs=[.ref p,.ref q,.ref l]->cL K H p x->cL K H q ws->H l=some (.lst us)->Paired (Fn K l H) Rs us->Rs.length<=1000->ws.length<=1000->x.length<=1000->DA x->(∀w∈ws,0 < w/\iZ w)->(∀R∈Rs,R.length=ws.length/\∀xs∈R,xs.length=x.length/\DA xs/\iZ (cm xs x))->(∀r H',H r=none->aK H H'->bH K H H' r (Rs.reverse.map λrows=>rB ws (rows.map λr=>cm r x))->Q (.ref r) H')->DO K vs H Q E9
inductive HE (K:FG9) (vs:List V) (H:Hp) (Q:VK) (E9:XK):Prop
 | mk (q l:Addr) (n:Nat) (us:List V) (Rs:List (LR9)) (ws:List Rat):vs=[.ref q,.ref l,.int n]->cL K H q ws->H l=some (.lst us)->Paired (Fn K l H) Rs us->n<=100->Rs.length<=100->Rs.flatten.length<=1000->(jO ws Rs.length).length=Rs.flatten.length->(∀xs∈Rs.flatten,xs.length=n/\∀x∈xs,iZ x)->(∀w∈ws,0 < w/\iZ w)->(∀ys∈b8 Rs.flatten n,DA ys/\DA (rB (jO ws Rs.length) ys))->(∀r H0 H',H r=none->aK H H'->bH K H0 H' r (nK Rs.flatten (jO ws Rs.length) n)->Q (.ref r) H')->HE K vs H Q E9
inductive DY (K:FG9) (C:Addr) (vs:List V) (H:Hp) (Q:VK) (E9:XK):Prop
 | mk (x:Addr) (u:Nat) (H0:Hp) (mv pt lk:LR9):vs=[.ref x,.int u]->u<=99->kU K H0 H C x mv pt lk->gG mv pt lk->OU mv pt u->(∀r us H',H r=none->aK H H'->H' r=some (.lst us)->Paired (Fn K r H') (AL mv pt u) us->Q (.ref r) H')->DY K C vs H Q E9
inductive A4 (K:FG9) (vs:List V) (H:Hp) (Q:VK) (E9:XK):Prop
 | mk (p q:Addr) (n w:Nat) (H0:Hp) (rows:LR9) (due:List Rat):vs=[.ref p,.int n,.ref q]->bH K H0 H p rows->cL K H q due->due.length=rows.length->rows.length<=90->n<=90->(∀xs∈rows,xs.length=n)->E5 (dk rows due) (n+1) w->(∀R ps,cO (dk rows due) (n+1) R ps->n∉ps)->(∀t x R ps H',cO (dk rows due) (n+1) R ps->H' t=some (.tup [.str (Str.ofString "yes"),.ref x])->H x=none->aK H H'->cL K H' x (iQ R ps n)->Q (.ref t) H')->A4 K vs H Q E9
structure SS (mv pt:LR9) (ws:List Rat) (T:Nat) (due:List Rat) (N X:Nat):Prop where
 lw:ws.length=pt.length
 wp:∀w∈ws,0 < w/\iZ w
 ad:OU mv pt T
 t40:T<=20
 rk:∀xs∈kry mv pt T,DA xs/\∀x∈xs,iZ x
 rc:∀ys∈b8 (kry mv pt T) mv.length,DA ys/\DA (rB (jO ws T) ys)
 sw:∃w,E5 (dk (nK (kry mv pt T) (jO ws T) mv.length) due) (mv.length+1) w
 ok:∀R ps,cO (dk (nK (kry mv pt T) (jO ws T) mv.length) due) (mv.length+1) R ps->mv.length∉ps/\∀y∈iQ R ps mv.length,Tp N X y
 n0:0 < N
 nb:N<=2^195000
 xb:X<=2^195000
 rd:DA due
 pz:∀xs∈kry mv pt T,∀x:List Rat,x.length=mv.length->(∀y∈x,Tp N X y)->iZ (cm xs x)
inductive A9 (K:FG9) (C:Addr) (vs:List V) (H:Hp) (Q:VK) (E9:XK):Prop
 | mk (x q s g:Addr) (T N X:Nat) (H0:Hp) (mv pt lk:LR9) (ws st go:List Rat):vs=[.ref x,.ref q,.ref s,.ref g,.int T]->kU K H0 H C x mv pt lk->gG mv pt lk->Ka mv pt lk->cL K H q ws->cL K H s st->st.length=mv.length->cL K H g go->go.length=mv.length->AV mv pt st (List.replicate T (List.replicate pt.length 0))->(∀x∈go,iZ x)->SS mv pt ws T (dO mv T st go) N X->(∀t e p y pr H',H' t=some (.tup [.str (Str.ofString "puts"),.ref e,.ref p,.ref y])->H p=none->H y=none->aK H H'->bV K H' (cm pr (dO mv T st go)) (.ref e)->bH K H H' p (l5 mv pt ws T pr)->cL K H' y pr->QI (kry mv pt T) (jO ws T) mv.length (dO mv T st go) pr->(∀z∈pr,Tp N X z)->Q (.ref t) H')->A9 K C vs H Q E9
theorem iW (ws:List Rat) (T:Nat):(jO ws T).length=T*ws.length:=by
 unfold jO
 induction T with
 | zero=>simp
 | succ T ih=>rw[fL,bU,ax,ih,c8];lia
theorem vn (h:w∈jO ws T):w∈ws:=by
 unfold jO at h;obtain ⟨l,hl,hw⟩:=dQ.mp h;rw[kL hl] at hw;exact hw
theorem zN {K:FG9} {l:Addr} {H:Hp}:∀{Rs:List (LR9)} {us:List V},Paired (Fn K l H) Rs us->∃zss:List (List V),Paired (λzs u=>∃q,u=V.ref q/\H q=some (.lst zs)) zss us/\Paired (λR zs=>Paired (dm K (CW l) H) R zs) Rs zss
 | _,_,.nil=>⟨[],.nil,.nil⟩
 | _,_,.cons h t=>by
  obtain ⟨zss,a,b⟩:=zN t;obtain ⟨q,e,_,zs,g,r,_⟩:=h;exact ⟨zs :: zss,.cons ⟨q,e,g⟩ a,.cons r b⟩
theorem sZ {α β:Type} {F:α->V->Prop} {G:β->V->Prop} {b:β} (h:∀a y,F a y->G b y):∀{as:List α} {ys:List V},Paired F as ys->Paired G (List.replicate as.length b) ys
 | _,_,.nil=>.nil
 | _,_,.cons x t=>.cons (h _ _ x) (sZ h t)
theorem CD {α β:Type} {G:α->β->Prop} {a:α} {b:β} (h:G a b):∀n:Nat,Paired G (List.replicate n a) (List.replicate n b)
 | 0=>.nil
 | n+1=>.cons h (CD h n)
theorem iE {α β:Type} {F:α->β->Prop}:∀{Rs:List (List α)} {zss:List (List β)},Paired (λR zs=>Paired F R zs) Rs zss->Paired F Rs.flatten zss.flatten
 | _,_,.nil=>.nil
 | _,_,.cons h t=>bT h (iE t)
theorem yu {C:Rat->Prop} (h:∀xs∈rows,xs.length=n/\∀x∈xs,C x):∀ys∈b8 rows n,∀y∈ys,C y:=λys hy y hy'=>by
 obtain ⟨j,hj,rfl⟩:=aB.mp hy;obtain ⟨xs,hx,rfl⟩:=aB.mp hy';have:=h xs hx;exact this.2 _ (getD_mem (by rw[this.1];exact sL.mp hj))
theorem Lz (h0:0 < w) (h:Dr W w):Dr W (1 / w):=by
 have wn:0 < w.num:=pC.mp h0;have w0:w≠0:=λz=>by rw[z] at h0;exact absurd h0 (by decide)
 have e:=Lj (a:=(w.den:Int)) (b:=w.num) (q:=1 / w) wn (by rw[i8];exact zD w) (by
  have e1:(w.num:Rat)=w*((w.den:Nat):Rat):=iY w;have e2:1 / w*w=1:=k6 w0;rw[aO,e1,<- Rat.mul_assoc,e2,Mr])
 have e1:(w.den:Int)=(1 / w).num:=congrArg Prod.fst e;have e2:w.num=((1 / w).den:Int):=congrArg Prod.snd e;have h1:=h.1;have h2:=h.2;exact ⟨by lia,by lia⟩
def Ke (a1 a2 T:Nat):Nat:=a1*T+a2
def J6 (a1 a2 T:Nat):Nat:=2*Ke a1 a2 T+42
def BW (a1 a2 c T:Nat):Nat:=2*(c*(T+1))+28+J6 a1 a2 T
def Mw (a1 a2 T b:Nat):Nat:=a1*T+a2+b+12
def Mv (a1 a2 c T b:Nat):Nat:=c*T+26+Mw a1 a2 T b
def zQ (n a1 a2 c T:Nat):Nat:=(BW a1 a2 c T+4)*n
def QF (n a1 a2 c T b:Nat):Nat:=J6 a1 a2 T+3+Mv a1 a2 c T b+(zQ n a1 a2 c T - BW a1 a2 c T)
abbrev Z65 (n a1 a2 c T b:Nat):Prop:=n<=8/\T<=14/\zQ n a1 a2 c T<=445000/\BW a1 a2 c T<=210000/\BW a1 a2 c T+Mw a1 a2 T b+Mv a1 a2 c T b+J6 a1 a2 T<=210000/\n*(BW a1 a2 c T+Mw a1 a2 T b+Mv a1 a2 c T b+J6 a1 a2 T+5)<=445000/\2*Mw a1 a2 T b+zQ n a1 a2 c T<=195000/\3+QF n a1 a2 c T b+Mv a1 a2 c T b<=195000/\Ke a1 a2 T+Mw a1 a2 T b+zQ n a1 a2 c T<=195000/\3+c*(T+1)+Ke a1 a2 T+QF n a1 a2 c T b<=195000/\a1*(T+2)+a2+b+c*(T+3)+22<=195000
def Sj (mv pt:LR9) (u:Nat) (go:List Rat):Prop:=∀pr:List Rat,pr.length=mv.length->(∀xs∈kry mv pt u,cm xs pr=0)->cm pr go=0
section
variable {mv pt lk pus:LR9} {ws go g1 g2:List Rat} {M1 M2 V a1 a2 c T0 n0 b B u T E:Nat}
theorem p2 (h:a<=b):2^a<=2^b:=ar (by decide) h
theorem Ls:kry mv pt (u+1)=kry mv pt u++pt.map (lK mv u):=by
 rw[<- jI,Dn,fM,jI];simp
theorem RC (X:Bd mv pt M1 M2 V a1 a2 c) (D:gG mv pt lk) (hu:u<=T0+1):∀xs∈kry mv pt u,∀x∈xs,Fr (M1^T0*M2) (2^(c*(T0+1))) x:=λxs hx x hx' =>
 Fr.up (X.kry D u xs hx x hx') (Nat.mul_dvd_mul_right (Nat.pow_dvd_pow _ (by lia)) _) (p2 (aA _ hu))
theorem P0 (hw:∀xs∈rows,xs.length=n) (lw:wT.length=rows.length) (h64:rows.length<=64) (hf:∀xs∈rows,∀x∈xs,Fr D1 V1 x) (hi:∀w∈wT,Fr B (2^22) (1 / w)):(∀ys∈b8 rows n,(∀y∈ys,Fr D1 V1 y)/\∀y∈rB wT ys,Fr (D1*B) (V1*2^22) y)/\∀xs∈nK rows wT n,∀x∈xs,Fr (D1*(D1*B)) (64*(V1*(V1*2^22))) x:=by
 have h1:∀ys∈b8 rows n,(∀y∈ys,Fr D1 V1 y)/\∀y∈rB wT ys,Fr (D1*B) (V1*2^22) y:=λys hy=>by
  have t:=yu (C:=Fr D1 V1) (λxs hx=>⟨hw xs hx,hf xs hx⟩) ys hy;refine ⟨t,λy hy'=>?_⟩;unfold rB at hy';obtain ⟨i,h,e⟩:=aY hy';rw[bM] at e;rw[<- e,show ∀a b:Rat,a / b=a*(1 / b) from λa b=>by rw[fY,fY,Mr]];exact (t _ (aD _)).mul (hi _ (aD _))
 refine ⟨h1,λxs hx x hx'=>?_⟩;unfold nK vo at hx;obtain ⟨pc,hp,rfl⟩:=aB.mp hx;obtain ⟨ca,ha,rfl⟩:=aB.mp hp;obtain ⟨cb,hb,rfl⟩:=aB.mp hx';exact (Fr.dot (h1 cb hb).1 (h1 ca ha).2).mono (ay _ (by rw[fQ cb hb];exact h64))
theorem PZ (X:Bd mv pt M1 M2 V a1 a2 c) (D:gG mv pt lk) (Z:Z65 n0 a1 a2 c T0 b) (hn:mv.length<=n0) (hu:u<=T0+1) (lw:ws.length=pt.length) (hw:∀w∈ws,0 < w/\Dr 1000 w) (E0:0 < E) (hE:E<=2^Mw a1 a2 T0 b):∃q:Nat,0 < q/\q<=2^zQ n0 a1 a2 c T0/\∀go:List Rat,go.length=mv.length->(∀x∈go,Fr E (2^(c*T0+26)) x)->Sj mv pt u go->SS mv pt ws u go (E*q) (2^QF n0 a1 a2 c T0 b):=by
 obtain ⟨n8,t14,z1,z2,z3,z4,z5,z6,z7,z8,z9⟩:=Z;have i4:=D.i4;have kl:=gX (mv:=mv) (pt:=pt) u;have kl2:u*pt.length<=15*4:=aw (by lia) i4;have wk:=eo (mv:=mv) (pt:=pt) rfl D.pw u;have lwt:(jO ws u).length=(kry mv pt u).length:=by rw[iW,kl,lw]
 have hk:=RC X D hu
 obtain ⟨Bw,b0,b1,hB⟩:=qY (c:=10) (l:=ws.map λw=>1 / w) (λx hx=>by
  obtain ⟨w,h,rfl⟩:=aB.mp hx;have:=Lz (hw w h).1 (hw w h).2;exact ⟨ag this.1 (by decide),ag this.2 (by decide)⟩) (by decide)
 have b1:Bw<=2^42:=ag b1 (p2 (by rw[ai,lw];lia));obtain ⟨D1,eD⟩:∃d,M1^T0*M2=d:=⟨_,rfl⟩;rw[eD] at hk;have D10:0 < D1:=by rw[<- eD];exact aN (fZ X.m1) X.m2
 have D1b:D1<=2^Ke a1 a2 T0:=by rw[<- eD];exact iT X.b1 X.b2
 obtain ⟨Vk,eV⟩:∃v,2^(c*(T0+1))=v:=⟨_,rfl⟩;rw[eV] at hk;have V1:1<=Vk:=by rw[<- eV];exact cX
 obtain ⟨f1,f2⟩:=P0 (n:=mv.length) wk lwt (by lia) hk (λw h=>hB _ (aB.mpr ⟨w,vn h,rfl⟩));obtain ⟨Dl,eL⟩:∃d,D1*(D1*Bw)=d:=⟨_,rfl⟩;rw[eL] at f2;have L0:0 < Dl:=by rw[<- eL];exact aN D10 (aN D10 b0)
 have Lb:Dl<=2^J6 a1 a2 T0:=by
  rw[<- eL,show J6 a1 a2 T0=Ke a1 a2 T0+(Ke a1 a2 T0+42) by unfold J6;lia,az,az];exact aw D1b (aw D1b b1)
 have tk:∀xs∈nK (kry mv pt u) (jO ws u) mv.length,∀x∈xs,Tp Dl (2^BW a1 a2 c T0) x:=λxs hx x hx'=>by
  refine Tp.of (f2 xs hx x hx') ?_;rw[<- eV,show BW a1 a2 c T0=6+(c*(T0+1)+(c*(T0+1)+22))+J6 a1 a2 T0 by unfold BW;lia,az 2 (6+_),az 2 6,az 2 (c*(T0+1)),az 2 (c*(T0+1))];exact aA _ Lb
 have SW:∀m:Nat,m<=mv.length->m*(BW a1 a2 c T0+4)<=445000:=λm hm=>ag (by rw[cw];exact aA _ (ag hm hn)) z1
 obtain ⟨G,eG⟩:∃g,nK (kry mv pt u) (jO ws u) mv.length=g:=⟨_,rfl⟩;have lG:G.length=mv.length:=by rw[<- eG];exact qW
 have wG:∀xs∈G,xs.length=mv.length:=by rw[<- eG];exact uv
 have tt:b8 (b8 G mv.length) mv.length=G:=by
  have:=IZ wG;rwa [lG] at this
 rw[eG] at tk;have lt:(b8 G mv.length).length=mv.length:=cR;have tkt:∀xs∈b8 G mv.length,∀x∈xs,Tp Dl (2^BW a1 a2 c T0) x:=yu λxs hx=>⟨wG xs hx,tk xs hx⟩
 obtain ⟨q,q0,qb,hq⟩:=MP (K0:=b8 G mv.length) (n:=mv.length) (D:=Dl) (wl:=BW a1 a2 c T0) (λxs hx=>by rw[fQ xs hx,lG]) (by lia) L0 tkt ⟨BW a1 a2 c T0,Dl,2^BW a1 a2 c T0,L0,ag Lb (p2 (by lia)),cX,ao _,by rw[tt];exact tk,by lia,by rw[tt,lG,lt];lia,by rw[tt,lG,lt];exact SW _ (by lia)⟩;rw[tt,lt] at hq;have Qm:(BW a1 a2 c T0+4)*mv.length<=zQ n0 a1 a2 c T0:=aA _ hn;have qb:q<=2^zQ n0 a1 a2 c T0:=ag qb (p2 Qm);refine ⟨q,q0,qb,λgo lg hg hr=>?_⟩;have Nb:E*q<=2^(Mw a1 a2 T0 b+zQ n0 a1 a2 c T0):=by rw[az];exact aw hE qb
 have N0:0 < E*q:=aN E0 q0
 have tg:∀x∈go,Tp E (2^Mv a1 a2 c T0 b) x:=λx hx=>Tp.of (hg x hx) (by
  rw[show Mv a1 a2 c T0 b=c*T0+26+Mw a1 a2 T0 b from rfl,az 2 (c*T0+26)];exact aA _ hE)
 have up:∀{a b:Nat},a<=b->(2:Nat)^a<=2^b:=p2;have rk:∀xs∈kry mv pt u,∀x∈xs,Tp D1 (2^(c*(T0+1)+Ke a1 a2 T0)) x:=λxs hx x hx'=>Tp.of (hk xs hx x hx') (by rw[<- eV,az];exact aA _ D1b)
 refine ⟨lw,λw h=>⟨(hw w h).1,?_⟩,⟨M1,M2,V,a1,a2,c,X,?_⟩,by lia,λxs hx=>⟨sY D10 (ag D1b (up (by lia))) (up (by lia)) (rk xs hx),λx hx'=>kB (rk xs hx x hx') D10 (ag D1b (up (by lia))) (up (by lia))⟩,λys hy=>⟨?_,?_⟩,?_,λR ps RR=>?_,N0,ag Nb (up (by lia)),up (by lia),sY E0 (ag hE (up (by lia))) (up (by lia)) tg,λxs hx x lx hx'=>?_⟩
 ·exact kB (Tp.of (Fr.own w (hw w h).2.1) (ao _)) w.den_pos (ag (hw w h).2.2 (ag (show 1000<=2^10 by decide) (up (by decide)))) (ag (aw (ao _) (hw w h).2.2) (ag (show 1000*1000<=2^20 by decide) (up (by decide))))
 ·have e1:a1*(u+1)<=a1*(T0+2):=aA _ (by lia);have e2:c*(u+2)<=c*(T0+3):=aA _ (by lia)
  lia
 ·exact sY D10 (ag D1b (up (by lia))) (W:=2^(c*(T0+1)+Ke a1 a2 T0)) (up (by lia)) λy hy'=>Tp.of ((f1 ys hy).1 y hy') (by rw[<- eV,az];exact aA _ D1b)
 ·have e1:D1*Bw<=2^(Ke a1 a2 T0+42):=by rw[az];exact aw D1b b1
  refine sY (aN D10 b0) (ag e1 (up ?_)) (W:=2^(c*(T0+1)+22+(Ke a1 a2 T0+42))) (up ?_) λy hy'=>Tp.of ((f1 ys hy).2 y hy') ?_
  ·unfold BW J6 at z2;lia
  ·unfold BW J6 at z2;lia
  ·rw[<- eV,az 2 (_+22),az 2 (c*(T0+1))];exact aA _ e1
 ·rw[eG];obtain ⟨w,ew⟩:∃w,BW a1 a2 c T0+Mw a1 a2 T0 b+Mv a1 a2 c T0 b+J6 a1 a2 T0+1=w:=⟨_,rfl⟩;have hj:go.length=G.length:=by rw[lg,lG]
  have c1:2^BW a1 a2 c T0*E<=2^(w - 1):=ag (aA _ hE) (by rw[<- az];exact up (by lia));have c2:2^Mv a1 a2 c T0 b*Dl<=2^(w - 1):=ag (aA _ Lb) (by rw[<- az];exact up (by lia));refine ⟨w,Dl*E,2^w,aN L0 E0,ag (aw Lb hE) (by rw[<- az];exact up (by lia)),cX,ao _,λxs hx x hx'=>?_,by lia,by rw[kG hj,lG];lia,by rw[kG hj,lG];exact ag (aw (show min mv.length (mv.length+1)<=n0 by lia) (by lia)) z4⟩;unfold dk at hx;obtain ⟨i,hi,rfl⟩:=aY hx;rw[bM] at hx';rcases aG.mp hx' with z | z
  ·exact (tk _ (aD _) x z).up E (ag c1 (up (by lia)))
  ·rw[cD.mp z,cw Dl E];exact (tg _ (aD _)).up Dl (ag c2 (up (by lia)))
 ·have hn':=MT wk lwt (λw h=>(hw w (vn h)).1) lg hr RR;rw[eG] at RR;refine ⟨hn',λy hy=>(hq E _ go R ps E0 lg tg RR hn' y hy).mono ?_⟩;rw[show QF n0 a1 a2 c T0 b=J6 a1 a2 T0+(3+(Mv a1 a2 c T0 b+(zQ n0 a1 a2 c T0 - BW a1 a2 c T0))) by unfold QF;lia,az,az 2 3,az 2 (Mv a1 a2 c T0 b)];exact aw Lb (aw (show mv.length<=2^3 by lia) (aA _ (up (by lia))))
 ·have t:=Tp.sum (k:=mv.length) (M:=D1*(E*q)) (W:=2^(c*(T0+1)+Ke a1 a2 T0)*2^QF n0 a1 a2 c T0 b) (f:=λj=>xs.getD j 0*x.getD j 0) λj _=>(gU (rk xs hx) j).mul (gU hx' j)
  rw[cW (by rw[wk xs hx,lx]),wk xs hx];refine kB t (aN D10 N0) (ag (aw D1b Nb) (by rw[<- az];exact up (by lia))) ?_;rw[<- az];refine ag (ay _ (show mv.length<=2^3 by lia)) ?_;rw[<- az];exact up (by lia)
end
inductive Ht (K:FG9) (vs:List V) (H:Hp) (Q:VK) (E9:XK):Prop
 | mk (b:Addr) (m:Nat):vs=[.ref b,.int m,.int 1]->hZ H b->m<=8->(∀r ws H',H r=none->cL K H' r ws->ws.length=m->(∀w∈ws,0 < w/\Dr 1000 w)->hZ H' b->cZ b H H'->Q (.ref r) H')->Ht K vs H Q E9
theorem PK {t b:Int} (h:z*(b:Rat)=(t:Rat)) (hb:0 < b) (ht:0 < t):0 < z:=by
 have h1:(0:Rat) < (b:Rat):=pC.mpr hb;have h2:(0:Rat) < (t:Rat):=pC.mpr ht;by_cases q:0 < z
 ·exact q
 ·have:=Rat.mul_le_mul_of_nonneg_right (Rat.not_lt.mp q) (Rat.le_of_lt h1);rw[h,kb] at this;exact absurd h2 (Rat.not_lt.mpr this)
theorem LY (lx:xs.length=n) (lg:gs.length=n) (n8:n<=8) (h1:∀x∈xs,Tp N (2^e) x) (h2:∀x∈gs,Tp D (2^f) x):Tp (N*D) (2^(3+e+f)) (cm xs gs):=by
 rw[cW (by rw[lx,lg]),lx];refine (Tp.sum λj _=>(gU h1 j).mul (gU h2 j)).mono ?_;rw[az 2 (3+e),az 2 3,cK];exact ay _ (show n<=2^3 by lia)
def iM (xs:List Rat):List Rat:=xs.map λx=>x*x
def xa (ws:List Rat) (rows:LR9):Rat:=(rows.map λxs=>cm ws (iM xs)).sum
def qZ (a b:LR9):LR9:=List.zipWith (λx y=>List.zipWith (λu v=>u - v) x y) a b
def Fu (rows:LR9) (wT x:List Rat):List Rat:=rB wT (rows.map λr=>cm r x)
section
variable {mv pt lk pus a b rows:LR9} {ws wT st go x y:List Rat} {T n m:Nat}
theorem Q4 {a:Rat}:0<=a*a:=by
 rcases Rat.le_total (a:=0) (b:=a) with z | z
 ·exact mH z z
 ·have:0<=-a:=by grind
  have:=mH this this;grind
theorem EB:∀{x y:LR9},x.length=y.length->(∀z∈x,z.length=m)->(∀z∈y,z.length=m)->x.flatten=y.flatten->x=y:=by
 intro x
 induction x with
 | nil=>intro y h _ _ _;cases y with | nil=>rfl | cons _ _=>cases h
 | cons r x ih =>
  intro y h hx hy e;cases y with
  | nil=>cases h
  | cons s y =>
   rw[bU,bU] at e;obtain ⟨e1,e2⟩:=List.append_inj e (by rw[hx r (.head _),hy s (.head _)]);rw[e1,ih (by simpa using h) (λz hz=>hx z (.tail _ hz)) (λz hz=>hy z (.tail _ hz)) e2]
theorem Ql:xa ws (r1++r2)=xa ws r1+xa ws r2:=by
 unfold xa;rw[ck,pF]
theorem LS:∀rows:LR9,xa ws rows.reverse=xa ws rows
 | []=>rfl
 | r :: rows=>by
  rw[mJ,Ql,LS rows];show xa ws rows+(cm ws (iM r)+0)=cm ws (iM r)+xa ws rows
  grind
theorem C5:∀{rows:LR9},(∀xs∈rows,xs.length=ws.length)->cm (jO ws rows.length) (iM rows.flatten)=xa ws rows
 | [],_=>rfl
 | xs :: rows,h=>by
  have e1:jO ws (xs :: rows).length=ws++jO ws rows.length:=by unfold jO;rw[bB,fL,bU]
  have e2:iM (xs :: rows).flatten=iM xs++iM rows.flatten:=by unfold iM;rw[bU,ck]
  have e3:cm (ws++jO ws rows.length) (iM xs++iM rows.flatten)=cm ws (iM xs)+cm (jO ws rows.length) (iM rows.flatten):=by
   unfold cm;rw[iI (by unfold iM;rw[ai];exact (h xs (.head _)).symm),pF]
  rw[e1,e2,e3,C5 λys hy=>h ys (.tail _ hy)];rfl
theorem Gj (hl:rows.length=T) (h:∀xs∈rows,xs.length=ws.length):xa ws rows=bF (T*ws.length) λk=>(jO ws T).getD k 0*(rows.reverse.flatten.getD k 0*rows.reverse.flatten.getD k 0):=by
 have h':∀xs∈rows.reverse,xs.length=ws.length:=λxs hx=>h xs (cU.mp hx)
 have lf:rows.reverse.flatten.length=T*ws.length:=by rw[qC h',bA,hl]
 rw[<- LS,<- C5 h',bA,hl,cW (by unfold iM;rw[iW,ai,lf]),iW];refine aP λk hk=>?_
 congr 1;unfold iM;rw[getD_map (by lia),aa,af (by lia)];rfl
theorem GV:∀{a b:LR9},a.length=b.length->(∀xs∈a,xs.length=m)->(∀xs∈b,xs.length=m)->(qZ a b).flatten=List.zipWith (λu v=>u - v) a.flatten b.flatten
 | [],[],_,_,_=>rfl
 | x :: a,y :: b,h,ha,hb=>by
  have ih:=GV (a:=a) (b:=b) (by simpa using h) (λz hz=>ha z (.tail _ hz)) (λz hz=>hb z (.tail _ hz));show (List.zipWith (λu v=>u - v) x y :: qZ a b).flatten=_
  rw[bU,bU,bU,ih,iI (by rw[ha x (.head _),hb y (.head _)])]
theorem Qo (ha:∀xs∈a,xs.length=m) (hb:∀xs∈b,xs.length=m):∀xs∈qZ a b,xs.length=m:=λxs hx=>by
 unfold qZ at hx;obtain ⟨i,hi,rfl⟩:=aY hx;rw[bM,aQ,ha _ (aD _),hb _ (aD _),fg]
theorem Gn (h:a.length=b.length):(qZ a b).length=a.length:=by unfold qZ;rw[aQ,h,fg]
theorem De (la:a.length=T) (lb:b.length=T) (ha:∀xs∈a,xs.length=m) (hb:∀xs∈b,xs.length=m) (hk:k < T*m):(qZ a b).reverse.flatten.getD k 0=a.reverse.flatten.getD k 0 - b.reverse.flatten.getD k 0:=by
 have ha':∀xs∈a.reverse,xs.length=m:=λxs hx=>ha xs (cU.mp hx)
 have hb':∀xs∈b.reverse,xs.length=m:=λxs hx=>hb xs (cU.mp hx)
 have e:(qZ a b).reverse=qZ a.reverse b.reverse:=by
  unfold qZ;exact List.reverse_zipWith (by rw[la,lb])
 have l1:a.reverse.flatten.length=T*m:=by rw[qC ha',bA,la]
 have l2:b.reverse.flatten.length=T*m:=by rw[qC hb',bA,lb]
 rw[e,GV (by rw[bA,bA,la,lb]) ha' hb',BX (by rw[l1,l2]) (by lia)]
theorem Ew (D:gG mv pt lk) (ls:st.length=mv.length) (lg:go.length=mv.length) (lp:pus.length=T) (wp:∀xs∈pus,xs.length=pt.length) (h1:pN mv pt st pus T=go) (ly:y.length=mv.length):cm y (dO mv T st go)=bF (T*pt.length) λk=>pus.reverse.flatten.getD k 0*cm ((kry mv pt T).getD k []) y:=by
 have ll:=qA (T:=T) ls lg;have wT:=eo (mv:=mv) (pt:=pt) rfl D.pw T;have kl:=gX (mv:=mv) (pt:=pt) T;have f:=nY (pus:=pus) (st:=st) D ls T (by lia) wp;rw[h1,aE (by lia)] at f;rw[cW (by lia),ly]
 have q:∀c,c < mv.length->y.getD c 0*(dO mv T st go).getD c 0=bF (kry mv pt T).length λi=>pus.reverse.flatten.getD i 0*(cJ (kry mv pt T) i c*y.getD c 0):=λc hc=>by
  have e:(dO mv T st go).getD c 0=bF (kry mv pt T).length λi=>pus.reverse.flatten.getD i 0*cJ (kry mv pt T) i c:=by
   unfold dO;rw[BX (by rw[lg,md ls]) (by lia),f c hc];grind
  rw[e,<- cM];exact aP λi _=>by grind
 rw[aP q,fR,kl];refine aP λi hi=>?_
 rw[cM,Dc wT (by lia) ly]
theorem Oj (hl:wT.length=rows.length) (hk:k < rows.length):(Fu rows wT x).getD k 0=cm (rows.getD k []) x / wT.getD k 0:=by
 unfold Fu rB;rw[aa,bo,aH,af hk,af (show k < wT.length by lia),aa (l:=rows),af hk,aa (l:=wT),af (show k < wT.length by lia)];rfl
theorem Cb (hl:wT.length=rows.length):(Fu rows wT x).length=rows.length:=by unfold Fu rB;rw[aQ,ai,hl,fg]
theorem K5 (lw:ws.length=pt.length):l5 mv pt ws T x=vN (Fu (kry mv pt T) (jO ws T) x) T T pt.length:=by
 unfold l5 vN;rw[i5,List.replicate_zero,cS,List.map_reverse];congr 1;have lt:∀T,(jO ws T).length=(kry mv pt T).length:=λT=>by rw[iW,gX,lw]
 have fl:∀T:Nat,((AL mv pt T).map λrows=>rB ws (rows.map λr=>cm r x)).flatten=Fu (kry mv pt T) (jO ws T) x:=by
  intro T
  induction T with
  | zero=>rfl
  | succ T ih =>
   have e7:jO ws (T+1)=jO ws T++ws:=by unfold jO;rw[List.replicate_succ',fM];simp
   rw[Dn,ck,fM,ih,Ls,e7];unfold Fu rB;rw[ck,iI (by rw[ai,lt T])];simp
 have wl:(Fu (kry mv pt T) (jO ws T) x).length=T*pt.length:=by rw[Cb (lt T),gX]
 refine EB (m:=pt.length) (by unfold AL wg;rw[ai,ai,ai]) (λz hz=>?_) (λz hz=>?_) (by rw[fl,uP wl])
 ·unfold AL at hz;obtain ⟨R,hR,rfl⟩:=aB.mp hz;obtain ⟨t,_,rfl⟩:=aB.mp hR;unfold rB;rw[aQ,ai,ai,lw,fg]
 ·exact K4 (T:=T) wl z (by unfold vN;exact bI _ (cU.mpr hz))
theorem HS:(l5 mv pt ws T x).length=T:=by unfold l5 AL;rw[ai,bA,ai,bw]
theorem OC (lw:ws.length=pt.length):∀xs∈l5 mv pt ws T x,xs.length=pt.length:=λxs hx=>by
 unfold l5 AL at hx;obtain ⟨R,hR,rfl⟩:=aB.mp hx;obtain ⟨t,_,rfl⟩:=aB.mp (cU.mp hR);unfold rB;rw[aQ,ai,ai,lw,fg]
theorem Eh (lw:ws.length=pt.length):(l5 mv pt ws T x).reverse.flatten=Fu (kry mv pt T) (jO ws T) x:=by
 rw[K5 lw];unfold vN;rw[i5,List.replicate_zero,cS,pk,uP (by rw[Cb (by rw[iW,gX,lw]),gX])]
theorem Bj (D:gG mv pt lk) (ls:st.length=mv.length) (lg:go.length=mv.length) (lw:ws.length=pt.length) (h:QI (kry mv pt T) (jO ws T) mv.length (dO mv T st go) x):pN mv pt st (l5 mv pt ws T x) T=go:=by
 have kl:=gX (mv:=mv) (pt:=pt) T;have lt:(jO ws T).length=(kry mv pt T).length:=by rw[iW,kl,lw]
 have wk:=eo (mv:=mv) (pt:=pt) rfl D.pw T;rw[K5 lw];refine Ad D ls lg (ao _) (Cb lt) ?_;have wl:(Oi (kry mv pt T) (Fu (kry mv pt T) (jO ws T) x) mv.length).length=mv.length:=Kl;refine zO (by rw[wl,h.2.1]) λc hc=>?_
 rw[wl] at hc;rw[BZ hc,Cb lt];obtain ⟨e,ee⟩:∃e:List Rat,e=(List.range mv.length).map λj=>if j=c then (1:Rat) else 0:=⟨_,rfl⟩
 have le:e.length=mv.length:=by rw[ee,ai,bw]
 have ea:∀j,j < mv.length->e.getD j 0=if j=c then 1 else 0:=λj hj=>by rw[ee,aa,aH,cH hj];rfl
 have s:=h.2.2 e le;rw[cW (by rw[le,h.2.1]),le,fU hc λj hj ne=>by rw[ea j hj,if_neg ne,kb],ea c hc,if_pos rfl,Mr] at s;rw[s];refine aP λk hk=>?_
 rw[Oj lt hk,Dc wk hk le,fU hc λj hj ne=>by rw[ea j hj,if_neg ne,fP],ea c hc,if_pos rfl,vg];rw[fY,fY];grind
theorem NV (D:gG mv pt lk) (ls:st.length=mv.length) (lg:go.length=mv.length) (lw:ws.length=pt.length) (hp:∀w∈ws,0 < w) (h:QI (kry mv pt T) (jO ws T) mv.length (dO mv T st go) x) (lp:pus.length=T) (wp:∀xs∈pus,xs.length=pt.length) (h1:pN mv pt st pus T=go):xa ws pus=cm x (dO mv T st go)+xa ws (qZ pus (l5 mv pt ws T x)):=by
 have kl:=gX (mv:=mv) (pt:=pt) T;have lt:(jO ws T).length=(kry mv pt T).length:=by rw[iW,kl,lw]
 have wq:∀xs∈pus,xs.length=ws.length:=λxs hx=>by rw[lw];exact wp xs hx
 have wt:=OC (mv:=mv) (T:=T) (x:=x) lw;have lt2:=HS (mv:=mv) (pt:=pt) (ws:=ws) (T:=T) (x:=x);have d1:=Ew D ls lg lp wp h1 h.1;have d2:=Ew D ls lg lt2 wt (Bj D ls lg lw h) h.1;rw[Eh lw] at d2;have wd:=Qo wp wt
 have uw:∀k,k < T*pt.length->cm ((kry mv pt T).getD k []) x=(jO ws T).getD k 0*(Fu (kry mv pt T) (jO ws T) x).getD k 0:=λk hk=>by
  have w0:(jO ws T).getD k 0≠0:=λz=>by
   have:=GW (ws:=jO ws T) (λw h=>hp w (vn h)) (k:=k) (by lia);rw[z] at this;exact absurd this (by decide)
  rw[Oj lt (by lia),dA,k6 w0]
 rw[aP λk hk=>by rw[uw k hk]] at d1 d2;rw[Gj lp wq,Gj (T:=T) (by rw[Gn (by rw[lp,lt2]),lp]) (λxs hx=>by rw[lw];exact wd xs hx),lw];have e3:(λk=>(jO ws T).getD k 0*((qZ pus (l5 mv pt ws T x)).reverse.flatten.getD k 0*(qZ pus (l5 mv pt ws T x)).reverse.flatten.getD k 0))=λk=>(jO ws T).getD k 0*((qZ pus (l5 mv pt ws T x)).reverse.flatten.getD k 0*(qZ pus (l5 mv pt ws T x)).reverse.flatten.getD k 0):=rfl
 have e4:(bF (T*pt.length) λk=>(jO ws T).getD k 0*((qZ pus (l5 mv pt ws T x)).reverse.flatten.getD k 0*(qZ pus (l5 mv pt ws T x)).reverse.flatten.getD k 0))=bF (T*pt.length) λk=>((jO ws T).getD k 0*(pus.reverse.flatten.getD k 0*pus.reverse.flatten.getD k 0)+(Fu (kry mv pt T) (jO ws T) x).getD k 0*((jO ws T).getD k 0*(Fu (kry mv pt T) (jO ws T) x).getD k 0))+(-1)*(pus.reverse.flatten.getD k 0*((jO ws T).getD k 0*(Fu (kry mv pt T) (jO ws T) x).getD k 0)+pus.reverse.flatten.getD k 0*((jO ws T).getD k 0*(Fu (kry mv pt T) (jO ws T) x).getD k 0)):=aP λk hk=>by
  rw[De lp lt2 wp wt hk,Eh lw];grind
 rw[e4,iP,iP,cM,iP];grind
theorem NT (la:a.length=T) (lb:b.length=T) (ha:∀xs∈a,xs.length=ws.length) (hb:∀xs∈b,xs.length=ws.length) (hp:∀w∈ws,0 < w):xa ws (qZ a b)=0↔a=b:=by
 have wd:=Qo ha hb;rw[Gj (T:=T) (by rw[Gn (by rw[la,lb]),la]) wd];have pw:∀k,k < T*ws.length->0 < (jO ws T).getD k 0:=λk hk=>GW (λw h=>hp w (vn h)) (by rw[iW];exact hk)
 constructor
 ·intro z
  have nn:∀k,k < T*ws.length->0<=(jO ws T).getD k 0*((qZ a b).reverse.flatten.getD k 0*(qZ a b).reverse.flatten.getD k 0):=λk hk=>by
   exact mH (Rat.le_of_lt (pw k hk)) Q4
  have zz:=Cg _ nn z;have ha':∀xs∈a.reverse,xs.length=ws.length:=λxs hx=>ha xs (cU.mp hx)
  have hb':∀xs∈b.reverse,xs.length=ws.length:=λxs hx=>hb xs (cU.mp hx)
  have l1:a.reverse.flatten.length=T*ws.length:=by rw[qC ha',bA,la]
  have l2:b.reverse.flatten.length=T*ws.length:=by rw[qC hb',bA,lb]
  have ef:a.reverse.flatten=b.reverse.flatten:=zO (by rw[l1,l2]) λk hk=>by
   have hk:k < T*ws.length:=by lia
   have:=zz k hk;rcases gR.mp this with q | q
   ·have:=pw k hk;rw[q] at this;exact absurd this (by decide)
   ·have q:(qZ a b).reverse.flatten.getD k 0=0:=by rcases gR.mp q with q | q <;> exact q
    rw[De la lb ha hb hk] at q;grind
  have:=EB (m:=ws.length) (by rw[bA,bA,la,lb]) ha' hb' ef;rw[<- pk a,this,pk]
 ·rintro rfl;exact c9 λk hk=>by rw[De la lb ha hb hk];grind
end
theorem Qq (h:Int.gcd a b=1):Int.gcd (a*a) (b*b)=1:=by
 have h':Nat.Coprime a.natAbs b.natAbs:=h;show Nat.gcd (a*a).natAbs (b*b).natAbs=1
 rw[cI,cI];exact Nat.Coprime.mul_left (Nat.Coprime.mul_right h' h') (Nat.Coprime.mul_right h' h')
theorem RB (x:Rat):((nm x).1*(nm x).1,(nm x).2*(nm x).2)=nm (x*x):=by
 refine Lj (hJ (gP x) (gP x)) (Qq (zD x)) ?_
 have e:(((nm x).1:Int):Rat)=x*(((nm x).2:Int):Rat):=by
  show (x.num:Rat)=x*(((x.den:Nat):Int):Rat)
  rw[iY,aO]
 rw[aR,aR,e];grind
inductive Kw (K:FG9) (vs:List V) (H:Hp) (Q:VK) (E9:XK):Prop
 | mk (u:V) (x:Rat):vs=[u]->bV K H x u->iZ x->(∀r H',aK H H'->bV K H' (x*x) (.ref r)->Q (.ref r) H')->Kw K vs H Q E9
def IT (ws:List Rat) (rows:LR9):Prop:=∃M A N B:Nat,0 < M/\0 < N/\1<=A/\1<=B/\(∀w∈ws,Tp M A w)/\(∀xs∈rows,∀x∈xs,Tp N B x)/\M*(N*N)<=2^195000/\1024*(A*(B*B))<=2^195000/\ws.length<=8/\rows.length<=20
theorem yb {M W:Nat}:∀{l:List Rat},(∀x∈l,Tp M W x)->Tp M (l.length*W) l.sum
 | [],_=>by rw[List.length_nil,Nat.zero_mul];exact Tp.zero
 | x :: l,h=>by
  rw[List.sum_cons,bB,c8,rh];exact (h x (.head _)).add (yb λy hy=>h y (.tail _ hy))
theorem Cd (h1:∀x∈xs,Tp M A x) (h2:∀y∈ys,Tp N B y):Tp (M*N) (xs.length*(A*B)) (cm xs ys):=by
 unfold cm
 have t:=yb (M:=M*N) (W:=A*B) (l:=List.zipWith (λx y=>x*y) xs ys) λz hz=>by
  obtain ⟨i,hi,e⟩:=aY hz;rw[bM] at e;rw[<- e];exact (h1 _ (aD _)).mul (h2 _ (aD _))
 exact t.mono (ay _ (by rw[aQ];lia))
section
variable {ws:List Rat} {rows:LR9}
theorem IT.num (h:IT ws rows) (hx:xs∈rows) (hx':x∈xs) (hw:w∈ws):iZ x/\iZ w/\iZ (x*x)/\iZ (w*(x*x)):=by
 obtain ⟨M,A,N,B,M0,N0,A1,B1,h1,h2,b1,b2,_,_⟩:=h;have up:∀{k:Nat},k<=2^195000->k<=2^199750:=λh=>ag h (p2 (by decide))
 generalize (2:Nat)^195000=P at b1 b2 up;have n1:N*N<=M*(N*N):=bZ _ M0;have n2:N<=N*N:=bZ _ N0;have m1:M<=M*(N*N):=cn _ (aN N0 N0);have a1:B*B<=A*(B*B):=bZ _ A1;have a2:B<=B*B:=bZ _ B1;have a3:A<=A*(B*B):=cn _ (aN B1 B1);have tx:=h2 xs hx x hx';have tw:=h1 w hw;exact ⟨kB tx N0 (up (by lia)) (up (by lia)),kB tw M0 (up (by lia)) (up (by lia)),kB (tx.mul tx) (aN N0 N0) (up (by lia)) (up (by lia)),kB (tw.mul (tx.mul tx)) (aN M0 (aN N0 N0)) (up (by lia)) (up (by lia))⟩
theorem IT.take (h:IT ws rows) (i k:Nat) (xs:List Rat) (hx:xs∈rows):iZ (xa ws (rows.take i)+cm (ws.take k) ((iM xs).take k)):=by
 obtain ⟨M,A,N,B,M0,N0,A1,B1,h1,h2,b1,b2,l1,l2⟩:=h
 have ts:∀ys∈rows,∀z∈iM ys,Tp (N*N) (B*B) z:=λys hy z hz=>by
  obtain ⟨y,hy',rfl⟩:=aB.mp hz;exact (h2 ys hy y hy').mul (h2 ys hy y hy')
 have t1:=yb (M:=M*(N*N)) (W:=8*(A*(B*B))) (l:=(rows.take i).map λxs=>cm ws (iM xs)) λz hz=>by
  obtain ⟨ys,hy,rfl⟩:=aB.mp hz;exact (Cd h1 (ts ys (bR hy))).mono (ay _ l1)
 have t2:=Cd (xs:=ws.take k) (ys:=(iM xs).take k) (λw hw=>h1 w (bR hw)) (λz hz=>ts xs hx z (bR hz));have e1:((rows.take i).map λxs=>cm ws (iM xs)).length*(8*(A*(B*B)))<=20*(8*(A*(B*B))):=ay _ (by rw[ai,cv];lia);have e2:(ws.take k).length*(A*(B*B))<=8*(A*(B*B)):=ay _ (by rw[cv];lia);have up:∀{k:Nat},k<=2^195000->k<=2^199750:=λh=>ag h (p2 (by decide))
 generalize (2:Nat)^195000=P at b1 b2 up;exact kB ((t1.mono e1).add (t2.mono e2)) (aN M0 (aN N0 N0)) (up (by lia)) (up (by lia))
theorem IT.szn (h:IT ws rows):iZ (xa ws rows):=by
 obtain ⟨M,A,N,B,M0,N0,A1,B1,h1,h2,b1,b2,l1,l2⟩:=h
 have t1:=yb (M:=M*(N*N)) (W:=8*(A*(B*B))) (l:=rows.map λxs=>cm ws (iM xs)) λz hz=>by
  obtain ⟨ys,hy,rfl⟩:=aB.mp hz;refine (Cd h1 λz hz=>?_).mono (ay _ l1);obtain ⟨y,hy',rfl⟩:=aB.mp hz;exact (h2 ys hy y hy').mul (h2 ys hy y hy')
 have e1:(rows.map λxs=>cm ws (iM xs)).length*(8*(A*(B*B)))<=20*(8*(A*(B*B))):=ay _ (by rw[ai];lia);have up:∀{k:Nat},k<=2^195000->k<=2^199750:=λh=>ag h (p2 (by decide))
 generalize (2:Nat)^195000=P at b1 b2 up;exact kB (t1.mono e1) (aN M0 (aN N0 N0)) (up (by lia)) (up (by lia))
theorem IT.rw (h:IT ws rows):DA (jO ws rows.length)/\DA (iM rows.flatten):=by
 obtain ⟨M,A,N,B,M0,N0,A1,B1,h1,h2,b1,b2,l1,l2⟩:=h;have up:∀{k:Nat},k<=2^195000->k<=2^215000:=λh=>ag h (p2 (by decide))
 generalize (2:Nat)^195000=P at b1 b2 up;have n1:N*N<=M*(N*N):=bZ _ M0;have m1:M<=M*(N*N):=cn _ (aN N0 N0);have a1:B*B<=A*(B*B):=bZ _ A1;have a3:A<=A*(B*B):=cn _ (aN B1 B1);refine ⟨sY (W:=A) M0 (up (by lia)) (up (by lia)) λw hw=>h1 w (vn hw),sY (W:=B*B) (aN N0 N0) (up (by lia)) (up (by lia)) λz hz=>?_⟩;obtain ⟨y,hy,rfl⟩:=aB.mp hz;obtain ⟨ys,hy1,hy2⟩:=dQ.mp hy;exact (h2 ys hy1 y hy2).mul (h2 ys hy1 y hy2)
end
inductive Fy (K:FG9) (vs:List V) (H:Hp) (Q:VK) (E9:XK):Prop
 | mk (p q:Addr) (ws:List Rat) (rows:LR9) (H0:Hp):vs=[.ref p,.ref q]->cL K H p ws->bH K H0 H q rows->(∀xs∈rows,xs.length=ws.length)->IT ws rows->(∀r H',aK H H'->bV K H' (xa ws rows) (.ref r)->Q (.ref r) H')->Fy K vs H Q E9
inductive Kx (K:FG9) (vs:List V) (H:Hp) (Q:VK) (E9:XK):Prop
 | mk (p q:Addr) (a b:LR9) (m:Nat) (H0 H1:Hp):vs=[.ref p,.ref q]->bH K H0 H p a->bH K H1 H q b->a.length=b.length->a.length<=100->m<=100->(∀xs∈a,xs.length=m/\∀x∈xs,iZ x)->(∀xs∈b,xs.length=m/\∀x∈xs,iZ x)->(∀r H',H r=none->aK H H'->bH K H H' r (qZ a b)->Q (.ref r) H')->Kx K vs H Q E9
inductive Hw (K:FG9) (vs:List V) (H:Hp) (Q:VK) (E9:XK):Prop
 | mk (w t o e p y:Addr) (ws:List Rat) (a b:LR9) (ef:Rat) (H0 H1:Hp):vs=[.ref w,.ref t,.ref o]->cL K H w ws->H t=some (.tup [.str (Str.ofString "puts"),.ref e,.ref p,.ref y])->bV K H ef (.ref e)->iZ ef->bH K H0 H p b->bH K H1 H o a->a.length=b.length->a.length<=20->ws.length<=8->(∀xs∈a,xs.length=ws.length/\∀x∈xs,iZ x)->(∀xs∈b,xs.length=ws.length/\∀x∈xs,iZ x)->(∀w∈ws,0 < w)->IT ws a->IT ws (qZ a b)->xa ws a=ef+xa ws (qZ a b)->(∀H',aK H H'->Q (.bl true) H')->Hw K vs H Q E9
inductive Kv (K:FG9) (vs:List V) (H:Hp) (Q:VK) (E9:XK):Prop
 | mk (p q:Addr) (n w:Nat) (H0:Hp) (rows:LR9) (row:List Rat):vs=[.ref p,.int n,.ref q]->bH K H0 H p rows->cL K H q row->row.length=n->rows.length<=90->n<=90->(∀xs∈rows,xs.length=n)->E5 (dk (b8 rows n) row) (rows.length+1) w->(∀R ps,cO (dk (b8 rows n) row) (rows.length+1) R ps->rows.length∉ps)->(∀t x R ps H',cO (dk (b8 rows n) row) (rows.length+1) R ps->H' t=some (.tup [.str (Str.ofString "in"),.ref x])->H x=none->aK H H'->cL K H' x (iQ R ps rows.length)->Q (.ref t) H')->Kv K vs H Q E9
inductive DX (K:FG9) (C:Addr) (vs:List V) (H:Hp) (Q:VK) (E9:XK):Prop
 | mk (x s g:Addr) (T a c D W0 E W1:Nat) (H0:Hp) (mv pt lk:LR9) (st go:List Rat):vs=[.ref x,.ref s,.ref g,.int T]->T<=20->kU K H0 H C x mv pt lk->gG mv pt lk->Ka mv pt lk->wK mv pt a c->OU mv pt T->cL K H s st->st.length=mv.length->cL K H g go->go.length=mv.length->AV mv pt st (List.replicate T (List.replicate pt.length 0))->(∀x∈go,iZ x)->R6 mv pt (dO mv T st go) D W0 E W1->Sj mv pt T (dO mv T st go)->(∀t p pus q H',H' t=some (.tup [.str (Str.ofString "puts"),.ref p])->H p=none->aK H H'->bH K H H' p pus->pus.length=T->(∀xs∈pus,xs.length=pt.length)->pN mv pt st pus T=go->0 < q->q<=(16*W0)^mv.length->(∀xs∈pus,∀x∈xs,Tp (E*q) (D*(mv.length*(W1*(16*W0)^mv.length))) x)->Q (.ref t) H')->DX K C vs H Q E9
theorem OU.le (h:OU mv pt T) (hu:u<=T):OU mv pt u:=by
 obtain ⟨M1,M2,V,a1,a2,c,X,z⟩:=h;have e1:a1*(u+1)<=a1*(T+1):=aA _ (by lia);have e2:c*(u+2)<=c*(T+2):=aA _ (by lia);exact ⟨M1,M2,V,a1,a2,c,X,by lia⟩
theorem NM (hK:∀xs∈K0,xs.length=n) (hL:L.length=n) (hz:∀pr:List Rat,pr.length=n->(∀xs∈K0,cm xs pr=0)->cm pr L=0) (RR:cO (dk (b8 K0 n) L) (K0.length+1) R ps):K0.length∉ps:=λhn=>by
 have lt:(b8 K0 n).length=n:=cR;obtain ⟨w,h1,h2⟩:=DZ (by rw[lt,hL]) fQ RR hn;rw[lt] at h1 h2;obtain ⟨pr,epr⟩:∃pr:List Rat,pr=(List.range n).map w:=⟨_,rfl⟩;have lp:pr.length=n:=by rw[epr,ai,bw]
 have ap:∀i,i < n->pr.getD i 0=w i:=λi hi=>by rw[epr,aa,aH,cH hi];rfl
 have d1:cm pr L=1:=by
  rw[cW (by rw[lp,hL]),lp,<- h2];exact aP λi hi=>by rw[ap i hi]
 rw[hz pr lp λxs hx=>?_] at d1
 ·exact absurd d1 (by decide)
 ·obtain ⟨c,hc,e⟩:=aY hx;rw[cW (by rw[hK xs hx,lp]),hK xs hx];refine Eq.trans (aP λi hi=>?_) (h1 c hc);rw[ap i hi,dA];congr 1;unfold cJ;rw[aa (l:=b8 K0 n),lA hi];show _=(K0.map λxs=>xs.getD i 0).getD c 0
  rw[getD_map hc,e]
theorem Ea {K:FG9} {H0 H:Hp}:∀{rows:LR9} {us:List V},Paired (dm K H0 H) rows us->∃zss:List (List V),Paired (λzs u=>∃q,u=V.ref q/\H q=some (.lst zs)) zss us/\Paired (λR zs=>Paired (bV K H) R zs) rows zss
 | _,_,.nil=>⟨[],.nil,.nil⟩
 | _,_,.cons h t=>by
  obtain ⟨zss,a,b⟩:=Ea t;obtain ⟨q,e,_,zs,g,r⟩:=h;exact ⟨zs :: zss,.cons ⟨q,e,g⟩ a,.cons r b⟩
theorem NU:xa ws (rows++[xs])=xa ws rows+cm ws (iM xs):=by
 unfold xa;rw[ck,pF];simp [kd]
theorem L4 (h:a.length=b.length):(List.range a.length).map (λi=>List.zipWith (λu v=>u - v) (a.getD i []) (b.getD i []))=qZ a b:=by
 unfold qZ;refine dB (by rw[ai,bw,aQ,h,fg]) λi h1 h2=>?_
 rw[ai,bw] at h1;rw[iL,sN,bM,aa,af h1,aa,af (by lia)];rfl
def kBl:Kind Bool where
 R:=λ_ _ x i=>x=.bl i
 d:=0
 inj:=λ_ h1 h2=>by rw[h1] at h2;cases h2;rfl
 rc:=λ{X pins σ H s x y v u a b A} I rx ry h1 h2 _=>by
  subst h1 h2;cases (show v=Value.bool a from rx);cases (show u=Value.bool b from ry);have q:=SeqAt.RcAt.bool_bool (A:=A) (s:=s) a b;rwa [gJ] at q
 ne:=λ{X pins σ H s x y v u a b A} I rx ry h1 h2 _=>by
  subst h1 h2;cases (show v=Value.bool a from rx);cases (show u=Value.bool b from ry);have q:=SeqAt.RcNeAt.bool_bool (A:=A) (s:=s) a b;rwa [gJ] at q
 eq:=λ{X pins σ H s x y v u a b A} I rx ry h1 h2 _=>by
  subst h1 h2;cases (show v=Value.bool a from rx);cases (show u=Value.bool b from ry);have q:=SeqAt.EqAt.bool_bool (A:=A) (s:=s) a b;rwa [gJ] at q
def DG (a b:LR9):LR9:=List.zipWith (λx y=>List.zipWith (λu v=>u+(u - v)) x y) a b
def GB (ν p:Nat) (rows:LR9):Prop:=∃N:Nat,0 < N/\N<=2^ν/\∀xs∈rows,∀x∈xs,Fr N (2^p) x
section
variable {mv pt lk pus a b rows:LR9} {ws st go x:List Rat} {M1 M2 V a1 a2 c B ν p ν' p' T w m:Nat}
theorem GQ {f g:Rat->Rat->Rat}:∀{x y:List Rat},List.zipWith f x (List.zipWith g x y)=List.zipWith (λu v=>f u (g u v)) x y
 | [],_=>by simp
 | _ :: _,[]=>by simp
 | u :: x,v :: y=>by rw[mI,mI,mI,GQ (x:=x)]
theorem Io {f:Rat->Rat->Rat}:∀{a b:LR9},a.length=b.length->(∀xs∈a,xs.length=m)->(∀xs∈b,xs.length=m)->(List.zipWith (λx y=>List.zipWith f x y) a b).flatten=List.zipWith f a.flatten b.flatten
 | [],[],_,_,_=>rfl
 | x :: a,y :: b,h,ha,hb=>by
  rw[mI,bU,bU,bU,Io (by simpa using h) (λz hz=>ha z (.tail _ hz)) (λz hz=>hb z (.tail _ hz)),iI (by rw[ha x (.head _),hb y (.head _)])]
theorem MH (la:a.length=T) (lb:b.length=T) (ha:∀xs∈a,xs.length=m) (hb:∀xs∈b,xs.length=m) (hk:k < T*m):(DG a b).reverse.flatten.getD k 0=a.reverse.flatten.getD k 0+(a.reverse.flatten.getD k 0 - b.reverse.flatten.getD k 0):=by
 have ha':∀xs∈a.reverse,xs.length=m:=λxs hx=>ha xs (cU.mp hx)
 have hb':∀xs∈b.reverse,xs.length=m:=λxs hx=>hb xs (cU.mp hx)
 have l1:a.reverse.flatten.length=T*m:=by rw[qC ha',bA,la]
 have l2:b.reverse.flatten.length=T*m:=by rw[qC hb',bA,lb]
 unfold DG;rw[List.reverse_zipWith (by rw[la,lb]),Io (by rw[bA,bA,la,lb]) ha' hb',aa,bo,af (show k < a.reverse.flatten.length by lia),af (show k < b.reverse.flatten.length by lia),aa,af (show k < a.reverse.flatten.length by lia),aa,af (show k < b.reverse.flatten.length by lia)];rfl
theorem Km (la:a.length=T) (lb:b.length=T):(List.range T).map (λi=>List.zipWith (λu v=>u+(u - v)) (a.getD i []) (b.getD i []))=DG a b:=by
 unfold DG;refine dB (by rw[ai,bw,aQ,la,lb,fg]) λi h1 h2=>?_
 rw[ai,bw] at h1;rw[iL,sN,bM,aa,af (by lia),aa,af (by lia)];rfl
theorem Kn (h:a.length=b.length):(DG a b).length=a.length:=by unfold DG;rw[aQ,h,fg]
theorem QN (ha:∀xs∈a,xs.length=m) (hb:∀xs∈b,xs.length=m):∀xs∈DG a b,xs.length=m:=λxs hx=>by
 unfold DG at hx;obtain ⟨i,hi,rfl⟩:=aY hx;rw[bM,aQ,ha _ (aD _),hb _ (aD _),fg]
theorem Ko (D:gG mv pt lk) (ls:st.length=mv.length) (la:a.length=T) (lb:b.length=T) (ha:∀xs∈a,xs.length=pt.length) (hb:∀xs∈b,xs.length=pt.length) (h1:pN mv pt st a T=go) (h2:pN mv pt st b T=go):pN mv pt st (DG a b) T=go:=by
 have lt:=Kn (a:=a) (b:=b) (by rw[la,lb]);have wt:=QN ha hb;have kl:=gX (mv:=mv) (pt:=pt) T;have e0:=j5 (mv:=mv) (pt:=pt) (pus:=DG a b) (k:=T) ls (by lia);have e1:=j5 (mv:=mv) (pt:=pt) (pus:=a) (k:=T) ls (by lia);rw[h1] at e1;have f0:=nY (pus:=DG a b) (st:=st) D ls T (by lia) wt;have f1:=nY (pus:=a) (st:=st) D ls T (by lia) ha;have f2:=nY (pus:=b) (st:=st) D ls T (by lia) hb;rw[h1,aE (by lia)] at f1;rw[h2,aE (by lia)] at f2;rw[aE (by lia)] at f0;refine zO (by rw[e0,e1]) λc hc=>?_
 rw[e0] at hc;have g1:=f1 c hc;have g2:=f2 c hc;rw[f0 c hc]
 have e:(bF (kry mv pt T).length λi=>(DG a b).reverse.flatten.getD i 0*cJ (kry mv pt T) i c)=(bF (kry mv pt T).length λi=>a.reverse.flatten.getD i 0*cJ (kry mv pt T) i c)+((bF (kry mv pt T).length λi=>a.reverse.flatten.getD i 0*cJ (kry mv pt T) i c)+-1*(bF (kry mv pt T).length λi=>b.reverse.flatten.getD i 0*cJ (kry mv pt T) i c)):=by
  rw[<- cM,<- iP,<- iP]
  exact aP λi hi=>by
   rw[MH la lb ha hb (by lia)];grind
 rw[e];grind
theorem GB.df (h1:GB ν p a) (h2:GB ν' p b):GB (ν+ν') (p+1) (qZ a b):=by
 obtain ⟨N,N0,Nb,f⟩:=h1;obtain ⟨N',N0',Nb',f'⟩:=h2;refine ⟨N*N',aN N0 N0',by rw[az];exact aw Nb Nb',λxs hx x hx'=>?_⟩;unfold qZ at hx;obtain ⟨i,hi,rfl⟩:=aY hx;rw[bM] at hx';obtain ⟨j,hj,rfl⟩:=aY hx';rw[bM,ff,Nat.mul_two];exact ((f _ (aD _) _ (aD _)).dvd (jN _ _)).sub ((f' _ (aD _) _ (aD _)).dvd (dg _ _))
theorem GB.tw (h1:GB ν p a) (h2:GB ν' p b):GB (ν+ν') (p+2) (DG a b):=by
 obtain ⟨N,N0,Nb,f⟩:=h1;obtain ⟨N',N0',Nb',f'⟩:=h2;refine ⟨N*N',aN N0 N0',by rw[az];exact aw Nb Nb',λxs hx x hx'=>?_⟩;unfold DG at hx;obtain ⟨i,hi,rfl⟩:=aY hx;rw[bM] at hx';obtain ⟨j,hj,rfl⟩:=aY hx';rw[bM];have f1:=(f _ (aD (l:=a) (n:=i) (by rw[aQ] at hi;lia)) _ (aD (n:=j) (by rw[aQ] at hj;lia))).dvd (jN N N');have f2:=(f' _ (aD (l:=b) (n:=i) (by rw[aQ] at hi;lia)) _ (aD (n:=j) (by rw[aQ] at hj;lia))).dvd (dg N' N);refine (f1.add (f1.sub f2)).mono ?_;rw[az]
 lia
theorem GB.up (h:GB ν p a) (h1:ν<=ν') (h2:p<=p'):GB ν' p' a:=by
 obtain ⟨N,N0,Nb,f⟩:=h;exact ⟨N,N0,ag Nb (p2 h1),λxs hx x hx'=>(f xs hx x hx').mono (p2 h2)⟩
theorem GB.szn (h:GB ν p a) (h1:ν+p<=195000):∀xs∈a,∀x∈xs,iZ x:=λxs hx x hx'=>by
 obtain ⟨N,N0,Nb,f⟩:=h;exact kB (Tp.of (f xs hx x hx') (W:=2^(p+ν)) (by rw[az];exact aA _ Nb)) N0 (ag Nb (p2 (by lia))) (p2 (by lia))
theorem LR (h:GB ν p rows) (h1:ν+p<=1000*90) (l8:ws.length<=4) (l20:rows.length<=20) (hw:∀w∈ws,0 < w/\Dr 1000 w):IT ws rows:=by
 obtain ⟨N,N0,Nb,f⟩:=h;obtain ⟨M,M0,Mb,g⟩:=qY (c:=10) (l:=ws) (λx hx=>⟨ag (hw x hx).2.1 (by decide),ag (hw x hx).2.2 (by decide)⟩) (by decide);have Mb:M<=2^42:=ag Mb (p2 (by lia));refine ⟨M,2^64,N,2^(p+ν),M0,N0,cX,cX,λw h=>Tp.of (g w h) ?_,λxs hx x hx'=>Tp.of (f xs hx x hx') (by rw[az];exact aA _ Nb),?_,?_,by lia,l20⟩
 ·rw[show 64=22+42 from rfl,az];exact aA _ Mb
 ·refine ag (aw Mb (aw Nb Nb)) ?_;rw[<- az,<- az];exact p2 (by lia)
 ·rw[show 1024=2^10 from rfl,<- az,<- az,<- az];exact p2 (by lia)
theorem Bd.upA (X:Bd mv pt M1 M2 V a1 a2 c) (h1:a1<=a1') (h2:a2<=a2') (h3:c<=c'):Bd mv pt M1 M2 V a1' a2' c':=⟨X.m1,X.m2,ag X.b1 (p2 h1),ag X.b2 (p2 h2),X.gm,X.gp,ag X.vc (p2 h3)⟩
theorem Qk (X:Bd mv pt M1 M2 V 80 160 33) (h:GB ν p pus) (h1:ν<=1000*40) (h2:p<=1000*40) (lp:pus.length<=12) (B0:0 < B) (Bb:B<=2^600) (hs:∀x∈st,Fr B (2^22) x):OT mv pt pus st:=by
 obtain ⟨N,N0,Nb,f⟩:=h;refine ⟨M1,M2,V,80,160,33,M2*N*B,N,p+22,160+ν+600,X,aN (aN X.m2 N0) B0,?_,jN _ _,λx hx=>Fr.up (hs x hx) (dg _ _) (p2 (by lia)),λxs hx x hx'=>(f xs hx x hx').mono (p2 (by lia)),by lia,by decide⟩;rw[az,az];exact aw (aw X.b2 Nb) Bb
theorem KQ (R:Rg mv pt w) (D:gG mv pt lk) (S:SN mv pt T):∃M1 M2 V a1 a2 c b1 b2,Us mv pt w T M1 M2 V a1 a2 c b1 b2/\a1<=80/\a2<=160/\c<=33/\b1<=525:=by
 have i4:=D.i4;have n8:=D.n8;have small:w<=9->∀l:List Rat,(∀x∈l,Dr (max w 6) x)->∃B,0 < B/\6∣B/\(∀x∈l,Fr B (2^22) x)/\(l.length<=2*mv.length+T*pt.length->B<=2^12)/\(l.length<=2*mv.length+2*(T*pt.length)->B<=2^12):=λw9 l h=>⟨2520,by decide,by decide,λx hx=>(LW ⟨ag (h x hx).1 (by lia),ag (h x hx).2 (by lia)⟩ (yp _)).mono (by decide),λ_=>by decide,λ_=>by decide⟩
 have wide:w=1000->∀t,T*pt.length<=t->mv.length<=2->∀l:List Rat,(∀x∈l,Dr (max w 6) x)->∃B,0 < B/\6∣B/\(∀x∈l,Fr B (2^22) x)/\(l.length<=2*mv.length+T*pt.length->B<=2^(45+10*t))/\(l.length<=2*mv.length+2*(T*pt.length)->B<=2^(45+20*t)):=λw9 t ht n2 l h=>by
  obtain ⟨B,h0,h1,h2⟩:=qY (c:=10) (l:=l) (λx hx=>⟨ag (h x hx).1 (by rw[w9];decide),ag (h x hx).2 (by rw[w9];decide)⟩) (by decide)
  have up:∀k,3+(10*l.length+2)<=k->6*B<=2^k:=λk hk=>by
   refine ag ?_ (ar (by decide) hk);rw[az 2 3];exact aw (by decide) h1
  exact ⟨6*B,by lia,jN _ _,λx hx=>(h2 x hx).scaleL 6,λhl=>up _ (by lia),λhl=>up _ (by lia)⟩
 rcases R with ⟨w9,X⟩ | ⟨w9,n5,X⟩ | ⟨w9,n2,M1,M2,X⟩
 ·exact ⟨_,_,_,_,_,_,12,12,⟨X,l7 (n':=8) (T':=12) (b':=12) n8 S.1 (ao _) (by decide),ya (n':=8) (T':=12) (b':=12) n8 S.1 (ao _) (by decide),l7 (n':=8) (T':=12) (b':=12) n8 S.1 (ao _) (by decide),small w9⟩,by decide,by decide,by decide,by decide⟩
 ·exact ⟨_,_,_,_,_,_,12,12,⟨X,l7 (n':=5) (T':=12) (b':=12) n5 S.1 (ao _) (by decide),ya (n':=5) (T':=12) (b':=12) n5 S.1 (ao _) (by decide),l7 (n':=5) (T':=12) (b':=12) n5 S.1 (ao _) (by decide),small w9⟩,by decide,by decide,by decide,by decide⟩
 ·by_cases T3:T<=3
  ·have m:T*pt.length<=3*4:=aw T3 i4;exact ⟨_,_,_,_,_,_,165,285,⟨X,l7 (n':=2) (T':=3) (b':=165) n2 T3 (ao _) (by decide),ya (n':=2) (T':=3) (b':=165) n2 T3 (ao _) (by decide),l7 (n':=2) (T':=3) (b':=285) n2 T3 (ao _) (by decide),wide w9 12 m n2⟩,by decide,by decide,by decide,by decide⟩
  ·obtain ⟨T12,z | ⟨hd,_⟩⟩:=S
   ·exact absurd z T3
   have m:T*pt.length<=12*4:=aw T12 i4
   have gf:∀l:LR9,(∀xs∈l,xs∈mv++pt)->GF 2520 1000 l:=λl hl xs hx x hx'=>by
    have:=hd xs (hl xs hx) x hx';exact (Fr.own x (bc this.2)).dvd (Iy this.1)
   have X2:Bd mv pt 2520 2520 1000 12 12 13:=⟨by decide,by decide,by decide,by decide,gf mv λxs hx=>aG.mpr (.inl hx),gf pt λxs hx=>aG.mpr (.inr hx),ag (ay _ (show mv.length+4<=6 by lia)) (by decide)⟩;exact ⟨_,_,_,_,_,_,525,1005,⟨X2,l7 (n':=2) (T':=12) (b':=525) n2 T12 (ao _) (by decide),ya (n':=2) (T':=12) (b':=525) n2 T12 (ao _) (by decide),l7 (n':=2) (T':=12) (b':=1005) n2 T12 (ao _) (by decide),wide w9 48 m n2⟩,by decide,by decide,by decide,by decide⟩
theorem JL (RG:Rg mv pt w) (D:gG mv pt lk) (hT:SN mv pt T) (ls:st.length=mv.length) (ds:∀x∈st,Dr (max w 6) x) (dp:DrP pt T w pus) (lw:ws.length=pt.length) (hw:∀w∈ws,0 < w/\Dr 1000 w) (hg:pN mv pt st pus T=go) :
  OT mv pt pus st/\GB 600 22 pus/\(∀x∈go,iZ x)/\AV mv pt st (List.replicate T (List.replicate pt.length 0))/\Sj mv pt T (dO mv T st go) /\
  (∃N X,SS mv pt ws T (dO mv T st go) N X/\∀x:List Rat,x.length=mv.length->(∀z∈x,Tp N X z)->GB (1000*28+300) (1000*28+300) (l5 mv pt ws T x)/\iZ (cm x (dO mv T st go))) /\
  (∃D0 W0 E0 W1,R6 mv pt (dO mv T st go) D0 W0 E0 W1/\∀(pus':LR9) (q:Nat),0 < q->q<=(16*W0)^mv.length->(∀xs∈pus',∀x∈xs,Tp (E0*q) (D0*(mv.length*(W1*(16*W0)^mv.length))) x)->GB 9600 (1000*10+700) pus') /\
  ∀(pus':LR9) (ν p:Nat),GB ν p pus'->ν<=1000*40->p<=1000*40->pus'.length<=12->OT mv pt pus' st:=by
 have n8:=D.n8;have t12:=hT.1;obtain ⟨M1,M2,V,a1,a2,c,b1,b2,U,ha1,ha2,hc,hb⟩:=KQ RG D hT;obtain ⟨B,B0,Bb,_,f1,f2⟩:=U.pair ls ds dp;have wp:∀xs∈pus,xs.length=pt.length:=λxs hx=>(dp.2 xs hx).1
 obtain ⟨EN,fe⟩:=U.bd.end D ls dp.1 wp B0 Bb f1 f2 (Sl U.z1);have fe:=fe T (ao _);rw[hg] at fe;have lg:go.length=mv.length:=by rw[<- hg];exact j5 ls (by rw[dp.1];exact ao _)
 have CT:=U.bd.ctf D ls B0 Bb (PX f1) (λx hx=>(fe x hx).mono (p2 (by lia))) U.z1;have hl:=U.bd.lack D ls f1 fe;have X:=U.bd.upA ha1 ha2 hc;have B6:B<=2^600:=ag Bb (p2 (by lia));have rch:Sj mv pt T (dO mv T st go):=λpr l z=>JC D ls lg dp.1 wp hg l z
 have hN:M2*B<=2^(160+525):=by rw[az];exact aw X.b2 (ag Bb (p2 hb))
 obtain ⟨E,eE⟩:∃E,M1^T*(M2*B)=E:=⟨_,rfl⟩;have E0:0 < E:=by rw[<- eE];exact aN (fZ X.m1) (aN X.m2 B0)
 have Eb:E<=2^1645:=by
  rw[<- eE];exact ag (iT X.b1 hN) (p2 (by lia))
 rw[eE] at CT hl;have cT:c*T<=33*12:=aw hc t12;have hl':∀x∈dO mv T st go,Fr E (2^(33*12+26)) x:=λx hx=>(hl x hx).mono (p2 (by lia))
 have ll:=qA (T:=T) ls lg;refine ⟨EN,⟨B,B0,B6,f2⟩,CT.sg,CT.cf,rch,?_,?_,λpus' ν p g h1 h2 lp=>Qk X g h1 h2 lp B0 B6 f1⟩
 ·have hE:E<=2^Mw 80 160 12 600:=ag Eb (p2 (by decide));obtain ⟨q,q0,qb,hq⟩:=PZ X D (show Z65 8 80 160 33 12 600 by decide) n8 (u:=T) (by lia) lw hw E0 hE;refine ⟨_,_,hq _ ll hl' rch,λx lx hpx=>?_⟩
  have Nb:E*q<=2^(1645+1000*25+376):=by
   rw[show 1645+1000*25+376=1645+(1000*25+376) from rfl,az 2 1645];exact aw Eb (ag qb (p2 (by decide)))
  have N0:0 < E*q:=aN E0 q0;have hk:=RC X D (u:=T) (T0:=12) (by lia);obtain ⟨D1,eD⟩:∃d,M1^12*M2=d:=⟨_,rfl⟩;rw[eD] at hk;have D10:0 < D1:=by rw[<- eD];exact aN (fZ X.m1) X.m2
  have D1b:D1<=2^1120:=by rw[<- eD];exact iT X.b1 X.b2
  obtain ⟨Bw,b0,b1',hB⟩:=qY (c:=10) (l:=ws.map λw=>1 / w) (λx hx=>by
   obtain ⟨w,h,rfl⟩:=aB.mp hx;have:=Lz (hw w h).1 (hw w h).2;exact ⟨ag this.1 (by decide),ag this.2 (by decide)⟩) (by decide)
  have b1':Bw<=2^42:=ag b1' (p2 (by rw[ai,lw];have:=D.i4;lia));have wk:=eo (mv:=mv) (pt:=pt) rfl D.pw T;constructor
  ·refine ⟨D1*(E*q)*Bw,aN (aN D10 N0) b0,?_,λxs hx z hz=>?_⟩
   ·refine ag (aw (aw D1b Nb) b1') ?_;rw[<- az,<- az];exact p2 (by decide)
   ·unfold l5 at hx;obtain ⟨R,hR,rfl⟩:=aB.mp hx;have hR:=cU.mp hR;unfold rB at hz;obtain ⟨j,hj,rfl⟩:=aY hz;rw[bM,iL,show ∀a b:Rat,a / b=a*(1 / b) from λa b=>by rw[fY,fY,Mr]];have hj':j < R.length/\j < ws.length:=by rw[aQ,ai] at hj;lia
    have mr:R[j]'hj'.1∈kry mv pt T:=by rw[<- jI];exact dQ.mpr ⟨R,hR,aD _⟩
    have t1:=(Cd (M:=D1) (A:=2^(33*13)*D1) (λy hy=>Tp.of (hk _ mr y hy) (ao _)) hpx).mul (Tp.of (hB _ (aB.mpr ⟨ws[j]'hj'.2,aD _,rfl⟩)) (ao _));refine (t1.fr (aN (aN D10 N0) b0)).mono ?_;rw[wk _ mr];refine ag (aw (aw (show mv.length<=2^3 by lia) (aw (aA _ D1b) (ao _))) (aA _ b1')) ?_;rw[<- az,<- az,<- az,<- az,<- az];exact p2 (by decide)
  ·have t:=LY lx ll n8 hpx (f:=33*12+26+1645) (D:=E) λz hz=>Tp.of (hl' z hz) (by rw[az 2 (33*12+26)];exact aA _ Eb)
   refine kB t (aN N0 E0) (ag (aw Nb Eb) ?_) (p2 (by decide));rw[<- az];exact p2 (by decide)
 ·have Db:M1^(mv.length - 1)*M2<=2^720:=ag (iT X.b1 X.b2) (p2 (by lia))
  have Wb:2^(c*mv.length)*(M1^(mv.length - 1)*M2)<=2^984:=by
   refine ag (aw (p2 (aw hc n8)) Db) ?_;rw[<- az];exact p2 (by decide)
  have Qb:(16*(2^(c*mv.length)*(M1^(mv.length - 1)*M2)))^mv.length<=2^7904:=by
   refine ag (kz (aA 16 Wb) _) ?_;rw[show 16=2^4 from rfl,<- az,<- ph];exact p2 (by lia)
  refine ⟨_,_,_,_,CT.co,λpus' q q0 qb h=>⟨E*q,aN E0 q0,?_,λxs hx x hx'=>((h xs hx x hx').fr (aN E0 q0)).mono ?_⟩⟩
  ·refine ag (aw Eb (ag qb Qb)) ?_;rw[<- az];exact p2 (by decide)
  ·refine ag (aw Db (aw (show mv.length<=2^3 by lia) (aw (aw (p2 (show c*T+23+1<=420 by lia)) Eb) Qb))) ?_;rw[<- az,<- az,<- az,<- az];exact p2 (by decide)
end
end L2
open L2
local macro_rules | `(tactic| walk_at "hl") => `(tactic| first | (show _ ≤ sizeLine; with_unfolding_all decide) | (with_unfolding_all exact (by decide)))
local macro_rules | `(tactic| walk_at "sq") => `(tactic| first | with_reducible assumption | with_reducible exact sI.of (by assumption) | with_reducible exact bO.of (by assumption) | with_reducible exact sI.of aM | with_reducible exact bO.of aM | assumption)
local macro_rules | `(tactic| walk_at "sc") => `(tactic| first | (with_reducible show (0 : Int) < _; decide) | with_reducible exact IG (by decide) (by decide) | with_reducible exact Di (by decide) (by decide) | with_reducible exact cpow_of (by decide) (by decide) (by decide))
local macro_rules | `(tactic| walk_at "rd") => `(tactic| first
  | with_reducible refine Pg ?_
  | with_reducible refine Nc ?_
  | with_reducible refine PB ?_
  | with_reducible refine K2 ?_
  | ((with_reducible refine' Pd ?hx1 ?_); (case hx1 => with_unfolding_all rfl))
  | with_reducible refine Sr ?_
  | with_reducible refine Rk ?_
  | with_reducible refine Rn ?_
  | with_reducible refine Rf ?_
  | with_reducible refine Ss ?_
  | with_reducible refine Pz ?_
  | with_reducible refine Po ?_
  | with_reducible refine Py ?_
  | with_reducible refine Pn ?_
  | with_reducible refine rd_eqB ?_
  | with_reducible refine rd_neB ?_
  | with_reducible refine Ng ?_
  | with_reducible refine FJ ?_
  | with_reducible refine Px ?_
  | with_reducible refine M7 ?_
  | with_reducible refine Nd ?_
  | with_reducible refine Nf ?_
  | with_reducible refine KZ ?_
  | with_reducible refine M6 ?_
  | with_reducible refine Rh ?_
  | with_reducible refine Ph ?_
  | with_reducible refine rd_retN ?_
  | with_reducible refine Pt ?_
  | with_reducible refine PC ?_
  | with_reducible refine Rj ?_
  | with_reducible refine Pk ?_
  | with_reducible refine Nu ?_
  | with_reducible refine rd_orV ?_
  | with_reducible refine Na ?_
  | with_reducible refine Pu ?_
  | with_reducible refine Pc ?_
  | with_reducible refine Qc ?_
  | with_reducible refine RE ?_
  | with_reducible refine RH ?_
  | with_reducible refine RI ?_
  | with_reducible refine Oz ?_
  | with_reducible refine Pl ?_
  | with_reducible refine Nn ?_
  | with_reducible refine Pe ?_
  | with_reducible refine Pp ?_
  | with_reducible refine Nr ?_
  | with_reducible refine Rl ?_
  | with_reducible refine Nl ?_
  | with_reducible refine Pj ?_
  | with_reducible refine Nt ?_
  | ((with_reducible refine' rd_aug ?hx1 ?_); (case hx1 => with_unfolding_all rfl))
  | with_reducible refine Pq ?_
  | with_reducible refine Ni ?_
  | with_reducible refine K3 ?_
  | with_reducible refine Nj ?_
  | with_reducible refine Ri ?_
  | with_reducible refine Jo ?_
  | with_reducible refine M8 ?_
  | with_reducible refine Pw ?_
  | with_reducible refine KY ?_
  | with_reducible refine rd_iTup ?_
  | with_reducible refine KW ?_
  | with_reducible refine KU ?_
  | ((with_reducible refine' Nq ?hx1 ?_); (case hx1 => with_unfolding_all rfl))
  | with_reducible refine M5 ?_
  | with_reducible refine Rm ?_
  | with_reducible refine rd_bm0 ?_
  | with_reducible refine rd_brk ?_
  | ((with_reducible refine' Nh ?hx1 ?hx2 ?_); (case hx1 => walk_at "sq"); (case hx2 => with_unfolding_all rfl))
  | with_reducible refine rd_cont ?_
  | ((with_reducible refine' fj ?hx1 ?_); (case hx1 => walk_at "sc"))
  | ((with_reducible refine' FK ?hx1 ?hx2 ?_); (case hx1 => walk_at "sq"); (case hx2 => with_unfolding_all rfl))
  | ((with_reducible refine' cx ?hx1 ?hx2 ?_); (case hx1 => walk_at "sq"); (case hx2 => with_unfolding_all rfl))
  | ((with_reducible refine' Nk ?hx1 ?hx2 ?_); (case hx1 => walk_at "sq"); (case hx2 => with_unfolding_all rfl))
  | ((with_reducible refine' ft ?hx1 ?hx2 ?hx3 ?_); (case hx1 => with_reducible first | assumption | exact aM); (case hx2 => with_unfolding_all rfl); (case hx3 => with_unfolding_all rfl))
  | with_reducible refine ⟨_, rfl, ?_⟩
  | with_reducible refine ⟨_, _, rfl, ?_⟩)
local macro_rules | `(tactic| walk_at "w") => `(tactic| repeat walk_at "rd")
local macro_rules | `(tactic| walk_at "d") => `(tactic| exact ⟨rfl,rfl,rfl,by decide +kernel,rfl,by decide +kernel,by decide +kernel⟩)
namespace Lw
open PySem PySem.Spec PyProof.Rows L2 Nm
local macro_rules | `(tactic| exists $e) => `(tactic| (walk_at "w";refine $e))
set_option maxHeartbeats 4000000
def top (i:Nat):Stmt:=PySem.Challenge.pw_helmsum_k64_whole_all_others_more.main.body.getD i (.Pass ⟨0,0,0,0⟩)
abbrev sX:Stmt:=top 64
abbrev pX:Stmt:=top 65
abbrev kN:Stmt:=top 80
abbrev qg:Stmt:=top 82
abbrev sU:Stmt:=top 66
abbrev sS:Stmt:=top 67
abbrev p0:Stmt:=top 73
abbrev pZ:Stmt:=top 69
abbrev vM:Stmt:=top 75
abbrev ot:Stmt:=top 77
abbrev jR:Stmt:=top 83
abbrev mR:Stmt:=top 70
abbrev sT:Stmt:=top 71
abbrev p7:Stmt:=top 76
abbrev oq:Stmt:=top 78
abbrev mQ:Stmt:=top 84
abbrev pR:Stmt:=top 60
abbrev sR:Stmt:=top 10
abbrev jQ:Stmt:=top 11
abbrev pV:Stmt:=top 13
abbrev yR:Stmt:=top 18
abbrev mP:Stmt:=top 61
abbrev d6:Stmt:=inClass (top 62) 0
abbrev mU:Stmt:=top 79
abbrev qe:Stmt:=top 85
abbrev lH:Stmt:=top 90
abbrev oo:Stmt:=top 86
abbrev pY:Stmt:=top 87
abbrev sW:Stmt:=top 72
abbrev vL:Stmt:=top 81
abbrev p5:Stmt:=top 88
abbrev sV:Stmt:=top 89
abbrev jv:Stmt:=top 12
abbrev kC:Stmt:=top 20
abbrev pS:Stmt:=top 21
abbrev yP:Stmt:=top 14
abbrev vF:Stmt:=top 22
abbrev vJ:Stmt:=top 25
abbrev og:Stmt:=top 43
abbrev pW:Stmt:=top 44
abbrev CB:Stmt:=top 15
abbrev pT:Stmt:=top 19
abbrev mO:Stmt:=top 26
abbrev fV:Stmt:=inClass (top 62) 1
abbrev yT:Stmt:=top 31
abbrev oa:Stmt:=top 23
abbrev mN:Stmt:=top 46
abbrev vI:Stmt:=top 47
abbrev oi:Stmt:=top 33
abbrev vK:Stmt:=top 35
abbrev oj:Stmt:=top 34
abbrev Cz:Stmt:=top 36
abbrev yN:Stmt:=top 39
abbrev CA:Stmt:=top 40
abbrev FG:Stmt:=top 28
abbrev oh:Stmt:=top 27
abbrev yO:Stmt:=top 16
abbrev pU:Stmt:=top 52
abbrev yQ:Stmt:=top 54
abbrev vG:Stmt:=top 37
abbrev mM:Stmt:=top 45
abbrev mL:Stmt:=top 41
abbrev KJ:Stmt:=top 29
abbrev FH:Stmt:=top 48
abbrev vH:Stmt:=top 53
abbrev CC:Stmt:=top 55
abbrev mS:Stmt:=top 91
abbrev qh:Stmt:=top 68
abbrev ou:Stmt:=top 74
abbrev mT:Stmt:=top 92
abbrev vE:Stmt:=top 50
abbrev yS:Stmt:=top 51
abbrev p9:Stmt:=top 93
abbrev KI:Stmt:=top 94
set_option genInjectivity false in
set_option genSizeOf false in
structure Ads where
 An:Addr
 Ab:FuncData
 xG:Addr
 xl:FuncData
 uZ:Addr
 uL:FuncData
 xP:Addr
 xv:FuncData
 Ak:Addr
 zY:FuncData
 Ai:Addr
 zW:FuncData
 xJ:Addr
 xo:FuncData
 xI:Addr
 xn:FuncData
 BR:Addr
 BB:FuncData
 vb:Addr
 uN:FuncData
 nR:Addr
 nN:FuncData
 sk:Addr
 rO:FuncData
 Aj:Addr
 zX:FuncData
 xM:Addr
 xr:FuncData
 va:Addr
 uM:FuncData
 rZ:Addr
 rN:FuncData
 xA:Addr
 xf:FuncData
 Ah:Addr
 zV:FuncData
 nQ:Addr
 nM:FuncData
 xE:Addr
 xj:FuncData
 EZ:Addr
 EI:FuncData
 rY:Addr
 rM:FuncData
 jJ:Addr
 jG:FuncData
 sH:Addr
 rS:FuncData
 xO:Addr
 xu:FuncData
 qK:Addr
 qH:FuncData
 uY:Addr
 uK:FuncData
 xH:Addr
 xm:FuncData
 Am:Addr
 Aa:FuncData
 BQ:Addr
 BA:FuncData
 xK:Addr
 xp:FuncData
 Al:Addr
 zZ:FuncData
 mC:Addr
 mo:FuncData
 o9:Addr
 o7:FuncData
 xB:Addr
 xg:FuncData
 EX:Addr
 EG:FuncData
 wD:Addr
 v9:FuncData
 wF:Addr
 we:FuncData
 uU:Addr
 uG:FuncData
 xF:Addr
 xk:FuncData
 IM:Addr
 IE:FuncData
 xC:Addr
 xh:FuncData
 rX:Addr
 rL:FuncData
 lX:Addr
 lW:FuncData
 E4:Addr
 EK:FuncData
 uS:Addr
 uF:FuncData
 rW:Addr
 rK:FuncData
 BO:Addr
 Bv:FuncData
 uW:Addr
 uI:FuncData
 BP:Addr
 By:FuncData
 uX:Addr
 uJ:FuncData
 IK:Addr
 IC:FuncData
 EV:Addr
 ED:FuncData
 IL:Addr
 ID:FuncData
 Mj:Addr
 L6:FuncData
 uV:Addr
 uH:FuncData
 EW:Addr
 EE:FuncData
 xD:Addr
 xi:FuncData
 EY:Addr
 EH:FuncData
 BM:Addr
 Bt:FuncData
 rV:Addr
 rJ:FuncData
 rT:Addr
 rH:FuncData
 OQ:Addr
 OO:FuncData
 Ml:Addr
 L7:FuncData
 BN:Addr
 Bu:FuncData
 IP:Addr
 IF:FuncData
 so:Addr
 rQ:FuncData
 xQ:Addr
 xx:FuncData
 vd:Addr
 uO:FuncData
 sv:Addr
 rR:FuncData
 BL:Addr
 Bs:FuncData
 E3:Addr
 EJ:FuncData
 xN:Addr
 xt:FuncData
 OP:Addr
 ON:FuncData
 a_NOUGHT:Addr
 a_ONE:Addr
 t_MOST_STATES:Tok
 t_MOST_PUTS:Tok
 t_MOST_LOOKS:Tok
 a_System:Addr
structure Txt (K:W.Frag) (mg:Str->Option Value) (Z:Ads):Prop where
 qr:Df K mg "_law_bag" sX ["_law_script"] Z.An Z.Ab
 aX:Df K mg "_law_take" pX ["_law_bag_here","_law_many"] Z.xG Z.xl
 nk:Df K mg "_law_sizes" kN ["_law_bag_here"] Z.uZ Z.uL
 jD:Df K mg "_law_line" qg ["_law_bag_here","_law_n"] Z.xP Z.xv
 gA:Df K mg "_law_low" sU ["_law_top","_law_bottom"] Z.Ak Z.zY
 gi:Df K mg "_law_sum" sS ["_law_one","_law_other"] Z.Ai Z.zW
 jC:Df K mg "_law_plus" p0 ["_law_one","_law_other"] Z.xJ Z.xo
 fv:Df K mg "_law_prod" pZ ["_law_one","_law_other"] Z.xI Z.xn
 oP:Df K mg "_law_by" vM ["_law_by_here","_law_row_here"] Z.BR Z.BB
 j8:Df K mg "_law_mixed" ot ["_law_bag_here","_law_move_here","_law_put","_law_look"] Z.vb Z.uN
 jB:Df K mg "_law_two_lines" jR ["_law_bag_here"] Z.nR Z.nN
 lS:Df K mg "_law_number" mR ["_law_bag_here","_law_wide"] Z.sk Z.rO
 iq:Df K mg "_law_row" sT ["_law_bag_here","_law_many","_law_wide"] Z.Aj Z.zX
 oM:Df K mg "_law_move" p7 ["_law_bag_here","_law_n","_law_way","_law_first","_law_wide"] Z.xM Z.xr
 nv:Df K mg "_law_parts" oq ["_law_bag_here","_law_n","_law_ins","_law_outs","_law_wide"] Z.va Z.uM
 lQ:Df K mg "_law_system" mQ ["_law_bag_here"] Z.rZ Z.rN
 jz:Df K mg "want_list" pR ["thing","at","most"] Z.xA Z.xf
 mi:Df K mg "is_whole" sR ["thing"] Z.Ah Z.zV
 fu:Df K mg "common_divisor" jQ ["one","other"] Z.nQ Z.nM
 oH:Df K mg "is_number" pV ["thing"] Z.xE Z.xj
 vT:Df K mg "is_row" yR ["thing","many"] Z.EZ Z.EI
 ip:Df K mg "copied_rows" mP ["things","wide"] Z.rY Z.rM
 mB:Binds K Z.jG ["self","move","put","look"] []
 mF:My K "__init__" "System.__init__" d6 Z.jJ Z.jG
 ir:Df K mg "_law_copied" mU ["_law_grid"] Z.sH Z.rS
 oN:Df K mg "_law_made" qe ["_law_parts_here"] Z.xO Z.xu
 kF:Df K mg "_law_weights" lH ["_law_bag_here","_law_many","_law_begin"] Z.qK Z.qH
 ni:Df K mg "_law_steps" oo ["_law_bag_here","_law_parts_here"] Z.uY Z.uK
 oJ:Df K mg "_law_puts" pY ["_law_bag_here","_law_parts_here","_law_steps_here","_law_wide"] Z.xH Z.xm
 qq:Df K mg "_law_dot" sW ["_law_one","_law_other"] Z.Am Z.Aa
 tJ:Df K mg "_law_on" vL ["_law_grid","_law_row_here"] Z.BQ Z.BA
 oK:Df K mg "_law_next" p5 ["_law_parts_here","_law_state","_law_puts_here"] Z.xK Z.xp
 kr:Df K mg "_law_end" sV ["_law_parts_here","_law_start","_law_rows"] Z.Al Z.zZ
 jc:Df K mg "common_multiple" jv ["wholes"] Z.mC Z.mo
 dM:Df K mg "common_bottom" kC ["row"] Z.o9 Z.o7
 gE:Df K mg "tops_over" pS ["row","bottom"] Z.xB Z.xg
 jk:Df K mg "lowest" yP ["top","bottom"] Z.EX Z.EG
 il:Df K mg "row_dot" vF ["one","other"] Z.wD Z.v9
 jZ:Df K mg "grid_on" vJ ["grid","row"] Z.wF Z.we
 j7:Df K mg "moved_rows" og ["system","rows"] Z.uU Z.uG
 kS:Df K mg "additions" pW ["system","steps"] Z.xF Z.xk
 zF:Df K mg "minus" CB ["one","other"] Z.IM Z.IE
 oF:Df K mg "row_minus" pT ["one","other"] Z.xC Z.xh
 eU:Df K mg "grid_turned" mO ["grid","wide"] Z.rX Z.rL
 o6:Qw K Z.a_System "moved" Z.lX
 qJ:Binds K Z.lW ["self","state","puts"] []
 qP:My K "moved" "System.moved" fV Z.lX Z.lW
 vV:Df K mg "course" yT ["system","start","puts"] Z.E4 Z.EK
 iU:Df K mg "nought_row" oa ["many"] Z.uS Z.uF
 jA:Df K mg "nothing_for" mN ["system","steps"] Z.rW Z.rK
 oG:Df K mg "lacking" vI ["system","start","goal","steps"] Z.BO Z.Bv
 ng:Df K mg "first_with" oi ["lines","begin","place"] Z.uW Z.uI
 tI:Df K mg "cleared" vK ["lines","at","place","before"] Z.BP Z.By
 nh:Df K mg "brought_up" oj ["lines","at","to"] Z.uX Z.uJ
 ur:Df K mg "swept" Cz ["rows","wide"] Z.IK Z.IC
 qV:Df K mg "solved" yN ["rows","wide","due"] Z.EV Z.ED
 uu:Df K mg "solve" CA ["rows","wide","due"] Z.IL Z.ID
 oI:Df K mg "flat" FG ["lists"] Z.Mj Z.L6
 mZ:Df K mg "grid_times" oh ["one","other","wide"] Z.uV Z.uH
 vR:Df K mg "parted" yO ["one","other"] Z.EW Z.EE
 kR:Df K mg "parted_by" pU ["weights","row"] Z.xD Z.xi
 vS:Df K mg "led_to" yQ ["weights","lists","wide"] Z.EY Z.EH
 tG:Df K mg "reduced" vG ["rows","wide"] Z.BM Z.Bt
 lO:Df K mg "reach_grown" mM ["system","steps"] Z.rV Z.rJ
 lN:Df K mg "weights_for" mL ["rows","wide","row"] Z.rT Z.rH
 F0:Df K mg "cut" KJ ["row","many","wide"] Z.OQ Z.OO
 yg:Df K mg "come" FH ["system","start","goal","steps"] Z.Ml Z.L7
 tH:Df K mg "puts_at" vH ["price","weights","lists"] Z.BN Z.Bu
 zG:Df K mg "least" CC ["system","weights","start","goal","steps"] Z.IP Z.IF
 lU:Df K mg "_law_effort" mS ["_law_weights_here","_law_puts_here"] Z.so Z.rQ
 oO:Df K mg "_law_less" qh ["_law_one","_law_other"] Z.xQ Z.xx
 j9:Df K mg "_law_minus" ou ["_law_one","_law_other"] Z.vd Z.uO
 lV:Df K mg "_law_differ" mT ["_law_one","_law_other"] Z.sv Z.rR
 tE:Df K mg "squared" vE ["value"] Z.BL Z.Bs
 vU:Df K mg "effort" yS ["weights","puts"] Z.E3 Z.EJ
 iF:Df K mg "_law_more" p9 ["_law_weights_here","_law_told","_law_other"] Z.xN Z.xt
 OS:My K "law" "law" KI Z.OP Z.ON
 abs:mg "abs"=none
 len:mg "len"=none
 min:mg "min"=none
 int:mg "int"=none
 range:mg "range"=none
 isinstance:mg "isinstance"=none
 list:mg "list"=none
 bool:mg "bool"=none
 tuple:mg "tuple"=none
 all:mg "all"=none
 enumerate:mg "enumerate"=none
 max:mg "max"=none
 zip:mg "zip"=none
 sum:mg "sum"=none
 reversed:mg "reversed"=none
 mg_NOUGHT:mg "NOUGHT"=some (.ref Z.a_NOUGHT)
 sq_NOUGHT:∀H,sI K H Z.a_NOUGHT [.int 0,.int 1]
 mg_ONE:mg "ONE"=some (.ref Z.a_ONE)
 sq_ONE:∀H,sI K H Z.a_ONE [.int 1,.int 1]
 mg_MOST_STATES:mg "MOST_STATES"=some (.int 8 Z.t_MOST_STATES)
 mg_MOST_PUTS:mg "MOST_PUTS"=some (.int 4 Z.t_MOST_PUTS)
 mg_MOST_LOOKS:mg "MOST_LOOKS"=some (.int 4 Z.t_MOST_LOOKS)
 mg_System:mg "System"=some (.ref Z.a_System)
 cl_System:Kb K Z.a_System
 na_move:jK K Z.a_System "move"
 na_states:jK K Z.a_System "states"
 na_put:jK K Z.a_System "put"
 na_ins:jK K Z.a_System "ins"
 na_look:jK K Z.a_System "look"
 na_outs:jK K Z.a_System "outs"
 mk_System:Mk K Z.a_System Z.jJ
section
variable {P:Program} {w:World} {K:W.Frag} {mg:Str->Option Value} {base:Heap} {Z:Ads}
theorem D7:a9 ["_law_script"] ["_law_script"] (aL sX):=by walk_at "d"
theorem Eo (T:Txt K mg Z) (ptree:P.given.tree=none):cN P w K mg base fX 1 Z.An Z.Ab ["_law_script"] (KC K):=by
 refine T.qr.F.ok D7 (λvs H Q E h=>?_) (λcdv A outer s H vs Q E hr h=>?_)
 ·obtain ⟨a,ns,rfl,_⟩:=h;rfl
 ·obtain ⟨a,ns,rfl,hS,hlen,k⟩:=h;refine ⟨_,(aF (a8 (dJ (ae ak (ae ak (ae ak (ae (b9 ["_law_cell"] [] [] (cP (yZ Cn (pv 0) HV (yf ak))) (λ_=>(aS (i:=0) (show ND9 ["_law_cell"] by decide +kernel))) (λ_=>cB) (λ_=>(bP uQ (by rfl) T.abs PyProof.Rows.boot_abs (ae (pv 0) aj)))) aj))))))),?_⟩;refine aU (σ:=[some (.ref a)]) rfl ?_;exists ⟨a,_,rfl,hS,λl hl=>?_⟩;have hcl:(rj (ns.map V.int) none (some 63)).length<=63:=ag (xy _ _ _) (by simpa using hlen);refine ⟨l,rfl,⟨_,bO.of aM⟩,?_⟩;refine gO (K:=K) (a:=l) (xs:=rj (ns.map V.int) none (some 63)) (λi ys H'=>H'=upd H l (.lst (rj (ns.map V.int) none (some 63)))/\∃cs:List Int,ys=cs.map V.int/\∀x∈cs,0<=x) (ag hcl (by decide)) ⟨rfl,[],rfl,λ_ z=>nomatch z⟩ (λi ys H' _ ⟨e,_⟩=>by subst e;exact bO.of aM) ?_ ?_
  ·rintro i x ys H' hx hi ⟨rfl,cs,rfl,hcs⟩
   obtain ⟨z,rfl⟩:∃z,x=V.int z:=by
    have hm:x∈ns.map V.int:=List.mem_of_mem_drop (bR (av hx));obtain ⟨z,_,e⟩:=aB.mp hm;exact ⟨z,e.symm⟩
   exists ⟨rfl,cs++[if z < 0 then -z else z],by simp,λx hx=>?_⟩;rcases aG.mp hx with hx | hx
   ·exact hcs x hx
   ·have e:x=if z < 0 then -z else z:=by simpa using hx
    subst e
    split <;> lia
  ·rintro ys H' hy ⟨rfl,cs,rfl,hcs⟩ p hp;exists ⟨by show 4<=sizeLine;decide,λb hb=>?_⟩;have n1:b≠p:=λz=>by rw[z,aM] at hb;cases hb
   have hb1:(upd H l (.lst (rj (ns.map V.int) none (some 63)))) b=none:=by rw[bE n1] at hb;exact hb
   have s1:aK H (upd H l (.lst (rj (ns.map V.int) none (some 63)))):=aK.new hl;refine k b _ (s1.free hb1) ⟨p,0,1234567891,0,cs,aM,by rw[bE n1.symm];exact aM,by decide,by decide,by lia,hcs⟩ ((s1.trans (aK.new hp)).trans (aK.new hb))
theorem eF:a9 ["_law_bag_here","_law_many","_law_more_here","_law_cell","_law_value","_law_first","_law_second"] ["_law_bag_here","_law_many"] (aL pX):=by walk_at "d"
theorem dY (T:Txt K mg Z) (ptree:P.given.tree=none):cN P w K mg base fX 1 Z.xG Z.xl ["_law_bag_here","_law_many"] ML:=by
 refine T.aX.F.ok eF (λvs H Q E h=>?_) (λcdv A outer s H vs Q E hr h=>?_)
 ·obtain ⟨p,n,rfl,_⟩:=h;rfl
 ·obtain ⟨p,n,rfl,⟨q,a,b,c,cs,hp,hq,ha,hc,hcl,hcs⟩,hn,hn2,k⟩:=h;have nqp:q≠p:=JU hp hq
  refine ⟨_,(jg (di (bD eS (a7 bQ (pv 0) ak) ak (bJ _)) (au (aZ (i:=2) eF.nd rfl (Or.inl rfl) ak)
   (jg (di (bD rD (a7 bQ (pv 0) ak) (bP bu (by rfl) T.len bf (ae (a7 bQ (pv 0) ak) aj)) (bJ _)) (au (aZ (i:=3) eF.nd rfl (Or.inl rfl) (a7 bQ (a7 bQ (pv 0) ak) (a7 bQ (pv 0) ak)))
   (au (Nz (pv 0) ak LI ak Qd set_list)
   (au (di (bD Bm (pv 3) ak (bJ _)) (aF (fF (pv 3) (ig (pv 0) ak set_list))) cp)
   (aF (aZ (i:=2) eF.nd rfl (Or.inl rfl) (bC eT (bC mW (pv 3) ak) ak)))))) cp)
   (aF (fF (bC mW (bC eT (bC cV (a7 bQ (pv 0) ak) ak) (pv 2)) ak) (ig (pv 0) ak set_list))))) cp)
   (au (di (bD wY (a7 bQ (pv 0) ak) ak (bJ _)) (au (aZ (i:=4) eF.nd rfl (Or.inl rfl) (bC mW (a7 bQ (pv 0) ak) (pv 1)))
   (au (fF (bC (ij rfl eF rfl rfl rfl ptree (qF hr)) (a7 bQ (pv 0) ak) (pv 1)) (ig (pv 0) ak set_list))
   (aF (a8 (pv 4))))) cp)
   (au (aZ (i:=5) eF.nd rfl (Or.inl rfl) (bC mW (bC cV (a7 bQ (pv 0) ak) ak) ak))
   (au (aZ (i:=6) eF.nd rfl (Or.inl rfl) (bC mW (bC cV (pv 5) ak) ak))
   (au (di (bD wY (pv 1) ak (bJ _)) (aF (a8 (bC mW (bC eT (bC cV (pv 6) ak) (pv 5)) (pv 1)))) cp)
   (aF (a8 (bC mW (bC (ij rfl eF rfl rfl rfl ptree (qF hr)) (pv 6) ak) (pv 1))))))))),?_⟩
  refine aU (σ:=[some (.ref p),some (.int n),none,none,none,none,none]) rfl ?_;refine ⟨λσ' H'=>∃(x y:Option V) (a' b' c':Int),σ'=[some (.ref p),some (.int n),x,y,none,none,none]/\H' p=some (.lst [.int a',.int b',.int c',.ref q])/\0<=a'/\0<=c'/\c'<=cs.length/\cZ p H H',?_,?_⟩
  ·exists iG (λh0=>?_) (λh0=>?_)
   ·exists ⟨λσ' H'=>∃(m:Int) (y:Option V) (a' c':Int),σ'=[some (.ref p),some (.int n),some (.int m),y,none,none,none]/\H' p=some (.lst [.int a',.int b,.int c',.ref q])/\0<=a'/\0<=c'/\c'<=cs.length/\cZ p H H',?_,?_⟩
    ·exists ⟨_,_,rfl,.inl (bO.of hq),?_⟩;exists iG (λh1=>?_) (λh1=>?_)
     ·have h1':c < cs.length:=by simpa using of_decide_eq_true h1
      obtain ⟨z,hz⟩:∃z,cs[c.toNat]?=some z:=⟨_,af (by lia)⟩;have hz0:0<=z:=hcs z (av hz);exists cx (bO.of hq) (v:=.int z) ?_ ?_
      ·have:=eJ (xs:=cs.map V.int) (j:=c.toNat) (v:=.int z) (by rw[aH,hz];rfl);rwa [Int.toNat_of_nonneg hc] at this
      exists iG (λh2=>?_) (λh2=>?_)
      ·exists ⟨_,_,z,c+1,rfl,aM,hz0,by lia,by lia,(cZ.set hp).trans (cZ.set aM)⟩
      ·exists ⟨_,_,a,c+1,rfl,aM,ha,by lia,by lia,cZ.set hp⟩
     ·exists ⟨_,_,a,c,rfl,hp,ha,hc,hcl,cZ.refl _⟩
    ·rintro σ' H' ⟨m,y,a',c',rfl,hp',ha',hc',hcl',u'⟩;exists ⟨_,_,a',_,c',rfl,aM,ha',hc',hcl',u'.trans (cZ.set hp')⟩
   ·exists ⟨_,_,a,b,c,rfl,hp,ha,hc,hcl,cZ.refl _⟩
  ·rintro σ' H' ⟨x,y,a',b',c',rfl,hp',ha',hc',hcl',u'⟩;have hq':H' q=some (.lst (cs.map V.int)):=u'.1 q _ hq nqp
   have sn:Sz 449950 n:=by
    show n.natAbs < 2^449950
    exact bp (show n.natAbs < 2^64 by lia) (ar (by decide) (by decide))
   exists iG (λh0=>?_) (λh0=>?_)
   ·exists fj (show (0:Int) < n from hn) ?_;exists fj (show mG _ _ from ⟨by lia,sn⟩) ?_;exists k _ _ (kX _ (by lia)) (ja _ hn) ⟨q,_,b',c',cs,aM,by rw[bE nqp];exact hq',?_,hc',hcl',hcs⟩ (u'.trans (cZ.set hp'));rw[b7 _ (by lia)];exact Int.ediv_nonneg ha' (by lia)
   ·exists iG (λh1=>?_) (λh1=>?_)
    ·exists fj (show (0:Int) < n from hn) ?_;exact k _ _ (kX _ (by lia)) (ja _ hn) ⟨q,a',b',c',cs,hp',hq',ha',hc',hcl',hcs⟩ u'
    ·exists fj (show mG _ _ from ⟨by decide,by show (3:Nat) < 2^449950;exact bp (show 3 < 2^2 by decide) (ar (by decide) (by decide))⟩) ?_;exists fj (show (0:Int) < n from hn) ?_;exact k _ _ (kX _ (by lia)) (ja _ hn) ⟨q,a',b',c',cs,hp',hq',ha',hc',hcl',hcs⟩ u'
theorem AK:∃x1 x2 x3 x4 x5 x6 x7 x8 x9 x10 x11 x12 x13 x14 x15 x16:Expr,x1=(Expr.Constant (Const.int 0) 0 ⟨337,16,337,17⟩)/\x2=(Expr.Constant (Const.int 1) 0 ⟨337,19,337,20⟩)/\x3=(Expr.Constant (Const.int 1) 0 ⟨337,22,337,23⟩)/\x4=(Expr.Constant (Const.int 1) 0 ⟨337,25,337,26⟩)/\x5=(Expr.Constant (Const.int 2) 0 ⟨337,28,337,29⟩)/\x6=(Expr.Constant (Const.int 2) 0 ⟨337,31,337,32⟩)/\x7=(Expr.Constant (Const.int 3) 0 ⟨337,34,337,35⟩)/\x8=(Expr.Constant (Const.int 4) 0 ⟨337,37,337,38⟩)/\x9=(Expr.Constant (Const.int 0) 0 ⟨338,17,338,18⟩)/\x10=(Expr.Constant (Const.int 1) 0 ⟨338,20,338,21⟩)/\x11=(Expr.Constant (Const.int 1) 0 ⟨338,23,338,24⟩)/\x12=(Expr.Constant (Const.int 1) 0 ⟨338,26,338,27⟩)/\x13=(Expr.Constant (Const.int 2) 0 ⟨338,29,338,30⟩)/\x14=(Expr.Constant (Const.int 2) 0 ⟨338,32,338,33⟩)/\x15=(Expr.Constant (Const.int 3) 0 ⟨338,35,338,36⟩)/\x16=(Expr.Constant (Const.int 4) 0 ⟨338,38,338,39⟩)/\jF kN=[ (Stmt.Assign (targets:=[(Expr.Name "_law_n" ⟨334,4,334,10⟩)]) (value:=(Expr.Call (func:=(Expr.Name "_law_take" ⟨334,13,334,22⟩)) (args:=[ (Expr.Name "_law_bag_here" ⟨334,23,334,36⟩),(Expr.Constant (Const.int 5) 0 ⟨334,38,334,39⟩)]) (keywords:=[]) (pos:=⟨334,13,334,40⟩))) (pos:=⟨334,4,334,40⟩)),(Stmt.If (test:=(Expr.Compare (left:=(Expr.Call (func:=(Expr.Name "_law_take" ⟨335,7,335,16⟩)) (args:=[ (Expr.Name "_law_bag_here" ⟨335,17,335,30⟩),(Expr.Constant (Const.int 8) 0 ⟨335,32,335,33⟩)]) (keywords:=[]) (pos:=⟨335,7,335,34⟩))) (ops:=[PySem.CmpOp.Eq]) (comparators:=[(Expr.Constant (Const.int 7) 0 ⟨335,38,335,39⟩)]) (pos:=⟨335,7,335,39⟩))) (body:=[ (Stmt.Assign (targets:=[(Expr.Name "_law_n" ⟨336,8,336,14⟩)]) (value:=(Expr.Constant (Const.int 5) 0 ⟨336,17,336,18⟩)) (pos:=⟨336,8,336,18⟩))]) (orelse:=[]) (pos:=⟨335,4,336,18⟩)),(Stmt.Assign (targets:=[(Expr.Name "_law_ins" ⟨337,4,337,12⟩)]) (value:=(Expr.Subscript (value:=(Expr.List (elts:=[x1,x2,x3,x4,x5,x6,x7,x8]) (pos:=⟨337,15,337,39⟩))) (slice:=(Expr.Call (func:=(Expr.Name "_law_take" ⟨337,40,337,49⟩)) (args:=[ (Expr.Name "_law_bag_here" ⟨337,50,337,63⟩),(Expr.Constant (Const.int 8) 0 ⟨337,65,337,66⟩)]) (keywords:=[]) (pos:=⟨337,40,337,67⟩))) (pos:=⟨337,15,337,68⟩))) (pos:=⟨337,4,337,68⟩)),(Stmt.Assign (targets:=[(Expr.Name "_law_outs" ⟨338,4,338,13⟩)]) (value:=(Expr.Subscript (value:=(Expr.List (elts:=[x9,x10,x11,x12,x13,x14,x15,x16]) (pos:=⟨338,16,338,40⟩))) (slice:=(Expr.Call (func:=(Expr.Name "_law_take" ⟨338,41,338,50⟩)) (args:=[ (Expr.Name "_law_bag_here" ⟨338,51,338,64⟩),(Expr.Constant (Const.int 8) 0 ⟨338,66,338,67⟩)]) (keywords:=[]) (pos:=⟨338,41,338,68⟩))) (pos:=⟨338,16,338,69⟩))) (pos:=⟨338,4,338,69⟩)),(Stmt.If (test:=(Expr.Compare (left:=(Expr.Name "_law_n" ⟨339,7,339,13⟩)) (ops:=[PySem.CmpOp.Eq]) (comparators:=[(Expr.Constant (Const.int 5) 0 ⟨339,17,339,18⟩)]) (pos:=⟨339,7,339,18⟩))) (body:=[ (Stmt.Assign (targets:=[ (Expr.Tuple (elts:=[(Expr.Name "_law_ins" ⟨340,8,340,16⟩),(Expr.Name "_law_outs" ⟨340,18,340,27⟩)]) (k:=0) (pos:=⟨340,8,340,27⟩))]) (value:=(Expr.Tuple (elts:=[ (Expr.Call (func:=(Expr.Name "min" ⟨340,31,340,34⟩)) (args:=[ (Expr.Name "_law_ins" ⟨340,35,340,43⟩),(Expr.Constant (Const.int 2) 0 ⟨340,45,340,46⟩)]) (keywords:=[]) (pos:=⟨340,31,340,47⟩)),(Expr.Call (func:=(Expr.Name "min" ⟨340,49,340,52⟩)) (args:=[ (Expr.Name "_law_outs" ⟨340,53,340,62⟩),(Expr.Constant (Const.int 2) 0 ⟨340,64,340,65⟩)]) (keywords:=[]) (pos:=⟨340,49,340,66⟩))]) (k:=0) (pos:=⟨340,30,340,67⟩))) (pos:=⟨340,8,340,67⟩))]) (orelse:=[]) (pos:=⟨339,4,340,67⟩)),(Stmt.Assign (targets:=[(Expr.Name "_law_wide" ⟨341,4,341,13⟩)]) (value:=(Expr.Subscript (value:=(Expr.List (elts:=[ (Expr.Constant (Const.int 4) 0 ⟨341,17,341,18⟩),(Expr.Constant (Const.int 4) 0 ⟨341,20,341,21⟩),(Expr.Constant (Const.int 9) 0 ⟨341,23,341,24⟩),(Expr.Constant (Const.int 1000000) 0 ⟨341,26,341,33⟩)]) (pos:=⟨341,16,341,34⟩))) (slice:=(Expr.Call (func:=(Expr.Name "_law_take" ⟨341,35,341,44⟩)) (args:=[ (Expr.Name "_law_bag_here" ⟨341,45,341,58⟩),(Expr.Constant (Const.int 4) 0 ⟨341,60,341,61⟩)]) (keywords:=[]) (pos:=⟨341,35,341,62⟩))) (pos:=⟨341,16,341,63⟩))) (pos:=⟨341,4,341,63⟩)),(Stmt.If (test:=(Expr.Compare (left:=(Expr.Name "_law_wide" ⟨342,7,342,16⟩)) (ops:=[PySem.CmpOp.Gt]) (comparators:=[(Expr.Constant (Const.int 9) 0 ⟨342,19,342,20⟩)]) (pos:=⟨342,7,342,20⟩))) (body:=[ (Stmt.Assign (targets:=[(Expr.Name "_law_n" ⟨343,8,343,14⟩)]) (value:=(Expr.Call (func:=(Expr.Name "min" ⟨343,17,343,20⟩)) (args:=[ (Expr.Name "_law_n" ⟨343,21,343,27⟩),(Expr.Constant (Const.int 2) 0 ⟨343,29,343,30⟩)]) (keywords:=[]) (pos:=⟨343,17,343,31⟩))) (pos:=⟨343,8,343,31⟩))]) (orelse:=[]) (pos:=⟨342,4,343,31⟩)),(Stmt.Return (value:=(some (Expr.Tuple (elts:=[ (Expr.Name "_law_n" ⟨344,12,344,18⟩),(Expr.Name "_law_ins" ⟨344,20,344,28⟩),(Expr.Name "_law_outs" ⟨344,30,344,39⟩),(Expr.Name "_law_wide" ⟨344,41,344,50⟩)]) (k:=0) (pos:=⟨344,11,344,51⟩)))) (pos:=⟨344,4,344,51⟩))]:=⟨_,_,_,_,_,_,_,_,_,_,_,_,_,_,_,_,rfl,rfl,rfl,rfl,rfl,rfl,rfl,rfl,rfl,rfl,rfl,rfl,rfl,rfl,rfl,rfl,by with_unfolding_all rfl⟩
theorem eN:a9 ["_law_bag_here","_law_n","_law_ins","_law_outs","_law_wide"] ["_law_bag_here"] (aL kN):=by walk_at "d"
theorem AH (T:Txt K mg Z) (ptree:P.given.tree=none):cN P w K mg base fX 2 Z.uZ Z.uL ["_law_bag_here"] Jf:=by
 have aV:=dY (P:=P) (w:=w) (base:=base) T ptree;refine T.nk.F.ok eN (λvs H Q E h=>?_) (λcdv A outer s H vs Q E hr h=>?_)
 ·obtain ⟨b,rfl,_⟩:=h;rfl
 ·obtain ⟨b,rfl,hB,k⟩:=h;obtain ⟨x1,x2,x3,x4,x5,x6,x7,x8,x9,x10,x11,x12,x13,x14,x15,x16,hx1,hx2,hx3,hx4,hx5,hx6,hx7,hx8,hx9,hx10,hx11,hx12,hx13,hx14,hx15,hx16,hbd⟩:=AK;rw[hbd]
  refine ⟨_,(au (aZ (i:=1) eN.nd rfl (Or.inl rfl) (cG aV hr T.aX (ae (pv 0) (ae ak aj))))
   (jg (di (bD eS (cG aV hr T.aX (ae (pv 0) (ae ak aj))) ak (bJ _)) (aF (aZ (i:=1) eN.nd rfl (Or.inl rfl) ak)) cp)
   (au (aZ (i:=2) eN.nd rfl (Or.inl rfl) (a7 bQ (dJ (eh hx1 ak (eh hx2 ak (eh hx3 ak (eh hx4 ak (eh hx5 ak (eh hx6 ak (eh hx7 ak (eh hx8 ak aj))))))))) (cG aV hr T.aX (ae (pv 0) (ae ak aj)))))
   (au (aZ (i:=3) eN.nd rfl (Or.inl rfl) (a7 bQ (dJ (eh hx9 ak (eh hx10 ak (eh hx11 ak (eh hx12 ak (eh hx13 ak (eh hx14 ak (eh hx15 ak (eh hx16 ak aj))))))))) (cG aV hr T.aX (ae (pv 0) (ae ak aj)))))
   (jg (di (bD eS (pv 1) ak (bJ _)) (aF (K6 (i:=2) (j:=3) rfl eN.nd rfl rfl (by decide) rfl rfl (ae (bP (rg rfl) (by rfl) T.min PyProof.Rows.boot_min (ae (pv 2) (ae ak aj))) (ae (bP (rg rfl) (by rfl) T.min PyProof.Rows.boot_min (ae (pv 3) (ae ak aj))) aj)) rfl)) cp)
   (au (aZ (i:=4) eN.nd rfl (Or.inl rfl) (a7 bQ (dJ (ae ak (ae ak (ae ak (ae ak aj))))) (cG aV hr T.aX (ae (pv 0) (ae ak aj)))))
   (jg (di (bD wY (pv 4) ak (bJ _)) (aF (aZ (i:=1) eN.nd rfl (Or.inl rfl) (bP (rg rfl) (by rfl) T.min PyProof.Rows.boot_min (ae (pv 1) (ae ak aj))))) cp)
   (aF (a8 (c6 (ae (pv 1) (ae (pv 2) (ae (pv 3) (ae (pv 4) aj)))))))))))))),?_⟩
  refine aU (σ:=[some (.ref b),none,none,none,none]) rfl ?_;exists ⟨b,5,rfl,hB,by decide,by decide,λn H1 n0 n1 B1 u1=>?_⟩;obtain ⟨n,rfl⟩:=cQ n0;exists ⟨λσ' H'=>(∃n:Nat,σ'=[some (.ref b),some (.int n),none,none,none]/\n<=5)/\hZ H' b/\cZ b H H',?_,?_⟩
  ·exists ⟨b,8,rfl,B1,by decide,by decide,λv H2 v0 v1 B2 u2=>?_⟩;exists iG (λ_=>?_) (λ_=>?_)
   ·exists ⟨⟨5,rfl,by decide⟩,B2,u1.trans u2⟩
   ·exists ⟨⟨n,rfl,by lia⟩,B2,u1.trans u2⟩
  clear n0 n1 u1 B1;rintro σ' H1 ⟨⟨n,rfl,n5⟩,B1,u1⟩;exists dy λl0 H2 s2 n2 g2=>?_
  exists ⟨b,8,rfl,B1.same s2,by decide,by decide,λv H3 v0 v1 B3 u3=>?_⟩;have g3:=u3.other (λz=>B1.at (by rw[<- z];exact n2)) g2;obtain ⟨x,ex,mx,_⟩:=jH (xs:=[V.int 0,V.int 1,V.int 1,V.int 1,V.int 2,V.int 2,V.int 3,V.int 4]) v0 (by simpa using v1)
  obtain ⟨i,rfl,hi⟩:∃z:Nat,x=.int z/\z<=4:=by
   simp only[aI,ba,or_false] at mx;rcases mx with rfl | rfl | rfl | rfl | rfl | rfl | rfl | rfl
   ·exact ⟨0,rfl,by decide⟩
   ·exact ⟨1,rfl,by decide⟩
   ·exact ⟨1,rfl,by decide⟩
   ·exact ⟨1,rfl,by decide⟩
   ·exact ⟨2,rfl,by decide⟩
   ·exact ⟨2,rfl,by decide⟩
   ·exact ⟨3,rfl,by decide⟩
   ·exact ⟨4,rfl,by decide⟩
  exists cx (bO.of g3) ex ?_;clear ex mx g3 g2;exists dy λl1 H4 s4 n4 g4=>?_
  exists ⟨b,8,rfl,B3.same s4,by decide,by decide,λt H5 t0 t1 B5 u5=>?_⟩;have g5:=u5.other (λz=>B3.at (by rw[<- z];exact n4)) g4;obtain ⟨x,ex,mx,_⟩:=jH (xs:=[V.int 0,V.int 1,V.int 1,V.int 1,V.int 2,V.int 2,V.int 3,V.int 4]) t0 (by simpa using t1)
  obtain ⟨o,rfl,ho⟩:∃z:Nat,x=.int z/\z<=4:=by
   simp only[aI,ba,or_false] at mx;rcases mx with rfl | rfl | rfl | rfl | rfl | rfl | rfl | rfl
   ·exact ⟨0,rfl,by decide⟩
   ·exact ⟨1,rfl,by decide⟩
   ·exact ⟨1,rfl,by decide⟩
   ·exact ⟨1,rfl,by decide⟩
   ·exact ⟨2,rfl,by decide⟩
   ·exact ⟨2,rfl,by decide⟩
   ·exact ⟨3,rfl,by decide⟩
   ·exact ⟨4,rfl,by decide⟩
  exists cx (bO.of g5) ex ?_;clear ex mx g5 g4;have u15:=(((u1.same s2).trans u3).same s4).trans u5;exists ⟨λσ' H'=>(∃i o:Nat,σ'=[some (.ref b),some (.int n),some (.int i),some (.int o),none]/\i<=4/\o<=4/\(n=5->i<=2/\o<=2))/\hZ H' b/\cZ b H H',?_,?_⟩
  ·exists iG (λh0=>?_) (λh0=>?_)
   ·exists ⟨⟨min i 2,min o 2,?_,by lia,by lia,λ_=>⟨by lia,by lia⟩⟩,B5,u15⟩;have e1:(if (2:Int) < (i:Int) then (2:Int) else (i:Int))=((min i 2:Nat):Int):=by split <;> lia
    have e2:(if (2:Int) < (o:Int) then (2:Int) else (o:Int))=((min o 2:Nat):Int):=by split <;> lia
    rw[<- e1,<- e2];rfl
   ·exists ⟨⟨i,o,rfl,hi,ho,λz=>absurd (decide_eq_true (show (n:Int)=5 by lia)) h0⟩,B5,u15⟩
  clear hi ho u15 B5 u5 u3 u1;rintro σ' H5 ⟨⟨i,o,rfl,hi,ho,h5⟩,B5,u5⟩;exists dy λl2 H6 s6 n6 g6=>?_
  exists ⟨b,4,rfl,B5.same s6,by decide,by decide,λv H7 v0 v1 B7 u7=>?_⟩;have g7:=u7.other (λz=>B5.at (by rw[<- z];exact n6)) g6;obtain ⟨x,ex,mx,_⟩:=jH (xs:=[V.int 4,V.int 4,V.int 9,V.int 1000000]) v0 (by simpa using v1)
  obtain ⟨w,rfl,hw⟩:∃w:Nat,x=.int w/\(w=4\/w=9\/w=1000000):=by
   simp only[aI,ba,or_false] at mx;rcases mx with rfl | rfl | rfl | rfl
   ·exact ⟨4,rfl,.inl rfl⟩
   ·exact ⟨4,rfl,.inl rfl⟩
   ·exact ⟨9,rfl,.inr (.inl rfl)⟩
   ·exact ⟨1000000,rfl,.inr (.inr rfl)⟩
  exists cx (bO.of g7) ex ?_;have u07:=(u5.same s6).trans u7;exists ⟨λσ' H'=>(∃n:Nat,σ'=[some (.ref b),some (.int n),some (.int i),some (.int o),some (.int w)]/\n<=5/\(w=4\/w=9\/(w=1000000/\n<=2))/\(n=5->i<=2/\o<=2))/\hZ H' b/\cZ b H H',?_,?_⟩
  ·exists iG (λh0=>?_) (λh0=>?_)
   ·exists ⟨⟨min n 2,?_,by lia,by lia,λz=>by lia⟩,B7,u07⟩;have e1:(if (2:Int) < (n:Int) then (2:Int) else (n:Int))=((min n 2:Nat):Int):=by split <;> lia
    rw[<- e1];rfl
   ·exists ⟨⟨n,rfl,n5,?_,h5⟩,B7,u07⟩;rcases hw with z | z | z
    ·exact .inl z
    ·exact .inr (.inl z)
    ·exact absurd (decide_eq_true (show (9:Int) < (w:Int) by lia)) h0
  ·clear h5 n5;rintro σ' H8 ⟨⟨n',rfl,n5,hwn,h5⟩,B8,u8⟩;exists cA λr H9 s9 g9=>?_
   exact k r n' i o w H9 g9 n5 hi ho hwn h5 (B8.same s9) (u8.same s9)
theorem iD:a9 ["_law_bag_here","_law_n","_law_move_here","_law_at","_law_put","_law_first","_law_look"] ["_law_bag_here","_law_n"] (aL qg):=by walk_at "d"
theorem uq (T:Txt K mg Z) (ptree:P.given.tree=none):cN P w K mg base fX 2 Z.xP Z.xv ["_law_bag_here","_law_n"] (DT K):=by
 have aV:=dY (P:=P) (w:=w) (base:=base) T ptree;refine T.jD.F.ok iD (λvs H Q E h=>?_) (λcdv A outer s H vs Q E hr h=>?_)
 ·obtain ⟨b,n,rfl,_⟩:=h;rfl
 ·obtain ⟨b,n,rfl,hB,n1,n8,k⟩:=h
  refine ⟨_,(au (qS 2 ["_law_i"] ["_law_n"] [1] iD.nd rfl rfl (cy rfl T.range (ae (pv 1) aj)) (λ_=>(aS (i:=0) (show ND9 ["_law_i","_law_n"] by decide +kernel) rfl (Or.inr rfl) (Or.inl rfl))) (λ_=>cB) (λ_=>(b9 ["_law_j"] ["_law_i"] [0] (cy rfl T.range (ae (pv 1) aj)) (λ_=>(aS (i:=0) (show ND9 ["_law_j","_law_i"] by decide +kernel))) (λ_=>cB) (λ_=>(c6 (ae (gN nP (by rfl) T.int PyProof.Rows.boot_int (ae (j6 eS (pv 0) (bC eT (pv 1) ak) (bJ _)) aj)) (ae ak aj)))))))
   (au (fF (b9 ["_law_j"] ["_law_bag_here"] [0] (cy rfl T.range (ae (pv 1) aj)) (λ_=>(aS (i:=0) (show ND9 ["_law_j","_law_bag_here"] by decide +kernel))) (λ_=>cB) (λ_=>(c6 (ae (bC jW (cG aV hr T.aX (ae (pv 1) (ae ak aj))) ak) (ae ak aj))))) (ig (pv 2) (bC jW (pv 1) ak) set_list))
   (au (aZ (i:=3) iD.nd rfl (Or.inr rfl) (a7 bQ (dJ (ae (bC jW (pv 1) ak) (ae (cG aV hr T.aX (ae (pv 0) (ae (pv 1) aj))) aj))) (cG aV hr T.aX (ae (pv 0) (ae ak aj)))))
   (au (aZ (i:=4) iD.nd rfl (Or.inl rfl) (dJ (ae (b9 ["_law_j"] ["_law_at"] [3] (cy rfl T.range (ae (pv 1) aj)) (λ_=>(aS (i:=0) (show ND9 ["_law_j","_law_at"] by decide +kernel))) (λ_=>cB) (λ_=>(c6 (ae (gN nP (by rfl) T.int PyProof.Rows.boot_int (ae (j6 eS (pv 0) (pv 1) (bJ _)) aj)) (ae ak aj))))) aj)))
   (au (aZ (i:=5) iD.nd rfl (Or.inr rfl) (a7 bQ (dJ (ae ak (ae ak (ae (cG aV hr T.aX (ae (pv 0) (ae (pv 1) aj))) aj)))) (cG aV hr T.aX (ae (pv 0) (ae ak aj)))))
   (au (aZ (i:=6) iD.nd rfl (Or.inl rfl) (dJ (ae (b9 ["_law_j"] ["_law_first"] [5] (cy rfl T.range (ae (pv 1) aj)) (λ_=>(aS (i:=0) (show ND9 ["_law_j","_law_first"] by decide +kernel))) (λ_=>cB) (λ_=>(c6 (ae (gN nP (by rfl) T.int PyProof.Rows.boot_int (ae (j6 eS (pv 0) (pv 1) (bJ _)) aj)) (ae ak aj))))) aj)))
   (aF (a8 (c6 (ae (pv 2) (ae (pv 4) (ae (pv 6) aj)))))))))))),?_⟩
  refine aU (σ:=[some (.ref b),some (.int n),none,none,none,none,none]) rfl ?_
  have bit:∀{z:Int},∀y∈(List.range n).map (λ(j:Nat)=>(((if decide ((j:Int)=z)=true then 1 else 0:Int)):Rat)),Fr 1 1 y:=λy hy=>by
   obtain ⟨j,_,rfl⟩:=aB.mp hy;exact Q7 (by split <;> simp)
  exists ⟨by lia,by lia,?_⟩;refine fk (n:=n) (dm K H) (λ(i:Nat)=>(List.range n).map λ(j:Nat)=>(((if decide ((j:Int)=(i:Int)+1)=true then 1 else 0:Int)):Rat)) (by lia) (λa b=>a.same b) ?_ ?_
  ·rintro i Hb NY NN hi sa k1;exists ⟨by lia,by lia,?_⟩;refine fk (n:=n) (bV K) (λ(j:Nat)=>(((if decide ((j:Int)=(i:Int)+1)=true then 1 else 0:Int)):Rat)) (by lia) (λa b=>a.same b) ?_ ?_
   ·rintro j Hz NY2 NN2 hj sz k2;exists cA λt Hy sy gy=>?_
    exact k2 _ _ sy (bV.mk gy rfl)
   ·rintro ys Hz t ht sz g pr nx;exact k1 _ _ sz ⟨t,rfl,sa.none ht,ys,g,pr⟩
  rintro ys H1 mm hm s1 g1 pr1 nx1;have G1:bH K H H1 mm ((List.range n).map λ(i:Nat)=>(List.range n).map λ(j:Nat)=>(((if decide ((j:Int)=(i:Int)+1)=true then 1 else 0:Int)):Rat)):=⟨ys,g1,pr1,jy nx1⟩;clear g1 pr1 nx1;have B1:=hB.same s1;have mb:mm≠b:=λz=>hB.at (by rw[<- z];exact hm)
  obtain ⟨q0,I0,xq,gq0⟩:=hB.inner;have mq:mm≠q0:=λz=>by rw[<- z,hm] at gq0;cases gq0
  exists ⟨by lia,by lia,?_⟩;refine wo (n:=n) (b:=b) (bV K) (Fr 1 1) B1 (by lia) (λa u B=>a.upto u B) ?_ ?_
  ·rintro j Ha NY NN hj ua Ba k1;exists ⟨b,3,rfl,Ba,by decide,by decide,λv Hb v0 v1 Bb ub=>?_⟩;exists cA λt Hc sc gc=>?_
   exact k1 _ ((v - 1:Int):Rat) _ (ub.same sc) (Bb.same sc) (Fr.int (by lia)) (bV.mk gc rfl)
  rintro ys2 cs H2 q2 hq2 u2 B2 g2 lc hc pr2 _;have u02:=(s1.upto (p:=b)).trans u2;have nq2:H q2=none:=s1.none hq2;obtain ⟨us,gu,pu⟩:=(G1.upto u2 B1 mb hB.at).toE;have lu:=pu.length;rw[ai,bw] at lu
  have q2m:q2≠mm:=λz=>by
   obtain ⟨_,gg,_⟩:=id G1;rw[z,gg] at hq2;cases hq2
  walk_at "w";rw[show ((n:Int) - 1)=((n - 1:Nat):Int) by lia];refine ft gu (fO (by lia)) rfl ?_;have G3:bH K H (upd H2 mm (.lst (us.set (n - 1) (.ref q2)))) mm (((List.range n).map λ(i:Nat)=>(List.range n).map λ(j:Nat)=>(((if decide ((j:Int)=(i:Int)+1)=true then 1 else 0:Int)):Rat)).set (n - 1) cs):=bH.ofE aM (jT (Paired.imp' (λ_ _ z=>JV.updL z gu (λq h=>h.2)) pu) (n - 1) ⟨q2,rfl,⟨nq2,q2m⟩,cL.updL ⟨ys2,g2,pr2⟩ gu q2m⟩) (λq h=>h.1) (λq h=>h.2);have B3:hZ (upd H2 mm (.lst (us.set (n - 1) (.ref q2)))) b:=B2.upd (u02.2 _ I0) mb mq;have u03:cZ b H (upd H2 mm (.lst (us.set (n - 1) (.ref q2)))):=u02.after hm;obtain ⟨mv,emv⟩:∃mv,mv=((List.range n).map λ(i:Nat)=>(List.range n).map λ(j:Nat)=>(((if decide ((j:Int)=(i:Int)+1)=true then 1 else 0:Int)):Rat)).set (n - 1) cs:=⟨_,rfl⟩;have lmv:mv.length=n:=by rw[emv,eC,ai,bw]
  have hmv:∀xs∈mv,xs.length=n/\∀y∈xs,Fr 1 1 y:=λxs hx=>by
   rw[emv] at hx;rcases cF hx with hx | rfl
   ·obtain ⟨i,_,rfl⟩:=aB.mp hx;exact ⟨by rw[ai,bw],bit⟩
   ·exact ⟨lc,hc⟩
  rw[<- emv] at G3;generalize upd H2 mm (.lst (us.set (n - 1) (.ref q2)))=H3 at G3 B3 u03 ⊢;clear emv pu gu G1 u2 pr2 g2 B2;exists ⟨b,n,rfl,B3,by lia,by lia,λa1 H4 a10 a11 B4 u4=>?_⟩;exists dy λl1 H5 s5 nl1 g5=>?_
  exists ⟨b,2,rfl,B4.same s5,by decide,by decide,λv H6 v0 v1 B6 u6=>?_⟩;have g6:=u6.other (λz=>B4.at (by rw[<- z];exact nl1)) g5;obtain ⟨x,ex,mx,_⟩:=jH (xs:=[V.int ((n:Int) - 1),V.int a1]) v0 (by simpa using v1)
  obtain ⟨at',rfl⟩:∃a:Int,x=.int a:=by
   simp only[aI,ba,or_false] at mx;rcases mx with rfl | rfl
   ·exact ⟨_,rfl⟩
   ·exact ⟨_,rfl⟩
  exists cx (bO.of g6) ex ?_;have u36:=(u4.same s5).trans u6;have G6:=G3.upto u36 B3 mb hB.at;have u06:=u03.trans u36;clear ex mx g6 g5 G3 u4 u6;exists ⟨by lia,by lia,?_⟩;refine fk (n:=n) (bV K) (λ(j:Nat)=>(((if decide ((j:Int)=at')=true then 1 else 0:Int)):Rat)) (by lia) (λa b=>a.same b) ?_ ?_
  ·rintro j Hz NY2 NN2 hj sz k2;exists cA λt Hy sy gy=>?_
   exact k2 _ _ sy (bV.mk gy rfl)
  rintro ys7 H7 q7 hq7 s7 g7 pr7 _;have R7:cL K H7 q7 _:=⟨ys7,g7,pr7⟩;exists dy λp8 H8 s8 n8' g8=>?_
  have s68:=s7.trans s8;have q78:q7≠p8:=λz=>by rw[z,n8'] at g7;cases g7
  have np8:H p8=none:=u06.none B6 (s7.none n8');have nq7:H q7=none:=u06.none B6 hq7
  have GP:bH K H H8 p8 [(List.range n).map λ(j:Nat)=>(((if decide ((j:Int)=at')=true then 1 else 0:Int)):Rat)]:=⟨_,g8,.cons ⟨q7,rfl,nq7,R7.same s8⟩ .nil,λz=>by
   rw[cD] at z;cases z;exact q78 rfl⟩
  have B8:=B6.same s68;have u08:=u06.same s68;have G8:=G6.same s68;have pb:p8≠b:=λz=>hB.at (by rw[<- z];exact np8)
  exists ⟨b,n,rfl,B8,by lia,by lia,λa2 H9 a20 a21 B9 u9=>?_⟩;exists dy λl2 Ha sa nl2 ga=>?_
  exists ⟨b,3,rfl,B9.same sa,by decide,by decide,λv' Hb v0' v1' Bb ub=>?_⟩;have gb:=ub.other (λz=>B9.at (by rw[<- z];exact nl2)) ga;obtain ⟨x,ex,mx,_⟩:=jH (xs:=[V.int 0,V.int 0,V.int a2]) v0' (by simpa using v1')
  obtain ⟨fi,rfl⟩:∃a:Int,x=.int a:=by
   simp only[aI,ba,or_false] at mx;rcases mx with rfl | rfl | rfl
   ·exact ⟨_,rfl⟩
   ·exact ⟨_,rfl⟩
   ·exact ⟨_,rfl⟩
  exists cx (bO.of gb) ex ?_;have u8b:=(u9.same sa).trans ub;have Gb:=G8.upto u8b B8 mb hB.at;have GPb:=GP.upto u8b B8 pb hB.at;have u0b:=u08.trans u8b;clear ex mx gb ga G8 GP u9 ub;exists ⟨by lia,by lia,?_⟩;refine fk (n:=n) (bV K) (λ(j:Nat)=>(((if decide ((j:Int)=fi)=true then 1 else 0:Int)):Rat)) (by lia) (λa b=>a.same b) ?_ ?_
  ·rintro j Hz NY2 NN2 hj sz k2;exists cA λt Hy sy gy=>?_
   exact k2 _ _ sy (bV.mk gy rfl)
  rintro ysc Hc qc hqc sc gc prc _;have Rc:cL K Hc qc _:=⟨ysc,gc,prc⟩;exists dy λpd Hd sd nd gd=>?_
  have sbd:=sc.trans sd;have qcd:qc≠pd:=λz=>by rw[z,nd] at gc;cases gc
  have npd:H pd=none:=u0b.none Bb (sc.none nd);have nqc:H qc=none:=u0b.none Bb hqc
  have GL:bH K H Hd pd [(List.range n).map λ(j:Nat)=>(((if decide ((j:Int)=fi)=true then 1 else 0:Int)):Rat)]:=⟨_,gd,.cons ⟨qc,rfl,nqc,Rc.same sd⟩ .nil,λz=>by
   rw[cD] at z;cases z;exact qcd rfl⟩
  exists cA λr He se ge=>?_
  have sbe:=sbd.trans se;refine k r mv _ _ He ⟨mm,p8,pd,ge,hm,np8,npd,Gb.same sbe,GPb.same sbe,GL.same se⟩ lmv rfl rfl ⟨by lia,by simp,by simp,λxs hx=>by rw[(hmv xs hx).1,lmv],λxs hx=>?_,λxs hx=>?_⟩ (λxs hx=>(hmv xs hx).2) (λxs hx=>?_) (λxs hx=>?_) (Bb.same sbe) (u0b.same sbe)
  ·rw[cD.mp hx,ai,bw,lmv]
  ·rw[cD.mp hx,ai,bw,lmv]
  ·rw[cD.mp hx];exact bit
  ·rw[cD.mp hx];exact bit
theorem je:a9 ["_law_top","_law_bottom","_law_one","_law_other"] ["_law_top","_law_bottom"] (aL sU):=by walk_at "d"
theorem kj (T:Txt K mg Z) (ptree:P.given.tree=none):cN P w K mg base fX 1 Z.Ak Z.zY ["_law_top","_law_bottom"] O6:=by
 refine T.gA.F.ok je (λvs H Q E h=>?_) (λcdv A outer s H vs Q E hr h=>?_)
 ·obtain ⟨t,b,rfl,_⟩:=h;rfl
 ·obtain ⟨t,b,rfl,hb,hs,k⟩:=h
  refine ⟨_,(au (aZ (i:=2) je.nd rfl (Or.inl rfl) (bP uQ (by rfl) T.abs PyProof.Rows.boot_abs (ae (pv 0) aj)))
   (au (aZ (i:=3) je.nd rfl (Or.inl rfl) (pv 1))
   (au (yW PassesOwn.never (bD zg (pv 2) ak (bJ _))
    (aF (K6 (i:=2) (j:=3) rfl je.nd rfl rfl (by decide) rfl rfl (ae (bC mW (pv 3) (pv 2)) (ae (pv 2) aj)) rfl)))
   (aF (a8 (c6 (ae (bC (ij rfl je rfl rfl rfl ptree (qF hr)) (pv 0) (pv 3)) (ae (bC (ij rfl je rfl rfl rfl ptree (qF hr)) (pv 1) (pv 3)) aj)))))))),?_⟩
  refine aU (σ:=[some (.int t),some (.int b),none,none]) rfl ?_;walk_at "w"
  refine Ca (λσ' H'=>∃(u v:Int),σ'=[some (.int t),some (.int b),some (.int u),some (.int v)]/\H'=H/\0<=u/\0 < v/\Int.gcd u v=Int.gcd t b) (λσ' _=>match σ' with | [_,_,some (.int u),_]=>u.natAbs | _=>0) ⟨_,b,rfl,rfl,by split <;> lia,hb,by
   split
   ·rw[Int.neg_gcd]
   ·rfl⟩ ?_
  rintro σ' H' ⟨u,v,rfl,rfl,hu,hv,hg⟩;exists iG (λh=>?_) (λh=>?_)
  ·have hu0:u≠0:=λz=>by subst z;simp at h
   exists fj (show (0:Int) < u by lia) ?_;walk_at "w";have h1:=kX v hu0;have h2:=ja v (show 0 < u by lia);exact ⟨⟨v % u,u,rfl,rfl,h1,by lia,by rw[i8,LK,i8];exact hg⟩,by show (v % u).natAbs < u.natAbs;lia⟩
  ·have hu0:u=0:=by
    by_cases z:u=0
    ·exact z
    ·exfalso;apply h;simp [z]
   subst hu0
   have e:v=g t b:=by
    unfold g;rw[<- hg,Int.gcd_zero_left]
    lia
   have hgs:Sz 449950 v:=hs.le (by
    rw[e];have h1:(g t b).natAbs=Int.gcd t b:=by unfold g;simp
    rw[h1];exact kI (by lia) (by have:=fB (a:=t) (b:=b);exact gI.mpr this |> λz=>by simpa using z))
   exists fj (show mG _ _ from ⟨by lia,hgs⟩) ?_;exists fj (show mG _ _ from ⟨by lia,hgs⟩) ?_;exists cA λr H' s' h'=>?_
   rw[b7 _ (by lia),b7 _ (by lia),e] at h';exact k r H' s' h'
theorem D5:a9 ["_law_one","_law_other"] ["_law_one","_law_other"] (aL sS):=by walk_at "d"
theorem ki (T:Txt K mg Z) (ptree:P.given.tree=none):cN P w K mg base fX 2 Z.Ai Z.zW ["_law_one","_law_other"] (nZ K (λx y=>x+y)):=by
 have fJ:=kj (P:=P) (w:=w) (base:=base) T ptree;refine T.gi.F.ok D5 (λvs H Q E h=>?_) (λcdv A outer s H vs Q E hr h=>?_)
 ·obtain ⟨p,q,a,b,c,d,rfl,hp,hq,hb,hd,sa,sb,sc,sd,k⟩:=IJ h;rfl
 ·obtain ⟨p,q,a,b,c,d,rfl,hp,hq,hb,hd,sa,sb,sc,sd,k⟩:=IJ h;refine ⟨_,(aF (a8 (cG fJ hr T.gA (ae (bC eT (bC cV (a7 bL (pv 0) ak) (a7 bL (pv 1) ak)) (bC cV (a7 bL (pv 1) ak) (a7 bL (pv 0) ak))) (ae (bC cV (a7 bL (pv 0) ak) (a7 bL (pv 1) ak)) aj))))),?_⟩;refine aU (σ:=[some (.ref p),some (.ref q)]) rfl ?_;have hbd:0 < b*d:=hJ hb hd;have sbd:Sz 449950 (b*d):=(sb.mul sd).mono (by decide);exists fj (show fK _ _ from .inr ⟨_,_,sa,sd,by decide⟩) ?_;exists fj (show fK _ _ from .inr ⟨_,_,sc,sb,by decide⟩) ?_;exists fj (show fK _ _ from .inr ⟨_,_,sb,sd,by decide⟩) ?_;walk_at "w";exists ⟨_,_,rfl,hbd,sbd,k⟩
theorem Cv:a9 ["_law_one","_law_other"] ["_law_one","_law_other"] (aL p0):=by walk_at "d"
theorem oC (T:Txt K mg Z) (ptree:P.given.tree=none):cN P w K mg base fX 3 Z.xJ Z.xo ["_law_one","_law_other"] (DP K):=by
 have fI:=ki (P:=P) (w:=w) (base:=base) T ptree;refine T.jC.F.ok Cv (λvs H Q E h=>?_) (λcdv A outer s H vs Q E hr h=>?_)
 ·obtain ⟨p,q,xs,ys,rfl,_⟩:=h;rfl
 ·obtain ⟨p,q,xs,ys,rfl,hp,hq,hl,hz,h1,h2,kk⟩:=h;refine ⟨_,(aF (a8 (b9 ["_law_k"] ["_law_one","_law_other"] [0,1] (cy rfl T.range (ae (bP bu (by rfl) T.len bf (ae (pv 0) aj)) aj)) (λ_=>(aS (i:=0) (show ND9 ["_law_k","_law_one","_law_other"] by decide +kernel))) (λ_=>cB) (λ_=>(cG fI hr T.gi (ae (a7 (gM K (by rfl)) (pv 1) (pv 0)) (ae (a7 (gM K (by rfl)) (pv 2) (pv 0)) aj))))))),?_⟩;refine aU (σ:=[some (.ref p),some (.ref q)]) rfl ?_;obtain ⟨us,gu,qu⟩:=id hp;obtain ⟨ws,gw,qw⟩:=id hq;have lu:=qu.length;exists ⟨_,_,rfl,.inl (bO.of gu),?_⟩;exists ⟨by lia,by lia,?_⟩;refine fk (n:=us.length) (bV K) (λi=>xs.getD i 0+ys.getD i 0) (by lia) (λa b=>a.same b) ?_ ?_
  ·rintro i H' NY NN hi s k1;have ix:i < xs.length:=by lia
   have iy:i < ys.length:=by lia
   obtain ⟨vx,ex,nx⟩:=Ik (Paired.imp' (λ_ _ z=>z.same s) qu) ix;obtain ⟨vy,ey,ny⟩:=Ik (Paired.imp' (λ_ _ z=>z.same s) qw) iy;exists cx (bO.of (s _ _ gu)) ex ?_;exists cx (bO.of (s _ _ gw)) ey ?_;exists ⟨_,_,_,_,rfl,nx,ny,h1 _ (getD_mem ix),h2 _ (getD_mem iy),λr3 H3 s3 n3=>k1 _ _ s3 n3⟩
  ·rintro ys' H' l hl' s g pr nx;exact kk l H' hl' s ⟨ys',g,by rw[AW (by lia)];rw[<- lu] at pr;exact pr⟩
theorem Cu:a9 ["_law_one","_law_other"] ["_law_one","_law_other"] (aL pZ):=by walk_at "d"
theorem kQ (T:Txt K mg Z) (ptree:P.given.tree=none):cN P w K mg base fX 2 Z.xI Z.xn ["_law_one","_law_other"] (nZ K (λx y=>x*y)):=by
 have fJ:=kj (P:=P) (w:=w) (base:=base) T ptree;refine T.fv.F.ok Cu (λvs H Q E h=>?_) (λcdv A outer s H vs Q E hr h=>?_)
 ·obtain ⟨p,q,a,b,c,d,rfl,hp,hq,hb,hd,sa,sb,sc,sd,k⟩:=Ia h;rfl
 ·obtain ⟨p,q,a,b,c,d,rfl,hp,hq,hb,hd,sa,sb,sc,sd,k⟩:=Ia h;refine ⟨_,(aF (a8 (cG fJ hr T.gA (ae (bC cV (a7 bL (pv 0) ak) (a7 bL (pv 1) ak)) (ae (bC cV (a7 bL (pv 0) ak) (a7 bL (pv 1) ak)) aj))))),?_⟩;refine aU (σ:=[some (.ref p),some (.ref q)]) rfl ?_;have hbd:0 < b*d:=hJ hb hd;have sbd:Sz 449950 (b*d):=(sb.mul sd).mono (by decide);exists fj (show fK _ _ from .inr ⟨_,_,sa,sc,by decide⟩) ?_;exists fj (show fK _ _ from .inr ⟨_,_,sb,sd,by decide⟩) ?_;walk_at "w";exists ⟨_,_,rfl,hbd,sbd,k⟩
theorem FF:a9 ["_law_by_here","_law_row_here"] ["_law_by_here","_law_row_here"] (aL vM):=by walk_at "d"
theorem zC (T:Txt K mg Z) (ptree:P.given.tree=none):cN P w K mg base fX 3 Z.BR Z.BB ["_law_by_here","_law_row_here"] (KA K):=by
 have fA:=kQ (P:=P) (w:=w) (base:=base) T ptree;refine T.oP.F.ok FF (λvs H Q E h=>?_) (λcdv A outer s H vs Q E hr h=>?_)
 ·obtain ⟨u,q,c,ys,rfl,_⟩:=h;rfl
 ·obtain ⟨u,q,c,ys,rfl,hc,sc,hq,hz,h2,kk⟩:=h;refine ⟨_,(aF (a8 (b9 ["_law_one"] ["_law_by_here"] [0] (cP (pv 1)) (λ_=>(aS (i:=0) (show ND9 ["_law_one","_law_by_here"] by decide +kernel))) (λ_=>cB) (λ_=>(cG fA hr T.fv (ae (pv 1) (ae (pv 0) aj))))))),?_⟩;refine aU (σ:=[some u,some (.ref q)]) rfl ?_;obtain ⟨us,gu,qu⟩:=id hq;exists ⟨⟨_,bO.of gu⟩,?_⟩;refine dN (K:=K) (F:=bV K) (bV K) (λy=>c*y) gu qu hz (λa b=>a.same b) (λa b=>a.same b) ?_ ?_
  ·rintro i y x H' NY NN en s hx k;exists ⟨_,_,_,_,rfl,hc.same s,hx,sc,h2 y (av en),λr H2 s2 h2'=>k _ _ s2 h2'⟩
  ·rintro ys' H' r hr s g pr nx;exact kk r H' hr s ⟨ys',g,pr⟩
theorem dX:a9 ["_law_bag_here","_law_move_here","_law_put","_law_look","_law_n","_law_turn","_law_i","_law_j","_law_by_here","_law_less_here","_law_row_here"] ["_law_bag_here","_law_move_here","_law_put","_law_look"] (aL ot):=by walk_at "d"
theorem rF (T:Txt K mg Z) (ptree:P.given.tree=none):cN P w K mg base fX 4 Z.vb Z.uN ["_law_bag_here","_law_move_here","_law_put","_law_look"] (A8 K):=by
 have aV:=dY (P:=P) (w:=w) (base:=base) T ptree;have kv:=oC (P:=P) (w:=w) (base:=base) T ptree;have wO:=zC (P:=P) (w:=w) (base:=base) T ptree;have fI:=ki (P:=P) (w:=w) (base:=base) T ptree;have fA:=kQ (P:=P) (w:=w) (base:=base) T ptree;refine T.j8.F.ok dX (λvs H Q E h=>?_) (λcdv A outer s H vs Q E hr h=>?_)
 ·obtain ⟨b,m,p,l,q0,n,WV,μ,A,us,ws,vs,rfl,_⟩:=h;rfl
 ·obtain ⟨b,m,p,l,q0,n,WV,μ,A,us,ws,vs,rfl,MA,X,n8,i4,o4,M0,M1,⟨M,eM⟩,V1,hA,k⟩:=h
  refine ⟨_,(au (aZ (i:=4) dX.nd rfl (Or.inl rfl) (bP bu (by rfl) T.len bf (ae (pv 1) aj)))
   (au (di (PW.pt (qi (bD rD (pv 4) ak (bJ _)) (mV (bD eS (cG aV hr T.aX (ae (pv 0) (ae ak aj))) ak (bJ _))))) (aF (a8 (c6 (ae (pv 1) (ae (pv 2) (ae (pv 3) aj)))))) cp)
   (au (eH PassesOwn.never rfl (cy rfl T.range (ae (bC eT ak (cG aV hr T.aX (ae (pv 0) (ae ak aj)))) aj)) (aS (i:=5) dX.nd)
    (au (aZ (i:=6) dX.nd rfl (Or.inl rfl) (cG aV hr T.aX (ae (pv 0) (ae (pv 4) aj))))
   (au (aZ (i:=7) dX.nd rfl (Or.inl rfl) (bC mW (bC eT (bC eT (pv 6) ak) (cG aV hr T.aX (ae (pv 0) (ae (bC jW (pv 4) ak) aj)))) (pv 4)))
   (au (aZ (i:=8) dX.nd rfl (Or.inl rfl) (c6 (ae (a7 bQ (dJ (ae ak (ae (wV pH ak) (ae ak (ae (wV pH ak) aj))))) (cG aV hr T.aX (ae (pv 0) (ae ak aj)))) (ae ak aj))))
   (au (aZ (i:=9) dX.nd rfl (Or.inl rfl) (c6 (ae (bC jW ak (a7 bL (pv 8) ak)) (ae ak aj))))
   (au (fF (cG kv hr T.jC (ae (a7 bQ (pv 1) (pv 6)) (ae (cG wO hr T.oP (ae (pv 8) (ae (a7 bQ (pv 1) (pv 7)) aj))) aj))) (ig (pv 1) (pv 6) set_list))
   (au (eH PassesOwn.never rfl (cP (bC jX (pv 1) (pv 3))) (aS (i:=10) dX.nd)
    (aF (fF (cG fI hr T.gi (ae (a7 bQ (pv 10) (pv 7)) (ae (cG fA hr T.fv (ae (pv 9) (ae (a7 bQ (pv 10) (pv 6)) aj))) aj))) (ig (pv 10) (pv 7) set_list))))
   (aF (eH PassesOwn.never rfl (cP (pv 2)) (aS (i:=10) dX.nd)
    (aF (fF (cG fI hr T.gi (ae (a7 bQ (pv 10) (pv 6)) (ae (cG fA hr T.fv (ae (pv 8) (ae (a7 bQ (pv 10) (pv 7)) aj))) aj))) (ig (pv 10) (pv 6) set_list))))))))))))
   (aF (a8 (c6 (ae (pv 1) (ae (pv 2) (ae (pv 3) aj))))))))),?_⟩
  refine aU (σ:=[some (.ref b),some (.ref m),some (.ref p),some (.ref l),none,none,none,none,none,none,none]) rfl ?_;have done:∀r us' H' t,t<=3->H' r=some (.tup [.ref m,.ref p,.ref l])->jL K A H' n (λx=>Fr (μ x) (9^t*WV)) m p l b q0 us' ws vs->iJ A b m H H'->Q (.ref r) H':=λr us' H' t ht g x kp=>k r us' H' g (x.weak λ_ _ y h=>h.mono (ay _ (ar (by decide) ht))) kp
  have X0:jL K A H n (λx=>Fr (μ x) (9^0*WV)) m p l b q0 us ws vs:=X.weak λ_ _ y h=>h.mono (by simp)
  clear X k;have gu:=X0.gm;have lu:=X0.lm;exists ⟨_,_,rfl,.inl (bO.of gu),?_⟩;rw[lu];clear gu lu;have kp0:iJ A b m H H:=λ_ _ h _ _ _=>h
  exists iG (λh0=>?_) (λh0=>?_)
  ·exists cA λr H' s' g'=>?_
   exact done r us H' 0 (by decide) g' (X0.same s') (kp0.same s')
  have n2:2<=n:=by
   rcases c4 n 2 with z | z
   ·exact absurd (decide_eq_true (show (n:Int) < 2 by lia)) h0
   ·exact z
  exists ⟨b,2,rfl,X0.bag,by decide,by decide,λv H1 v0 v1 B1 u1=>?_⟩;have X1:=X0.upto MA u1 B1;have kp1:=kp0.upto u1;exists iG (λh1=>?_) (λh1=>?_)
  ·exists cA λr H' s' g'=>?_
   exact done r us H' 0 (by decide) g' (X1.same s') (kp1.same s')
  exists ⟨b,3,rfl,B1,by decide,by decide,λc H2 c0 c1 B2 u2=>?_⟩;have X2:=X1.upto MA u2 B2;have kp2:=kp1.upto u2;clear X0 X1 kp0 kp1 u1 u2 B1;exists ⟨by lia,by lia,?_⟩;refine eX (n:=(1+c).toNat) (λt σ' H'=>∃(x1 x2 x3 x4 x5 x6:Option V) (us:List V),σ'=[some (.ref b),some (.ref m),some (.ref p),some (.ref l),some (.int n),x1,x2,x3,x4,x5,x6]/\jL K A H' n (λx=>Fr (μ x) (9^t*WV)) m p l b q0 us ws vs/\iJ A b m H H') ⟨none,none,none,none,none,none,us,rfl,X2,kp2⟩ ?_ ?_
  ·rintro t σ' H' ht ⟨x1,x2,x3,x4,x5,x6,us,rfl,X,kp⟩;have t3:t<=2:=by lia
   exists ⟨b,n,rfl,X.bag,by lia,by lia,λii Ha i0 i1 Ba ua=>?_⟩;obtain ⟨ii,rfl⟩:=cQ i0;have Xa:=X.upto MA ua Ba;have kpa:=kp.upto ua;exists ⟨b,_,rfl,Ba,by lia,by lia,λd Hb d0 d1 Bb ub=>?_⟩;have Xb:=Xa.upto MA ub Bb;have kpb:=kpa.upto ub;exists fj (show (0:Int) < n by lia) ?_;have j0:=kX ((ii:Int)+1+d) (show (n:Int)≠0 by lia);have j1:=ja ((ii:Int)+1+d) (show (0:Int) < n by lia);generalize ((ii:Int)+1+d) % (n:Int)=jj at j0 j1 ⊢;obtain ⟨jj,rfl⟩:=cQ j0;exists dy λl0 Hc sc nc gc=>?_
   exists ⟨b,4,rfl,Bb.same sc,by decide,by decide,λv' Hd v0' v1' Bd ud=>?_⟩;have gd:=ud.other (λz=>Bb.at (by rw[<- z];exact nc)) gc;obtain ⟨x,ex,mx,_⟩:=jH (xs:=[V.int 1,V.int (-1),V.int 2,V.int (-2)]) v0' (by simpa using v1')
   obtain ⟨z,rfl,hz⟩:∃z:Int,x=.int z/\z.natAbs<=2:=by
    simp only[aI,ba,or_false] at mx;rcases mx with rfl | rfl | rfl | rfl
    ·exact ⟨1,rfl,by decide⟩
    ·exact ⟨-1,rfl,by decide⟩
    ·exact ⟨2,rfl,by decide⟩
    ·exact ⟨-2,rfl,by decide⟩
   have Xd:=(Xb.same sc).upto MA ud Bd;have kpd:=(kpb.same sc).upto ud;exists cx (bO.of gd) ex ?_;exists cA λbt He se ge=>?_
   exists cA λlt Hf sf gf=>?_
   have Xf:=(Xd.same se).same sf;have kpf:=(kpd.same se).same sf;have nb:bV K Hf ((z:Int):Rat) (.ref bt):=bV.mk (sf _ _ ge) rfl;have nl:bV K Hf ((0 - z:Int):Rat) (.ref lt):=bV.mk gf rfl;clear X Xa Xb Xd kp kpa kpb kpd ua ub ud sc gc gd ex mx ge gf se sf Ba Bb Bd nc;have gu:=Xf.gm;have lu:=Xf.lm
   have ru:∀x∈us,fN K A Hf n (Fr M (9^t*WV)) x:=λx hx=>by
    have:=Xf.row x (by simp [hx]);rwa [eM x (Xf.apart.1 x hx).1 (Xf.apart.1 x hx).2] at this
   have hM:0 < M/\M<=2^800:=by
    have hx:us[ii]'(by lia)∈us:=aD _;have:=eM _ (Xf.apart.1 _ hx).1 (Xf.apart.1 _ hx).2;rw[<- this];exact ⟨M0 _,M1 _⟩
   have e1:us[ii]?=some (us[ii]'(by lia)):=by simp
   have e2:us[jj]?=some (us[jj]'(by lia)):=by simp
   obtain ⟨q1,z1,qs1,w1,a1,g1,k1,p1,l1,c1⟩:=(ru _ (av e1)).at;obtain ⟨q2,z2,qs2,w2,a2,g2,k2,p2,l2,c2⟩:=(ru _ (av e2)).at;rw[w1] at e1;rw[w2] at e2;generalize eW:9^t*WV=W at *
   have W9:9*W<=2^140:=by rw[<- eW];exact NA (by lia) V1 (by decide)
   have sz9M:∀{x:Rat} {U:Nat},U<=9*W->Fr M U x->iZ x:=λhU h=>Ir hM.1 hM.2 (ag hU W9) h
   have sz9:∀{x:Rat} {U:Nat} {v:V},U<=9*W->Fr (μ v) U x->iZ x:=λhU h=>Ir (M0 _) (M1 _) (ag hU W9) h
   exists cx (bO.of gu) (eJ e1) ?_;exists cx (bO.of gu) (eJ e2) ?_;exists ⟨_,q2,_,qs2,rfl,nb,Ce (by lia),⟨z2,g2,p2⟩,by lia,λy hy=>sz9M (by lia) (c2 y hy),λr1 Hg n1 sg R1=>?_⟩;exists ⟨q1,r1,qs1,_,rfl,⟨z1,sg _ _ g1,Paired.imp' (λ_ _ y=>y.same sg) p1⟩,R1,by rw[ai,l1,l2],by lia,λy hy=>sz9M (by lia) (c1 y hy),λy hy=>?_,λr2 Hh n2' sh R2=>?_⟩
   ·obtain ⟨y',hy',rfl⟩:=aB.mp hy;exact yw hz (c2 y' hy') hM.1 hM.2 (by lia)
   have sfh:=sg.trans sh
   have new:V.ref r2∉us++vs++ws:=λz=>by
    obtain ⟨q',_,_,e',_,g',_⟩:=((Xf.same sg).row _ z).at;cases e';rw[n2'] at g';cases g'
   have Xh:=(Xf.same sfh).weak (C':=λx y=>(x∈ws->Fr (μ x) W y)/\Fr (μ x) (3*W) y) λx _ y h=>⟨λ_=>h,h.mono (by lia)⟩
   have kph:=kpf.same sfh;have guh:=sfh _ _ gu;have ar2:A r2:=(kpf.same sg).new hA (Xf.same sg).bag (by rw[sg _ _ gu];simp) n2'
   have rp2:fN K A Hh n (λy=>(V.ref r2∈ws->Fr (μ (.ref r2)) W y)/\Fr (μ (.ref r2)) (3*W) y) (.ref r2):=by
    rw[eM (.ref r2) (λz=>new (aG.mpr (.inr z))) (λz=>new (aG.mpr (.inl (aG.mpr (.inr z)))))];refine ⟨r2,_,rfl,ar2,R2,by rw[aQ,ai];lia,λy hy=>⟨λz=>absurd (aG.mpr (.inr z)) new,?_⟩⟩;obtain ⟨j',hj',e⟩:=aY hy;rw[bM,iL] at e;rw[<- e];exact C3 hz (c1 _ (aD _)) (c2 _ (aD _))
   exists ft guh (fO (by lia)) rfl ?_;have Xi:=Xh.set MA rp2 new ii;have kpi:=kph.upd (o:=.lst (us.set ii (.ref r2))) (q:=m) (.inr rfl);have nli:bV K (upd Hh m (.lst (us.set ii (.ref r2)))) ((0 - z:Int):Rat) (.ref lt):=(nl.same sfh).updL guh;have nbi:bV K (upd Hh m (.lst (us.set ii (.ref r2)))) ((z:Int):Rat) (.ref bt):=(nb.same sfh).updL guh;generalize upd Hh m (.lst (us.set ii (.ref r2)))=Hi at Xi kpi nli nbi ⊢;generalize us.set ii (.ref r2)=um at Xi;clear nb nl Xf kpf gu ru e1 e2 g1 p1 g2 p2 R1 R2 Xh kph guh rp2 sg sh sfh new;have gm:=Xi.gm;have lm:=Xi.lm;have gl:=Xi.gl;have nd:=Xi.nd;obtain ⟨nd1,nd2,nd3⟩:=dG.mp nd;exists lJ gm gl (bc (bK (by lia))) λcl Hj sj nj gj=>?_
   have kpj:=kpi.same sj
   have rows:∀x∈um++vs,∀q,x=V.ref q->q≠cl:=λx hx q e y=>by
    obtain ⟨q',zs,_,e',_,g',_⟩:=(Xi.row x (aG.mpr (.inl hx))).at;rw[e] at e';cases e';rw[y,nj] at g';cases g'
   have Xj:=(Xi.same sj).weak (C':=λx y=>(x∈ws->Fr (μ x) W y)/\(x∈(um++vs).drop 0->Fr (μ x) (3*W) y)/\Fr (μ x) (9*W) y) λx _ y h=>⟨h.1,λ_=>h.2,h.2.mono (by lia)⟩
   have lj:bV K Hj ((0 - z:Int):Rat) (.ref lt):=nli.same sj;have bj:bV K Hj ((z:Int):Rat) (.ref bt):=nbi.same sj;clear Xi kpi nli nbi;refine ⟨_,rfl,⟨_,bO.of gj⟩,?_⟩;refine iV (K:=K) (a:=cl) (xs:=um++vs) (λs σ' H'=>∃x6:Option V,σ'=[some (.ref b),some (.ref m),some (.ref p),some (.ref l),some (.int n),some (.int t),some (.int ii),some (.int jj),some (.ref bt),some (.ref lt),x6]/\jL K A H' n (λx y=>(x∈ws->Fr (μ x) W y)/\(x∈(um++vs).drop s->Fr (μ x) (3*W) y)/\Fr (μ x) (9*W) y) m p l b q0 um ws vs/\iJ A b m H H'/\H' cl=some (.lst (um++vs))/\bV K H' ((0 - z:Int):Rat) (.ref lt)/\bV K H' ((z:Int):Rat) (.ref bt)) ⟨_,rfl,Xj,kpj,gj,lj,bj⟩ (λs σ' H' _ ⟨_,_,_,_,e,_⟩=>bO.of e) ?_ ?_
   ·rintro s x σ' Hk hx ⟨y6,rfl,Xk,kpk,gk,lk,bk⟩;have hs:s < (um++vs).length:=(aJ.mp hx).1;have mx:=av hx
    have xd:x∈(um++vs).drop s:=by
     rw[eK hs,(aJ.mp hx).2];exact .head _
    have xd2:x∉(um++vs).drop (s+1):=λz=>by
     have:=nd1.sublist (List.drop_sublist s _);rw[eK hs,eB,(aJ.mp hx).2] at this;exact this.1 z
    have xw:x∉ws:=λz=>nd3 x mx x z rfl
    have rx:=Xk.row x (aG.mpr (.inl mx));obtain ⟨q,zs,qs,rfl,aq,gq,lq,pq,lq2,cq⟩:=rx.at;have qcl:=rows _ mx q rfl;obtain ⟨vj,ej,nj'⟩:=Ik pq (j:=jj) (by lia);obtain ⟨vi,ei,ni'⟩:=Ik pq (j:=ii) (by lia);have cj:=(cq _ (getD_mem (xs:=qs) (i:=jj) (by lia))).2.1 xd;have ci:=(cq _ (getD_mem (xs:=qs) (i:=ii) (by lia))).2.1 xd;exists cx (bO.of gq) ej ?_;exists cx (bO.of gq) ei ?_;exists ⟨_,_,_,_,rfl,lk,ni',Ce (by lia),sz9 (by lia) ci,λr3 Hl sl n3=>?_⟩;exists ⟨_,_,_,_,rfl,nj'.same sl,n3,sz9 (by lia) cj,yw (by lia) ci (M0 _) (M1 _) (by lia),λr4 Hm sm n4=>?_⟩;have slm:=sl.trans sm;exists ft (slm _ _ gq) (fO (by lia)) rfl ?_;refine ⟨_,rfl,?_,(kpk.same slm).upd (.inl aq),by rw[bE qcl.symm];exact slm _ _ gk,(lk.same slm).updL (slm _ _ gq),(bk.same slm).updL (slm _ _ gq)⟩;refine ((Xk.same slm).weak λx' _ y h=>⟨h.1,λz=>h.2.1 ?_,h.2.2⟩).put MA aq (slm _ _ gq) n4 ⟨λz=>absurd z xw,λz=>absurd z xd2,?_⟩ jj
    ·rw[eK hs];exact .tail _ z
    ·exact (C3 (by lia) cj ci).mono (by lia)
   ·rintro σ' Hk ⟨y6,rfl,Xk,kpk,gk,lk,bk⟩;have gp:=Xk.gp;have Xk2:=Xk.weak (C':=λx y=>(x∈ws.drop 0->Fr (μ x) W y)/\Fr (μ x) (9*W) y) λx _ y h=>⟨λz=>h.1 (by simpa using z),h.2.2⟩
    clear Xk;exists ⟨⟨_,bO.of gp⟩,?_⟩;refine iV (K:=K) (a:=p) (xs:=ws) (λs σ' H'=>∃x6:Option V,σ'=[some (.ref b),some (.ref m),some (.ref p),some (.ref l),some (.int n),some (.int t),some (.int ii),some (.int jj),some (.ref bt),some (.ref lt),x6]/\jL K A H' n (λx y=>(x∈ws.drop s->Fr (μ x) W y)/\Fr (μ x) (9*W) y) m p l b q0 um ws vs/\iJ A b m H H'/\bV K H' ((z:Int):Rat) (.ref bt)) ⟨_,rfl,Xk2,kpk,bk⟩ (λs σ' H' _ ⟨_,_,X,_⟩=>bO.of X.gp) ?_ ?_
    ·rintro s x σ' Hl hx ⟨w6,rfl,Xl,kpl,bl⟩;have hs:s < ws.length:=(aJ.mp hx).1;have mx:=av hx
     have xd:x∈ws.drop s:=by
      rw[eK hs,(aJ.mp hx).2];exact .head _
     have xd2:x∉ws.drop (s+1):=λz=>by
      have:=nd2.sublist (List.drop_sublist s _);rw[eK hs,eB,(aJ.mp hx).2] at this;exact this.1 z
     have rx:=Xl.row x (aG.mpr (.inr mx));obtain ⟨q,zs,qs,rfl,aq,gq,lq,pq,lq2,cq⟩:=rx.at;obtain ⟨vj,ej,nj'⟩:=Ik pq (j:=jj) (by lia);obtain ⟨vi,ei,ni'⟩:=Ik pq (j:=ii) (by lia);have cj:=(cq _ (getD_mem (xs:=qs) (i:=jj) (by lia))).1 xd;have ci:=(cq _ (getD_mem (xs:=qs) (i:=ii) (by lia))).1 xd;exists cx (bO.of gq) ei ?_;exists cx (bO.of gq) ej ?_;exists ⟨_,_,_,_,rfl,bl,nj',Ce (by lia),sz9 (by lia) cj,λr3 Hm sm n3=>?_⟩;exists ⟨_,_,_,_,rfl,ni'.same sm,n3,sz9 (by lia) ci,yw (by lia) cj (M0 _) (M1 _) (by lia),λr4 Hn sn n4=>?_⟩;have smn:=sm.trans sn;exists ft (smn _ _ gq) (fO (by lia)) rfl ?_;refine ⟨_,rfl,?_,(kpl.same smn).upd (.inl aq),(bl.same smn).updL (smn _ _ gq)⟩;refine ((Xl.same smn).weak λx' _ y h=>⟨λz=>h.1 ?_,h.2⟩).put MA aq (smn _ _ gq) n4 ⟨λz=>absurd z xd2,?_⟩ ii
     ·rw[eK hs];exact .tail _ z
     ·exact (C3 (by lia) ci cj).mono (by lia)
    ·rintro σ' Hl ⟨w6,rfl,Xl,kpl,bl⟩;refine ⟨_,_,_,_,_,_,um,rfl,Xl.weak λ_ _ y h=>h.2.mono ?_,kpl⟩;rw[<- eW,ff,cw (9^t) 9,cK];exact ao _
  ·rintro σ' H' ⟨x1,x2,x3,x4,x5,x6,us',rfl,X,kp⟩;exists cA λr H2' s' g'=>?_
   exact done r us' H2' _ (by lia) g' (X.same s') (kp.same s')
theorem dF:a9 ["_law_bag_here","_law_one","_law_other","_law_ahead","_law_behind","_law_found","_law_k"] ["_law_bag_here"] (aL jR):=by walk_at "d"
theorem uo (T:Txt K mg Z) (ptree:P.given.tree=none):cN P w K mg base fX 5 Z.nR Z.nN ["_law_bag_here"] (MK K):=by
 have mE:=uq (P:=P) (w:=w) (base:=base) T ptree;have aV:=dY (P:=P) (w:=w) (base:=base) T ptree;have oW:=rF (P:=P) (w:=w) (base:=base) T ptree;refine T.jB.F.ok dF (λvs H Q E h=>?_) (λcdv A outer s H vs Q E hr h=>?_)
 ·obtain ⟨b,rfl,_⟩:=h;rfl
 ·obtain ⟨b,rfl,hB,k⟩:=h
  refine ⟨_,(au (aZ (i:=1) dF.nd rfl (Or.inl rfl) (cG mE hr T.jD (ae (pv 0) (ae ak aj))))
   (au (aZ (i:=2) dF.nd rfl (Or.inl rfl) (cG mE hr T.jD (ae (pv 0) (ae (bC eT ak (cG aV hr T.aX (ae (pv 0) (ae ak aj)))) aj))))
   (au (aZ (i:=3) dF.nd rfl (Or.inr rfl) (bC Le (dJ (ae (c6 (ae ak (ae ak aj))) aj)) ak))
   (au (aZ (i:=4) dF.nd rfl (Or.inr rfl) (bC Le (dJ (ae (c6 (ae ak (ae ak aj))) aj)) (bP bu (by rfl) T.len bf (ae (a7 bL (pv 2) ak) aj))))
   (au (aZ (i:=5) dF.nd rfl (Or.inl rfl) (dJ aj))
   (au (eH PassesOwn.never rfl (cy rfl T.range (ae ak aj)) (aS (i:=6) dF.nd)
    (aF (iX (ug c5 dd dc ji (pv 5) (ae (bC jX (b9 ["_law_row_here"] ["_law_behind"] [4] (cP (a7 bL (pv 1) (pv 6))) (λ_=>(aS (i:=0) (show ND9 ["_law_row_here","_law_behind"] by decide +kernel))) (λ_=>cB) (λ_=>(bC jX (pv 0) (pv 1)))) (b9 ["_law_row_here"] ["_law_ahead"] [3] (cP (a7 bL (pv 2) (pv 6))) (λ_=>(aS (i:=0) (show ND9 ["_law_row_here","_law_ahead"] by decide +kernel))) (λ_=>cB) (λ_=>(bC jX (pv 1) (pv 0))))) aj)))))
   (aF (a8 (cG oW hr T.j8 (ae (pv 0) (ae (a7 bQ (pv 5) ak) (ae (a7 bQ (pv 5) ak) (ae (a7 bQ (pv 5) ak) aj))))))))))))),?_⟩
  refine aU (σ:=[some (.ref b),none,none,none,none,none,none]) rfl ?_;obtain ⟨q0,I0,xq,gq0⟩:=hB.inner;exists ⟨b,3,rfl,hB,by decide,by decide,λr1 mv1 pt1 lk1 H1 P1 lm1 lp1 ll1 D1 fm1 fp1 fl1 B1 u1=>?_⟩;exists ⟨b,3,rfl,B1,by decide,by decide,λv H2 v0 v1 B2 u2=>?_⟩;obtain ⟨v,rfl⟩:=cQ v0;have u02:=u1.trans u2;walk_at "w";rw[show ((3:Int)+(v:Int))=((3+v:Nat):Int) by lia];refine ⟨b,3+v,rfl,B2,by lia,by lia,λr2 mv2 pt2 lk2 H3 P2 lm2 lp2 ll2 D2 fm2 fp2 fl2 B3 u3=>?_⟩;have u03:=u02.trans u3;have P1c:=(P1.upto (u2.trans u3) B1 hB.at);have P2c:gH K H H3 r2 mv2 pt2 lk2:=P2.weak λq h=>u02.none B2 h
  exists cA λt0 H4 s4 g4=>?_
  exists dy λa1 H5 s5 n5 g5=>?_
  exists KS (k:=3) g5 (by decide) λah H6 s6 n6 g6=>?_
  have s36:=(s4.trans s5).trans s6;obtain ⟨m1,p1,l1,gt1,m1n,p1n,l1n,Gm1,Gp1,Gl1⟩:=P1c.same s36;obtain ⟨m2,p2,l2,gt2,m2n,p2n,l2n,Gm2,Gp2,Gl2⟩:=P2c.same s36;have N0:bV K H6 0 (V.ref t0):=bV.mk (q:=0) ((s5.trans s6) _ _ g4) rfl;exists cA λt1 H7 s7 g7=>?_
  exists dy λa2 H8 s8 n8' g8=>?_
  have s68:=s7.trans s8;have gt2':=s68 _ _ gt2;obtain ⟨um2,gm2,qm2,_⟩:=id (Gm2.same s68);have lum2:=qm2.length;exists ⟨_,_,rfl,.inl (bO.of gm2),?_⟩;rw[<- lum2,lm2];exists KS (k:=3+v) g8 (by lia) λbh H9 s9 n9 g9=>?_
  have s69:=s68.trans s9;have s39:=s36.trans s69;have N1:bV K H9 0 (V.ref t1):=bV.mk (q:=0) ((s8.trans s9) _ _ g7) rfl;have u09:=u03.same s39;have B9:=B3.same s39;have g6':=s69 _ _ g6;have N0':=N0.same s69;exists dy λfd H10 s10 n10 g10=>?_
  have X1:∀i:Nat,i < 3->∃q1 R1 q2 R2,[V.ref m1,V.ref p1,V.ref l1][i]?=some (V.ref q1)/\bH K H H9 q1 R1/\(∀xs∈R1,xs.length=3/\∀y∈xs,Fr 1 1 y)/\[V.ref m2,V.ref p2,V.ref l2][i]?=some (V.ref q2)/\bH K H H9 q2 R2/\(∀xs∈R2,xs.length=3+v/\∀y∈xs,Fr 1 1 y)/\R1.length<=100/\R2.length<=100/\[6+v,2,2][i]?=some (R1.length+R2.length):=λi hi=>by
   rcases (show i=0\/i=1\/i=2 by lia) with rfl | rfl | rfl
   ·exact ⟨m1,mv1,m2,mv2,rfl,Gm1.same s69,λxs hx=>⟨by rw[D1.mw xs hx,lm1],fm1 xs hx⟩,rfl,Gm2.same s69,λxs hx=>⟨by rw[D2.mw xs hx,lm2],fm2 xs hx⟩,by lia,by lia,by rw[lm1,lm2,show 3+(3+v)=6+v by lia];rfl⟩
   ·exact ⟨p1,pt1,p2,pt2,rfl,Gp1.same s69,λxs hx=>⟨by rw[D1.pw xs hx,lm1],fp1 xs hx⟩,rfl,Gp2.same s69,λxs hx=>⟨by rw[D2.pw xs hx,lm2],fp2 xs hx⟩,by lia,by lia,by rw[lp1,lp2];rfl⟩
   ·exact ⟨l1,lk1,l2,lk2,rfl,Gl1.same s69,λxs hx=>⟨by rw[D1.lw xs hx,lm1],fl1 xs hx⟩,rfl,Gl2.same s69,λxs hx=>⟨by rw[D2.lw xs hx,lm2],fl2 xs hx⟩,by lia,by lia,by rw[ll1,ll2];rfl⟩
  exists ⟨by decide,by decide,?_⟩;refine eX (n:=3) (λi σ' H'=>aK H9 H'/\∃x6 L,σ'=[some (.ref b),some (.ref r1),some (.ref r2),some (.ref ah),some (.ref bh),some (.ref fd),x6]/\Si K H9 H' (6+v) fd L/\L.length=i/\∀(j:Nat) (e:Addr×List V),L[j]?=some e->[6+v,2,2][j]?=some e.2.length) ⟨s10,none,[],rfl,⟨g10,n10,(λ_ z=>nomatch z),mK,(λ_ z=>nomatch z),mK⟩,rfl,λj e h=>by simp at h⟩ ?_ ?_
  ·rintro i σ' H' hi ⟨s',x6,L,rfl,T,lL,hL⟩;obtain ⟨q1,R1,q2,R2,e1,G1,w1,e2,G2,w2,b1,b2,hlen⟩:=X1 i hi;have gt1':=s' _ _ (s69 _ _ gt1);have gt2'':=s' _ _ (s69 _ _ gt2);obtain ⟨ux1,gx1,qx1,_⟩:=id (G1.same s');have gb:=s' _ _ g9;have ga:=s' _ _ g6';exists ⟨.inl ⟨rfl,_,bO.of T.gf⟩,?_⟩;exists FK (sI.of gt1') (eJ e1) ?_;exists ⟨⟨_,bO.of gx1⟩,?_⟩;refine BD (K:=K) (F:=dm K H) (λH'' c x=>∃q,x=V.ref q/\cL K H'' q c) (λr=>r++List.replicate (3+v) 0) gx1 qx1 (by lia) (λa b=>a.same b) (λa b=>by obtain ⟨q,e,r⟩:=a;exact ⟨q,e,r.same b⟩) (λa=>by obtain ⟨q,e,_,gg,_⟩:=a;exact ⟨q,e,by rw[gg];exact λz=>nomatch z⟩) ?_ ?_
   ·rintro j ns x Hi NY NN en si ⟨q,rfl,_,zs,gz,qz⟩ k1;have ws:=(w1 ns (av en)).1;have lz:=qz.length;exists lJ gz (si _ _ gb) (bc (bK (by rw[bx];lia))) λc Hj sj nj gj=>?_
    exact k1 _ _ sj ⟨c,rfl,_,gj,bT (Paired.imp' (λ_ _ z=>z.same sj) qz) (tm (((N1.same s').same si).same sj) _)⟩ ⟨c,rfl,nj⟩
   rintro ys1 Ha c1 hc1 sa ga1 nd1 ne1 pr1;obtain ⟨ux2,gx2,qx2,_⟩:=id ((G2.same s').same sa);have gt2a:=sa _ _ gt2'';exists FK (sI.of gt2a) (eJ e2) ?_;exists ⟨⟨_,bO.of gx2⟩,?_⟩;refine BD (K:=K) (F:=dm K H) (λH'' c x=>∃q,x=V.ref q/\cL K H'' q c) (λr=>List.replicate 3 0++r) gx2 qx2 (by lia) (λa b=>a.same b) (λa b=>by obtain ⟨q,e,r⟩:=a;exact ⟨q,e,r.same b⟩) (λa=>by obtain ⟨q,e,_,gg,_⟩:=a;exact ⟨q,e,by rw[gg];exact λz=>nomatch z⟩) ?_ ?_
   ·rintro j ns x Hi NY NN en si ⟨q,rfl,_,zs,gz,qz⟩ k1;have ws:=(w2 ns (av en)).1;have lz:=qz.length;exists lJ ((sa.trans si) _ _ ga) gz (bc (bK (by rw[bx];lia))) λc Hj sj nj gj=>?_
    exact k1 _ _ sj ⟨c,rfl,_,gj,bT (tm ((((N0'.same s').same sa).same si).same sj) _) (Paired.imp' (λ_ _ z=>z.same sj) qz)⟩ ⟨c,rfl,nj⟩
   rintro ys2 Hb c2 hc2 sb gb2 nd2 ne2 pr2;have sab:=sa.trans sb;have ly1:=pr1.length;have ly2:=pr2.length;rw[ai] at ly1 ly2;exists lJ (sb _ _ ga1) gb2 (bc (bK (by lia))) λqn Hc sc nc gc=>?_
   have sac:=sab.trans sc;have gfc:=sac _ _ T.gf;exists jf gfc (bK (by rw[ai];lia)) ?_
   have rP:∀{c:List Rat} {x:V},(∃q,x=V.ref q/\cL K Hb q c)->(∃q,x=V.ref q/\H' q=none)->c.length=6+v->(∀y∈c,Fr 1 1 y)->fN K (λz=>H' z=none/\z≠qn) Hc (6+v) (Fr 1 1) x:=λ⟨q,e,r⟩ ⟨q',e',nq⟩ hl hf=>by
    rw[e] at e';cases e';exact ⟨q,_,e,⟨nq,λz=>by obtain ⟨_,gg,_⟩:=r;rw[z,nc] at gg;cases gg⟩,r.same sc,hl,hf⟩
   refine ⟨(s'.trans sac).after n10,some (.int i),L++[(qn,ys1++ys2)],rfl,T.snoc s' sac (sab.none nc) gc ?_ (λx hx=>?_),by rw[ax,bS,lL],λj e he=>?_⟩
   ·refine dG.mpr ⟨nd1,nd2,λx hx y hy z=>?_⟩;obtain ⟨_,_,q,e,_,gg,_⟩:=dh pr1 hx;obtain ⟨q',e',nq,_⟩:=ne2 y hy;rw[<- z,e] at e';cases e';rw[nq] at gg;cases gg
   ·rcases aG.mp hx with hx | hx
    ·obtain ⟨c,mc,q,e,r⟩:=dh pr1 hx;obtain ⟨ns,mn,rfl⟩:=aB.mp mc;obtain ⟨q',e',nq,_⟩:=ne1 x hx;refine rP ⟨q,e,r.same sb⟩ ⟨q',e',nq⟩ (by rw[ax,bx,(w1 ns mn).1];lia) λy hy=>?_
     rcases aG.mp hy with hy | hy
     ·exact (w1 ns mn).2 y hy
     ·rw[(dI.mp hy).2];exact Fr.zero
    ·obtain ⟨c,mc,q,e,r⟩:=dh pr2 hx;obtain ⟨ns,mn,rfl⟩:=aB.mp mc;obtain ⟨q',e',nq,_⟩:=ne2 x hx;refine rP ⟨q,e,r⟩ ⟨q',e',sa.none nq⟩ (by rw[ax,bx,(w2 ns mn).1];lia) λy hy=>?_
     rcases aG.mp hy with hy | hy
     ·rw[(dI.mp hy).2];exact Fr.zero
     ·exact (w2 ns mn).2 y hy
   ·rcases c4 j L.length with z | z
    ·rw[cu z] at he;exact hL j e he
    ·have hj:=(aJ.mp he).1;rw[ax,bS] at hj;have ej:j=L.length:=by lia
     subst ej;rw[bN (ao _),i5] at he;cases he;rw[lL,hlen,ax,ly1,ly2]
  ·rintro σ' H' ⟨s',x6,L,rfl,T,lL,hL⟩
   obtain ⟨⟨m,us⟩,⟨p,ws⟩,⟨l,vs⟩,rfl⟩:∃a b c,L=[a,b,c]:=by
    rcases L with _ | ⟨a,_ | ⟨b,_ | ⟨c,_ | ⟨d,L⟩⟩⟩⟩
    ·cases lL
    ·cases lL
    ·cases lL
    ·exact ⟨a,b,c,rfl⟩
    ·simp at lL
   have lu:us.length=6+v:=by have:=hL 0 _ rfl;simpa using this.symm
   have lw:ws.length=2:=by have:=hL 1 _ rfl;simpa using this.symm
   have lv:vs.length=2:=by have:=hL 2 _ rfl;simpa using this.symm
   have gf:=T.gf;obtain ⟨mn,mf,gm⟩:=T.ls (m,us) (by simp);obtain ⟨pn,pf,gp⟩:=T.ls (p,ws) (by simp);obtain ⟨ln,lf,gl⟩:=T.ls (l,vs) (by simp);have nd:=T.nd;have rw':=T.rows;have rd:=T.rd;clear T hL;have gf:H' fd=some (.lst [.ref m,.ref p,.ref l]):=gf;have nd:[m,p,l].Nodup:=nd;have rd:(us++(ws++(vs++[]))).Nodup:=rd;have u0':=u09.same s';have B':=B9.same s';have hm0:H m=none:=u09.none B9 mn;have hp0:H p=none:=u09.none B9 pn;have hl0:H l=none:=u09.none B9 ln;obtain ⟨A,eA⟩:∃A:Addr->Prop,A=λq=>H q=none/\q≠m/\q≠p/\q≠l:=⟨_,rfl⟩
   have mkA:∀{q},H q=none->q≠m->q≠p->q≠l->A q:=λh1 h2 h3 h4=>by rw[eA];exact ⟨h1,h2,h3,h4⟩
   have unA:∀{q},A q->H q=none/\q≠m/\q≠p/\q≠l:=λh=>by rw[eA] at h;exact h
   have nb:∀{q},H q=none->q≠b:=λh z=>hB.at (by rw[<- z];exact h)
   have MA:Fb A m p l b q0:=⟨λz=>(unA z).2.1 rfl,λz=>(unA z).2.2.1 rfl,λz=>(unA z).2.2.2 rfl,λz=>hB.at (unA z).1,(λz=>by have z1:=(unA z).1;rw[gq0] at z1;cases z1),nb hm0,nb hp0,nb hl0,by intro z;subst z;simp at nd,by intro z;subst z;simp at nd,λz=>by rw[<- z,hm0] at gq0;cases gq0⟩;have X:jL K A H' (6+v) (λ_=>Fr 1 1) m p l b q0 us ws vs:=⟨B',u0'.2 _ I0,gm,gp,gl,lu,λx hx=>?_,?_⟩
   ·exists ⟨b,m,p,l,q0,6+v,1,λ_=>1,A,us,ws,vs,rfl,MA,X,by lia,by lia,by lia,λ_=>Nat.zero_lt_one,λ_=>cX,⟨1,λ_ _ _=>rfl⟩,by decide,λq hq=>?_,λr us' H'' g Y kp=>?_⟩
    ·exact mkA (u0'.none B' hq) (λz=>by rw[z,gm] at hq;cases hq) (λz=>by rw[z,gp] at hq;cases hq) (λz=>by rw[z,gl] at hq;cases hq)
    ·obtain ⟨mv,Gm,lmv,hmv⟩:=j3 (H0:=H) (n:=6+v) (C:=Fr 1 (9^3*1)) (m:=6+v) ⟨us',Y.gm,Y.lm,MA.am,λx hx=>Y.row x (by simp [hx])⟩ λq h=>(unA h).1
     obtain ⟨pt,Gp,lpt,hpt⟩:=j3 (H0:=H) (n:=6+v) (C:=Fr 1 (9^3*1)) (m:=2) ⟨ws,Y.gp,lw,MA.ap,λx hx=>Y.row x (by simp [hx])⟩ λq h=>(unA h).1
     obtain ⟨lk,Gl,llk,hlk⟩:=j3 (H0:=H) (n:=6+v) (C:=Fr 1 (9^3*1)) (m:=2) ⟨vs,Y.gl,lv,MA.al,λx hx=>Y.row x (by simp [hx])⟩ λq h=>(unA h).1
     refine k r mv pt lk H'' ⟨m,p,l,g,hm0,hp0,hl0,Gm,Gp,Gl⟩ (by lia) ⟨by lia,by lia,by lia,λxs hx=>by rw[(hmv xs hx).1,lmv],λxs hx=>by rw[(hpt xs hx).1,lmv],λxs hx=>by rw[(hlk xs hx).1,lmv]⟩ (λxs hx=>(hmv xs hx).2) (λxs hx=>(hpt xs hx).2) (λxs hx=>(hlk xs hx).2) Y.bag ⟨λc' u e n1=>kp c' u (u0'.1 _ _ e n1) n1 (λz=>by have:=(unA z).1;rw[e] at this;cases this) (λz=>by rw[z,hm0] at e;cases e),λq h=>by rw[<- Inner.inj I0 h];exact Y.inn⟩
   ·have hx:∃e∈[(m,us),(p,ws),(l,vs)],x∈e.2:=by
     rcases aG.mp hx with hx | hx
     ·rcases aG.mp hx with hx | hx
      ·exact ⟨(m,us),by simp,hx⟩
      ·exact ⟨(l,vs),by simp,hx⟩
     ·exact ⟨(p,ws),by simp,hx⟩
    obtain ⟨e,he,hx⟩:=hx;refine (rw' e he x hx).weak (λq hq=>?_) (λ_ w=>w);obtain ⟨⟨h1,_⟩,h2⟩:=hq;have h2:q∉[m,p,l]:=h2;simp only[aI,ba,or_false,not_or] at h2;exact mkA (u09.none B9 h1) h2.1 h2.2.1 h2.2.2
   ·rw[kW] at rd
    have e:(us++vs++ws).Perm (us++(ws++vs)):=by
     rw[cC];exact List.Perm.append_left _ List.perm_append_comm
    exact e.nodup_iff.mpr rd
theorem pQ:a9 ["_law_bag_here","_law_wide","_law_way"] ["_law_bag_here","_law_wide"] (aL mR):=by walk_at "d"
theorem zx (T:Txt K mg Z) (ptree:P.given.tree=none):cN P w K mg base fX 2 Z.sk Z.rO ["_law_bag_here","_law_wide"] (yB K):=by
 have aV:=dY (P:=P) (w:=w) (base:=base) T ptree;have fJ:=kj (P:=P) (w:=w) (base:=base) T ptree;refine T.lS.F.ok pQ (λvs H Q E h=>?_) (λcdv A outer s H vs Q E hr h=>?_)
 ·obtain ⟨b,w,rfl,_⟩:=h;rfl
 ·obtain ⟨b,w,rfl,hB,w0,w1,k⟩:=h
  refine ⟨_,(au (aZ (i:=2) pQ.nd rfl (Or.inl rfl) (cG aV hr T.aX (ae (pv 0) (ae ak aj))))
   (au (di (bD rD (pv 2) ak (bJ _)) (aF (a8 (c6 (ae ak (ae ak aj))))) cp)
   (au (di (bD rD (pv 2) ak (bJ _)) (aF (a8 (c6 (ae (bC jW (cG aV hr T.aX (ae (pv 0) (ae ak aj))) ak) (ae ak aj))))) cp)
   (au (di (bD eS (pv 2) ak (bJ _)) (aF (a8 (cG fJ hr T.gA (ae (bC jW (cG aV hr T.aX (ae (pv 0) (ae ak aj))) ak) (ae (bC eT ak (cG aV hr T.aX (ae (pv 0) (ae ak aj)))) aj))))) cp)
   (aF (a8 (cG fJ hr T.gA (ae (bC jW (cG aV hr T.aX (ae (pv 0) (ae (bC eT (bC cV ak (pv 1)) ak) aj))) (pv 1)) (ae (bC eT ak (cG aV hr T.aX (ae (pv 0) (ae (pv 1) aj)))) aj))))))))),?_⟩
  refine aU (σ:=[some (.ref b),some (.int w),none]) rfl ?_;exists ⟨b,8,rfl,hB,by decide,by decide,λv H1 v0 v1 B1 u1=>?_⟩;exists iG (λh0=>?_) (λh0=>?_)
  ·exists cA λr H2 s2 g2=>?_
   exact k r 0 _ ⟨br _,by show 1<=_;lia⟩ (bV.mk g2 rfl) (B1.same s2) (u1.same s2)
  exists iG (λh1=>?_) (λh1=>?_)
  ·exists ⟨b,7,rfl,B1,by decide,by decide,λa H2 a0 a1 B2 u2=>?_⟩;exists cA λr H3 s3 g3=>?_
   exact k r ((a - 3:Int):Rat) _ ⟨by show (a - 3).natAbs<=_;lia,by show 1<=_;lia⟩ (bV.mk g3 rfl) (B2.same s3) ((u1.trans u2).same s3)
  exists iG (λh2=>?_) (λh2=>?_)
  ·exists ⟨b,13,rfl,B1,by decide,by decide,λa H2 a0 a1 B2 u2=>?_⟩;exists ⟨b,6,rfl,B2,by decide,by decide,λc H3 c0 c1 B3 u3=>?_⟩;exists ⟨_,_,rfl,by lia,(Fw (by lia)).mono (by decide),λr H4 s4 g4=>?_⟩;obtain ⟨q,e,d,_⟩:=F6 (t:=a - 6) (b:=1+c) (W:=max w 6) (by lia) (by lia) (by lia);exact k r q _ d (bV.mk g4 e) (B3.same s4) (((u1.trans u2).trans u3).same s4)
  exists ⟨b,_,rfl,B1,by lia,by lia,λa H2 a0 a1 B2 u2=>?_⟩;exists ⟨b,_,rfl,B2,by lia,by lia,λc H3 c0 c1 B3 u3=>?_⟩;exists ⟨_,_,rfl,by lia,(Fw (by lia)).mono (by decide),λr H4 s4 g4=>?_⟩;obtain ⟨q,e,d,_⟩:=F6 (t:=a - w) (b:=1+c) (W:=max w 6) (by lia) (by lia) (by lia);exact k r q _ d (bV.mk g4 e) (B3.same s4) (((u1.trans u2).trans u3).same s4)
theorem D6:a9 ["_law_bag_here","_law_many","_law_wide"] ["_law_bag_here","_law_many","_law_wide"] (aL sT):=by walk_at "d"
theorem mh (T:Txt K mg Z) (ptree:P.given.tree=none):cN P w K mg base fX 3 Z.Aj Z.zX ["_law_bag_here","_law_many","_law_wide"] (DW K):=by
 have AR:=zx (P:=P) (w:=w) (base:=base) T ptree;refine T.iq.F.ok D6 (λvs H Q E h=>?_) (λcdv A outer s H vs Q E hr h=>?_)
 ·obtain ⟨b,m,w,rfl,_⟩:=h;rfl
 ·obtain ⟨b,m,w,rfl,hB,hm,w0,w1,k⟩:=h;refine ⟨_,(aF (a8 (b9 ["_law_k"] ["_law_bag_here","_law_wide"] [0,2] (cy rfl T.range (ae (pv 1) aj)) (λ_=>(aS (i:=0) (show ND9 ["_law_k","_law_bag_here","_law_wide"] by decide +kernel))) (λ_=>cB) (λ_=>(cG AR hr T.lS (ae (pv 1) (ae (pv 2) aj))))))),?_⟩;refine aU (σ:=[some (.ref b),some (.int m),some (.int w)]) rfl ?_;exists ⟨by lia,by lia,?_⟩;refine wo (n:=m) (bV K) (Dr (max w 6)) hB hm (λa u B=>a.upto u B) ?_ ?_
  ·rintro i H' NY NN hi u B k1;exists ⟨b,w,rfl,B,w0,w1,λr x H2 hx h2 B2 u2=>k1 _ x _ u2 B2 hx h2⟩
  ·rintro ys cs H' p hp u B g lc hc pr nx;exact k p cs H' hp ⟨ys,g,pr⟩ lc hc B u
theorem ju:a9 ["_law_bag_here","_law_n","_law_way","_law_first","_law_wide","_law_move_here","_law_i","_law_row_here","_law_j"] ["_law_bag_here","_law_n","_law_way","_law_first","_law_wide"] (aL p7):=by walk_at "d"
theorem CQ (T:Txt K mg Z) (ptree:P.given.tree=none):cN P w K mg base fX 4 Z.xM Z.xr ["_law_bag_here","_law_n","_law_way","_law_first","_law_wide"] (DS K):=by
 have iB:=mh (P:=P) (w:=w) (base:=base) T ptree;have aV:=dY (P:=P) (w:=w) (base:=base) T ptree;refine T.oM.F.ok ju (λvs H Q E h=>?_) (λcdv A outer s H vs Q E hr h=>?_)
 ·obtain ⟨b,n,w,way,first,rfl,_⟩:=h;rfl
 ·obtain ⟨b,n,w,way,first,rfl,hB,n8,w0,w1,k⟩:=h
  refine ⟨_,(au (aZ (i:=5) ju.nd rfl (Or.inl rfl) (dJ aj))
   (au (eH PassesOwn.never rfl (cy rfl T.range (ae (pv 1) aj)) (aS (i:=6) ju.nd)
    (au (aZ (i:=7) ju.nd rfl (Or.inl rfl) (cG iB hr T.iq (ae (pv 0) (ae (pv 1) (ae (pv 4) aj)))))
   (au (eH PassesOwn.never rfl (cy rfl T.range (ae (pv 1) aj)) (aS (i:=8) ju.nd)
    (jg (di (PW.pt (jS (bD eS (pv 2) ak (bJ _)) (kO (bD wY (cG aV hr T.aX (ae (pv 0) (ae ak aj))) ak (bJ _))))) (aF (fF (c6 (ae ak (ae ak aj))) (ig (pv 7) (pv 8) set_list))) cp)
   (jg (di (PW.pt (jS (bD eS (pv 2) ak (bJ _)) (kO (bD rD (bC eT (pv 6) ak) (pv 1) (bJ _))))) (aF (fF (c6 (ae (gN nP (by rfl) T.int PyProof.Rows.boot_int (ae (j6 eS (pv 8) (bC eT (pv 6) ak) (bJ _)) aj)) (ae ak aj))) (ig (pv 7) (pv 8) set_list))) cp)
   (jg (di (PW.pt (qi (PW.pt (jS (bD eS (pv 2) ak (bJ _)) (jS (bD Bm (pv 6) (pv 3) (bJ _)) (kO (bD rD (pv 8) (pv 3) (bJ _)))))) (mV (PW.pt (jS (bD eS (pv 2) ak (bJ _)) (jS (bD rD (pv 6) (pv 3) (bJ _)) (kO (bD Bm (pv 8) (pv 3) (bJ _))))))))) (aF (fF (c6 (ae ak (ae ak aj))) (ig (pv 7) (pv 8) set_list))) cp)
   (aF (di (bD eS (pv 2) ak (bJ _)) (aF (fF (c6 (ae (bC cV (a7 bQ (dJ (ae ak (ae ak (ae (wV pH ak) (ae ak aj))))) (bC mW (pv 3) ak)) (gN nP (by rfl) T.int PyProof.Rows.boot_int (ae (j6 eS (pv 6) (pv 8) (bJ _)) aj))) (ae ak aj))) (ig (pv 7) (pv 8) set_list))) cp))))))
   (aF (iX (ug c5 dd dc ji (pv 5) (ae (pv 7) aj)))))))
   (aF (a8 (pv 5))))),?_⟩
  refine aU (σ:=[some (.ref b),some (.int n),some (.int way),some (.int first),some (.int w),none,none,none,none]) rfl ?_;have W1:1<=max w 6:=by lia
  exists dy λr H1 s1 n1 g1=>?_
  have rb:r≠b:=λz=>hB.at (by rw[<- z];exact n1)
  obtain ⟨q0,I0,xs0,gq0⟩:=hB.inner;have I1:Inner H1 b q0:=(s1.upto (p:=b)).2 _ I0;obtain ⟨A,eA⟩:∃A:Addr->Prop,A=λq=>H q=none/\q≠r:=⟨_,rfl⟩
  have nb:¬A b:=by rw[eA];exact λz=>hB.at z.1
  have nr:¬A r:=by rw[eA];exact λz=>z.2 rfl
  have nq:¬A q0:=by rw[eA];exact λz=>by have z1:=z.1;rw[gq0] at z1;cases z1
  have rq:r≠q0:=λz=>by rw[<- z,n1] at gq0;cases gq0
  exists ⟨by lia,by lia,?_⟩;refine eX (n:=n) (λi σ' H'=>∃(x1 x2 x3:Option V) (us:List V),σ'=[some (.ref b),some (.int n),some (.int way),some (.int first),some (.int w),some (.ref r),x1,x2,x3]/\H' r=some (.lst us)/\us.length=i/\us.Nodup/\(∀x∈us,fN K A H' n (Dr (max w 6)) x)/\hZ H' b/\Inner H' b q0/\cZ b H H') ⟨none,none,none,[],rfl,g1,rfl,mK,(λ_ z=>nomatch z),hB.same s1,I1,s1.upto⟩ ?_ ?_
  ·rintro i σ' H' hi ⟨x1,x2,x3,us,rfl,gu,lu,nd,ru,B',I',u'⟩;exists ⟨b,n,w,rfl,B',by lia,w0,w1,λp xs Ha np Ra la da Ba ua=>?_⟩;have hp0:H p=none:=u'.none B' np
   have pn:V.ref p∉us:=λz=>by
    obtain ⟨q',_,_,e',_,g',_⟩:=(ru _ z).at;cases e';rw[np] at g';cases g'
   have ap':H p=none/\p≠r:=⟨hp0,λz=>by rw[z,gu] at np;cases np⟩;have ap:A p:=by rw[eA];exact ap'
   have X0:IS K A n (Dr (max w 6)) r p b q0 us H Ha:=⟨ua.other rb gu,λx hx=>(ru x hx).upto ua B' nb,⟨p,xs,rfl,ap,Ra,la,da⟩,Ba,ua.2 _ I',u'.trans ua⟩;clear ru Ra gu;exists ⟨by lia,by lia,?_⟩;refine eX (n:=n) (λj σ' H'=>(∃x3,σ'=[some (.ref b),some (.int n),some (.int way),some (.int first),some (.int w),some (.ref r),some (.int i),some (.ref p),x3])/\IS K A n (Dr (max w 6)) r p b q0 us H H') ⟨⟨_,rfl⟩,X0⟩ ?_ ?_
   ·rintro j σ' Hj hj ⟨⟨x3,rfl⟩,X⟩;exists ⟨λσ' H'=>σ'=[some (.ref b),some (.int n),some (.int way),some (.int first),some (.int w),some (.ref r),some (.int i),some (.ref p),some (.int j)]/\IS K A n (Dr (max w 6)) r p b q0 us H H',?_,?_⟩
    ·exists iG (λ_=>?_) (λ_=>?_)
     ·exists ⟨b,3,rfl,X.bag,by decide,by decide,λd Hd d0 d1 Bd ud=>?_⟩;replace X:=X.upto ud Bd nb rb
      repeat' (first | walk_at "rd" | refine iG (λ_=>?_) (λ_=>?_))
      all_goals first
       | exact ⟨rfl,X⟩
       | (refine cA λt Hb sb gb=>?_;walk_at "w";obtain ⟨zs,gz,lz,Xz⟩:=(X.same sb).put ap nr nb nq hp0 (bV.mk (q:=0) gb rfl) (qE (i:=0) (br _) W1) j;refine ft gz (fO (by lia)) rfl ?_;exact ⟨rfl,Xz⟩)
     ·exists ⟨rfl,X⟩
    clear X;rintro σ' Hj ⟨rfl,X⟩;refine ⟨λσ' H'=>σ'=[some (.ref b),some (.int n),some (.int way),some (.int first),some (.int w),some (.ref r),some (.int i),some (.ref p),some (.int j)]/\IS K A n (Dr (max w 6)) r p b q0 us H H',?_,?_⟩
    ·repeat' (first | walk_at "rd" | refine iG (λ_=>?_) (λ_=>?_))
     all_goals first
      | exact ⟨rfl,X⟩
      | (refine cA λt Hb sb gb=>?_;walk_at "w";obtain ⟨zs,gz,lz,Xz⟩:=(X.same sb).put ap nr nb nq hp0 (bV.mk (q:=((if decide ((j:Int)=(i:Int)+1)=true then (1:Int) else 0:Int):Rat)) gb rfl) (qE (by split <;> lia) W1) j;refine ft gz (fO (by lia)) rfl ?_;exact ⟨rfl,Xz⟩)
    clear X;rintro σ' Hj ⟨rfl,X⟩;refine ⟨λσ' H'=>σ'=[some (.ref b),some (.int n),some (.int way),some (.int first),some (.int w),some (.ref r),some (.int i),some (.ref p),some (.int j)]/\IS K A n (Dr (max w 6)) r p b q0 us H H',?_,?_⟩
    ·repeat' (first | walk_at "rd" | refine iG (λ_=>?_) (λ_=>?_))
     all_goals first
      | exact ⟨rfl,X⟩
      | (refine cA λt Hb sb gb=>?_;walk_at "w";obtain ⟨zs,gz,lz,Xz⟩:=(X.same sb).put ap nr nb nq hp0 (bV.mk (q:=0) gb rfl) (qE (i:=0) (br _) W1) j;refine ft gz (fO (by lia)) rfl ?_;exact ⟨rfl,Xz⟩)
    clear X;rintro σ' Hj ⟨rfl,X⟩;exists iG (λ_=>?_) (λ_=>?_)
    ·exists dy λl0 Hc sc nc gc=>?_
     walk_at "w";obtain ⟨x,ex,mx,_⟩:=jH (xs:=[V.int 2,V.int 1,V.int (-1),V.int 0]) (i:=first % 4) (kX _ (by decide)) (by have:=ja first (show (0:Int) < 4 by decide);simpa using this)
     obtain ⟨z,rfl,hz⟩:∃z:Int,x=.int z/\z.natAbs<=2:=by
      simp only[aI,ba,or_false] at mx;rcases mx with rfl | rfl | rfl | rfl
      ·exact ⟨2,rfl,by decide⟩
      ·exact ⟨1,rfl,by decide⟩
      ·exact ⟨-1,rfl,by decide⟩
      ·exact ⟨0,rfl,by decide⟩
     refine cx (bO.of gc) ex ?_;exists fj (Di (by lia) (by lia)) ?_;exists cA λt Hb sb gb=>?_
     walk_at "w";obtain ⟨zs,gz,lz,Xz⟩:=((X.same sc).same sb).put ap nr nb nq hp0 (bV.mk (q:=((z*(if decide ((i:Int)=(j:Int))=true then (1:Int) else 0):Int):Rat)) gb rfl) (qE (by split <;> lia) W1) j;refine ft gz (fO (by lia)) rfl ?_;exact ⟨⟨_,rfl⟩,Xz⟩
    ·exists ⟨⟨_,rfl⟩,X⟩
   ·rintro σ' Hj ⟨⟨x3,rfl⟩,X⟩;exists ⟨.inl ⟨rfl,_,bO.of X.gr⟩,?_⟩;exists jf X.gr (bK (by lia)) ?_;refine ⟨_,_,_,us++[.ref p],rfl,aM,by simp [lu],oE nd pn,λx hx=>?_,X.bag.upd X.inn rb rq,X.inn.upd rb,X.up.after n1⟩;rcases aG.mp hx with hx | hx
    ·exact (X.ru x hx).other X.gr nr
    ·have e:x=V.ref p:=by simpa using hx
     rw[e];exact X.rp.other X.gr nr
  ·rintro σ' H' ⟨x1,x2,x3,us,rfl,gu,lu,nd,ru,B',I',u'⟩;exists k r us H' n1 gu lu nd (by rw[eA] at ru;exact ru) B' u'
theorem dS:a9 ["_law_bag_here","_law_n","_law_ins","_law_outs","_law_wide","_law_way","_law_first","_law_move_here","_law_put","_law_look","_law_k","_law_row_here"] ["_law_bag_here","_law_n","_law_ins","_law_outs","_law_wide"] (aL oq):=by walk_at "d"
theorem AI (T : Txt K mg Z) (ptree : P.given.tree = none) : cN P w K mg base fX 5 Z.va Z.uM ["_law_bag_here", "_law_n", "_law_ins", "_law_outs", "_law_wide"] (A5 K) := by
  have aV := dY (P := P) (w := w) (base := base) T ptree;have Fh := CQ (P := P) (w := w) (base := base) T ptree;have iB := mh (P := P) (w := w) (base := base) T ptree;have oW := rF (P := P) (w := w) (base := base) T ptree;refine T.nv.F.ok dS (λvs H Q E h => ?_) (λcdv A outer s H vs Q E hr h => ?_)
  · obtain ⟨b, n, i, o, w, c, rfl, _⟩ := h;rfl
  · obtain ⟨b, n, i, o, w, c, rfl, hB, n8, i4, o4, w0, w1, hc, hc20, hcM, k⟩ := h
    refine ⟨_, (au (aZ (i := 5) dS.nd rfl (Or.inl rfl) (cG aV hr T.aX (ae (pv 0) (ae ak aj))))
      (au (aZ (i := 6) dS.nd rfl (Or.inl rfl) (cG aV hr T.aX (ae (pv 0) (ae (bC eT (pv 1) ak) aj))))
      (au (aZ (i := 7) dS.nd rfl (Or.inl rfl) (cG Fh hr T.oM (ae (pv 0) (ae (pv 1) (ae (pv 5) (ae (pv 6) (ae (pv 4) aj)))))))
      (au (qS 8 ["_law_k"] ["_law_bag_here", "_law_n", "_law_wide"] [0, 1, 4] dS.nd rfl rfl (cy rfl T.range (ae (pv 2) aj)) (λ_ => (aS (i := 0) (show List.Nodup (α := PySem.Str) ["_law_k", "_law_bag_here", "_law_n", "_law_wide"] by decide +kernel))) (λ_ => cB) (λ_ => (cG iB hr T.iq (ae (pv 1) (ae (pv 2) (ae (pv 3) aj))))))
      (au (qS 9 ["_law_k"] ["_law_bag_here", "_law_n", "_law_wide"] [0, 1, 4] dS.nd rfl rfl (cy rfl T.range (ae (pv 3) aj)) (λ_ => (aS (i := 0) (show List.Nodup (α := PySem.Str) ["_law_k", "_law_bag_here", "_law_n", "_law_wide"] by decide +kernel))) (λ_ => cB) (λ_ => (cG iB hr T.iq (ae (pv 1) (ae (pv 2) (ae (pv 3) aj))))))
      (au (eH PassesOwn.never rfl (cy rfl T.range (ae (pv 1) aj)) (aS (i := 10) dS.nd)
        (au (eH PassesOwn.never rfl (cP (pv 8)) (aS (i := 11) dS.nd)
        (aF (di (PW.pt (qi (PW.pt (jS (bD eS (pv 5) ak (bJ _)) (kO (bD Bm (pv 10) (pv 6) (bJ _))))) (mV (PW.pt (jS (bD eS (pv 5) ak (bJ _)) (jS (bD rD (bC eT (pv 10) ak) (pv 1) (bJ _)) (kO (bD eS (cG aV hr T.aX (ae (pv 0) (ae ak aj))) ak (bJ _))))))))) (aF (fF (c6 (ae ak (ae ak aj))) (ig (pv 11) (pv 10) set_list))) cp)))
      (aF (eH PassesOwn.never rfl (cP (pv 9)) (aS (i := 11) dS.nd)
        (aF (di (PW.pt (qi (PW.pt (jS (bD eS (pv 5) ak (bJ _)) (kO (bD Bm (pv 10) (pv 6) (bJ _))))) (mV (PW.pt (jS (bD eS (pv 5) ak (bJ _)) (jS (bD wY (pv 10) ak (bJ _)) (kO (bD eS (cG aV hr T.aX (ae (pv 0) (ae ak aj))) ak (bJ _))))))))) (aF (fF (c6 (ae ak (ae ak aj))) (ig (pv 11) (pv 10) set_list))) cp))))))
      (aF (a8 (cG oW hr T.j8 (ae (pv 0) (ae (pv 7) (ae (pv 8) (ae (pv 9) aj))))))))))))), ?_⟩
    refine aU (σ := [some (.ref b), some (.int n), some (.int i), some (.int o), some (.int w), none, none, none, none, none, none, none]) rfl ?_;have W1 : 1 ≤ max w 6 := by lia
    obtain ⟨q0, I0, xs0, gq0⟩ := hB.inner;exists ⟨b, 6, rfl, hB, by decide, by decide, λway H1 a0 a1 B1 u1 => ?_⟩;exists ⟨b, _, rfl, B1, by lia, by lia, λfirst H2 f0 f1 B2 u2 => ?_⟩;have u02 := u1.trans u2;exists ⟨b, n, w, way, first, rfl, B2, n8, w0, w1, λm us H3 nm0 gm lm ndm rm B3 u3 => ?_⟩;have u03 := u02.trans u3;exists ⟨by lia, by lia, ?_⟩;refine BF (n := i) (b := b) (dm K H3) (λxs => xs.length = n /\ ∀ x ∈ xs, Dr (max w 6) x) B3 (by lia) (λa u B => a.upto u B B3.at) (λ⟨q, e, _, _, g, _⟩ => ⟨q, e, by rw [g]; exact λz => nomatch z⟩) ?_ ?_
    · rintro s H' NY NN hi u B k1;exists ⟨b, n, w, rfl, B, by lia, w0, w1, λr xs H2 nr R lx dx B2 u2 => k1 _ xs _ u2 B2 ⟨lx, dx⟩ ⟨r, rfl, u.none B nr, R⟩ ⟨r, rfl, nr⟩⟩
    rintro ws puts H4 p np u4 B4 gp lp ndp hp pr4 nx4;have u04 := u03.trans u4;exists ⟨by lia, by lia, ?_⟩;refine BF (n := o) (b := b) (dm K H4) (λxs => xs.length = n /\ ∀ x ∈ xs, Dr (max w 6) x) B4 (by lia) (λa u B => a.upto u B B4.at) (λ⟨q, e, _, _, g, _⟩ => ⟨q, e, by rw [g]; exact λz => nomatch z⟩) ?_ ?_
    · rintro s H' NY NN hi u B k1;exists ⟨b, n, w, rfl, B, by lia, w0, w1, λr xs H2 nr R lx dx B2 u2 => k1 _ xs _ u2 B2 ⟨lx, dx⟩ ⟨r, rfl, u.none B nr, R⟩ ⟨r, rfl, nr⟩⟩
    rintro vs looks H5 l nl u5 B5 gl ll ndl hl pr5 nx5;have u05 := u04.trans u5;have hm0 : H m = none := u02.none B2 nm0;have hp0 : H p = none := u03.none B3 np;have hl0 : H l = none := u04.none B4 nl;have mb : m ≠ b := λz => B2.at (by rw [<- z]; exact nm0)
    have pb : p ≠ b := λz => B3.at (by rw [<- z]; exact np)
    have lb : l ≠ b := λz => B4.at (by rw [<- z]; exact nl)
    have gm4 := u4.other mb gm;have gm5 := u5.other mb gm4;have gp5 := u5.other pb gp;have mp : m ≠ p := λz => by rw [z, np] at gm; cases gm
    have ml : m ≠ l := λz => by rw [z, nl] at gm4; cases gm4
    have pl : p ≠ l := λz => by rw [z, nl] at gp; cases gp
    have mq : m ≠ q0 := λz => Inner.at B2 (u02.2 _ I0) (by rw [<- z]; exact nm0)
    obtain ⟨A, eA⟩ : ∃ A : Addr → Prop, A = λq => H q = none /\ q ≠ m /\ q ≠ p /\ q ≠ l := ⟨_, rfl⟩
    have mkA : ∀ {q}, H q = none → q ≠ m → q ≠ p → q ≠ l → A q := λh1 h2 h3 h4 => by rw [eA]; exact ⟨h1, h2, h3, h4⟩
    have unA : ∀ {q}, A q → H q = none /\ q ≠ m /\ q ≠ p /\ q ≠ l := λh => by rw [eA] at h; exact h
    have MA : Fb A m p l b q0 := ⟨λz => (unA z).2.1 rfl, λz => (unA z).2.2.1 rfl, λz => (unA z).2.2.2 rfl, λz => hB.at (unA z).1, (λz => by have z1 := (unA z).1; rw [gq0] at z1; cases z1), mb, pb, lb, mp, ml, mq⟩;clear eA;have lws : ws.length = i := by rw [<- pr4.length]; exact lp
    have lvs : vs.length = o := by rw [<- pr5.length]; exact ll
    have alM : ∀ q, V.ref q ∈ us → H3 q ≠ none /\ q ≠ b /\ H4 q ≠ none := λq hq => by
      obtain ⟨q', qs, e, ⟨a1, a2⟩, r, z⟩ := rm _ hq;cases e;have qb : q ≠ b := λy => B2.at (by rw [<- y]; exact a1)
      obtain ⟨xq, gq, _⟩ := id r;obtain ⟨xq4, gq4, _⟩ := r.upto u4 B3 qb;exact ⟨(by rw [gq]; exact λz => nomatch z), qb, (by rw [gq4]; exact λz => nomatch z)⟩
    have alP : ∀ q, V.ref q ∈ ws → H3 q = none /\ H4 q ≠ none := λq hq => by
      obtain ⟨_, _, q', e, a, _, g, _⟩ := dh pr4 hq;cases e;exact ⟨a, by rw [g]; exact λz => nomatch z⟩
    have alL : ∀ q, V.ref q ∈ vs → H4 q = none := λq hq => by
      obtain ⟨_, _, q', e, a, _⟩ := dh pr5 hq;cases e;exact a
    have isR : ∀ x, x ∈ us \/ x ∈ ws \/ x ∈ vs → ∃ q, x = V.ref q := λx hx => by
      rcases hx with hx | hx | hx
      · obtain ⟨q, _, e, _⟩ := rm x hx; exact ⟨q, e⟩
      · obtain ⟨_, _, q, e, _⟩ := dh pr4 hx; exact ⟨q, e⟩
      · obtain ⟨_, _, q, e, _⟩ := dh pr5 hx; exact ⟨q, e⟩
    have nd : (us ++ vs ++ ws).Nodup := by
      refine dG.mpr ⟨dG.mpr ⟨ndm, ndl, λx hx y hy e => ?_⟩, ndp, λx hx y hy e => ?_⟩
      · subst e;obtain ⟨q, rfl⟩ := isR x (.inl hx);exact (alM q hx).2.2 (alL q hy)
      · subst e;obtain ⟨q, rfl⟩ := isR x (.inr (.inl hy));rcases aG.mp hx with hx | hx
        · exact (alM q hx).1 (alP q hy).1
        · exact (alP q hy).2 (alL q hx)
    have X5 : Gy K A n (Dr (max w 6)) m p l b q0 us ws vs H H5 := by
      refine ⟨⟨B5, u05.2 _ I0, gm5, gp5, gl, lm, λx hx => ?_, nd⟩, gp5, gl, λc u e n1 _ _ => u05.1 c u e n1⟩;rcases aG.mp hx with hx | hx
      · rcases aG.mp hx with hx | hx
        · obtain ⟨q, qs, e, ⟨a1, a2⟩, r, z⟩ := rm x hx;obtain ⟨xq, gq, _⟩ := id r;have qb : q ≠ b := λy => B2.at (by rw [<- y]; exact a1)
          have r4 := r.upto u4 B3 qb;obtain ⟨xq4, gq4, _⟩ := id r4;exact ⟨q, qs, e, mkA (u02.none B2 a1) a2 (λy => by rw [y, np] at gq; cases gq) (λy => by rw [y, nl] at gq4; cases gq4), r4.upto u5 B4 qb, z⟩
        · refine KP (A := A) pr5 hl (λq hq a b' => ?_) x hx;exact mkA (u04.none B4 a) (λy => by rw [y, gm4] at a; cases a) (λy => by rw [y, gp] at a; cases a) (λy => jy nx5 (by rw [<- y]; exact hq))
      · refine fN.upto (KP (A := A) pr4 hp (λq hq a b' => ?_) x hx) u5 B4 MA.ab;exact mkA (u03.none B3 a) (λy => by rw [y, gm] at a; cases a) (λy => jy nx4 (by rw [<- y]; exact hq)) (λy => b' (by rw [y]; exact nl))
    clear alM alP alL isR rm pr4 pr5 nx4 nx5 gm gm4 gm5 gp gp5 gl hp hl;exists ⟨by lia, by lia, ?_⟩;refine eX (n := n) (λkk σ' H' => (∃ x1 x2, σ' = [some (.ref b), some (.int n), some (.int i), some (.int o), some (.int w), some (.int way), some (.int first), some (.ref m), some (.ref p), some (.ref l), x1, x2]) /\ Gy K A n (Dr (max w 6)) m p l b q0 us ws vs H H') ⟨⟨_, _, rfl⟩, X5⟩ ?_ ?_
    · rintro kk σ' Hj hk ⟨⟨x1, x2, rfl⟩, X⟩;exists ⟨⟨_, bO.of X.gp⟩, ?_⟩;refine iV (K := K) (a := p) (xs := ws) (λs σ' H' => (∃ x2, σ' = [some (.ref b), some (.int n), some (.int i), some (.int o), some (.int w), some (.int way), some (.int first), some (.ref m), some (.ref p), some (.ref l), some (.int kk), x2]) /\ Gy K A n (Dr (max w 6)) m p l b q0 us ws vs H H') ⟨⟨_, rfl⟩, X⟩ (λs σ' H' _ ⟨_, e⟩ => bO.of e.gp) ?_ ?_
      · rintro s x σ' Hk hx ⟨⟨y2, rfl⟩, X⟩;have mx := av hx;obtain ⟨q, _, rfl, _⟩ := X.row (.inl mx)
        repeat' (first | walk_at "rd" | refine iG (λ_ => ?_) (λ_ => ?_))
        all_goals first
          | exact ⟨⟨_, rfl⟩, X⟩
          | (refine cA λt Hb sb gb => ?_; walk_at "w"; obtain ⟨zs, gz, lz, Xz⟩ := (X.same sb).put MA (.inl mx) (bV.mk (q := 0) gb rfl) (qE (i := 0) (br _) W1) kk; refine ft gz (fO (by lia)) rfl ?_; exact ⟨⟨_, rfl⟩, Xz⟩)
          | (refine ⟨b, 2, rfl, X.mix.bag, by decide, by decide, λd Hd d0 d1 Bd ud => ?_⟩
             replace X := X.upto MA ud Bd
             repeat' (first | walk_at "rd" | refine iG (λ_ => ?_) (λ_ => ?_))
             all_goals first
               | exact ⟨⟨_, rfl⟩, X⟩
               | (refine cA λt Hb sb gb => ?_
                  walk_at "w";obtain ⟨zs, gz, lz, Xz⟩ := (X.same sb).put MA (.inl mx) (bV.mk (q := 0) gb rfl) (qE (i := 0) (br _) W1) kk;refine ft gz (fO (by lia)) rfl ?_;exact ⟨⟨_, rfl⟩, Xz⟩))
      · rintro σ' Hk ⟨⟨y2, rfl⟩, X⟩;exists ⟨⟨_, bO.of X.gl⟩, ?_⟩;refine iV (K := K) (a := l) (xs := vs) (λs σ' H' => (∃ x2, σ' = [some (.ref b), some (.int n), some (.int i), some (.int o), some (.int w), some (.int way), some (.int first), some (.ref m), some (.ref p), some (.ref l), some (.int kk), x2]) /\ Gy K A n (Dr (max w 6)) m p l b q0 us ws vs H H') ⟨⟨_, rfl⟩, X⟩ (λs σ' H' _ ⟨_, e⟩ => bO.of e.gl) ?_ ?_
        · rintro s x σ' Hk hx ⟨⟨y2, rfl⟩, X⟩;have mx := av hx;obtain ⟨q, _, rfl, _⟩ := X.row (.inr mx)
          repeat' (first | walk_at "rd" | refine iG (λ_ => ?_) (λ_ => ?_))
          all_goals first
            | exact ⟨⟨_, rfl⟩, X⟩
            | (refine cA λt Hb sb gb => ?_; walk_at "w"; obtain ⟨zs, gz, lz, Xz⟩ := (X.same sb).put MA (.inr mx) (bV.mk (q := 0) gb rfl) (qE (i := 0) (br _) W1) kk; refine ft gz (fO (by lia)) rfl ?_; exact ⟨⟨_, rfl⟩, Xz⟩)
            | (refine ⟨b, 2, rfl, X.mix.bag, by decide, by decide, λd Hd d0 d1 Bd ud => ?_⟩
               replace X := X.upto MA ud Bd
               repeat' (first | walk_at "rd" | refine iG (λ_ => ?_) (λ_ => ?_))
               all_goals first
                 | exact ⟨⟨_, rfl⟩, X⟩
                 | (refine cA λt Hb sb gb => ?_
                    walk_at "w";obtain ⟨zs, gz, lz, Xz⟩ := (X.same sb).put MA (.inr mx) (bV.mk (q := 0) gb rfl) (qE (i := 0) (br _) W1) kk;refine ft gz (fO (by lia)) rfl ?_;exact ⟨⟨_, rfl⟩, Xz⟩))
        · rintro σ' Hk ⟨⟨y2, rfl⟩, X⟩;exact ⟨⟨_, _, rfl⟩, X⟩
    · rintro σ' Hj ⟨⟨x1, x2, rfl⟩, X⟩
      obtain ⟨M1, M2, M3, V0, a1, a2, a3, V2, hcs, R1, R2, R3⟩ : ∃ M1 M2 M3 V0 : Nat, (0 < M1 /\ M1 ≤ 2 ^ 800) /\ (0 < M2 /\ M2 ≤ 2 ^ 800) /\ (0 < M3 /\ M3 ≤ 2 ^ 800) /\ V0 ≤ 2 ^ 20 /\ ((w ≤ 9 /\ M1 = 2520 /\ M2 = 2520 /\ M3 = 2520 /\ V0 = 9) \/ (9 < w /\ M1 ≤ 2 ^ (c * (n * n)) /\ M2 ≤ 2 ^ (c * (i * n)) /\ M3 ≤ 2 ^ (c * (o * n)) /\ V0 = 2 ^ c)) /\ (∀ x ∈ us, fN K A Hj n (Fr M1 V0) x) /\ (∀ x ∈ ws, fN K A Hj n (Fr M2 V0) x) /\ ∀ x ∈ vs, fN K A Hj n (Fr M3 V0) x := by
        by_cases w9 : w ≤ 9
        · have XM := X.mix.weak (C' := λ_ => Fr 2520 9) λ_ _ y h => LW ⟨ag h.1 (by lia), ag h.2 (by lia)⟩ (yp _)
          have z : 0 < 2520 /\ 2520 ≤ 2 ^ 800 := ⟨by decide, ag (show 2520 ≤ 2 ^ 12 by decide) (ar (by decide) (by decide))⟩;exact ⟨2520, 2520, 2520, 9, z, z, z, by decide, .inl ⟨w9, rfl, rfl, rfl, rfl⟩, λx hx => XM.row x (by simp [hx]), λx hx => XM.row x (by simp [hx]), λx hx => XM.row x (by simp [hx])⟩
        · obtain ⟨M1, M2, M3, a1, a2, a3, b1, b2, b3, R1, R2, R3⟩ := (X.mix.weak (C' := λ_ => Dr (2 ^ c)) λ_ _ y h => ⟨ag h.1 hc, ag h.2 hc⟩).fr3;rw [lws] at b2;rw [lvs] at b3;have up : ∀ {M k : Nat}, M ≤ 2 ^ (c * k) → k ≤ (n + i + o) * n → M ≤ 2 ^ 800 := λh hk => ag h (ar (by decide) (ag (aA _ hk) hcM))
          exact ⟨M1, M2, M3, 2 ^ c, ⟨a1, up b1 (ay _ (by lia))⟩, ⟨a2, up b2 (ay _ (by lia))⟩, ⟨a3, up b3 (ay _ (by lia))⟩, ar (by decide) hc20, .inr ⟨by lia, b1, b2, b3, rfl⟩, R1, R2, R3⟩
      obtain ⟨μ, e2, e3, e1, e4⟩ := Lm ws vs M1 M2 M3;obtain ⟨ap1, ap2⟩ := X.mix.apart
      have XM : jL K A Hj n (λx => Fr (μ x) V0) m p l b q0 us ws vs := by
        refine ⟨X.mix.bag, X.mix.inn, X.mix.gm, X.mix.gp, X.mix.gl, X.mix.lm, λx hx => ?_, X.mix.nd⟩;rcases aG.mp hx with hx | hx
        · rcases aG.mp hx with hx | hx
          · rw [e1 x (ap1 x hx).1 (ap1 x hx).2]; exact R1 x hx
          · rw [e3 x hx (ap2 x hx)]; exact R3 x hx
        · rw [e2 x hx]; exact R2 x hx
      have p1 : ∀ x, 0 < μ x := λx => by
        rcases e4 x with e | e | e
        · rw [e]; exact a1.1
        · rw [e]; exact a2.1
        · rw [e]; exact a3.1
      have p2 : ∀ x, μ x ≤ 2 ^ 800 := λx => by
        rcases e4 x with e | e | e
        · rw [e]; exact a1.2
        · rw [e]; exact a2.2
        · rw [e]; exact a3.2
      have gmj := X.mix.gm;exists ⟨b, m, p, l, q0, n, V0, μ, A, us, ws, vs, rfl, MA, XM, n8, by lia, by lia, p1, p2, ⟨M1, e1⟩, V2, λq hq => ?_, λr us' H' g Y kp => ?_⟩
      · refine mkA ?_ (λz => by rw [z, gmj] at hq; cases hq) (λz => by rw [z, X.gp] at hq; cases hq) (λz => by rw [z, X.gl] at hq; cases hq);cases e : H q with
        | none => rfl
        | some u =>
          have := X.kp q u e (λz => X.mix.bag.at (by rw [<- z]; exact hq)) (λz => by have := (unA z).1; rw [e] at this; cases this) (λz => by rw [z, hm0] at e; cases e);rw [hq] at this; cases this
      · obtain ⟨yp1, yp2⟩ := Y.apart;obtain ⟨mv, Gm, lmv, hmv⟩ := j3 (H0 := H) (n := n) (C := Fr M1 (9 ^ 3 * V0)) (m := n) ⟨us', Y.gm, Y.lm, MA.am, λx hx => by have := Y.row x (by simp [hx]); rwa [e1 x (yp1 x hx).1 (yp1 x hx).2] at this⟩ λq h => (unA h).1
        obtain ⟨pt, Gp, lpt, hpt⟩ := j3 (H0 := H) (n := n) (C := Fr M2 (9 ^ 3 * V0)) (m := i) ⟨ws, Y.gp, lws, MA.ap, λx hx => by have := Y.row x (by simp [hx]); rwa [e2 x hx] at this⟩ λq h => (unA h).1
        obtain ⟨lk, Gl, llk, hlk⟩ := j3 (H0 := H) (n := n) (C := Fr M3 (9 ^ 3 * V0)) (m := o) ⟨vs, Y.gl, lvs, MA.al, λx hx => by have := Y.row x (by simp [hx]); rwa [e3 x hx (yp2 x hx)] at this⟩ λq h => (unA h).1
        refine k r mv pt lk H' ⟨m, p, l, g, hm0, hp0, hl0, Gm, Gp, Gl⟩ lmv lpt llk ⟨by lia, by lia, by lia, λxs hx => by rw [(hmv xs hx).1, lmv], λxs hx => by rw [(hpt xs hx).1, lmv], λxs hx => by rw [(hlk xs hx).1, lmv]⟩ ⟨M1, M2, M3, 9 ^ 3 * V0, a1.1, a2.1, a3.1, λxs hx => (hmv xs hx).2, λxs hx => (hpt xs hx).2, λxs hx => (hlk xs hx).2, ?_⟩ Y.bag ⟨λc' u e n1 => (X.kp.trans kp) c' u e n1 (λz => by have := (unA z).1; rw [e] at this; cases this) (λz => by rw [z, hm0] at e; cases e), λq h => by rw [<- Inner.inj I0 h]; exact Y.inn⟩;rcases hcs with ⟨b1, b2, b3, b4, b5⟩ | ⟨b1, b2, b3, b4, b5⟩
        · exact .inl ⟨b1, b2, b3, b4, by rw [b5]⟩
        · exact .inr ⟨b1, b2, b3, b4, by rw [b5]⟩
theorem ic:a9 ["_law_bag_here","_law_n","_law_ins","_law_outs","_law_wide"] ["_law_bag_here"] (aL mQ):=by walk_at "d"
theorem zv (T:Txt K mg Z) (ptree:P.given.tree=none):cN P w K mg base fX 6 Z.rZ Z.rN ["_law_bag_here"] (MM K):=by
 have Dx:=AH (P:=P) (w:=w) (base:=base) T ptree;have aV:=dY (P:=P) (w:=w) (base:=base) T ptree;have wN:=uo (P:=P) (w:=w) (base:=base) T ptree;have mE:=uq (P:=P) (w:=w) (base:=base) T ptree;have Dy:=AI (P:=P) (w:=w) (base:=base) T ptree;refine T.lQ.F.ok ic (λvs H Q E h=>?_) (λcdv A outer s H vs Q E hr h=>?_)
 ·obtain ⟨b,rfl,_⟩:=h;rfl
 ·obtain ⟨b,rfl,hB,k⟩:=h
  refine ⟨_,(au (fF (cG Dx hr T.nk (ae (pv 0) aj)) (td rfl (cE (aS (i:=1) ic.nd) (cE (aS (i:=2) ic.nd) (cE (aS (i:=3) ic.nd) (cE (aS (i:=4) ic.nd) gW))))))
   (au (di (bD eS (cG aV hr T.aX (ae (pv 0) (ae ak aj))) ak (bJ _)) (au (di (bD eS (cG aV hr T.aX (ae (pv 0) (ae ak aj))) ak (bJ _)) (aF (a8 (c6 (ae (cG wN hr T.jB (ae (pv 0) aj)) (ae ak aj))))) cp)
   (aF (a8 (c6 (ae (cG mE hr T.jD (ae (pv 0) (ae (bC eT ak (cG aV hr T.aX (ae (pv 0) (ae ak aj)))) aj))) (ae ak aj)))))) cp)
   (aF (a8 (c6 (ae (cG Dy hr T.nv (ae (pv 0) (ae (pv 1) (ae (pv 2) (ae (pv 3) (ae (pv 4) aj)))))) (ae (bP (rg rfl) (by rfl) T.min PyProof.Rows.boot_min (ae (pv 4) (ae ak aj))) aj))))))),?_⟩
  refine aU (σ:=[some (.ref b),none,none,none,none]) rfl ?_;have sf:∀{mv pt lk:LR9} {M V1:Nat},0 < M->M<=2^400->V1<=2^30->GF M V1 mv->GF M V1 pt->GF M V1 lk->Ka mv pt lk:=λh0 h1 h2 a b c=>⟨_,_,h0,h1,ag h2 (ar (by decide) (by decide)),a,b,c⟩
  exists ⟨b,rfl,hB,λr n i o w H1 g1 n5 i4 o4 hw h5 B1 u1=>?_⟩;exists ⟨b,16,rfl,B1,by decide,by decide,λv H2 v0 v1 B2 u2=>?_⟩;have u02:=u1.trans u2;exists iG (λh0=>?_) (λh0=>?_)
  ·exists ⟨b,2,rfl,B2,by decide,by decide,λv2 H3 _ _ B3 u3=>?_⟩;have u03:=u02.trans u3;exists iG (λh1=>?_) (λh1=>?_)
   ·exists ⟨b,rfl,B3,λr4 mv pt lk H4 P4 l6 D fm fp fl B4 u4=>?_⟩;exists cA λt H5 s5 g5=>?_
    exact k t r4 4 0 13 mv pt lk H5 g5 ((P4.weak λq h=>u03.none B3 h).same s5) D (sf (by decide) cX (by decide) fm fp fl) (yi (n0:=8) (by decide) (by decide) D.n8 (by decide) fm fp (by decide)) (.inl ⟨by decide,by decide,by decide,by decide,by decide,fm,fp,ag (ay _ (show mv.length+4<=12 by have:=D.n8;lia)) (by decide)⟩) (by decide) (by decide) (B4.same s5) ((u03.trans u4).same s5)
   ·exists ⟨b,3,rfl,B3,by decide,by decide,λv3 H4 v30 v31 B4 u4=>?_⟩;obtain ⟨v3,rfl⟩:=cQ v30;have u04:=u03.trans u4;walk_at "w";rw[show ((6:Int)+(v3:Int))=((6+v3:Nat):Int) by lia];refine ⟨b,6+v3,rfl,B4,by lia,by lia,λr4 mv pt lk H5 P5 lm _ _ D fm fp fl B5 u5=>?_⟩;exists cA λt H6 s6 g6=>?_
    exact k t r4 4 0 4 mv pt lk H6 g6 ((P5.weak λq h=>u04.none B4 h).same s6) D (sf (by decide) cX (by decide) fm fp fl) (yi (n0:=8) (by decide) (by decide) D.n8 (by decide) fm fp (by decide)) (.inl ⟨by decide,by decide,by decide,by decide,by decide,(λxs hx x hx'=>(fm xs hx x hx').mono (by decide)),(λxs hx x hx'=>(fp xs hx x hx').mono (by decide)),ag (ay _ (show mv.length+4<=12 by have:=D.n8;lia)) (by decide)⟩) (by decide) (by decide) (B5.same s6) ((u04.trans u5).same s6)
  ·obtain ⟨c,hc,hc20,hcM⟩:∃c:Nat,max w 6<=2^c/\c<=20/\c*((n+i+o)*n)<=800/\(9 < w->c=20/\(n+i+o)*n<=20/\n<=2):=by
    have m1:(n+i+o)*n<=13*5:=aw (by lia) n5;rcases hw with rfl | rfl | ⟨rfl,n2⟩
    ·exact ⟨4,by decide,by decide,by lia,λz=>by lia⟩
    ·exact ⟨4,by decide,by decide,by lia,λz=>by lia⟩
    ·have m2:(n+i+o)*n<=10*2:=aw (by lia) n2;exact ⟨20,by decide,by decide,by lia,λ_=>⟨rfl,by lia,n2⟩⟩
   obtain ⟨hcM,hbig⟩:=hcM;exists ⟨b,n,i,o,w,c,rfl,B2,by lia,i4,o4,by lia,by lia,hc,hc20,hcM,λr4 mv pt lk H4 P4 lm lp ll D PF B4 u4=>?_⟩;have hmin:(if (1000:Int) < (w:Int) then (1000:Int) else (w:Int))=((min w 1000:Nat):Int):=by split <;> lia
   have PG:=PF;obtain ⟨M,V1,M0,fm,fp,fl,hcs⟩:=PF.n
   obtain ⟨a',c',KF,SF⟩:∃a' c',wK mv pt a' c'/\Ka mv pt lk:=by
    rcases hcs with ⟨w9,rfl,rfl⟩ | ⟨w9,M1,rfl⟩
    ·exact ⟨12,16,yi (n0:=5) (by decide) (by decide) (by lia) (by decide) fm fp (by decide),sf (by decide) (ag (show 2520<=2^12 by decide) (ar (by decide) (by decide))) (by decide) fm fp fl⟩
    ·obtain ⟨rfl,e1,e2⟩:=hbig w9;have M4:M<=2^400:=ag M1 (ar (by decide) (by lia));exact ⟨400,32,yi (n0:=2) M0 M4 (by lia) (by decide) fm fp (by decide),sf M0 M4 (by decide) fm fp fl⟩
   have RG:Rg mv pt (min w 1000):=by
    obtain ⟨M1,M2,M3,V1,a1,a2,a3,f1,f2,f3,hc'⟩:=PG;rcases hc' with ⟨w9,rfl,rfl,_,rfl⟩ | ⟨w9,b1,b2,_,rfl⟩
    ·exact .inr (.inl ⟨by lia,by lia,by decide,by decide,by decide,by decide,f1,f2,ag (ay _ (show mv.length+4<=9 by lia)) (by decide)⟩)
    ·obtain ⟨rfl,e1,e2⟩:=hbig w9;have q1:n*n<=2*2:=aw e2 e2;have q2:i*n<=4*2:=aw i4 e2;have w6:w=1000000:=by lia
     exact .inr (.inr ⟨by lia,by lia,M1,M2,a1,a2,ag b1 (ar (by decide) (by lia)),ag b2 (ar (by decide) (by lia)),f1,f2,ag (ay _ (show mv.length+4<=6 by lia)) (by decide)⟩)
   exists cA λt H5 s5 g5=>?_
   rw[hmin] at g5;exact k t r4 (min w 1000) a' c' mv pt lk H5 g5 ((P4.weak λq h=>u02.none B2 h).same s5) D SF KF RG (by lia) (by lia) (B4.same s5) ((u02.trans u4).same s5)
theorem Co:a9 ["thing","at","most"] ["thing","at","most"] (aL pR):=by walk_at "d"
theorem CK (T:Txt K mg Z) (ptree:P.given.tree=none):cN P w K mg base fX 1 Z.xA Z.xf ["thing","at","most"] Hu:=by
 refine T.jz.F.ok Co (λvs H Q E h=>?_) (λcdv A outer s H vs Q E hr h=>?_)
 ·obtain ⟨p,xs,a,m,rfl,_⟩:=h;rfl
 ·obtain ⟨p,xs,a,m,rfl,gx,hm,k⟩:=h
  refine ⟨_,(au (di (oy (ox (CI rfl T.isinstance PyProof.Rows.boot_list T.list (pv 0)))) (aF HU) cp)
   (aF (di (bD wY (bP bu (by rfl) T.len bf (ae (pv 0) aj)) (pv 2) (bJ _)) (aF HU) cp))),?_⟩
  refine aU (σ:=[some (.ref p),some (.int a),some (.int m)]) rfl ?_;exists ⟨_,_,.lst gx,rfl,?_⟩;exists ⟨_,_,rfl,.inl (bO.of gx),?_⟩;walk_at "w";rw[decide_eq_false (show ¬m < (xs.length:Int) by lia)];exists k
theorem D4:a9 ["thing"] ["thing"] (aL sR):=by walk_at "d"
theorem El (T:Txt K mg Z) (ptree:P.given.tree=none):cN P w K mg base fX 1 Z.Ah Z.zV ["thing"] Je:=by
 refine T.mi.F.ok D4 (λvs H Q E h=>?_) (λcdv A outer s H vs Q E hr h=>?_)
 ·obtain ⟨i,rfl,_⟩:=h;rfl
 ·obtain ⟨i,rfl,k⟩:=h;refine ⟨_,(aF (a8 (Lc (CI rfl T.isinstance PyProof.Rows.boot_int T.int (pv 0)) (K9 (PN (CI rfl T.isinstance PyProof.Rows.boot_bool T.bool (pv 0))))))),?_⟩;refine aU (σ:=[some (.int i)]) rfl ?_;exists ⟨_,_,.int i,rfl,?_⟩;exists ⟨_,_,.int i,rfl,?_⟩;exists k
theorem gV:a9 ["one","other","rest"] ["one","other"] (aL jQ):=by walk_at "d"
theorem jx (T:Txt K mg Z) (ptree:P.given.tree=none):cN P w K mg base fX 1 Z.nQ Z.nM ["one","other"] Q5:=by
 refine T.fu.F.ok gV (λvs H Q E h=>?_) (λcdv A outer s H vs Q E hr h=>?_)
 ·obtain ⟨a,b,rfl,_⟩:=h;rfl
 ·obtain ⟨a,b,rfl,k⟩:=h
  refine ⟨_,(au (yW PassesOwn.never (bD zg (pv 1) ak (bJ _))
    (au (aZ (i:=2) gV.nd rfl (Or.inl rfl) (bC NH (pv 0) (pv 1)))
   (au (aZ (i:=0) gV.nd rfl (Or.inl rfl) (pv 1))
   (aF (aZ (i:=1) gV.nd rfl (Or.inl rfl) (pv 2))))))
   (aF (a8 (bP uQ (by rfl) T.abs PyProof.Rows.boot_abs (ae (pv 0) aj))))),?_⟩
  refine aU (σ:=[some (.int a),some (.int b),none]) rfl ?_;exists Ca (λσ' H'=>∃(u v:Int) (r:Option V),σ'=[some (.int u),some (.int v),r]/\H'=H/\Int.gcd u v=Int.gcd a b) (λσ' _=>match σ' with | [_,some (.int v),_]=>v.natAbs | _=>0) ⟨a,b,none,rfl,rfl,rfl⟩ ?_;rintro σ' H' ⟨u,v,r,rfl,rfl,hg⟩;exists iG (λh=>?_) (λh=>?_)
  ·have hv:v≠0:=λz=>by subst z;simp at h
   exists fj (show v≠0 from hv) ?_;exists ⟨⟨v,u.fmod v,_,rfl,rfl,(LJ u v).trans hg⟩,NR u v hv⟩
  ·have hv:v=0:=by
    by_cases z:v=0
    ·exact z
    ·exfalso;apply h;simp [z]
   subst hv;walk_at "w"
   have e:(if u < 0 then -u else u)=g a b:=by
    unfold g;rw[<- hg,Int.gcd_zero_right]
    split <;> lia
   rw[e];exact k
theorem Cr:a9 ["thing"] ["thing"] (aL pV):=by walk_at "d"
theorem CM (T:Txt K mg Z) (ptree:P.given.tree=none):cN P w K mg base fX 2 Z.xE Z.xj ["thing"] (Jh K):=by
 have Aq:=El (P:=P) (w:=w) (base:=base) T ptree;have fW:=jx (P:=P) (w:=w) (base:=base) T ptree;refine T.oH.F.ok Cr (λvs H Q E h=>?_) (λcdv A outer s H vs Q E hr h=>?_)
 ·obtain ⟨x,n,rfl,_⟩:=h;rfl
 ·obtain ⟨x,n,rfl,⟨p,rfl,hp⟩,hn,k⟩:=h
  refine ⟨_,(au (di (PW.pt (qi (oy (ox (NF rfl T.isinstance PyProof.Rows.boot_tuple T.tuple (pv 0)))) (mV (bD zg (bP bu (by rfl) T.len bf (ae (pv 0) aj)) ak (bJ _))))) (aF (a8 y9)) cp)
   (au (di (PW.pt (qi (oy (ox (cG Aq hr T.mi (ae (a7 bL (pv 0) ak) aj)))) (mV (oy (ox (cG Aq hr T.mi (ae (a7 bL (pv 0) ak) aj))))))) (aF (a8 y9)) cp)
   (aF (a8 (Lc (j6 Bm (a7 bL (pv 0) ak) ak (bJ _)) (K9 (j6 eS (cG fW hr T.fu (ae (a7 bL (pv 0) ak) (ae (a7 bL (pv 0) ak) aj))) ak (bJ _)))))))),?_⟩
  refine aU (σ:=[some (.ref p)]) rfl ?_;obtain ⟨hb,hg,s1,s2⟩:=hn;exists .inr ⟨p,_,_,rfl,hp,rfl,?_⟩;exists ⟨_,_,rfl,.inr hp,?_⟩;walk_at "w"
  try refine Qc ?_
  exists ⟨n.1,rfl,?_⟩;exists ⟨n.2,rfl,?_⟩;walk_at "w";rw[decide_eq_true (show (1:Int)<=n.2 by lia)];exists ⟨n.1,n.2,rfl,?_⟩;walk_at "w";have e:g n.1 n.2=1:=by unfold g;rw[hg];rfl
  rw[e,decide_eq_true rfl];exact k _ (aK.refl _)
theorem Jk:a9 ["thing","many"] ["thing","many"] (aL yR):=by walk_at "d"
theorem Jy (T:Txt K mg Z) (ptree:P.given.tree=none):cN P w K mg base fX 3 Z.EZ Z.EI ["thing","many"] (Be K):=by
 have Fe:=CM (P:=P) (w:=w) (base:=base) T ptree;refine T.vT.F.ok Jk (λvs H Q E h=>?_) (λcdv A outer s H vs Q E hr h=>?_)
 ·obtain ⟨p,ns,rfl,_⟩:=h;rfl
 ·obtain ⟨p,ns,rfl,hp,hl,hn,k⟩:=h
  refine ⟨_,(au (di (PW.pt (qi (oy (ox (CI rfl T.isinstance PyProof.Rows.boot_list T.list (pv 0)))) (mV (bD zg (bP bu (by rfl) T.len bf (ae (pv 0) aj)) (pv 1) (bJ _))))) (aF (a8 y9)) cp)
   (aF (a8 (bP (Mg rfl) (by rfl) T.all PyProof.Rows.boot_all (ae (b9 ["value"] [] [] (cP (pv 0)) (λ_=>(aS (i:=0) (show ND9 ["value"] by decide +kernel))) (λ_=>cB) (λ_=>(cG Fe hr T.oH (ae (pv 0) aj)))) aj))))),?_⟩
  refine aU (σ:=[some (.ref p),some (.int ns.length)]) rfl ?_;obtain ⟨xs,gx,qx⟩:=id hp;have lx:=qx.length;exists ⟨_,_,.lst gx,rfl,?_⟩;exists ⟨_,_,rfl,.inl (bO.of gx),?_⟩;walk_at "w";rw[show ((xs.length:Nat):Int)=(ns.length:Nat) by rw[lx],decide_eq_true rfl];exists ⟨⟨_,bO.of gx⟩,?_⟩;refine gO (K:=K) (xs:=xs) (λi ys H'=>aK H H'/\ys=List.replicate i (.bl true)) (bc (bK (by lia))) ⟨aK.refl _,rfl⟩ (λi ys H' _ ⟨s,_⟩=>bO.of (s _ _ gx)) ?_ ?_
  ·rintro i x ys H' hx hlen ⟨s,rfl⟩;obtain ⟨n,en,z⟩:=bX qx hx;exists ⟨x,n,rfl,s.num z,hn n (av en),λH2 s2=>⟨s.trans s2,by rw[List.replicate_succ']⟩⟩
  ·rintro ys H' hy ⟨s,rfl⟩ l hl';exists ⟨l,List.replicate xs.length true,rfl,bO.of (by rw[aM];simp),?_⟩;have e4:(List.replicate xs.length true).all id=true:=by simp
   rw[e4];exact k _ (s.trans (aK.new hl'))
theorem lD:a9 ["things","wide","place","thing"] ["things","wide"] (aL mP):=by walk_at "d"
theorem zo (T:Txt K mg Z) (ptree:P.given.tree=none):cN P w K mg base fX 4 Z.rY Z.rM ["things","wide"] (HM K):=by
 have Mo:=Jy (P:=P) (w:=w) (base:=base) T ptree;refine T.ip.F.ok lD (λvs H Q E h=>?_) (λcdv A outer s H vs Q E hr h=>?_)
 ·obtain ⟨p,H0,rows,w,rfl,_⟩:=h;rfl
 ·obtain ⟨p,H0,rows,w,rfl,hp,hl,hw,hn,k⟩:=h
  refine ⟨_,(au (eH PassesOwn.never rfl (NB rfl T.enumerate (ae (pv 0) aj)) (td rfl (cE (aS (i:=2) lD.nd) (cE (aS (i:=3) lD.nd) gW)))
    (aF (di (oy (ox (cG Mo hr T.vT (ae (pv 3) (ae (pv 1) aj))))) (aF HU) cp)))
   (aF (a8 (b9 ["row"] [] [] (cP (pv 0)) (λ_=>(aS (i:=0) (show ND9 ["row"] by decide +kernel))) (λ_=>cB) (λ_=>(gN (nA K (by rfl)) (by rfl) T.list PyProof.Rows.boot_list (ae (pv 0) aj))))))),?_⟩
  refine aU (σ:=[some (.ref p),some (.int w),none,none]) rfl ?_;obtain ⟨xs,gx,qx,_⟩:=id hp;exists ⟨⟨_,bO.of gx⟩,?_⟩;refine LM (K:=K) (l:=p) (xs:=xs) (λi σ' H'=>aK H H'/\∃x y,σ'=[some (.ref p),some (.int w),x,y]) ⟨aK.refl _,none,none,rfl⟩ (λi σ' H' _ ⟨s,_⟩=>bO.of (s _ _ gx)) ?_ ?_
  ·rintro i x σ' H' t hx ⟨s,x1,y1,rfl⟩ ht;obtain ⟨qs,eq,q,rfl,_,Rq⟩:=bX qx hx;have hm:=av eq;have st:aK H' (upd H' t (.tup [.int i,.ref q])):=aK.new ht;have gt:(upd H' t (.tup [.int i,.ref q])) t=some (.tup [.int i,.ref q]):=aM;have s2:=s.trans st;generalize upd H' t (.tup [.int i,.ref q])=H2 at st gt s2 ⊢;have lq:(qs.map nm).length=w:=by rw[ai];exact (hn qs hm).1
   exists ⟨q,_,by rw[lq],(Rq.same s2).rowK,by rw[lq];exact hw,λn hn'=>?_,λH3 s3=>?_⟩
   ·obtain ⟨y,hy,rfl⟩:=aB.mp hn';exact (hn qs hm).2 y hy
   exists ⟨s2.trans s3,_,_,rfl⟩
  ·rintro σ' H' ⟨s,x1,y1,rfl⟩;exists ⟨⟨_,bO.of (s _ _ gx)⟩,?_⟩;refine dN (K:=K) (F:=dm K H0) (dm K H) id (s _ _ gx) (Paired.imp' (λ_ _ z=>z.same s) qx) hl (λa b=>a.same b) (λa b=>a.same b) ?_ ?_
   ·rintro i ns x H2 NY NN en s2 ⟨u,rfl,_,zs,gz,qz⟩ k1;exists ⟨u,zs,rfl,.inl (bO.of gz),λl1 hl1=>?_⟩;exact k1 _ _ (aK.new hl1) ⟨l1,rfl,s.none (s2.none hl1),zs,aM,Paired.imp' (λ_ _ z=>z.same (aK.new hl1)) qz⟩
   ·rintro ys' H2 r hr s2 g pr nx;rw[pA] at pr nx;exact k r H2 (s.none hr) (s.trans s2) ⟨ys',g,pr,jy nx⟩
theorem sQ:a9 ["self","move","put","look"] ["self","move","put","look"] (aL d6):=by walk_at "d"
theorem tz (T:Txt K mg Z) (ptree:P.given.tree=none):cN P w K mg base fX 5 Z.jJ Z.jG ["self","move","put","look"] (HH K Z.a_System):=by
 have qM:=CK (P:=P) (w:=w) (base:=base) T ptree;have nD:=zo (P:=P) (w:=w) (base:=base) T ptree;refine T.mF.ok sQ (λvs H Q E h=>?_) (λcdv A outer s H vs Q E hr h=>?_)
 ·obtain ⟨x,dx,p,q,r,Hb,H0,H1,H2,mv,pt,lk,rfl,_⟩:=h;rfl
 ·obtain ⟨x,dx,p,q,r,Hb,H0,H1,H2,mv,pt,lk,rfl,nx,ndx,nex,rfl,gp,gq,gr,D,om,op,ol,k⟩:=h
  refine ⟨_,(au (iX (cG qM hr T.jz (ae (pv 1) (ae ak (ae (uf (v:=.int 8) rfl T.mg_MOST_STATES ⟨_,rfl⟩) aj)))))
   (au (vO (pv 0) (cG nD hr T.ip (ae (pv 1) (ae (bP bu (by rfl) T.len bf (ae (pv 1) aj)) aj))) rfl)
   (au (vO (pv 0) (bP bu (by rfl) T.len bf (ae (iN (pv 0) rfl) aj)) rfl)
   (au (iX (cG qM hr T.jz (ae (pv 2) (ae ak (ae (uf (v:=.int 4) rfl T.mg_MOST_PUTS ⟨_,rfl⟩) aj)))))
   (au (vO (pv 0) (cG nD hr T.ip (ae (pv 2) (ae (iN (pv 0) rfl) aj))) rfl)
   (au (vO (pv 0) (bP bu (by rfl) T.len bf (ae (iN (pv 0) rfl) aj)) rfl)
   (au (iX (cG qM hr T.jz (ae (pv 3) (ae ak (ae (uf (v:=.int 4) rfl T.mg_MOST_LOOKS ⟨_,rfl⟩) aj)))))
   (au (vO (pv 0) (cG nD hr T.ip (ae (pv 3) (ae (iN (pv 0) rfl) aj))) rfl)
   (aF (vO (pv 0) (bP bu (by rfl) T.len bf (ae (iN (pv 0) rfl) aj)) rfl)))))))))),?_⟩
  refine aU (σ:=[some (.ref x),some (.ref p),some (.ref q),some (.ref r)]) rfl ?_
  have s0:aK Hb (upd (upd Hb dx (.own x)) x (.ins Z.a_System dx [])):=λb o e=>by
   rw[bE (fG e nx),bE (fG e ndx)];exact e
  have hx:(upd (upd Hb dx (.own x)) x (.ins Z.a_System dx [])) x=some (.ins Z.a_System dx []):=aM;have back:∀{b},(upd (upd Hb dx (.own x)) x (.ins Z.a_System dx [])) b=none->Hb b=none:=λh=>s0.none h
  generalize upd (upd Hb dx (.own x)) x (.ins Z.a_System dx [])=Ha at s0 hx back ⊢;obtain ⟨xs,gx,qx,_⟩:=id gp;obtain ⟨ys,gy,qy,_⟩:=id gq;obtain ⟨zs,gz,qz,_⟩:=id gr;have lx:=qx.length;have ly:=qy.length;have lz:=qz.length;have d1:=D.n8;have d2:=D.i4;have d3:=D.o4;exists ⟨p,xs,0,8,rfl,s0 _ _ gx,by lia,?_⟩;exists ⟨_,_,rfl,.inl (bO.of (s0 _ _ gx)),?_⟩;exists ⟨p,H0,mv,mv.length,by rw[lx],gp.same s0,by lia,by lia,λws hw=>⟨D.mw ws hw,om ws hw⟩,λa H3 na s3 Ga=>?_⟩;have hx3:=s3 _ _ hx;exists ⟨x,Z.a_System,dx,_,rfl,hx3,T.cl_System,T.na_move,(by show 0 < 1000;decide),?_⟩;have e3:Dz x H3 (upd H3 x (.ins Z.a_System dx (cz "move" (.ref a) []))):=Dz.upd;have i3:sJ H3 x:=⟨_,_,_,hx3⟩;have hx4:(upd H3 x (.ins Z.a_System dx (cz "move" (.ref a) []))) x=some (.ins Z.a_System dx (cz "move" (.ref a) [])):=aM;have Ga4:=Ga.exc e3 i3;have k4:aK Hb (upd H3 x (.ins Z.a_System dx (cz "move" (.ref a) []))):=(s0.trans s3).after nx;generalize upd H3 x (.ins Z.a_System dx (cz "move" (.ref a) []))=H4 at e3 hx4 Ga4 k4 ⊢;exists ⟨x,Z.a_System,dx,_,_,rfl,hx4,T.cl_System,T.na_move,(by rw[bG,if_pos rfl]),?_⟩;obtain ⟨as,ga,qa,_⟩:=id Ga4;have la:=qa.length;exists ⟨_,_,rfl,.inl (bO.of ga),?_⟩;exists ⟨x,Z.a_System,dx,_,rfl,hx4,T.cl_System,T.na_states,bg d9 (by show 1 < 1000;decide),?_⟩;rw[show ((as.length:Nat):Int)=((mv.length:Nat):Int) by rw[la]];have e4:Dz x H4 (upd H4 x (.ins Z.a_System dx (cz "states" (.int mv.length) (cz "move" (.ref a) [])))):=Dz.upd;have i4:sJ H4 x:=⟨_,_,_,hx4⟩;have hx5:(upd H4 x (.ins Z.a_System dx (cz "states" (.int mv.length) (cz "move" (.ref a) [])))) x=some (.ins Z.a_System dx (cz "states" (.int mv.length) (cz "move" (.ref a) []))):=aM;have Ga5:=Ga4.exc e4 i4;have k5:aK Hb (upd H4 x (.ins Z.a_System dx (cz "states" (.int mv.length) (cz "move" (.ref a) [])))):=k4.after nx;generalize upd H4 x (.ins Z.a_System dx (cz "states" (.int mv.length) (cz "move" (.ref a) [])))=H5 at e4 hx5 Ga5 k5 ⊢;clear e3 e4 i3 i4 hx4 Ga4 ga qa;exists ⟨q,ys,1,4,rfl,k5 _ _ gy,by lia,?_⟩;exists ⟨x,Z.a_System,dx,_,_,rfl,hx5,T.cl_System,T.na_states,(by rw[bG,if_pos rfl]),?_⟩;exists ⟨q,H1,pt,mv.length,rfl,gq.same k5,by lia,by lia,λws hw=>⟨D.pw ws hw,op ws hw⟩,λb H6 nb s6 Gb=>?_⟩;have hx6:=s6 _ _ hx5;have i6:sJ H6 x:=⟨_,_,_,hx6⟩;exists ⟨x,Z.a_System,dx,_,rfl,hx6,T.cl_System,T.na_put,bg d9 (bg (dP d9) (by show 2 < 1000;decide)),?_⟩;have e6:Dz x H6 (upd H6 x (.ins Z.a_System dx (cz "put" (.ref b) (cz "states" (.int mv.length) (cz "move" (.ref a) []))))):=Dz.upd;have hx7:(upd H6 x (.ins Z.a_System dx (cz "put" (.ref b) (cz "states" (.int mv.length) (cz "move" (.ref a) []))))) x=some (.ins Z.a_System dx (cz "put" (.ref b) (cz "states" (.int mv.length) (cz "move" (.ref a) [])))):=aM;have Ga7:=(Ga5.same s6).exc e6 i6;have Gb7:=(Gb.weak k5).exc e6 i6;have k7:aK Hb (upd H6 x (.ins Z.a_System dx (cz "put" (.ref b) (cz "states" (.int mv.length) (cz "move" (.ref a) []))))):=(k5.trans s6).after nx;generalize upd H6 x (.ins Z.a_System dx (cz "put" (.ref b) (cz "states" (.int mv.length) (cz "move" (.ref a) []))))=H7 at e6 hx7 Ga7 Gb7 k7 ⊢;obtain ⟨bs,gb,qb,_⟩:=id Gb7;have lb:=qb.length;exists ⟨x,Z.a_System,dx,_,_,rfl,hx7,T.cl_System,T.na_put,(by rw[bG,if_pos rfl]),?_⟩;exists ⟨_,_,rfl,.inl (bO.of gb),?_⟩;exists ⟨x,Z.a_System,dx,_,rfl,hx7,T.cl_System,T.na_ins,bg d9 (bg (dP (ag d9 (dP d9))) (by show 3 < 1000;decide)),?_⟩;rw[show ((bs.length:Nat):Int)=((pt.length:Nat):Int) by rw[lb]];have i7:sJ H7 x:=⟨_,_,_,hx7⟩;have e7:Dz x H7 (upd H7 x (.ins Z.a_System dx (cz "ins" (.int pt.length) (cz "put" (.ref b) (cz "states" (.int mv.length) (cz "move" (.ref a) [])))))):=Dz.upd;have hx8:(upd H7 x (.ins Z.a_System dx (cz "ins" (.int pt.length) (cz "put" (.ref b) (cz "states" (.int mv.length) (cz "move" (.ref a) [])))))) x=some (.ins Z.a_System dx (cz "ins" (.int pt.length) (cz "put" (.ref b) (cz "states" (.int mv.length) (cz "move" (.ref a) []))))):=aM;have Ga8:=Ga7.exc e7 i7;have Gb8:=Gb7.exc e7 i7;have k8:aK Hb (upd H7 x (.ins Z.a_System dx (cz "ins" (.int pt.length) (cz "put" (.ref b) (cz "states" (.int mv.length) (cz "move" (.ref a) [])))))):=k7.after nx;generalize upd H7 x (.ins Z.a_System dx (cz "ins" (.int pt.length) (cz "put" (.ref b) (cz "states" (.int mv.length) (cz "move" (.ref a) [])))))=H8 at e7 hx8 Ga8 Gb8 k8 ⊢;clear e6 e7 i6 i7 hx7 Ga7 Gb7 gb qb;exists ⟨r,zs,2,4,rfl,k8 _ _ gz,by lia,?_⟩;exists ⟨x,Z.a_System,dx,_,_,rfl,hx8,T.cl_System,T.na_states,(by rw[bG,if_neg (by decide +kernel),bG,if_neg (by decide +kernel),bG,if_pos rfl]),?_⟩;exists ⟨r,H2,lk,mv.length,rfl,gr.same k8,by lia,by lia,λws hw=>⟨D.lw ws hw,ol ws hw⟩,λc H9 nc s9 Gc=>?_⟩;have hx9:=s9 _ _ hx8;have i9:sJ H9 x:=⟨_,_,_,hx9⟩;exists ⟨x,Z.a_System,dx,_,rfl,hx9,T.cl_System,T.na_look,bg d9 (bg (dP (ag d9 (dP (ag d9 (dP d9))))) (by show 4 < 1000;decide)),?_⟩;have e9:Dz x H9 (upd H9 x (.ins Z.a_System dx (cz "look" (.ref c) (cz "ins" (.int pt.length) (cz "put" (.ref b) (cz "states" (.int mv.length) (cz "move" (.ref a) []))))))):=Dz.upd;have hxA:(upd H9 x (.ins Z.a_System dx (cz "look" (.ref c) (cz "ins" (.int pt.length) (cz "put" (.ref b) (cz "states" (.int mv.length) (cz "move" (.ref a) []))))))) x=some (.ins Z.a_System dx (cz "look" (.ref c) (cz "ins" (.int pt.length) (cz "put" (.ref b) (cz "states" (.int mv.length) (cz "move" (.ref a) [])))))):=aM;have GaA:=(Ga8.same s9).exc e9 i9;have GbA:=(Gb8.same s9).exc e9 i9;have GcA:=(Gc.weak k8).exc e9 i9;have kA:aK Hb (upd H9 x (.ins Z.a_System dx (cz "look" (.ref c) (cz "ins" (.int pt.length) (cz "put" (.ref b) (cz "states" (.int mv.length) (cz "move" (.ref a) []))))))):=(k8.trans s9).after nx;generalize upd H9 x (.ins Z.a_System dx (cz "look" (.ref c) (cz "ins" (.int pt.length) (cz "put" (.ref b) (cz "states" (.int mv.length) (cz "move" (.ref a) []))))))=HA at e9 hxA GaA GbA GcA kA ⊢;obtain ⟨cs,gc,qc,_⟩:=id GcA;have lc:=qc.length;exists ⟨x,Z.a_System,dx,_,_,rfl,hxA,T.cl_System,T.na_look,(by rw[bG,if_pos rfl]),?_⟩;exists ⟨_,_,rfl,.inl (bO.of gc),?_⟩;exists ⟨x,Z.a_System,dx,_,rfl,hxA,T.cl_System,T.na_outs,bg d9 (bg (dP (ag d9 (dP (ag d9 (dP (ag d9 (dP d9))))))) (by show 5 < 1000;decide)),?_⟩;rw[show ((cs.length:Nat):Int)=((lk.length:Nat):Int) by rw[lc]];have iA:sJ HA x:=⟨_,_,_,hxA⟩;exact k _ (kA.after nx) ⟨dx,a,b,c,aM,back na,k5.none nb,k8.none nc,(GaA.exc Dz.upd iA).weak s0,GbA.exc Dz.upd iA,GcA.exc Dz.upd iA⟩
theorem yM:a9 ["_law_grid"] ["_law_grid"] (aL mU):=by walk_at "d"
theorem zB (T:Txt K mg Z) (ptree:P.given.tree=none):cN P w K mg base fX 1 Z.sH Z.rS ["_law_grid"] (yF K):=by
 refine T.ir.F.ok yM (λvs H Q E h=>?_) (λcdv A outer s H vs Q E hr h=>?_)
 ·obtain ⟨p,H0,rows,rfl,_⟩:=h;rfl
 ·obtain ⟨p,H0,rows,rfl,hp,hl,hm,k⟩:=h;refine ⟨_,(aF (a8 (b9 ["_law_row_here"] [] [] (cP (pv 0)) (λ_=>(aS (i:=0) (show ND9 ["_law_row_here"] by decide +kernel))) (λ_=>cB) (λ_=>(gN (nA K (by rfl)) (by rfl) T.list PyProof.Rows.boot_list (ae (pv 0) aj)))))),?_⟩;refine aU (σ:=[some (.ref p)]) rfl ?_;obtain ⟨xs,gx,qx,_⟩:=id hp;exists ⟨⟨_,bO.of gx⟩,?_⟩;refine dN (K:=K) (F:=dm K H0) (dm K H) id gx qx hl (λa b=>a.same b) (λa b=>a.same b) ?_ ?_
  ·rintro i ns x H' NY NN en s ⟨u,rfl,_,zs,gz,qz⟩ k1;exists ⟨u,zs,rfl,.inl (bO.of gz),λl1 hl1=>?_⟩;exact k1 _ _ (aK.new hl1) ⟨l1,rfl,s.none hl1,zs,aM,Paired.imp' (λ_ _ z=>z.same (aK.new hl1)) qz⟩
  ·rintro ys' H' r hr s g pr nx;rw[pA] at pr nx;exact k r H' hr s ⟨ys',g,pr,jy nx⟩
theorem Cw:a9 ["_law_parts_here"] ["_law_parts_here"] (aL qe):=by walk_at "d"
theorem CU (T:Txt K mg Z) (ptree:P.given.tree=none):cN P w K mg base fX 7 Z.xO Z.xu ["_law_parts_here"] (yy K Z.a_System):=by
 have vf:=tz (P:=P) (w:=w) (base:=base) T ptree;have nE:=zB (P:=P) (w:=w) (base:=base) T ptree;refine T.oN.F.ok Cw (λvs H Q E h=>?_) (λcdv A outer s H vs Q E hr h=>?_)
 ·obtain ⟨r,H0,mv,pt,lk,rfl,_⟩:=h;rfl
 ·obtain ⟨r,H0,mv,pt,lk,rfl,PQ,D,F,k⟩:=h;refine ⟨_,(aF (a8 (ND T.mk_System vf (hr.mono (by decide)) rfl T.mg_System T.mB .nil Ld (ae (cG nE hr T.ir (ae (a7 bL (pv 0) ak) aj)) (ae (cG nE hr T.ir (ae (a7 bL (pv 0) ak) aj)) (ae (cG nE hr T.ir (ae (a7 bL (pv 0) ak) aj)) aj)))))),?_⟩;refine aU (σ:=[some (.ref r)]) rfl ?_;obtain ⟨m,p,l,g,n1,n2,n3,Gm,Gp,Gl⟩:=id PQ;have d1:=D.n8;have d2:=D.i4;have d3:=D.o4;exists ⟨m,H0,mv,rfl,Gm,by lia,λxs hx=>by rw[D.mw xs hx];lia,λa H1 na s1 Ga=>?_⟩;have g1:=s1 _ _ g;exists ⟨p,H0,pt,rfl,Gp.same s1,by lia,λxs hx=>by rw[D.pw xs hx];lia,λb H2 nb s2 Gb=>?_⟩;have s12:=s1.trans s2;have g2:=s12 _ _ g;exists ⟨l,H0,lk,rfl,Gl.same s12,by lia,λxs hx=>by rw[D.lw xs hx];lia,λc H3 nc s3 Gc=>?_⟩;have s13:=s12.trans s3;walk_at "w";intro x dx nx ndx nex;exact ⟨x,dx,a,b,c,H3,H,H1,H2,mv,pt,lk,rfl,nx,ndx,nex,rfl,(Ga.same s2).same s3,Gb.same s3,Gc,D,F.ok.1,F.ok.2.1,F.ok.2.2,λH' s' S'=>⟨rfl,k x H' (s13.none nx) (s13.trans s') (S'.weak s13)⟩⟩
theorem gL:a9 ["_law_bag_here","_law_many","_law_begin","_law_found","_law_wide","_law_k"] ["_law_bag_here","_law_many","_law_begin"] (aL lH):=by walk_at "d"
theorem xW (T:Txt K mg Z) (ptree:P.given.tree=none):cN P w K mg base fX 2 Z.qK Z.qH ["_law_bag_here","_law_many","_law_begin"] (Ht K):=by
 have aV:=dY (P:=P) (w:=w) (base:=base) T ptree;have fJ:=kj (P:=P) (w:=w) (base:=base) T ptree;refine T.kF.F.ok gL (λvs H Q E h=>?_) (λcdv A outer s H vs Q E hr h=>?_)
 ·obtain ⟨b,m,rfl,_⟩:=h;rfl
 ·obtain ⟨b,m,rfl,hB,hm,k⟩:=h
  refine ⟨_,(au (aZ (i:=3) gL.nd rfl (Or.inl rfl) (dJ aj))
   (au (aZ (i:=4) gL.nd rfl (Or.inl rfl) (a7 bQ (dJ (ae ak (ae ak (ae ak (ae ak aj))))) (cG aV hr T.aX (ae (pv 0) (ae ak aj)))))
   (au (eH PassesOwn.never rfl (cy rfl T.range (ae (pv 1) aj)) (aS (i:=5) gL.nd)
    (aF (di (bD eS (cG aV hr T.aX (ae (pv 0) (ae ak aj))) ak (bJ _)) (aF (iX (ug c5 dd dc ji (pv 3) (ae (c6 (ae ak (ae ak aj))) aj)))) (aF (iX (ug c5 dd dc ji (pv 3) (ae (cG fJ hr T.gA (ae (bC eT (pv 2) (cG aV hr T.aX (ae (pv 0) (ae (pv 4) aj)))) (ae (bC eT ak (cG aV hr T.aX (ae (pv 0) (ae (bC (ij rfl gL rfl rfl rfl ptree (qF hr)) (pv 4) ak) aj)))) aj))) aj)))))))
   (aF (a8 (pv 3)))))),?_⟩
  refine aU (σ:=[some (.ref b),some (.int m),some (.int 1),none,none,none]) rfl ?_;exists dy λf H1 s1 n1 g1=>?_
  exists dy λl0 H2 s2 n2 g2=>?_
  have B2:=(hB.same s1).same s2;exists ⟨b,4,rfl,B2,by decide,by decide,λv H3 v0 v1 B3 u3=>?_⟩;have fb:f≠b:=λz=>hB.at (by rw[<- z];exact n1)
  have g3:=u3.other (λz=>(hB.same s1).at (by rw[<- z];exact n2)) g2;have gf:=u3.other fb (s2 _ _ g1);obtain ⟨x,ex,mx,_⟩:=jH (xs:=[V.int 9,V.int 9,V.int 9,V.int 1000]) v0 (by simpa using v1)
  obtain ⟨w,rfl,hw⟩:∃w:Nat,x=.int w/\(w=9\/w=1000):=by
   simp only[aI,ba,or_false] at mx;rcases mx with rfl | rfl | rfl | rfl
   ·exact ⟨9,rfl,.inl rfl⟩
   ·exact ⟨9,rfl,.inl rfl⟩
   ·exact ⟨9,rfl,.inl rfl⟩
   ·exact ⟨1000,rfl,.inr rfl⟩
  obtain ⟨q0,I0,xs0,gq0⟩:=hB.inner;have fq:f≠q0:=λz=>by rw[<- z,n1] at gq0;cases gq0
  have u03:cZ b H H3:=((s1.trans s2).upto (p:=b)).trans u3;have I3:Inner H3 b q0:=u03.2 _ I0;exists cx (bO.of g3) ex ?_;exists ⟨by lia,by lia,?_⟩;refine eX (n:=m) (λi σ' H'=>∃(y:Option V) (us:List V) (ws:List Rat),σ'=[some (.ref b),some (.int m),some (.int 1),some (.ref f),some (.int w),y]/\H' f=some (.lst us)/\Paired (bV K H') ws us/\ws.length=i/\(∀z∈ws,0 < z/\Dr 1000 z)/\hZ H' b/\Inner H' b q0/\cZ b H H') ⟨none,[],[],rfl,gf,.nil,rfl,(λ_ z=>nomatch z),B3,I3,u03⟩ ?_ ?_
  ·rintro i σ' H' hi ⟨y,us,ws,rfl,gu,pr,lw,hd,B',I',u'⟩;have lu:=pr.length
   have fin:∀(t:V) (z:Rat) (H5:Hp),hZ H5 b->cZ b H' H5->bV K H5 z t->0 < z/\Dr 1000 z->H5 f=some (.lst us)/\us.length < sizeLine/\∃(y:Option V) (us':List V) (ws':List Rat),[some (V.ref b),some (.int m),some (.int 1),some (.ref f),some (.int w),some (.int i)]=[some (.ref b),some (.int m),some (.int 1),some (.ref f),some (.int w),y]/\(upd H5 f (.lst (us++[t]))) f=some (.lst us')/\Paired (bV K (upd H5 f (.lst (us++[t])))) ws' us'/\ws'.length=i+1/\(∀z∈ws',0 < z/\Dr 1000 z)/\hZ (upd H5 f (.lst (us++[t]))) b/\Inner (upd H5 f (.lst (us++[t]))) b q0/\cZ b H (upd H5 f (.lst (us++[t]))):=λt z H5 B5 u5 nz dz=>by
    have g5:=u5.other fb gu;have I5:=u5.2 _ I';refine ⟨g5,bK (by lia),_,_,ws++[z],rfl,aM,bT (Paired.imp' (λ_ _ y=>(y.upto u5 B').updL g5) pr) (.cons (nz.updL g5) .nil),by simp [lw],yk hd dz,B5.upd I5 fb fq,I5.upd fb,(u'.trans u5).after n1⟩
   exists ⟨b,2,rfl,B',by decide,by decide,λc Ha c0 c1 Ba ua=>?_⟩;exists iG (λh0=>?_) (λh0=>?_)
   ·exists ⟨.inl ⟨rfl,_,bO.of (ua.other fb gu)⟩,?_⟩;exists cA λt Hb sb gt=>?_
    obtain ⟨e1,e2,e3⟩:=fin (.ref t) 1 Hb (Ba.same sb) (ua.same sb) (bV.mk gt rfl) ⟨by decide,by decide,by decide⟩;exists jf e1 e2 ?_;exact e3
   ·exists ⟨.inl ⟨rfl,_,bO.of (ua.other fb gu)⟩,?_⟩;exists ⟨b,_,rfl,Ba,by lia,by lia,λt Hb t0 t1 Bb ub=>?_⟩;exists fj (show mG _ _ from ⟨by decide,by show (2:Nat) < 2^449950;exact bp (show 2 < 2^2 by decide) (ar (by decide) (by decide))⟩) ?_;rw[b7 _ (by decide)];exists ⟨b,_,rfl,Bb,by lia,by lia,λd Hc d0 d1 Bc uc=>?_⟩;exists ⟨_,_,rfl,by lia,(Fw (by lia)).mono (by decide),λr Hd sd gd=>?_⟩;obtain ⟨z,ez,dz,ze⟩:=F6 (t:=1+t) (b:=1+d) (W:=1000) (by lia) (by lia) (by lia);obtain ⟨e1,e2,e3⟩:=fin (.ref r) z Hd (Bc.same sd) (((ua.trans ub).trans uc).same sd) (bV.mk gd ez) ⟨PK ze (by lia) (by lia),dz⟩;exists jf e1 e2 ?_;exact e3
  ·rintro σ' H' ⟨y,us,ws,rfl,gu,pr,lw,hd,B',I',u'⟩;exists k f ws H' n1 ⟨us,gu,pr⟩ lw hd B' u'
theorem iS:a9 ["_law_bag_here","_law_parts_here","_law_bottoms","_law_row_here"] ["_law_bag_here","_law_parts_here"] (aL oo):=by walk_at "d"
theorem AG (T:Txt K mg Z) (ptree:P.given.tree=none):cN P w K mg base fX 2 Z.uY Z.uK ["_law_bag_here","_law_parts_here"] (A3 K):=by
 have aV:=dY (P:=P) (w:=w) (base:=base) T ptree;refine T.ni.F.ok iS (λvs H Q E h=>?_) (λcdv A outer s H vs Q E hr h=>?_)
 ·obtain ⟨b,r,H0,mv,pt,lk,rfl,_⟩:=h;rfl
 ·obtain ⟨b,r,H0,mv,pt,lk,rfl,hB,nb,PQ,D,sz,k⟩:=h
  refine ⟨_,(au (aZ (i:=2) iS.nd rfl (Or.inl rfl) (dJ (ae ak aj)))
   (au (eH PassesOwn.never rfl (cP (bC jX (a7 bL (pv 1) ak) (a7 bL (pv 1) ak))) (aS (i:=3) iS.nd)
    (aF (aZ (i:=2) iS.nd rfl (Or.inl rfl) (bC jX (pv 2) (b9 ["_law_one"] [] [] (cP (pv 3)) (λ_=>(aS (i:=0) (show ND9 ["_law_one"] by decide +kernel))) (λ_=>cB) (λ_=>(bC eT (a7 (qX K (by rfl)) (pv 0) ak) (bC cV (bC (ij rfl iS rfl rfl rfl ptree (qF hr)) (bP uQ (by rfl) T.abs PyProof.Rows.boot_abs (ae (a7 (qX K (by rfl)) (pv 0) ak) aj)) ak) ak))))))))
   (au (di (bD wY (bP (JT rfl) (by rfl) T.max PyProof.Rows.boot_max (ae (pv 2) aj)) ak (bJ _)) (aF (a8 (cG aV hr T.aX (ae (pv 0) (ae ak aj))))) cp)
   (au (di (bD wY (bP bu (by rfl) T.len bf (ae (a7 bL (pv 1) ak) aj)) ak (bJ _)) (aF (a8 (a7 bQ (dJ (ae (cG aV hr T.aX (ae (pv 0) (ae ak aj))) (ae (bP bu (by rfl) T.len bf (ae (a7 bL (pv 1) ak) aj)) aj))) (cG aV hr T.aX (ae (pv 0) (ae ak aj)))))) cp)
   (au (di (PW.pt (jS (bD rD (bP bu (by rfl) T.len bf (ae (a7 bL (pv 1) ak) aj)) ak (bJ _)) (kO (bD eS (cG aV hr T.aX (ae (pv 0) (ae ak aj))) ak (bJ _))))) (aF (a8 (cG aV hr T.aX (ae (pv 0) (ae ak aj))))) cp)
   (aF (a8 (cG aV hr T.aX (ae (pv 0) (ae (bC eT ak (bP bu (by rfl) T.len bf (ae (a7 bL (pv 1) ak) aj))) aj)))))))))),?_⟩
  refine aU (σ:=[some (.ref b),some (.ref r),none,none]) rfl ?_;have d8:=D.n8;have i4:=D.i4;obtain ⟨m,p,l,g,n1,n2,n3,Gm,Gp,Gl⟩:=id PQ;obtain ⟨um,gm,qm,_⟩:=id Gm;obtain ⟨up,gp,qp,_⟩:=id Gp;have lum:=qm.length;have lup:=qp.length;exists dy λbl0 H1 s1 nbl g1=>?_
  have g':=s1 _ _ g;exists lJ (s1 _ _ gm) (s1 _ _ gp) (bc (bK (by lia))) λcc H2 s2 nc gc=>?_
  have s02:=s1.trans s2;have qc:Paired (dm K H0 H2) (mv++pt) (um++up):=Paired.imp' (λ_ _ z=>dm.same z s02) (bT qm qp)
  have wc:∀xs∈mv++pt,xs.length=mv.length:=λxs hx=>by
   rcases aG.mp hx with hx | hx
   ·exact D.mw xs hx
   ·exact D.pw xs hx
  have lc:(mv++pt).length=(um++up).length:=qc.length;rw[ax,ax] at lc;exists ⟨⟨_,bO.of gc⟩,?_⟩;refine iV (K:=K) (a:=cc) (xs:=um++up) (λi σ' H'=>aK H2 H'/\∃bl ns y,σ'=[some (.ref b),some (.ref r),some (.ref bl),y]/\H' bl=some (.lst (ns.map V.int))/\1<=ns.length/\ns.length<=1+i*8/\∀j xs,j < i->(mv++pt)[j]?=some xs->∀x∈xs,QG x∈ns) ⟨aK.refl _,bl0,[1],_,rfl,s2 _ _ g1,by decide,by decide,λj xs h=>absurd h (fE _)⟩ (λi σ' H' _ ⟨e,_⟩=>bO.of (e _ _ gc)) ?_ ?_
  ·rintro i v σ' H' hv ⟨e,bl,ns,y,rfl,gb,b1,b2,hn⟩;obtain ⟨xs,exs,u,rfl,_,zs,gz,qz⟩:=bX qc hv;have mx:=av exs;have wx:=wc xs mx;have hi:i < (um++up).length:=(aJ.mp hv).1;rw[ax] at hi;exists ⟨⟨_,bO.of (e _ _ gz)⟩,?_⟩;refine dN (K:=K) (F:=bV K) (λ_ c x=>x=V.int (QG c)) id (e _ _ gz) (Paired.imp' (λ_ _ z=>z.same e) qz) (by lia) (λa b=>a.same b) (λa _=>a) ?_ ?_
   ·rintro j c x Ha NY NN ec sa ⟨pp,rfl,hp⟩ k1;have mc:=av ec;have szc:=sz xs mx c mc;walk_at "w"
    have e1:(if (nm c).1 < 0 then -(nm c).1 else (nm c).1)=(c.num.natAbs:Int):=by
     show (if c.num < 0 then -c.num else c.num)=_
     split <;> lia
    have e2:(c.num.natAbs:Int).fdiv 1000=(c.num.natAbs:Int) / 1000:=b7 _ (by decide);rw[e1];refine fj (show mG _ _ from ⟨by decide,bp (show (1000:Int).natAbs < 2^20 by decide) (ar (by decide) (by decide))⟩) ?_;rw[e2];exists k1 _ _ (aK.refl _) rfl
   rintro ys Hb cl hcl sb gcl prl _
   have ey:ys=(xs.map QG).map V.int:=by
    rw[pA] at prl;rw[yr];exact Bl prl
   have ly:=prl.length;rw[ai] at ly;have gbb:=sb _ _ gb;rw[ey] at gcl;exists lJ gbb gcl (bc (bK (by rw[ai,ai,ai];lia))) λc2 Hc sc nc2 gc2=>?_
   rw[<- ck] at gc2;refine ⟨(e.trans sb).trans sc,c2,ns++xs.map QG,_,rfl,gc2,by rw[ax];lia,by rw[ax,ai];lia,λj ys' hj ej x hx=>?_⟩;rcases c4 j i with z | z
   ·exact gY _ (hn j ys' z ej x hx)
   ·have:j=i:=by lia
    subst this;rw[exs] at ej;cases ej;exact bI _ (aB.mpr ⟨x,hx,rfl⟩)
  ·rintro σ' H' ⟨e,bl,ns,y,rfl,gb,b1,b2,hn⟩;have e0:=s02.trans e;have B':=hB.same e0;have PQ':=PQ.same e0;obtain ⟨m',p',l',g2,_,_,_,Gm',_,_⟩:=id PQ'
   have em:m'=m:=by
    have:=e0 _ _ g;rw[this] at g2;cases g2;rfl
   subst em;obtain ⟨um',gm',qm',_⟩:=id Gm';have lum':=qm'.length;have u0:cZ b H H':=e0.upto;exists ⟨bl,ns,rfl,bO.of gb,by lia,λM hM hmax=>?_⟩;exists iG (λh=>?_) (λh=>?_)
   ·exists ⟨b,4,rfl,B',by decide,by decide,λv H3 v0 v1 B3 u3=>?_⟩;obtain ⟨v,rfl⟩:=cQ v0;exact k v H3 ⟨by lia,.inl (by lia)⟩ B3 (u0.trans u3)
   ·have M9:M<=9:=by rw[decide_eq_true_eq] at h;lia
    have sm:∀xs∈mv++pt,∀x∈xs,x.den<=9/\x.num.natAbs < 1000:=λxs hx x hx'=>by
     obtain ⟨j,hj,rfl⟩:=aY hx;have:=hn j _ (by rw[ax,<- lum,<- lup];rw[ax] at hj;exact hj) (af hj) x hx';exact N6 (Int.le_trans (hmax _ this) M9)
    exists ⟨_,_,rfl,.inl (bO.of gm'),?_⟩;rw[<- lum'];exists iG (λh1=>?_) (λh1=>?_)
    ·have n5:5 < mv.length:=by have:=of_decide_eq_true h1;lia
     exists ⟨b,4,rfl,B',by decide,by decide,λv H3 v0 v1 B3 u3=>?_⟩;obtain ⟨v,rfl⟩:=cQ v0;obtain ⟨m3,p3,l3,g3,_,_,_,Gm3,_,_⟩:=PQ'.upto u3 B' nb;obtain ⟨um3,gm3,qm3,_⟩:=id Gm3;have lum3:=qm3.length;exists ⟨_,_,rfl,.inl (bO.of gm3),?_⟩;rw[<- lum3];exists dy λl4 H4 s4 n4 g4=>?_
     exists ⟨b,2,rfl,B3.same s4,by decide,by decide,λv2 H5 v20 v21 B5 u5=>?_⟩;have g5:=u5.other (λz=>B3.at (by rw[<- z];exact n4)) g4;obtain ⟨x,ex,mx,_⟩:=jH (xs:=[V.int (v:Int),V.int (mv.length:Int)]) v20 (by simpa using v21);exists cx (bO.of g5) ex ?_;have u05:=(u0.trans (u3.same s4)).trans u5;simp only[aI,ba,or_false] at mx;rcases mx with rfl | rfl
     ·exact k v H5 ⟨by lia,.inl (by lia)⟩ B5 u05
     ·exact k mv.length H5 ⟨by lia,.inr ⟨sm,λ_=>ao _,λ_ _=>vm _⟩⟩ B5 u05
    ·have n5:mv.length<=5:=by rw[decide_eq_true_eq] at h1;lia
     exists ⟨_,_,rfl,.inl (bO.of gm'),?_⟩;rw[<- lum'];have last:∀(Hx:Hp),hZ Hx b->cZ b H Hx->∀(v:Nat),v < 2+mv.length->Q (.int v) Hx:=λHx Bx ux v hv=>k v Hx ⟨by lia,.inr ⟨sm,λz=>by lia,λ_ _=>by lia⟩⟩ Bx ux
     exists iG (λh2=>?_) (λh2=>?_)
     ·have n3':mv.length < 3:=by have:=of_decide_eq_true h2;lia
      exists ⟨b,8,rfl,B',by decide,by decide,λv H3 v0 v1 B3 u3=>?_⟩;exists iG (λh3=>?_) (λh3=>?_)
      ·exists ⟨b,13,rfl,B3,by decide,by decide,λv4 H4 v40 v41 B4 u4=>?_⟩;obtain ⟨v4,rfl⟩:=cQ v40;exact k v4 H4 ⟨by lia,.inr ⟨sm,λz=>by lia,λz _=>by lia⟩⟩ B4 ((u0.trans u3).trans u4)
      ·obtain ⟨m3,p3,l3,g3,_,_,_,Gm3,_,_⟩:=PQ'.upto u3 B' nb;obtain ⟨um3,gm3,qm3,_⟩:=id Gm3;have lum3:=qm3.length;exists ⟨_,_,rfl,.inl (bO.of gm3),?_⟩;rw[<- lum3];walk_at "w";rw[show ((2:Int)+(mv.length:Int))=((2+mv.length:Nat):Int) by lia];refine ⟨b,2+mv.length,rfl,B3,by lia,by lia,λv4 H4 v40 v41 B4 u4=>?_⟩;obtain ⟨v4,rfl⟩:=cQ v40;exact last H4 B4 ((u0.trans u3).trans u4) v4 (by lia)
     ·exists ⟨_,_,rfl,.inl (bO.of gm'),?_⟩;rw[<- lum'];walk_at "w";rw[show ((2:Int)+(mv.length:Int))=((2+mv.length:Nat):Int) by lia];refine ⟨b,2+mv.length,rfl,B',by lia,by lia,λv4 H4 v40 v41 B4 u4=>?_⟩;obtain ⟨v4,rfl⟩:=cQ v40;exact last H4 B4 (u0.trans u4) v4 (by lia)
theorem Ct:a9 ["_law_bag_here","_law_parts_here","_law_steps_here","_law_wide"] ["_law_bag_here","_law_parts_here","_law_steps_here","_law_wide"] (aL pY):=by walk_at "d"
theorem CO (T:Txt K mg Z) (ptree:P.given.tree=none):cN P w K mg base fX 4 Z.xH Z.xm ["_law_bag_here","_law_parts_here","_law_steps_here","_law_wide"] (DN K):=by
 have iB:=mh (P:=P) (w:=w) (base:=base) T ptree;refine T.oJ.F.ok Ct (λvs H Q E h=>?_) (λcdv A outer s H vs Q E hr h=>?_)
 ·obtain ⟨b,r,tt,w,H0,mv,pt,lk,rfl,_⟩:=h;rfl
 ·obtain ⟨b,r,tt,w,H0,mv,pt,lk,rfl,hT,w1,w2,hB,nb,PQ,D,k⟩:=h;refine ⟨_,(aF (a8 (b9 ["_law_turn"] ["_law_bag_here","_law_parts_here","_law_wide"] [0,1,3] (cy rfl T.range (ae (pv 2) aj)) (λ_=>(aS (i:=0) (show ND9 ["_law_turn","_law_bag_here","_law_parts_here","_law_wide"] by decide +kernel))) (λ_=>cB) (λ_=>(cG iB hr T.iq (ae (pv 1) (ae (bP (AJ K (by rfl)) (by rfl) T.len bf (ae (a7 (qX K (by rfl)) (pv 2) ak) aj)) (ae (pv 3) aj)))))))),?_⟩;refine aU (σ:=[some (.ref b),some (.ref r),some (.int tt),some (.int w)]) rfl ?_;have i4:=D.i4;exists ⟨by lia,by lia,?_⟩
  refine wo (n:=tt) (b:=b) (dm K H) (λxs=>xs.length=pt.length/\∀x∈xs,Dr (max w 6) x) hB (by lia) (λ{H' H'' c x} a u B=>by
   obtain ⟨q,e,nq,R⟩:=a;exact ⟨q,e,nq,R.upto u B (λz=>hB.at (by rw[<- z];exact nq))⟩) ?_ ?_
  ·rintro i Ha NY NN hi ua Ba k1;obtain ⟨m,p,l,g,n1,n2,n3,Gm,Gp,Gl⟩:=PQ.upto ua hB nb;obtain ⟨up,gp,qp,_⟩:=id Gp;have lup:=qp.length;exists ⟨_,_,rfl,.inl (bO.of gp),?_⟩;rw[<- lup];exists ⟨b,pt.length,w,rfl,Ba,by lia,w1,by lia,λq xs Hb nq R lx dx Bb ub=>?_⟩;exact k1 _ xs _ ub Bb ⟨lx,dx⟩ ⟨q,rfl,ua.none Ba nq,R⟩
  ·rintro ys cs Hz t ht uz Bz gz lc hc prz nx;exact k t cs Hz ht ⟨ys,gz,prz,jy nx⟩ lc hc Bz uz
theorem ma:a9 ["_law_one","_law_other","_law_total","_law_k"] ["_law_one","_law_other"] (aL sW):=by walk_at "d"
theorem En (T:Txt K mg Z) (ptree:P.given.tree=none):cN P w K mg base fX 3 Z.Am Z.Aa ["_law_one","_law_other"] (Ck K):=by
 have fI:=ki (P:=P) (w:=w) (base:=base) T ptree;have fA:=kQ (P:=P) (w:=w) (base:=base) T ptree;refine T.qq.F.ok ma (λvs H Q E h=>?_) (λcdv A outer s H vs Q E hr h=>?_)
 ·obtain ⟨p,q,xs,ys,rfl,_⟩:=h;rfl
 ·obtain ⟨p,q,xs,ys,rfl,hp,hq,hl,hz,⟨k1,j1,k2,j2,h1,h2,hkj⟩,kk⟩:=h
  refine ⟨_,(au (aZ (i:=2) ma.nd rfl (Or.inl rfl) (c6 (ae ak (ae ak aj))))
   (au (eH PassesOwn.never rfl (cy rfl T.range (ae (bP bu (by rfl) T.len bf (ae (pv 0) aj)) aj)) (aS (i:=3) ma.nd)
    (aF (aZ (i:=2) ma.nd rfl (Or.inl rfl) (cG fI hr T.gi (ae (pv 2) (ae (cG fA hr T.fv (ae (a7 bQ (pv 0) (pv 3)) (ae (a7 bQ (pv 1) (pv 3)) aj))) aj))))))
   (aF (a8 (pv 2))))),?_⟩
  refine aU (σ:=[some (.ref p),some (.ref q),none,none]) rfl ?_;obtain ⟨us,gu,qu⟩:=id hp;obtain ⟨ws,gw,qw⟩:=id hq;have lu:=qu.length;have lw:=qw.length;exists cA λr0 H0 s0 g0=>?_
  exists ⟨_,_,rfl,.inl (bO.of (s0 _ _ gu)),?_⟩;exists ⟨by lia,by lia,?_⟩;refine eX (n:=us.length) (λi σ' H'=>aK H H'/\∃(r:V) (v:Option V),σ'=[some (.ref p),some (.ref q),some r,v]/\bV K H' (cm (xs.take i) (ys.take i)) r) ⟨s0,_,none,rfl,bV.mk g0 rfl⟩ ?_ ?_
  ·rintro i σ' H' hi ⟨s,r,v,rfl,hr⟩;have ix:i < xs.length:=by lia
   have iy:i < ys.length:=by lia
   obtain ⟨vx,ex,nx⟩:=Ik (Paired.imp' (λ_ _ z=>z.same s) qu) ix;obtain ⟨vy,ey,ny⟩:=Ik (Paired.imp' (λ_ _ z=>z.same s) qw) iy;exists cx (bO.of (s _ _ gu)) ex ?_;exists cx (bO.of (s _ _ gw)) ey ?_;exists ⟨_,_,_,_,rfl,nx,ny,h1.szn (getD_mem ix) (by lia),h2.szn (getD_mem iy) (by lia),λr3 H3 s3 n3=>?_⟩;exists ⟨_,_,_,_,rfl,hr.same s3,n3,LZ h1 h2 hz i hkj,Ll (h1.one (getD_mem ix)) (h2.one (getD_mem iy)) hkj,λr4 H4 s4 n4=>?_⟩;exists ⟨(s.trans s3).trans s4,_,_,rfl,by rw[v8 ix iy];exact n4⟩
  ·rintro σ' H' ⟨s,r,v,rfl,hr⟩;rw[aE (by lia),aE (by lia)] at hr;obtain ⟨t,rfl,ht⟩:=hr;exists kk _ H' s ⟨t,rfl,ht⟩
theorem FE:a9 ["_law_grid","_law_row_here"] ["_law_grid","_law_row_here"] (aL vL):=by walk_at "d"
theorem FX (T:Txt K mg Z) (ptree:P.given.tree=none):cN P w K mg base fX 4 Z.BQ Z.BA ["_law_grid","_law_row_here"] (Cj K):=by
 have GK:=En (P:=P) (w:=w) (base:=base) T ptree;refine T.tJ.F.ok FE (λvs H Q E h=>?_) (λcdv A outer s H vs Q E hr h=>?_)
 ·obtain ⟨p,q,H0,rows,ys,rfl,_⟩:=h;rfl
 ·obtain ⟨p,q,H0,rows,ys,rfl,hp,hq,hz,hl,hr1,kk⟩:=h;refine ⟨_,(aF (a8 (b9 ["_law_one"] ["_law_row_here"] [1] (cP (pv 0)) (λ_=>(aS (i:=0) (show ND9 ["_law_one","_law_row_here"] by decide +kernel))) (λ_=>cB) (λ_=>(cG GK hr T.qq (ae (pv 0) (ae (pv 1) aj))))))),?_⟩;refine aU (σ:=[some (.ref p),some (.ref q)]) rfl ?_;obtain ⟨xs,gx,qx,_⟩:=id hp;exists ⟨⟨_,bO.of gx⟩,?_⟩;refine dN (K:=K) (F:=dm K H0) (bV K) (λxs=>cm xs ys) gx qx hz (λa b=>a.same b) (λa b=>a.same b) ?_ ?_
  ·rintro i ns x H' NY NN en s ⟨u,rfl,_,hu⟩ k;obtain ⟨e1,e2⟩:=hr1 ns (av en);exists ⟨u,q,ns,ys,rfl,hu,hq.same s,e1.symm,by lia,e2,λr H2 s2 h2'=>k _ _ s2 h2'⟩
  ·rintro ys' H' r hr s g pr nx;exact kk r H' hr s ⟨ys',g,pr⟩
theorem gC:a9 ["_law_parts_here","_law_state","_law_puts_here","_law_move_here","_law_put","_law_look","_law_found","_law_k"] ["_law_parts_here","_law_state","_law_puts_here"] (aL p5):=by walk_at "d"
theorem CP (T:Txt K mg Z) (ptree:P.given.tree=none):cN P w K mg base fX 5 Z.xK Z.xp ["_law_parts_here","_law_state","_law_puts_here"] (DR K):=by
 have J5:=FX (P:=P) (w:=w) (base:=base) T ptree;have kv:=oC (P:=P) (w:=w) (base:=base) T ptree;have wO:=zC (P:=P) (w:=w) (base:=base) T ptree;refine T.oK.F.ok gC (λvs H Q E h=>?_) (λcdv A outer s H vs Q E hr h=>?_)
 ·obtain ⟨r,s0,u0,H0,mv,pt,lk,st,pu,rfl,_⟩:=h;rfl
 ·obtain ⟨r,s0,u0,H0,mv,pt,lk,st,pu,rfl,PQ,D,hs,hu,l1,l2,NX,k⟩:=h
  refine ⟨_,(au (fF (pv 0) (td rfl (cE (aS (i:=3) gC.nd) (cE (aS (i:=4) gC.nd) (cE (aS (i:=5) gC.nd) gW)))))
   (au (aZ (i:=6) gC.nd rfl (Or.inl rfl) (cG J5 hr T.tJ (ae (pv 3) (ae (pv 1) aj))))
   (au (eH PassesOwn.never rfl (cy rfl T.range (ae (bP bu (by rfl) T.len bf (ae (pv 4) aj)) aj)) (aS (i:=7) gC.nd)
    (aF (aZ (i:=6) gC.nd rfl (Or.inl rfl) (cG kv hr T.jC (ae (pv 6) (ae (cG wO hr T.oP (ae (a7 bQ (pv 2) (pv 7)) (ae (a7 bQ (pv 4) (pv 7)) aj))) aj))))))
   (aF (a8 (pv 6)))))),?_⟩
  refine aU (σ:=[some (.ref r),some (.ref s0),some (.ref u0),none,none,none,none,none]) rfl ?_;obtain ⟨m,p,l,g,n1,n2,n3,Gm,Gp,Gl⟩:=id PQ;have d1:=D.n8;have d2:=D.i4;exists ⟨m,s0,H0,mv,st,rfl,Gm,hs,by lia,by lia,λxs hx=>⟨by rw[D.mw xs hx,l1],NX.f2 xs hx⟩,λf H1 nf s1 R1=>?_⟩;obtain ⟨ps,gp,qp,_⟩:=Gp.same s1;have lp:=qp.length;exists ⟨_,_,rfl,.inl (bO.of gp),?_⟩;exists ⟨by lia,by lia,?_⟩;refine eX (n:=ps.length) (λkk σ' H'=>∃(f:Addr) (x:Option V),σ'=[some (.ref r),some (.ref s0),some (.ref u0),some (.ref m),some (.ref p),some (.ref l),some (.ref f),x]/\H f=none/\aK H1 H'/\cL K H' f (nextK mv pt st pu kk)) ⟨f,none,rfl,nf,aK.refl _,by rw[FY];exact R1⟩ ?_ ?_
  ·rintro kk σ' H' hk ⟨f',x,rfl,nf',s',R'⟩;have kp:kk < pt.length:=by lia
   have ku:kk < pu.length:=by lia
   obtain ⟨zs,gz,qz⟩:=(hu.same s1).same s';have lz:=qz.length;obtain ⟨vu,eu,nu⟩:=Ik qz ku;obtain ⟨row,vr,er,ev,mr,q,rfl,_,Rq⟩:=jV qp kp
   have er':pt[kk]=row:=by
    rw[af kp] at er;exact cg er
   have eu':pu.getD kk 0=pu[kk]:=by rw[aa,af ku];rfl
   have mu:pu.getD kk 0∈pu:=getD_mem ku;exists cx (bO.of gz) eu ?_;exists cx (bO.of (s' _ _ gp)) (eJ ev) ?_;exists ⟨vu,q,_,row,rfl,nu,NX.su _ mu,Rq.same s',by rw[D.pw row mr];lia,NX.sp row mr,λr1 H2 n1' s2 R2=>?_⟩;exists ⟨f',r1,_,_,rfl,R'.same s2,R2,by rw[ai,jh,D.pw row mr],by rw[jh];lia,NX.part kk,λy hy=>?_,λr2 H3 n2' s3 R3=>?_⟩
   ·obtain ⟨y',hy',rfl⟩:=aB.mp hy;exact NX.mul _ mu row mr y' hy'
   ·exists ⟨s1.none (s'.none (s2.none n2')),(s'.trans s2).trans s3,?_⟩;have e:=FZ (st:=st) (pu:=pu) (λxs hx=>by rw[D.mw xs hx,l1]) kp ku (by rw[er'];exact D.pw row mr);rw[er',<- eu'] at e;rw[<- e];exact R3
  ·rintro σ' H' ⟨f',x,rfl,nf',s',R'⟩;rw[qU (by lia) (by lia)] at R';exists k f' H' nf' (s1.trans s') R'
theorem l9:a9 ["_law_parts_here","_law_start","_law_rows","_law_state","_law_puts_here"] ["_law_parts_here","_law_start","_law_rows"] (aL sV):=by walk_at "d"
theorem Em (T:Txt K mg Z) (ptree:P.given.tree=none):cN P w K mg base fX 6 Z.Al Z.zZ ["_law_parts_here","_law_start","_law_rows"] (HJ K):=by
 have Fg:=CP (P:=P) (w:=w) (base:=base) T ptree;refine T.kr.F.ok l9 (λvs H Q E h=>?_) (λcdv A outer s H vs Q E hr h=>?_)
 ·obtain ⟨r,s,p,H0,H1,mv,pt,lk,pus,st,rfl,_⟩:=h;rfl
 ·obtain ⟨r,s,p,H0,H1,mv,pt,lk,pus,st,rfl,PQ,D,Rs,ls,Gp,lp,wp,EF,k⟩:=h
  refine ⟨_,(au (aZ (i:=3) l9.nd rfl (Or.inl rfl) (gN (nA K (by rfl)) (by rfl) T.list PyProof.Rows.boot_list (ae (pv 1) aj)))
   (au (eH PassesOwn.never rfl (cP (pv 2)) (aS (i:=4) l9.nd)
    (aF (aZ (i:=3) l9.nd rfl (Or.inl rfl) (cG Fg hr T.oK (ae (pv 0) (ae (pv 3) (ae (pv 4) aj)))))))
   (aF (a8 (pv 3))))),?_⟩
  refine aU (σ:=[some (.ref r),some (.ref s),some (.ref p),none,none]) rfl ?_;have d1:=D.n8;obtain ⟨ss,gs,qs⟩:=id Rs;obtain ⟨ps,gp,qp,_⟩:=id Gp;have lps:=qp.length;exists ⟨s,ss,rfl,.inl (bO.of gs),λc hc=>?_⟩;have sc:aK H (upd H c (.lst ss)):=aK.new hc;have Rc:cL K (upd H c (.lst ss)) c st:=⟨ss,aM,Paired.imp' (λ_ _ z=>z.same sc) qs⟩;generalize upd H c (.lst ss)=Hc at sc Rc ⊢;exists ⟨⟨_,bO.of (sc _ _ gp)⟩,?_⟩;refine iV (K:=K) (a:=p) (xs:=ps) (λi σ' H'=>aK H H'/\∃q y,σ'=[some (.ref r),some (.ref s),some (.ref p),some (.ref q),y]/\H q=none/\cL K H' q (pN mv pt st pus i)) ⟨sc,c,_,rfl,hc,Rc⟩ (λi σ' H' _ ⟨e,_⟩=>bO.of (e _ _ gp)) ?_ ?_
  ·rintro i v σ' H' hv ⟨e,q,y,rfl,nq,Rq⟩;obtain ⟨pu,epu,u,rfl,_,Ru⟩:=bX qp hv;have hi:i < pus.length:=(aJ.mp epu).1;have mp:=av epu;exists ⟨r,q,u,H0,mv,pt,lk,_,pu,rfl,PQ.same e,D,Rq,cL.same Ru e,j5 ls (by lia),wp pu mp,EF.nx D ls wp (by lia) epu,λq2 H2 n2 s2 R2=>?_⟩;rw[<- pM epu] at R2;exact ⟨e.trans s2,q2,_,rfl,e.none n2,R2⟩
  ·rintro σ' H' ⟨e,q,y,rfl,nq,Rq⟩;rw[<- lps] at Rq;exists k q H' nq e Rq
theorem eQ:a9 ["wholes","multiple","whole"] ["wholes"] (aL jv):=by walk_at "d"
theorem tu (T:Txt K mg Z) (ptree:P.given.tree=none):cN P w K mg base fX 2 Z.mC Z.mo ["wholes"] (Ky K):=by
 have fW:=jx (P:=P) (w:=w) (base:=base) T ptree;refine T.jc.F.ok eQ (λvs H Q E h=>?_) (λcdv A outer s H vs Q E hr h=>?_)
 ·obtain ⟨p,bs,M,rfl,_⟩:=h;rfl
 ·obtain ⟨p,bs,M,rfl,hp,hM,sM,hb,q⟩:=h
  refine ⟨_,(au (aZ (i:=1) eQ.nd rfl (Or.inl rfl) ak)
   (au (eH PassesOwn.never rfl (cP (pv 0)) (aS (i:=2) eQ.nd)
    (aF (aZ (i:=1) eQ.nd rfl (Or.inl rfl) (bC cV (pv 1) (bC (ij rfl eQ rfl rfl rfl ptree (qF hr)) (pv 2) (cG fW hr T.fu (ae (pv 1) (ae (pv 2) aj))))))))
   (aF (a8 (pv 1))))),?_⟩
  refine aU (σ:=[some (.ref p),none,none]) rfl ?_;exists ⟨⟨_,hp⟩,?_⟩;refine iV (K:=K) (a:=p) (xs:=bs.map V.int) (λi σ' H'=>H'=H/\∃x,σ'=[some (.ref p),some (.int (vW (bs.take i) 1)),x]) ⟨rfl,none,rfl⟩ (λi σ' H' _ ⟨e,_⟩=>by subst e;exact hp) ?_ ?_
  ·rintro i x σ' H' hx ⟨rfl,y,rfl⟩;rw[aH] at hx
   obtain ⟨b,eb,rfl⟩:∃b,bs[i]?=some b/\x=.int b:=by
    cases e:bs[i]? with
    | none=>rw[e] at hx;cases hx
    | some b=>rw[e] at hx;cases hx;exact ⟨b,rfl,rfl⟩
   have b1:=hb b (av eb);have sb:Sz 220000 b:=C6 hM b1.2 sM;have ht:∀c∈bs.take i,0 < c/\c∣M:=λc hc=>hb c (bR hc)
   have msz:Sz 220000 (vW (bs.take i) 1):=C6 hM (yh (by decide) (Int.one_dvd _) ht) sM;generalize hm:vW (bs.take i) 1=m at msz ⊢;have gp:0 < g m b:=zP (by lia);exists ⟨m,b,rfl,?_⟩;exists fj (show mG _ _ from ⟨by lia,(SH b1.1 sb).mono (by decide)⟩) ?_;rw[b7 _ (by lia)];exists fj (show fK _ _ from .inr ⟨_,_,msz,sb.hi (t:=m) (by lia),by decide⟩) ?_;exists ⟨rfl,_,by rw[take_snoc eb,Bo,hm];rfl⟩
  ·rintro σ' H' ⟨rfl,y,rfl⟩;walk_at "w";rw[aE (by simp)];exact q
theorem vD:a9 ["row"] ["row"] (aL kC):=by walk_at "d"
theorem jY (T:Txt K mg Z) (ptree:P.given.tree=none):cN P w K mg base fX 3 Z.o9 Z.o7 ["row"] (Kz K):=by
 have ve:=tu (P:=P) (w:=w) (base:=base) T ptree;refine T.dM.F.ok vD (λvs H Q E h=>?_) (λcdv A outer s H vs Q E hr h=>?_)
 ·obtain ⟨p,ns,M,rfl,_⟩:=h;rfl
 ·obtain ⟨p,ns,M,rfl,hp,hl,hz,q⟩:=h;refine ⟨_,(aF (a8 (cG ve hr T.jc (ae (b9 ["value"] [] [] (cP (pv 0)) (λ_=>(aS (i:=0) (show ND9 ["value"] by decide +kernel))) (λ_=>cB) (λ_=>(a7 (qX K (by rfl)) (pv 0) ak))) aj)))),?_⟩;refine aU (σ:=[some (.ref p)]) rfl ?_;obtain ⟨xs,gx,qx⟩:=id hp;have lx:=qx.length;exists ⟨⟨_,bO.of gx⟩,?_⟩;refine gO (K:=K) (xs:=xs) (λi ys H'=>H'=H/\ys=((ns.take i).map (·.2)).map V.int) (bc (bK (by lia))) ⟨rfl,rfl⟩ (λi ys H' _ ⟨e,_⟩=>by subst e;exact bO.of gx) ?_ ?_
  ·rintro i x ys H' hx hlen ⟨rfl,rfl⟩;obtain ⟨n,en,r,rfl,hr1⟩:=bX qx hx;exists ⟨rfl,by rw[take_snoc en];simp⟩
  ·rintro ys H' hy ⟨rfl,rfl⟩ l hl';exists ⟨l,ns.map (·.2),M,rfl,bO.of (by rw[aM,aE (by lia)]),hz.1,hz.2.1,λb hb=>?_,?_⟩
   ·obtain ⟨n,hn,rfl⟩:=aB.mp hb;exact ⟨(hz.2.2 n hn).1,(hz.2.2 n hn).2.1⟩
   ·exact q _ (aK.new hl')
theorem tW:a9 ["row","bottom"] ["row","bottom"] (aL pS):=by walk_at "d"
theorem oA (T:Txt K mg Z) (ptree:P.given.tree=none):cN P w K mg base fX 1 Z.xB Z.xg ["row","bottom"] (DM K):=by
 refine T.gE.F.ok tW (λvs H Q E h=>?_) (λcdv A outer s H vs Q E hr h=>?_)
 ·obtain ⟨p,ns,M,B,rfl,_⟩:=h;rfl
 ·obtain ⟨p,ns,M,B,rfl,hp,hl,hz,hB,sB,q⟩:=h;refine ⟨_,(aF (a8 (b9 ["value"] ["bottom"] [1] (cP (pv 0)) (λ_=>(aS (i:=0) (show ND9 ["value","bottom"] by decide +kernel))) (λ_=>cB) (λ_=>(bC cV (a7 (qX K (by rfl)) (pv 0) ak) (bC (ij rfl tW rfl rfl rfl ptree (qF hr)) (pv 1) (a7 (qX K (by rfl)) (pv 0) ak))))))),?_⟩;refine aU (σ:=[some (.ref p),some (.int B)]) rfl ?_;obtain ⟨xs,gx,qx⟩:=id hp;have lx:=qx.length;exists ⟨⟨_,bO.of gx⟩,?_⟩;refine gO (K:=K) (xs:=xs) (λi ys H'=>H'=H/\ys=(dC (ns.take i) B).map V.int) (bc (bK (by lia))) ⟨rfl,rfl⟩ (λi ys H' _ ⟨e,_⟩=>by subst e;exact bO.of gx) ?_ ?_
  ·rintro i x ys H' hx hlen ⟨rfl,rfl⟩;obtain ⟨n,en,r,rfl,hr1⟩:=bX qx hx;have nz:=hz.2.2 n (av en);have sn:Sz 220000 n.2:=C6 hz.1 nz.2.1 hz.2.1;exists fj (show mG _ _ from ⟨by lia,sn.mono (by decide)⟩) ?_;rw[b7 _ (by lia)]
   have sq:Sz 220000 (B / n.2):=sB.le (by
    rw[QE (by lia)];exact Nat.div_le_self ..)
   exists fj (show fK _ _ from .inr ⟨_,_,nz.2.2,sq,by decide⟩) ?_;exact ⟨rfl,by rw[take_snoc en];simp [dC]⟩
  ·rintro ys H' hy ⟨rfl,rfl⟩ l hl';exact q l _ hl' (aK.new hl') (by rw[aM,aE (by lia)])
theorem nJ:a9 ["top","bottom","divisor"] ["top","bottom"] (aL yP):=by walk_at "d"
theorem kZ (T:Txt K mg Z) (ptree:P.given.tree=none):cN P w K mg base fX 2 Z.EX Z.EG ["top","bottom"] Jg:=by
 have fW:=jx (P:=P) (w:=w) (base:=base) T ptree;refine T.jk.F.ok nJ (λvs H Q E h=>?_) (λcdv A outer s H vs Q E hr h=>?_)
 ·obtain ⟨t,b,rfl,_⟩:=h;rfl
 ·obtain ⟨t,b,rfl,hb,hs,k⟩:=h
  refine ⟨_,(au (aZ (i:=2) nJ.nd rfl (Or.inl rfl) (cG fW hr T.fu (ae (pv 0) (ae (pv 1) aj))))
   (au (di (bD rD (pv 1) ak (bJ _)) (aF (aZ (i:=2) nJ.nd rfl (Or.inl rfl) (wV pH (pv 2)))) cp)
   (aF (a8 (c6 (ae (bC (ij rfl nJ rfl rfl rfl ptree (qF hr)) (pv 0) (pv 2)) (ae (bC (ij rfl nJ rfl rfl rfl ptree (qF hr)) (pv 1) (pv 2)) aj))))))),?_⟩
  refine aU (σ:=[some (.int t),some (.int b),none]) rfl ?_;exists ⟨t,b,rfl,?_⟩;have hg:=zP (t:=t) hb
  have hgs:Sz 449950 (g t b):=hs.le (by
   have h1:(g t b).natAbs=Int.gcd t b:=by unfold g;simp
   rw[h1];exact kI (by lia) (by have:=fB (a:=t) (b:=b);exact gI.mpr this |> λz=>by simpa using z))
  have hgn:g (-t) (-b)=g t b:=by unfold g;rw[Int.gcd_neg,Int.neg_gcd]
  exists iG (λh=>?_) (λh=>?_)
  ·have hb0:b < 0:=of_decide_eq_true h;exists fj (show mG _ _ from ⟨by lia,hgs.neg⟩) ?_;exists fj (show mG _ _ from ⟨by lia,hgs.neg⟩) ?_;exists cA λr H' s' h'=>?_
   have e1:t.fdiv (-g t b)=lo (-t) (-b):=by
    unfold Nm.lo;rw[hgn,<- b7 _ (by lia),<- Int.neg_fdiv_neg (-t),Int.neg_neg]
   have e2:b.fdiv (-g t b)=hi (-t) (-b):=by
    unfold Nm.hi;rw[hgn,<- b7 _ (by lia),<- Int.neg_fdiv_neg (-b),Int.neg_neg]
   exact k r H' s' (by rw[if_pos hb0,if_pos hb0,<- e1,<- e2];exact h')
  ·have hb0:¬b < 0:=λz=>h (decide_eq_true z)
   exists fj (show mG _ _ from ⟨by lia,hgs⟩) ?_;exists fj (show mG _ _ from ⟨by lia,hgs⟩) ?_;exists cA λr H' s' h'=>?_
   rw[b7 _ (by lia),b7 _ (by lia)] at h';exact k r H' s' (by rw[if_neg hb0,if_neg hb0];exact h')
theorem ib:a9 ["one","other","one_bottom","other_bottom","pairs"] ["one","other"] (aL vF):=by walk_at "d"
theorem zi (T:Txt K mg Z) (ptree:P.given.tree=none):cN P w K mg base fX 4 Z.wD Z.v9 ["one","other"] (Ck K):=by
 have d7:=jY (P:=P) (w:=w) (base:=base) T ptree;have iu:=oA (P:=P) (w:=w) (base:=base) T ptree;have iw:=kZ (P:=P) (w:=w) (base:=base) T ptree;refine T.il.F.ok ib (λvs H Q E h=>?_) (λcdv A outer s H vs Q E hr h=>?_)
 ·obtain ⟨p,q,xs,ys,rfl,_⟩:=h;rfl
 ·obtain ⟨p,q,xs,ys,rfl,hp,hq,hl,hz,⟨k1,j1,k2,j2,h1,h2,hkj⟩,kk⟩:=h
  refine ⟨_,(au (aZ (i:=2) ib.nd rfl (Or.inl rfl) (cG d7 hr T.dM (ae (pv 0) aj)))
   (au (aZ (i:=3) ib.nd rfl (Or.inl rfl) (cG d7 hr T.dM (ae (pv 1) aj)))
   (au (aZ (i:=4) ib.nd rfl (Or.inl rfl) (y7 rfl T.list rfl T.zip (ae (cG iu hr T.gE (ae (pv 0) (ae (pv 2) aj))) (ae (cG iu hr T.gE (ae (pv 1) (ae (pv 3) aj))) aj))))
   (aF (a8 (cG iw hr T.jk (ae (bP (ET rfl) (by rfl) T.sum PyProof.Rows.boot_sum (ae (b9 ["mine","yours"] [] [] (cP (pv 4)) (λ_=>(me K 2 (cE (aS (i:=0) (show ND9 ["mine","yours"] by decide +kernel)) (cE (aS (i:=1) (show ND9 ["mine","yours"] by decide +kernel)) gW)))) (λ_=>cB) (λ_=>(bC cV (pv 0) (pv 1)))) aj)) (ae (bC cV (pv 2) (pv 3)) aj)))))))),?_⟩
  refine aU (σ:=[some (.ref p),some (.ref q),none,none,none]) rfl ?_;obtain ⟨M,h1⟩:=h1.rowM (by lia);obtain ⟨N,h2⟩:=h2.rowM (by lia);replace hp:=hp.rowK;replace hq:=hq.rowK;replace hl:(ys.map nm).length=(xs.map nm).length:=by simpa using hl
  replace hz:(xs.map nm).length<=1000:=by simpa using hz
  obtain ⟨b1,s1⟩:=h1.bot;obtain ⟨b2,s2⟩:=h2.bot;have k2:∀r H',aK H H'->H' r=some (.tup [.int (lo (Gk (xs.map nm) (ys.map nm)) (eI (xs.map nm)*eI (ys.map nm))),.int (hi (Gk (xs.map nm) (ys.map nm)) (eI (xs.map nm)*eI (ys.map nm)))])->Q (.ref r) H':=λr H' s g=>kk r H' s (bV.mk g (Iw b1 b2))
  clear kk;generalize xs.map nm=ns at hp hq hl hz h1 h2 b1 b2 s1 s2 k2;generalize ys.map nm=ms at hp hq hl hz h1 h2 b1 b2 s1 s2 k2;have hb:0 < eI ns*eI ms:=hJ b1 b2;exists ⟨p,ns,M,rfl,hp,hz,h1,λH1 t1=>?_⟩;exists ⟨q,ms,N,rfl,hq.same t1,by lia,h2,λH2 t2=>?_⟩;have u2:=t1.trans t2;exists ⟨p,ns,M,_,rfl,hp.same u2,hz,h1,b1,s1,λr1 H3 n3 t3 g3=>?_⟩;exists ⟨q,ms,N,_,rfl,(hq.same u2).same t3,by lia,h2,b2,s2,λr2 H4 n4 t4 g4=>?_⟩;exists ⟨r1,r2,_,_,rfl,bO.of (t4 _ _ g3),bO.of g4,by simp [dC,hl],λL ts H5 t5 n5 g5 pr=>?_⟩;have lt:=pr.length;have ll:(dC ns (eI ns)).length=ns.length:=by simp [dC]
  have lm:(dC ms (eI ms)).length=ns.length:=by simp [dC,hl]
  rw[pG,ai,ai,ll,lm] at lt;exists ⟨⟨_,bO.of g5⟩,?_⟩;refine gO (K:=K) (xs:=ts) (λi ys H'=>H'=H5/\ys=((List.zipWith (λx y=>x*y) (dC ns (eI ns)) (dC ms (eI ms))).take i).map V.int) (bc (bK (by lia))) ⟨rfl,rfl⟩ (λi ys H' _ ⟨e,_⟩=>by subst e;exact bO.of g5) ?_ ?_
  ·rintro i x ys H' hx hlen ⟨rfl,rfl⟩;obtain ⟨pq,epq,T,rfl,gT⟩:=bX pr hx;obtain ⟨t,u,et,eu,rfl⟩:=GU epq;exists fj (show fK _ _ from .inr ⟨_,_,tR h1 b1 s1 (av et),tR h2 b2 s2 (av eu),by decide⟩) ?_;have ez:(List.zipWith (λx y=>x*y) (dC ns (eI ns)) (dC ms (eI ms)))[i]?=some (t*u):=by rw[bo,et,eu]
   exact ⟨rfl,by rw[take_snoc ez];simp⟩
  ·rintro ys H' hy ⟨rfl,rfl⟩ l hl';exists ⟨l,List.zipWith (λx y=>x*y) (dC ns (eI ns)) (dC ms (eI ms)),rfl,bO.of (by rw[aM,aE (by rw[aQ];lia)]),?_⟩;exists fj (show fK _ _ from .inr ⟨_,_,s1,s2,by decide⟩) ?_;exists ⟨_,_,rfl,by lia,(s1.mul s2).mono (by decide),λr H6 t6 g6=>?_⟩;rw[if_neg (by lia),if_neg (by lia)] at g6;exact k2 r H6 ((((u2.trans t3).trans t4).trans t5).trans ((aK.new hl').trans t6)) g6
theorem yK:a9 ["grid","row"] ["grid","row"] (aL vJ):=by walk_at "d"
theorem FV (T:Txt K mg Z) (ptree:P.given.tree=none):cN P w K mg base fX 5 Z.wF Z.we ["grid","row"] (Cj K):=by
 have wL:=zi (P:=P) (w:=w) (base:=base) T ptree;refine T.jZ.F.ok yK (λvs H Q E h=>?_) (λcdv A outer s H vs Q E hr h=>?_)
 ·obtain ⟨p,q,H0,rows,ys,rfl,_⟩:=h;rfl
 ·obtain ⟨p,q,H0,rows,ys,rfl,hp,hq,hz,hl,hr1,kk⟩:=h;refine ⟨_,(aF (a8 (b9 ["line"] ["row"] [1] (cP (pv 0)) (λ_=>(aS (i:=0) (show ND9 ["line","row"] by decide +kernel))) (λ_=>cB) (λ_=>(cG wL hr T.il (ae (pv 0) (ae (pv 1) aj))))))),?_⟩;refine aU (σ:=[some (.ref p),some (.ref q)]) rfl ?_;obtain ⟨xs,gx,qx,_⟩:=id hp;exists ⟨⟨_,bO.of gx⟩,?_⟩;refine dN (K:=K) (F:=dm K H0) (bV K) (λxs=>cm xs ys) gx qx hz (λa b=>a.same b) (λa b=>a.same b) ?_ ?_
  ·rintro i ns x H' NY NN en s ⟨u,rfl,_,hu⟩ k;obtain ⟨e1,e2⟩:=hr1 ns (av en);exists ⟨u,q,ns,ys,rfl,hu,hq.same s,e1.symm,by lia,e2,λr H2 s2 h2'=>k _ _ s2 h2'⟩
  ·rintro ys' H' r hr s g pr nx;exact kk r H' hr s ⟨ys',g,pr⟩
theorem Az:a9 ["system","rows"] ["system","rows"] (aL og):=by walk_at "d"
theorem rE (T:Txt K mg Z) (ptree:P.given.tree=none):cN P w K mg base fX 6 Z.uU Z.uG ["system","rows"] (A6 K Z.a_System):=by
 have JZ:=FV (P:=P) (w:=w) (base:=base) T ptree;refine T.j7.F.ok Az (λvs H Q E h=>?_) (λcdv A outer s H vs Q E hr h=>?_)
 ·obtain ⟨x,p,H0,H1,mv,pt,lk,R,rfl,_⟩:=h;rfl
 ·obtain ⟨x,p,H0,H1,mv,pt,lk,R,rfl,S,D,G,l100,wR,hf,k⟩:=h;refine ⟨_,(aF (a8 (b9 ["row"] ["system"] [0] (cP (pv 1)) (λ_=>(aS (i:=0) (show ND9 ["row","system"] by decide +kernel))) (λ_=>cB) (λ_=>(cG JZ hr T.jZ (ae (HW K (pv 1) rfl) (ae (pv 0) aj))))))),?_⟩;refine aU (σ:=[some (.ref x),some (.ref p)]) rfl ?_;obtain ⟨dx,a',b',c',gx,_,_,_,Ga,Gb,Gc⟩:=id S;have d8:=D.n8;obtain ⟨xs,gxs,qx,_⟩:=id G;exists ⟨⟨_,bO.of gxs⟩,?_⟩;refine dN (K:=K) (F:=dm K H1) (dm K H) (qT mv) gxs qx (by lia) (λa b=>a.same b) (λa b=>a.same b) ?_ ?_
  ·rintro i ns v H' NY NN en s ⟨u,rfl,_,hu⟩ k1;have mn:=av en;exists ⟨x,Z.a_System,dx,_,_,rfl,s _ _ gx,T.cl_System,T.na_move,DK,?_⟩;exists ⟨a',u,H0,mv,ns,rfl,Ga.same s,hu,by lia,by rw[wR ns mn];lia,λxs hx=>⟨by rw[D.mw xs hx,wR ns mn],hf xs hx ns mn⟩,λr H2 nr s2 R2=>k1 _ _ s2 ⟨r,rfl,s.none nr,R2⟩⟩
  ·rintro ys H' r hr s g pr nx;exact k r H' hr s ⟨ys,g,pr,jy nx⟩
theorem jt:a9 ["system","steps","lists","rows","step"] ["system","steps"] (aL pW):=by walk_at "d"
theorem uj (T:Txt K mg Z) (ptree:P.given.tree=none):cN P w K mg base fX 7 Z.xF Z.xk ["system","steps"] (DY K Z.a_System):=by
 have oV:=rE (P:=P) (w:=w) (base:=base) T ptree;refine T.kS.F.ok jt (λvs H Q E h=>?_) (λcdv A outer s H vs Q E hr h=>?_)
 ·obtain ⟨x,u,H0,mv,pt,lk,rfl,_⟩:=h;rfl
 ·obtain ⟨x,u,H0,mv,pt,lk,rfl,hu,S,D,F,k⟩:=h
  refine ⟨_,(au (aZ (i:=2) jt.nd rfl (Or.inl rfl) (dJ aj))
   (au (aZ (i:=3) jt.nd rfl (Or.inl rfl) (iN (pv 0) rfl))
   (au (eH PassesOwn.never rfl (cy rfl T.range (ae (pv 1) aj)) (aS (i:=4) jt.nd)
    (au (iX (ug c5 dd dc ji (pv 2) (ae (pv 3) aj)))
   (aF (aZ (i:=3) jt.nd rfl (Or.inl rfl) (cG oV hr T.j7 (ae (pv 0) (ae (pv 3) aj)))))))
   (aF (a8 (pv 2)))))),?_⟩
  refine aU (σ:=[some (.ref x),some (.int u),none,none,none]) rfl ?_;obtain ⟨dx,a',b',c',gx,_,_,_,Ga,Gb,Gc⟩:=id S;have d8:=D.n8;have i4:=D.i4;exists dy λl H1 s1 n1 g1=>?_
  exists ⟨x,Z.a_System,dx,_,_,rfl,s1 _ _ gx,T.cl_System,T.na_put,Cf,?_⟩;walk_at "w";obtain ⟨bl,G0⟩:=Gb.off n1;have G1:=G0.same s1;refine ⟨by lia,by lia,?_⟩;refine eX (n:=u) (λi σ' H'=>aK H H'/\∃q us y,σ'=[some (.ref x),some (.int u),some (.ref l),some (.ref q),y]/\q≠l/\H' l=some (.lst us)/\Paired (Fn K l H') (AL mv pt i) us/\bH K (CW l) H' q (pt.map (lK mv i))) ⟨s1,b',[],_,rfl,bl,g1,.nil,by rw[show pt.map (lK mv 0)=pt from pA pt];exact G1⟩ ?_ ?_
  ·rintro i σ' H' hi ⟨s',q,us,y,rfl,ql,gu,pu,Gq⟩;have lu:=pu.length;have la:(AL mv pt i).length=i:=by unfold AL;rw[ai,bw]
   exists ⟨.inl ⟨rfl,_,bO.of gu⟩,?_⟩;exists jf gu (bK (by lia)) ?_;have s2:aK H (upd H' l (.lst (us++[V.ref q]))):=s'.after n1;have g2:(upd H' l (.lst (us++[V.ref q]))) l=some (.lst (us++[V.ref q])):=aM
   have p2:Paired (Fn K l (upd H' l (.lst (us++[V.ref q])))) (AL mv pt (i+1)) (us++[V.ref q]):=by
    rw[Dn];exact bT (Paired.imp' (λ_ _ z=>Fn.upd z gu) pu) (.cons ⟨q,rfl,ql,Gq.updL gu off_ne ql⟩ .nil)
   have Gq2:=Gq.updL (o:=.lst (us++[V.ref q])) gu off_ne ql;generalize upd H' l (.lst (us++[V.ref q]))=H2 at s2 g2 p2 Gq2 ⊢;walk_at "w"
   refine ⟨x,q,H0,CW l,mv,pt,lk,_,rfl,S.same s2,D,Gq2,by rw[ai];lia,λr hr=>?_,λxs hx r hr=>(by
     obtain ⟨y,hy,rfl⟩:=aB.mp hr;exact ((F.row D.mw D.pw y hy).fit D.mw (D.pw y hy) (by lia)).1 xs hx),λr H3 nr s3 G3=>?_⟩
   ·obtain ⟨y,hy,rfl⟩:=aB.mp hr;exact md (D.pw y hy) i
   ·have e:(pt.map (lK mv i)).map (qT mv)=pt.map (lK mv (i+1)):=by rw[yr];rfl
    rw[e] at G3;exact ⟨s2.trans s3,r,_,_,rfl,λz=>(by rw[z,g2] at nr;cases nr),s3 _ _ g2,Paired.imp' (λ_ _ z=>Fn.same z s3) p2,G3.weakN λq h=>Li λz=>by rw[z,g2] at h;cases h⟩
  ·rintro σ' H' ⟨s',q,us,y,rfl,ql,gu,pu,Gq⟩;exists k l us H' n1 s' gu pu
theorem KH:a9 ["one","other"] ["one","other"] (aL CB):=by walk_at "d"
theorem Lg (T:Txt K mg Z) (ptree:P.given.tree=none):cN P w K mg base fX 3 Z.IM Z.IE ["one","other"] (nZ K (λx y=>x - y)):=by
 have iw:=kZ (P:=P) (w:=w) (base:=base) T ptree;refine T.zF.F.ok KH (λvs H Q E h=>?_) (λcdv A outer s H vs Q E hr h=>?_)
 ·obtain ⟨p,q,a,b,c,d,rfl,hp,hq,hb,hd,sa,sb,sc,sd,k⟩:=yd h;rfl
 ·obtain ⟨p,q,a,b,c,d,rfl,hp,hq,hb,hd,sa,sb,sc,sd,k⟩:=yd h;refine ⟨_,(aF (a8 (cG iw hr T.jk (ae (bC jW (bC cV (a7 bL (pv 0) ak) (a7 bL (pv 1) ak)) (bC cV (a7 bL (pv 1) ak) (a7 bL (pv 0) ak))) (ae (bC cV (a7 bL (pv 0) ak) (a7 bL (pv 1) ak)) aj))))),?_⟩;refine aU (σ:=[some (.ref p),some (.ref q)]) rfl ?_;have hbd:0 < b*d:=hJ hb hd;have sbd:Sz 449950 (b*d):=(sb.mul sd).mono (by decide);exists fj (show fK _ _ from .inr ⟨_,_,sa,sd,by decide⟩) ?_;exists fj (show fK _ _ from .inr ⟨_,_,sc,sb,by decide⟩) ?_;exists fj (show fK _ _ from .inr ⟨_,_,sb,sd,by decide⟩) ?_;walk_at "w";exists ⟨_,_,rfl,by lia,sbd,λr H' s' h'=>?_⟩;rw[if_neg (by lia),if_neg (by lia)] at h';exact k r H' s' h'
theorem Cp:a9 ["one","other"] ["one","other"] (aL pT):=by walk_at "d"
theorem CL (T:Txt K mg Z) (ptree:P.given.tree=none):cN P w K mg base fX 4 Z.xC Z.xh ["one","other"] (vB K):=by
 have Og:=Lg (P:=P) (w:=w) (base:=base) T ptree;refine T.oF.F.ok Cp (λvs H Q E h=>?_) (λcdv A outer s H vs Q E hr h=>?_)
 ·obtain ⟨p,q,xq,yq,rfl,_⟩:=h;rfl
 ·obtain ⟨p,q,xq,yq,rfl,hp,hq,hl,hz,hn,hm,k⟩:=h;refine ⟨_,(aF (a8 (b9 ["mine","yours"] [] [] (oz rfl T.zip (ae (pv 0) (ae (pv 1) aj))) (λ_=>(me K 2 (cE (aS (i:=0) (show ND9 ["mine","yours"] by decide +kernel)) (cE (aS (i:=1) (show ND9 ["mine","yours"] by decide +kernel)) gW)))) (λ_=>cB) (λ_=>(cG Og hr T.zF (ae (pv 0) (ae (pv 1) aj))))))),?_⟩;refine aU (σ:=[some (.ref p),some (.ref q)]) rfl ?_;obtain ⟨xs,gx,qx⟩:=id hp;obtain ⟨ys,gy,qy⟩:=id hq;have lx:=qx.length;have ly:=qy.length;exists ⟨⟨_,bO.of gx⟩,⟨_,bO.of gy⟩,?_⟩;refine nO (K:=K) (xs:=xs) (ws:=ys) (λi zs H'=>aK H H'/\Paired (bV K H') ((List.zipWith (λx y=>x - y) xq yq).take i) zs) (bc (bK (by lia))) (by lia) ⟨aK.refl _,.nil⟩ (λi zs H' _ ⟨s,_⟩=>⟨bO.of (s _ _ gx),bO.of (s _ _ gy)⟩) ?_ ?_
  ·rintro i x y zs H' r hx hy hlen ⟨s,hP⟩ hr;obtain ⟨n,en,hn1⟩:=bX qx hx;obtain ⟨m,em,hm1⟩:=bX qy hy;have s1:=aK.new (o:=.tup [x,y]) hr;have s01:=s.trans s1;have gr:(upd H' r (.tup [x,y])) r=some (.tup [x,y]):=aM;generalize upd H' r (.tup [x,y])=Hr at s1 s01 gr ⊢;exists ⟨_,_,n,m,rfl,hn1.same s01,hm1.same s01,hn n (av en),hm m (av em),λr3 H3 s3 h3=>?_⟩;refine ⟨s01.trans s3,?_⟩;have ez:(List.zipWith (λx y=>x - y) xq yq)[i]?=some (n - m):=by rw[bo,en,em]
   rw[take_snoc ez];exact bT (Paired.imp' (λ_ _ z=>z.same (s1.trans s3)) hP) (.cons h3 .nil)
  ·rintro zs H' hy ⟨s,hP⟩ l hl';rw[aE (by rw[aQ];lia)] at hP;exact k l _ (s.none hl') (s.trans (aK.new hl')) ⟨zs,aM,Paired.imp' (λ_ _ z=>z.same (aK.new hl')) hP⟩
theorem yJ:a9 ["grid","wide"] ["grid","wide"] (aL mO):=by walk_at "d"
theorem ik (T:Txt K mg Z) (ptree:P.given.tree=none):cN P w K mg base fX 1 Z.rX Z.rL ["grid","wide"] (DL K):=by
 refine T.eU.F.ok yJ (λvs H Q E h=>?_) (λcdv A outer s H vs Q E hr h=>?_)
 ·obtain ⟨p,w,H0,rows,rfl,_⟩:=h;rfl
 ·obtain ⟨p,w,H0,rows,rfl,hp,hz,hw,hl,kk⟩:=h;refine ⟨_,(aF (a8 (b9 ["place"] ["grid"] [0] (cy rfl T.range (ae (pv 1) aj)) (λ_=>(aS (i:=0) (show ND9 ["place","grid"] by decide +kernel) rfl (Or.inr rfl) (Or.inl rfl))) (λ_=>cB) (λ_=>(b9 ["line"] ["place"] [0] (Ei K (pv 1)) (λ_=>(aS (i:=0) (show ND9 ["line","place"] by decide +kernel))) (λ_=>cB) (λ_=>(a7 (gM K (by rfl)) (pv 0) (pv 1)))))))),?_⟩;refine aU (σ:=[some (.ref p),some (.int w)]) rfl ?_;exists ⟨by lia,by lia,?_⟩;refine fk (n:=w) (dm K H) (λj=>rows.map λxs=>xs.getD j 0) hw (λa b=>a.same b) ?_ ?_
  ·rintro j H1 NY NN hj s1 k1;obtain ⟨xs,gx,qx,_⟩:=hp.same s1;exists ⟨⟨_,bO.of gx⟩,?_⟩;refine dN (K:=K) (F:=dm K H0) (bV K) (λxs=>xs.getD j 0) gx qx hz (λa b=>a.same b) (λa b=>a.same b) ?_ ?_
   ·rintro i ns x H2 NY2 NN2 en s2 ⟨u,rfl,_,zs,gz,qz⟩ k2;obtain ⟨v,ev,hv⟩:=Ik qz (j:=j) (by rw[hl ns (av en)];exact hj);exists cx (bO.of gz) ev ?_;exact k2 _ _ (aK.refl _) hv
   ·rintro ys' H2 r hr s2 g pr nx;exact k1 _ _ s2 ⟨r,rfl,s1.none hr,ys',g,pr⟩
  ·rintro ys' H1 r hr s1 g pr nx;exact kk r H1 hr s1 ⟨ys',g,pr,jy nx⟩
theorem o5:a9 ["self","state","puts","columns"] ["self","state","puts"] (aL fV):=by walk_at "d"
theorem xX (T:Txt K mg Z) (ptree:P.given.tree=none):cN P w K mg base fX 5 Z.lX Z.lW ["self","state","puts"] (A7 K Z.a_System):=by
 have dZ:=ik (P:=P) (w:=w) (base:=base) T ptree;have wL:=zi (P:=P) (w:=w) (base:=base) T ptree;refine T.qP.ok o5 (λvs H Q E h=>?_) (λcdv A outer s H vs Q E hr h=>?_)
 ·obtain ⟨x,p,q,H0,mv,pt,lk,st,pu,rfl,_⟩:=h;rfl
 ·obtain ⟨x,p,q,H0,mv,pt,lk,st,pu,rfl,S,D,F,hp,hq,l1,l2,fs,k⟩:=h
  refine ⟨_,(au (aZ (i:=3) o5.nd rfl (Or.inl rfl) (cG dZ hr T.eU (ae (iN (pv 0) rfl) (ae (iN (pv 0) rfl) aj))))
   (aF (a8 (b9 ["line","column"] ["state","puts"] [1,2] (oz rfl T.zip (ae (iN (pv 0) rfl) (ae (pv 3) aj))) (λ_=>(me K 2 (cE (aS (i:=0) (show ND9 ["line","column","state","puts"] by decide +kernel)) (cE (aS (i:=1) (show ND9 ["line","column","state","puts"] by decide +kernel)) gW)))) (λ_=>cB) (λ_=>(cG wL hr T.il (ae (bC jX (pv 0) (pv 1)) (ae (bC jX (pv 2) (pv 3)) aj)))))))),?_⟩
  refine aU (σ:=[some (.ref x),some (.ref p),some (.ref q),none]) rfl ?_;obtain ⟨dx,a,b,c,gx,n1,n2,n3,Ga,Gb,Gc⟩:=id S;have d1:=D.n8;have d2:=D.i4;exists ⟨x,Z.a_System,dx,_,_,rfl,gx,T.cl_System,T.na_put,Cf,?_⟩;exists ⟨x,Z.a_System,dx,_,_,rfl,gx,T.cl_System,T.na_states,lB,?_⟩;exists ⟨b,mv.length,H0,pt,rfl,Gb,by lia,by lia,D.pw,λt H1 nt s1 Gt=>?_⟩;obtain ⟨as,ga,qa,_⟩:=Ga.same s1;obtain ⟨ts,gt,qt,_⟩:=id Gt;have la:=qa.length;have lt:=qt.length;rw[cR] at lt;have gx1:=s1 _ _ gx;exists ⟨x,Z.a_System,dx,_,_,rfl,gx1,T.cl_System,T.na_move,DK,?_⟩;exists ⟨⟨_,bO.of ga⟩,⟨_,bO.of gt⟩,?_⟩;refine nO (K:=K) (xs:=as) (ws:=ts) (λi ys H'=>aK H1 H'/\Paired (bV K H') ((gQ mv pt st pu).take i) ys) (bc (bK (by lia))) (by lia) ⟨aK.refl _,.nil⟩ (λi ys H' _ ⟨s,_⟩=>⟨bO.of (s _ _ ga),bO.of (s _ _ gt)⟩) ?_ ?_
  ·rintro i v1 v2 ys H' r h1 h2 hy ⟨s,pr⟩ hr;obtain ⟨line,el,u1,rfl,_,R1⟩:=bX qa h1;obtain ⟨col,ec,u2,rfl,_,R2⟩:=bX qt h2;have ml:=av el;have mc:=av ec;have sr:aK H' (upd H' r (.tup [.ref u1,.ref u2])):=aK.new hr;have gr:(upd H' r (.tup [.ref u1,.ref u2])) r=some (.tup [.ref u1,.ref u2]):=aM;have s2:=s.trans sr;generalize upd H' r (.tup [.ref u1,.ref u2])=H2 at sr gr s2 ⊢;have lc:col.length=pt.length:=fQ col mc;have ll:line.length=mv.length:=D.mw line ml;obtain ⟨z1,g1,q1⟩:=R1.same s2;obtain ⟨z2,g2,q2⟩:=R2.same s2;have y1:=q1.length;have y2:=q2.length;exists lJ g1 g2 (bc (bK (by lia))) λc1 H3 s3 n3' g3=>?_
   have s13:=s2.trans s3;obtain ⟨z3,g4,q3⟩:=(hp.same s1).same s13;obtain ⟨z4,g5,q4⟩:=(hq.same s1).same s13;have y3:=q3.length;have y4:=q4.length;exists lJ g4 g5 (bc (bK (by lia))) λc2 H4 s4 n4 g6=>?_
   have s34:=s3.trans s4;exists ⟨c1,c2,line++col,st++pu,rfl,⟨_,s4 _ _ g3,Paired.imp' (λ_ _ z=>z.same s34) (bT q1 q2)⟩,⟨_,g6,Paired.imp' (λ_ _ z=>z.same s4) (bT q3 q4)⟩,by rw[ax,ax];lia,by rw[ax];lia,.sys ?_ fs,λr2 H5 s5 h5=>?_⟩
   ·refine F.fits λy hy=>?_
    rcases aG.mp hy with hy | hy
    ·exact .inl ⟨line,ml,hy⟩
    ·obtain ⟨j,_,rfl⟩:=aB.mp mc;obtain ⟨xs,hx,rfl⟩:=aB.mp hy;by_cases hj:j < xs.length
     ·refine .inr (.inl ⟨xs,hx,?_⟩);rw[aa,af hj];exact aD hj
     ·exact .inr (.inr (.inr (by rw[aa,aW (by lia)];rfl)))
   ·have em:(gQ mv pt st pu)[i]?=some (cm (line++col) (st++pu)):=by
     unfold gQ;rw[bo,el,ec]
    refine ⟨((s2.trans s34).trans s5),?_⟩;rw[take_snoc em];exact bT (Paired.imp' (λ_ _ z=>(z.same (sr.trans s34)).same s5) pr) (.cons h5 .nil)
  ·rintro ys H' hy ⟨s,pr⟩ l hl;have lm:(gQ mv pt st pu).length=mv.length:=by unfold gQ;rw[aQ,cR];lia
   rw[aE (by lia)] at pr;exact k l _ (s1.none (s.none hl)) ((s1.trans s).trans (aK.new hl)) ⟨ys,aM,Paired.imp' (λ_ _ z=>z.same (aK.new hl)) pr⟩
theorem vC:a9 ["system","start","puts","states","row"] ["system","start","puts"] (aL yT):=by walk_at "d"
theorem JA (T:Txt K mg Z) (ptree:P.given.tree=none):cN P w K mg base fX 6 Z.E4 Z.EK ["system","start","puts"] (yE K Z.a_System):=by
 have As:=xX (P:=P) (w:=w) (base:=base) T ptree;refine T.vV.F.ok vC (λvs H Q E h=>?_) (λcdv A outer s H vs Q E hr h=>?_)
 ·obtain ⟨x,s,p,H0,H1,mv,pt,lk,pus,st,rfl,_⟩:=h;rfl
 ·obtain ⟨x,s,p,H0,H1,mv,pt,lk,pus,st,rfl,S,D,F,Rs,ls,Gp,lp,wp,cf,k⟩:=h
  refine ⟨_,(au (aZ (i:=3) vC.nd rfl (Or.inl rfl) (dJ (ae (gN oU (by rfl) T.list PyProof.Rows.boot_list (ae (pv 1) aj)) aj)))
   (au (eH PassesOwn.never rfl (cP (pv 2)) (aS (i:=4) vC.nd)
    (aF (iX (ug c5 dd dc ji (pv 3) (ae (NC (pv 0) T.cl_System T.o6 As (hr.mono (by decide)) T.qJ .nil Ld (ae (a7 bQ (pv 3) (wV pH ak)) (ae (pv 4) aj))) aj)))))
   (aF (a8 (pv 3))))),?_⟩
  refine aU (σ:=[some (.ref x),some (.ref s),some (.ref p),none,none]) rfl ?_;have d1:=D.n8;obtain ⟨ss,gs,qs⟩:=id Rs;obtain ⟨ps,gp,qp,_⟩:=id Gp;have lps:=qp.length;exists ⟨s,ss,rfl,.inl (bO.of gs),λc hc=>?_⟩;have sc:aK H (upd H c (.lst ss)):=aK.new hc;have Rc:cL K (upd H c (.lst ss)) c st:=⟨ss,aM,Paired.imp' (λ_ _ z=>z.same sc) qs⟩;generalize upd H c (.lst ss)=Hc at sc Rc ⊢;exists dy λl Hl sl nl gl=>?_
  have hl0:=sc.none nl;have s0:=sc.trans sl;have cl:c≠l:=λz=>by obtain ⟨_,g,_⟩:=Rc;rw[z,nl] at g;cases g
  have pr0:Paired (wI K H l Hl) ((my mv pt st pus).take 1) [V.ref c]:=by
   have:(my mv pt st pus).take 1=[st]:=by
    have e:=take_snoc (rf (mv:=mv) (pt:=pt) (st:=st) (pus:=pus) (k:=0) (br _));rw[e];rfl
   rw[this];exact .cons ⟨c,rfl,hc,cl,Rc.same sl⟩ .nil
  exists ⟨⟨_,bO.of (s0 _ _ gp)⟩,?_⟩;refine iV (K:=K) (a:=p) (xs:=ps) (λi σ' H'=>aK H H'/\(∃y ys,σ'=[some (.ref x),some (.ref s),some (.ref p),some (.ref l),y]/\H' l=some (.lst ys)/\Paired (wI K H l H') ((my mv pt st pus).take (i+1)) ys)) ⟨s0,_,_,rfl,gl,pr0⟩ (λi σ' H' _ ⟨e,_⟩=>bO.of (e _ _ gp)) ?_ ?_
  ·rintro i v σ' H' hv ⟨e,y,ys,rfl,g,pr⟩;obtain ⟨pu,epu,u,rfl,_,Ru⟩:=bX qp hv;have hi:i < pus.length:=(aJ.mp epu).1;have mp:=av epu;have ly:=pr.length;rw[cv,tL] at ly;have ec:=rf (mv:=mv) (pt:=pt) (st:=st) (pus:=pus) (k:=i) (by lia);have el:ys[i]?=some (ys[i]'(by lia)):=af (by lia)
   obtain ⟨vl,evl,q,hq1,hq2,hq3,Rq⟩:∃vl,ys[i]?=some vl/\∃q,vl=V.ref q/\H q=none/\q≠l/\cL K H' q (pN mv pt st pus i):=by
    obtain ⟨xs,ex,w⟩:=bX pr el;rw[kK (by lia),ec] at ex;cases ex;exact ⟨_,el,w⟩
   subst hq1
   have ey:∃zs,ys=zs++[V.ref q]:=by
    refine ⟨ys.take i,?_⟩;rw[<- take_snoc evl,aE (by lia)]
   obtain ⟨zs,rfl⟩:=ey;exists ⟨.inl ⟨rfl,_,bO.of g⟩,?_⟩;walk_at "w";obtain ⟨dx,_,_,_,gx,_⟩:=S.same e;refine ⟨x,dx,_,rfl,gx,Jd,?_⟩;exists cx (bO.of g) (uR _ _) ?_;exists ⟨x,q,u,H0,mv,pt,lk,_,pu,rfl,S.same e,D,F,Rq,Ru.same e,j5 ls (by lia),wp pu mp,cf.both (by lia) mp,λr1 H2 n2 s2 R2=>?_⟩;have gn:=s2 _ _ g;exists jf gn (bK (by lia)) ?_;refine ⟨Jm (e.trans s2) hl0,_,_,rfl,aM,?_⟩;rw[take_snoc (rf (by lia)),pM epu];have rl:r1≠l:=λz=>by rw[z,g] at n2;cases n2
   exact bT (Paired.imp' (λ_ _ z=>(wI.same z s2).upd gn) pr) (.cons ⟨r1,rfl,e.none n2,rl,R2.updL gn rl⟩ .nil)
  ·rintro σ' H' ⟨e,y,ys,rfl,g,pr⟩;walk_at "w";rw[aE (by rw[tL];lia)] at pr;exact k l H' hl0 e ⟨ys,g,Paired.imp' (λ_ _ z=>wI.rowF z) pr,yV pr⟩
theorem Ay:a9 ["many"] ["many"] (aL oa):=by walk_at "d"
theorem mX (T:Txt K mg Z) (ptree:P.given.tree=none):cN P w K mg base fX 1 Z.uS Z.uF ["many"] (O5 K):=by
 refine T.iU.F.ok Ay (λvs H Q E h=>?_) (λcdv A outer s H vs Q E hr h=>?_)
 ·obtain ⟨m,rfl,_⟩:=h;rfl
 ·obtain ⟨m,rfl,hm,k⟩:=h;refine ⟨_,(aF (a8 (b9 ["place"] [] [] (cy rfl T.range (ae (pv 0) aj)) (λ_=>(aS (i:=0) (show ND9 ["place"] by decide +kernel))) (λ_=>cB) (λ_=>(uf (v:=.ref Z.a_NOUGHT) rfl T.mg_NOUGHT rfl))))),?_⟩;refine aU (σ:=[some (.int m)]) rfl ?_;exists ⟨by lia,by lia,?_⟩;refine fk (n:=m) (bV K) (λ_=>0) (by lia) (λa b=>a.same b) ?_ ?_
  ·rintro i Ha NY NN hi sa k1;exists k1 _ _ (aK.refl _) ⟨_,rfl,T.sq_NOUGHT _⟩
  ·rintro ys H1 t ht s1 g1 pr _;exact k t H1 ht s1 ⟨ys,g1,by rw[<- Lp];exact pr⟩
theorem yI:a9 ["system","steps"] ["system","steps"] (aL mN):=by walk_at "d"
theorem qo (T:Txt K mg Z) (ptree:P.given.tree=none):cN P w K mg base fX 2 Z.rW Z.rK ["system","steps"] (DQ K Z.a_System):=by
 have jM:=mX (P:=P) (w:=w) (base:=base) T ptree;refine T.jA.F.ok yI (λvs H Q E h=>?_) (λcdv A outer s H vs Q E hr h=>?_)
 ·obtain ⟨x,tt,H0,mv,pt,lk,rfl,_⟩:=h;rfl
 ·obtain ⟨x,tt,H0,mv,pt,lk,rfl,hT,S,D,k⟩:=h;refine ⟨_,(aF (a8 (b9 ["step"] ["system"] [0] (cy rfl T.range (ae (pv 1) aj)) (λ_=>(aS (i:=0) (show ND9 ["step","system"] by decide +kernel))) (λ_=>cB) (λ_=>(cG jM hr T.iU (ae (HW K (pv 1) rfl) aj)))))),?_⟩;refine aU (σ:=[some (.ref x),some (.int tt)]) rfl ?_;obtain ⟨dx,a',b',c',gx,_,_,_,Ga,Gb,Gc⟩:=id S;have i4:=D.i4;exists ⟨by lia,by lia,?_⟩;refine fk (n:=tt) (dm K H) (λ(_:Nat)=>List.replicate pt.length (0:Rat)) (by lia) (λa b=>a.same b) ?_ ?_
  ·rintro i Hb NY NN hi sa k1;exists ⟨x,Z.a_System,dx,_,_,rfl,sa _ _ gx,T.cl_System,T.na_ins,Ho,?_⟩;exists ⟨pt.length,rfl,by lia,λr H2 nr s2 R2=>k1 _ _ s2 ⟨r,rfl,sa.none nr,R2⟩⟩
  rintro ys Hz t ht sz g pr nx;have e:(List.range tt).map (λ(_:Nat)=>List.replicate pt.length (0:Rat))=List.replicate tt (List.replicate pt.length 0):=by rw[MD,bw]
  rw[e] at pr nx;exact k t Hz ht sz ⟨ys,g,pr,jy nx⟩
theorem FD:a9 ["system","start","goal","steps"] ["system","start","goal","steps"] (aL vI):=by walk_at "d"
theorem zm (T:Txt K mg Z) (ptree:P.given.tree=none):cN P w K mg base fX 7 Z.BO Z.Bv ["system","start","goal","steps"] (DU K Z.a_System):=by
 have Fd:=CL (P:=P) (w:=w) (base:=base) T ptree;have Mq:=JA (P:=P) (w:=w) (base:=base) T ptree;have nC:=qo (P:=P) (w:=w) (base:=base) T ptree;refine T.oG.F.ok FD (λvs H Q E h=>?_) (λcdv A outer s H vs Q E hr h=>?_)
 ·obtain ⟨x,s,g,tt,H0,mv,pt,lk,st,go,rfl,_⟩:=h;rfl
 ·obtain ⟨x,s,g,tt,H0,mv,pt,lk,st,go,rfl,hT,S,D,F,Rs,ls,Rg,lg,cf,sg,k⟩:=h;refine ⟨_,(aF (a8 (cG Fd hr T.oF (ae (pv 2) (ae (a7 bQ (cG Mq hr T.vV (ae (pv 0) (ae (pv 1) (ae (cG nC hr T.jA (ae (pv 0) (ae (pv 3) aj))) aj)))) (wV pH ak)) aj))))),?_⟩;refine aU (σ:=[some (.ref x),some (.ref s),some (.ref g),some (.int tt)]) rfl ?_;have d8:=D.n8;have i4:=D.i4;exists ⟨x,tt,H0,mv,pt,lk,rfl,by lia,S,D,λp1 H1 n1 s1 G1=>?_⟩;exists ⟨x,s,p1,H0,H,mv,pt,lk,_,st,rfl,S.same s1,D,F,Rs.same s1,ls,G1,by rw[bx];lia,λxs hx=>by rw[(dI.mp hx).2,bx],cf,λp2 H2 n2 s2 G2=>?_⟩;obtain ⟨us,gu,qu,_⟩:=id G2;have lu:=qu.length;rw[tL,bx] at lu;have ec:=rf (mv:=mv) (pt:=pt) (st:=st) (pus:=List.replicate tt (List.replicate pt.length 0)) (k:=tt) (by rw[bx];exact ao _);have el:us[tt]?=some (us[tt]'(by lia)):=af (by lia)
  obtain ⟨q,eq,Rq⟩:∃q,us[tt]?=some (V.ref q)/\cL K H2 q (lK mv tt st):=by
   obtain ⟨xs,ex,q,e,_,w⟩:=bX qu el;rw[ec] at ex;cases ex;rw[Kt D ls] at w;exact ⟨q,by rw[el,e],w⟩
  have ey:∃zs,us=zs++[V.ref q]:=by
   refine ⟨us.take tt,?_⟩;rw[<- take_snoc eq,aE (by lia)]
  obtain ⟨zs,rfl⟩:=ey
  have szp:∀y∈lK mv tt st,iZ y:=λy hy=>by
   have:=(cf.state (k:=tt) (by rw[bx];exact ao _)).szn (x:=y);rw[Kt D ls] at this;exact this hy
  exists cx (bO.of gu) (uR _ _) ?_;exists ⟨g,q,go,_,rfl,(Rg.same s1).same s2,Rq,by rw[lg,md ls],by lia,sg,szp,λr H3 n3 s3 R3=>k r H3 ((s1.trans s2).none n3) ((s1.trans s2).trans s3) R3⟩
theorem rz:a9 ["lines","begin","place","at"] ["lines","begin","place"] (aL oi):=by walk_at "d"
theorem AD (T:Txt K mg Z) (ptree:P.given.tree=none):cN P w K mg base fX 1 Z.uW Z.uI ["lines","begin","place"] Bg:=by
 refine T.ng.F.ok rz (λvs H Q E h=>?_) (λcdv A outer s H vs Q E hr h=>?_)
 ·obtain ⟨l,p,ls,b,c,rfl,_⟩:=h;rfl
 ·obtain ⟨l,p,ls,b,c,rfl,G,l1000,b1000,hc,k1,k2⟩:=h
  refine ⟨_,(au (eH PassesOwn.never rfl (Js rfl T.range (ae (pv 1) (ae (bP bu (by rfl) T.len bf (ae (pv 0) aj)) aj))) (aS (i:=3) rz.nd)
    (aF (di (bD zg (a7 bQ (a7 bQ (pv 0) (pv 3)) (pv 2)) ak (bJ _)) (aF (a8 (pv 3))) cp)))
   (aF (a8 CH))),?_⟩
  refine aU (σ:=[some (.ref p),some (.int b),some (.int c),none]) rfl ?_;obtain ⟨_,xs,gx,qx⟩:=id G;have lx:=qx.length;exists ⟨_,_,rfl,.inl (bO.of gx),?_⟩;rw[<- lx];exists ⟨⟨by lia,by lia,by lia,by lia⟩,?_⟩;refine Br (lo:=(b:Int)) (n:=((ls.length:Int) - (b:Int)).toNat) (λi σ' H'=>H'=H/\(∃y,σ'=[some (.ref p),some (.int b),some (.int c),y])/\∀s,b<=s->s < b+i->eY ls s c=0) ⟨rfl,⟨_,rfl⟩,λs h1 h2=>absurd h2 (by lia)⟩ ?_ ?_
  ·rintro i σ' H' hi ⟨rfl,⟨y,rfl⟩,hz⟩;rw[show ((b:Int)+(i:Int))=((b+i:Nat):Int) by lia];obtain ⟨zs,v,ez,ev,mz,q,rfl,_,gq⟩:=jV qx (i:=b+i) (by lia);exists cx (bO.of gx) (eJ ev) ?_;exists cx (bO.of gq) (yt (hc zs mz)) ?_;walk_at "w";have ef:=Kk (c:=c) ez;by_cases e:zs.getD c 0=0
   ·rw[decide_eq_true e];exists ⟨rfl,⟨_,rfl⟩,λs h1 h2=>?_⟩;by_cases e2:s=b+i
    ·rw[e2,ef,e];rfl
    ·exact hz s h1 (by lia)
   ·rw[decide_eq_false e];exists k1 (b+i) (by lia) (by lia) (by rw[ef];exact Sm.mpr e)
  ·rintro σ' H' ⟨rfl,⟨y,rfl⟩,hz⟩;exists k2 λt h1 h2=>hz t h1 (by lia)
theorem lF:a9 ["lines","at","place","before","used","by","swept"] ["lines","at","place","before"] (aL vK):=by walk_at "d"
theorem FW (T:Txt K mg Z) (ptree:P.given.tree=none):cN P w K mg base fX 1 Z.BP Z.By ["lines","at","place","before"] Bh:=by
 refine T.tI.F.ok lF (λvs H Q E h=>?_) (λcdv A outer s H vs Q E hr h=>?_)
 ·obtain ⟨l,p,ls,kk,c,n,b,rfl,_⟩:=h;rfl
 ·obtain ⟨l,p,ls,kk,c,n,b,rfl,hl,G,l1000,hk,hw,n1000,hc,b0,sb,hs,k⟩:=h
  refine ⟨_,(au (aZ (i:=4) lF.nd rfl (Or.inr rfl) (a7 bQ (pv 0) (pv 1)))
   (au (aZ (i:=5) lF.nd rfl (Or.inr rfl) (a7 bQ (pv 4) (pv 2)))
   (au (qS 6 ["line"] ["used","by","place","before"] [4,5,2,3] lF.nd rfl rfl (cP (pv 0)) (λ_=>(aS (i:=0) (show ND9 ["line","used","by","place","before"] by decide +kernel) rfl (Or.inr rfl) (Or.inl rfl))) (λ_=>cB) (λ_=>(b9 ["mine","yours"] ["by","line","place","before"] [2,0,3,4] (K8 K rfl T.zip (ae (pv 0) (ae (pv 1) aj))) (λ_=>(me K 2 (cE (aS (i:=0) (show ND9 ["mine","yours","by","line","place","before"] by decide +kernel)) (cE (aS (i:=1) (show ND9 ["mine","yours","by","line","place","before"] by decide +kernel)) gW)))) (λ_=>cB) (λ_=>(bC (ij rfl lF rfl rfl rfl ptree (qF hr)) (bC jW (bC cV (pv 2) (pv 0)) (bC cV (a7 (gM K (by rfl)) (pv 3) (pv 4)) (pv 1))) (pv 5))))))
   (au (fF (pv 4) (ig (pv 6) (pv 1) set_list))
   (aF (a8 (pv 6))))))),?_⟩
  refine aU (σ:=[some (.ref p),some (.int kk),some (.int c),some (.int b),none,none,none]) rfl ?_;obtain ⟨pl,xs,gx,qx⟩:=id G;have lx:=qx.length;obtain ⟨zk,vk,ek,evk,mk,qk,rfl,qkl,gk⟩:=jV qx hk;have wk:=hw zk mk;have ek':ls.getD kk []=zk:=by rw[aa,ek];rfl
  exists cx (bO.of gx) (eJ evk) ?_;exists cx (bO.of gk) (yt (by lia)) ?_;exists ⟨⟨_,bO.of gx⟩,?_⟩;refine gO (K:=K) (xs:=xs) (λi ys H'=>aK H H'/\Paired (IQ l H') ((ls.take i).map λzs=>List.zipWith (λx y=>(zk.getD c 0*x - zs.getD c 0*y).fdiv b) zs zk) ys) (bc (bK (by lia))) ⟨aK.refl _,.nil⟩ (λi ys H' _ ⟨s,_⟩=>bO.of (s _ _ gx)) ?_ ?_
  ·rintro i v ys0 H' hx hlen ⟨s',pr⟩;obtain ⟨zs,ec,q,rfl,ql,gq⟩:=bX qx hx;have mz:=av ec;have wz:=hw zs mz;have gq':=s' _ _ gq;have gk':=s' _ _ gk;exists ⟨⟨_,bO.of gq'⟩,⟨_,bO.of gk'⟩,?_⟩;refine nO (K:=K) (xs:=zs.map V.int) (ws:=zk.map V.int) (λj ys H2=>aK H' H2/\ys=((List.zipWith (λx y=>(zk.getD c 0*x - zs.getD c 0*y).fdiv b) zs zk).take j).map V.int) (bc (bK (by rw[ai];lia))) (by rw[ai,ai];lia) ⟨aK.refl _,rfl⟩ (λj ys H2 _ ⟨s2,_⟩=>⟨bO.of (s2 _ _ gq'),bO.of (s2 _ _ gk')⟩) ?_ ?_
   ·rintro j v1 v2 ys H2 r h1 h2 hy ⟨s2,rfl⟩ hr
    obtain ⟨x,ex,rfl⟩:∃x,zs[j]?=some x/\V.int x=v1:=by
     rw[aH] at h1;cases e:zs[j]? with
     | none=>rw[e] at h1;cases h1
     | some x=>rw[e] at h1;exact ⟨x,rfl,cg h1⟩
    obtain ⟨y,ey,rfl⟩:∃y,zk[j]?=some y/\V.int y=v2:=by
     rw[aH] at h2;cases e:zk[j]? with
     | none=>rw[e] at h2;cases h2
     | some x=>rw[e] at h2;exact ⟨x,rfl,cg h2⟩
    have sr:aK H2 (upd H2 r (.tup [.int x,.int y])):=aK.new hr;have gr:(upd H2 r (.tup [.int x,.int y])) r=some (.tup [.int x,.int y]):=aM;generalize upd H2 r (.tup [.int x,.int y])=H3 at sr gr ⊢;have gq3:=sr _ _ (s2 _ _ gq');have sx:=hs zs mz x (av ex);have sy:=hs zk mk y (av ey);have s1:=hs zk mk _ (getD_in (e:=0) (show c < zk.length by lia));have s3:=hs zs mz _ (getD_in (e:=0) (show c < zs.length by lia));exists fj (show fK _ _ from .inr ⟨_,_,s1,sx,by decide⟩) ?_;exists cx (bO.of gq3) (yt (by lia)) ?_;exists fj (show fK _ _ from .inr ⟨_,_,s3,sy,by decide⟩) ?_;exists fj (show mG _ _ from ⟨b0,sb⟩) ?_;have ez:(List.zipWith (λx y=>(zk.getD c 0*x - zs.getD c 0*y).fdiv b) zs zk)[j]?=some ((zk.getD c 0*x - zs.getD c 0*y).fdiv b):=by rw[bo,ex,ey]
    exact ⟨s2.trans sr,by rw[take_snoc ez];simp⟩
   ·rintro ys H2 hy ⟨s2,rfl⟩ r hr;have sn:aK H2 (upd H2 r (.lst (((List.zipWith (λx y=>(zk.getD c 0*x - zs.getD c 0*y).fdiv b) zs zk).take (zs.map V.int).length).map V.int))):=aK.new hr;refine ⟨(s'.trans s2).trans sn,?_⟩;rw[take_snoc ec,ck];refine bT (Paired.imp' (λ_ _ z=>(IQ.same z s2).same sn) pr) (.cons ⟨r,rfl,ne_old (λz=>hl (s'.none (s2.none z))) hr,?_⟩ .nil);rw[aM,aE (by rw[aQ,ai];lia)]
  ·rintro ys H1 hy ⟨s1,pr⟩ r hr;have sn:aK H1 (upd H1 r (.lst ys)):=aK.new hr;have gn:(upd H1 r (.lst ys)) r=some (.lst ys):=aM;have ly:=pr.length;rw[ai,cv] at ly;generalize upd H1 r (.lst ys)=H2 at sn gn ⊢;exists ft gn (fO (by lia)) rfl ?_;have s2:aK H1 (upd H2 r (.lst (ys.set kk (.ref qk)))):=sn.after hr;exists k r _ (s1.none hr) (s1.trans s2) ⟨ne_old (λz=>hl (s1.none z)) hr,_,aM,?_⟩;unfold EM;rw[ek'];rw[aE (by lia)] at pr;exact jT (Paired.imp' (λ_ _ z=>IQ.same z s2) pr) kk ⟨qk,rfl,qkl,(s1.trans s2) _ _ gk⟩
theorem rA:a9 ["lines","at","to","swapped"] ["lines","at","to"] (aL oj):=by walk_at "d"
theorem AE (T:Txt K mg Z) (ptree:P.given.tree=none):cN P w K mg base fX 1 Z.uX Z.uJ ["lines","at","to"] wU:=by
 refine T.nh.F.ok rA (λvs H Q E h=>?_) (λcdv A outer s H vs Q E hr h=>?_)
 ·obtain ⟨l,p,ls,t,kk,rfl,_⟩:=h;rfl
 ·obtain ⟨l,p,ls,t,kk,rfl,hl,G,l1000,ht,hk,k⟩:=h
  refine ⟨_,(au (aZ (i:=3) rA.nd rfl (Or.inl rfl) (gN oU (by rfl) T.list PyProof.Rows.boot_list (ae (pv 0) aj)))
   (au (fF (a7 bQ (pv 0) (pv 1)) (ig (pv 3) (pv 2) set_list))
   (au (fF (a7 bQ (pv 0) (pv 2)) (ig (pv 3) (pv 1) set_list))
   (aF (a8 (pv 3)))))),?_⟩
  refine aU (σ:=[some (.ref p),some (.int t),some (.int kk),none]) rfl ?_;obtain ⟨pl,xs,gx,qx⟩:=id G;have lx:=qx.length;obtain ⟨zt,vt,et,evt,_,Ft⟩:=jV qx ht;obtain ⟨zk,vk,ek,evk,_,Fk⟩:=jV qx hk;exists ⟨p,xs,rfl,.inl (bO.of gx),λc hc=>?_⟩;have sc:aK H (upd H c (.lst xs)):=aK.new hc;have gc:(upd H c (.lst xs)) c=some (.lst xs):=aM;generalize upd H c (.lst xs)=Hc at sc gc ⊢;exists cx (bO.of (sc _ _ gx)) (eJ evt) ?_;exists ft gc (fO (by lia)) rfl ?_;have s1:aK H (upd Hc c (.lst (xs.set kk vt))):=sc.after hc;have g1:(upd Hc c (.lst (xs.set kk vt))) c=some (.lst (xs.set kk vt)):=aM;generalize upd Hc c (.lst (xs.set kk vt))=H1 at s1 g1 ⊢;exists cx (bO.of (s1 _ _ gx)) (eJ evk) ?_;exists ft g1 (fO (by rw[eC];lia)) rfl ?_;have s2:aK H (upd H1 c (.lst ((xs.set kk vt).set t vk))):=s1.after hc;exists k c _ hc s2 ⟨ne_old hl hc,_,aM,?_⟩;have et':ls.getD t []=zt:=by rw[aa,et];rfl
  have ek':ls.getD kk []=zk:=by rw[aa,ek];rfl
  unfold nX;rw[et',ek'];exact jT (jT (Paired.imp' (λ_ _ z=>IQ.same z s2) qx) kk (IQ.same Ft s2)) t (IQ.same Fk s2)
theorem jr:a9 ["rows","wide","lines","leads","before","place","many","at"] ["rows","wide"] (aL Cz):=by walk_at "d"
theorem Ej (T:Txt K mg Z) (ptree:P.given.tree=none):cN P w K mg base fX 4 Z.IK Z.IC ["rows","wide"] (A2 K):=by
 have iu:=oA (P:=P) (w:=w) (base:=base) T ptree;have d7:=jY (P:=P) (w:=w) (base:=base) T ptree;have Du:=AD (P:=P) (w:=w) (base:=base) T ptree;have J0:=FW (P:=P) (w:=w) (base:=base) T ptree;have Dv:=AE (P:=P) (w:=w) (base:=base) T ptree;refine T.ur.F.ok jr (λvs H Q E h=>?_) (λcdv A outer s H vs Q E hr h=>?_)
 ·obtain ⟨p,n,w,H0,rows,rfl,_⟩:=h;rfl
 ·obtain ⟨p,n,w,H0,rows,rfl,G,r100,n100,hw,F,k⟩:=h
  refine ⟨_,(au (qS 2 ["row"] [] [] jr.nd rfl rfl (cP (pv 0)) (λ_=>(aS (i:=0) (show ND9 ["row"] by decide +kernel))) (λ_=>cB) (λ_=>(cG iu hr T.gE (ae (pv 0) (ae (cG d7 hr T.dM (ae (pv 0) aj)) aj)))))
   (au (aZ (i:=3) jr.nd rfl (Or.inl rfl) (dJ aj))
   (au (aZ (i:=4) jr.nd rfl (Or.inl rfl) ak)
   (au (eH PassesOwn.never rfl (cy rfl T.range (ae (pv 1) aj)) (aS (i:=5) jr.nd)
    (au (aZ (i:=6) jr.nd rfl (Or.inl rfl) (bP bu (by rfl) T.len bf (ae (pv 3) aj)))
   (au (aZ (i:=7) jr.nd rfl (Or.inl rfl) (cG Du hr T.ng (ae (pv 2) (ae (pv 6) (ae (pv 5) aj)))))
   (aF (di (bD HY (pv 7) CH (bJ _)) (au (aZ (i:=2) jr.nd rfl (Or.inl rfl) (cG J0 hr T.tI (ae (cG Dv hr T.nh (ae (pv 2) (ae (pv 7) (ae (pv 6) aj)))) (ae (pv 6) (ae (pv 5) (ae (pv 4) aj))))))
   (au (aZ (i:=4) jr.nd rfl (Or.inl rfl) (a7 bQ (a7 bQ (pv 2) (pv 6)) (pv 5)))
   (aF (iX (ug c5 dd dc ji (pv 3) (ae (pv 5) aj)))))) cp)))))
   (aF (a8 (c6 (ae (yZ Cn (pv 2) HV (yf (bP bu (by rfl) T.len bf (ae (pv 3) aj)))) (ae (pv 3) aj))))))))),?_⟩
  refine aU (σ:=[some (.ref p),some (.int n),none,none,none,none,none,none]) rfl ?_;obtain ⟨xs,gx,qx,_⟩:=id G;obtain ⟨W,hW,W2,ent⟩:=F.ent;obtain ⟨_,_,_,_,_,_,_,_,r15,r89⟩:=id F;exists ⟨⟨_,bO.of gx⟩,?_⟩;refine dN (K:=K) (as:=rows) (F:=dm K H0) (λ(H:Hp) (zs:List Int) (v:V)=>∃q,v=V.ref q/\H q=some (.lst (zs.map V.int))) kh gx qx (by lia) (λa b=>a.same b) (λ⟨q,a,b⟩ s=>⟨q,a,s _ _ b⟩) ?_ ?_
  ·rintro i qs v H' NY NN ec s' ⟨u,rfl,_,R⟩ k1;have mx:=av ec;obtain ⟨M,hM⟩:=F.rowM mx;obtain ⟨b1,sb⟩:=hM.bot;have lq:(qs.map nm).length<=1000:=by rw[ai,hw qs mx];lia
   exists ⟨u,_,M,rfl,R.rowK,lq,hM,λH2 s2=>?_⟩;exists ⟨u,_,M,_,rfl,(R.same s2).rowK,lq,hM,b1,sb,λr H3 n3 s3 g3=>k1 _ _ (s2.trans s3) ⟨r,rfl,g3⟩⟩
  rintro ys H1 lp0 hlp s1 g1 pr1 nx1;exists dy λqp H2 s2 nq gq=>?_
  have G2:qL qp H2 lp0 (rows.map kh):=⟨(λz=>by rw[z,nq] at g1;cases g1),ys,s2 _ _ g1,Paired.imp' (λ_ _ ⟨q,a,b⟩=>⟨q,a,(λz=>by rw[z,nq] at b;cases b),s2 _ _ b⟩) pr1⟩;have hq0:H qp=none:=s1.none nq;have s02:=s1.trans s2;have hm:(rows.map kh).length=rows.length:=ai ..;clear g1 pr1 nx1;exists ⟨by lia,by lia,?_⟩;refine eX (n:=n) (λP σ' H'=>aK H H'/\∃lp ls ps d y1 y2 y3,σ'=[some (.ref p),some (.int n),some (.ref lp),some (.ref qp),some (.int d),y1,y2,y3]/\H' qp=some (.lst (ko ps))/\qL qp H' lp ls/\BS (rows.map kh) n P ls ps d) ⟨s02,lp0,rows.map kh,[],1,_,_,_,rfl,gq,G2,BS.start λzs hz=>by obtain ⟨x,hx,rfl⟩:=aB.mp hz;rw[tS];exact hw x hx⟩ ?_ ?_
  ·rintro P σ' H' hP ⟨s',lp,ls,ps,d,y1,y2,y3,rfl,gq',G',I⟩;have hl:=I.len;have kP:=I.el.kP;have km:=I.el.km;have lps:(ko ps).length=ps.length:=ai ..;have hqp:H' qp≠none:=by rw[gq'];exact λz=>nomatch z
   obtain ⟨z1,z2⟩:=I.sz (r:=min rows.length n) hW ent (by lia) (by rw[hm];exact ao _) r15;have big:(16*W)^min rows.length n < 2^449950:=bg (FL W2) (c7 (by decide) (by lia));exists ⟨_,_,rfl,.inl (bO.of gq'),?_⟩;rw[lps];exists ⟨qp,lp,ls,ps.length,P,rfl,G',by lia,by lia,λzs hz=>by rw[I.wide zs hz];exact hP,λt h1 h2 h3=>?_,λhz=>?_⟩
   ·exists ⟨rfl,_,rfl,?_⟩;rw[show decide (V.int (t:Int)=V.non)=false from decide_eq_false (λz=>nomatch z)];exists ⟨qp,lp,ls,t,ps.length,rfl,hqp,G',by lia,h2,by lia,λl1 Ha na sa Ga=>?_⟩;exists ⟨qp,l1,_,ps.length,P,n,d,rfl,λz=>hqp (sa.none z),Ga,by rw[vq];lia,by rw[vq];lia,Hq I.wide (by lia) h2,by lia,hP,I.d0,bg z1 big,λzs hz z hz'=>?_,λl2 Hb nb sb Gb=>?_⟩
    ·unfold nX at hz;have key:∀ys,ys∈ls->∀z∈ys,Sz 449950 z:=λys hy z hz=>bg (z2 ys hy z hz) big
     rcases cF hz with h | h
     ·rcases cF h with h | h
      ·exact key zs h z hz'
      ·rw[h] at hz';exact key _ (getD_in h2) z hz'
     ·rw[h] at hz';exact key _ (getD_in (by lia)) z hz'
    have sab:=sa.trans sb;have I2:=I.step hW ent h1 h2 h3;have hk2:ps.length < (EM (nX ls ps.length t) ps.length P d).length:=by rw[Mf,vq];lia
    obtain ⟨n2,xs2,gx2,qx2⟩:=id Gb;obtain ⟨zk,vk,ek,evk,mk,qk,rfl,_,gk⟩:=jV qx2 hk2;have wk:=I2.wide zk mk;exists cx (bO.of gx2) (eJ evk) ?_;exists cx (bO.of gk) (yt (by lia)) ?_;have gqb:=sab _ _ gq';exists ⟨.inl ⟨rfl,_,bO.of gqb⟩,?_⟩;exists jf gqb (bK (by lia)) ?_;refine ⟨(s'.trans sab).after hq0,l2,_,ps++[P],_,_,_,_,rfl,?_,Gb.upd,?_⟩
    ·rw[aM];unfold ko;rw[ck];rfl
    ·have e:(EM (nX ls ps.length t) ps.length P d).getD ps.length []=zk:=by rw[aa,ek];rfl
     rw[e] at I2;exact I2
   ·exists ⟨rfl,_,rfl,?_⟩;rw[show decide (V.non=V.non)=true from decide_eq_true rfl];exists ⟨s',lp,ls,ps,d,_,_,_,rfl,gq',G',I.skip hz⟩
  rintro σ' H' ⟨s',lp,ls,ps,d,y1,y2,y3,rfl,gq',G',I⟩;obtain ⟨R,hR⟩:=I.done hw F;have lps:(ko ps).length=ps.length:=ai ..;obtain ⟨nl,xs',gx',qx'⟩:=id G';exists ⟨_,_,rfl,.inl (bO.of gq'),?_⟩;rw[lps];exists Pf (bO.of gx') λsl H3 s3 n3 g3=>?_
  rw[L9] at g3;exists cA λt H4 s4 g4=>?_
  have s34:=s3.trans s4;exact k t sl qp R ps d _ H4 g4 (s34 _ _ gq') ⟨(λz=>by rw[z,gq'] at n3;cases n3),_,s4 _ _ g3,Paired.imp' (λ_ _ z=>IQ.same z s34) (qj qx' ps.length)⟩ (s'.trans s34) hR
theorem nH:a9 ["rows","wide","due","found","answer","line","lead"] ["rows","wide","due"] (aL yN):=by walk_at "d"
theorem Jv (T:Txt K mg Z) (ptree:P.given.tree=none):cN P w K mg base fX 5 Z.EV Z.ED ["rows","wide","due"] (yz K):=by
 have Dq:=Ej (P:=P) (w:=w) (base:=base) T ptree;have jM:=mX (P:=P) (w:=w) (base:=base) T ptree;have iw:=kZ (P:=P) (w:=w) (base:=base) T ptree;refine T.qV.F.ok nH (λvs H Q E h=>?_) (λcdv A outer s H vs Q E hr h=>?_)
 ·obtain ⟨p,q,n,w,H0,rows,due,rfl,_⟩:=h;rfl
 ·obtain ⟨p,q,n,w,H0,rows,due,rfl,G,Rd,hd,m99,n99,hw,F,k1,k2⟩:=h
  refine ⟨_,(au (aZ (i:=3) nH.nd rfl (Or.inl rfl) (cG Dq hr T.ur (ae (b9 ["row","wanted"] [] [] (oz rfl T.zip (ae (pv 0) (ae (pv 2) aj))) (λ_=>(me K 2 (cE (aS (i:=0) (show ND9 ["row","wanted"] by decide +kernel)) (cE (aS (i:=1) (show ND9 ["row","wanted"] by decide +kernel)) gW)))) (λ_=>cB) (λ_=>(bC jX (pv 0) (dJ (ae (pv 1) aj))))) (ae (bC eT (pv 1) ak) aj))))
   (au (di (bD Ju (pv 1) (a7 bL (pv 3) ak) (by with_unfolding_all rfl)) (aF (a8 CH)) cp)
   (au (aZ (i:=4) nH.nd rfl (Or.inl rfl) (cG jM hr T.iU (ae (pv 1) aj)))
   (au (eH PassesOwn.never rfl (oz rfl T.zip (ae (a7 bL (pv 3) ak) (ae (a7 bL (pv 3) ak) aj))) (td rfl (cE (aS (i:=5) nH.nd) (cE (aS (i:=6) nH.nd) gW)))
    (aF (fF (cG iw hr T.jk (ae (a7 bQ (pv 5) (pv 1)) (ae (a7 bQ (pv 5) (pv 6)) aj))) (ig (pv 4) (pv 6) set_list))))
   (aF (a8 (pv 4))))))),?_⟩
  refine aU (σ:=[some (.ref p),some (.int n),some (.ref q),none,none,none,none]) rfl ?_;obtain ⟨xs,gx,qx,_⟩:=id G;obtain ⟨ds,gd,qd⟩:=id Rd;have lx:=qx.length;have ld:=qd.length;have lj:=kG hd;exists ⟨⟨_,bO.of gx⟩,⟨_,bO.of gd⟩,?_⟩;refine nO (K:=K) (xs:=xs) (ws:=ds) (λi ys H'=>aK H H'/\Paired (dm K H H') ((dk rows due).take i) ys) (bc (bK (by lia))) (by lia) ⟨aK.refl _,.nil⟩ (λi ys H' _ ⟨s,_⟩=>⟨bO.of (s _ _ gx),bO.of (s _ _ gd)⟩) ?_ ?_
  ·rintro i v1 v2 ys H' r h1 h2 hy ⟨s,pr⟩ hr;obtain ⟨row,er,u,rfl,_,Ru⟩:=bX qx h1;obtain ⟨d,ed,nd⟩:=bX qd h2;have wr:=hw row (av er);have sr:aK H' (upd H' r (.tup [.ref u,v2])):=aK.new hr;have gr:(upd H' r (.tup [.ref u,v2])) r=some (.tup [.ref u,v2]):=aM;generalize upd H' r (.tup [.ref u,v2])=H2 at sr gr ⊢;have s2:=s.trans sr;exists dy λl1 H3 s3 n3 g3=>?_
   have s23:=s2.trans s3;obtain ⟨zs,gz,qz⟩:=Ru.same s23;have lz:=qz.length;exists lJ gz g3 (bc (bK (by rw[bS];lia))) λl2 H4 s4 n4 g4=>?_
   refine ⟨s23.trans s4,?_⟩;rw[take_snoc (OF er ed)];exact bT (Paired.imp' (λ_ _ z=>dm.same z ((sr.trans s3).trans s4)) pr) (.cons ⟨l2,rfl,s23.none n4,_,g4,Paired.imp' (λ_ _ z=>bV.same z s4) (bT qz (.cons (nd.same s23) .nil))⟩ .nil)
  rintro ys H1 hy ⟨s1,pr⟩ l hl;have sn:aK H1 (upd H1 l (.lst ys)):=aK.new hl;have gn:(upd H1 l (.lst ys)) l=some (.lst ys):=aM;rw[aE (by lia)] at pr;generalize upd H1 l (.lst ys)=H2 at sn gn ⊢;have GJ:bH K H H2 l (dk rows due):=Bq pr sn hl gn;have s02:=s1.trans sn;walk_at "w";rw[show ((n:Int)+1)=((n+1:Nat):Int) by lia];refine ⟨l,n+1,w,H,_,rfl,GJ,by lia,by lia,C1 hw,F,λt lp qp R ps d ls H3 gt gq GZ s3 S=>?_⟩;have s03:=s02.trans s3;have pn:=S.rr.le;exists ⟨qp,ko ps,rfl,.inl (bO.of gq),rfl,JF,?_⟩;rw[LB];by_cases hn:n∈ps
  ·rw[decide_eq_true hn,show (if false=true then !true else true)=true from rfl];exists k2 R ps H3 S.rr hn s03
  ·rw[decide_eq_false hn,show (if false=true then !false else false)=false from rfl];obtain ⟨lR,wR,rr⟩:=id S.rr;obtain ⟨_,zs,gz,qz⟩:=id GZ;have lz:=qz.length;have hl':=S.len
   have low:∀j,j < ps.length->ps.getD j 0 < n:=λj hj=>by
    have:=rr.low j hj;have:ps.getD j 0≠n:=λz=>hn (by rw[<- z];exact getD_in hj)
    lia
   obtain ⟨_,_,_,_,_,_,_,_,_,e89⟩:=id F;rw[lj] at e89;have dsz:Sz 449950 d:=bg S.dsz (c7 (by decide) (by rw[lj];lia));have lps:=Lk (ps:=ps);exists ⟨n,rfl,by lia,λan H4 na s4 R4=>?_⟩;rw[<- MQ (R:=R) (ps:=ps)] at R4;obtain ⟨vs0,g0,q0⟩:=id R4;have gt4:=s4 _ _ gt;exists ⟨⟨_,bO.of (s4 _ _ gz)⟩,⟨_,bO.of (s4 _ _ gq)⟩,?_⟩;refine NQ (K:=K) (xs:=zs) (ws:=ko ps) (λj σ' H'=>aK H3 H'/\∃y1 y2 vs,σ'=[some (.ref p),some (.int n),some (.ref q),some (.ref t),some (.ref an),y1,y2]/\H' an=some (.lst vs)/\Paired (bV K H') (tV R ps n j) vs) (by lia) ⟨s4,_,_,vs0,rfl,g0,q0⟩ (λj σ' H' _ ⟨e,_⟩=>⟨bO.of (e _ _ gz),bO.of (e _ _ gq)⟩) ?_ ?_
   ·rintro j v1 v2 σ' H' r h1 h2 ⟨s',y1,y2,vs,rfl,ga,qa⟩ hr;obtain ⟨line,el,u,rfl,_,gu⟩:=bX qz h1;have wl:=S.wide line (av el);obtain ⟨pj,ej,rfl⟩:=NL h2;have hj:j < ps.length:=(aJ.mp ej).1;have ejD:ps.getD j 0=pj:=by rw[aa,ej];rfl
    have pjn:=low j hj;rw[ejD] at pjn;have v0:=S.val j n;rw[Kk el] at v0
    have ed:line.getD pj 0=d:=by
     have h:=S.val j pj;rw[Kk el] at h;have u:=rr.unit j hj j hj;rw[if_pos rfl,ejD] at u;rw[u,vg] at h;exact du.mp h
    have sr:aK H' (upd H' r (.tup [.ref u,.int pj])):=aK.new hr;have gr:(upd H' r (.tup [.ref u,.int pj])) r=some (.tup [.ref u,.int pj]):=aM;generalize upd H' r (.tup [.ref u,.int pj])=H5 at sr gr ⊢;have gu5:=(s'.trans sr) _ _ gu;exists cx (bO.of gu5) (yt (by lia)) ?_;exists cx (bO.of gu5) (yt (by lia)) ?_;rw[ed];exists ⟨_,d,rfl,S.d0,dsz,λr6 H6 s6 g6=>?_⟩;have d0:(d:Rat)≠0:=λz=>S.d0 (o8 z)
    have n6:bV K H6 (cJ R j n) (.ref r6):=by
     refine bV.mk g6 ?_;rcases Int.lt_or_lt_of_ne S.d0 with hd' | hd'
     ·rw[if_pos hd',if_pos hd'];refine mj (by lia) ?_;rw[dH,dH,v0];grind
     ·rw[if_neg (by lia),if_neg (by lia)];refine mj hd' ?_;rw[v0];grind
    have ga6:=(sr.trans s6) _ _ ga;have la:=qa.length;rw[jP] at la;exists ft ga6 (fO (by lia)) rfl ?_;refine ⟨((s'.trans sr).trans s6).after na,_,_,_,rfl,aM,?_⟩;rw[<- MR S.rr hj,ejD];exact jT (Paired.imp' (λ_ _ z=>(bV.same z (sr.trans s6)).updL ga6) qa) pj (n6.updL ga6)
   ·rintro σ' H' ⟨s',y1,y2,vs,rfl,ga,qa⟩;rw[show zs.length=ps.length by lia] at qa;exists k1 an R ps d.natAbs H' S.rr hn (s03.none na) (s03.trans s') ⟨vs,ga,qa⟩ (by have:=S.d0;lia) (by rw[<- lj];exact S.dsz) ?_;rw[<- lj];exact Q6 (by have:=S.d0;lia) S.tp S.rr
theorem yG:a9 ["rows","wide","due","answer","columns"] ["rows","wide","due"] (aL CA):=by walk_at "d"
theorem Ek (T:Txt K mg Z) (ptree:P.given.tree=none):cN P w K mg base fX 6 Z.IL Z.ID ["rows","wide","due"] (A4 K):=by
 have Fc:=Jv (P:=P) (w:=w) (base:=base) T ptree;have dZ:=ik (P:=P) (w:=w) (base:=base) T ptree;have jM:=mX (P:=P) (w:=w) (base:=base) T ptree;refine T.uu.F.ok yG (λvs H Q E h=>?_) (λcdv A outer s H vs Q E hr h=>?_)
 ·obtain ⟨p,q,n,w,H0,rows,due,rfl,_⟩:=h;rfl
 ·obtain ⟨p,q,n,w,H0,rows,due,rfl,G,Rd,hd,m90,n90,hw,F,F1,k1⟩:=h
  refine ⟨_,(au (aZ (i:=3) yG.nd rfl (Or.inl rfl) (cG Fc hr T.qV (ae (pv 0) (ae (pv 1) (ae (pv 2) aj)))))
   (au (di (bD HY (pv 3) CH (bJ _)) (aF (a8 (c6 (ae kE (ae (pv 3) aj))))) cp)
   (au (aZ (i:=4) yG.nd rfl (Or.inl rfl) (cG dZ hr T.eU (ae (pv 0) (ae (pv 1) aj))))
   (aF (a8 (c6 (ae kE (ae (cG Fc hr T.qV (ae (bC jX (pv 4) (dJ (ae (pv 2) aj))) (ae (bP bu (by rfl) T.len bf (ae (pv 0) aj)) (ae (bC jX (cG jM hr T.iU (ae (pv 1) aj)) (dJ (ae (uf (v:=.ref Z.a_ONE) rfl T.mg_ONE rfl) aj))) aj)))) aj)))))))),?_⟩
  refine aU (σ:=[some (.ref p),some (.int n),some (.ref q),none,none]) rfl ?_;exists ⟨p,q,n,w,H0,rows,due,rfl,G,Rd,hd,by lia,by lia,hw,F,λx R ps M H1 RR hn nx s1 Rx M0 M1 tM=>?_,λR ps H1 RR hn s1=>absurd hn (F1 R ps RR)⟩;exists ⟨rfl,_,rfl,?_⟩;rw[show decide (V.ref x=V.non)=false from decide_eq_false (λz=>nomatch z)];exists cA λt H2 s2 g2=>?_
  exact k1 t x R ps H2 RR g2 nx (s1.trans s2) (Rx.same s2)
theorem Cs:a9 ["lists","joined","each"] ["lists"] (aL FG):=by walk_at "d"
theorem CN (T:Txt K mg Z) (ptree:P.given.tree=none):cN P w K mg base fX 1 Z.Mj Z.L6 ["lists"] DV:=by
 refine T.oI.F.ok Cs (λvs H Q E h=>?_) (λcdv A outer s H vs Q E hr h=>?_)
 ·obtain ⟨p,us,zss,rfl,_⟩:=h;rfl
 ·obtain ⟨p,us,zss,rfl,gx,qx,hl,k⟩:=h
  refine ⟨_,(au (aZ (i:=1) Cs.nd rfl (Or.inl rfl) (dJ aj))
   (au (eH PassesOwn.never rfl (cP (pv 0)) (aS (i:=2) Cs.nd)
    (aF (iX (ug c5 PySem.F.slot_list_extend PySem.F.type_list_extend JG (pv 1) (ae (pv 2) aj)))))
   (aF (a8 (pv 1))))),?_⟩
  refine aU (σ:=[some (.ref p),none,none]) rfl ?_;have lx:=qx.length;exists dy λj H1 s1 n1 g1=>?_
  exists ⟨⟨_,bO.of (s1 _ _ gx)⟩,?_⟩;refine iV (K:=K) (a:=p) (xs:=us) (λi σ' H'=>aK H H'/\∃x:Option V,σ'=[some (.ref p),some (.ref j),x]/\H' j=some (.lst (zss.take i).flatten)) ⟨s1,none,rfl,g1⟩ (λi σ' H' _ ⟨s,_⟩=>bO.of (s _ _ gx)) ?_ ?_
  ·rintro i x σ' H' hx ⟨s,y,rfl,gj⟩;obtain ⟨zs,ez,q,rfl,gz⟩:=bX qx hx;have tl:(zss.take (i+1)).flatten=(zss.take i).flatten++zs:=by rw[take_snoc ez,fM];simp
   have bl:(zss.take i).flatten.length+zs.length<=1000:=by
    have e:zss.flatten=(zss.take (i+1)).flatten++(zss.drop (i+1)).flatten:=by rw[<- fM,List.take_append_drop]
    rw[e,tl,ax,ax] at hl
    lia
   exists ⟨.inl ⟨rfl,_,bO.of gj⟩,?_⟩;exists ⟨j,q,_,zs,rfl,rfl,gj,s _ _ gz,bc (bK (by lia)),?_⟩;exact ⟨s.after n1,_,rfl,by rw[aM,tl]⟩
  ·rintro σ' H' ⟨s,y,rfl,gj⟩;rw[aE (by lia)] at gj;exists k j H' n1 s gj
theorem oB (T:Txt K mg Z) (ptree:P.given.tree=none):cN P w K mg base fX 4 Z.wD Z.v9 ["one","other"] (HK K):=by
 have d7:=jY (P:=P) (w:=w) (base:=base) T ptree;have iu:=oA (P:=P) (w:=w) (base:=base) T ptree;have iw:=kZ (P:=P) (w:=w) (base:=base) T ptree;refine T.il.F.ok ib (λvs H Q E h=>?_) (λcdv A outer s H vs Q E hr h=>?_)
 ·obtain ⟨p,q,xs,ys,rfl,_⟩:=h;rfl
 ·obtain ⟨p,q,xs,ys,rfl,hp,hq,hl,hz,⟨⟨M,h1⟩,⟨N,h2⟩⟩,kk⟩:=h
  refine ⟨_,(au (aZ (i:=2) ib.nd rfl (Or.inl rfl) (cG d7 hr T.dM (ae (pv 0) aj)))
   (au (aZ (i:=3) ib.nd rfl (Or.inl rfl) (cG d7 hr T.dM (ae (pv 1) aj)))
   (au (aZ (i:=4) ib.nd rfl (Or.inl rfl) (y7 rfl T.list rfl T.zip (ae (cG iu hr T.gE (ae (pv 0) (ae (pv 2) aj))) (ae (cG iu hr T.gE (ae (pv 1) (ae (pv 3) aj))) aj))))
   (aF (a8 (cG iw hr T.jk (ae (bP (ET rfl) (by rfl) T.sum PyProof.Rows.boot_sum (ae (b9 ["mine","yours"] [] [] (cP (pv 4)) (λ_=>(me K 2 (cE (aS (i:=0) (show ND9 ["mine","yours"] by decide +kernel)) (cE (aS (i:=1) (show ND9 ["mine","yours"] by decide +kernel)) gW)))) (λ_=>cB) (λ_=>(bC cV (pv 0) (pv 1)))) aj)) (ae (bC cV (pv 2) (pv 3)) aj)))))))),?_⟩
  refine aU (σ:=[some (.ref p),some (.ref q),none,none,none]) rfl ?_;replace hp:=hp.rowK;replace hq:=hq.rowK;replace hl:(ys.map nm).length=(xs.map nm).length:=by simpa using hl
  replace hz:(xs.map nm).length<=1000:=by simpa using hz
  obtain ⟨b1,s1⟩:=h1.bot;obtain ⟨b2,s2⟩:=h2.bot;have k2:∀r H',aK H H'->H' r=some (.tup [.int (lo (Gk (xs.map nm) (ys.map nm)) (eI (xs.map nm)*eI (ys.map nm))),.int (hi (Gk (xs.map nm) (ys.map nm)) (eI (xs.map nm)*eI (ys.map nm)))])->Q (.ref r) H':=λr H' s g=>kk r H' s (bV.mk g (Iw b1 b2))
  clear kk;generalize xs.map nm=ns at hp hq hl hz h1 h2 b1 b2 s1 s2 k2;generalize ys.map nm=ms at hp hq hl hz h1 h2 b1 b2 s1 s2 k2;have hb:0 < eI ns*eI ms:=hJ b1 b2;exists ⟨p,ns,M,rfl,hp,hz,h1,λH1 t1=>?_⟩;exists ⟨q,ms,N,rfl,hq.same t1,by lia,h2,λH2 t2=>?_⟩;have u2:=t1.trans t2;exists ⟨p,ns,M,_,rfl,hp.same u2,hz,h1,b1,s1,λr1 H3 n3 t3 g3=>?_⟩;exists ⟨q,ms,N,_,rfl,(hq.same u2).same t3,by lia,h2,b2,s2,λr2 H4 n4 t4 g4=>?_⟩;exists ⟨r1,r2,_,_,rfl,bO.of (t4 _ _ g3),bO.of g4,by simp [dC,hl],λL ts H5 t5 n5 g5 pr=>?_⟩;have lt:=pr.length;have ll:(dC ns (eI ns)).length=ns.length:=by simp [dC]
  have lm:(dC ms (eI ms)).length=ns.length:=by simp [dC,hl]
  rw[pG,ai,ai,ll,lm] at lt;exists ⟨⟨_,bO.of g5⟩,?_⟩;refine gO (K:=K) (xs:=ts) (λi ys H'=>H'=H5/\ys=((List.zipWith (λx y=>x*y) (dC ns (eI ns)) (dC ms (eI ms))).take i).map V.int) (bc (bK (by lia))) ⟨rfl,rfl⟩ (λi ys H' _ ⟨e,_⟩=>by subst e;exact bO.of g5) ?_ ?_
  ·rintro i x ys H' hx hlen ⟨rfl,rfl⟩;obtain ⟨pq,epq,T,rfl,gT⟩:=bX pr hx;obtain ⟨t,u,et,eu,rfl⟩:=GU epq;exists fj (show fK _ _ from .inr ⟨_,_,tR h1 b1 s1 (av et),tR h2 b2 s2 (av eu),by decide⟩) ?_;have ez:(List.zipWith (λx y=>x*y) (dC ns (eI ns)) (dC ms (eI ms)))[i]?=some (t*u):=by rw[bo,et,eu]
   exact ⟨rfl,by rw[take_snoc ez];simp⟩
  ·rintro ys H' hy ⟨rfl,rfl⟩ l hl';exists ⟨l,List.zipWith (λx y=>x*y) (dC ns (eI ns)) (dC ms (eI ms)),rfl,bO.of (by rw[aM,aE (by rw[aQ];lia)]),?_⟩;exists fj (show fK _ _ from .inr ⟨_,_,s1,s2,by decide⟩) ?_;exists ⟨_,_,rfl,by lia,(s1.mul s2).mono (by decide),λr H6 t6 g6=>?_⟩;rw[if_neg (by lia),if_neg (by lia)] at g6;exact k2 r H6 ((((u2.trans t3).trans t4).trans t5).trans ((aK.new hl').trans t6)) g6
theorem ui (T:Txt K mg Z) (ptree:P.given.tree=none):cN P w K mg base fX 5 Z.wF Z.we ["grid","row"] (HI K):=by
 have G_row_dot_R:=oB (P:=P) (w:=w) (base:=base) T ptree;refine T.jZ.F.ok yK (λvs H Q E h=>?_) (λcdv A outer s H vs Q E hr h=>?_)
 ·obtain ⟨p,q,H0,rows,ys,rfl,_⟩:=h;rfl
 ·obtain ⟨p,q,H0,rows,ys,rfl,hp,hq,hz,hl,hr1,kk⟩:=h;refine ⟨_,(aF (a8 (b9 ["line"] ["row"] [1] (cP (pv 0)) (λ_=>(aS (i:=0) (show ND9 ["line","row"] by decide +kernel))) (λ_=>cB) (λ_=>(cG G_row_dot_R hr T.il (ae (pv 0) (ae (pv 1) aj))))))),?_⟩;refine aU (σ:=[some (.ref p),some (.ref q)]) rfl ?_;obtain ⟨xs,gx,qx,_⟩:=id hp;exists ⟨⟨_,bO.of gx⟩,?_⟩;refine dN (K:=K) (F:=dm K H0) (bV K) (λxs=>cm xs ys) gx qx hz (λa b=>a.same b) (λa b=>a.same b) ?_ ?_
  ·rintro i ns x H' NY NN en s ⟨u,rfl,_,hu⟩ k;obtain ⟨e1,e2⟩:=hr1 ns (av en);exists ⟨u,q,ns,ys,rfl,hu,hq.same s,e1.symm,by lia,e2,λr H2 s2 h2'=>k _ _ s2 h2'⟩
  ·rintro ys' H' r hr s g pr nx;exact kk r H' hr s ⟨ys',g,pr⟩
theorem rn:a9 ["one","other","wide","columns"] ["one","other","wide"] (aL oh):=by walk_at "d"
theorem AB (T:Txt K mg Z) (ptree:P.given.tree=none):cN P w K mg base fX 6 Z.uV Z.uH ["one","other","wide"] (yD K):=by
 have dZ:=ik (P:=P) (w:=w) (base:=base) T ptree;have G_grid_on_R:=ui (P:=P) (w:=w) (base:=base) T ptree;refine T.mZ.F.ok rn (λvs H Q E h=>?_) (λcdv A outer s H vs Q E hr h=>?_)
 ·obtain ⟨p,q,w,H0,H1,one,other,rfl,_⟩:=h;rfl
 ·obtain ⟨p,q,w,H0,H1,one,other,rfl,hp,hq,z1,z2,hw,h1,h2,kk⟩:=h
  refine ⟨_,(au (aZ (i:=3) rn.nd rfl (Or.inr rfl) (cG dZ hr T.eU (ae (pv 1) (ae (pv 2) aj))))
   (aF (a8 (b9 ["line"] ["columns"] [3] (cP (pv 0)) (λ_=>(aS (i:=0) (show ND9 ["line","columns"] by decide +kernel))) (λ_=>cB) (λ_=>(cG G_grid_on_R hr T.jZ (ae (pv 1) (ae (pv 0) aj)))))))),?_⟩
  refine aU (σ:=[some (.ref p),some (.ref q),some (.int w),none]) rfl ?_;exists ⟨q,w,H1,other,rfl,hq,z2,hw,h2,λc H2 nc s2 hc=>?_⟩;obtain ⟨xs,gx,qx,_⟩:=hp.same s2;exists ⟨⟨_,bO.of gx⟩,?_⟩;refine dN (K:=K) (F:=dm K H0) (dm K H) (λxs=>(b8 other w).map λys=>cm ys xs) gx qx z1 (λa b=>a.same b) (λa b=>a.same b) ?_ ?_
  ·rintro i ns x H3 NY NN en s3 ⟨u,rfl,_,hu⟩ k;obtain ⟨e1,e2⟩:=h1 ns (av en);exists ⟨c,u,H,b8 other w,ns,rfl,hc.same s3,hu,by simp [b8];lia,by lia,λys hy=>⟨?_,e2 ys hy⟩,λr H4 nr s4 hr=>k _ _ s4 ⟨r,rfl,s2.none (s3.none nr),hr⟩⟩;obtain ⟨j,_,rfl⟩:=aB.mp hy;rw[ai];exact e1.symm
  ·rintro ys' H3 r hr s3 g pr nx;exact kk r H3 (s2.none hr) (s2.trans s3) ⟨ys',g,pr,jy nx⟩
theorem Jj:a9 ["one","other"] ["one","other"] (aL yO):=by walk_at "d"
theorem Jw (T:Txt K mg Z) (ptree:P.given.tree=none):cN P w K mg base fX 3 Z.EW Z.EE ["one","other"] (yA K):=by
 have iw:=kZ (P:=P) (w:=w) (base:=base) T ptree;refine T.vR.F.ok Jj (λvs H Q E h=>?_) (λcdv A outer s H vs Q E hr h=>?_)
 ·obtain ⟨u,v,x,y,rfl,hx,hy,y0,sx,sy,k⟩:=h;rfl
 ·obtain ⟨u,v,x,y,rfl,hx,hy,y0,sx,sy,k⟩:=h;obtain ⟨p,rfl,gp⟩:=id hx;obtain ⟨q,rfl,gq⟩:=id hy
  refine ⟨_,(au (di (bD eS (a7 bL (pv 1) ak) ak (bJ _)) (aF HU) cp)
   (aF (a8 (cG iw hr T.jk (ae (bC cV (a7 bL (pv 0) ak) (a7 bL (pv 1) ak)) (ae (bC cV (a7 bL (pv 0) ak) (a7 bL (pv 1) ak)) aj)))))),?_⟩
  refine aU (σ:=[some (.ref p),some (.ref q)]) rfl ?_;obtain ⟨hb,e⟩:=NK (x:=x) y0;have yn:0 < (nm y).1:=pC.mp y0;walk_at "w";rw[decide_eq_false (show ¬((nm y).1=0) by lia)];exists fj (show fK _ _ from .inr ⟨_,_,sx.1,sy.2,by decide⟩) ?_;exists fj (show fK _ _ from .inr ⟨_,_,sx.2,sy.1,by decide⟩) ?_;exists ⟨_,_,rfl,by lia,(sx.2.mul sy.1).mono (by decide),λr H' s' h'=>?_⟩;rw[if_neg (by lia),if_neg (by lia)] at h';exact k r H' s' (bV.mk h' e)
theorem Cq:a9 ["weights","row"] ["weights","row"] (aL pU):=by walk_at "d"
theorem uh (T:Txt K mg Z) (ptree:P.given.tree=none):cN P w K mg base fX 4 Z.xD Z.xi ["weights","row"] (Hv K):=by
 have Mm:=Jw (P:=P) (w:=w) (base:=base) T ptree;refine T.kR.F.ok Cq (λvs H Q E h=>?_) (λcdv A outer s H vs Q E hr h=>?_)
 ·obtain ⟨p,q,wq,xq,rfl,_⟩:=h;rfl
 ·obtain ⟨p,q,wq,xq,rfl,hp,hq,hl,hz,hw,hx,k⟩:=h;refine ⟨_,(aF (a8 (b9 ["value","weight"] [] [] (oz rfl T.zip (ae (pv 1) (ae (pv 0) aj))) (λ_=>(me K 2 (cE (aS (i:=0) (show ND9 ["value","weight"] by decide +kernel)) (cE (aS (i:=1) (show ND9 ["value","weight"] by decide +kernel)) gW)))) (λ_=>cB) (λ_=>(cG Mm hr T.vR (ae (pv 0) (ae (pv 1) aj))))))),?_⟩;refine aU (σ:=[some (.ref p),some (.ref q)]) rfl ?_;obtain ⟨ws,gw,qw⟩:=id hp;obtain ⟨xs,gx,qx⟩:=id hq;have lx:=qx.length;have lw:=qw.length;exists ⟨⟨_,bO.of gx⟩,⟨_,bO.of gw⟩,?_⟩;refine nO (K:=K) (xs:=xs) (ws:=ws) (λi zs H'=>aK H H'/\Paired (bV K H') ((rB wq xq).take i) zs) (bc (bK (by lia))) (by lia) ⟨aK.refl _,.nil⟩ (λi zs H' _ ⟨s,_⟩=>⟨bO.of (s _ _ gx),bO.of (s _ _ gw)⟩) ?_ ?_
  ·rintro i x y zs H' r h1 h2 hlen ⟨s,hP⟩ hr;obtain ⟨n,en,hn1⟩:=bX qx h1;obtain ⟨m,em,hm1⟩:=bX qw h2;obtain ⟨w0,w1⟩:=hw m (av em);have s1:=aK.new (o:=.tup [x,y]) hr;have s01:=s.trans s1;have gr:(upd H' r (.tup [x,y])) r=some (.tup [x,y]):=aM;generalize upd H' r (.tup [x,y])=Hr at s1 s01 gr ⊢;exists ⟨_,_,n,m,rfl,hn1.same s01,hm1.same s01,w0,hx n (av en),w1,λr3 H3 s3 h3=>?_⟩;refine ⟨s01.trans s3,?_⟩;have ez:(rB wq xq)[i]?=some (n / m):=by unfold rB;rw[bo,en,em]
   rw[take_snoc ez];exact bT (Paired.imp' (λ_ _ z=>z.same (s1.trans s3)) hP) (.cons h3 .nil)
  ·rintro zs H' hy ⟨s,hP⟩ l hl';rw[aE (by unfold rB;rw[aQ];lia)] at hP;exact k l _ (s.none hl') (s.trans (aK.new hl')) ⟨zs,aM,Paired.imp' (λ_ _ z=>z.same (aK.new hl')) hP⟩
theorem qR:a9 ["weights","lists","wide","rows","all_weights","columns"] ["weights","lists","wide"] (aL yQ):=by walk_at "d"
theorem Jx (T:Txt K mg Z) (ptree:P.given.tree=none):cN P w K mg base fX 7 Z.EY Z.EH ["weights","lists","wide"] (HE K):=by
 have tP:=CN (P:=P) (w:=w) (base:=base) T ptree;have dZ:=ik (P:=P) (w:=w) (base:=base) T ptree;have Dt:=AB (P:=P) (w:=w) (base:=base) T ptree;have qN:=uh (P:=P) (w:=w) (base:=base) T ptree;refine T.vS.F.ok qR (λvs H Q E h=>?_) (λcdv A outer s H vs Q E hr h=>?_)
 ·obtain ⟨q,l,n,us,Rs,ws,rfl,_⟩:=h;rfl
 ·obtain ⟨q,l,n,us,Rs,ws,rfl,Rq,gl,pl,n1,l1,f1,fw,hx,hw,rc,k⟩:=h
  refine ⟨_,(au (aZ (i:=3) qR.nd rfl (Or.inl rfl) (cG tP hr T.oI (ae (pv 1) aj)))
   (au (aZ (i:=4) qR.nd rfl (Or.inr rfl) (cG tP hr T.oI (ae (b9 ["each"] ["weights"] [0] (cP (pv 1)) (λ_=>(aS (i:=0) (show ND9 ["each","weights"] by decide +kernel))) (λ_=>cB) (λ_=>(pv 1))) aj)))
   (au (aZ (i:=5) qR.nd rfl (Or.inl rfl) (cG dZ hr T.eU (ae (pv 3) (ae (pv 2) aj))))
   (aF (a8 (cG Dt hr T.mZ (ae (b9 ["column"] ["all_weights"] [4] (cP (pv 5)) (λ_=>(aS (i:=0) (show ND9 ["column","all_weights"] by decide +kernel))) (λ_=>cB) (λ_=>(cG qN hr T.kR (ae (pv 1) (ae (pv 0) aj))))) (ae (pv 3) (ae (pv 2) aj))))))))),?_⟩
  refine aU (σ:=[some (.ref q),some (.ref l),some (.int n),none,none,none]) rfl ?_;have lu:=pl.length;obtain ⟨zss,pz,pr⟩:=zN pl;have pf:=iE pr;have lf:=pf.length;exists ⟨l,us,zss,rfl,gl,pz,by lia,λr1 H1 nr1 s1 g1=>?_⟩;have G1:bH K (λ_=>none) H1 r1 Rs.flatten:=⟨_,g1,Paired.imp' (λ_ _ ⟨a,b,_,d⟩=>⟨a,b,rfl,d.same s1⟩) pf,jy ⟨H,nr1,pf⟩⟩;obtain ⟨wz,gw,qw⟩:=id Rq;exists ⟨⟨_,bO.of (s1 _ _ gl)⟩,?_⟩;refine dN (K:=K) (F:=λ_ (_:LR9) _=>True) (λ_ (_:LR9) v=>v=V.ref q) id (as:=Rs) (s1 _ _ gl) (Paired.imp' (λ_ _ _=>trivial) pl) (by lia) (λa b=>a) (λa b=>a) ?_ ?_
  ·rintro i c x H' NY NN ec s' _ k1;exists k1 _ _ (aK.refl _) rfl
  rintro ys H2 r2 nr2 s2 g2 pr2 _;rw[pA] at pr2;have s02:=s1.trans s2;have py:Paired (λzs u=>∃q,u=V.ref q/\H2 q=some (.lst zs)) (List.replicate Rs.length wz) ys:=sZ (λ_ y e=>⟨q,e,s02 _ _ gw⟩) pr2;have pw:=iE (CD (G:=λR zs=>Paired (bV K H) R zs) qw Rs.length);have lw:=pw.length;exists ⟨r2,ys,_,rfl,g2,py,by unfold jO at fw;lia,λr3 H3 nr3 s3 g3=>?_⟩;have s03:=s02.trans s3;have R3:cL K H3 r3 (jO ws Rs.length):=⟨_,g3,Paired.imp' (λ_ _ z=>z.same s03) pw⟩;have s13:=s2.trans s3;exists ⟨r1,n,_,_,rfl,G1.same s13,f1,by lia,λxs h=>(hx xs h).1,λr4 H4 nr4 s4 G4=>?_⟩;obtain ⟨cs,gc,qc,_⟩:=id G4;have lc:=qc.length;rw[cR] at lc;exists ⟨⟨_,bO.of gc⟩,?_⟩;refine dN (K:=K) (F:=dm K H3) (dm K H3) (rB (jO ws Rs.length)) gc qc (by rw[cR];lia) (λa b=>a.same b) (λa b=>a.same b) ?_ ?_
  ·rintro i c x H' NY NN ec s' ⟨u,rfl,nu,Ru⟩ k1;have mc:=av ec;have wc:=fQ c mc;exists ⟨r3,u,_,c,rfl,R3.same (s4.trans s'),Ru,by rw[fw,wc],by lia,λw h=>hw w (vn h),yu hx c mc,λr5 H5 nr5 s5 R5=>k1 _ _ s5 ⟨r5,rfl,(s4.trans s').none nr5,R5⟩⟩
  rintro zs H5 r5 nr5 s5 g5 pr5 nx5;have G5:bH K H3 H5 r5 ((b8 Rs.flatten n).map (rB (jO ws Rs.length))):=⟨zs,g5,pr5,jy nx5⟩;have s15:=(s13.trans s4).trans s5;exists ⟨r5,r1,n,_,_,_,_,rfl,G5,G1.same s15,by rw[ai,cR];lia,f1,by lia,λxs h=>?_,λxs h=>(hx xs h).1,λr6 H6 nr6 s6 G6=>k r6 _ H6 ((s1.trans s15).none nr6) ((s1.trans s15).trans s6) G6⟩;obtain ⟨ys',hy,rfl⟩:=aB.mp h;refine ⟨?_,λzs hz=>⟨(rc zs hz).1,(rc ys' hy).2⟩⟩;unfold rB;rw[aQ,fw,fQ ys' hy,fg]
theorem yH:a9 ["rows","wide","found"] ["rows","wide"] (aL vG):=by walk_at "d"
theorem FT (T:Txt K mg Z) (ptree:P.given.tree=none):cN P w K mg base fX 5 Z.BM Z.Bt ["rows","wide"] (wQ K):=by
 have Dq:=Ej (P:=P) (w:=w) (base:=base) T ptree;have iw:=kZ (P:=P) (w:=w) (base:=base) T ptree;refine T.tG.F.ok yH (λvs H Q E h=>?_) (λcdv A outer s H vs Q E hr h=>?_)
 ·obtain ⟨p,n,w,H0,rows,rfl,_⟩:=h;rfl
 ·obtain ⟨p,n,w,H0,rows,rfl,G,r100,n100,hw,F,k⟩:=h
  refine ⟨_,(au (aZ (i:=2) yH.nd rfl (Or.inl rfl) (cG Dq hr T.ur (ae (pv 0) (ae (pv 1) aj))))
   (aF (a8 (b9 ["line","lead"] [] [] (oz rfl T.zip (ae (a7 bL (pv 2) ak) (ae (a7 bL (pv 2) ak) aj))) (λ_=>(me K 2 (cE (aS (i:=0) (show ND9 ["line","lead"] by decide +kernel) rfl (Or.inr rfl) (Or.inl rfl)) (cE (aS (i:=1) (show ND9 ["line","lead"] by decide +kernel) rfl (Or.inr rfl) (Or.inl rfl)) gW)))) (λ_=>cB) (λ_=>(b9 ["top"] ["line","lead"] [0,1] (Ei K (pv 0)) (λ_=>(aS (i:=0) (show ND9 ["top","line","lead"] by decide +kernel))) (λ_=>cB) (λ_=>(cG iw hr T.jk (ae (pv 0) (ae (a7 (gM K (by rfl)) (pv 1) (pv 2)) aj)))))))))),?_⟩
  refine aU (σ:=[some (.ref p),some (.int n),none]) rfl ?_;obtain ⟨_,_,_,_,_,_,_,_,r15,r89⟩:=id F;exists ⟨p,n,w,H0,rows,rfl,G,r100,n100,hw,F,λt lp qp R ps d ls H1 gt gq G1 s1 S=>?_⟩;obtain ⟨lR,wR,RR⟩:=id S.rr;have hl:=S.len;obtain ⟨_,xs,gx,qx⟩:=id G1;have lx:=qx.length;have lps:(ko ps).length=ps.length:=ai ..;have d0:(d:Rat)≠0:=λz=>S.d0 (o8 z)
  have dsz:Sz 449950 d:=bg S.dsz (c7 (by decide) (by lia))
  have km:ps.length<=n:=by
   rcases c4 n ps.length with z | z
   ·have inc:∀j,j < ps.length->j<=ps.getD j 0:=by
     intro j
     induction j with
     | zero=>intro _;exact br _
     | succ j ih =>
      intro hj;have:=ih (by lia);have:=RR.inc j (j+1) (by lia) hj
      lia
    have h1:=inc (ps.length - 1) (by lia);have h2:=RR.low (ps.length - 1) (by lia)
    lia
   ·exact z
  exists ⟨⟨_,bO.of gx⟩,⟨_,bO.of gq⟩,?_⟩;refine nO (K:=K) (xs:=xs) (ws:=ko ps) (λi ys H'=>aK H1 H'/\Paired (dm K H1 H') (R.take i) ys) (bc (bK (by lia))) (by lia) ⟨aK.refl _,.nil⟩ (λi ys H' _ ⟨s,_⟩=>⟨bO.of (s _ _ gx),bO.of (s _ _ gq)⟩) ?_ ?_
  ·rintro i v1 v2 ys H' r h1 h2 hy ⟨s,pr⟩ hr;obtain ⟨zs,ez,q,rfl,_,gq1⟩:=bX qx h1;have hi:i < ls.length:=(aJ.mp ez).1;have mz:=av ez;have wz:=S.wide zs mz
   obtain ⟨j,ej,rfl⟩:∃j:Nat,ps[i]?=some j/\V.int (j:Int)=v2:=by
    unfold ko at h2;rw[aH] at h2;cases e:ps[i]? with
    | none=>rw[e] at h2;cases h2
    | some x=>rw[e] at h2;exact ⟨x,rfl,cg h2⟩
   have ej':ps.getD i 0=j:=by rw[aa,ej];rfl
   have jn:j < n:=by have:=RR.low i (by lia);rw[ej'] at this;exact this
   have sr:aK H' (upd H' r (.tup [.ref q,.int j])):=aK.new hr;have gr:(upd H' r (.tup [.ref q,.int j])) r=some (.tup [.ref q,.int j]):=aM;generalize upd H' r (.tup [.ref q,.int j])=H2 at sr gr ⊢;have s2:=s.trans sr;have iR:i < R.length:=by lia
   have eR:=af iR;have wRi:=wR _ (aD iR)
   have ed:zs.getD j 0=d:=by
    have h:=S.val i j;rw[Kk ez] at h;have u:=RR.unit i (by lia) i (by lia);rw[if_pos rfl,ej'] at u;rw[u,vg] at h;exact du.mp h
   have val:∀c,((zs.getD c 0:Int):Rat)=(d:Rat)*(R[i]).getD c 0:=λc=>by
    have h:=S.val i c;rw[Kk ez] at h;rw[h];unfold cJ;rw[aa (l:=R),eR];rfl
   exists ⟨⟨_,bO.of (s2 _ _ gq1)⟩,?_⟩;refine gO (K:=K) (xs:=zs.map V.int) (λc ys' H3=>aK H2 H3/\Paired (bV K H3) ((R[i]).take c) ys') (bc (bK (by rw[ai];lia))) ⟨aK.refl _,.nil⟩ (λc ys' H3 _ ⟨s3,_⟩=>bO.of ((s2.trans s3) _ _ gq1)) ?_ ?_
   ·rintro c x ys' H3 hx hlen ⟨s3,pr3⟩
    obtain ⟨z,ec,rfl⟩:∃z,zs[c]?=some z/\V.int z=x:=by
     rw[aH] at hx;cases e:zs[c]? with
     | none=>rw[e] at hx;cases hx
     | some x=>rw[e] at hx;exact ⟨x,rfl,cg hx⟩
    have hc:c < zs.length:=(aJ.mp ec).1;have vc:=val c;have e1:zs.getD c 0=z:=by rw[aa,ec];rfl
    rw[e1] at vc;exists cx (bO.of ((s2.trans s3) _ _ gq1)) (yt (by lia)) ?_;rw[ed];exists ⟨z,d,rfl,S.d0,dsz,λr4 H4 s4 g4=>?_⟩;have ec':(R[i])[c]?=some ((R[i]).getD c 0):=by rw[aa,af (show c < (R[i]).length by lia)];rfl
    refine ⟨s3.trans s4,?_⟩;rw[take_snoc ec'];refine bT (Paired.imp' (λ_ _ z=>bV.same z s4) pr3) (.cons (bV.mk g4 ?_) .nil);rcases Int.lt_or_lt_of_ne S.d0 with hd | hd
    ·rw[if_pos hd,if_pos hd];refine mj (by lia) ?_;rw[dH,dH,vc];grind
    ·rw[if_neg (by lia),if_neg (by lia)];refine mj hd ?_;rw[vc];grind
   ·rintro ys' H3 hy' ⟨s3,pr3⟩ l4 hl4;have sn:aK H3 (upd H3 l4 (.lst ys')):=aK.new hl4;refine ⟨(s2.trans s3).trans sn,?_⟩;rw[take_snoc eR];rw[aE (by rw[ai];lia)] at pr3;exact bT (Paired.imp' (λ_ _ z=>dm.same z ((sr.trans s3).trans sn)) pr) (.cons ⟨l4,rfl,(s2.trans s3).none hl4,ys',aM,Paired.imp' (λ_ _ z=>bV.same z sn) pr3⟩ .nil)
  ·rintro ys H' hy ⟨s,pr⟩ r hr;have sn:aK H' (upd H' r (.lst ys)):=aK.new hr;rw[aE (by lia)] at pr;refine k r R ps d.natAbs _ (s1.none (s.none hr)) ((s1.trans s).trans sn) ⟨ys,aM,Paired.imp' (λ_ _ z=>(dm.weak z s1).same sn) pr,jy (H0:=H1) (rows:=R) ⟨H',hr,pr⟩⟩ S.rr S.km ?_ S.dsz S.tp;have:=S.d0
   lia
theorem lC:a9 ["system","steps","lists","rows"] ["system","steps"] (aL mM):=by walk_at "d"
theorem zj (T:Txt K mg Z) (ptree:P.given.tree=none):cN P w K mg base fX 7 Z.rV Z.rJ ["system","steps"] (Bf K Z.a_System):=by
 have JX:=FT (P:=P) (w:=w) (base:=base) T ptree;have oV:=rE (P:=P) (w:=w) (base:=base) T ptree;refine T.lO.F.ok lC (λvs H Q E h=>?_) (λcdv A outer s H vs Q E hr h=>?_)
 ·obtain ⟨x,a,c,st,H0,mv,pt,lk,rfl,_⟩:=h;rfl
 ·obtain ⟨x,a,c,st,H0,mv,pt,lk,rfl,s1000,S,D,F,k⟩:=h
  refine ⟨_,(au (aZ (i:=2) lC.nd rfl (Or.inl rfl) (dJ (ae (dJ aj) aj)))
   (au (yW PassesOwn.never (bD Ry (bP bu (by rfl) T.len bf (ae (pv 2) aj)) (pv 1) (bJ _))
    (au (aZ (i:=3) lC.nd rfl (Or.inl rfl) (cG JX hr T.tG (ae (bC jX (iN (pv 0) rfl) (cG oV hr T.j7 (ae (pv 0) (ae (a7 bQ (pv 2) (wV pH ak)) aj)))) (ae (iN (pv 0) rfl) aj))))
   (au (di (bD eS (bP bu (by rfl) T.len bf (ae (pv 3) aj)) (bP bu (by rfl) T.len bf (ae (a7 bQ (pv 2) (wV pH ak)) aj)) (bJ _)) (aF (a8 (pv 2))) cp)
   (aF (iX (ug c5 dd dc ji (pv 2) (ae (pv 3) aj)))))))
   (aF (a8 (pv 2))))),?_⟩
  refine aU (σ:=[some (.ref x),some (.int st),none,none]) rfl ?_;obtain ⟨dx,a',b',c',gx,_,_,_,Ga,Gb,Gc⟩:=id S;have d8:=D.n8;have i4:=D.i4;have lP:=eo (mv:=mv) (pt:=pt) rfl D.pw;exists dy λq0 H1 s1 nq0 g1=>?_
  exists dy λl H2 s2 nl g2=>?_
  have s02:=s1.trans s2;have nl0:H l=none:=s1.none nl;obtain ⟨Hz,eHz⟩:∃Hz,Hz=upd H l (.lst []):=⟨_,rfl⟩;have zl:Hz l≠none:=by rw[eHz,aM];exact λz=>nomatch z
  have zn:∀q,Hz q=none->H q=none/\q≠l:=λq h=>by
   have ne:q≠l:=λz=>zl (by rw[<- z];exact h)
   rw[eHz,bE ne] at h;exact ⟨h,ne⟩
  have nz:∀q,H q=none->q≠l->Hz q=none:=λq h ne=>by rw[eHz,bE ne];exact h
  clear eHz;have q0l:q0≠l:=λz=>by rw[z,nl] at g1;cases g1
  have G0:bH K Hz H2 q0 []:=⟨[],s2 _ _ g1,.nil,λz=>nomatch z⟩;exists Ca (λσ' H'=>aK H H'/\∃Rs R us y,σ'=[some (.ref x),some (.int st),some (.ref l),y]/\H' l=some (.lst us)/\Paired (λR v=>∃q,v=V.ref q/\Hz q=none/\bH K Hz H' q R) (Rs++[R]) us/\Ap mv pt (Rs++[R])/\Rs.length<=st) (λ_ H'=>match H' l with | some (.lst us)=>st+1 - us.length | _=>0) ⟨s02,[],[],_,_,rfl,g2,.cons ⟨q0,rfl,nz q0 nq0 q0l,G0⟩ .nil,⟨by simp,λt R e=>?_,λt R R' e e'=>?_⟩,br _⟩ ?_
  ·have ht:=(aJ.mp e).1;have:t=0:=by simpa using ht
   subst this;cases e;exact ⟨[],Pb⟩
  ·have ht:=(aJ.mp e').1;simp at ht
  rintro σ' Ha ⟨sa,Rs,R,us,y,rfl,gu,pa,Gw,hst⟩;have lu:=pa.length;rw[ax,bS] at lu;have eR:(Rs++[R])[Rs.length]?=some R:=by rw[bN (ao _),i5];rfl
  obtain ⟨ps,RR⟩:=Gw.rr _ _ eR;have tn:Rs.length<=mv.length:=by have:=Gw.len _ _ eR;have:=RR.le;have:=RR.1;lia
  have fin:∀(Hx:Hp) (sx:aK Ha Hx) (hh:∀s,(Rs.length=st/\s=st\/Rs.length < st/\Rs.length<=s)->∃ps,cO (kry mv pt s) mv.length R ps),Q (.ref l) Hx:=λHx sx hh=>by
   refine k l (Rs++[R]) Hx nl0 (sa.trans sx) ⟨us,sx _ _ gu,Paired.imp' (λ_ _ ⟨q,e1,e2,e3⟩=>⟨q,e1,(zn q e2).1,(zn q e2).2,bH.weakN (bH.same e3 sx) λq h=>(zn q h).1⟩) pa⟩ Gw (by rw[ax,bS];lia) λR2 e2 s hs=>?_
   rw[List.getLast?_concat] at e2;cases e2;rw[ax,bS,Nat.add_sub_cancel] at hs;exact hh s hs
  exists ⟨_,_,rfl,.inl (bO.of gu),?_⟩;exists iG (λh0=>?_) (λh0=>?_)
  ·have h0:=of_decide_eq_true h0;refine Oz ?_
   obtain ⟨zs,gS⟩:∃zs q,us=zs++[V.ref q]/\Hz q=none/\bH K Hz Ha q R:=by
    obtain ⟨v,ev,q,rfl,e2,e3⟩:∃v,us[Rs.length]?=some v/\∃q,v=V.ref q/\Hz q=none/\bH K Hz Ha q R:=by
     have ev:=af (show Rs.length < us.length by lia);obtain ⟨R2,e2,w⟩:=bX pa ev;rw[eR] at e2;cases e2;exact ⟨_,ev,w⟩
    refine ⟨us.take Rs.length,q,?_,e2,e3⟩;rw[<- take_snoc ev,aE (by lia)]
   obtain ⟨q,rfl,zq,Gq⟩:=gS;have gxa:=sa _ _ gx;exists ⟨x,Z.a_System,dx,_,_,rfl,gxa,T.cl_System,T.na_put,Cf,?_⟩;exists cx (bO.of gu) (uR _ _) ?_;have wR:=RR.2.1;have lR:=RR.1;have pn:=RR.le;exists ⟨x,q,H0,Hz,mv,pt,lk,R,rfl,S.same sa,D,Gq,by lia,wR,F.fit d8 D.mw D.pw tn RR,λmr Hb nmr sb Gm=>?_⟩;obtain ⟨pv,gpv,qpv,_⟩:=Gb.same (sa.trans sb);obtain ⟨mvs,gmv,qmv,_⟩:=id Gm;have lpv:=qpv.length;have lmv:=qmv.length;rw[ai] at lmv;exists lJ gpv gmv (bc (bK (by lia))) λcr Hc sc nc gc=>?_
   have sab:=sa.trans (sb.trans sc);have Gc':bH K (λ_=>none) Hc cr (pt++R.map (qT mv)):=Bq (H:=Hb) (bT (Paired.imp' (λ_ _ ⟨q,e1,e2,e3⟩=>⟨q,e1,rfl,e3⟩) qpv) (Paired.imp' (λ_ _ ⟨q,e1,e2,e3⟩=>⟨q,e1,rfl,e3⟩) qmv)) sc nc gc;exists ⟨x,Z.a_System,dx,_,_,rfl,sab _ _ gx,T.cl_System,T.na_states,lB,?_⟩;exists ⟨cr,mv.length,_,_,_,rfl,Gc',by rw[ax,ai];lia,by lia,λxs hx=>?_,F.step d8 D.mw D.pw tn RR,λrr R' ps' M' Hd nrr sd G' RR' pm' _ _ _=>?_⟩
   ·rcases aG.mp hx with hx | hx
    ·exact D.pw xs hx
    ·obtain ⟨y,_,rfl⟩:=aB.mp hx;exact CJ
   have sbd:=sb.trans (sc.trans sd);have sad:=sa.trans sbd;have K1:=zM rfl D.mw D.pw RR RR';have gud:=sbd _ _ gu;obtain ⟨rv,grv,qrv,_⟩:=id G';have lrv:=qrv.length;have lR':=RR'.1;have pn':=RR'.le;exists ⟨_,_,rfl,.inl (bO.of grv),?_⟩;exists cx (bO.of gud) (uR _ _) ?_;obtain ⟨ov,gov,qov,_⟩:=Gq.same sbd;have lov:=qov.length;exists ⟨_,_,rfl,.inl (bO.of gov),?_⟩;exists iG (λh1=>?_) (λh1=>?_)
   ·have h1:=of_decide_eq_true h1;exists fin Hd sbd λs hs=>⟨ps,?_⟩
    obtain ⟨s',rfl⟩:∃s',s=Rs.length+s':=⟨s - Rs.length,by lia⟩;exact JK rfl D.mw D.pw RR RR' (by lia) s'
   ·have h1:¬((rv.length:Int)=ov.length):=λz=>h1 (decide_eq_true z)
    have gr:=Lv rfl D.mw D.pw RR K1;have rl:rr≠l:=λz=>by rw[z,(sb.trans sc) _ _ gu] at nrr;cases nrr
    have zc:∀q,Hc q=none->Hz q=none:=λq h=>nz q (sab.none h) (λz=>by rw[z,(sb.trans sc) _ _ gu] at h;cases h)
    exists ⟨.inl ⟨rfl,_,bO.of gud⟩,?_⟩;exists jf gud (bK (by lia)) ?_;refine ⟨⟨sad.after nl0,Rs++[R],R',_,_,rfl,aM,bT (Paired.imp' (λ_ _ ⟨q,e1,e2,e3⟩=>⟨q,e1,e2,bH.updL (bH.same e3 sbd) gud zl (zn q e2).2⟩) pa) (.cons ⟨rr,rfl,zc rr nrr,bH.updL (G'.weakN zc) gud zl rl⟩ .nil),Gw.snoc K1 (by lia),by rw[ax,bS];lia⟩,?_⟩;simp only[gu,aM,ax,bS] at lu h0 ⊢
    lia
  ·have h0:¬((us.length:Int)<=st):=λz=>h0 (decide_eq_true z)
   walk_at "w"
   exact fin Ha (aK.refl _) λs hs=>⟨ps,by
    have:s=Rs.length:=by lia
    rw[this];exact RR⟩
theorem pO:a9 ["rows","wide","row","answer"] ["rows","wide","row"] (aL mL):=by walk_at "d"
theorem zh (T:Txt K mg Z) (ptree:P.given.tree=none):cN P w K mg base fX 7 Z.rT Z.rH ["rows","wide","row"] (Kv K):=by
 have Ds:=Ek (P:=P) (w:=w) (base:=base) T ptree;have dZ:=ik (P:=P) (w:=w) (base:=base) T ptree;refine T.lN.F.ok pO (λvs H Q E h=>?_) (λcdv A outer s H vs Q E hr h=>?_)
 ·obtain ⟨p,q,n,w,H0,rows,row,rfl,_⟩:=h;rfl
 ·obtain ⟨p,q,n,w,H0,rows,row,rfl,G,Rr,hl,m90,n90,hw,F,F1,k1⟩:=h
  refine ⟨_,(au (aZ (i:=3) pO.nd rfl (Or.inl rfl) (cG Ds hr T.uu (ae (cG dZ hr T.eU (ae (pv 0) (ae (pv 1) aj))) (ae (bP bu (by rfl) T.len bf (ae (pv 0) aj)) (ae (pv 2) aj)))))
   (aF (a8 (c6 (ae (La (bD eS (a7 bL (pv 3) ak) kE (bJ _)) kE kE) (ae (a7 bL (pv 3) ak) aj)))))),?_⟩
  refine aU (σ:=[some (.ref p),some (.int n),some (.ref q),none]) rfl ?_;exists ⟨p,n,H0,rows,rfl,G,by lia,by lia,hw,λco H1 nc s1 G1=>?_⟩;obtain ⟨xs,gx,qx,_⟩:=G.same s1;have lx:=qx.length;exists ⟨_,_,rfl,.inl (bO.of gx),?_⟩;rw[<- lx];have lT:(b8 rows n).length=n:=cR;exists ⟨co,q,rows.length,w,_,b8 rows n,row,rfl,G1,Rr.same s1,by lia,by lia,by lia,λxs hx=>fQ xs hx,F,F1,λt x R ps H2 RR g2 nx s2 Rx=>?_⟩;walk_at "w";rw[decide_eq_true rfl];exists cA λt2 H3 s3 g3=>?_
  exact k1 t2 x R ps H3 RR g3 (s1.none nx) ((s1.trans s2).trans s3) (Rx.same s3)
theorem O9:a9 ["row","many","wide"] ["row","many","wide"] (aL KJ):=by walk_at "d"
theorem PU (T:Txt K mg Z) (ptree:P.given.tree=none):cN P w K mg base fX 1 Z.OQ Z.OO ["row","many","wide"] (HL K):=by
 refine T.F0.F.ok O9 (λvs H Q E h=>?_) (λcdv A outer s H vs Q E hr h=>?_)
 ·obtain ⟨p,u,kk,w,rfl,_⟩:=h;rfl
 ·obtain ⟨p,u,kk,w,rfl,Rw,lw,uk,u1,k1,k⟩:=h;refine ⟨_,(aF (a8 (b9 ["turn"] ["row","wide"] [0,2] (cy rfl T.range (ae (pv 1) aj)) (λ_=>(aS (i:=0) (show ND9 ["turn","row","wide"] by decide +kernel))) (λ_=>cB) (λ_=>(yZ (KG K (by rfl)) (pv 1) (yf (bC cV (pv 0) (pv 2))) (yf (bC cV (bC eT (pv 0) ak) (pv 2)))))))),?_⟩;refine aU (σ:=[some (.ref p),some (.int u),some (.int kk)]) rfl ?_;obtain ⟨xs,gx,qx⟩:=id Rw;have lx:=qx.length;exists ⟨by lia,by lia,?_⟩;refine fk (n:=u) (dm K H) (λt=>(w.drop (t*kk)).take kk) (by lia) (λa b=>a.same b) ?_ ?_
  ·rintro i Hb NY NN hi sa k2;have b1:i*kk+kk<=u*kk:=by rw[<- c8];exact ay _ hi
   exists fj (Di (by lia) (by lia)) ?_;exists fj (IG (by lia) (by lia)) ?_;walk_at "w";rw[show ((i:Int)*(kk:Int))=((i*kk:Nat):Int) by lia,show (((i:Int)+1)*(kk:Int))=((i*kk:Nat):Int)+(kk:Int) by rw[Int.add_mul,Int.one_mul];lia];refine ⟨p,xs,rfl,bO.of (sa _ _ gx),λr hr=>?_⟩;rw[N2 (by lia)];have sn:=aK.new (o:=.lst ((xs.drop (i*kk)).take kk)) hr;exact k2 _ _ sn ⟨r,rfl,sa.none hr,_,aM,Paired.imp' (λ_ _ z=>(z.same sa).same sn) (qj (rC qx _) _)⟩
  rintro ys Hz t ht sz g pr nx;exact k t Hz ht sz ⟨ys,g,pr,jy nx⟩
theorem tX:a9 ["system","start","goal","steps","used","rows","answer","latest_first"] ["system","start","goal","steps"] (aL FH):=by walk_at "d"
theorem HZ (T:Txt K mg Z) (ptree:P.given.tree=none):cN P w K mg base fX 8 Z.Ml Z.L7 ["system","start","goal","steps"] (DX K Z.a_System):=by
 have AO:=zj (P:=P) (w:=w) (base:=base) T ptree;have tP:=CN (P:=P) (w:=w) (base:=base) T ptree;have qO:=uj (P:=P) (w:=w) (base:=base) T ptree;have AN:=zh (P:=P) (w:=w) (base:=base) T ptree;have wM:=zm (P:=P) (w:=w) (base:=base) T ptree;have RZ:=PU (P:=P) (w:=w) (base:=base) T ptree;have nC:=qo (P:=P) (w:=w) (base:=base) T ptree;refine T.yg.F.ok tX (λvs H Q E h=>?_) (λcdv A outer s H vs Q E hr h=>?_)
 ·obtain ⟨x,s,g,tt,a,c,D0,W0,E0,W1,H0,mv,pt,lk,st,go,rfl,_⟩:=h;rfl
 ·obtain ⟨x,s,g,tt,a,c,D0,W0,E0,W1,H0,mv,pt,lk,st,go,rfl,hT,S,D,SF,F,AF,Rs,ls,Rg,lg,cf,sg,CF,hr9,k1⟩:=h
  refine ⟨_,(au (aZ (i:=4) tX.nd rfl (Or.inl rfl) (bC jW (bP bu (by rfl) T.len bf (ae (cG AO hr T.lO (ae (pv 0) (ae (pv 3) aj))) aj)) ak))
   (au (aZ (i:=5) tX.nd rfl (Or.inl rfl) (cG tP hr T.oI (ae (cG qO hr T.kS (ae (pv 0) (ae (pv 4) aj))) aj)))
   (au (aZ (i:=6) tX.nd rfl (Or.inl rfl) (cG AN hr T.lN (ae (pv 5) (ae (iN (pv 0) rfl) (ae (cG wM hr T.oG (ae (pv 0) (ae (pv 1) (ae (pv 2) (ae (pv 3) aj))))) aj)))))
   (au (di (bD eS (a7 bL (pv 6) ak) kE (bJ _)) (aF (a8 (c6 (ae kE (ae (a7 bL (pv 6) ak) aj))))) cp)
   (au (aZ (i:=7) tX.nd rfl (Or.inl rfl) (cG RZ hr T.F0 (ae (a7 bL (pv 6) ak) (ae (pv 4) (ae (iN (pv 0) rfl) aj)))))
   (aF (a8 (c6 (ae kE (ae (bC jX (cG nC hr T.jA (ae (pv 0) (ae (bC jW (pv 3) (pv 4)) aj))) (FN K rfl T.list rfl T.reversed (ae (pv 7) aj))) aj)))))))))),?_⟩
  refine aU (σ:=[some (.ref x),some (.ref s),some (.ref g),some (.int tt),none,none,none,none]) rfl ?_;have d8:=D.n8;have i4:=D.i4;obtain ⟨dx,a',b',c',gx,_⟩:=id S;exists ⟨x,a,c,tt,H0,mv,pt,lk,rfl,by lia,S,D,F,λr1 Rs1 H1 n1 s1 GL Gw ln hlast=>?_⟩;obtain ⟨us,gus,pus1⟩:=id GL;have lus:=pus1.length;have rne:=Gw.ne;have lpos:0 < Rs1.length:=List.length_pos_iff.mpr rne;exists ⟨_,_,rfl,.inl (bO.of gus),?_⟩;rw[<- lus];obtain ⟨u,eu⟩:∃u,Rs1.length=u+1:=⟨Rs1.length - 1,by lia⟩;rw[eu];have eL:Rs1[u]?=some (Rs1[u]'(by lia)):=af (by lia);obtain ⟨R,eR⟩:∃R,Rs1[u]?=some R:=⟨_,eL⟩;obtain ⟨ps,RRu⟩:=Gw.rr u R eR;have ul:=Gw.len u R eR;have un:u<=mv.length:=by have:=RRu.le;have:=RRu.1;lia
  have uT:u<=tt:=by lia
  obtain ⟨psT,RRT⟩:∃ps,cO (kry mv pt tt) mv.length R ps:=by
   refine hlast R ?_ tt (by lia);rw[List.getLast?_eq_getElem?,eu];exact eR
  walk_at "w";rw[show ((((u+1:Nat):Int)) - 1)=(u:Int) by lia];refine ⟨x,u,H0,mv,pt,lk,rfl,by lia,S.same s1,D,AF.le uT,λr2 us2 H2 n2 s2 g2 p2=>?_⟩;have s02:=s1.trans s2;have kl:=gX (mv:=mv) (pt:=pt) u;have kl2:u*pt.length<=8*4:=aw (by lia) i4;walk_at "w";obtain ⟨zss,pz9,pr9⟩:=zN p2;have pf9:=iE pr9;rw[jI] at pf9;have lf9:=pf9.length;refine ⟨r2,us2,zss,rfl,g2,pz9,by lia,λr3 H3 n3 s3 g3=>?_⟩;obtain ⟨H9,G3⟩:∃H9,bH K H9 H3 r3 (kry mv pt u):=⟨_,_,g3,Paired.imp' (λ_ _ z=>dm.same z s3) pf9,jy ⟨H2,n3,pf9⟩⟩;have s03:=s02.trans s3;exists ⟨x,Z.a_System,dx,_,_,rfl,s03 _ _ gx,T.cl_System,T.na_states,lB,?_⟩;exists ⟨x,s,g,tt,H0,mv,pt,lk,st,go,rfl,by lia,S.same s03,D,SF,Rs.same s03,ls,Rg.same s03,lg,cf,sg,λr4 H4 n4 s4 R4=>?_⟩;have s04:=s03.trans s4;have lL:=qA (T:=tt) ls lg;have wk:=eo (mv:=mv) (pt:=pt) rfl D.pw u;have tk:=CF.tk u un;have up0:∀y,Tp D0 W0 y->Tp (D0*E0) (W0*E0+W1*D0+D0*E0) y:=λy h=>h.up E0 (by lia)
  have up1:∀y,Tp E0 W1 y->Tp (D0*E0) (W0*E0+W1*D0+D0*E0) y:=λy h=>by
   rw[cw D0 E0];exact h.up D0 (by lia)
  obtain ⟨wa,sw1⟩:=CF.join (rows:=b8 (kry mv pt u) mv.length) (due:=dO mv tt st go) (n':=(kry mv pt u).length+1) (by rw[cR];exact lL) (λys hy y hy'=>by
   obtain ⟨j,_,rfl⟩:=aB.mp hy;obtain ⟨zs,hz,rfl⟩:=aB.mp hy';exact up0 _ (gU (tk zs hz) j)) (λy hy=>up1 y (CF.tl y hy)) d8 (by rw[cR];lia)
  have hin:∀R' ps',cO (dk (b8 (kry mv pt u) mv.length) (dO mv tt st go)) ((kry mv pt u).length+1) R' ps'->(kry mv pt u).length∉ps':=λR' ps' RR'=>NM wk lL (λpr lp z=>hr9 pr lp (Jq D.pw RRu RRT lp z)) RR'
  exists ⟨r3,r4,mv.length,wa,H9,kry mv pt u,dO mv tt st go,rfl,G3.same s4,R4,lL,by lia,by lia,wk,sw1,hin,λt5 x5 R5 ps5 H5 RR5 g5 n5 s5 R5'=>?_⟩;have s05:=s04.trans s5;have x50:=s04.none n5;have ew:=IY lL RR5 (hin R5 ps5 RR5);have lw:(iQ R5 ps5 (kry mv pt u).length).length=(kry mv pt u).length:=jP;have hn5:=hin R5 ps5 RR5;obtain ⟨q,q0,q1,q2⟩:=O7 wk lL (by lia) CF.d0 CF.e0 CF.w0 CF.w1 tk CF.tl RR5 hn5;generalize iQ R5 ps5 (kry mv pt u).length=ws at ew lw q2 R5';have lead:=Ad D ls lg uT lw ew;have lw2:ws.length=u*pt.length:=by rw[lw,kl]
  walk_at "w";rw[decide_eq_false (show ¬(Str.ofString "in"=Str.ofString "out") by decide)];exists ⟨x,Z.a_System,dx,_,_,rfl,s05 _ _ gx,T.cl_System,T.na_ins,Ho,?_⟩;exists ⟨x5,u,pt.length,ws,rfl,R5',lw2,by lia,by lia,by lia,λr6 H6 n6 s6 G6=>?_⟩;have s06:=s05.trans s6;walk_at "w";rw[show ((tt:Int) - (u:Int))=((tt - u:Nat):Int) by lia];refine ⟨x,tt - u,H0,mv,pt,lk,rfl,by lia,S.same s06,D,λr7 H7 n7 s7 G7=>?_⟩;obtain ⟨vs,gv,qv,_⟩:=id (G6.same s7);have lv:=qv.length;have lc:(wg ws u pt.length).length=u:=by unfold wg;rw[ai,bw]
  unfold DI;exists ⟨r6,vs,rfl,bO.of gv,by lia,λr8 H8 s8 n8 g8=>?_⟩;have s67:=s7.trans s8;obtain ⟨zs,gz,qz,_⟩:=id (G7.same s8);have lz:=qz.length;rw[bx] at lz;exists lJ gz g8 (bc (bK (by rw[bA];lia))) λr9 H9 s9 n9 g9=>?_
  have s09:=(s06.trans s67).trans s9;have qz0:Paired (dm K H H8) (List.replicate (tt - u) (List.replicate pt.length 0)) zs:=Paired.imp' (λ_ _ ⟨q,a,b,c⟩=>⟨q,a,s06.none b,c⟩) qz;have qv0:Paired (dm K H H8) (wg ws u pt.length).reverse vs.reverse:=zb (Paired.imp' (λ_ _ ⟨q,a,b,c⟩=>⟨q,a,s05.none b,cL.same c s8⟩) qv);have G9:bH K H H9 r9 (vN ws tt u pt.length):=⟨_,g9,Paired.imp' (λ_ _ z=>dm.same z s9) (bT qz0 qv0),jy ⟨H8,n9,bT qz0 qv0⟩⟩;exists cA λt10 H10 s10 g10=>?_
  exact k1 t10 r9 _ q H10 g10 ((s06.trans s67).none n9) (s09.trans s10) (G9.same s10) (HR uT) (K4 lw2) lead q0 q1 (Ny Tp.zero q2)
theorem FC:a9 ["price","weights","lists"] ["price","weights","lists"] (aL vH):=by walk_at "d"
theorem FU (T:Txt K mg Z) (ptree:P.given.tree=none):cN P w K mg base fX 6 Z.BN Z.Bu ["price","weights","lists"] (DO K):=by
 have qN:=uh (P:=P) (w:=w) (base:=base) T ptree;have G_grid_on_R:=ui (P:=P) (w:=w) (base:=base) T ptree;refine T.tH.F.ok FC (λvs H Q E h=>?_) (λcdv A outer s H vs Q E hr h=>?_)
 ·obtain ⟨p,q,l,us,Rs,ws,x,rfl,_⟩:=h;rfl
 ·obtain ⟨p,q,l,us,Rs,ws,x,rfl,Rp,Rq,gl,pl,l1,l2,l3,rx,hw,hR,k⟩:=h;refine ⟨_,(aF (a8 (b9 ["rows"] ["weights","price"] [1,0] (PL rfl T.reversed (ae (pv 2) aj)) (λ_=>(aS (i:=0) (show ND9 ["rows","weights","price"] by decide +kernel))) (λ_=>cB) (λ_=>(cG qN hr T.kR (ae (pv 1) (ae (cG G_grid_on_R hr T.jZ (ae (pv 0) (ae (pv 2) aj))) aj))))))),?_⟩;refine aU (σ:=[some (.ref p),some (.ref q),some (.ref l)]) rfl ?_;have lu:=pl.length;walk_at "w";unfold RJ;exists ⟨l,us,rfl,bO.of gl,?_⟩;refine Me (K:=K) (a:=l) (xs:=us) (λi zs H'=>aK H H'/\Paired (dm K H H') ((Rs.reverse.map λrows=>rB ws (rows.map λr=>cm r x)).take i) zs) (bc (bK (by lia))) ⟨aK.refl _,.nil⟩ (λi zs H' _ ⟨s,_⟩=>bO.of (s _ _ gl)) ?_ ?_
  ·rintro i v zs H' hi hv hlen ⟨s,hP⟩;obtain ⟨R,eR,u,rfl,_,Gu⟩:=bX pl hv;obtain ⟨h1,h2⟩:=hR R (av eR);exists ⟨u,p,_,R,x,rfl,Gu.same s,Rp.same s,by lia,by lia,λxs hx=>⟨(h2 xs hx).1,(h2 xs hx).2.1,rx⟩,λr1 H1 n1 s1 R1=>?_⟩;have s01:=s.trans s1;exists ⟨q,r1,ws,_,rfl,Rq.same s01,R1,by rw[ai];exact h1.symm,by rw[ai];lia,hw,λy hy=>?_,λr2 H2 n2 s2 R2=>?_⟩
   ·obtain ⟨xs,hx,rfl⟩:=aB.mp hy;exact (h2 xs hx).2.2
   refine ⟨s01.trans s2,?_⟩
   have ez:(Rs.reverse.map λrows=>rB ws (rows.map λr=>cm r x))[i]?=some (rB ws (R.map λr=>cm r x)):=by
    rw[aH,List.getElem?_reverse (by lia),show Rs.length - 1 - i=us.length - 1 - i by lia,eR];rfl
   rw[take_snoc ez];exact bT (Paired.imp' (λ_ _ z=>dm.same z (s1.trans s2)) hP) (.cons ⟨r2,rfl,s01.none n2,R2⟩ .nil)
  ·rintro zs H' hy ⟨s,hP⟩ r hr;rw[aE (by rw[ai,bA];lia)] at hP;exact k r _ (s.none hr) (s.trans (aK.new hr)) ⟨zs,aM,Paired.imp' (λ_ _ z=>dm.same z (aK.new hr)) hP,jy ⟨_,hr,hP⟩⟩
theorem pP:a9 ["system","weights","start","goal","steps","lists","due","answer","price"] ["system","weights","start","goal","steps"] (aL CC):=by walk_at "d"
theorem Lh (T:Txt K mg Z) (ptree:P.given.tree=none):cN P w K mg base fX 9 Z.IP Z.IF ["system","weights","start","goal","steps"] (A9 K Z.a_System):=by
 have qO:=uj (P:=P) (w:=w) (base:=base) T ptree;have wM:=zm (P:=P) (w:=w) (base:=base) T ptree;have Ds:=Ek (P:=P) (w:=w) (base:=base) T ptree;have Mn:=Jx (P:=P) (w:=w) (base:=base) T ptree;have GI:=HZ (P:=P) (w:=w) (base:=base) T ptree;have G_row_dot_R:=oB (P:=P) (w:=w) (base:=base) T ptree;have JY:=FU (P:=P) (w:=w) (base:=base) T ptree;refine T.zG.F.ok pP (λvs H Q E h=>?_) (λcdv A outer s H vs Q E hr h=>?_)
 ·obtain ⟨x,q,s,g,tt,N,X,H0,mv,pt,lk,ws,st,go,rfl,_⟩:=h;rfl
 ·obtain ⟨x,q,s,g,tt,N,X,H0,mv,pt,lk,ws,st,go,rfl,S,D,SF,Rq,Rs,ls,Rg,lg,cf,sg,F,k⟩:=h
  refine ⟨_,(au (aZ (i:=5) pP.nd rfl (Or.inl rfl) (cG qO hr T.kS (ae (pv 0) (ae (pv 4) aj))))
   (au (aZ (i:=6) pP.nd rfl (Or.inl rfl) (cG wM hr T.oG (ae (pv 0) (ae (pv 2) (ae (pv 3) (ae (pv 4) aj))))))
   (au (aZ (i:=7) pP.nd rfl (Or.inl rfl) (cG Ds hr T.uu (ae (cG Mn hr T.vS (ae (pv 1) (ae (pv 5) (ae (iN (pv 0) rfl) aj)))) (ae (iN (pv 0) rfl) (ae (pv 6) aj)))))
   (au (di (bD eS (a7 bL (pv 7) ak) kE (bJ _)) (aF (a8 (cG GI hr T.yg (ae (pv 0) (ae (pv 2) (ae (pv 3) (ae (pv 4) aj))))))) cp)
   (au (aZ (i:=8) pP.nd rfl (Or.inl rfl) (a7 bL (pv 7) ak))
   (aF (a8 (c6 (ae kE (ae (cG G_row_dot_R hr T.il (ae (pv 8) (ae (pv 6) aj))) (ae (cG JY hr T.tH (ae (pv 8) (ae (pv 1) (ae (pv 5) aj)))) (ae (pv 8) aj)))))))))))),?_⟩
  refine aU (σ:=[some (.ref x),some (.ref q),some (.ref s),some (.ref g),some (.int tt),none,none,none,none]) rfl ?_;have d8:=D.n8;have i4:=D.i4;have t40:=F.t40;obtain ⟨dx,a',b',c',gx,_⟩:=id S;have kl:=gX (mv:=mv) (pt:=pt) tt;have kl2:tt*pt.length<=20*4:=aw t40 i4;have wk:=eo (mv:=mv) (pt:=pt) rfl D.pw tt;have lL:=qA (T:=tt) ls lg;have la:(AL mv pt tt).length=tt:=by unfold AL;rw[ai,bw]
  have lwt:(jO ws tt).length=(kry mv pt tt).length:=by rw[iW,kl,F.lw]
  exists ⟨x,tt,H0,mv,pt,lk,rfl,by lia,S,D,F.ad,λr1 us H1 n1 s1 g1 p1=>?_⟩;exists ⟨x,s,g,tt,H0,mv,pt,lk,st,go,rfl,by lia,S.same s1,D,SF,Rs.same s1,ls,Rg.same s1,lg,cf,sg,λr2 H2 n2 s2 R2=>?_⟩;have s02:=s1.trans s2;have p2:=Paired.imp' (λ_ _ z=>Fn.same z s2) p1;exists ⟨x,Z.a_System,dx,_,_,rfl,s02 _ _ gx,T.cl_System,T.na_states,lB,?_⟩;exists ⟨q,r1,mv.length,us,_,ws,rfl,Rq.same s02,s2 _ _ g1,p2,by lia,by lia,by rw[jI];lia,by rw[jI,la];exact lwt,λxs h=>?_,F.wp,by rw[jI,la];exact F.rc,λr3 H9 H3 n3 s3 G3=>?_⟩
  ·rw[jI] at h;exact ⟨wk xs h,(F.rk xs h).2⟩
  rw[jI,la] at G3;have s03:=s02.trans s3;obtain ⟨w,sw⟩:=F.sw;exists ⟨x,Z.a_System,dx,_,_,rfl,s03 _ _ gx,T.cl_System,T.na_states,lB,?_⟩;exists ⟨r3,r2,mv.length,w,_,_,_,rfl,G3,R2.same s3,by rw[qW,lL],by rw[qW];lia,by lia,uv,sw,λR ps RR=>(F.ok R ps RR).1,λt4 x4 R ps H4 RR g4 n4 s4 R4=>?_⟩;obtain ⟨hn,tp⟩:=F.ok R ps RR;have sl:=O8 wk lwt lL RR hn;have lx:(iQ R ps mv.length).length=mv.length:=jP;generalize iQ R ps mv.length=pr at R4 tp sl lx;have s04:=s03.trans s4;have s24:=s3.trans s4;have rx:DA pr:=sY F.n0 (ag F.nb (ar (by decide) (by decide))) (ag F.xb (ar (by decide) (by decide))) tp;walk_at "w";rw[decide_eq_false (show ¬(Str.ofString "yes"=Str.ofString "no") by decide)];exists ⟨x4,r2,pr,_,rfl,R4,R2.same s24,by rw[lL,lx],by lia,⟨rx,F.rd⟩,λe5 H5 s5 N5=>?_⟩;have s05:=s04.trans s5;have s25:=s24.trans s5;exists ⟨x4,q,r1,us,_,ws,pr,rfl,R4.same s5,Rq.same s05,(s2.trans s25) _ _ g1,Paired.imp' (λ_ _ z=>Fn.same z s25) p2,by lia,by rw[F.lw];lia,by lia,rx,F.wp,λR' hR=>?_,λp6 H6 n6 s6 G6=>?_⟩
  ·have:∀xs∈R',xs∈kry mv pt tt:=λxs hx=>by rw[<- jI];exact dQ.mpr ⟨R',hR,hx⟩
   refine ⟨?_,λxs hx=>⟨by rw[wk xs (this xs hx),lx],(F.rk xs (this xs hx)).1,F.pz xs (this xs hx) pr lx tp⟩⟩;unfold AL at hR;obtain ⟨t,_,rfl⟩:=aB.mp hR;rw[ai,F.lw]
  have s06:=s05.trans s6;exists cA λt7 H7 s7 g7=>?_
  exact k t7 e5 p6 x4 pr H7 g7 (s05.none n6) (s03.none n4) (s06.trans s7) ((N5.same s6).same s7) ((G6.weak s05).same s7) ((R4.same (s5.trans s6)).same s7) sl tp
theorem ie:a9 ["_law_weights_here","_law_puts_here","_law_total","_law_row_here","_law_k"] ["_law_weights_here","_law_puts_here"] (aL mS):=by walk_at "d"
theorem zy (T:Txt K mg Z) (ptree:P.given.tree=none):cN P w K mg base fX 3 Z.so Z.rQ ["_law_weights_here","_law_puts_here"] (Fy K):=by
 have fI:=ki (P:=P) (w:=w) (base:=base) T ptree;have fA:=kQ (P:=P) (w:=w) (base:=base) T ptree;refine T.lU.F.ok ie (λvs H Q E h=>?_) (λcdv A outer s H vs Q E hr h=>?_)
 ·obtain ⟨p,q,ws,rows,H0,rfl,_⟩:=h;rfl
 ·obtain ⟨p,q,ws,rows,H0,rfl,hp,hq,hl,hf,k⟩:=h
  refine ⟨_,(au (aZ (i:=2) ie.nd rfl (Or.inl rfl) (c6 (ae ak (ae ak aj))))
   (au (eH PassesOwn.never rfl (cP (pv 1)) (aS (i:=3) ie.nd)
    (aF (eH PassesOwn.never rfl (cy rfl T.range (ae (bP bu (by rfl) T.len bf (ae (pv 3) aj)) aj)) (aS (i:=4) ie.nd)
    (aF (aZ (i:=2) ie.nd rfl (Or.inl rfl) (cG fI hr T.gi (ae (pv 2) (ae (cG fA hr T.fv (ae (a7 bQ (pv 0) (pv 4)) (ae (cG fA hr T.fv (ae (a7 bQ (pv 3) (pv 4)) (ae (a7 bQ (pv 3) (pv 4)) aj))) aj))) aj))))))))
   (aF (a8 (pv 2))))),?_⟩
  refine aU (σ:=[some (.ref p),some (.ref q),none,none,none]) rfl ?_;obtain ⟨_,_,_,_,_,_,_,_,_,_,_,_,h8,l20⟩:=id hf;obtain ⟨xs,gx,qx,_⟩:=id hq;obtain ⟨us,gu,qu⟩:=id hp;have lx:=qx.length;exists cA λr0 H1 s1 g1=>?_
  exists ⟨⟨_,bO.of (s1 _ _ gx)⟩,?_⟩;refine iV (K:=K) (a:=q) (xs:=xs) (λi σ' H'=>aK H H'/\∃(r:V) (x y:Option V),σ'=[some (.ref p),some (.ref q),some r,x,y]/\bV K H' (xa ws (rows.take i)) r) ⟨s1,_,none,none,rfl,bV.mk g1 rfl⟩ (λi σ' H' _ ⟨s,_⟩=>bO.of (s _ _ gx)) ?_ ?_
  ·rintro i x σ' H' hx ⟨s,r,x1,y1,rfl,nr⟩;obtain ⟨qs,eq,t,rfl,_,Rt⟩:=bX qx hx;have hm:=av eq;obtain ⟨zs,gz,qz⟩:=id Rt;have lz:=qz.length;have lq:=hl qs hm;exists ⟨_,_,rfl,.inl (bO.of (s _ _ gz)),?_⟩;exists ⟨by lia,by lia,?_⟩;refine eX (n:=zs.length) (λj σ' H'=>aK H H'/\∃(r:V) (y:Option V),σ'=[some (.ref p),some (.ref q),some r,some (.ref t),y]/\bV K H' (xa ws (rows.take i)+cm (ws.take j) ((iM qs).take j)) r) ⟨s,_,_,rfl,by rw[show cm (ws.take 0) ((iM qs).take 0)=0 by simp [cm],kd];exact nr⟩ ?_ ?_
   ·rintro j σ' H2 hj ⟨s2,r2,y2,rfl,n2⟩;have jw:j < ws.length:=by lia
    have jq:j < qs.length:=by lia
    obtain ⟨vw,ew,nw⟩:=Ik (Paired.imp' (λ_ _ z=>z.same s2) qu) jw;obtain ⟨vx,ex,nx⟩:=Ik (Paired.imp' (λ_ _ z=>z.same s2) qz) jq;obtain ⟨z1,z2,z3,z4⟩:=hf.num hm (getD_mem jq) (getD_mem jw);exists cx (bO.of (s2 _ _ gu)) ew ?_;exists cx (bO.of (s2 _ _ gz)) ex ?_;exists cx (bO.of (s2 _ _ gz)) ex ?_;exists ⟨_,_,_,_,rfl,nx,nx,z1,z1,λr3 H3 s3 n3=>?_⟩;exists ⟨_,_,_,_,rfl,nw.same s3,n3,z2,z3,λr4 H4 s4 n4=>?_⟩;exists ⟨_,_,_,_,rfl,(n2.same s3).same s4,n4,hf.take i j qs hm,z4,λr5 H5 s5 n5=>?_⟩;exists ⟨((s2.trans s3).trans s4).trans s5,_,_,rfl,?_⟩;rw[v8 (by lia) (by unfold iM;rw[ai];lia),<- Rat.add_assoc]
    have e:(iM qs).getD j 0=qs.getD j 0*qs.getD j 0:=by
     unfold iM;rw[getD_map jq,aa,af jq];rfl
    rw[e];exact n5
   ·rintro σ' H2 ⟨s2,r2,y2,rfl,n2⟩;rw[aE (show ws.length<=zs.length by lia),aE (show (iM qs).length<=zs.length by unfold iM;rw[ai];lia)] at n2;exact ⟨s2,_,_,_,rfl,by rw[take_snoc eq,NU];exact n2⟩
  ·rintro σ' H' ⟨s,r,x1,y1,rfl,nr⟩;rw[aE (by lia)] at nr;obtain ⟨t,rfl,ht⟩:=nr;exists k _ H' s ⟨t,rfl,ht⟩
theorem Cy:a9 ["_law_one","_law_other"] ["_law_one","_law_other"] (aL qh):=by walk_at "d"
theorem CV (T:Txt K mg Z) (ptree:P.given.tree=none):cN P w K mg base fX 2 Z.xQ Z.xx ["_law_one","_law_other"] (nZ K (λx y=>x - y)):=by
 have fJ:=kj (P:=P) (w:=w) (base:=base) T ptree;refine T.oO.F.ok Cy (λvs H Q E h=>?_) (λcdv A outer s H vs Q E hr h=>?_)
 ·obtain ⟨p,q,a,b,c,d,rfl,hp,hq,hb,hd,sa,sb,sc,sd,k⟩:=yd h;rfl
 ·obtain ⟨p,q,a,b,c,d,rfl,hp,hq,hb,hd,sa,sb,sc,sd,k⟩:=yd h;refine ⟨_,(aF (a8 (cG fJ hr T.gA (ae (bC jW (bC cV (a7 bL (pv 0) ak) (a7 bL (pv 1) ak)) (bC cV (a7 bL (pv 1) ak) (a7 bL (pv 0) ak))) (ae (bC cV (a7 bL (pv 0) ak) (a7 bL (pv 1) ak)) aj))))),?_⟩;refine aU (σ:=[some (.ref p),some (.ref q)]) rfl ?_;have hbd:0 < b*d:=hJ hb hd;have sbd:Sz 449950 (b*d):=(sb.mul sd).mono (by decide);exists fj (show fK _ _ from .inr ⟨_,_,sa,sd,by decide⟩) ?_;exists fj (show fK _ _ from .inr ⟨_,_,sc,sb,by decide⟩) ?_;exists fj (show fK _ _ from .inr ⟨_,_,sb,sd,by decide⟩) ?_;walk_at "w";exists ⟨_,_,rfl,hbd,sbd,k⟩
theorem AA:a9 ["_law_one","_law_other"] ["_law_one","_law_other"] (aL ou):=by walk_at "d"
theorem rG (T:Txt K mg Z) (ptree:P.given.tree=none):cN P w K mg base fX 3 Z.vd Z.uO ["_law_one","_law_other"] (vB K):=by
 have Fj:=CV (P:=P) (w:=w) (base:=base) T ptree;refine T.j9.F.ok AA (λvs H Q E h=>?_) (λcdv A outer s H vs Q E hr h=>?_)
 ·obtain ⟨p,q,xs,ys,rfl,_⟩:=h;rfl
 ·obtain ⟨p,q,xs,ys,rfl,hp,hq,hl,hz,h1,h2,kk⟩:=h;refine ⟨_,(aF (a8 (b9 ["_law_k"] ["_law_one","_law_other"] [0,1] (cy rfl T.range (ae (bP bu (by rfl) T.len bf (ae (pv 0) aj)) aj)) (λ_=>(aS (i:=0) (show ND9 ["_law_k","_law_one","_law_other"] by decide +kernel))) (λ_=>cB) (λ_=>(cG Fj hr T.oO (ae (a7 (gM K (by rfl)) (pv 1) (pv 0)) (ae (a7 (gM K (by rfl)) (pv 2) (pv 0)) aj))))))),?_⟩;refine aU (σ:=[some (.ref p),some (.ref q)]) rfl ?_;obtain ⟨us,gu,qu⟩:=id hp;obtain ⟨ws,gw,qw⟩:=id hq;have lu:=qu.length;exists ⟨_,_,rfl,.inl (bO.of gu),?_⟩;exists ⟨by lia,by lia,?_⟩;refine fk (n:=us.length) (bV K) (λi=>xs.getD i 0 - ys.getD i 0) (by lia) (λa b=>a.same b) ?_ ?_
  ·rintro i H' NY NN hi s k1;have ix:i < xs.length:=by lia
   have iy:i < ys.length:=by lia
   obtain ⟨vx,ex,nx⟩:=Ik (Paired.imp' (λ_ _ z=>z.same s) qu) ix;obtain ⟨vy,ey,ny⟩:=Ik (Paired.imp' (λ_ _ z=>z.same s) qw) iy;exists cx (bO.of (s _ _ gu)) ex ?_;exists cx (bO.of (s _ _ gw)) ey ?_;exists ⟨_,_,_,_,rfl,nx,ny,h1 _ (getD_mem ix),h2 _ (getD_mem iy),λr3 H3 s3 n3=>k1 _ _ s3 n3⟩
  ·rintro ys' H' l hl' s g pr nx;exact kk l H' hl' s ⟨ys',g,by rw[Fq (by lia)];rw[<- lu] at pr;exact pr⟩
theorem yL:a9 ["_law_one","_law_other"] ["_law_one","_law_other"] (aL mT):=by walk_at "d"
theorem zA (T:Txt K mg Z) (ptree:P.given.tree=none):cN P w K mg base fX 4 Z.sv Z.rR ["_law_one","_law_other"] (Kx K):=by
 have oX:=rG (P:=P) (w:=w) (base:=base) T ptree;refine T.lV.F.ok yL (λvs H Q E h=>?_) (λcdv A outer s H vs Q E hr h=>?_)
 ·obtain ⟨p,q,a,b,m,H0,H1,rfl,_⟩:=h;rfl
 ·obtain ⟨p,q,a,b,m,H0,H1,rfl,hp,hq,hl,l1,m1,ha,hb,k⟩:=h;refine ⟨_,(aF (a8 (b9 ["_law_t"] ["_law_one","_law_other"] [0,1] (cy rfl T.range (ae (bP bu (by rfl) T.len bf (ae (pv 0) aj)) aj)) (λ_=>(aS (i:=0) (show ND9 ["_law_t","_law_one","_law_other"] by decide +kernel))) (λ_=>cB) (λ_=>(cG oX hr T.j9 (ae (a7 (gM K (by rfl)) (pv 1) (pv 0)) (ae (a7 (gM K (by rfl)) (pv 2) (pv 0)) aj))))))),?_⟩;refine aU (σ:=[some (.ref p),some (.ref q)]) rfl ?_;obtain ⟨xs,gx,qx,_⟩:=id hp;obtain ⟨ys,gy,qy,_⟩:=id hq;have lx:=qx.length;have ly:=qy.length;exists ⟨_,_,rfl,.inl (bO.of gx),?_⟩;rw[<- lx];exists ⟨by lia,by lia,?_⟩;refine fk (n:=a.length) (dm K H) (λi=>List.zipWith (λu v=>u - v) (a.getD i []) (b.getD i [])) (by lia) (λa b=>a.same b) ?_ ?_
  ·rintro i Hb NY NN hi sa k1;obtain ⟨v,ev⟩:∃v,xs[i]?=some v:=⟨_,af (by lia)⟩;obtain ⟨w,ew⟩:∃w,ys[i]?=some w:=⟨_,af (by lia)⟩;obtain ⟨r1,e1,u1,rfl,_,R1⟩:=bX qx ev;obtain ⟨r2,e2,u2,rfl,_,R2⟩:=bX qy ew;obtain ⟨w1,z1⟩:=ha r1 (av e1);obtain ⟨w2,z2⟩:=hb r2 (av e2);exists cx (bO.of (sa _ _ gx)) (eJ ev) ?_;exists cx (bO.of (sa _ _ gy)) (eJ ew) ?_;exists ⟨u1,u2,r1,r2,rfl,R1.same sa,R2.same sa,by lia,by lia,z1,z2,λr3 H3 n3 s3 R3=>k1 _ _ s3 ⟨r3,rfl,sa.none n3,?_⟩⟩;rw[aa,e1,aa,e2];exact R3
  rintro zs Hz t ht sz g pr nx;have e:(List.range a.length).map (λi=>List.zipWith (λu v=>u - v) (a.getD i []) (b.getD i []))=qZ a b:=L4 hl;rw[e] at pr nx;exact k t Hz ht sz ⟨zs,g,pr,jy nx⟩
theorem FA:a9 ["value"] ["value"] (aL vE):=by walk_at "d"
theorem FR (T:Txt K mg Z) (ptree:P.given.tree=none):cN P w K mg base fX 1 Z.BL Z.Bs ["value"] (Kw K):=by
 refine T.tE.F.ok FA (λvs H Q E h=>?_) (λcdv A outer s H vs Q E hr h=>?_)
 ·obtain ⟨u,x,rfl,_⟩:=h;rfl
 ·obtain ⟨u,x,rfl,⟨p,rfl,hp⟩,⟨s1,s2⟩,k⟩:=h;refine ⟨_,(aF (a8 (c6 (ae (bC cV (a7 bL (pv 0) ak) (a7 bL (pv 0) ak)) (ae (bC cV (a7 bL (pv 0) ak) (a7 bL (pv 0) ak)) aj))))),?_⟩;refine aU (σ:=[some (.ref p)]) rfl ?_;exists fj (show fK _ _ from .inr ⟨_,_,s1,s1,by decide⟩) ?_;exists fj (show fK _ _ from .inr ⟨_,_,s2,s2,by decide⟩) ?_;exists cA λr H' s g=>?_
  exact k r H' s (bV.mk g (RB x))
theorem Jl:a9 ["weights","puts"] ["weights","puts"] (aL yS):=by walk_at "d"
theorem Jz (T:Txt K mg Z) (ptree:P.given.tree=none):cN P w K mg base fX 5 Z.E3 Z.EJ ["weights","puts"] (Fy K):=by
 have G_row_dot_R:=oB (P:=P) (w:=w) (base:=base) T ptree;have tP:=CN (P:=P) (w:=w) (base:=base) T ptree;have JW:=FR (P:=P) (w:=w) (base:=base) T ptree;refine T.vU.F.ok Jl (λvs H Q E h=>?_) (λcdv A outer s H vs Q E hr h=>?_)
 ·obtain ⟨p,q,ws,rows,H0,rfl,_⟩:=h;rfl
 ·obtain ⟨p,q,ws,rows,H0,rfl,hp,hq,hl,hf,k⟩:=h;refine ⟨_,(aF (a8 (cG G_row_dot_R hr T.il (ae (cG tP hr T.oI (ae (b9 ["row"] ["weights"] [0] (cP (pv 1)) (λ_=>(aS (i:=0) (show ND9 ["row","weights"] by decide +kernel))) (λ_=>cB) (λ_=>(pv 1))) aj)) (ae (b9 ["value"] [] [] (cP (cG tP hr T.oI (ae (pv 1) aj))) (λ_=>(aS (i:=0) (show ND9 ["value"] by decide +kernel))) (λ_=>cB) (λ_=>(cG JW hr T.tE (ae (pv 0) aj)))) aj))))),?_⟩;refine aU (σ:=[some (.ref p),some (.ref q)]) rfl ?_;obtain ⟨xs,gx,qx,_⟩:=id hq;have lx:=qx.length;obtain ⟨rw1,rw2⟩:=hf.rw;obtain ⟨_,_,_,_,_,_,_,_,_,_,_,_,h8,l20⟩:=id hf;obtain ⟨wz,gw,qw⟩:=id hp;have fb:rows.length*ws.length<=20*8:=aw l20 h8;have fl:rows.flatten.length=rows.length*ws.length:=qC hl;exists ⟨⟨_,bO.of gx⟩,?_⟩;refine dN (K:=K) (F:=λ_ (_:List Rat) _=>True) (λ_ (_:List Rat) v=>v=V.ref p) id (as:=rows) gx (Paired.imp' (λ_ _ _=>trivial) qx) (by lia) (λa b=>a) (λa b=>a) ?_ ?_
  ·rintro i c x H' NY NN ec s' _ k1;exists k1 _ _ (aK.refl _) rfl
  rintro ys H1 l nl s1 g1 pr1 _;rw[pA] at pr1;have py:Paired (λzs u=>∃q,u=V.ref q/\H1 q=some (.lst zs)) (List.replicate rows.length wz) ys:=sZ (λ_ y e=>⟨p,e,s1 _ _ gw⟩) pr1;have pw:=iE (CD (G:=λR zs=>Paired (bV K H) R zs) qw rows.length);have lw:=pw.length;have fw:(List.replicate rows.length ws).flatten.length=rows.length*ws.length:=iW ws rows.length;exists ⟨l,ys,_,rfl,g1,py,by lia,λf1 H2 n2 s2 g2=>?_⟩;have s02:=s1.trans s2;have R2:cL K H2 f1 (jO ws rows.length):=⟨_,g2,Paired.imp' (λ_ _ z=>z.same s02) pw⟩;obtain ⟨zss,pz,pr⟩:=Ea (Paired.imp' (λ_ _ z=>dm.same z s02) qx);have pf:=iE pr;have lf:=pf.length;exists ⟨q,xs,zss,rfl,s02 _ _ gx,pz,by lia,λf2 H3 n3 s3 g3=>?_⟩;have R3:Paired (bV K H3) rows.flatten zss.flatten:=Paired.imp' (λ_ _ z=>z.same s3) pf;exists ⟨⟨_,bO.of g3⟩,?_⟩;refine dN (K:=K) (F:=bV K) (bV K) (λx=>x*x) g3 R3 (by lia) (λa b=>a.same b) (λa b=>a.same b) ?_ ?_
  ·rintro i x v H' NY NN en s hv k1;obtain ⟨ls,hls,hx⟩:=dQ.mp (av en)
   have sz:iZ x:=by
    cases ws with
    | nil=>exact absurd (hl ls hls) (by cases ls with | nil=>cases hx | cons _ _=>simp)
    | cons w ws=>exact (hf.num hls hx (.head _)).1
   exists ⟨_,x,rfl,hv,sz,λr H5 s5 h5=>k1 _ _ s5 h5⟩
  rintro zs H4 f3 n4 s4 g4 pr4 _;exists ⟨f1,f3,_,iM rows.flatten,rfl,(R2.same s3).same s4,⟨zs,g4,pr4⟩,by unfold iM;rw[ai,fl,iW],by rw[iW];lia,⟨rw1,rw2⟩,λr H5 s5 h5=>?_⟩;rw[C5 hl] at h5;exact k r H5 (((s02.trans s3).trans s4).trans s5) h5
theorem tY:a9 ["_law_weights_here","_law_told","_law_other","_law_rest"] ["_law_weights_here","_law_told","_law_other"] (aL p9):=by walk_at "d"
theorem CS (T:Txt K mg Z) (ptree:P.given.tree=none):cN P w K mg base fX 6 Z.xN Z.xt ["_law_weights_here","_law_told","_law_other"] (Hw K):=by
 have AS:=zy (P:=P) (w:=w) (base:=base) T ptree;have AU:=zA (P:=P) (w:=w) (base:=base) T ptree;have Mp:=Jz (P:=P) (w:=w) (base:=base) T ptree;have fI:=ki (P:=P) (w:=w) (base:=base) T ptree;refine T.iF.F.ok tY (λvs H Q E h=>?_) (λcdv A outer s H vs Q E hr h=>?_)
 ·obtain ⟨w,t,o,e,p,y,ws,a,b,ef,H0,H1,rfl,_⟩:=h;rfl
 ·obtain ⟨w,t,o,e,p,y,ws,a,b,ef,H0,H1,rfl,Rw,gt,Ne,se,Gp,Go,hl,l20,w8,ha,hb,hp,E1,E2,eq,k⟩:=h
  refine ⟨_,(au (aZ (i:=3) tY.nd rfl (Or.inl rfl) (cG AS hr T.lU (ae (pv 0) (ae (cG AU hr T.lV (ae (pv 2) (ae (a7 bL (pv 1) ak) aj))) aj))))
   (au (di (bD (FO (JO hr)) (cG Mp hr T.vU (ae (pv 0) (ae (pv 2) aj))) (cG fI hr T.gi (ae (a7 bL (pv 1) ak) (ae (pv 3) aj))) (bJ _)) (aF (a8 y9)) cp)
   (aF (a8 (j6 (FP (JO hr)) (j6 (FP (JO hr)) (pv 3) (c6 (ae ak (ae ak aj))) (bJ _)) (j6 (FP (JO hr)) (pv 2) (a7 bL (pv 1) ak) (bJ _)) (bJ _)))))),?_⟩
  refine aU (σ:=[some (.ref w),some (.ref t),some (.ref o),none]) rfl ?_;have wd:∀xs∈qZ a b,xs.length=ws.length:=Qo (λxs hx=>(ha xs hx).1) (λxs hx=>(hb xs hx).1);exists ⟨o,p,a,b,ws.length,_,_,rfl,Go,Gp,hl,by lia,by lia,ha,hb,λd H2 n2 s2 G2=>?_⟩;exists ⟨w,d,ws,_,_,rfl,Rw.same s2,G2,wd,E2,λr3 H3 s3 N3=>?_⟩;have s03:=s2.trans s3;have gt3:=s03 _ _ gt;exists ⟨w,o,ws,a,_,rfl,Rw.same s03,Go.same s03,λxs hx=>(ha xs hx).1,E1,λr4 H4 s4 N4=>?_⟩;have gt4:=s4 _ _ gt3;exists ⟨_,_,_,_,rfl,Ne.same (s03.trans s4),N3.same s4,se,E2.szn,λr5 H5 s5 N5=>?_⟩;exists ⟨_,_,Lx,_,_,by decide,N4.same s5,N5,?_⟩;rw[decide_eq_true eq];have s05:=(s03.trans s4).trans s5;exists cA λt6 H6 s6 g6=>?_
  have s06:=s05.trans s6;have gt6:=s06 _ _ gt;exists ⟨_,_,Lx,_,0,by decide,((N3.same s4).same s5).same s6,bV.mk (q:=0) g6 rfl,?_⟩;exists ⟨_,_,Ly,a,b,by decide,(Go.same s06).kind,(Gp.same s06).kind,?_⟩;exists ⟨_,_,kBl,_,_,by decide,rfl,rfl,?_⟩;have key:decide (xa ws (qZ a b)=0)=decide (a=b):=decide_eq_decide.mpr (NT (T:=a.length) rfl hl.symm (λxs hx=>(ha xs hx).1) (λxs hx=>(hb xs hx).1) hp);rw[decide_eq_true key];exact k _ s06
theorem js:a9 ["_law_script","_law_bag_here","_law_parts_here","_law_wide","_law_system_here","_law_weights_here","_law_steps_here","_law_start","_law_drawn","_law_goal","_law_told","_law_kind","_law_other","_law_twice"] ["_law_script"] (aL KI):=by walk_at "d"
theorem PR (T:Txt K mg Z) (ptree:P.given.tree=none):cN P w K mg base fX 10 Z.OP Z.ON ["_law_script"] (yC K):=by
 have GN:=Eo (P:=P) (w:=w) (base:=base) T ptree;have AQ:=zv (P:=P) (w:=w) (base:=base) T ptree;have Fi:=CU (P:=P) (w:=w) (base:=base) T ptree;have Ar:=xW (P:=P) (w:=w) (base:=base) T ptree;have Dw:=AG (P:=P) (w:=w) (base:=base) T ptree;have iB:=mh (P:=P) (w:=w) (base:=base) T ptree;have Ff:=CO (P:=P) (w:=w) (base:=base) T ptree;have tQ:=Em (P:=P) (w:=w) (base:=base) T ptree;have Oh:=Lh (P:=P) (w:=w) (base:=base) T ptree;have mD:=CS (P:=P) (w:=w) (base:=base) T ptree;have GI:=HZ (P:=P) (w:=w) (base:=base) T ptree;have kv:=oC (P:=P) (w:=w) (base:=base) T ptree;have oX:=rG (P:=P) (w:=w) (base:=base) T ptree;refine T.OS.ok js (λvs H Q E h=>?_) (λcdv A outer s H vs Q E hr h=>?_)
 ·obtain ⟨a,ns,rfl,_⟩:=h;rfl
 ·obtain ⟨a,ns,rfl,hS,hlen,k⟩:=h
  refine ⟨_,(au (aZ (i:=1) js.nd rfl (Or.inl rfl) (cG GN hr T.qr (ae (pv 0) aj)))
   (au (fF (cG AQ hr T.lQ (ae (pv 1) aj)) (td rfl (cE (aS (i:=2) js.nd) (cE (aS (i:=3) js.nd) gW))))
   (au (aZ (i:=4) js.nd rfl (Or.inl rfl) (cG Fi hr T.oN (ae (pv 2) aj)))
   (au (aZ (i:=5) js.nd rfl (Or.inl rfl) (cG Ar hr T.kF (ae (pv 1) (ae (bP bu (by rfl) T.len bf (ae (a7 bL (pv 2) ak) aj)) (ae ak aj)))))
   (au (aZ (i:=6) js.nd rfl (Or.inl rfl) (cG Dw hr T.ni (ae (pv 1) (ae (pv 2) aj))))
   (au (aZ (i:=7) js.nd rfl (Or.inl rfl) (cG iB hr T.iq (ae (pv 1) (ae (bP bu (by rfl) T.len bf (ae (a7 bL (pv 2) ak) aj)) (ae (pv 3) aj)))))
   (au (aZ (i:=8) js.nd rfl (Or.inr rfl) (cG Ff hr T.oJ (ae (pv 1) (ae (pv 2) (ae (pv 6) (ae (pv 3) aj))))))
   (au (aZ (i:=9) js.nd rfl (Or.inl rfl) (cG tQ hr T.kr (ae (pv 2) (ae (pv 7) (ae (pv 8) aj)))))
   (au (aZ (i:=10) js.nd rfl (Or.inl rfl) (cG Oh hr T.zG (ae (pv 4) (ae (pv 5) (ae (pv 7) (ae (pv 9) (ae (pv 6) aj)))))))
   (au (di (PW.pt (qi (bD zg (a7 bL (pv 10) ak) kE (bJ _)) (qi (bD (FO (JO hr)) (cG tQ hr T.kr (ae (pv 2) (ae (pv 7) (ae (a7 bL (pv 10) ak) aj)))) (pv 9) (bJ _)) (mV (oy (ox (cG mD hr T.iF (ae (pv 5) (ae (pv 10) (ae (pv 8) aj)))))))))) (aF (a8 y9)) cp)
   (au (fF (cG GI hr T.yg (ae (pv 4) (ae (pv 7) (ae (pv 9) (ae (pv 6) aj))))) (td rfl (cE (aS (i:=11) js.nd) (cE (aS (i:=12) js.nd rfl (Or.inr rfl) (Or.inl rfl)) gW))))
   (au (di (PW.pt (qi (bD zg (pv 11) kE (bJ _)) (mV (oy (ox (cG mD hr T.iF (ae (pv 5) (ae (pv 10) (ae (pv 12) aj))))))))) (aF (a8 y9)) cp)
   (au (qS 13 ["_law_t"] ["_law_drawn","_law_other"] [8,12] js.nd rfl rfl (cy rfl T.range (ae (pv 6) aj)) (λ_=>(aS (i:=0) (show ND9 ["_law_t","_law_drawn","_law_other"] by decide +kernel))) (λ_=>cB) (λ_=>(cG kv hr T.jC (ae (a7 (gM K (by rfl)) (pv 1) (pv 0)) (ae (cG oX hr T.j9 (ae (a7 (gM K (by rfl)) (pv 1) (pv 0)) (ae (a7 (gM K (by rfl)) (pv 2) (pv 0)) aj))) aj)))))
   (au (di (PW.pt (qi (bD (FO (JO hr)) (cG tQ hr T.kr (ae (pv 2) (ae (pv 7) (ae (pv 13) aj)))) (pv 9) (bJ _)) (mV (oy (ox (cG mD hr T.iF (ae (pv 5) (ae (pv 10) (ae (pv 13) aj))))))))) (aF (a8 y9)) cp)
   (aF (a8 (cG mD hr T.iF (ae (pv 5) (ae (pv 10) (ae (a7 bL (pv 10) ak) aj)))))))))))))))))))),?_⟩
  refine aU (σ:=[some (.ref a),none,none,none,none,none,none,none,none,none,none,none,none,none]) rfl ?_;exists ⟨a,ns,rfl,hS,hlen,λb H0 hb0 B0 s0=>?_⟩;exists ⟨b,rfl,B0,λt r w a' c' mv pt lk H1 g1 P1 D F KF RG w1 w2 B1 u1=>?_⟩;have d8:=D.n8;have d4:=D.i4;exists ⟨r,H0,mv,pt,lk,rfl,P1,D,F.sf,λx H2 nx s2 S2=>?_⟩;replace S2:kU K H0 H2 Z.a_System x mv pt lk:=S2.weakN λq h=>u1.none B1 h
  replace P1:=P1.same s2;have B2:=B1.same s2;obtain ⟨m,p,l,gt,mn,pn,ln,Gm,Gp,Gl⟩:=id P1;obtain ⟨up,gp,qp,_⟩:=id Gp;have lup:=qp.length;exists ⟨_,_,rfl,.inl (bO.of gp),?_⟩;rw[<- lup];clear gp qp lup Gm Gp Gl;exists ⟨b,pt.length,rfl,B2,by lia,λwq ws H3 nw Rw lw hw B3 u3=>?_⟩;have wb:wq≠b:=λz=>B2.at (by rw[<- z];exact nw)
  replace P1:=P1.upto u3 B2 B0.at;replace S2:=S2.upto u3 B2 B0.at
  have szE:∀xs∈mv++pt,∀x∈xs,iZ x:=λxs hx y hy=>by
   obtain ⟨M,V,h0,h1,h2,f1,f2,_⟩:=F;refine NP h0 (ag h1 (ar (by decide) (by decide))) (ag h2 (ar (by decide) (by decide))) ?_;rcases aG.mp hx with hx | hx
   ·exact f1 xs hx y hy
   ·exact f2 xs hx y hy
  exists ⟨b,r,H0,mv,pt,lk,rfl,B3,B0.at,P1,D,szE,λtt H4 hT B4 u4=>?_⟩;clear szE;have t12:=hT.1;replace P1:=P1.upto u4 B3 B0.at;replace S2:=S2.upto u4 B3 B0.at;replace Rw:=Rw.upto u4 B3 wb;obtain ⟨m,p,l,gt,mn,pn,ln,Gm,Gp,Gl⟩:=id P1;obtain ⟨um,gm,qm,_⟩:=id Gm;have lum:=qm.length;exists ⟨_,_,rfl,.inl (bO.of gm),?_⟩;rw[<- lum];clear gm qm lum Gm Gp Gl gt;exists ⟨b,mv.length,w,rfl,B4,by lia,w1,by lia,λqs st H5 nqs Rs ls ds B5 u5=>?_⟩;have qb:qs≠b:=λz=>B4.at (by rw[<- z];exact nqs)
  replace P1:=P1.upto u5 B4 B0.at;replace S2:=S2.upto u5 B4 B0.at;replace Rw:=Rw.upto u5 B4 wb;exists ⟨b,r,tt,w,H0,mv,pt,lk,rfl,by lia,w1,w2,B5,B0.at,P1,D,λpa ua H6 npa Ga la da B6 u6=>?_⟩;have wA:∀xs∈ua,xs.length=pt.length:=λxs hx=>(da xs hx).1
  obtain ⟨go,hg⟩:∃go,pN mv pt st ua tt=go:=⟨_,rfl⟩;obtain ⟨EA,GA,sg,cf,rch,⟨N,X,LF,LX⟩,⟨D0,W0,E0,W1,CF,CX⟩,ENF⟩:=JL RG D hT ls ds ⟨la,da⟩ lw hw hg;have lg:go.length=mv.length:=by rw[<- hg];exact j5 ls (by lia)
  replace P1:=P1.upto u6 B5 B0.at;replace S2:=S2.upto u6 B5 B0.at;replace Rw:=Rw.upto u6 B5 wb;replace Rs:=Rs.upto u6 B5 qb;clear B1 B2 B3 B4 B5 B6 u1 u3 u4 u5 u6 RG hT;exists ⟨r,qs,pa,H0,_,mv,pt,lk,ua,st,rfl,P1,D,Rs,ls,Ga,by lia,wA,EA,λgq H7 ngq s7 Rg=>?_⟩;rw[la,hg] at Rg;exists ⟨x,wq,qs,gq,tt,N,X,H0,mv,pt,lk,ws,st,go,rfl,S2.same s7,D,F,Rw.same s7,Rs.same s7,ls,Rg,lg,cf,sg,LF,λt8 e8 p8 y8 pr H8 g8 n8 n8' s8 N8 G8 R8 sl tp=>?_⟩;obtain ⟨GT,sE⟩:=LX pr sl.1 tp;have lT:=HS (mv:=mv) (pt:=pt) (ws:=ws) (T:=tt) (x:=pr);have wT:=OC (mv:=mv) (T:=tt) (x:=pr) lw;have hTl:=Bj D ls lg lw sl
  have more:∀(u:LR9) (ν p:Nat),GB ν p u->ν<=1000*28+300->p<=1000*28+300->u.length=tt->(∀xs∈u,xs.length=pt.length)->pN mv pt st u tt=go->IT ws u/\IT ws (qZ u (l5 mv pt ws tt pr))/\xa ws u=cm pr (dO mv tt st go)+xa ws (qZ u (l5 mv pt ws tt pr))/\∀xs∈u,xs.length=ws.length/\∀x∈xs,iZ x:=λu ν p gb h1 h2 lu wu hu=>by
   have gb:=gb.up h1 h2;exact ⟨LR gb (by decide) (by lia) (by lia) hw,LR (gb.df GT) (by decide) (by lia) (by rw[Gn (by lia)];lia) hw,NV D ls lg lw (λw h=>(hw w h).1) sl lu wu hu,λxs hx=>⟨by rw[wu xs hx,lw],gb.szn (by decide) xs hx⟩⟩
  have hT2:∀xs∈l5 mv pt ws tt pr,xs.length=ws.length/\∀x∈xs,iZ x:=(more _ _ _ GT (ao _) (ao _) lT wT hTl).2.2.2;generalize l5 mv pt ws tt pr=told at *
  have w8:ws.length<=8:=by lia
  have s08:=s7.trans s8;replace P1:=P1.same s08;replace S2:=S2.same s08;replace Rw:=Rw.same s08;replace Rs:=Rs.same s08;replace Rg:=Rg.same s8;replace Ga:=Ga.same s08;clear s7 s8 s08;walk_at "w";rw[decide_eq_true rfl];exists ⟨r,qs,p8,H0,_,mv,pt,lk,told,st,rfl,P1,D,Rs,ls,G8,by lia,wT,ENF told _ _ GT (by decide) (by decide) (by lia),λt9 H9 n9 s9 R9=>?_⟩;rw[lT,hTl] at R9;exists ⟨_,_,Ij,go,go,by decide,R9.kind,(Rg.same s9).kind,?_⟩;rw[decide_eq_true rfl];have g9:=s9 _ _ g8;obtain ⟨m1,m2,m3,m4⟩:=more ua _ _ GA (by decide) (by decide) la wA hg;exists ⟨wq,t8,pa,e8,p8,y8,ws,ua,told,_,_,_,rfl,Rw.same s9,g9,N8.same s9,sE,G8.same s9,Ga.same s9,by lia,by lia,w8,m4,hT2,λw h=>(hw w h).1,m1,m2,m3,λHA sA=>?_⟩;have s8A:=s9.trans sA;clear m1 m2 m3 m4;exists ⟨x,qs,gq,tt,a',c',D0,W0,E0,W1,H0,mv,pt,lk,st,go,rfl,by lia,S2.same s8A,D,F,KF,LF.ad,Rs.same s8A,ls,Rg.same s8A,lg,cf,sg,CF,rch,λtB pB ub q HB gB nB sB GB' lb wB hB q0 qb tq=>?_⟩;have GC:=CX ub q q0 qb tq;obtain ⟨m1,m2,m3,m4⟩:=more ub _ _ GC (by decide) (by decide) lb wB hB;have s8B:=s8A.trans sB;have g8B:=s8B _ _ g8;walk_at "w";rw[decide_eq_true rfl];exists ⟨wq,t8,pB,e8,p8,y8,ws,ub,told,_,_,_,rfl,Rw.same s8B,g8B,N8.same s8B,sE,G8.same s8B,GB',by lia,by lia,w8,m4,hT2,λw h=>(hw w h).1,m1,m2,m3,λHC sC=>?_⟩;have s8C:=s8B.trans sC;have zu:=(more ua _ _ GA (by decide) (by decide) la wA hg).2.2.2;clear m1 m2 m3;have GaC:=Ga.same s8C;have GbC:=GB'.same sC;obtain ⟨xs,gx,qx,_⟩:=id GaC;obtain ⟨ys,gy,qy,_⟩:=id GbC;have lx:=qx.length;have ly:=qy.length;exists ⟨by lia,by lia,?_⟩;refine fk (n:=tt) (dm K HC) (λi=>List.zipWith (λu v=>u+(u - v)) (ua.getD i []) (ub.getD i [])) (by lia) (λa b=>a.same b) ?_ ?_
  ·rintro i Hb NY NN hi sa k1;obtain ⟨v,ev⟩:∃v,xs[i]?=some v:=⟨_,af (by lia)⟩;obtain ⟨v',ew⟩:∃v',ys[i]?=some v':=⟨_,af (by lia)⟩;obtain ⟨r1,e1,u1,rfl,_,R1⟩:=bX qx ev;obtain ⟨r2,e2,u2,rfl,_,R2⟩:=bX qy ew;obtain ⟨z1,z2⟩:=zu r1 (av e1);obtain ⟨z3,z4⟩:=m4 r2 (av e2);exists cx (bO.of (sa _ _ gx)) (eJ ev) ?_;exists cx (bO.of (sa _ _ gx)) (eJ ev) ?_;exists cx (bO.of (sa _ _ gy)) (eJ ew) ?_;exists ⟨u1,u2,r1,r2,rfl,R1.same sa,R2.same sa,by lia,by lia,z2,z4,λr3 H3 n3 s3 R3=>?_⟩;walk_at "w";have zd:∀y∈List.zipWith (λx y=>x - y) r1 r2,iZ y:=λy hy=>((GA.up (ν':=600) (p':=1000*10+700) (ao _) (by decide)).df GC).szn (by decide) _ (by unfold qZ;exact List.mem_iff_getElem?.mpr ⟨i,by rw[bo,e1,e2]⟩) y hy
   refine ⟨u1,r3,r1,_,rfl,R1.same (sa.trans s3),R3,by rw[aQ];lia,by lia,z2,zd,λr4 H4 n4 s4 R4=>k1 _ _ (s3.trans s4) ⟨r4,rfl,(sa.trans s3).none n4,?_⟩⟩;rw[aa,e1,aa,e2,nV,nV,<- GQ];exact R4
  rintro zs HD tw ntw sD gD prD nxD;have e:(List.range tt).map (λi=>List.zipWith (λu v=>u+(u - v)) (ua.getD i []) (ub.getD i []))=DG ua ub:=Km la lb;rw[e] at prD nxD;have GD:bH K HC HD tw (DG ua ub):=⟨zs,gD,prD,jy nxD⟩;have GE:=(GA.up (ν':=600) (p':=1000*10+700) (ao _) (by decide)).tw GC;have lE:=Kn (a:=ua) (b:=ub) (by lia);have wE:=QN wA wB;have hE:=Ko D ls la lb wA wB hg hB;have s8D:=s8C.trans sD;exists ⟨r,qs,tw,H0,_,mv,pt,lk,DG ua ub,st,rfl,P1.same s8D,D,Rs.same s8D,ls,GD,by lia,wE,ENF _ _ _ GE (by decide) (by decide) (by lia),λtF HF nF sF RF=>?_⟩;rw[lE,la,hE] at RF;exists ⟨_,_,Ij,go,go,by decide,RF.kind,(Rg.same (s8D.trans sF)).kind,?_⟩;rw[decide_eq_true rfl];have s8F:=s8D.trans sF;have g8F:=s8F _ _ g8;obtain ⟨m1,m2,m3,m5⟩:=more _ _ _ GE (by decide) (by decide) (by lia) wE hE;exists ⟨wq,t8,tw,e8,p8,y8,ws,_,told,_,_,_,rfl,Rw.same s8F,g8F,N8.same s8F,sE,G8.same s8F,GD.same sF,by lia,by lia,w8,m5,hT2,λw h=>(hw w h).1,m1,m2,m3,λHG sG=>?_⟩;have s8G:=s8F.trans sG;have g8G:=s8G _ _ g8;obtain ⟨m1,m2,m3,m5⟩:=more _ _ _ GT (ao _) (ao _) lT wT hTl;exists ⟨wq,t8,p8,e8,p8,y8,ws,told,told,_,_,_,rfl,Rw.same s8G,g8G,N8.same s8G,sE,G8.same s8G,G8.same s8G,rfl,by lia,w8,hT2,hT2,λw h=>(hw w h).1,m1,m2,m3,λHG sG=>k _⟩
end
theorem ln1 {P:List Value->Prop} (h:∀x0,P [x0]):∀us:List Value,us.length=1->P us
 | [x0],_=>h x0
theorem ln2 {P:List Value->Prop} (h:∀x0 x1,P [x0,x1]):∀us:List Value,us.length=2->P us
 | [x0,x1],_=>h x0 x1
theorem ln3 {P:List Value->Prop} (h:∀x0 x1 x2,P [x0,x1,x2]):∀us:List Value,us.length=3->P us
 | [x0,x1,x2],_=>h x0 x1 x2
theorem ln4 {P:List Value->Prop} (h:∀x0 x1 x2 x3,P [x0,x1,x2,x3]):∀us:List Value,us.length=4->P us
 | [x0,x1,x2,x3],_=>h x0 x1 x2 x3
theorem ln5 {P:List Value->Prop} (h:∀x0 x1 x2 x3 x4,P [x0,x1,x2,x3,x4]):∀us:List Value,us.length=5->P us
 | [x0,x1,x2,x3,x4],_=>h x0 x1 x2 x3 x4
local macro_rules | `(tactic| walk_at "b") => `(tactic| (intro _ _ _ _ _ _; first | (refine ln1 ?_; intros; rfl) | (refine ln2 ?_; intros; rfl) | (refine ln3 ?_; intros; rfl) | (refine ln4 ?_; intros; rfl) | (refine ln5 ?_; intros; rfl)))
theorem all_mk {l:W.OpenLaw} {K:W.Frag} 
 
  (X:K.In h) (G:h.Ns mainGlobals mg) (hfa:mg "law"=some (.ref fa)) (htree:l.prog.given.tree=none)
 (aC:W.nsIn K mainGlobals "System"=some (some (.ref C)))
  (h0:Dh K "_law_bag" sX f0 e0)
  (h1:Dh K "_law_take" pX f1 e1)
  (h2:Dh K "_law_sizes" kN f2 e2)
  (h3:Dh K "_law_line" qg f3 e3)
  (h4:Dh K "_law_low" sU f4 e4)
  (h5:Dh K "_law_sum" sS f5 e5)
  (h6:Dh K "_law_plus" p0 f6 e6)
  (h7:Dh K "_law_prod" pZ f7 e7)
  (h8:Dh K "_law_by" vM f8 e8)
  (h9:Dh K "_law_mixed" ot f9 e9)
  (h10:Dh K "_law_two_lines" jR f10 e10)
  (h11:Dh K "_law_number" mR f11 e11)
  (h12:Dh K "_law_row" sT f12 e12)
  (h13:Dh K "_law_move" p7 f13 e13)
  (h14:Dh K "_law_parts" oq f14 e14)
  (h15:Dh K "_law_system" mQ f15 e15)
  (h16:Dh K "want_list" pR f16 e16)
  (h17:Dh K "is_whole" sR f17 e17)
  (h18:Dh K "common_divisor" jQ f18 e18)
  (h19:Dh K "is_number" pV f19 e19)
  (h20:Dh K "is_row" yR f20 e20)
  (h21:Dh K "copied_rows" mP f21 e21)
  (a22:W.findIn K (.ref C) "__init__"=some (some (.ref f22))) (i22:W.isFn K (.ref f22)=true) (l22:K.lookup f22=some ⟨oc22,od22,.func (W.fnOf "__init__" "System.__init__" (kT d6) (jF d6) (aL d6) .none kV22 dc22 pm22 an22 cd22 ct22),sl22⟩) (c22:W.codeIn K cd22 "System.__init__"=true) (k22:W.keepIn K (.ref f22)=true)
  (h23:Dh K "_law_copied" mU f23 e23)
  (h24:Dh K "_law_made" qe f24 e24)
  (h25:Dh K "_law_weights" lH f25 e25)
  (h26:Dh K "_law_steps" oo f26 e26)
  (h27:Dh K "_law_puts" pY f27 e27)
  (h28:Dh K "_law_dot" sW f28 e28)
  (h29:Dh K "_law_on" vL f29 e29)
  (h30:Dh K "_law_next" p5 f30 e30)
  (h31:Dh K "_law_end" sV f31 e31)
  (h32:Dh K "common_multiple" jv f32 e32)
  (h33:Dh K "common_bottom" kC f33 e33)
  (h34:Dh K "tops_over" pS f34 e34)
  (h35:Dh K "lowest" yP f35 e35)
  (h36:Dh K "row_dot" vF f36 e36)
  (h37:Dh K "grid_on" vJ f37 e37)
  (h38:Dh K "moved_rows" og f38 e38)
  (h39:Dh K "additions" pW f39 e39)
  (h40:Dh K "minus" CB f40 e40)
  (h41:Dh K "row_minus" pT f41 e41)
  (h42:Dh K "grid_turned" mO f42 e42)
  (a43:W.findIn K (.ref C) "moved"=some (some (.ref f43))) (i43:W.isFn K (.ref f43)=true) (l43:K.lookup f43=some ⟨oc43,od43,.func (W.fnOf "moved" "System.moved" (kT fV) (jF fV) (aL fV) .none kV43 dc43 pm43 an43 cd43 ct43),sl43⟩) (c43:W.codeIn K cd43 "System.moved"=true) (k43:W.keepIn K (.ref f43)=true)
  (h44:Dh K "course" yT f44 e44)
  (h45:Dh K "nought_row" oa f45 e45)
  (h46:Dh K "nothing_for" mN f46 e46)
  (h47:Dh K "lacking" vI f47 e47)
  (h48:Dh K "first_with" oi f48 e48)
  (h49:Dh K "cleared" vK f49 e49)
  (h50:Dh K "brought_up" oj f50 e50)
  (h51:Dh K "swept" Cz f51 e51)
  (h52:Dh K "solved" yN f52 e52)
  (h53:Dh K "solve" CA f53 e53)
  (h54:Dh K "flat" FG f54 e54)
  (h55:Dh K "grid_times" oh f55 e55)
  (h56:Dh K "parted" yO f56 e56)
  (h57:Dh K "parted_by" pU f57 e57)
  (h58:Dh K "led_to" yQ f58 e58)
  (h59:Dh K "reduced" vG f59 e59)
  (h60:Dh K "reach_grown" mM f60 e60)
  (h61:Dh K "weights_for" mL f61 e61)
  (h62:Dh K "cut" KJ f62 e62)
  (h63:Dh K "come" FH f63 e63)
  (h64:Dh K "puts_at" vH f64 e64)
  (h65:Dh K "least" CC f65 e65)
  (h66:Dh K "_law_effort" mS f66 e66)
  (h67:Dh K "_law_less" qh f67 e67)
  (h68:Dh K "_law_minus" ou f68 e68)
  (h69:Dh K "_law_differ" mT f69 e69)
  (h70:Dh K "squared" vE f70 e70)
  (h71:Dh K "effort" yS f71 e71)
  (h72:Dh K "_law_more" p9 f72 e72)
  (h73:Dh K "law" KI f73 e73)
 (ca0:W.nsIn K mainGlobals "NOUGHT"=some (some (.ref m0))) (cl0:K.lookup m0=some ⟨.type "tuple",mo0,.seq #[.int 0 mt0_0,.int 1 mt0_1] mn0,ms0⟩)
 (ca1:W.nsIn K mainGlobals "ONE"=some (some (.ref m1))) (cl1:K.lookup m1=some ⟨.type "tuple",mo1,.seq #[.int 1 mt1_0,.int 1 mt1_1] mn1,ms1⟩)
 (ci0:W.nsIn K mainGlobals "MOST_STATES"=some (some (.int 8 it0)))
 (ci1:W.nsIn K mainGlobals "MOST_PUTS"=some (some (.int 4 it1)))
 (ci2:W.nsIn K mainGlobals "MOST_LOOKS"=some (some (.int 4 it2)))
  (pg:W.plainGet K C Str.empty=true) (hd:W.hasDictIn K C=true) (po:W.plainOver K C=true) (sa:W.findIn K (.ref C) "__setattr__"=some (some (.builtin "object.__setattr__"))) (mk:W.makesIn K C=true) (kc:W.keepIn K (.ref C)=true)
  (n_move:W.findIn K (.ref C) "move"=some none)
  (n_states:W.findIn K (.ref C) "states"=some none)
  (n_put:W.findIn K (.ref C) "put"=some none)
  (n_ins:W.findIn K (.ref C) "ins"=some none)
  (n_look:W.findIn K (.ref C) "look"=some none)
  (n_outs:W.findIn K (.ref C) "outs"=some none)
  (z_abs:W.nsIn K mainGlobals "abs"=some none)
  (z_len:W.nsIn K mainGlobals "len"=some none)
  (z_min:W.nsIn K mainGlobals "min"=some none)
  (z_int:W.nsIn K mainGlobals "int"=some none)
  (z_range:W.nsIn K mainGlobals "range"=some none)
  (z_isinstance:W.nsIn K mainGlobals "isinstance"=some none)
  (z_list:W.nsIn K mainGlobals "list"=some none)
  (z_bool:W.nsIn K mainGlobals "bool"=some none)
  (z_tuple:W.nsIn K mainGlobals "tuple"=some none)
  (z_all:W.nsIn K mainGlobals "all"=some none)
  (z_enumerate:W.nsIn K mainGlobals "enumerate"=some none)
  (z_max:W.nsIn K mainGlobals "max"=some none)
  (z_zip:W.nsIn K mainGlobals "zip"=some none)
  (z_sum:W.nsIn K mainGlobals "sum"=some none)
  (z_reversed:W.nsIn K mainGlobals "reversed"=some none)
  : ∃fd:FuncData,(∀(s:Shared) (v:Value),BindsTo s fd ⟨[v],[]⟩ [("_law_script",v)])/\∀base:Heap,K.In base->base.Ns mainGlobals mg->cN l.prog w K mg base fX 10 fa fd ["_law_script"] (yC K):=by
 have e:=hfa.symm.trans (W.mg_of X G h73.a);cases e;obtain ⟨_,_,_,_,_,_,_,_,_,rfl,_,_⟩:=h73.F.ex;have F22:=Gf (st:=d6) l22 c22 k22;have F43:=Gf (st:=fV) l43 c43 k43
 have T:Txt K mg ⟨f0,_,f1,_,f2,_,f3,_,f4,_,f5,_,f6,_,f7,_,f8,_,f9,_,f10,_,f11,_,f12,_,f13,_,f14,_,f15,_,f16,_,f17,_,f18,_,f19,_,f20,_,f21,_,f22,_,f23,_,f24,_,f25,_,f26,_,f27,_,f28,_,f29,_,f30,_,f31,_,f32,_,f33,_,f34,_,f35,_,f36,_,f37,_,f38,_,f39,_,f40,_,f41,_,f42,_,f43,_,f44,_,f45,_,f46,_,f47,_,f48,_,f49,_,f50,_,f51,_,f52,_,f53,_,f54,_,f55,_,f56,_,f57,_,f58,_,f59,_,f60,_,f61,_,f62,_,f63,_,f64,_,f65,_,f66,_,f67,_,f68,_,f69,_,f70,_,f71,_,f72,_,fa,_,m0,m1,it0,it1,it2,C⟩:={
  qr:=h0.D X G
  aX:=h1.D X G
  nk:=h2.D X G
  jD:=h3.D X G
  gA:=h4.D X G
  gi:=h5.D X G
  jC:=h6.D X G
  fv:=h7.D X G
  oP:=h8.D X G
  j8:=h9.D X G
  jB:=h10.D X G
  lS:=h11.D X G
  iq:=h12.D X G
  oM:=h13.D X G
  nv:=h14.D X G
  lQ:=h15.D X G
  jz:=h16.D X G
  mi:=h17.D X G
  fu:=h18.D X G
  oH:=h19.D X G
  vT:=h20.D X G
  ip:=h21.D X G
  mB:=F22.binds (ps:=["self","move","put","look"]) λ_ _ _ _ _ _=>by refine ln4 ?_;intros;rfl
  mF:=F22
  ir:=h23.D X G
  oN:=h24.D X G
  kF:=h25.D X G
  ni:=h26.D X G
  oJ:=h27.D X G
  qq:=h28.D X G
  tJ:=h29.D X G
  oK:=h30.D X G
  kr:=h31.D X G
  jc:=h32.D X G
  dM:=h33.D X G
  gE:=h34.D X G
  jk:=h35.D X G
  il:=h36.D X G
  jZ:=h37.D X G
  j7:=h38.D X G
  kS:=h39.D X G
  zF:=h40.D X G
  oF:=h41.D X G
  eU:=h42.D X G
  o6:=⟨a43,i43,k43⟩
  qJ:=F43.binds (ps:=["self","state","puts"]) λ_ _ _ _ _ _=>by refine ln3 ?_;intros;rfl
  qP:=F43
  vV:=h44.D X G
  iU:=h45.D X G
  jA:=h46.D X G
  oG:=h47.D X G
  ng:=h48.D X G
  tI:=h49.D X G
  nh:=h50.D X G
  ur:=h51.D X G
  qV:=h52.D X G
  uu:=h53.D X G
  oI:=h54.D X G
  mZ:=h55.D X G
  vR:=h56.D X G
  kR:=h57.D X G
  vS:=h58.D X G
  tG:=h59.D X G
  lO:=h60.D X G
  lN:=h61.D X G
  F0:=h62.D X G
  yg:=h63.D X G
  tH:=h64.D X G
  zG:=h65.D X G
  lU:=h66.D X G
  oO:=h67.D X G
  j9:=h68.D X G
  lV:=h69.D X G
  tE:=h70.D X G
  vU:=h71.D X G
  iF:=h72.D X G
  OS:=h73.F
  abs:=W.mg_none_of X G z_abs
  len:=W.mg_none_of X G z_len
  min:=W.mg_none_of X G z_min
  int:=W.mg_none_of X G z_int
  range:=W.mg_none_of X G z_range
  isinstance:=W.mg_none_of X G z_isinstance
  list:=W.mg_none_of X G z_list
  bool:=W.mg_none_of X G z_bool
  tuple:=W.mg_none_of X G z_tuple
  all:=W.mg_none_of X G z_all
  enumerate:=W.mg_none_of X G z_enumerate
  max:=W.mg_none_of X G z_max
  zip:=W.mg_none_of X G z_zip
  sum:=W.mg_none_of X G z_sum
  reversed:=W.mg_none_of X G z_reversed
  mg_NOUGHT:=W.mg_of X G ca0
  sq_NOUGHT:=λH=>.inr ⟨_,_,_,cl0,rfl,rfl,jo rfl,.cons ⟨_,rfl⟩ (.cons ⟨_,rfl⟩ (.nil))⟩
  mg_ONE:=W.mg_of X G ca1
  sq_ONE:=λH=>.inr ⟨_,_,_,cl1,rfl,rfl,jo rfl,.cons ⟨_,rfl⟩ (.cons ⟨_,rfl⟩ (.nil))⟩
  mg_MOST_STATES:=W.mg_of X G ci0
  mg_MOST_PUTS:=W.mg_of X G ci1
  mg_MOST_LOOKS:=W.mg_of X G ci2
  mg_System:=W.mg_of X G aC
  cl_System:=⟨pg,hd,po,sa⟩
  na_move:=n_move
  na_states:=n_states
  na_put:=n_put
  na_ins:=n_ins
  na_look:=n_look
  na_outs:=n_outs
  mk_System:=⟨mk,a22,i22,kc⟩ }
 exact ⟨_,λs v=>.of_eq rfl,λbase _ _=>PR T htree⟩
theorem walk {l:W.OpenLaw} {K:Params->W.Frag} (hn:l.most=some 63) (hdf:d.params.defaults=[])
  (hi:PyProof.Rows.importsNone q=true)
  (hY:∀(w:World) (h:Heap),YP w h->(K w.params).In h)
  (F:∀(w:World) (mg:Str->Option Value) (fa:Addr) (h:Heap),(K w.params).In h->h.Ns mainGlobals mg->mg d.name=some (.ref fa) →
   ∃fd:FuncData,(∀(s:Shared) (u:Value),BindsTo s fd ⟨[u],[]⟩ [("_law_script",u)])/\∀base:Heap,(K w.params).In base->base.Ns mainGlobals mg->cN l.prog w (K w.params) mg base fX 10 fa fd ["_law_script"] (yC (K w.params))) :
  W.WalkO q loose XP YP l.row.toRowW d [] (λf vs=>PySem.call f vs) :=
 L2.MG (n:=63) (k:=10) (x:="_law_script") (CX:=λ_=>fX) (sp:=λw=>yC (K w.params)) hn (by decide) hdf ⟨rfl,by decide,by decide⟩ hi hY F (λ_ _ a ns hl _ hS=>⟨a,ns,rfl,hS,hl,λ_=>rfl⟩) λ_ _ _ _ _ z=>z
end Lw
namespace PySem.W.Fast
def tw11019384042727000323:=()
def tw2267920957762823549:=()
def tw3623541363635716515:=()
def tw12936021439018360143:=()
def tw4367356207696818814:=()
def tw4839972517271323354:=()
def tw12559049393455922725:=()
def tw14943091081432584911:=()
def tw9861758433825786298:=()
def tw12217538963303910753:=()
def tw641413681222451584:=()
def tw14745026835867145217:=()
def tw14540285104038302103:=()
def tw12370136031569595816:=()
def tw1935289376408549064:=()
def tw17076084350249586057:=()
def tw9255652558985921879:=()
def tw11781678333395018518:=()
def tw15052321138404588318:=()
def tw11338552320815039330:=()
def tw6696712998145351296:=()
def tw14053769633807401690:=()
def tw10253251332680001569:=()
def tw3720946481709065782:=()
def tw1942799123549358628:=()
def tw1475953936665396151:=()
def tw6781657508880690224:=()
def tw5852833637930533187:=()
def tw15716800969764366987:=()
def tw8478539944324747061:=()
def tw16301567215002750077:=()
def tw9393285322857704560:=()
def tw5965100585700362470:=()
def tw13976421516990183696:=()
def tw7515918490380184251:=()
def tw13842980973241890705:=()
def tw7276026923475574247:=()
def tw5551966524760100626:=()
def tw2646822766642448848:=()
def tw1554796286874702488:=()
def tw7314161721338427726:=()
def tw18091881805624624321:=()
def tw5254354471428527230:=()
def tw5049801822794753038:=()
def tw18095959054893760085:=()
def tw1137822019446734662:=()
def tw3457343309067629278:=()
def tw9523547418376664008:=()
def tw12911252064334892962:=()
def tw16832859032269291038:=()
def tw18382415767077220448:=()
def tw12820448822306305123:=()
def tw17955142717366319979:=()
def tw9956545433942199389:=()
def tw4758736223000383501:=()
def tw9598618810036020356:=()
def tw11706552166778938275:=()
def tw13144101401560212388:=()
def tw16183449891433154003:=()
def tw4192245249981449971:=()
def tw12518251528143661512:=()
def tw436060805904094941:=()
def tw3721858379314295331:=()
def tw15150023229938565317:=()
def tw6262162433516808120:=()
def tw17014499262303339956:=()
def tw5463607691588564350:=()
def tw12890771138663468896:=()
def tw5768365997966737946:=()
def tw3756341312167000040:=()
def tw10820251335027855889:=()
def tw13669960139795517035:=()
def tw6923907019555029265:=()
def tw11599005280869216052:=()
def tw10903293056206454611:=()
def tw15353230864421861155:=()
def tw6543206405229084370:=()
def tw14704759722399081846:=()
def tw10819702800215006830:=()
def tw5686541422223037057:=()
def tw2820241815774700963:=()
def tw4823609015941792602:=()
def tw1045369811009964931:=()
def tw13116597863856674623:=()
def tw6778636595902311750:=()
def tw16286104737400224417:=()
def tw4825459987712421190:=()
def tw18153861226790612589:=()
def tw170225243823457361:=()
def tw13606610907638932207:=()
def tw9763262117379446757:=()
def tw18378642430271362145:=()
def tw9313627150106679775:=()
def tw16449299596800725314:=()
def tw16468769378251931558:=()
def tw17503398018113333114:=()
def tw8800235975783151034:=()
def tw1356963954452304626:=()
def tw13584967000771108150:=()
def tw11695724737690749427:=()
def tw14587707517114509432:=()
def tw15162815754587178280:=()
def tw11688269123533232466:=()
def tw10385843949381565541:=()
def tw12377701200360363576:=()
def tw9590228927437093779:=()
def tw7073165450263563902:=()
def tw1163532550638487977:=()
def tw9855415055673033855:=()
def tw5583666409890158735:=()
def tw2659754714899977039:=()
def tw10505096737366866470:=()
def tw4292346893871212965:=()
def tw9409210607862121321:=()
def tw4605066792659142240:=()
def tw2041100922831079561:=()
def tw269283303271628369:=()
def tw2160143212238501269:=()
def tw9049610673181558894:=()
def tw9437535616046368995:=()
def tw14310012595465364409:=()
def tw10338942044458651096:=()
def tw8338852832337785488:=()
def tw13889574462617467165:=()
def tw15823588968706059487:=()
def tw5662549467658517769:=()
def tw5557466860905969809:=()
def tw4540489590181564255:=()
def tw11423433894959005088:=()
def tw13918037505242220960:=()
def tw14534837707693899598:=()
def tw17168696960738946936:=()
def tw8933477880176665982:=()
def tw5837353198864777166:=()
def tw2667482606009565839:=()
def tw6726467468291842337:=()
def tw3362347539191197983:=()
def tw16531344143112674064:=()
def tw13523603403374190528:=()
def tw9511981726152847286:=()
def tw2852002630363124235:=()
def tw207911901868207799:=()
def tw2134611781742973164:=()
def tw7854372417641148319:=()
def tw9349401772524385010:=()
def tw18376989888155806716:=()
def tw15995859141267124543:=()
def tw16152828069265354695:=()
def tw556239600858850748:=()
def tw3834343489505702836:=()
def tw5021222893274216609:=()
def tw18419237769528887342:=()
def tw241003999199452598:=()
def tw11900601120008532828:=()
def tw9914848040037781559:=()
def tw406981736245510872:=()
def tw9017922169670339086:=()
def tw10125279048552582607:=()
def tw9738667195318402262:=()
def tw9649782289792953307:=()
def tw480663066180983449:=()
def tw17372205594107962224:=()
def tw17044127296362090458:=()
def tw6542275558208663610:=()
def tw8247760045835748655:=()
def tw488851619272549767:=()
def tw3786530606980853197:=()
def tw18409767992995153685:=()
def tw12803789910570674715:=()
def tw13438726889371356461:=()
def tw12809952929125554463:=()
def tw14213919615475136432:=()
def tw6420025779755829131:=()
def tw9527019213803985828:=()
def tw9795622895111564265:=()
def tw18140217074986943567:=()
def tw13185188421375956022:=()
def tw17544204582900833216:=()
def tw14495193922598361546:=()
def tw3332973487994175444:=()
def tw2306677589540454552:=()
def tw10118631052816724561:=()
def tw10730453150732928735:=()
def tw5925518433337018808:=()
def tw4740730016605819516:=()
def tw3493548723409286686:=()
def tw12312483489746477221:=()
def tw4690507680801102624:=()
def tw1551989344031077165:=()
def tw2631929750386344107:=()
def tw264167228929790743:=()
def tw6838032149753556682:=()
def tw16201812290579317921:=()
def tw16909665404597840821:=()
def tw7804934859544899212:=()
def tw11761924185535285515:=()
def tw2918734459108351398:=()
def tw14569839899697968485:=()
def tw11351530098319048445:=()
def tw5660421773250188016:=()
def tw1783290588484078128:=()
def tw5971896618552762012:=()
def tw1012508149977319916:=()
def tw2452202405117519721:=()
def tw5391022484541365409:=()
def tw3270787111105864174:=()
def tw2296345069348352374:=()
def tw18367884262658969219:=()
def tw12483259163943554055:=()
def tw18088057072509916997:=()
def tw8333629845452993511:=()
def tw17059626651240687425:=()
def tw2069001636685051535:=()
def tw13463360448894759370:=()
def tw10220016410081316810:=()
def tw810925765433267138:=()
def tw1617688917652780239:=()
def tw12593020324769197390:=()
def tw16880228421352609282:=()
def tw4926414413504444558:=()
def tw14692711751763708471:=()
def tw6119034115934381167:=()
def tw17051039561541224926:=()
def tw5780532371925424606:=()
def tw4837227511669098338:=()
def tw18240785637218750180:=()
def tw12811568131745191240:=()
def tw1399146510207565851:=()
def tw2758703472809605950:=()
def tw6677783189659423487:=()
def tw9537238228786215911:=()
def tw1119662474034986605:=()
def tw13772280828915561394:=()
def tw3068784605757695038:=()
def tw10586052672822410655:=()
def tw5034577355096583116:=()
def tw5541656382063090845:=()
def tw12231877685100016435:=()
def tw947971922294367244:=()
def tw15868242012427942083:=()
def tw3430674699260528091:=()
def tw518123489647958986:=()
def tw16834080789219514620:=()
def tw4997301302166990453:=()
def tw15892502688943970412:=()
def tw17324970681023899907:=()
def tw4518846564731841434:=()
def tw4468500046287407008:=()
def tw2489797716763718796:=()
def tw18057077959913665825:=()
def tw16617698959567427149:=()
def tw7924948988377558940:=()
def tw2417405566504528609:=()
def tw18159112417982343024:=()
def tw10082421121683046368:=()
def tw7709774621926260846:=()
def tw5719823274520781748:=()
def tw12068635914413105103:=()
def tw5040333460776884910:=()
def tw4420532140647247801:=()
def tw4833346361296104728:=()
def tw11904340921306226037:=()
def tw3128565287287952866:=()
def tw10810645136936592033:=()
def tw12655715836142954690:=()
def tw2534948865735551581:=()
def tw10310328695659391057:=()
def tw16391510885826542752:=()
def tw34130270830637339:=()
def tw16554093623410023046:=()
def tw117878092148081857:=()
def tw10934936209352280393:=()
def tw3622058202597686965:=()
def tw10300719491433257077:=()
def tw2603007507573821219:=()
def tw3453950941940977967:=()
def tw7940741466645943945:=()
def tw1655323336764767564:=()
def tw9631282392409369522:=()
def tw7781355643188897539:=()
def tw14688697095086116859:=()
def tw4343207705077891213:=()
def tw14714487642428666086:=()
def tw16925626662706545871:=()
def tw13261455735580195734:=()
def tw15376535335876416856:=()
def tw12814563193586680563:=()
def tw7897437201095409886:=()
def tw6461305878986887115:=()
def tw7975800771911585247:=()
def tw5560851448947942985:=()
def tw4884920233900632979:=()
def tw5458752260924848010:=()
def tw1136877731545783925:=()
def tw17571604579648146055:=()
def tw17758647483296185625:=()
def tw10036693209199109807:=()
def tw8423405261465564654:=()
def tw14925805105233272284:=()
def tw3610593199690488519:=()
def tw11795489403962671076:=()
def tw4568735498282692954:=()
def tw7711989389344092048:=()
def tw9711294049275889517:=()
def tw15576463576344282071:=()
def tw8652605908749269755:=()
def tw6569672598071387878:=()
def tw15463560564416446042:=()
def tw5179610127226591928:=()
def tw17663112070869849980:=()
def tw16669925152619573563:=()
def tw18179195475576623470:=()
def tw11917096660398069072:=()
def tw2097041978446171732:=()
def tw17653361380054081879:=()
def tw2189521936098981271:=()
def tw1458969210451911374:=()
def tw9688470484865740768:=()
def tw17974411443221636058:=()
def tw17337528281327328975:=()
def tw8739377428929858574:=()
def tw2895924358234839749:=()
def tw2679687187395219470:=()
def tw360675935846861943:=()
def tw12901588165034866903:=()
def tw6034290166072546172:=()
def tw6518832829317305390:=()
def tw16027274708249487505:=()
def tw10784886612462793114:=()
def tw10382125441834433245:=()
def tw9510695738238900203:=()
def tw6066463832792551977:=()
def tw449338216438897902:=()
def tw14610888187397956019:=()
def tw9755436543065880821:=()
def tw14900182261115004195:=()
def tw2859944214517584858:=()
def tw9765640630935088929:=()
def tw4336664409464711520:=()
def tw9317043018907437591:=()
def tw149987186974670603:=()
def tw11066540923297900998:=()
def tw7982150019206039351:=()
def tw15996312205757971376:=()
def tw5447064751566312381:=()
def tw18087453132226049163:=()
def tw4948880560091726650:=()
def tw13753306963296592344:=()
def tw1867592407637406294:=()
def tw16131447006954521149:=()
def tw1951276303421115989:=()
def tw1784380477363065517:=()
def tw15655972638411288096:=()
def tw1832734089396058883:=()
def tw14302897702495237706:=()
def tw1022385274924418451:=()
def tw21408763210475558:=()
def tw13502110171777073312:=()
def tw6347164768478491315:=()
def tw295429641183272878:=()
def tw6098060672275401287:=()
def tw12813996092615042095:=()
def tw3364462280355487238:=()
def tw16119960514120567520:=()
def tw2218039494422831830:=()
def tw9923111433557263878:=()
def tw15614145216198255092:=()
def tw12510073219912493686:=()
def tw210437996300687269:=()
def tw17935266875198985607:=()
def tw8899812090303233151:=()
def tw14215301135297023614:=()
def tw11558704186063574286:=()
def tw2717066025023641791:=()
def tw14673654123535551619:=()
def tw3975561000496050902:=()
def tw1179631592127703835:=()
def tw13169199688817220887:=()
def tw10263219521984618781:=()
def tw16556657373675144049:=()
def tw9286064382648273934:=()
def tw17983529385619530259:=()
def tw10411597078422025391:=()
def tw7271081086172392514:=()
def tw14954804964670890598:=()
def tw4133532601756919606:=()
def tw16372808482510992875:=()
def tw8527418313698099027:=()
def tw11900447657142166123:=()
def tw1038246656951876786:=()
def tw3199369592827558229:=()
def tw15749476132985456690:=()
def tw11607964226423893360:=()
def tw4927756046589297525:=()
def tw3763286498066611451:=()
def tw8589289698009159537:=()
def tw10215756669508831997:=()
def tw375587904444064464:=()
def tw5246387485962642031:=()
def tw1018968550585815491:=()
def tw11121475250220989804:=()
def tw9564652386933791157:=()
def tw6522187904192353834:=()
def tw2541597452222443993:=()
def tw8317572467155470073:=()
def tw13901736065094994315:=()
def tw3749659221335166242:=()
def tw12833186956397033517:=()
def tw12874334166343252691:=()
def tw12701087630083458970:=()
def tw1503838390482009739:=()
def tw6080771612461274018:=()
def tw7028091093029563401:=()
def tw2982547216329354681:=()
def tw13203965813063184715:=()
def tw6055637990185723126:=()
def tw10874959771142517021:=()
def tw16589251705013418848:=()
def tw8396878048311075164:=()
def tw11830137604314268598:=()
def tw11681752472272646512:=()
def tw12324262738524872649:=()
def tw17572163210698052433:=()
def tw9394303735345916166:=()
def tw8383578573402499971:=()
def tw12903945267886254347:=()
def tw13117107540232139775:=()
def tw2167102406581146901:=()
def tw479918151121687971:=()
def tw6667047922255128125:=()
def tw13417695298131377791:=()
def tw11647342629052214934:=()
def tw1391385785556395982:=()
def tw14103966150684336777:=()
def tw4679412211438723830:=()
def tw858865047434226279:=()
def tw11535367893499405459:=()
def tw8497248668353792516:=()
def tw10837262052698957989:=()
def tw15356794422848490504:=()
def tw593000741149713242:=()
def tw1283604926096579157:=()
def tw8714675420561606495:=()
def tw16808854312439761262:=()
def tw1813953051207762113:=()
def tw11233629791191399336:=()
def tw17052124850732801068:=()
def tw17709526924003229181:=()
def tw2723619362773522414:=()
def tw953189048874180678:=()
def tw12273920980488413638:=()
def tw11269035751341361161:=()
def tw5047005312515719075:=()
def tw10833465990694057027:=()
def tw5672782069221180792:=()
def tw7706954289364857257:=()
def tw15651636884332694277:=()
def tw9140061970216345834:=()
def tw6934216060178705796:=()
def tw1299458358058491258:=()
theorem te11019384042727000323:True:=trivial
end PySem.W.Fast
open PySem PySem.W PyProof.Rows
set_option maxRecDepth 100000 in
set_option maxHeartbeats 0 in
theorem PySem.Challenge.cw_helmsum_k64_whole_all_others_more_holds : PySem.Challenge.rw_helmsum_k64_whole_all_others_more.Holds := by
 w_on;o_law;k_head;(case hw=>w_witness2)
 k_fill
 refine Lw.walk (l:=PySem.Challenge.rw_helmsum_k64_whole_all_others_more) rfl rfl ?hi (λw h Y=>PySem.W.kIn_of Y) ?F
 case hi=>decide +kernel
 case F =>
  intro w mg fa h KX G hmg;refine' Lw.all_mk KX G hmg rfl ?aC ?_ ?_ ?_ ?_ ?_ ?_ ?_ ?_ ?_ ?_ ?_ ?_ ?_ ?_ ?_ ?_ ?_ ?_ ?_ ?_ ?_ ?_ ?a22 ?i22 ?l22 ?c22 ?k22 ?_ ?_ ?_ ?_ ?_ ?_ ?_ ?_ ?_ ?_ ?_ ?_ ?_ ?_ ?_ ?_ ?_ ?_ ?_ ?_ ?a43 ?i43 ?l43 ?c43 ?k43 ?_ ?_ ?_ ?_ ?_ ?_ ?_ ?_ ?_ ?_ ?_ ?_ ?_ ?_ ?_ ?_ ?_ ?_ ?_ ?_ ?_ ?_ ?_ ?_ ?_ ?_ ?_ ?_ ?_ ?_ ?ca0 ?cl0 ?ca1 ?cl1 ?ci0 ?ci1 ?ci2 ?pg ?hd ?po ?sa ?mk ?kc ?n_move ?n_states ?n_put ?n_ins ?n_look ?n_outs ?z_abs ?z_len ?z_min ?z_int ?z_range ?z_isinstance ?z_list ?z_bool ?z_tuple ?z_all ?z_enumerate ?z_max ?z_zip ?z_sum ?z_reversed
  all_goals try refine' RO ?_ ?_ ?_ ?_
  all_goals try k_is