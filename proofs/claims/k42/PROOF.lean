import PyProof.Rows.All
import Wide.All
import OpenK.AllK
import Wide.FinOn
import Lean
import PyProof.EqAt
import PyProof.EqKinds
import PyProof.TupleCall
import PyProof.NeKinds
import PySem.Challenge.RW_helmsum_k42_come_or_price
set_option Elab.async false
set_option linter.all false
set_option maxRecDepth 100000
abbrev ND9:=@List.Nodup PySem.Str
abbrev aa:=@List.getD_eq_getElem?_getD
abbrev af:=@List.getElem?_eq_getElem
abbrev ai:=@Nat.le_trans
abbrev aj:=@Nat.le_refl
abbrev ak:=@List.length_append
abbrev ar:=@List.length_map
abbrev au:=@Nat.pow_le_pow_right
abbrev aw:=@List.mem_append
abbrev ax:=@List.mem_of_getElem?
abbrev ay:=@Nat.mul_le_mul_right
abbrev aA:=@Nat.mul_le_mul
abbrev aB:=@List.mem_cons
abbrev aD:=@List.mem_map
abbrev aE:=@List.getElem?_eq_some_iff
abbrev aF:=@Nat.mul_le_mul_left
abbrev aH:=@Rat.intCast_natCast
abbrev aI:=@List.take_of_length_le
abbrev aJ:=@List.size_toArray
abbrev aL:=@List.getElem?_map
abbrev aM:=@List.getElem?_eq_none
abbrev aO:=@List.length_replicate
abbrev aP:=@List.getElem_mem
abbrev aQ:=@Rat.intCast_mul
abbrev aR:=@PySem.boot_len
abbrev aS:=@Nat.pow_add
abbrev aU:=@List.not_mem_nil
abbrev aZ:=@Nat.le_of_lt
abbrev a9:=@List.getElem?_append_right
abbrev ba:=@List.length_cons
abbrev bc:=@Bool.false_ne_true
abbrev bf:=@Nat.zero_le
abbrev bo:=@List.length_singleton
abbrev br:=@Nat.lt_of_le_of_lt
abbrev bu:=@List.getElem?_append_left
abbrev bw:=@Int.natAbs_natCast
abbrev bB:=@List.mem_singleton
abbrev bE:=@Nat.mul_pos
abbrev bF:=@List.mem_append_right
abbrev bI:=@Nat.lt_of_lt_of_le
abbrev bK:=@List.getElem_of_mem
abbrev bQ:=@Nat.mul_comm
abbrev bT:=@List.getElem?_zipWith
abbrev bV:=@List.append_assoc
abbrev bW:=@List.mem_cons_of_mem
abbrev bX:=@Int.eq_ofNat_of_zero_le
abbrev bZ:=@Nat.ne_of_lt
abbrev b6:=@Option.some.inj
abbrev b7:=@List.mem_of_mem_take
abbrev b9:=@Nat.mul_assoc
abbrev cb:=@Nat.lt_or_ge
abbrev cg:=@List.mem_or_eq_of_mem_set
abbrev cy:=@Int.natAbs_mul
abbrev cz:=@Int.fdiv_eq_ediv_of_nonneg
abbrev cD:=@List.length_zipWith
abbrev cF:=@Nat.le_mul_of_pos_left
abbrev cH:=@List.length_take
abbrev cJ:=@List.map_append
abbrev cK:=@List.length_range
abbrev cM:=@PySem.F.plainAttrs_list
abbrev cR:=@Rat.intCast_neg
abbrev cS:=@Nat.dvd_mul_left
abbrev cV:=@Nat.one_le_two_pow
abbrev cZ:=@List.nil_append
abbrev c5:=@PySem.F.type_list_append
abbrev c6:=@PySem.F.slot_list_append
abbrev c7:=@Nat.pow_pos
abbrev c8:=@Nat.mul_add
abbrev dh:=@Nat.le_mul_of_pos_right
abbrev di:=@List.mem_replicate
abbrev dk:=@List.mem_cons_self
abbrev dn:=@Rat.intCast_inj
abbrev dq:=@PySem.W.kia_tup
abbrev du:=@PySem.W.kia_one
abbrev dA:=@Nat.succ_mul
abbrev dB:=@Nat.succ_le_succ
abbrev dC:=@Nat.pow_succ
abbrev dF:=@List.getElem?_range
abbrev dH:=@List.nodup_append
abbrev dM:=@Int.natAbs_dvd_natAbs
abbrev dN:=@Int.mul_assoc
abbrev dP:=@Rat.mul_comm
abbrev dQ:=@List.length_set
abbrev dS:=@Nat.pow_lt_pow_right
abbrev dX:=@List.mem_append_left
abbrev dY:=@Bool.and_eq_true
abbrev eo:=@Nat.lt_irrefl
abbrev eN:=@Rat.natCast_mul
abbrev eO:=@List.nodup_cons
abbrev eQ:=@List.drop_eq_getElem_cons
abbrev eX:=@List.ext_getElem
abbrev eY:=@List.cons_append
abbrev fb:=@Int.gcd_dvd_left
abbrev fk:=@Nat.sub_self
abbrev fo:=@Nat.le_of_dvd
abbrev fA:=@List.getElem?_replicate
abbrev fB:=@Int.gcd_dvd_right
abbrev fD:=@Nat.not_lt_zero
abbrev fN:=@Rat.mul_zero
abbrev fO:=@Int.mul_comm
abbrev gD:=@Nat.dvd_trans
abbrev gJ:=@Nat.eq_zero_or_pos
abbrev gP:=@Bool.beq_eq_decide_eq
abbrev ia:=@List.map_id
abbrev ib:=@List.getElem_zipWith
abbrev ic:=@List.flatten_cons
abbrev ie:=@List.ext_getElem?
abbrev ij:=@List.map_cons
abbrev iJ:=@Nat.pow_le_pow_left
abbrev iK:=@List.flatten_append
abbrev iM:=@Nat.lt_succ_self
abbrev iN:=@List.mem_flatten
abbrev iT:=@Int.mul_pos
abbrev iV:=@Int.emod_lt_of_pos
abbrev iW:=@Bool.false_eq_true
abbrev jJ:=@Nat.lt_trichotomy
abbrev kh:=@Rat.zero_mul
abbrev ki:=@PySem.IsL.update
abbrev kj:=@List.lookup_cons
abbrev ko:=@Int.gcd_comm
abbrev kz:=@PySem.F.plain_extend_loop
abbrev kB:=@PySem.mem_of_lookup
abbrev kC:=@List.replicate_succ
abbrev kD:=@List.length_reverse
abbrev kL:=@List.getElem?_take_of_lt
abbrev kY:=@List.append_nil
abbrev kZ:=@Int.emod_nonneg
abbrev k6:=@Bool.eq_iff_iff
abbrev lW:=@Nat.le_succ
abbrev lY:=@Int.natCast_dvd_natCast
abbrev lZ:=@Int.dvd_mul_of_dvd_left
abbrev mH:=@List.nodup_nil
abbrev mI:=@List.map_map
abbrev mJ:=@Int.natAbs_neg
abbrev oa:=@PySem.F.slot_zip_next
abbrev og:=@Nat.mul_dvd_mul_right
abbrev oi:=@List.all_eq_true
abbrev pS:=@Nat.one_mul
abbrev pU:=@Nat.pow_dvd_pow
abbrev pV:=@Nat.min_eq_left
abbrev rW:=@Rat.add_zero
abbrev rX:=@Nat.add_comm
abbrev tH:=@PySem.W.kitx_tuple
abbrev tI:=@List.mem_range
abbrev tJ:=@Int.eq_of_mul_eq_mul_right
abbrev uw:=@Int.mul_neg_of_pos_of_neg
abbrev vS:=@PySem.W.kitx_list
abbrev vT:=@PySem.W.kitx_dict
abbrev vU:=@Nat.pow_mul
abbrev vV:=@List.reverse_cons
abbrev vX:=@List.eq_of_mem_replicate
abbrev vY:=@Int.natAbs_eq
abbrev yr:=@Rat.intCast_eq_zero_iff
abbrev yt:=@Nat.min_le_right
abbrev yu:=@Nat.le_add_right
abbrev yv:=@List.mem_reverse
abbrev yw:=@List.getElem_map
abbrev yQ:=@PySem.W.cellsFrom_some
abbrev yR:=@Nat.mul_zero
abbrev yS:=@Nat.dvd_refl
abbrev yT:=@Int.zero_add
abbrev AD:=@Rat.mul_eq_zero
abbrev AE:=@Rat.intCast_sub
abbrev AG:=@Rat.intCast_add
abbrev AH:=@List.range_succ
abbrev AI:=@List.length_zip
abbrev Co:=@Rat.mul_one
abbrev Cp:=@List.replicate_succ'
abbrev Cq:=@List.forIn_nil
abbrev DT:=@PySem.W.plainGet_of
abbrev DU:=@List.filterMap_cons
abbrev Ff:=@PySem.W.callWith_K
abbrev Fg:=@List.append_of_mem
abbrev HU:=@Nat.ne_of_gt
abbrev HV:=@Nat.min_self
abbrev HW:=@Nat.dvd_mul_right
abbrev HX:=@Int.dvd_refl
abbrev Jl:=@List.length_drop
abbrev Lg:=@Nat.mul_one
abbrev Lh:=@Nat.add_mul
abbrev Li:=@Int.dvd_gcd
abbrev Ln:=@List.of_mem_zip
abbrev Lo:=@List.mem_filter
abbrev Lp:=@List.map_const'
abbrev Lq:=@List.forIn_cons
abbrev Lr:=@Int.gcd_pos_of_ne_zero_right
abbrev NM:=@List.length_eraseIdx_of_lt
abbrev Pf:=@PySem.F.entry_extend_loop
abbrev Pg:=@List.getElem?_zip_eq_some
abbrev Ph:=@Int.natAbs_ediv_of_nonneg
abbrev Pp:=@Option.isSome_iff_exists
abbrev Pq:=@List.mem_of_mem_eraseIdx
abbrev Pt:=@List.all_cons
abbrev QV:=@PySem.F.args_zip_next_1
abbrev QW:=@Nat.eq_zero_of_zero_dvd
abbrev QX:=@Nat.add_sub_cancel_left
abbrev LR9:=List (List Rat)
abbrev FG9:=PySem.W.Frag
namespace L2
open PySem PySem.Spec PyProof.Rows
abbrev Key:=Sum Int Str
def Nq:Key->Value->Bool
 | .inl k,v=>Value.isInt k v
 | .inr x,v=>Value.isStrOf x v
def Rm (w:World):Key->Int
 | .inl k=>hashInt k
 | .inr x=>hashStr w x
theorem fu:∀{k:Key} {v:Value},Nq k v=true->(∃i t,k=Sum.inl i/\v=Value.int i t)\/(∃x t,k=Sum.inr x/\v=Value.str x t)
 | .inl i,v,h=>by
  obtain ⟨t,e⟩:=Value.isInt_shape (k:=i) (v:=v) h;exact .inl ⟨i,t,rfl,e⟩
 | .inr x,v,h=>by
  obtain ⟨t,e⟩:=Value.isStrOf_shape (x:=x) (v:=v) h;exact .inr ⟨x,t,rfl,e⟩
theorem OS (a b:Int):decide ((Sum.inl a:Key)=Sum.inl b)=(a == b):=by
 by_cases e:a=b
 ·subst e;simp
 ·have h:¬(Sum.inl a:Key)=Sum.inl b:=λq=>e (Sum.inl.inj q)
  rw[decide_eq_false h];exact (beq_eq_false_iff_ne.mpr e).symm
theorem OP (a b:Str):decide ((Sum.inr a:Key)=Sum.inr b)=decide (a=b):=by
 by_cases e:a=b
 ·subst e;simp
 ·have h:¬(Sum.inr a:Key)=Sum.inr b:=λq=>e (Sum.inr.inj q)
  rw[decide_eq_false h,decide_eq_false e]
theorem OR (a:Int) (b:Str):decide ((Sum.inl a:Key)=Sum.inr b)=false:=decide_eq_false (λq=>nomatch q)
theorem OQ (a:Str) (b:Int):decide ((Sum.inr a:Key)=Sum.inl b)=false:=decide_eq_false (λq=>nomatch q)
def GO (prog:Program) (w:World):PySem.KeyKind prog w Key where
 is:=Nq
 hash:=Rm w
 inj:=λv a b ha hb=>by
  rcases fu ha with ⟨i,t,rfl,rfl⟩ | ⟨x,t,rfl,rfl⟩
  ·rcases fu hb with ⟨j,u,rfl,e⟩ | ⟨y,u,rfl,e⟩
   ·injection e with e1 _;rw[e1]
   ·exact nomatch e
  ·rcases fu hb with ⟨j,u,rfl,e⟩ | ⟨y,u,rfl,e⟩
   ·exact nomatch e
   ·injection e with e1 _;rw[e1]
 byValue:=λk v h=>by
  rcases fu h with ⟨i,t,rfl,rfl⟩ | ⟨x,t,rfl,rfl⟩ <;> rfl
 pyHash:=λhv h=>by
  rcases fu hv with ⟨i,t,rfl,rfl⟩ | ⟨x,t,rfl,rfl⟩
  ·exact wpAny_pyHash_int h
  ·exact wpAny_pyHash_str h
 eqBool:=λhu hv h=>by
  rcases fu hu with ⟨i,t,rfl,rfl⟩ | ⟨x,t,rfl,rfl⟩
  ·rcases fu hv with ⟨j,u,rfl,rfl⟩ | ⟨y,u,rfl,rfl⟩
   ·rw[OS] at h;exact wpAny_eqBool_int h
   ·rw[OR] at h;exact SeqAt.EqAt.int_str i t y u _ _ _ _ h
  ·rcases fu hv with ⟨j,u,rfl,rfl⟩ | ⟨y,u,rfl,rfl⟩
   ·rw[OQ] at h;exact SeqAt.EqAt.str_int x t j u _ _ _ _ h
   ·rw[OP] at h;exact wpAny_eqBool_str h
 «strs»:=λk x t v h=>by
  rcases fu h with ⟨i,u,rfl,e⟩ | ⟨y,u,rfl,e⟩
  ·exact nomatch e
  ·injection e with e1 _
   subst e1;cases v <;> rfl
inductive V where
  | non | bl (b : Bool) | int (i : Int) | str (x : Str) | byt (b : Array UInt8) | flt (b : UInt64) | ref (a : Addr) | ty (n : String)
  deriving DecidableEq

def RelV:V->Value->Prop
 | .non,u=>u=Value.none
 | .bl b,u=>u=Value.bool b
 | .int i,u=>∃t,u=Value.int i t
 | .str x,u=>∃t,u=Value.str x t
 | .byt b,u=>∃t,u=Value.bytes b t
 | .flt b,u=>∃t,u=Value.float b t
 | .ref a,u=>u=Value.ref a
 | .ty n,u=>u=Value.type n
abbrev cO:List V->List Value->Prop:=Paired RelV
theorem cO.length {xs:List V} {us:List Value} (r:cO xs us):xs.length=us.length:=Paired.length r
theorem cO.get:∀{xs:List V} {us:List Value} {i:Nat} {x:V},cO xs us->xs[i]?=some x->∃u,us[i]?=some u/\RelV x u
 | _,_,_,_,.nil,e=>by simp at e
 | _,_,0,_,.cons r _,e=>by simp at e;subst e;exact ⟨_,rfl,r⟩
 | _,_,i+1,x,.cons _ t,e=>by
  obtain ⟨u,h1,h2⟩:=cO.get (i:=i) (x:=x) t (by simpa using e);exact ⟨u,by simpa using h1,h2⟩
theorem cO.set {x:V} {u:Value} (r:RelV x u):∀{xs:List V} {us:List Value} (i:Nat),cO xs us->cO (xs.set i x) (us.set i u)
 | _,_,_,.nil=>.nil
 | _,_,0,.cons _ t=>.cons r t
 | _,_,i+1,.cons q t=>.cons q (cO.set r i t)
theorem cO.append:∀{xs ys:List V} {us ws:List Value},cO xs us->cO ys ws->cO (xs++ys) (us++ws)
 | _,_,_,_,.nil,s=>s
 | _,_,_,_,.cons r t,s=>.cons r (cO.append t s)
theorem cO.take:∀{xs:List V} {us:List Value} (n:Nat),cO xs us->cO (xs.take n) (us.take n)
 | _,_,0,_=>.nil
 | _,_,_+1,.nil=>.nil
 | _,_,n+1,.cons r t=>.cons r (cO.take n t)
theorem cO.drop:∀{xs:List V} {us:List Value} (n:Nat),cO xs us->cO (xs.drop n) (us.drop n)
 | _,_,0,r=>r
 | _,_,_+1,.nil=>.nil
 | _,_,n+1,.cons _ t=>cO.drop n t
def A3:Option V->Option Value->Prop
 | some v,some u=>RelV v u
 | none,none=>True
 | _,_=>False
def KV {κ:Type}:List (κ×V)->List (κ×Value)->Prop:=Paired λ(p:κ×V) (q:κ×Value)=>p.1=q.1/\RelV p.2 q.2
def kV:Key->V
 | .inl i=>.int i
 | .inr x=>.str x
inductive HO where
 | lst (xs:List V)
 | tup (xs:List V)
 | dK (kvs:List (Key×V)) | dT (kvs:List (List Key×V))
 | set (S:Int->Bool) (n:Nat)
 | ins (C dx:Addr) (fs:List (Str×V))
 | own (x:Addr)
 | xd (fs:List (Str×V))
 | met (f x:Addr)
 | rng (lo hi:Int)
 | frz (o:Obj) (u:HO)
 | tbl (ps:Array Value)
 | ext (φ:Heap->Prop)
abbrev Hp:=Addr->Option HO
def upd (H:Hp) (a:Addr) (o:HO):Hp:=λb=>if b=a then some o else H b
theorem aK {H:Hp} {a:Addr} {o:HO}:upd H a o a=some o:=by unfold upd;rw[if_pos rfl]
theorem bG {H:Hp} {a b:Addr} {o:HO} (h:b≠a):upd H a o b=H b:=by unfold upd;rw[if_neg h]
theorem fG {H:Hp} {a b:Addr} {o:HO} (h:H a=some o) (h':H b=none):a≠b:=by
 intro e;subst e;rw[h] at h';cases h'
section
variable (P:Program) (w:World)
def gi (H:Hp) (h:Heap) (a:Addr):HO->Prop
 | .lst xs=>xs.length<=sizeLine/\∃(its:List Value) (n:Nat),cO xs its/\h.get? a=some { cls:=.type "list",data:=.seq its.toArray n }
 | .tup xs=>xs.length<=sizeLine/\∃its:List Value,cO xs its/\IsTup h a its.toArray
 | .dK kvs=>kvs.length<=sizeLine/\(a == sysModules)=false/\∃vs,KV kvs vs/\h.DictOf (GO P w) a vs
 | .dT kvs=>kvs.length<=sizeLine/\(a == sysModules)=false/\∃xs:List (List Key×Addr×Value),
   Paired (λ(p:List Key×V) (q:List Key×Addr×Value)=>p.1=q.1/\H q.2.1=some (.tup (p.1.map kV))/\RelV p.2 q.2.2) kvs xs /\
   ∃o es ep,h.get? a=some o/\o.ExactDict/\o.data=.dict es ep/\es.toList=xs.map (entryOfKey (tupleKind (GO P w)))/\(xs.map (·.1)).Nodup
 | .set S n=>h.SetOf (intKind P w) a S n
 | .ins C dx fs=>H dx=some (.own a)/\fs.length<=1000/\dx≠a/\h.get? a=some (PySem.W.instObj C dx) /\
   ∃mA,h.Ns1 dx mA/\(∀f,A3 (fs.lookup f) (mA f))/\PySem.Within mA (fs.map (·.1))
 | .own _=>∃o,h.get? a=some o
 | .xd fs=>∃mA,h.Ns1 a mA/\∀f,A3 (fs.lookup f) (mA f)
 | .rng lo hi=>∃t u v,h.get? a=some { cls:=.type "range",data:=.fields #[.int lo t,.int hi u,.int 1 v] }
 | .frz o u=>h.get? a=some o/\gi H h a u
 | .tbl ps=>h.get? a=some { cls:=.none,data:=.fields ps }
 | .met f x=>h.get? a=some (PySem.W.methodObj (.ref f) (.ref x))
 | .ext φ=>φ h/\(∃o,h.get? a=some o)/\∀h1 h2:Heap,φ h1->(∀o,h1.get? a=some o->h2.get? a=some o)->φ h2
def yO (H:Hp) (h:Heap):Prop:=∀a o,H a=some o->gi P w H h a o
end
section
variable {P:Program} {w:World} {H H':Hp} {h h':Heap} {a:Addr} {o:HO}
theorem gi.lt (x:gi P w H h a o):a < h.objs.size:=by
 cases o with
 | lst xs=>obtain ⟨_,_,_,_,e⟩:=x;exact Heap.lt_size e
 | tup xs=>obtain ⟨_,_,_,p⟩:=x;exact p.lt
 | dK kvs=>obtain ⟨_,_,_,_,o,_,_,e,_⟩:=x;exact Heap.lt_size e
 | dT kvs=>obtain ⟨_,_,_,_,o,_,_,e,_⟩:=x;exact Heap.lt_size e
 | set S n=>obtain ⟨o,_,_,_,e,_⟩:=x;exact Heap.lt_size e
 | ins C dx fs=>obtain ⟨_,_,_,e,_⟩:=x;exact Heap.lt_size e
 | own y=>obtain ⟨_,e⟩:=x;exact Heap.lt_size e
 | xd fs=>obtain ⟨_,⟨_,_,_,e,_⟩,_⟩:=x;exact Heap.lt_size e
 | rng lo hi=>obtain ⟨_,_,_,e⟩:=x;exact Heap.lt_size e
 | frz ob u=>obtain ⟨e,_⟩:=x;exact Heap.lt_size e
 | tbl ps=>exact Heap.lt_size (show h.get? a=some _ from x)
 | met f y=>exact Heap.lt_size (show h.get? a=some _ from x)
 | ext φ=>obtain ⟨_,⟨_,e⟩,_⟩:=x;exact Heap.lt_size e
theorem Paired.mapP {α β:Type} {F G:α->β->Prop}:∀{l₁:List α} {l₂:List β},Paired F l₁ l₂->(∀a b,F a b->G a b)->Paired G l₁ l₂
 | _,_,.nil,_=>.nil
 | _,_,.cons r t,f=>.cons (f _ _ r) (Paired.mapP t f)
theorem Paired.imp' {α β:Type} {F G:α->β->Prop} (f:∀a b,F a b->G a b) {l₁:List α} {l₂:List β} (r:Paired F l₁ l₂):Paired G l₁ l₂:=Paired.mapP r f
theorem gi.stay (x:gi P w H h a o) (k:∀b u,(b=a\/H b=some (.own a))->h.get? b=some u->h'.get? b=some u)
  (ho:∀b,H b=some (.own a)->H' b=some (.own a)) (ht:∀b xs,H b=some (.tup xs)->H' b=some (.tup xs)):gi P w H' h' a o:=by
 induction o with
 | lst xs=>obtain ⟨z,its,n,r,e⟩:=x;exact ⟨z,its,n,r,k _ _ (.inl rfl) e⟩
 | tup xs=>obtain ⟨z,its,r,ob,e,c⟩:=x;exact ⟨z,its,r,ob,k _ _ (.inl rfl) e,c⟩
 | dK kvs=>obtain ⟨z,y,vs,r,ob,es,ep,e,c⟩:=x;exact ⟨z,y,vs,r,ob,es,ep,k _ _ (.inl rfl) e,c⟩
 | dT kvs =>
  obtain ⟨z,y,xs,r,ob,es,ep,e,c⟩:=x;exact ⟨z,y,xs,Paired.mapP r λp q z=>⟨z.1,ht _ _ z.2.1,z.2.2⟩,ob,es,ep,k _ _ (.inl rfl) e,c⟩
 | set S n=>obtain ⟨ob,es,ep,t,e,c⟩:=x;exact ⟨ob,es,ep,t,k _ _ (.inl rfl) e,c⟩
 | ins C dx fs =>
  obtain ⟨d,z,ne,e,mA,⟨od,es,ep,e2,c⟩,r⟩:=x;exact ⟨ho _ d,z,ne,k _ _ (.inl rfl) e,mA,⟨od,es,ep,k _ _ (.inr d) e2,c⟩,r⟩
 | own y=>obtain ⟨ob,e⟩:=x;exact ⟨ob,k _ _ (.inl rfl) e⟩
 | xd fs=>obtain ⟨mA,⟨od,es,ep,e,c⟩,r⟩:=x;exact ⟨mA,⟨od,es,ep,k _ _ (.inl rfl) e,c⟩,r⟩
 | rng lo hi=>obtain ⟨t,u,v,e⟩:=x;exact ⟨t,u,v,k _ _ (.inl rfl) e⟩
 | frz ob u ih=>obtain ⟨e,q⟩:=x;exact ⟨k _ _ (.inl rfl) e,ih q⟩
 | tbl ps =>
  have e:h.get? a=some { cls:=.none,data:=.fields ps }:=x;show h'.get? a=some { cls:=.none,data:=.fields ps }
  exact k a _ (.inl rfl) e
 | met f y =>
  have e:h.get? a=some (PySem.W.methodObj (.ref f) (.ref y)):=x;show h'.get? a=some (PySem.W.methodObj (.ref f) (.ref y))
  exact k a _ (.inl rfl) e
 | ext φ=>obtain ⟨p,⟨o,e⟩,st⟩:=x;exact ⟨st _ _ p λo q=>k _ _ (.inl rfl) q,⟨o,k _ _ (.inl rfl) e⟩,st⟩
theorem yO.lt (x:yO P w H h) (e:H a=some o):a < h.objs.size:=(x a o e).lt
theorem yO.fresh (x:yO P w H h) (e:h.objs.size<=a):H a=none:=by
 cases q:H a with
 | none=>rfl
 | some u=>exact absurd (bI (x.lt q) e) (eo _)
theorem yO.kept (x:yO P w H h) (k:∀b u,h.get? b=some u->h'.get? b=some u):yO P w H h':=λa o e =>
 (x a o e).stay (λb u _ q=>k b u q) (λ_ q=>q) λ_ _ q=>q
theorem yO.laid (x:yO P w H h) (k:∀b u,h.get? b=some u->h'.get? b=some u) (hp:h.objs.size<=a) (new:gi P w (upd H a o) h' a o):yO P w (upd H a o) h':=λb u e=>by
 have hn:=x.fresh hp;by_cases hb:b=a
 ·subst hb;rw[aK] at e;cases e;exact new
 ·rw[bG hb] at e;exact (x b u e).stay (λc v _ q=>k c v q) (λc q=>by rw[bG (fG q hn)];exact q) λc xs q=>by rw[bG (fG q hn)];exact q
end
def Rd (H:Hp) (a:Addr) (u:HO):Prop:=H a=some u\/∃o,H a=some (.frz o u)
theorem Rd.ok {P:Program} {w:World} {H:Hp} {h:Heap} {a:Addr} {u:HO} (r:Rd H a u) (x:yO P w H h):gi P w H h a u:=by
 rcases r with r | ⟨o,r⟩
 ·exact x a u r
 ·obtain ⟨_,q⟩:=x a _ r;exact q
def Q5:Option HO->Prop
 | some (.lst _)=>True
 | some (.dK _)=>True
 | some (.dT _)=>True
 | some (.set _ _)=>True
 | some (.ins _ _ _)=>True
 | some (.ext _)=>True
 | _=>False
section
variable {P:Program} {w:World} {H:Hp} {h h':Heap} {x e:Addr} {o':HO}
theorem yO.write (ok:yO P w H h) (mu:Q5 (H x)) (he:e=x\/H e=some (.own x)) (k:∀b u,b≠e->h.get? b=some u->h'.get? b=some u) (heo:∃u,h'.get? e=some u)
  (new:gi P w (upd H x o') h' x o'):yO P w (upd H x o') h':=λb u q=>by
 have nown:∀c y,H c=some (.own y)->c≠x:=λc y r z=>by subst z;rw[r] at mu;exact mu
 have ntup:∀c xs,H c=some (.tup xs)->c≠x:=λc xs r z=>by subst z;rw[r] at mu;exact mu
 by_cases hb:b=x
 ·subst hb;rw[aK] at q;cases q;exact new
 ·rw[bG hb] at q;by_cases hbe:b=e
  ·have q':H b=some (.own x):=by
    rcases he with z | z
    ·exact absurd (hbe.trans z) hb
    ·rw[hbe];exact z
   rw[q] at q';cases q';obtain ⟨v,hv⟩:=heo;exact ⟨v,by rw[hbe];exact hv⟩
  ·refine (ok b u q).stay (λc v hc r=>k c v ?_ r) (λc r=>by rw[bG (nown c b r)];exact r) λc xs r=>by rw[bG (ntup c xs r)];exact r
   rcases hc with rfl | hc
   ·exact hbe
   ·rintro rfl;rcases he with z | z
    ·exact nown c b hc z
    ·rw[hc] at z;cases z;exact hb rfl
end
structure Un (fs ex:List Addr) (H H':Hp) (h h':Heap):Prop where
 keep:∀b o,h.get? b=some o->H b=none->b∉fs->b∉ex->h'.get? b=some o
 slot:∀b o,h.get? b=some o->H b=none->b∈fs->b∉ex->∃sl,h'.get? b=some { o with slots:=sl }
 free:∀b o,h.get? b=some o->H b=none->b∉ex->H' b=none
 there:∀b o,h.get? b=some o->b∉ex->∃o',h'.get? b=some o'
 tups:∀b xs,H b=some (.tup xs)->H' b=some (.tup xs)
 frzs:∀b o u,H b=some (.frz o u)->H' b=some (.frz o u)
 tbls:∀b ps,H b=some (.tbl ps)->∃more,H' b=some (.tbl (ps++more))
section
variable {fs fs' ex ex':List Addr} {H H1 H2:Hp} {h h1 h2 h':Heap} {a x e:Addr} {o:HO}
theorem Un.any (u:Un fs ex H H1 h h1) {b:Addr} {ob:Obj} (q:h.get? b=some ob) (n:H b=none) (hx:b∉ex):∃sl,h1.get? b=some { ob with slots:=sl }:=by
 by_cases hb:b∈fs
 ·exact u.slot b ob q n hb hx
 ·exact ⟨ob.slots,u.keep b ob q n hb hx⟩
theorem Un.kept (k:∀b u,h.get? b=some u->h'.get? b=some u):Un fs ex H H h h' :=
 ⟨λb ob q _ _ _=>k b ob q,λb ob q _ _ _=>⟨ob.slots,k b ob q⟩,λ_ _ _ n _=>n,λb ob q _=>⟨ob,k b ob q⟩,λ_ _ q=>q,λ_ _ _ q=>q,λ_ ps q=>⟨#[],by rw[q];simp⟩⟩
theorem Un.refl:Un fs ex H H h h:=Un.kept λ_ _ q=>q
theorem Un.laid (k:∀b u,h.get? b=some u->h'.get? b=some u) (hp:h.objs.size<=a) (hn:H a=none):Un fs ex H (upd H a o) h h' where
 keep:=λb u q _ _ _=>k b u q
 slot:=λb u q _ _ _=>⟨u.slots,k b u q⟩
 free:=λb u q n _=>by rw[bG (bZ (bI (Heap.lt_size q) hp))];exact n
 there:=λb u q _=>⟨u,k b u q⟩
 tups:=λb xs q=>by rw[bG (fG q hn)];exact q
 frzs:=λb u xs q=>by rw[bG (fG q hn)];exact q
 tbls:=λb ps q=>⟨#[],by rw[bG (fG q hn),q];simp⟩
theorem Un.write (mu:Q5 (H x)) (he:e=x\/H e=some (.own x)) (k:∀b u,b≠e->h.get? b=some u->h'.get? b=some u) (heo:∃u,h'.get? e=some u):Un fs ex H (upd H x o) h h':=by
 have hx:∀b,H b=none->b≠x:=λb n z=>by subst z;rw[n] at mu;exact mu
 have hb:∀b,H b=none->b≠e:=λb n z=>by
  subst z;rcases he with r | r
  ·exact hx b n r
  ·rw[n] at r;cases r
 have hm:∀b u,H b=some u->¬Q5 (some u)->b≠x:=λb u q nm z=>by subst z;rw[q] at mu;exact nm mu
 refine ⟨λb u q n _ _=>k b u (hb b n) q,λb u q n _ _=>⟨u.slots,k b u (hb b n) q⟩,λb u q n _=>by rw[bG (hx b n)];exact n,λb u q _=>?_,
  λb xs q=>by rw[bG (hm b _ q λz=>z)];exact q,λb u xs q=>by rw[bG (hm b _ q λz=>z)];exact q,λb ps q=>⟨#[],by rw[bG (hm b _ q λz=>z),q];simp⟩⟩
 by_cases hbe:b=e
 ·subst hbe;exact heo
 ·exact ⟨u,k b u hbe q⟩
end
def QZ (h:Heap) (H:Hp):List Addr:=(List.range h.objs.size).filter λa=>(H a).isSome
def Dw (h:Heap) (H:Hp):Heap:=PySem.W.hideAll h (QZ h H)
theorem IU (h:Heap) (H:Hp):(Dw h H).objs.size=h.objs.size:=PySem.W.hideAll_size _ _
theorem KC {h:Heap} {H:Hp} {b:Addr} {o:Obj} (e:h.get? b=some o) (n:H b=none):(Dw h H).get? b=some o :=
 PySem.W.hideAll_get _ e λhm=>by
  have q:(H b).isSome=true:=(Lo.mp hm).2;rw[n] at q;simp at q
theorem Mz {h:Heap} {H:Hp} {b:Addr} {o:Obj} (e:(Dw h H).get? b=some o):h.get? b=some o/\H b=none:=by
 have e':h.get? b=some o:=PySem.W.of_hideAll (QZ h H) e;refine ⟨e',?_⟩;cases q:H b with
 | none=>rfl
 | some x =>
  have hm:b∈QZ h H:=Lo.mpr ⟨tI.mpr (Heap.lt_size e'),by simp [q]⟩;have z:(Dw h H).get? b=none:=PySem.W.hideAll_none (QZ h H) hm;rw[z] at e;cases e
structure Mod (K:FG9) (mg:Str->Option Value) (base:Heap):Prop where
 kin:K.In base
 glob:base.Ns mainGlobals mg
 blt:∃mb,base.Ns builtinsNs mb/\∀x:Str,x≠"__name__"->mb x=bootBuiltins x
 nolimit:base.NoLimit
structure Cx where
 prog:Program
 w:World
 K:FG9
 mg:Str->Option Value
 base:Heap
 A:Around
 N:List Str
 s₀:Shared
 H₀:Hp
 env:Env
 outer:List Env
 stack:List Env
 ex:List Addr
 fn:Str->Bool
 calm:Bool
 pn:List (Addr×Obj)
 xe:Value->Shared->Prop
def Jh (l:List Env):List Addr:=l.filterMap (·.frame)
abbrev Cx.fs (X:Cx):List Addr:=Jh X.outer
def Ry (sc:Scope) (x:Str):Prop:=sc.names.lookup x=some .local\/sc.names.lookup x=some .cell\/sc.names.lookup x=some .free
def Loc (sc:Scope) (x:Str):Prop:=sc.names.lookup x=some .local\/sc.names.lookup x=some .cell
def Look (env:Env) (h:Heap) (m:Str->Option Value) (x:Str) (u:Value):Prop :=
 (env.kindOf x=some .local/\m x=some u)\/((env.kindOf x=some .cell\/env.kindOf x=some .free)/\∃c,env.cells.lookup x=some c/\h.IsCell c (some u))
structure Cx.Ok (X:Cx):Prop where
 mod:Mod X.K X.mg X.base
 kind:X.env.scope.kind=.function
 glob:X.env.globals=mainGlobals
 blt:X.env.builtins=builtinsNs
 above:X.s₀.heap.objs.size<=X.env.locals
 inj:∀x y c,X.env.cells.lookup x=some c->X.env.cells.lookup y=some c->x=y
 has:∀x,(X.env.kindOf x=some .cell\/X.env.kindOf x=some .free)->∃c,X.env.cells.lookup x=some c
 cab:∀x c,X.fn x=true->X.env.cells.lookup x=some c->X.s₀.heap.objs.size<=c
 hd:X.calm=true->X.A.handled=none
 frames:X.A.frames=some X.stack
 stk:X.stack=X.outer\/(X.stack=X.env :: X.outer/\X.env.frame=some X.env.locals)
 exf:∀b∈X.ex,b≠X.env.locals/\∀x c,X.env.cells.lookup x=some c->c≠b
 bs:∀b o,X.base.get? b=some o->X.s₀.heap.get? b=some o/\X.H₀ b=none
 bsz:X.base.objs.size<=X.s₀.heap.objs.size
 noex:∀b o,X.base.get? b=some o->b∉X.ex
 exfs:∀b∈X.ex,b∉X.fs
 funs:X.s₀.heap.FunFrames X.base X.outer
 frf:∀b∈X.fs,X.H₀ b=none
structure Inv (X:Cx) (pins:List (Addr×Obj)) (σ:List (Option V)) (H:Hp) (s:Shared):Prop where
 ok:X.Ok
 os:s.os=X.s₀.os
 bare:AllBare s.gens
 base:Un X.fs X.ex X.H₀ H X.s₀.heap s.heap
 loc:∃m,s.heap.Ns X.env.locals m/\∀(i:Nat) (x:Str) (v:V),X.N[i]?=some x->σ[i]?=some (some v)->Ry X.env.scope x->∃u,RelV v u/\Look X.env s.heap m x u
 cell:∀x c,X.env.cells.lookup x=some c->∃v,s.heap.IsCell c v
 free:H X.env.locals=none
 freeC:∀x c,X.env.cells.lookup x=some c->H c=none
 pin:∀p∈X.pn++pins,s.heap.get? p.1=some p.2/\H p.1=none/\p.1≠X.env.locals/\p.1∉X.fs/\∀v,p.2.data≠.cell v
 hok:yO X.prog X.w H s.heap
 len:σ.length=X.N.length
section
variable {X:Cx} {pins:List (Addr×Obj)} {σ:List (Option V)} {H H':Hp} {s:Shared} {h':Heap}
theorem Cx.Ok.nofr (ok:X.Ok) {b:Addr} {o:Obj} (e:X.base.get? b=some o):b∉X.fs:=λhb=>by
 have:=(ok.funs.mem hb).1;rw[e] at this;cases this
theorem Inv.bs (I:Inv X pins σ H s):∀b o,X.base.get? b=some o->s.heap.get? b=some o/\H b=none:=λb o e =>
 ⟨I.base.keep b o (I.ok.bs b o e).1 (I.ok.bs b o e).2 (I.ok.nofr e) (I.ok.noex b o e),I.base.free b o (I.ok.bs b o e).1 (I.ok.bs b o e).2 (I.ok.noex b o e)⟩
theorem Inv.bk (I:Inv X pins σ H s):∀b o,X.base.get? b=some o->s.heap.get? b=some o:=λb o e=>(I.bs b o e).1
theorem Inv.mod (I:Inv X pins σ H s):Mod X.K X.mg X.base:=I.ok.mod
theorem Inv.kIn (I:Inv X pins σ H s):X.K.In s.heap:=I.ok.mod.kin.keeps I.bk
theorem Inv.lt (I:Inv X pins σ H s):X.env.locals < s.heap.objs.size:=let ⟨_,hn,_⟩:=I.loc;hn.lt
theorem Inv.sz (I:Inv X pins σ H s):X.s₀.heap.objs.size<=s.heap.objs.size:=ai I.ok.above (aZ I.lt)
theorem Inv.nofs (I:Inv X pins σ H s) {a:Addr} (h:s.heap.objs.size<=a):a∉X.fs:=λhb=>by
 obtain ⟨_,o,ho,_⟩:=I.ok.funs.mem hb;exact absurd (bI (Heap.lt_size ho) (ai I.sz h)) (eo _)
theorem Inv.cne (I:Inv X pins σ H s):∀x c,X.env.cells.lookup x=some c->c≠X.env.locals:=λx c e z=>by
 obtain ⟨v,o,ho,hd⟩:=I.cell x c e;obtain ⟨m,⟨o',es,ep,ho',hd',_⟩,_⟩:=I.loc;rw[z,ho'] at ho;cases ho;rw[hd'] at hd;cases hd
theorem Inv.funs (I:Inv X pins σ H s):s.heap.FunFrames X.base X.outer:=by
 have all:∀(l:List Env),(∀b∈Jh l,b∈X.fs)->X.s₀.heap.FunFrames X.base l->s.heap.FunFrames X.base l:=by
  intro l
  induction l with
  | nil=>intro _ _;trivial
  | cons env r ih =>
   intro hs hl;obtain ⟨hk,⟨L,o,hf,hn,ho,hd⟩,hr⟩:=hl;have hL:L∈X.fs:=hs L (by unfold Jh;rw[DU,hf];exact dk);obtain ⟨sl,e⟩:=I.base.slot L o ho (I.ok.frf L hL) hL λz=>I.ok.exfs L z hL
   exact ⟨hk,⟨L,_,hf,hn,e,hd⟩,ih (λb hb=>hs b (by unfold Jh;rw[DU,hf];exact bW _ hb)) hr⟩
 exact all X.outer (λ_ hb=>hb) I.ok.funs
theorem Inv.stack (I:Inv X pins σ H s):s.heap.FunFrames X.base X.stack:=by
 rcases I.ok.stk with e | ⟨e,hf⟩
 ·rw[e];exact I.funs
 ·rw[e];obtain ⟨m,hn,_⟩:=I.loc;refine .cons (by rw[I.ok.kind];decide) hf hn ?_ I.funs;exact Heap.get?_none_of_le (ai I.ok.bsz I.ok.above)
theorem Inv.stkSub (I:Inv X pins σ H s):∀b∈Jh X.stack,b∈X.env.locals :: X.fs:=λb hb=>by
 rcases I.ok.stk with e | ⟨e,hf⟩
 ·rw[e] at hb;exact bW _ hb
 ·rw[e] at hb;unfold Jh at hb;rw[DU,hf] at hb;exact hb
theorem Inv.stkFree (I:Inv X pins σ H s):∀b∈Jh X.stack,H b=none:=λb hb=>by
 rcases aB.mp (I.stkSub b hb) with e | hb
 ·rw[e];exact I.free
 ·obtain ⟨_,o,ho,_⟩:=I.ok.funs.mem hb;exact I.base.free b o ho (I.ok.frf b hb) λz=>I.ok.exfs b z hb
theorem Inv.step {g':Array GenState} {t':Nat} {d':Drawn} {ch:List Addr} (I:Inv X pins σ H s)
  (hch:∀b∈ch,(b∈X.ex\/X.s₀.heap.objs.size<=b)/\b≠X.env.locals/\(∀x c,X.env.cells.lookup x=some c->c≠b)/\∀p∈X.pn++pins,p.1≠b)
  (keep:∀b o,b≠X.env.locals->b∉X.fs->b∉ch->s.heap.get? b=some o->H b=none->h'.get? b=some o)
  (slot:∀b o,b≠X.env.locals->b∈X.fs->b∉ch->s.heap.get? b=some o->H b=none->∃sl,h'.get? b=some { o with slots:=sl }) (free:∀b o,b∉ch->s.heap.get? b=some o->H b=none->H' b=none)
  (there:∀b o,b∉ch->s.heap.get? b=some o->∃o',h'.get? b=some o')
  (tups:∀b xs,H b=some (.tup xs)->H' b=some (.tup xs)) (frzs:∀b o u,H b=some (.frz o u)->H' b=some (.frz o u)) (tbls:∀b ps,H b=some (.tbl ps)->∃more,H' b=some (.tbl (ps++more)))
  (ns:∀m,s.heap.Ns X.env.locals m->h'.Ns X.env.locals m) (hok:yO X.prog X.w H' h') (hg:AllBare g') :
  Inv X pins σ H' { s with heap:=h',gens:=g',drawn:=d',toks:=t' }:=by
 have neL:∀b o,X.s₀.heap.get? b=some o->b≠X.env.locals:=λb o e=>bZ (bI (Heap.lt_size e) I.ok.above)
 have neC:∀b o,X.s₀.heap.get? b=some o->b∉X.ex->b∉ch:=λb o e hx hb=>by
  rcases (hch b hb).1 with z | z
  ·exact hx z
  ·exact absurd (bI (Heap.lt_size e) z) (eo _)
 have cellK:∀x c,X.env.cells.lookup x=some c->∀v,s.heap.IsCell c v->h'.IsCell c v:=λx c e v ⟨o,ho,hd⟩=>by
  have nch:c∉ch:=λz=>(hch c z).2.2.1 x c e rfl
  by_cases hc:c∈X.fs
  ·obtain ⟨sl,q⟩:=slot c o (I.cne x c e) hc nch ho (I.freeC x c e);exact ⟨_,q,hd⟩
  ·exact ⟨o,keep c o (I.cne x c e) hc nch ho (I.freeC x c e),hd⟩
 refine ⟨I.ok,I.os,hg,⟨λb o e n hb hx=>?_,λb o e n hb hx=>?_,λb o e n hx=>?_,λb o e hx=>?_,λb xs e=>tups b xs (I.base.tups b xs e),λb o xs e=>frzs b o xs (I.base.frzs b o xs e),λb ps e=>?_⟩,?_,λx c e=>?_,?_,λx c e=>?_,λp hp=>?_,hok,I.len⟩
 ·exact keep b o (neL b o e) hb (neC b o e hx) (I.base.keep b o e n hb hx) (I.base.free b o e n hx)
 ·obtain ⟨sl,e1⟩:=I.base.slot b o e n hb hx;obtain ⟨sl',e2⟩:=slot b _ (neL b o e) hb (neC b o e hx) e1 (I.base.free b o e n hx);exact ⟨sl',e2⟩
 ·obtain ⟨o',e1⟩:=I.base.there b o e hx;exact free b o' (neC b o e hx) e1 (I.base.free b o e n hx)
 ·obtain ⟨o',e1⟩:=I.base.there b o e hx;exact there b o' (neC b o e hx) e1
 ·obtain ⟨m1,e1⟩:=I.base.tbls b ps e;obtain ⟨m2,e2⟩:=tbls b _ e1;exact ⟨m1++m2,by rw[e2,Array.append_assoc]⟩
 ·obtain ⟨m,hn,hl⟩:=I.loc;refine ⟨m,ns m hn,λi x v e1 e2 e3=>?_⟩;obtain ⟨u,r,l⟩:=hl i x v e1 e2 e3;refine ⟨u,r,?_⟩;rcases l with l | ⟨k,c,e,z⟩
  ·exact .inl l
  ·exact .inr ⟨k,c,e,cellK x c e _ z⟩
 ·obtain ⟨v,z⟩:=I.cell x c e;exact ⟨v,cellK x c e v z⟩
 ·obtain ⟨m,⟨o,_,_,ho,_⟩,_⟩:=I.loc;exact free _ o (λz=>(hch _ z).2.1 rfl) ho I.free
 ·obtain ⟨v,o,ho,hd⟩:=I.cell x c e;exact free c o (λz=>(hch c z).2.2.1 x c e rfl) ho (I.freeC x c e)
 ·obtain ⟨e,n,ne,nf,d⟩:=I.pin p hp;have nch:p.1∉ch:=λz=>(hch p.1 z).2.2.2 p hp rfl
  exact ⟨keep p.1 p.2 ne nf nch e n,free p.1 p.2 nch e n,ne,nf,d⟩
theorem Inv.un {t':Nat} (I:Inv X pins σ H s) (u:Un X.fs [] H H' s.heap h') (hok:yO X.prog X.w H' h'):Inv X pins σ H' { s with heap:=h',toks:=t' }:=by
 obtain ⟨m,⟨o,es,ep,ho,r⟩,_⟩:=id I.loc;obtain ⟨sl,hL⟩:=u.any ho I.free (by simp)
 exact I.step (g':=s.gens) (d':=s.drawn) (ch:=[]) (λ_ z=>nomatch z) (λb o _ hb _ e n=>u.keep b o e n hb (by simp)) (λb o _ hb _ e n=>u.slot b o e n hb (by simp)) (λb o _ e n=>u.free b o e n (by simp)) (λb o _ e=>u.there b o e (by simp)) u.tups u.frzs u.tbls (λm' hm=>by
  obtain ⟨o',es',ep',ho',r'⟩:=hm;rw[ho] at ho';cases ho';exact ⟨_,es',ep',hL,r'⟩) hok I.bare
theorem Inv.call {g':Array GenState} {t':Nat} {d':Drawn} {ch:List Addr} (I:Inv X pins σ H s) (u:Un (Jh X.stack) ch H H' s.heap h') (hok:yO X.prog X.w H' h') (hg:AllBare g')
  (hch:∀b∈ch,(b∈X.ex\/X.s₀.heap.objs.size<=b)/\b≠X.env.locals/\(∀x c,X.env.cells.lookup x=some c->c≠b)/\∀p∈X.pn++pins,p.1≠b) :
  Inv X pins σ H' { s with heap:=h',gens:=g',drawn:=d',toks:=t' }:=by
 obtain ⟨m,⟨o,es,ep,ho,r⟩,_⟩:=id I.loc;obtain ⟨sl,hL⟩:=u.any ho I.free λz=>(hch _ z).2.1 rfl
 exact I.step (ch:=ch) hch (λb o hL hb hc e n=>u.keep b o e n (λz=>(aB.mp (I.stkSub b z)).elim hL hb) hc) (λb o _ _ hc e n=>u.any e n hc) (λb o hc e n=>u.free b o e n hc) (λb o hc e=>u.there b o e hc) u.tups u.frzs u.tbls (λm' hm=>by
  obtain ⟨o',es',ep',ho',r'⟩:=hm;rw[ho] at ho';cases ho';exact ⟨_,es',ep',hL,r'⟩) hok hg
theorem Inv.turned {t':Nat} {it:Addr} (I:Inv X pins σ H s) (k:∀b o,b≠it->s.heap.get? b=some o->h'.get? b=some o) (hn:H it=none) (hL:it≠X.env.locals)
  (h1:it∈X.ex\/X.s₀.heap.objs.size<=it) (h2:∀x c,X.env.cells.lookup x=some c->c≠it) (h3:∀p∈X.pn++pins,p.1≠it):Inv X pins σ H { s with heap:=h',toks:=t' }:=by
 have nit:∀b u,H b=some u->b≠it:=λb u e z=>by rw[z,hn] at e;cases e
 refine I.step (g':=s.gens) (d':=s.drawn) (ch:=[it]) (λb hb=>?_) (λb o _ _ hc e _=>k b o (λz=>hc (by simp [z])) e) (λb o _ _ hc e _=>⟨o.slots,k b o (λz=>hc (by simp [z])) e⟩) (λ_ _ _ _ n=>n)
  (λb o hc e=>⟨o,k b o (λz=>hc (by simp [z])) e⟩) (λ_ _ e=>e) (λ_ _ _ e=>e) (λb ps e=>⟨#[],by rw[e];simp⟩) (λm hm=>?_) (λb u e=>?_) I.bare
 ·have e:b=it:=by simpa using hb
  subst e;exact ⟨h1,hL,h2,h3⟩
 ·obtain ⟨o,es,ep,ho,r⟩:=hm;exact ⟨o,es,ep,k _ o (Ne.symm hL) ho,r⟩
 ·refine (I.hok b u e).stay (λc v hc q=>k c v ?_ q) (λ_ q=>q) λ_ _ q=>q
  rcases hc with z | z
  ·rw[z];exact nit b u e
  ·exact nit c _ z
theorem Inv.tok (I:Inv X pins σ H s) (t:Nat):Inv X pins σ H { s with toks:=t }:=I.un (h':=s.heap) (t':=t) Un.refl I.hok
theorem Inv.kept {t':Nat} (I:Inv X pins σ H s) (k:∀b u,s.heap.get? b=some u->h'.get? b=some u):Inv X pins σ H { s with heap:=h',toks:=t' }:=I.un (Un.kept k) (I.hok.kept k)
theorem Inv.laid {a:Addr} {o:HO} {t':Nat} (I:Inv X pins σ H s) (k:∀b u,s.heap.get? b=some u->h'.get? b=some u) (hp:s.heap.objs.size<=a) (new:gi X.prog X.w (upd H a o) h' a o) :
  Inv X pins σ (upd H a o) { s with heap:=h',toks:=t' }:=I.un (Un.laid k hp (I.hok.fresh hp)) (I.hok.laid k hp new)
theorem Inv.write {x e:Addr} {o:HO} {t':Nat} (I:Inv X pins σ H s) (mu:Q5 (H x)) (he:e=x\/H e=some (.own x)) (k:∀b u,b≠e->s.heap.get? b=some u->h'.get? b=some u) (heo:∃u,h'.get? e=some u)
  (new:gi X.prog X.w (upd H x o) h' x o):Inv X pins σ (upd H x o) { s with heap:=h',toks:=t' }:=I.un (Un.write mu he k heo) (I.hok.write mu he k heo new)
theorem Inv.pins_of {pins':List (Addr×Obj)} (I:Inv X pins σ H s) (h:∀p∈pins',s.heap.get? p.1=some p.2/\H p.1=none/\p.1≠X.env.locals/\p.1∉X.fs/\∀v,p.2.data≠.cell v):Inv X pins' σ H s :=
 ⟨I.ok,I.os,I.bare,I.base,I.loc,I.cell,I.free,I.freeC,λp hp=>(aw.mp hp).elim (λz=>I.pin p (dX _ z)) (h p),I.hok,I.len⟩
theorem ED {N:List Str} (hN:N.Nodup) {i j:Nat} {x:Str} (a:N[i]?=some x) (b:N[j]?=some x):i=j:=by
 obtain ⟨h1,e1⟩:=aE.mp a;obtain ⟨h2,e2⟩:=aE.mp b;exact (List.getElem_inj hN).mp (e1.trans e2.symm)
theorem A9 {M:Model} {A:Around} {E:Value->Shared->Prop} {i:Nat} {x:Str} {v:V} {u:Value} {Q:Unit->Shared->Prop} (I:Inv X pins σ H s) (hN:X.N.Nodup) (hi:X.N[i]?=some x) (hx:Loc X.env.scope x) (r:RelV v u)
  (h:∀s',Inv X pins (σ.set i (some v)) H s'->(∃a,Heap.SameBut a s.heap s'.heap/\(a=X.env.locals\/X.env.cells.lookup x=some a))->Q () s') (hf:X.fn x=true\/X.env.scope.names.lookup x=some .local:=by first | exact .inl rfl | exact .inr rfl | assumption):wpAny M A (storeName X.env x u) Q E s:=by
 obtain ⟨m,hn,hl⟩:=id I.loc;have hcls:(X.env.scope.kind == .class || (X.env.scope.kind == .module && X.env.locals != X.env.globals))=false:=by rw[I.ok.kind];rfl
 have hiσ:i < σ.length:=by rw[I.len];exact (aE.mp hi).1
 have cne:=I.cne
 have tracked:∀{a:Addr} {h':Heap},(∃o,s.heap.get? a=some o/\H a=none)->Heap.SameBut a s.heap h'->yO X.prog X.w H h':=λ{a h'} ha hs b ob e=>by
  obtain ⟨_,_,hfree⟩:=ha;refine (I.hok b ob e).stay (λc w' hc q=>(hs.2 c ?_).trans q) (λ_ q=>q) λ_ _ q=>q
  rintro rfl;rcases hc with rfl | hc
  ·rw[hfree] at e;cases e
  ·rw[hfree] at hc;cases hc
 rcases hx with hk | hk
 ·refine wpAny_storeName_local hk hn (λh' hn' hs=>?_) hcls;obtain ⟨oL,_,_,hoL,_⟩:=id hn;refine h _ ⟨I.ok,I.os,I.bare,⟨λb o e n hb hx=>?_,λb o e n hb hx=>?_,I.base.free,λb o e hx=>?_,I.base.tups,I.base.frzs,I.base.tbls⟩,⟨_,hn',λj y v' e1 e2 e3=>?_⟩,λy c e=>?_,I.free,I.freeC,λp hp=>?_,tracked ⟨oL,hoL,I.free⟩ hs,by simpa using I.len⟩ ⟨_,hs,.inl rfl⟩
  ·exact (hs.2 b (bZ (bI (Heap.lt_size e) I.ok.above))).trans (I.base.keep b o e n hb hx)
  ·obtain ⟨sl,e1⟩:=I.base.slot b o e n hb hx;exact ⟨sl,(hs.2 b (bZ (bI (Heap.lt_size e) I.ok.above))).trans e1⟩
  ·obtain ⟨o',e1⟩:=I.base.there b o e hx;exact ⟨o',(hs.2 b (bZ (bI (Heap.lt_size e) I.ok.above))).trans e1⟩
  ·by_cases hj:j=i
   ·subst hj;rw[hi] at e1;cases e1;rw[List.getElem?_set_self hiσ] at e2;cases e2;exact ⟨u,r,.inl ⟨hk,by simp⟩⟩
   ·rw[List.getElem?_set_ne (Ne.symm hj)] at e2;obtain ⟨u',r',q⟩:=hl j y v' e1 e2 e3;refine ⟨u',r',?_⟩;rcases q with ⟨k,e⟩ | ⟨k,c,e,z⟩
    ·refine .inl ⟨k,?_⟩;have:y≠x:=λe=>hj (ED hN e1 (e ▸ hi))
     simp [this,e]
    ·exact .inr ⟨k,c,e,z.sameBut hs (cne y c e)⟩
  ·obtain ⟨w',z⟩:=I.cell y c e;exact ⟨w',z.sameBut hs (cne y c e)⟩
  ·obtain ⟨e,n,ne,nf,d⟩:=I.pin p hp;exact ⟨(hs.2 p.1 ne).trans e,n,ne,nf,d⟩
 ·have hfn:X.fn x=true:=by
   rcases hf with z | z
   ·exact z
   ·rw[z] at hk;cases hk
  obtain ⟨c,hc⟩:=I.ok.has x (.inl hk);obtain ⟨w',z⟩:=I.cell x c hc;refine wpAny_storeName_cell I.ok.kind hk hc z (λh' hc' hs=>?_);obtain ⟨oc,hoc,hocd⟩:=id z;refine h { s with heap:=h' } ⟨I.ok,I.os,I.bare,⟨λb o e n hb hx=>?_,λb o e n hb hx=>?_,I.base.free,λb o e hx=>?_,I.base.tups,I.base.frzs,I.base.tbls⟩,⟨m,hn.sameBut hs (Ne.symm (cne x c hc)),λj y v' e1 e2 e3=>?_⟩,λy c' e=>?_,I.free,I.freeC,λp hp=>?_,tracked ⟨oc,hoc,I.freeC x c hc⟩ hs,by simpa using I.len⟩ ⟨c,hs,.inr hc⟩
  ·exact (hs.2 b (bZ (bI (Heap.lt_size e) (I.ok.cab x c hfn hc)))).trans (I.base.keep b o e n hb hx)
  ·obtain ⟨sl,e1⟩:=I.base.slot b o e n hb hx;exact ⟨sl,(hs.2 b (bZ (bI (Heap.lt_size e) (I.ok.cab x c hfn hc)))).trans e1⟩
  ·obtain ⟨o',e1⟩:=I.base.there b o e hx;exact ⟨o',(hs.2 b (bZ (bI (Heap.lt_size e) (I.ok.cab x c hfn hc)))).trans e1⟩
  ·by_cases hj:j=i
   ·subst hj;rw[hi] at e1;cases e1;rw[List.getElem?_set_self hiσ] at e2;cases e2;exact ⟨u,r,.inr ⟨.inl hk,c,hc,hc'⟩⟩
   ·rw[List.getElem?_set_ne (Ne.symm hj)] at e2;obtain ⟨u',r',q⟩:=hl j y v' e1 e2 e3;refine ⟨u',r',?_⟩;rcases q with q | ⟨k,c',e,z'⟩
    ·exact .inl q
    ·refine .inr ⟨k,c',e,z'.sameBut hs ?_⟩;rintro rfl;exact hj (ED hN e1 (I.ok.inj _ _ _ e hc ▸ hi))
  ·by_cases hcc:c'=c
   ·subst hcc;exact ⟨_,hc'⟩
   ·obtain ⟨w2,z2⟩:=I.cell y c' e;exact ⟨w2,z2.sameBut hs hcc⟩
  ·obtain ⟨e,n,ne,nf,d⟩:=I.pin p hp;refine ⟨(hs.2 p.1 ?_).trans e,n,ne,nf,d⟩;intro q;rw[q,hoc] at e;have q':oc=p.2:=b6 e;exact d w' (by rw[<- q'];exact hocd)
theorem uB {M:Model} {A:Around} {E:Value->Shared->Prop} {i:Nat} {x:Str} {v:V} {u:Value} {Q:Unit->Shared->Prop} (I:Inv X pins σ H s) (hN:X.N.Nodup) (hi:X.N[i]?=some x) (hx:Loc X.env.scope x) (r:RelV v u)
  (h:∀s',Inv X pins (σ.set i (some v)) H s'->Q () s') (hf:X.fn x=true\/X.env.scope.names.lookup x=some .local:=by first | exact .inl rfl | exact .inr rfl | assumption):wpAny M A (storeName X.env x u) Q E s :=
 A9 I hN hi hx r (λs' I' _=>h s' I') hf
theorem Inv.call' {s':Shared} {ch:List Addr} (I:Inv X pins σ H s) (ho:s'.os=s.os) (u:Un (Jh X.stack) ch H H' s.heap s'.heap) (hok:yO X.prog X.w H' s'.heap) (hg:AllBare s'.gens)
  (hch:∀b∈ch,(b∈X.ex\/X.s₀.heap.objs.size<=b)/\b≠X.env.locals/\(∀x c,X.env.cells.lookup x=some c->c≠b)/\∀p∈X.pn++pins,p.1≠b):Inv X pins σ H' s':=by
 obtain ⟨h',g',d',t',o'⟩:=s';have e:o'=s.os:=ho;subst e;exact I.call (g':=g') (t':=t') (d':=d') u hok hg hch
end
abbrev XK:=Value->Option Addr->Hp->Prop
abbrev St:=List (Option V)
abbrev VK:=V->Hp->Prop
abbrev TE:=St->Hp->VK->Prop
abbrev TT:=St->Hp->(Bool->Hp->Prop)->Prop
abbrev TA:=St->Hp->(List V->Hp->Prop)->Prop
structure Ends where
 nx:St->Hp->Prop
 rt:VK
 bk:St->Hp->Prop:=λ_ _=>False
 ct:St->Hp->Prop:=λ_ _=>False
abbrev TS:=Ends->St->Hp->Prop
def EP (X:Cx) (pins:List (Addr×Obj)) (σ:St) (Q:VK) (u:Value) (s':Shared):Prop:=∃v H',Inv X pins σ H' s'/\RelV v u/\Q v H'
def TP (X:Cx) (pins:List (Addr×Obj)) (σ:St) (Q:Bool->Hp->Prop) (b:Bool) (s':Shared):Prop:=∃H',Inv X pins σ H' s'/\Q b H'
def AP (X:Cx) (pins:List (Addr×Obj)) (σ:St) (Q:List V->Hp->Prop) (us:List Value) (s':Shared):Prop:=∃vs H',Inv X pins σ H' s'/\cO vs us/\Q vs H'
def SP (X:Cx) (pins:List (Addr×Obj)) (D:Ends) (f:Flow) (s':Shared):Prop :=
 match f with
 | .next=>∃σ' H',Inv X pins σ' H' s'/\D.nx σ' H'
 | .brk=>∃σ' H',Inv X pins σ' H' s'/\D.bk σ' H'
 | .cont=>∃σ' H',Inv X pins σ' H' s'/\D.ct σ' H'
 | .ret u=>∃v σ' H',Inv X pins σ' H' s'/\RelV v u/\D.rt v H'
def PE (X:Cx) (e:Expr) (t:TE):Prop :=
 ∀(pins:List (Addr×Obj)) (s:Shared) (σ:St) (H:Hp) (Q:VK),Inv X pins σ H s->t σ H Q->wpAny (model X.prog X.w) X.A (eval e X.env) (EP X pins σ Q) X.xe s
def PT (X:Cx) (e:Expr) (t:TT):Prop :=
 ∀(pins:List (Addr×Obj)) (s:Shared) (σ:St) (H:Hp) (Q:Bool->Hp->Prop),Inv X pins σ H s->t σ H Q->wpAny (model X.prog X.w) X.A (isTrue e X.env (eval e X.env)) (TP X pins σ Q) X.xe s
def PW (X:Cx) (e:Expr) (t:TT):Prop :=
 ∀(whole:Sem Value) (pins:List (Addr×Obj)) (s:Shared) (σ:St) (H:Hp) (Q:Bool->Hp->Prop),Inv X pins σ H s->t σ H Q->wpAny (model X.prog X.w) X.A (isTrue e X.env whole) (TP X pins σ Q) X.xe s
theorem PW.pt {X:Cx} {e:Expr} {t:TT} (h:PW X e t):PT X e t:=h _
def PA (X:Cx) (es:List Expr) (t:TA):Prop :=
 ∀(pos:Pos) (pins:List (Addr×Obj)) (s:Shared) (σ:St) (H:Hp) (Q:List V->Hp->Prop),Inv X pins σ H s->t σ H Q->wpAny (model X.prog X.w) X.A (spliced (backTo pos (starEach es X.env))) (AP X pins σ Q) X.xe s
def PS (X:Cx) (st:Stmt) (t:TS):Prop :=
 ∀(pins:List (Addr×Obj)) (s:Shared) (σ:St) (H:Hp) (D:Ends),Inv X pins σ H s->t D σ H->wpAny (model X.prog X.w) X.A (exec st X.env) (SP X pins D) X.xe s
def F6 (X:Cx) (st:List Stmt) (t:TS):Prop :=
 ∀(pins:List (Addr×Obj)) (s:Shared) (σ:St) (H:Hp) (D:Ends),Inv X pins σ H s->t D σ H->wpAny (model X.prog X.w) X.A (execs st X.env) (SP X pins D) X.xe s
theorem gQ {α:Type} {t:Sem α} {Q Q':α->Shared->Prop} {M:Model} {A:Around} {E:Value->Shared->Prop} {s:Shared} (h:wpAny M A t Q E s) (hQ:∀a s,Q a s->Q' a s):wpAny M A t Q' E s:=wpAny_mono h hQ λ_ _ x=>x
section
variable {X:Cx}
def NU (i:Nat):TE:=λσ H Q=>∃v,σ[i]?=some (some v)/\Q v H
def tC (v:V):TE:=λ_ H Q=>Q v H
theorem OG {i:Nat} {x:Str} {pos:Pos} (hN:X.N[i]?=some x) (hv:Ry X.env.scope x) (hd:(x == ("__debug__":Str))=false:=by decide) (hcd:(x == ("__classdict__":Str))=false:=by decide):PE X (.Name x pos) (NU i):=by
 intro pins s σ H Q I h;obtain ⟨v,e,h⟩:=h;obtain ⟨m,hn,hl⟩:=I.loc;obtain ⟨u,r,l⟩:=hl i x v hN e hv;have fin:EP X pins σ Q u s:=⟨v,H,I,r,h⟩;rcases l with ⟨hk,hm⟩ | ⟨hk,c,hc,hcell⟩
 ·exact wpAny_Name (wpAny_loadName_local I.ok.kind hk hn hm fin) hd
 ·rcases hk with hk | hk
  ·exact wpAny_Name (wpAny_loadName_cell I.ok.kind hk hc hcell fin) hd
  ·exact wpAny_Name (wpAny_loadName_free I.ok.kind hk hc hcell fin hcd) hd
theorem ao {i j pos}:PE X (.Constant (.int i) j pos) (tC (.int i)):=λ_ _ _ H _ I h=>wpAny_Constant_int ⟨.int i,H,I.tok _,⟨_,rfl⟩,h⟩
theorem pL {b j pos}:PE X (.Constant (.bool b) j pos) (tC (.bl b)):=λ_ _ _ H _ I h=>Constant_bool ⟨.bl b,H,I,rfl,h⟩
theorem C3 {j pos}:PE X (.Constant .none j pos) (tC .non):=λ_ _ _ H _ I h=>Constant_none ⟨.non,H,I,rfl,h⟩
theorem mV {x j pos}:PE X (.Constant (.str x) j pos) (tC (.str x)):=λ_ _ _ H _ I h=>Calls.Constant_str ⟨.str x,H,I.tok _,⟨_,rfl⟩,h⟩
def Gl (X:Cx) (x:Str):Prop:=X.env.kindOf x=some .globalImplicit
theorem Dq {E:Value->Shared->Prop} {pins:List (Addr×Obj)} {s:Shared} {σ:St} {H:Hp} {x:Str} {u:Value} {pos:Pos} {Q:Value->Shared->Prop} (I:Inv X pins σ H s) (hg:Gl X x) (hm:X.mg x=some u) (h:Q u s)
  (hd:(x == ("__debug__":Str))=false:=by decide):wpAny (model X.prog X.w) X.A (eval (.Name x pos) X.env) Q E s :=
 Calls.Name_function_global I.ok.kind hg (Calls.loadGlobal_global (by rw[I.ok.glob];exact I.mod.glob.keeps I.bk) hm h) hd
theorem jT {E:Value->Shared->Prop} {pins:List (Addr×Obj)} {s:Shared} {σ:St} {H:Hp} {x:Str} {u:Value} {pos:Pos} {Q:Value->Shared->Prop} (I:Inv X pins σ H s) (hg:Gl X x) (hm:X.mg x=none) (hv:bootBuiltins x=some u) (h:Q u s)
  (hn:x≠"__name__":=by decide) (hd:(x == ("__debug__":Str))=false:=by decide):wpAny (model X.prog X.w) X.A (eval (.Name x pos) X.env) Q E s:=by
 obtain ⟨mb,h1,h2⟩:=I.mod.blt;exact Calls.Name_function_global I.ok.kind hg (Calls.loadGlobal_builtin (by rw[I.ok.glob];exact I.mod.glob.keeps I.bk) hm (by rw[I.ok.blt];exact h1.keeps I.bk) ((h2 x hn).trans hv) h) hd
theorem uK {x:Str} {v:V} {u:Value} {pos:Pos} (hg:Gl X x) (hm:X.mg x=some u) (r:RelV v u) (hd:(x == ("__debug__":Str))=false:=by decide):PE X (.Name x pos) (tC v) :=
 λ_ _ _ H _ I h=>Dq I hg hm ⟨v,H,I,r,h⟩ hd
theorem yK {x:Str} {v:V} {u:Value} {pos:Pos} (hg:Gl X x) (hm:X.mg x=none) (hv:bootBuiltins x=some u) (r:RelV v u) (hn:x≠"__name__":=by decide) (hd:(x == ("__debug__":Str))=false:=by decide):PE X (.Name x pos) (tC v) :=
 λ_ _ _ H _ I h=>jT I hg hm hv ⟨v,H,I,r,h⟩ hn hd
variable {a b:Expr} {ta tb:TE} {pos:Pos}
def tB (t:TE):TT:=λσ H Q=>t σ H λx H1=>∃c,x=.bl c/\Q c H1
theorem gN {e : Expr} {t : TE} (h : PE X e t) (he : ∀ whole, isTrue e X.env whole = (do let v <- whole; standAt e.pos; holding [v] (truthy v)) := by intro _; rfl) : PT X e (tB t) := by
  intro pins s σ H Q I hw;refine isTrue_plain (gQ (h pins s σ H _ I hw) λv s1 ⟨x, H1, I1, r1, q1⟩ => ?_) (he _);obtain ⟨d, rfl, q⟩ := q1;cases r1;exact wpAny_truthy_bool ⟨H1, I1, q⟩

variable {tA tB':TT} {rest:List Expr}
def PN (t u:TT):TT:=λσ H Q=>t σ H λc H1=>if c=true then u σ H1 Q else Q false H1
def tOr (t u:TT):TT:=λσ H Q=>t σ H λc H1=>if c=true then Q true H1 else u σ H1 Q
def PJ (t:TT):TT:=λσ H Q=>t σ H λc H1=>Q (!c) H1
theorem ju (ha:PT X a tA):PW X (.BoolOp .And [a] pos) tA:=by
 intro wh pins s σ H Q I h;refine isTrue_and (gQ (ha pins s σ H Q I h) λc s1 e=>?_);cases c with
 | true=>exact isTrue_and_nil e
 | false=>exact e
theorem kF (ha:PT X a tA):PW X (.BoolOp .Or [a] pos) tA:=by
 intro wh pins s σ H Q I h;refine isTrue_or (gQ (ha pins s σ H Q I h) λc s1 e=>?_);cases c with
 | false=>exact isTrue_or_nil e
 | true=>exact e
theorem iY (ha:PT X a tA) (hb:PW X (.BoolOp .And (b :: rest) pos) tB'):PW X (.BoolOp .And (a :: b :: rest) pos) (PN tA tB'):=by
 intro wh pins s σ H Q I h;refine isTrue_and (gQ (ha pins s σ H _ I h) λc s1 ⟨H1,I1,q1⟩=>?_);cases c with
 | true=>exact hb wh pins s1 σ H1 Q I1 q1
 | false=>exact ⟨H1,I1,q1⟩
theorem nJ (ha:PT X a tA) (hb:PW X (.BoolOp .Or (b :: rest) pos) tB'):PW X (.BoolOp .Or (a :: b :: rest) pos) (tOr tA tB'):=by
 intro wh pins s σ H Q I h;refine isTrue_or (gQ (ha pins s σ H _ I h) λc s1 ⟨H1,I1,q1⟩=>?_);cases c with
 | true=>exact ⟨H1,I1,q1⟩
 | false=>exact hb wh pins s1 σ H1 Q I1 q1
theorem jv (ha:PT X a tA):PT X (.UnaryOp .Not a pos) (PJ tA):=by
 intro pins s σ H Q I h;exact isTrue_not (ha pins s σ H (λc H1=>Q (!c) H1) I h)
def Ng (ta tb:TE):TE:=λσ H Q=>ta σ H λx H1=>∃c,x=.bl c/\if c=true then tb σ H1 Q else Q (.bl false) H1
def M8 (ta:TE):TE:=λσ H Q=>ta σ H λx H1=>∃c,x=.bl c/\Q (.bl (!c)) H1
theorem wL {op} {t:TE} (h:PE X a t):PE X (.BoolOp op [a] pos) t:=λpins s σ H Q I hw=>BoolOp_one (h pins s σ H Q I hw)
theorem wN (ha:PE X a ta) (hb:PE X (.BoolOp .And (b :: rest) pos) tb):PE X (.BoolOp .And (a :: b :: rest) pos) (Ng ta tb):=by
 intro pins s σ H Q I h;refine BoolOp_and (gQ (ha pins s σ H _ I h) λv s1 ⟨x,H1,I1,r1,q1⟩=>?_);obtain ⟨c,rfl,q1⟩:=q1;cases r1;refine wpAny_truthy_bool ?_;cases c with
 | true=>exact hb pins s1 σ H1 Q I1 q1
 | false=>exact ⟨.bl false,H1,I1,rfl,q1⟩
theorem OH (ha:PE X a ta):PE X (.UnaryOp .Not a pos) (M8 ta):=by
 intro pins s σ H Q I h;refine UnaryOp_ (gQ (ha pins s σ H _ I h) λv s1 ⟨x,H1,I1,r1,q1⟩=>?_);obtain ⟨c,rfl,q1⟩:=q1;cases r1;exact not_of (wpAny_truthy_bool ⟨.bl (!c),H1,I1,rfl,q1⟩)
def tIf (t:TT) (ta tb:TE):TE:=λσ H Q=>t σ H λc H1=>if c=true then ta σ H1 Q else tb σ H1 Q
theorem J8 {c:Expr} (hc:PT X c tA) (ha:PE X a ta) (hb:PE X b tb):PE X (.IfExp c a b pos) (tIf tA ta tb):=by
 intro pins s σ H Q I h;refine wpAny_IfExp (gQ (hc pins s σ H _ I h) λd s1 ⟨H1,I1,q1⟩=>?_);cases d with
 | true=>exact ha pins s1 σ H1 Q I1 q1
 | false=>exact hb pins s1 σ H1 Q I1 q1
end
def bN (K:FG9) (H:Hp) (a:Addr) (xs:List V):Prop :=
 Rd H a (.lst xs) \/
  ∃(o:Obj) (its:Array Value) (n:Nat),K.lookup a=some o/\o.cls=.type "list"/\o.dict=none/\o.data=.seq its n/\its.size<=sizeLine/\cO xs its.toList
def jl (K:FG9) (H:Hp) (a:Addr) (xs:List V):Prop :=
 Rd H a (.tup xs) \/
  ∃(o:Obj) (its:Array Value) (n:Nat),K.lookup a=some o/\o.cls=.type "tuple"/\o.data=.seq its n/\its.size<=sizeLine/\cO xs its.toList
def Rv:Value->Option V
 | .none=>some .non
 | .bool b=>some (.bl b)
 | .int i _=>some (.int i)
 | .str x _=>some (.str x)
 | .bytes b _=>some (.byt b)
 | .float b _=>some (.flt b)
 | .ref a=>some (.ref a)
 | .type n=>some (.ty n)
 | _=>none
theorem RelV.abs {x:V} {u:Value} (r:RelV x u):Rv u=some x:=by
 cases x with
 | non=>cases r;rfl
 | bl _=>cases r;rfl
 | int _=>obtain ⟨t,rfl⟩:=r;rfl
 | str _=>obtain ⟨t,rfl⟩:=r;rfl
 | byt _=>obtain ⟨t,rfl⟩:=r;rfl
 | flt _=>obtain ⟨t,rfl⟩:=r;rfl
 | ref _=>cases r;rfl
 | ty _=>cases r;rfl
theorem RelV.inj {x y:V} {u:Value} (r:RelV x u) (q:RelV y u):x=y:=b6 (r.abs.symm.trans q.abs)
theorem cO.inj:∀{xs ys:List V} {us:List Value},cO xs us->cO ys us->xs=ys
 | _,_,_,.nil,.nil=>rfl
 | _,_,_,.cons r t,.cons r' t'=>by rw[r.inj r',cO.inj t t']
section
variable {X:Cx} {pins:List (Addr×Obj)} {σ:St} {H:Hp} {s:Shared} {a:Addr} {xs ys:List V}
theorem bN.of {K:FG9} (h:H a=some (.lst xs)):bN K H a xs:=.inl (.inl h)
theorem jl.of {K:FG9} (h:H a=some (.tup xs)):jl K H a xs:=.inl (.inl h)
theorem Inv.list (I:Inv X pins σ H s) (h:bN X.K H a xs):∃its:List Value,cO xs its/\PlainL s.heap a its.toArray/\xs.length<=sizeLine:=by
 rcases h with h | ⟨o,its,n,hk,hc,hd,hs,hz,r⟩
 ·obtain ⟨z,its,n,r,e⟩:=h.ok I.hok;exact ⟨its,r,⟨_,n,e,rfl,rfl,rfl⟩,z⟩
 ·refine ⟨its.toList,r,⟨o,n,I.kIn a o hk,hc,hd,by simpa using hs⟩,?_⟩;have e:=r.length;simp only[Array.length_toList] at e
  lia
theorem Inv.tuple (I:Inv X pins σ H s) (h:jl X.K H a xs):∃its:List Value,cO xs its/\IsTup s.heap a its.toArray/\xs.length<=sizeLine:=by
 rcases h with h | ⟨o,its,n,hk,hc,hs,hz,r⟩
 ·obtain ⟨z,its,r,p⟩:=h.ok I.hok;exact ⟨its,r,p,z⟩
 ·refine ⟨its.toList,r,⟨o,I.kIn a o hk,hc,n,by simpa using hs⟩,?_⟩;have e:=r.length;simp only[Array.length_toList] at e
  lia
theorem Inv.list_inj (I:Inv X pins σ H s) (h:bN X.K H a xs) (h':bN X.K H a ys):xs=ys:=by
 obtain ⟨its,r,⟨o,n,e,_,_,d⟩,_⟩:=I.list h;obtain ⟨its',r',⟨o',n',e',_,_,d'⟩,_⟩:=I.list h';rw[e] at e';cases e';rw[d] at d';injection d' with d1 _
 have:its=its':=by simpa using congrArg Array.toList d1
 subst this;exact r.inj r'
theorem Inv.tuple_inj (I:Inv X pins σ H s) (h:jl X.K H a xs) (h':jl X.K H a ys):xs=ys:=by
 obtain ⟨its,r,⟨o,e,_,n,d⟩,_⟩:=I.tuple h;obtain ⟨its',r',⟨o',e',_,n',d'⟩,_⟩:=I.tuple h';rw[e] at e';cases e';rw[d] at d';injection d' with d1 _
 have:its=its':=by simpa using congrArg Array.toList d1
 subst this;exact r.inj r'
end
abbrev Cx.wish (X:Cx) (E:Value->Shared->Prop):Cx:={ X with xe:=E }
abbrev Cx.nox (X:Cx):Cx:=X.wish λ_ _=>False
theorem Cx.Ok.wish {X:Cx} (ok:X.Ok) (E:Value->Shared->Prop):(X.wish E).Ok :=
 ⟨ok.mod,ok.kind,ok.glob,ok.blt,ok.above,ok.inj,ok.has,ok.cab,ok.hd,ok.frames,ok.stk,ok.exf,ok.bs,ok.bsz,ok.noex,ok.exfs,ok.funs,ok.frf⟩
theorem Cx.Ok.unwish {X:Cx} {E:Value->Shared->Prop} (ok:(X.wish E).Ok):X.Ok :=
 ⟨ok.mod,ok.kind,ok.glob,ok.blt,ok.above,ok.inj,ok.has,ok.cab,ok.hd,ok.frames,ok.stk,ok.exf,ok.bs,ok.bsz,ok.noex,ok.exfs,ok.funs,ok.frf⟩
section
variable {X:Cx} {pins:List (Addr×Obj)} {σ:St} {H:Hp} {s:Shared} {E:Value->Shared->Prop}
theorem Inv.wish (I:Inv X pins σ H s) (E:Value->Shared->Prop):Inv (X.wish E) pins σ H s:=⟨I.ok.wish E,I.os,I.bare,I.base,I.loc,I.cell,I.free,I.freeC,I.pin,I.hok,I.len⟩
theorem Inv.unwish (I:Inv (X.wish E) pins σ H s):Inv X pins σ H s:=⟨I.ok.unwish,I.os,I.bare,I.base,I.loc,I.cell,I.free,I.freeC,I.pin,I.hok,I.len⟩
theorem SP.unwish {D:Ends} {f:Flow} {s':Shared} (h:SP (X.wish E) pins D f s'):SP X pins D f s':=by
 cases f with
 | next=>obtain ⟨σ',H',I,q⟩:=h;exact ⟨σ',H',I.unwish,q⟩
 | brk=>obtain ⟨σ',H',I,q⟩:=h;exact ⟨σ',H',I.unwish,q⟩
 | cont=>obtain ⟨σ',H',I,q⟩:=h;exact ⟨σ',H',I.unwish,q⟩
 | ret u=>obtain ⟨v,σ',H',I,r,q⟩:=h;exact ⟨v,σ',H',I.unwish,r,q⟩
theorem F6.nox {st:List Stmt} {t:TS} (h:F6 X.nox st t):F6 X st t:=λpins s σ H D I hw =>
 wpAny_mono (h pins s σ H D (I.wish _) hw) (λ_ _ q=>q.unwish) λ_ _ z=>False.elim z
end
section
variable {X:Cx} {st:Stmt} {rest:List Stmt} {t u:TS} {e:Expr} {te:TE} {pos:Pos}
def Na:TS:=λD σ H=>D.nx σ H
def PB (t u:TS):TS:=λD σ H=>t { D with nx:=u D } σ H
theorem bO:F6 X [] Na:=λ_ _ σ H _ I h=>wpAny_execs_nil ⟨σ,H,I,h⟩
theorem av (h1:PS X st t) (h2:F6 X rest u):F6 X (st :: rest) (PB t u):=by
 intro pins s σ H D I h;refine wpAny_execs_cons (gQ (h1 pins s σ H { D with nx:=u D } I h) λf s1 q=>?_);cases f with
 | next =>
  obtain ⟨σ',H',I',q⟩:=q;exact h2 pins s1 σ' H' D I' q
 | ret v=>exact q
 | brk=>exact q
 | cont=>exact q
theorem az (h1:PS X st t):F6 X [st] t:=by
 intro pins s σ H D I h;refine wpAny_execs_cons (gQ (h1 pins s σ H D I h) λf s1 q=>?_);cases f with
 | next=>exact wpAny_execs_nil q
 | ret v=>exact q
 | brk=>exact q
 | cont=>exact q
theorem Inv.quiet {pins:List (Addr×Obj)} {σ:St} {H:Hp} {s:Shared} (I:Inv X pins σ H s):interactive X.env=false:=by simp [interactive,I.ok.kind]
def Nd (te:TE):TS:=λD σ H=>te σ H λ_ H1=>D.nx σ H1
theorem hZ (he:PE X e te) (hs:swapsWith e none pos.line X.env=pure false:=by rfl):PS X (.Expr e pos) (Nd te):=by
 intro pins s σ H D I h;exact wpAny_Expr_any (gQ (he pins s σ H _ I h) λv s1 ⟨x,H1,I1,r1,q1⟩=>⟨σ,H1,I1,q1⟩) I.quiet hs
def PC (te:TE):TS:=λD σ H=>te σ H D.rt
theorem a7 (he:PE X e te):PS X (.Return (some e) pos) (PC te):=by
 intro pins s σ H D I h;exact wpAny_Return_some (gQ (he pins s σ H _ I h) λv s1 ⟨x,H1,I1,r1,q1⟩=>⟨x,σ,H1,I1,r1,q1⟩)
def PL (c:TT) (t u:TS):TS:=λD σ H=>c σ H λb H1=>if b=true then t D σ H1 else u D σ H1
theorem cP {c:Expr} {a b:List Stmt} {tc:TT} (hc:PT X c tc) (ha:F6 X a t) (hb:F6 X b u):PS X (.If c a b pos) (PL tc t u):=by
 intro pins s σ H D I h;refine wpAny_If (gQ (hc pins s σ H _ I h) λd s1 ⟨H1,I1,q1⟩=>?_);cases d with
 | true=>exact ha pins s1 σ H1 D I1 q1
 | false=>exact hb pins s1 σ H1 D I1 q1
end
abbrev TG:=V->St->Hp->(St->Hp->Prop)->Prop
abbrev Lj:=List V->St->Hp->(St->Hp->Prop)->Prop
def PG (X:Cx) (target:Expr) (t:TG):Prop :=
 ∀(pins:List (Addr×Obj)) (s:Shared) (σ:St) (H:Hp) (v:V) (u:Value) (Q:St->Hp->Prop),Inv X pins σ H s->RelV v u->t v σ H Q →
  wpAny (model X.prog X.w) X.A (assign target X.env u) (λ_ s'=>∃σ' H',Inv X pins σ' H' s'/\Q σ' H') X.xe s
def QJ (X:Cx) (ts:List Expr) (t:Lj):Prop :=
 ∀(pins:List (Addr×Obj)) (s:Shared) (σ:St) (H:Hp) (vs:List V) (us:List Value) (Q:St->Hp->Prop),Inv X pins σ H s->cO vs us->t vs σ H Q →
  wpAny (model X.prog X.w) X.A (assignInOrder ((assignEach ts X.env).map (·.2)) us) (λ_ s'=>∃σ' H',Inv X pins σ' H' s'/\Q σ' H') X.xe s
abbrev F3:=V->V->V->Hp->(Hp->Prop)->Prop
def O7 (X:Cx) (t:F3):Prop :=
 ∀(pins:List (Addr×Obj)) (s:Shared) (σ:St) (H:Hp) (o i v:V) (ov iv u:Value) (Q:Hp->Prop),Inv X pins σ H s->RelV o ov->RelV i iv->RelV v u->t o i v H Q →
  wpAny (model X.prog X.w) X.A (setItem ov iv u) (λ_ s'=>∃H',Inv X pins σ H' s'/\Q H') X.xe s
abbrev QG:=V->V->Hp->VK->Prop
def PIp (X:Cx) (op:Operator) (t:QG):Prop :=
 ∀(pins:List (Addr×Obj)) (s:Shared) (σ:St) (H:Hp) (x y:V) (v u:Value) (Q:VK),Inv X pins σ H s->RelV x v->RelV y u->t x y H Q →
  wpAny (model X.prog X.w) X.A (inplaceOp op v u) (EP X pins σ Q) X.xe s
section
variable {X:Cx} {pos:Pos}
def G5 (i:Nat):TG:=λv σ H Q=>Q (σ.set i (some v)) H
theorem aT {i:Nat} {x:Str} (hN:X.N.Nodup) (hi:X.N[i]?=some x:=by exact rfl) (hx:Loc X.env.scope x:=by exact Or.inl rfl) (hf:X.fn x=true\/X.env.scope.names.lookup x=some .local:=by first | exact .inl rfl | exact .inr rfl | assumption):PG X (.Name x pos) (G5 i):=by
 intro pins s σ H v u Q I r h;exact wpAny_assign_Name (uB I hN hi hx r (λs' I'=>⟨_,H,I',h⟩) hf)
def Qy:Lj:=λvs σ H Q=>vs=[]/\Q σ H
def Ny (t:TG) (u:Lj):Lj:=λvs σ H Q=>∃v r,vs=v :: r/\t v σ H λσ' H'=>u r σ' H' Q
theorem iU:QJ X [] Qy:=by
 intro pins s σ H vs us Q I r h;obtain ⟨e,h⟩:=h;subst e;cases r;exact assignInOrder_nil ⟨σ,H,I,h⟩
theorem cQ {e:Expr} {es:List Expr} {t:TG} {u:Lj} (h1:PG X e t) (h2:QJ X es u)
  (hs:(assignEach (e :: es) X.env).map (·.2)=assign e X.env :: (assignEach es X.env).map (·.2):=by rfl):QJ X (e :: es) (Ny t u):=by
 intro pins s σ H vs us Q I r h;obtain ⟨v,vr,e1,h⟩:=h;subst e1;cases r with
 | cons r rr =>
  rw[hs];refine assignInOrder_cons (gQ (h1 pins s σ H _ _ _ I r h) λ_ s1 ⟨σ1,H1,I1,q1⟩=>?_);exact h2 pins s1 σ1 H1 _ _ Q I1 rr q1
def OY (K:FG9) (n:Nat) (t:Lj):TG:=λv σ H Q=>∃a xs,v=.ref a/\jl K H a xs/\xs.length=n/\t xs σ H Q
theorem t8 {es:List Expr} {k:Nat} {t:Lj} {n:Nat} (hc:X.calm=true) (h:QJ X es t)
  (hn:(assignEach es X.env).length=n:=by rfl) (hst:(assignEach es X.env).findIdx? (·.1)=none:=by rfl):PG X (.Tuple es k pos) (OY X.K n t):=by
 intro pins s σ H v u Q I r hw;obtain ⟨a,xs,e1,hq,hl,hw⟩:=hw;subst e1;cases r;obtain ⟨its,rv,ht,hz⟩:=I.tuple hq;refine assign_Tuple_tuple (I.ok.hd hc) ht (by simp [hn,<- hl,rv.length]) hst λh' hx=>?_
 have I1:Inv X pins σ H { s with heap:=h' }:=I.kept (t':=s.toks) λb o e=>hx b o (bZ (Heap.lt_size e)) e
 exact h pins _ σ H xs _ Q I1 (by simpa using rv) hw
def Qx (to ti:TE) (t:F3):TG:=λv σ H Q=>to σ H λo H1=>ti σ H1 λi H2=>t o i v H2 λH3=>Q σ H3
theorem gX {o i : Expr} {to ti : TE} {t : F3} (ho : PE X o to) (hi : PE X i ti) (hs : O7 X t)
    (ha : ∀ v, assign (.Subscript o i pos) X.env v = (do
      let ov <- holding [v] (eval o X.env)
      let iv <- holding [v, ov] (eval i X.env)
      standAt pos
      holding [v, ov, iv] (setItem ov iv v)
      release [v, ov, iv] []) := by intro _; rfl) : PG X (.Subscript o i pos) (Qx to ti t) := by
  intro pins s σ H v u Q I r h;rw [ha];refine wpAny_bind (wpAny_holding (gQ (ho pins s σ H _ I h) λov s1 ⟨x, H1, I1, r1, q1⟩ => ?_));refine wpAny_bind (wpAny_holding (gQ (hi pins s1 σ H1 _ I1 q1) λiv s2 ⟨y, H2, I2, r2, q2⟩ => ?_));refine wpAny_bind (wpAny_standAt (wpAny_bind (wpAny_holding (gQ (hs pins s2 σ H2 x y v ov iv u _ I2 r1 r2 r q2) λ_ s3 ⟨H3, I3, q3⟩ => ?_))));exact wpAny_release ⟨σ, H3, I3, q3⟩
def LC (te:TE) (g:TG):TS:=λD σ H=>te σ H λx H1=>g x σ H1 D.nx
theorem fF {tg e:Expr} {te:TE} {g:TG} (he:PE X e te) (hg:PG X tg g) (hs:swapsWithSole [tg] e pos.line X.env=pure false:=by rfl) (hw:swappedStores [tg] e X.env=pure none:=by rfl)
  (h1:(assignEach [tg] X.env).map (·.2)=[assign tg X.env]:=by rfl):PS X (.Assign [tg] e pos) (LC te g):=by
 intro pins s σ H D I h;refine wpAny_Assign_stores (gQ (he pins s σ H _ I h) λv s1 ⟨x,H1,I1,r1,q1⟩=>?_) hs hw;rw[h1];exact gQ (hg pins s1 σ H1 x v _ I1 r1 q1) λ_ s2 q=>q
theorem a8 {i:Nat} {x:Str} {e:Expr} {te:TE} {pos':Pos} (hN:X.N.Nodup) (hi:X.N[i]?=some x) (hx:Loc X.env.scope x) (he:PE X e te) (hs:swapsWith e (some (.Name x pos')) pos.line X.env=pure false:=by rfl) (hf:X.fn x=true\/X.env.scope.names.lookup x=some .local:=by first | exact .inl rfl | exact .inr rfl | assumption) :
  PS X (.Assign [.Name x pos'] e pos) (LC te (G5 i)):=by
 intro pins s σ H D I h;refine wpAny_Assign_Name (gQ (he pins s σ H _ I h) λv s1 ⟨y,H1,I1,r1,q1⟩=>?_) hs;exact uB I1 hN hi hx r1 (λs2 I2=>⟨_,H1,I2,q1⟩) hf
def PD (i j:Nat) (ta:TA):TS:=λD σ H=>ta σ H λvs H1=>∃v w,vs=[v,w]/\D.nx ((σ.set i (some v)).set j (some w)) H1
theorem JZ {i j : Nat} {x y : Str} {a b : Expr} {ta : TA} {px py pt : Pos} {kt k2 pt2} (hc : X.calm = true) (hN : X.N.Nodup) (hi : X.N[i]? = some x) (hj : X.N[j]? = some y) (hij : i ≠ j)
    (hx : X.env.scope.names.lookup x = some .local) (hy : X.env.scope.names.lookup y = some .local) (ha : PA X [a, b] ta)
    (hw : swappedStores [.Tuple [.Name x px, .Name y py] kt pt] (.Tuple [a, b] k2 pt2) X.env = pure (some [x, y]))
    (hs : swapsWithSole [.Tuple [.Name x px, .Name y py] kt pt] (.Tuple [a, b] k2 pt2) pos.line X.env = pure false := by rfl) :
    PS X (.Assign [.Tuple [.Name x px, .Name y py] kt pt] (.Tuple [a, b] k2 pt2) pos) (PD i j ta) := by
  intro pins s σ H D I h;rw [exec_Assign_arm];refine wpAny_bind (wpAny_standAt ?_);rw [hs];refine wpAny_bind (wpAny_pure ?_);rw [if_neg (by decide)];refine wpAny_bind (Tuple_ (gQ (ha _ pins s σ H _ I h) λus s1 ⟨vs, H1, I1, r1, q1⟩ => ?_));obtain ⟨v, w, e1, q1⟩ := q1;subst e1
  obtain ⟨u1, u2, rfl, rv, rw'⟩ : ∃ u1 u2, us = [u1, u2] /\ RelV v u1 /\ RelV w u2 := by
    cases r1 with
    | cons p q =>
      cases q with
      | cons p' q' =>
        cases q';exact ⟨_, _, rfl, p, p'⟩
  refine wpAny_newObj_type ?_ (by show 2 ≤ sizeLine; decide);have I2 : Inv X pins σ H1 { s1 with heap := s1.heap.push { cls := .type "tuple", data := .seq [u1, u2].toArray } } := I1.kept (t' := s1.toks) λb o e => Heap.get?_push_of_some _ e
  rw [hw];refine wpAny_bind (wpAny_pure ?_);show wpAny (model X.prog X.w) X.A (do rule "assign.swapped-stores"; let items <- unpackItems (.ref s1.heap.objs.size) 2 none; assignInOrder [λv => bindName X.env y v, λv => bindName X.env x v] items.reverse; pure Flow.next) _ _ _
  refine wpAny_bind (wpAny_rule (wpAny_bind (unpackItems_tuple (items := #[u1, u2]) (I.ok.hd hc) (IsTup.new s1.heap _) λh' hx' => ?_)));have I3 := I2.kept (h' := h') (t' := s1.toks) λb o e => hx' b o (bZ (Heap.lt_size e)) e
  show wpAny _ _ (assignInOrder [λv => bindName X.env y v, λv => bindName X.env x v] [u2, u1] >>= λ_ => pure Flow.next) _ _ _
  refine wpAny_bind (assignInOrder_cons (wpAny_bindName (uB I3 hN hj (.inl hy) rw' (λs2 I4 => ?_) (.inr hy))));refine assignInOrder_cons (wpAny_bindName (uB I4 hN hi (.inl hx) rv (λs3 I5 => assignInOrder_nil (wpAny_pure ?_)) (.inr hx)));rw [List.set_comm _ _ (Ne.symm hij)] at I5;exact ⟨_, H1, I5, q1⟩
def Nf (to ti te:TE) (tget:V->V->Hp->VK->Prop) (tip:QG) (tset:F3):TS:=λD σ H=>to σ H λo H1=>ti σ H1 λi H2=>tget o i H2 λx H3=>te σ H3 λy H4=>tip x y H4 λz H5=>tset o i z H5 λH6=>D.nx σ H6
def QK (X:Cx) (t:V->V->Hp->VK->Prop):Prop :=
 ∀(pins:List (Addr×Obj)) (s:Shared) (σ:St) (H:Hp) (o i:V) (ov iv:Value) (Q:VK),Inv X pins σ H s->RelV o ov->RelV i iv->t o i H Q →
  wpAny (model X.prog X.w) X.A (getItem ov iv) (EP X pins σ Q) X.xe s
theorem Mq {o i e : Expr} {to ti te : TE} {tget : V → V → Hp → VK → Prop} {tip : QG} {tset : F3} {op : Operator} {tpos : Pos} (ho : PE X o to) (hi : PE X i ti) (hg : QK X tget) (he : PE X e te) (hp : PIp X op tip) (hs : O7 X tset)
    (ha : ∀ ov iv new, augStore i ov iv new = (do holding [new, ov, iv] (setItem ov iv new); release [new, ov, iv] []; pure .next) := by intros; rfl) : PS X (.AugAssign (.Subscript o i tpos) op e pos) (Nf to ti te tget tip tset) := by
  intro pins s σ H D I h;refine wpAny_AugAssign_SubscriptAny (gQ (ho pins s σ H _ I h) λov s1 ⟨x1, H1, I1, r1, q1⟩ => ?_) ha;refine gQ (hi pins s1 σ H1 _ I1 q1) λiv s2 ⟨x2, H2, I2, r2, q2⟩ => ?_
  refine gQ (hg pins s2 σ H2 x1 x2 ov iv _ I2 r1 r2 q2) λold s3 ⟨x3, H3, I3, r3, q3⟩ => ?_
  refine gQ (he pins s3 σ H3 _ I3 q3) λv s4 ⟨x4, H4, I4, r4, q4⟩ => ?_
  refine gQ (hp pins s4 σ H4 x3 x4 old v _ I4 r3 r4 q4) λnew s5 ⟨x5, H5, I5, r5, q5⟩ => ?_
  exact gQ (hs pins s5 σ H5 x1 x2 x5 ov iv new _ I5 r1 r2 r5 q5) λ_ s6 ⟨H6, I6, q6⟩ => ⟨σ, H6, I6, q6⟩
def ipI (f:Int->Int->Int):QG:=λx y H Q=>∃i j,x=.int i/\y=.int j/\Q (.int (f i j)) H
theorem OT:PIp X .Add (ipI λi j=>i+j):=by
 intro pins s σ H x y v u Q I r1 r2 h;obtain ⟨i,j,e1,e2,q⟩:=h;subst e1;subst e2;obtain ⟨t,rfl⟩:=r1;obtain ⟨t',rfl⟩:=r2;exact iadd_int ⟨.int _,H,I.tok _,⟨_,rfl⟩,q⟩
end
section
variable {X:Cx} {pos:Pos}
def Jv (c:TT) (tb:TS):TS:=λD σ H=>∃W:Nat->St->Hp->Prop,(∃m,W m σ H)/\∀m σ H,W m σ H →
 c σ H λb H1=>if b=true then ∃N:St->Hp->Prop,(∀σ' H',N σ' H'->∃m',m' < m/\W m' σ' H')/\tb { D with nx:=N,ct:=N,bk:=D.nx } σ H1 else D.nx σ H1
theorem zJ {c:Expr} {body:List Stmt} {tc:TT} {tb:TS} (hp:PassesOwn (model X.prog X.w) X.A X.env X.xe) (hc:PT X c tc) (hb:F6 X body tb):PS X (.While c body [] pos) (Jv tc tb):=by
 intro pins s σ H D I h;obtain ⟨W,⟨m0,w0⟩,turn⟩:=h;refine wpAny_While (codeAny_whileLoop (λn s'=>∃σ' H',Inv X pins σ' H' s'/\W n σ' H') ?_ m0 ⟨σ,H,I,w0⟩);rintro n s1 ⟨σ1,H1,I1,w1⟩;refine wpAny_passesOwn hp (gQ (hc pins s1 σ1 H1 _ I1 (turn n σ1 H1 w1)) λb s2 ⟨H2,I2,q2⟩=>?_);cases b with
 | true =>
  obtain ⟨N,hN,q2⟩:=q2;rw[if_pos rfl];refine wpAny_passesOwn hp (gQ (hb pins s2 σ1 H2 _ I2 q2) λf s3 q3=>?_);cases f with
  | next =>
   obtain ⟨σ3,H3,I3,n3⟩:=q3;obtain ⟨m',hm,w3⟩:=hN σ3 H3 n3;exact ⟨m',hm,σ3,H3,I3,w3⟩
  | cont =>
   obtain ⟨σ3,H3,I3,n3⟩:=q3;obtain ⟨m',hm,w3⟩:=hN σ3 H3 n3;exact ⟨m',hm,σ3,H3,I3,w3⟩
  | brk=>exact q3
  | ret v=>exact q3
 | false =>
  rw[if_neg bc];exact wpAny_execs_nil ⟨σ1,H2,I2,q2⟩
end
structure It where
 go:Nat->Hp->Prop
 yld:Nat->Hp->V->Hp->Prop
 stop:Nat->Hp->Prop
def jV (X:Cx) (pins:List (Addr×Obj)) (H:Hp) (b:Addr):Prop :=
 H b=none/\b≠X.env.locals/\b∉X.fs/\(b∈X.ex\/X.s₀.heap.objs.size<=b)/\(∀x c,X.env.cells.lookup x=some c->c≠b)/\∀p∈X.pn++pins,p.1≠b
theorem Inv.fpOk {X:Cx} {pins:List (Addr×Obj)} {σ:St} {H H':Hp} {s:Shared} {b:Addr} (I:Inv X pins σ H s) (hb:s.heap.objs.size<=b) (hn:H' b=none):jV X pins H' b:=by
 refine ⟨hn,HU (bI I.lt hb),I.nofs hb,.inr (ai I.sz hb),λx c e z=>?_,λp hp z=>?_⟩
 ·obtain ⟨v,q⟩:=I.cell x c e;exact absurd (bI q.lt (by rw[z];exact hb)) (eo _)
 ·exact absurd (bI (Heap.lt_size (I.pin p hp).1) (by rw[z];exact hb)) (eo _)
structure Turn (P:Program) (w:World) (K:FG9) (tg:Expr) (J:It) (fp:List Addr) (it:Addr) (tn:Nat->Heap->Prop):Prop where
 mem:it∈fp
 obj:∀i h,tn i h->∀b∈fp,∃o,h.get? b=some o/\∀v,o.data≠.cell v
 keep:∀i h h',tn i h->(∀b∈fp,∀o,h.get? b=some o->h'.get? b=some o)->tn i h'
 item:∀(X:Cx),X.prog=P->X.w=w->X.K=K->X.calm=true->∀(i:Nat) (pins:List (Addr×Obj)) (s:Shared) (σ:St) (H:Hp) (E:Value->Shared->Prop),Inv X pins σ H s->(∀b∈fp,jV X pins H b)->tn i s.heap->J.go i H →
  wpAny (model P w) X.A (pyNext (.ref it)) (λr s1=>∃u,r=some u /\
   wpAny (model P w) X.A (letOwnedTupleGo tg (.ref it) u) (λ_ s2=>∃x H',Inv X pins σ H' s2/\RelV x u/\J.yld i H x H'/\tn (i+1) s2.heap/\∀b∈fp,H' b=none) E s1) E s
 done:∀(X:Cx),X.prog=P->X.w=w->X.K=K->X.calm=true->∀(i:Nat) (pins:List (Addr×Obj)) (s:Shared) (σ:St) (H:Hp) (E:Value->Shared->Prop),Inv X pins σ H s->(∀b∈fp,jV X pins H b)->tn i s.heap->J.stop i H →
  wpAny (model P w) X.A (pyNext (.ref it)) (λr s1=>r=none/\Inv X pins σ H s1) E s
 self:∀(A:Around) (i:Nat) (s:Shared) (Q:Value->Shared->Prop) (E:Value->Shared->Prop),tn i s.heap->Q (.ref it) s->wpAny (model P w) A (pyIter (.ref it)) Q E s
abbrev TI:=St->Hp->(It->Hp->Prop)->Prop
def PIE (X:Cx) (pins:List (Addr×Obj)) (σ:St) (tg:Expr) (R:It->Hp->Prop) (itv:Value) (s2:Shared):Prop :=
 ∃(it:Addr) (fp:List Addr) (tn:Nat->Heap->Prop) (J:It) (H':Hp),itv=.ref it/\Inv X pins σ H' s2/\Turn X.prog X.w X.K tg J fp it tn/\tn 0 s2.heap/\(∀b∈fp,jV X pins H' b)/\R J H'
def PI (X:Cx) (tg iter:Expr) (wi:TI):Prop :=
 ∀(pins:List (Addr×Obj)) (s:Shared) (σ:St) (H:Hp) (R:It->Hp->Prop),Inv X pins σ H s->wi σ H R →
  wpAny (model X.prog X.w) X.A (eval iter X.env) (λv s1=>wpAny (model X.prog X.w) X.A (pyIter v) (PIE X pins σ tg R) X.xe s1) X.xe s
theorem KD {M : Model} {A : Around} {E : Value → Shared → Prop} {s : Shared} {tg : Expr} {it : Addr} {u : Value} {o : Obj} {n : String} {vs : Array Value} {Q : Unit → Shared → Prop} (ho : s.heap.get? it = some o) (hc : o.cls = .type n) (hd : o.data = .fields vs)
    (hn : ["enumerate", "zip", "dict_itemiterator", "dict_reverseitemiterator", "odict_iterator", "itertools.zip_longest", "itertools.pairwise"].contains n = false) (hQ : Q () s) : wpAny M A (letOwnedTupleGo tg (.ref it) u) Q E s := by
  unfold letOwnedTupleGo
  cases tg <;> first
    | exact wpAny_pure hQ
    | (cases u <;> first
        | exact wpAny_pure hQ
        | (refine wpAny_bind (wpAny_load ho ?_)
           rw [hc, hd];show wpAny M A (if (["enumerate", "zip", "dict_itemiterator", "dict_reverseitemiterator", "odict_iterator", "itertools.zip_longest", "itertools.pairwise"].contains n && vs[0]? == some (rawInt _)) = true then _ else _) Q E s
           rw [if_neg (by intro h; rw [hn, Bool.false_and] at h; cases h)];exact wpAny_pure hQ))

def Lk (K:FG9) (a:Addr):It :=
 ⟨λi H=>∃xs x,bN K H a xs/\xs[i]?=some x,λi H x H'=>H'=H/\∀xs,bN K H a xs->xs[i]?=some x,λi H=>∃xs,bN K H a xs/\xs.length<=i⟩
def MX (K:FG9) (a:Addr):It :=
 ⟨λi H=>∃xs x,jl K H a xs/\xs[i]?=some x,λi H x H'=>H'=H/\∀xs,jl K H a xs->xs[i]?=some x,λi H=>∃xs,jl K H a xs/\xs.length<=i⟩
def Fe (lo:Int) (n:Nat):It:=⟨λi _=>i < n,λi H x H'=>H'=H/\x=.int (lo+i),λi _=>n<=i⟩
theorem A7 {P:Program} {w:World} {K:FG9} {tg:Expr} (a it:Addr):Turn P w K tg (Lk K a) [it] it (λi h=>h.IsListIter it a i) where
 mem:=by simp
 obj:=λi h st b hb=>by
  have e:b=it:=by simpa using hb
  subst e;obtain ⟨o,e,c,d⟩:=st;exact ⟨o,e,λv z=>by rw[d] at z;cases z⟩
 keep:=λi h h' st k=>st.at λo e=>k it (by simp) o e
 item:=by
  intro X hP hw hK hc i pins s σ H E I hf st hg;subst hP hw hK;obtain ⟨xs,x,hq,hx⟩:=hg;obtain ⟨its,rv,p,hz⟩:=I.list hq;obtain ⟨u,hu,ru⟩:=rv.get hx;obtain ⟨f0,f1,f2,f3,f4,f5⟩:=hf it (by simp);refine wpAny_pyNext_list_item st p.isList (x:=u) (by simpa using hu) λh' st' sb=>?_
  have I1:Inv X pins σ H { s with heap:=h' }:=I.turned (t':=s.toks) (λb o hb e=>(sb.2 b hb).trans e) f0 f1 f3 f4 f5;obtain ⟨o,e,c,d⟩:=id st';exact ⟨u,rfl,KD (s:={ s with heap:=h' }) e c d (by decide) ⟨x,H,I1,ru,⟨rfl,λys hy=>by rw[I.list_inj hy hq];exact hx⟩,st',λb hb=>(hf b hb).1⟩⟩
 done:=by
  intro X hP hw hK hc i pins s σ H E I hf st hg;subst hP hw hK;obtain ⟨xs,hq,hx⟩:=hg;obtain ⟨its,rv,p,hz⟩:=I.list hq;obtain ⟨f0,f1,f2,f3,f4,f5⟩:=hf it (by simp);have hl:=rv.length;exact wpAny_pyNext_list_end (I.ok.hd hc) st p.isList (by simp;lia) λh' eb=>⟨rfl,I.turned (t':=s.toks) (λb o hb e=>eb b o hb e) f0 f1 f3 f4 f5⟩
 self:=λ_ _ _ _ _ st h=>wpAny_pyIter_listiter st h
theorem yV {P:Program} {w:World} {K:FG9} {tg:Expr} (a it:Addr):Turn P w K tg (MX K a) [it] it (λi h=>h.IsTupleIter it a i) where
 mem:=by simp
 obj:=λi h st b hb=>by
  have e:b=it:=by simpa using hb
  subst e;obtain ⟨o,e,c,d⟩:=st;exact ⟨o,e,λv z=>by rw[d] at z;cases z⟩
 keep:=λi h h' st k=>st.at λo e=>k it (by simp) o e
 item:=by
  intro X hP hw hK hc i pins s σ H E I hf st hg;subst hP hw hK;obtain ⟨xs,x,hq,hx⟩:=hg;obtain ⟨its,rv,p,hz⟩:=I.tuple hq;obtain ⟨u,hu,ru⟩:=rv.get hx;obtain ⟨f0,f1,f2,f3,f4,f5⟩:=hf it (by simp);refine wpAny_pyNext_tuple_item st (show s.heap.IsTuple a its.toArray from p) (x:=u) (by simpa using hu) λh' st' sb=>?_
  have I1:Inv X pins σ H { s with heap:=h' }:=I.turned (t':=s.toks) (λb o hb e=>(sb.2 b hb).trans e) f0 f1 f3 f4 f5;obtain ⟨o,e,c,d⟩:=id st';exact ⟨u,rfl,KD (s:={ s with heap:=h' }) e c d (by decide) ⟨x,H,I1,ru,⟨rfl,λys hy=>by rw[I.tuple_inj hy hq];exact hx⟩,st',λb hb=>(hf b hb).1⟩⟩
 done:=by
  intro X hP hw hK hc i pins s σ H E I hf st hg;subst hP hw hK;obtain ⟨xs,hq,hx⟩:=hg;obtain ⟨its,rv,p,hz⟩:=I.tuple hq;obtain ⟨f0,f1,f2,f3,f4,f5⟩:=hf it (by simp);have hl:=rv.length;exact wpAny_pyNext_tuple_end (I.ok.hd hc) st (show s.heap.IsTuple a its.toArray from p) (by simp;lia) λh' eb=>⟨rfl,I.turned (t':=s.toks) (λb o hb e=>eb b o hb e) f0 f1 f3 f4 f5⟩
 self:=λ_ _ _ _ _ st h=>wpAny_pyIter_tupleiter st h
theorem Fj {P:Program} {w:World} {K:FG9} {tg:Expr} (it:Addr) (lo:Int) (n:Nat):Turn P w K tg (Fe lo n) [it] it (λi h=>IsRangeIter h it (lo+(i:Nat)*1) ((n:Int) - (i:Nat)) 1) where
 mem:=by simp
 obj:=λi h st b hb=>by
  have e:b=it:=by simpa using hb
  subst e
  exact ⟨_,st,λv z=>by
   have z':Data.fields _=Data.cell v:=z;cases z'⟩
 keep:=λi h h' st k=>k it (by simp) _ st
 item:=by
  intro X hP hw hK hc i pins s σ H E I hf st hg;subst hP hw hK;obtain ⟨f0,f1,f2,f3,f4,f5⟩:=hf it (by simp);have W:=Walks.range (prog:=X.prog) (w:=X.w) (I.ok.hd hc) it lo 1 n;refine W.item i s _ _ hg st λv h' tk hv st' kk=>?_
  obtain ⟨t,rfl⟩:=hv;have I1:Inv X pins σ H { s with heap:=h',toks:=tk }:=I.turned (λb o hb e=>kk b o (by simpa using hb) e) f0 f1 f3 f4 f5;refine ⟨_,rfl,KD (s:={ s with heap:=h',toks:=tk }) (n:="range_iterator") st' rfl rfl (by decide) ⟨.int (lo+i),H,I1,⟨t,?_⟩,⟨rfl,rfl⟩,st',λb hb=>(hf b hb).1⟩⟩;rw[Int.mul_one]
 done:=by
  intro X hP hw hK hc i pins s σ H E I hf st hg;subst hP hw hK;obtain ⟨f0,f1,f2,f3,f4,f5⟩:=hf it (by simp);exact wpAny_pyNext_range_end (I.ok.hd hc) st (by have:n<=i:=hg;lia) λh' eb=>⟨rfl,I.turned (t':=s.toks) (λb o hb e=>eb b o hb e) f0 f1 f3 f4 f5⟩
 self:=λ_ _ _ _ _ st h=>wpAny_pyIter_rangeiter st h
section
variable {X:Cx} {tg:Expr}
def KA (K:FG9) (tl:TE):TI:=λσ H R=>tl σ H λx H1=>∃a,x=.ref a/\(∃xs,bN K H1 a xs)/\R (Lk K a) H1
def Qw (K:FG9) (tl:TE):TI:=λσ H R=>tl σ H λx H1=>∃a,x=.ref a/\(∃xs,jl K H1 a xs)/\R (MX K a) H1
theorem cE {l:Expr} {tl:TE} (hl:PE X l tl):PI X tg l (KA X.K tl):=by
 intro pins s σ H R I h;refine gQ (hl pins s σ H _ I h) λv s1 ⟨x,H1,I1,r1,q1⟩=>?_
 obtain ⟨a,e,⟨xs,hq⟩,q⟩:=q1;subst e;cases r1;obtain ⟨its,rv,p,hz⟩:=I1.list hq;refine wpAny_pyIter_list p.isList ?_;refine ⟨s1.heap.objs.size,[s1.heap.objs.size],_,_,H1,rfl,I1.kept (t':=s1.toks) λb o e=>Heap.get?_push_of_some _ e,A7 a _,⟨_,Heap.get?_push_size _ rfl,rfl,rfl⟩,λb hb=>?_,q⟩;have e:b=s1.heap.objs.size:=by simpa using hb
 subst e;exact I1.fpOk (aj _) (I1.hok.fresh (aj _))
theorem J7 {l:Expr} {tl:TE} (hl:PE X l tl):PI X tg l (Qw X.K tl):=by
 intro pins s σ H R I h;refine gQ (hl pins s σ H _ I h) λv s1 ⟨x,H1,I1,r1,q1⟩=>?_
 obtain ⟨a,e,⟨xs,hq⟩,q⟩:=q1;subst e;cases r1;obtain ⟨its,rv,p,hz⟩:=I1.tuple hq;refine wpAny_pyIter_tuple (show s1.heap.IsTuple a its.toArray from p) ?_;refine ⟨s1.heap.objs.size,[s1.heap.objs.size],_,_,H1,rfl,I1.kept (t':=s1.toks) λb o e=>Heap.get?_push_of_some _ e,yV a _,⟨_,Heap.get?_push_size _ rfl,rfl,rfl⟩,λb hb=>?_,q⟩;have e:b=s1.heap.objs.size:=by simpa using hb
 subst e;exact I1.fpOk (aj _) (I1.hok.fresh (aj _))
theorem Eu {pins:List (Addr×Obj)} {σ:St} {H:Hp} {s:Shared} {R:It->Hp->Prop} {E:Value->Shared->Prop} {lo hi:Int} {t u v:Tok} {tk:Nat} (I:Inv X pins σ H s) (h1:-(2^62)<=lo) (h2:lo < 2^62) (h3:-(2^62)<=hi) (h4:hi < 2^62)
  (q:R (Fe lo (hi - lo).toNat) H):wpAny (model X.prog X.w) X.A (pyIter (.ref s.heap.objs.size)) (PIE X pins σ tg R) E { s with heap:=s.heap.push { cls:=.type "range",data:=.fields #[.int lo t,.int hi u,.int 1 v] },toks:=tk }:=by
 refine wpAny_pyIter_range (IsRange.new ..) (small_one h1 h2 h3 h4) ?_;have I1:Inv X pins σ H { s with heap:=s.heap.push { cls:=.type "range",data:=.fields #[.int lo t,.int hi u,.int 1 v] },toks:=tk }:=I.kept λb o e=>Heap.get?_push_of_some _ e
 refine ⟨(s.heap.push { cls:=.type "range",data:=.fields #[.int lo t,.int hi u,.int 1 v] }).objs.size,[(s.heap.push { cls:=.type "range",data:=.fields #[.int lo t,.int hi u,.int 1 v] }).objs.size],_,_,H,rfl,
  I1.kept (t':=tk) λb o e=>Heap.get?_push_of_some _ e,Fj _ lo (hi - lo).toNat,?_,λb hb=>?_,q⟩
 ·have e1:lo+((0:Nat):Int)*1=lo:=by simp
  have e2:(((hi - lo).toNat:Nat):Int) - ((0:Nat):Int)=Builtin.Range.rangeSize lo hi 1:=by rw[rangeSize_one];split <;> lia
  show IsRangeIter _ _ (lo+((0:Nat):Int)*1) ((((hi - lo).toNat:Nat):Int) - ((0:Nat):Int)) 1
  rw[e1,e2];exact Heap.get?_push_size _ rfl
 ·have e:b=(s.heap.push { cls:=.type "range",data:=.fields #[.int lo t,.int hi u,.int 1 v] }).objs.size:=by simpa using hb
  subst e;exact I1.fpOk (aj _) (I1.hok.fresh (aj _))
def Nv (ta:TA):TI:=λσ H R=>ta σ H λvs H1=>∃j:Int,vs=[.int j]/\-(2^62)<=j/\j < 2^62/\R (Fe 0 j.toNat) H1
def Nu (ta:TA):TI:=λσ H R=>ta σ H λvs H1=>∃i j:Int,vs=[.int i,.int j]/\(-(2^62)<=i/\i < 2^62/\-(2^62)<=j/\j < 2^62)/\R (Fe i (j - i).toNat) H1
theorem cw {a:Expr} {ta:TA} {p pos:Pos} (hg:Gl X "range") (hm:X.mg "range"=none) (ha:PA X [a] ta) (hs:starEach [a] X.env=[(false,eval a X.env)]:=by rfl):PI X tg (.Call (.Name "range" p) [a] [] pos) (Nv ta):=by
 intro pins s σ H R I h;refine Call_ (jT I hg hm boot_range (PyProof.Rows.callWith_type1 (gQ (ha pos pins s σ H _ I h) λus s1 ⟨vs,H1,I1,r1,q1⟩=>?_) hs rfl));obtain ⟨j,e,q1,q2,q⟩:=q1;subst e;cases r1 with
 | cons r rr =>
  cases rr;obtain ⟨t,rfl⟩:=r;exact call_range_1 (Eu I1 (by lia) (by lia) q1 q2 (by simpa using q))
theorem IA {a b:Expr} {ta:TA} {p pos:Pos} (hg:Gl X "range") (hm:X.mg "range"=none) (ha:PA X [a,b] ta) (hs:starEach [a,b] X.env=[(false,eval a X.env),(false,eval b X.env)]:=by rfl) (hs2:starEach [b] X.env=[(false,eval b X.env)]:=by rfl) :
  PI X tg (.Call (.Name "range" p) [a,b] [] pos) (Nu ta):=by
 intro pins s σ H R I h;refine Call_ (jT I hg hm boot_range (PyProof.Rows.callWith_type1 (gQ (ha pos pins s σ H _ I h) λus s1 ⟨vs,H1,I1,r1,q1⟩=>?_) (by rw[hs,hs2]) (by rw[hs2];rfl)));obtain ⟨i,j,e,⟨q1,q2,q3,q4⟩,q⟩:=q1;subst e;cases r1 with
 | cons r rr =>
  cases rr with
  | cons r' rr =>
   cases rr;obtain ⟨t,rfl⟩:=r;obtain ⟨t',rfl⟩:=r';exact call_range_2 (Eu I1 q1 q2 q3 q4 q)
def PM (wi:TI) (g:TG) (tb:TS):TS:=λD σ H=>wi σ H λJ H1=>∃W:Nat->Nat->St->Hp->Prop,(∃m,W 0 m σ H1)/\∀i m σ H,W i m σ H →
 (J.stop i H/\D.nx σ H)\/(J.go i H/\∃N:St->Hp->Prop,(∀σ' H',N σ' H'->∃m',m' < m/\W (i+1) m' σ' H')/\∀x H',J.yld i H x H'->g x σ H' λσ2 H2=>tb { D with nx:=N,ct:=N,bk:=D.nx } σ2 H2)
def zL (fp:List Addr) (h:Heap):List (Addr×Obj):=fp.filterMap λb=>(h.get? b).map λo=>(b,o)
theorem o6 {fp:List Addr} {h:Heap} {b:Addr} {o:Obj} (hb:b∈fp) (e:h.get? b=some o):(b,o)∈zL fp h:=List.mem_filterMap.mpr ⟨b,hb,by rw[e];rfl⟩
theorem IF {fp:List Addr} {h:Heap} {p:Addr×Obj} (hp:p∈zL fp h):p.1∈fp/\h.get? p.1=some p.2:=by
 obtain ⟨b,hb,e⟩:=List.mem_filterMap.mp hp;cases q:h.get? b with
 | none=>rw[q] at e;cases e
 | some o =>
  rw[q] at e;have e':(b,o)=p:=b6 e;subst e';exact ⟨hb,q⟩
theorem Inv.pinned {pins:List (Addr×Obj)} {σ:St} {H:Hp} {s:Shared} {fp:List Addr} (I:Inv X pins σ H s) (hf:∀b∈fp,jV X pins H b) (ho:∀b∈fp,∃o,s.heap.get? b=some o/\∀v,o.data≠.cell v):Inv X (pins++zL fp s.heap) σ H s :=
 I.pins_of λp hp=>(aw.mp hp).elim (λz=>I.pin p (bF _ z)) λz=>by
  obtain ⟨hb,e⟩:=IF z;obtain ⟨f0,f1,f2,_⟩:=hf p.1 hb;obtain ⟨o,e',d⟩:=ho p.1 hb;rw[e] at e';cases e';exact ⟨e,f0,f1,f2,d⟩
theorem Inv.unpinned {pins pl:List (Addr×Obj)} {σ:St} {H:Hp} {s:Shared} (I:Inv X (pins++pl) σ H s):Inv X pins σ H s:=I.pins_of λp hp=>I.pin p (bF _ (dX _ hp))
theorem dO {iter : Expr} {body : List Stmt} {wi : TI} {g : TG} {tb : TS} {pos : Pos} (hp : PassesOwn (model X.prog X.w) X.A X.env X.xe) (hc : X.calm = true) (hi : PI X tg iter wi) (hg : PG X tg g) (hb : F6 X body tb)
    (hs : ∀ x, foldedSetIterable iter X.env x = pure x := by intro _; rfl) : PS X (.For tg iter body [] pos) (PM wi g tb) := by
  intro pins s σ H D I h;refine wpAny_For (gQ (hi pins s σ H _ I h) λv s1 h1 => gQ h1 λitv s2 h2 => ?_) hs;obtain ⟨it, fp, tn, J, H2, e, I2, T, st2, f2, W, ⟨m0, w0⟩, turn⟩ := h2;subst e;have stat : ∀ {H' : Hp}, (∀ b ∈ fp, H' b = none) → ∀ b ∈ fp, jV X pins H' b := λhn b hb => ⟨hn b hb, (f2 b hb).2⟩
  refine codeAny_forLoop_any (λn s' => ∃ i σ' H', Inv X pins σ' H' s' /\ tn i s'.heap /\ (∀ b ∈ fp, H' b = none) /\ W i n σ' H') ?_ m0 ⟨0, σ, H2, I2, st2, λb hb => (f2 b hb).1, w0⟩;rintro n s3 ⟨i, σ3, H3, I3, st3, fr3, w3⟩;rcases turn i n σ3 H3 w3 with ⟨stop, qn⟩ | ⟨go, N, hN, step⟩
  · refine wpAny_passesOwn hp (gQ (T.done X rfl rfl rfl hc i pins s3 σ3 H3 X.xe I3 (stat fr3) st3 stop) λr s4 ⟨hr, I4⟩ => ?_);subst hr;exact wpAny_execs_nil ⟨σ3, H3, I4, qn⟩
  · refine wpAny_passesOwn hp (gQ (T.item X rfl rfl rfl hc i pins s3 σ3 H3 X.xe I3 (stat fr3) st3 go) λr s4 ⟨u, hr, h4⟩ => ?_);subst hr;refine wpAny_passesOwn hp (gQ h4 λ_ s5 ⟨x, H5, I5, r5, y5, st5, fr5⟩ => ?_);have I5' := I5.pinned (stat fr5) (T.obj _ _ st5);refine wpAny_passesOwn hp (gQ (hg _ s5 σ3 H5 x u _ I5' r5 (step x H5 y5)) λ_ s6 ⟨σ6, H6, I6, q6⟩ => ?_);refine wpAny_passesOwn hp (gQ (hb _ s6 σ6 H6 _ I6 q6) λf s7 q7 => ?_)
    have again : ∀ {σ7 : St} {H7 : Hp}, Inv X (pins ++ zL fp s5.heap) σ7 H7 s7 → N σ7 H7 → ∃ m, m < n /\ ∃ i σ' H', Inv X pins σ' H' s7 /\ tn i s7.heap /\ (∀ b ∈ fp, H' b = none) /\ W i m σ' H' := λ{σ7 H7} I7 n7 => by
      obtain ⟨m', hm, w7⟩ := hN σ7 H7 n7;refine ⟨m', hm, i + 1, σ7, H7, I7.unpinned, T.keep _ _ _ st5 λb hb o e => (I7.pin (b, o) (bF _ (bF _ (o6 hb e)))).1, λb hb => ?_, w7⟩;obtain ⟨o, e, d⟩ := T.obj _ _ st5 b hb;exact (I7.pin (b, o) (bF _ (bF _ (o6 hb e)))).2.1
    cases f with
    | next => obtain ⟨σ7, H7, I7, n7⟩ := q7; exact again I7 n7
    | cont => obtain ⟨σ7, H7, I7, n7⟩ := q7; exact again I7 n7
    | brk => obtain ⟨σ7, H7, I7, q7⟩ := q7; exact ⟨σ7, H7, I7.unpinned, q7⟩
    | ret v => obtain ⟨x7, σ7, H7, I7, r7, q7⟩ := q7; exact ⟨x7, σ7, H7, I7.unpinned, r7, q7⟩
end
theorem fY {K:FG9} {a:Addr} {xs:List V} {g:TG} {tb:TS} {D:Ends} {σ:St} {H:Hp} (Pv:Nat->St->Hp->Prop) (h0:Pv 0 σ H) (hl:∀i σ H,i<=xs.length->Pv i σ H->bN K H a xs)
  (hs:∀i x σ H,xs[i]?=some x->Pv i σ H->g x σ H λσ2 H2=>tb { D with nx:=Pv (i+1),ct:=Pv (i+1),bk:=D.nx } σ2 H2) (hd:∀σ H,Pv xs.length σ H->D.nx σ H) :
  ∃W:Nat->Nat->St->Hp->Prop,(∃m,W 0 m σ H)/\∀i m σ H,W i m σ H →
   ((Lk K a).stop i H/\D.nx σ H)\/((Lk K a).go i H/\∃N:St->Hp->Prop,(∀σ' H',N σ' H'->∃m',m' < m/\W (i+1) m' σ' H')/\∀x H',(Lk K a).yld i H x H'->g x σ H' λσ2 H2=>tb { D with nx:=N,ct:=N,bk:=D.nx } σ2 H2):=by
 refine ⟨λi m σ H=>m=xs.length - i/\i<=xs.length/\Pv i σ H,⟨xs.length,by simp,bf _,h0⟩,?_⟩;rintro i m σ H ⟨rfl,hi,p⟩;have q:=hl i σ H hi p;by_cases hlt:i < xs.length
 ·refine .inr ⟨⟨xs,xs[i],q,by simp [hlt]⟩,Pv (i+1),λσ' H' p'=>⟨xs.length - (i+1),by lia,rfl,hlt,p'⟩,λx H' y=>?_⟩;obtain ⟨e,y⟩:=y;subst e;exact hs i x σ _ (y xs q) p
 ·have e:i=xs.length:=by lia
  subst e;exact .inl ⟨⟨xs,q,aj _⟩,hd σ H p⟩
theorem Dz {K:FG9} {a:Addr} {xs:List V} {g:TG} {tb:TS} {D:Ends} {σ:St} {H:Hp} (Pv:Nat->St->Hp->Prop) (h0:Pv 0 σ H) (hl:∀i σ H,i<=xs.length->Pv i σ H->jl K H a xs)
  (hs:∀i x σ H,xs[i]?=some x->Pv i σ H->g x σ H λσ2 H2=>tb { D with nx:=Pv (i+1),ct:=Pv (i+1),bk:=D.nx } σ2 H2) (hd:∀σ H,Pv xs.length σ H->D.nx σ H) :
  ∃W:Nat->Nat->St->Hp->Prop,(∃m,W 0 m σ H)/\∀i m σ H,W i m σ H →
   ((MX K a).stop i H/\D.nx σ H)\/((MX K a).go i H/\∃N:St->Hp->Prop,(∀σ' H',N σ' H'->∃m',m' < m/\W (i+1) m' σ' H')/\∀x H',(MX K a).yld i H x H'->g x σ H' λσ2 H2=>tb { D with nx:=N,ct:=N,bk:=D.nx } σ2 H2):=by
 refine ⟨λi m σ H=>m=xs.length - i/\i<=xs.length/\Pv i σ H,⟨xs.length,by simp,bf _,h0⟩,?_⟩;rintro i m σ H ⟨rfl,hi,p⟩;have q:=hl i σ H hi p;by_cases hlt:i < xs.length
 ·refine .inr ⟨⟨xs,xs[i],q,by simp [hlt]⟩,Pv (i+1),λσ' H' p'=>⟨xs.length - (i+1),by lia,rfl,hlt,p'⟩,λx H' y=>?_⟩;obtain ⟨e,y⟩:=y;subst e;exact hs i x σ _ (y xs q) p
 ·have e:i=xs.length:=by lia
  subst e;exact .inl ⟨⟨xs,q,aj _⟩,hd σ H p⟩
theorem BJ {lo:Int} {n:Nat} {g:TG} {tb:TS} {D:Ends} {σ:St} {H:Hp} (Pv:Nat->St->Hp->Prop) (h0:Pv 0 σ H)
  (hs:∀i σ H,i < n->Pv i σ H->g (.int (lo+i)) σ H λσ2 H2=>tb { D with nx:=Pv (i+1),ct:=Pv (i+1),bk:=D.nx } σ2 H2) (hd:∀σ H,Pv n σ H->D.nx σ H) :
  ∃W:Nat->Nat->St->Hp->Prop,(∃m,W 0 m σ H)/\∀i m σ H,W i m σ H →
   ((Fe lo n).stop i H/\D.nx σ H)\/((Fe lo n).go i H/\∃N:St->Hp->Prop,(∀σ' H',N σ' H'->∃m',m' < m/\W (i+1) m' σ' H')/\∀x H',(Fe lo n).yld i H x H'->g x σ H' λσ2 H2=>tb { D with nx:=N,ct:=N,bk:=D.nx } σ2 H2):=by
 refine ⟨λi m σ H=>m=n - i/\i<=n/\Pv i σ H,⟨n,by simp,bf _,h0⟩,?_⟩;rintro i m σ H ⟨rfl,hi,p⟩;by_cases hlt:i < n
 ·refine .inr ⟨hlt,Pv (i+1),λσ' H' p'=>⟨n - (i+1),by lia,rfl,hlt,p'⟩,λx H' y=>?_⟩;obtain ⟨e,y⟩:=y;subst e y;exact hs i σ _ hlt p
 ·have e:i=n:=by lia
  subst e;exact .inl ⟨aj _,hd σ H p⟩
abbrev R2:=V->V->Hp->VK->Prop
def yE (X:Cx) (f:Value->Value->Sem Value) (r:R2):Prop :=
 ∀(pins:List (Addr×Obj)) (s:Shared) (σ:St) (H:Hp) (x y:V) (v u:Value) (Q:VK),Inv X pins σ H s->RelV x v->RelV y u->r x y H Q →
  wpAny (model X.prog X.w) X.A (f v u) (EP X pins σ Q) X.xe s
def RC (X:Cx) (f:Value->Sem Value) (r:V->Hp->VK->Prop):Prop :=
 ∀(pins:List (Addr×Obj)) (s:Shared) (σ:St) (H:Hp) (x:V) (v:Value) (Q:VK),Inv X pins σ H s->RelV x v->r x H Q →
  wpAny (model X.prog X.w) X.A (f v) (EP X pins σ Q) X.xe s
def mG (X:Cx) (f:Value) (r:List V->Hp->VK->Prop):Prop :=
 ∀(pins:List (Addr×Obj)) (s:Shared) (σ:St) (H:Hp) (xs:List V) (us:List Value) (Q:VK),Inv X pins σ H s->cO xs us->r xs H Q →
  wpAny (model X.prog X.w) X.A (call f us) (EP X pins σ Q) X.xe s
def PH (r:R2) (ta tb:TE):TE:=λσ H Q=>ta σ H λx H1=>tb σ H1 λy H2=>r x y H2 Q
def Q0 (r:V->Hp->VK->Prop) (ta:TE):TE:=λσ H Q=>ta σ H λx H1=>r x H1 Q
def rI (C:Int->Int->Prop) (g:Int->Int->V):R2:=λx y H Q=>∃i j,x=.int i/\y=.int j/\C i j/\Q (g i j) H
def Mn (g:Int->Int->V):R2:=λx y H Q=>∃i j,x=.int i/\y=.int j/\Q (g i j) H
def rU (g:Int->V):V->Hp->VK->Prop:=λx H Q=>∃i,x=.int i/\Q (g i) H
section
variable {X:Cx} {a b c:Expr} {ta tb tc:TE} {pos:Pos}
theorem O4 (ha:PE X a ta) (hb:PE X b tb) {pins:List (Addr×Obj)} {s:Shared} {σ:St} {H:Hp} {R:V->V->Hp->Prop} (I:Inv X pins σ H s)
  (h:ta σ H λx H1=>tb σ H1 λy H2=>R x y H2) {Q:Value->Shared->Prop} {f:Value->Value->Sem Value}
  (hf:∀v u s2 x y H2,Inv X pins σ H2 s2->RelV x v->RelV y u->R x y H2->wpAny (model X.prog X.w) X.A (f v u) Q X.xe s2) :
  wpAny (model X.prog X.w) X.A (eval a X.env) (λv s₁=>wpAny (model X.prog X.w) X.A (eval b X.env) (λu s₂=>wpAny (model X.prog X.w) X.A (f v u) Q X.xe s₂) X.xe s₁) X.xe s:=by
 refine gQ (ha pins s σ H _ I h) λv s1 ⟨x,H1,I1,r1,q1⟩=>?_
 refine gQ (hb pins s1 σ H1 _ I1 q1) λu s2 ⟨y,H2,I2,r2,q2⟩=>?_
 exact hf v u s2 x y H2 I2 r1 r2 q2
theorem bH {op:Operator} {r:R2} (ho:yE X (binaryOp op) r) (ha:PE X a ta) (hb:PE X b tb):PE X (.BinOp a op b pos) (PH r ta tb):=by
 intro pins s σ H Q I h;exact wpAny_BinOp (O4 ha hb I h λv u s2 x y H2 I2 rx ry q=>ho pins s2 σ H2 x y v u Q I2 rx ry q)
theorem xm {op:UnaryOp} {r:V->Hp->VK->Prop} (ho:RC X (unaryOp op) r) (ha:PE X a ta):PE X (.UnaryOp op a pos) (Q0 r ta):=by
 intro pins s σ H Q I h;exact UnaryOp_ (gQ (ha pins s σ H _ I h) λv s1 ⟨x,H1,I1,r1,q1⟩=>ho pins s1 σ H1 x v Q I1 r1 q1)
theorem Q1 {f:Value->Value->Sem Value} {C:Int->Int->Prop} {g:Int->Int->Int}
  (rule:∀(i j:Int) (t u:Tok) (s:Shared) (Q:Value->Shared->Prop) (E:Value->Shared->Prop),C i j->Q (.int (g i j) s.toks) { s with toks:=s.toks+1 }->wpAny (model X.prog X.w) X.A (f (.int i t) (.int j u)) Q E s) :
  yE X f (rI C λi j=>.int (g i j)):=by
 intro pins s σ H x y v u Q I rx ry h;obtain ⟨i,j,rfl,rfl,hc,q⟩:=h;obtain ⟨t,rfl⟩:=rx;obtain ⟨t',rfl⟩:=ry;exact rule i j t t' s _ _ hc ⟨.int (g i j),H,I.tok _,⟨_,rfl⟩,q⟩
theorem Qo {f:Value->Value->Sem Value} {g:Int->Int->Int}
  (rule:∀(i j:Int) (t u:Tok) (s:Shared) (Q:Value->Shared->Prop) (E:Value->Shared->Prop),Q (.int (g i j) s.toks) { s with toks:=s.toks+1 }->wpAny (model X.prog X.w) X.A (f (.int i t) (.int j u)) Q E s) :
  yE X f (Mn λi j=>.int (g i j)):=by
 intro pins s σ H x y v u Q I rx ry h;obtain ⟨i,j,rfl,rfl,q⟩:=h;obtain ⟨t,rfl⟩:=rx;obtain ⟨t',rfl⟩:=ry;exact rule i j t t' s _ _ ⟨.int (g i j),H,I.tok _,⟨_,rfl⟩,q⟩
theorem Mx {f:Value->Value->Sem Value} {g:Int->Int->Bool}
  (rule:∀(i j:Int) (t u:Tok) (s:Shared) (Q:Value->Shared->Prop) (E:Value->Shared->Prop),Q (.bool (g i j)) s->wpAny (model X.prog X.w) X.A (f (.int i t) (.int j u)) Q E s) :
  yE X f (Mn λi j=>.bl (g i j)):=by
 intro pins s σ H x y v u Q I rx ry h;obtain ⟨i,j,rfl,rfl,q⟩:=h;obtain ⟨t,rfl⟩:=rx;obtain ⟨t',rfl⟩:=ry;exact rule i j t t' s _ _ ⟨.bl (g i j),H,I,rfl,q⟩
def Pe (i j:Int):Prop:=(-(2^64) < i/\i < 2^64)\/(-(2^64) < j/\j < 2^64)
theorem Pe.ok {i j:Int} (h:Pe i j):IntMulOk i j:=by
 rcases h with ⟨h1,h2⟩ | ⟨h1,h2⟩
 ·exact .of_left (intBits_le_64 h1 h2)
 ·exact .of_right (intBits_le_64 h1 h2)
theorem ff:yE X (binaryOp .Add) (Mn λi j=>.int (i+j)):=Qo λ_ _ _ _ _ _ _ q=>add_int q
theorem i5:yE X (binaryOp .Sub) (Mn λi j=>.int (i - j)):=Qo λ_ _ _ _ _ _ _ q=>sub_int q
theorem mW:yE X (binaryOp .Mod) (rI (λ_ j=>0 < j) λi j=>.int (i % j)):=Q1 λi j _ _ _ _ _ hc q=>by
 have h1:(0:Int) < j:=hc;exact mod_int' (by lia) (by rw[Int.fmod_eq_emod_of_nonneg i (by lia)];exact q)
theorem Mw:yE X (binaryOp .Mod) (rI (λ_ j=>j≠0) λi j=>.int (i.fmod j)):=Q1 λ_ _ _ _ _ _ _ hc q=>mod_int' hc q
theorem unI {f:Value->Sem Value} {g:Int->Int}
  (rule:∀(i:Int) (t:Tok) (s:Shared) (Q:Value->Shared->Prop) (E:Value->Shared->Prop),Q (.int (g i) s.toks) { s with toks:=s.toks+1 }->wpAny (model X.prog X.w) X.A (f (.int i t)) Q E s) :
  RC X f (rU λi=>.int (g i)):=by
 intro pins s σ H x v Q I rx h;obtain ⟨i,rfl,q⟩:=h;obtain ⟨t,rfl⟩:=rx;exact rule i t s _ _ ⟨.int (g i),H,I.tok _,⟨_,rfl⟩,q⟩
theorem pW:RC X (unaryOp .USub) (rU λi=>.int (-i)):=unI λ_ _ _ _ _ q=>neg_int q
end
def PY:V->V->Bool
 | .non,.non=>true | .non,.int _=>true | .int _,.non=>true | .non,.bl _=>true | .bl _,.non=>true | .non,.str _=>true | .str _,.non=>true
 | .int _,.int _=>true | .bl _,.bl _=>true | .str _,.str _=>true | .byt _,.byt _=>true
 | .int _,.str _=>true | .str _,.int _=>true | .bl _,.str _=>true | .str _,.bl _=>true
 | _,_=>false
def Rj:R2:=λx y H Q=>PY x y=true/\Q (.bl (decide (x=y))) H
def rNe:R2:=λx y H Q=>PY x y=true/\Q (.bl (!decide (x=y))) H
theorem Hw {i j:Int}:decide (V.int i=V.int j)=(i == j):=by
 rw[k6];simp
theorem K3 {i j:Bool}:decide (V.bl i=V.bl j)=(i == j):=by
 rw[k6];simp
theorem Hv {i j:Str}:decide (V.str i=V.str j)=(i == j):=by
 rw[k6];simp
theorem HG {i j:Array UInt8}:decide (V.byt i=V.byt j)=(i.toList == j.toList):=by
 rw[k6];cases i;cases j;simp
section
variable {X:Cx} {a b c:Expr} {ta tb tc:TE} {pos:Pos}
theorem dm {pins:List (Addr×Obj)} {σ:St} {H:Hp} {s:Shared} {Q:VK} {k k':Bool} (I:Inv X pins σ H s) (q:Q (.bl k) H) (e:k=k'):EP X pins σ Q (.bool k') s:=by
 subst e;exact ⟨.bl k,H,I,rfl,q⟩
theorem eJ:yE X (compareOp .Eq) Rj:=by
 intro pins s σ H x y v u Q I rx ry h;obtain ⟨hs,q⟩:=h;cases x with
 | non =>
  cases rx;cases y with
  | non=>cases ry;exact PySem.EqNone.eq_none_none (dm I q (by simp))
  | bl j=>cases ry;exact PySem.EqNone.eq_none_bool (dm I q (by simp))
  | int j=>obtain ⟨t',rfl⟩:=ry;exact PySem.EqNone.eq_none_int (dm I q (by simp))
  | str j=>obtain ⟨t',rfl⟩:=ry;exact PySem.EqNone.eq_none_str (dm I q (by simp))
  | _=>exact absurd (show false=true from hs) bc
 | bl i =>
  cases rx;cases y with
  | non=>cases ry;exact PySem.EqNone.eq_bool_none (dm I q (by simp))
  | bl j=>cases ry;exact eq_bool (dm I q K3)
  | str j=>obtain ⟨t',rfl⟩:=ry;exact PySem.EqMixed.eq_bool_str (dm I q (by simp))
  | _=>exact absurd (show false=true from hs) bc
 | int i =>
  obtain ⟨t,rfl⟩:=rx;cases y with
  | non=>cases ry;exact PySem.EqNone.eq_int_none (dm I q (by simp))
  | int j=>obtain ⟨t',rfl⟩:=ry;exact eq_int (dm I q Hw)
  | str j=>obtain ⟨t',rfl⟩:=ry;exact PySem.EqMixed.eq_int_str (dm I q (by simp))
  | _=>exact absurd (show false=true from hs) bc
 | str i =>
  obtain ⟨t,rfl⟩:=rx;cases y with
  | non=>cases ry;exact PySem.EqNone.eq_str_none (dm I q (by simp))
  | bl j=>cases ry;exact PySem.EqMixed.eq_str_bool (dm I q (by simp))
  | int j=>obtain ⟨t',rfl⟩:=ry;exact PySem.EqMixed.eq_str_int (dm I q (by simp))
  | str j=>obtain ⟨t',rfl⟩:=ry;exact eq_str (dm I q Hv)
  | _=>exact absurd (show false=true from hs) bc
 | byt i =>
  obtain ⟨t,rfl⟩:=rx;cases y with
  | byt j=>obtain ⟨t',rfl⟩:=ry;exact PySem.W.eq_bytes (dm I q HG)
  | _=>exact absurd (show false=true from hs) bc
 | _=>cases y <;> exact absurd (show false=true from hs) bc
theorem uM:yE X (compareOp .NotEq) rNe:=by
 intro pins s σ H x y v u Q I rx ry h;obtain ⟨hs,q⟩:=h;cases x with
 | non =>
  cases rx;cases y with
  | non=>cases ry;exact PySem.EqNone.ne_none_none (dm I q (by simp))
  | bl j=>cases ry;exact PySem.EqNone.ne_none_bool (dm I q (by simp))
  | int j=>obtain ⟨t',rfl⟩:=ry;exact PySem.EqNone.ne_none_int (dm I q (by simp))
  | str j=>obtain ⟨t',rfl⟩:=ry;exact PySem.EqNone.ne_none_str (dm I q (by simp))
  | _=>exact absurd (show false=true from hs) bc
 | bl i =>
  cases rx;cases y with
  | non=>cases ry;exact PySem.EqNone.ne_bool_none (dm I q (by simp))
  | bl j=>cases ry;exact ne_bool (dm I q (congrArg not K3))
  | str j=>obtain ⟨t',rfl⟩:=ry;exact PySem.EqMixed.ne_bool_str (dm I q (by simp))
  | _=>exact absurd (show false=true from hs) bc
 | int i =>
  obtain ⟨t,rfl⟩:=rx;cases y with
  | non=>cases ry;exact PySem.EqNone.ne_int_none (dm I q (by simp))
  | int j=>obtain ⟨t',rfl⟩:=ry;exact ne_int (dm I q (congrArg not Hw))
  | str j=>obtain ⟨t',rfl⟩:=ry;exact PySem.EqMixed.ne_int_str (dm I q (by simp))
  | _=>exact absurd (show false=true from hs) bc
 | str i =>
  obtain ⟨t,rfl⟩:=rx;cases y with
  | non=>cases ry;exact PySem.EqNone.ne_str_none (dm I q (by simp))
  | bl j=>cases ry;exact PySem.EqMixed.ne_str_bool (dm I q (by simp))
  | int j=>obtain ⟨t',rfl⟩:=ry;exact PySem.EqMixed.ne_str_int (dm I q (by simp))
  | str j=>obtain ⟨t',rfl⟩:=ry;exact ne_str (dm I q (congrArg not Hv))
  | _=>exact absurd (show false=true from hs) bc
 | byt i =>
  obtain ⟨t,rfl⟩:=rx;cases y with
  | byt j=>obtain ⟨t',rfl⟩:=ry;exact PySem.W.ne_bytes (dm I q (congrArg not HG))
  | _=>exact absurd (show false=true from hs) bc
 | _=>cases y <;> exact absurd (show false=true from hs) bc
theorem qU:yE X (compareOp .Lt) (Mn λi j=>.bl (decide (i < j))):=Mx λ_ _ _ _ _ _ _ q=>lt_int q
theorem Qn:yE X (compareOp .LtE) (Mn λi j=>.bl (decide (i<=j))):=Mx λ_ _ _ _ _ _ _ q=>le_int q
theorem pM:yE X (compareOp .Gt) (Mn λi j=>.bl (decide (j < i))):=Mx λ_ _ _ _ _ _ _ q=>gt_int q
theorem By:yE X (compareOp .GtE) (Mn λi j=>.bl (decide (j<=i))):=Mx λ_ _ _ _ _ _ _ q=>ge_int q
theorem GI:yE X (compareOp .IsNot) (λx y H Q=>y=.non/\Q (.bl (!decide (x=.non))) H):=by
 intro pins s σ H x y v u Q I rx ry h;obtain ⟨rfl,q⟩:=h;cases ry;refine isnot_none_gen (dm I q ?_)
 cases x <;> first
  | (cases rx;rfl)
  | (obtain ⟨t,rfl⟩:=rx;rfl)
theorem bD (b:Expr) {op:CmpOp} (h:op≠.In:=by decide) (h2:op≠.NotIn:=by decide):behindInMarks op b=false:=by
 have e1:(op == CmpOp.In)=false:=by cases op <;> first | rfl | exact absurd rfl h
 have e2:(op == CmpOp.NotIn)=false:=by cases op <;> first | rfl | exact absurd rfl h2
 cases b <;> simp [behindInMarks,e1,e2]
theorem gO {op:CmpOp} {r:R2} (ho:yE X (compareOp op) r) (ha:PE X a ta) (hb:PE X b tb) (hm:behindInMarks op b=false):PE X (.Compare a [op] [b] pos) (PH r ta tb):=by
 intro pins s σ H Q I h;exact wpAny_Compare1 (O4 ha hb I h λv u s2 x y H2 I2 rx ry q=>ho pins s2 σ H2 x y v u Q I2 rx ry q) hm
def M6 (t:TE):TT:=λσ H Q=>t σ H λx H'=>∃k,x=.bl k/\Q k H'
theorem bx {op:CmpOp} {r:R2} (ho:yE X (compareOp op) r) (ha:PE X a ta) (hb:PE X b tb) (hm:behindInMarks op b=false):PT X (.Compare a [op] [b] pos) (M6 (PH r ta tb)):=by
 intro pins s σ H Q I h
 refine wpAny_isTrue_Compare1 (gQ (ha pins s σ H _ I h) λv s1 ⟨x,H1,I1,r1,q1⟩=>gQ (hb pins s1 σ H1 _ I1 q1) λu s2 ⟨y,H2,I2,r2,q2⟩ =>
  gQ (ho pins s2 σ H2 x y v u _ I2 r1 r2 q2) λc s3 ⟨z,H3,I3,r3,k,e,q3⟩=>?_) hm
 subst e;cases r3;exact wpAny_truthy_bool ⟨H3,I3,q3⟩
theorem z9:(sizeLine:Nat) < 2^63:=by rw[sizeLine_eq];decide
theorem vals1 {x:V} {us:List Value} (r:cO [x] us):∃u,us=[u]/\RelV x u:=by
 cases r with
 | cons r1 r2=>cases r2;exact ⟨_,rfl,r1⟩
theorem vals2 {x y:V} {us:List Value} (r:cO [x,y] us):∃u w',us=[u,w']/\RelV x u/\RelV y w':=by
 cases r with
 | cons r1 r2 =>
  cases r2 with
  | cons r3 r4=>cases r4;exact ⟨_,_,rfl,r1,r3⟩
theorem vC:mG X (.builtin "abs") (λxs H Q=>∃i,xs=[.int i]/\Q (.int (if i < 0 then -i else i)) H):=by
 intro pins s σ H xs us Q I r h;obtain ⟨i,rfl,q⟩:=h;obtain ⟨u,rfl,t,rfl⟩:=vals1 r;exact call_abs_int λu tk=>⟨.int (if i < 0 then -i else i),H,I.tok _,⟨_,rfl⟩,q⟩
theorem rS (hc:X.calm=true):mG X (.builtin "min") (λxs H Q=>∃i j,xs=[.int i,.int j]/\Q (.int (if j < i then j else i)) H):=by
 intro pins s σ H xs us Q I r h;obtain ⟨i,j,rfl,q⟩:=h;obtain ⟨u,w',rfl,⟨t,rfl⟩,⟨t',rfl⟩⟩:=vals2 r;refine min_two_ints (I.ok.hd hc) λh' tk k=>⟨_,H,I.kept k,?_,q⟩
 by_cases hj:j < i
 ·rw[if_pos hj,if_pos hj];exact ⟨_,rfl⟩
 ·rw[if_neg hj,if_neg hj];exact ⟨_,rfl⟩
end
structure F7 (h:Heap) (x dx C:Addr) (mA:Str->Option Value):Prop where
 obj:h.get? x=some (PySem.W.instObj C dx)
 ns:h.Ns1 dx mA
 ne:dx≠x
theorem IP {h:Heap} {dx:Addr} {mA:Str->Option Value} (n:h.Ns1 dx mA):∃od,h.get? dx=some od/\∀name,PySem.W.lookIn name od=some (mA name):=by
 obtain ⟨o,es,ep,ho,hd,hk,_,hm⟩:=n;refine ⟨o,ho,λname=>?_⟩;have e:=hm name;unfold nsFind findBy at e;rw[<- Array.find?_toList] at e;unfold PySem.W.lookIn;rw[hd]
 dsimp only
 split
 ·rename_i y q
  rw[q] at e;exact congrArg some e
 ·rename_i q
  rw[q] at e
  have a:es.toList.any (·.refKey)=false:=by
   rw[List.any_eq_false];intro y hy;obtain ⟨z,t,hkey⟩:=hk y (Array.mem_toList_iff.mp hy);simp [DictEntry.refKey,hkey]
  have a':¬es.toList.any (·.refKey)=true:=by rw[a];exact bc
  rw[if_neg a'];exact congrArg some e
theorem F7.look {h:Heap} {x dx C:Addr} {mA:Str->Option Value} (I:F7 h x dx C mA):∃od,PySem.W.InstAt h x (PySem.W.instObj C dx) C (some od)/\∀name,PySem.W.lookIn name od=some (mA name) :=
 let ⟨od,ho,hl⟩:=IP I.ns
 ⟨od,⟨I.obj,rfl,rfl,ho⟩,hl⟩
section
variable {prog:Program} {w:World} {A:Around} {E:Value->Shared->Prop} {s:Shared} {K:FG9} {x dx C f:Addr} {mA:Str->Option Value} {name:Str} {v:Value}
theorem get_map {expr:Bool} {Q:Value->Shared->Prop} (X:K.In s.heap) (I:F7 s.heap x dx C mA) (hg:PySem.W.plainGet K C name=true) (hh:PySem.W.hasDictIn K C=true)
  (ha:PySem.W.findIn K (.ref C) name=some none) (hv:mA name=some v) (hv':PySem.W.handedIn v=true) (h:Q v { s with toks:=s.toks+1 }) :
  wpAny (model prog w) A (getAttr (.ref x) name expr) Q E s:=by
 obtain ⟨od,J,hl⟩:=I.look;exact PySem.W.get_value X J (DT hg).1 (PySem.W.findObj_own hh ha rfl (by rw[hl,hv])) hv' h
theorem KE {pl:Sem Bool} {Q:Value×List Value->Shared->Prop} (X:K.In s.heap) (I:F7 s.heap x dx C mA) (hg:PySem.W.plainGet K C name=true)
  (hf:PySem.W.findIn K (.ref C) name=some (some (.ref f))) (ht:PySem.W.isFn K (.ref f)=true) (hv:mA name=none) (h:Q (.ref f,[.ref x]) s) :
  wpAny (model prog w) A (getMethod (.ref x) name pl) Q E s:=by
 obtain ⟨od,J,hl⟩:=I.look;exact PySem.W.method_fn X J (DT hg).1 (DT hg).2 hf (beq_iff_eq.mp ht) (by show (PySem.W.lookIn name od).map (·.isSome)=some false;rw[hl,hv];rfl) h
theorem LP {ns:List Str} {Q:Unit->Shared->Prop} (X:K.In s.heap) (I:F7 s.heap x dx C mA)
  (hs:PySem.W.findIn K (.ref C) "__setattr__"=some (some (.builtin "object.__setattr__"))) (hp:PySem.W.plainOver K C=true) (ht:PySem.W.takerIn K C name=some none) (hh:PySem.W.hasDictIn K C=true)
  (hw:PySem.Within mA ns) (hsz:ns.length<=sizeLine)
  (h:∀h',F7 h' x dx C (λy=>if y=name then some v else mA y)->Heap.SameBut dx s.heap h'->Q () { s with heap:=h',toks:=s.toks+2 }) :
  wpAny (model prog w) A (setAttr (.ref x) name v) Q E s:=by
 obtain ⟨od,J,hl⟩:=I.look;refine PySem.W.set_plain X J hs (PySem.W.osa_open (s:={ s with toks:=s.toks+1 }) (r:=none) X J hp ht λb=>?_);obtain ⟨cd,hc,hd'⟩:=PySem.W.any_some hh;have hx:s.heap.get? x=some ⟨.ref C,some dx,.plain,#[]⟩:=I.obj;refine wpAny_bind (wpAny_pure (wpAny_bind (wpAny_bind (wpAny_loadPart hx (wpAny_bind (PySem.W.Looks.here (s:={ s with toks:=s.toks+1 }) (PySem.W.looks_clsIn X hc) ?_))))));rw[hd'];refine wpAny_pure (a:=some dx) (wpAny_bind (wpAny_pure (wpAny_bind ?_)));refine wpAny_nsSet1 (s:={ s with toks:=s.toks+1 }) I.ns λh' hn2 hs2=>?_
 obtain ⟨oD,esD,epD,hoD,hdD,hcD⟩:=hn2.count (PySem.Within.cons name v hw);refine wpAny_bind (wpAny_lookBehind hoD (by rw[hdD];exact pastItsLine_dict (ai hcD (by rw[ba];lia))) ?_);exact wpAny_pure (h _ ⟨(hs2.2 _ (Ne.symm I.ne)).trans I.obj,hn2,I.ne⟩ hs2)
theorem Km {R:Result->Shared->Prop} {vs:List Value} {kw:List (Str×Value)} (X:K.In s.heap) (hm:PySem.W.makesIn K C=true)
  (hi:PySem.W.findIn K (.ref C) "__init__"=some (some (.ref f))) (hf:PySem.W.typeIn K (.ref f)=some (.type "function"))
  (h:codeAny (model prog w) (A.under (.builtin "type.__call__" ⟨.ref C :: vs,kw⟩)) (.call (.ref f) ⟨.ref (s.heap.objs.size+1) :: vs,kw⟩) (PySem.W.InitBack (s.heap.objs.size+1) R)
   { s with heap:=(s.heap.push PySem.W.emptyDict).push (PySem.W.instObj C s.heap.objs.size) }) :
  codeAny (model prog w) A (.call (.ref C) ⟨vs,kw⟩) R s:=by
 obtain ⟨hh,g,d,t,os⟩:=s;exact PySem.W.make_core (PySem.W.makes_of X hm) (PySem.W.looks_findIn X hi) (λself=>PySem.W.bind_fn X self hf) (.inl rfl) h
end
def cx (f:Str) (v:V):List (Str×V)->List (Str×V)
 | []=>[(f,v)]
 | (g,x) :: r=>if g=f then (g,v) :: r else (g,x) :: cx f v r
theorem bL (f g:Str) (v:V):∀fs:List (Str×V),(cx f v fs).lookup g=if g=f then some v else fs.lookup g
 | []=>by
  show List.lookup g [(f,v)]=_
  by_cases h:g=f
  ·have hb:(g == f)=true:=beq_iff_eq.mpr h;simp only[List.lookup,hb,if_pos h]
  ·have hb:(g == f)=false:=beq_eq_false_iff_ne.mpr h;simp only[List.lookup,hb,if_neg h]
 | (k,x) :: r=>by
  have ih:=bL f g v r;rw[show cx f v ((k,x) :: r)=(if k=f then (k,v) :: r else (k,x) :: cx f v r) from rfl];by_cases hk:k=f
  ·rw[if_pos hk];by_cases h:g=k
   ·have hb:(g == k)=true:=beq_iff_eq.mpr h;simp only[List.lookup,hb,if_pos (h.trans hk)]
   ·have hb:(g == k)=false:=beq_eq_false_iff_ne.mpr h;simp only[List.lookup,hb,if_neg (λe:g=f=>h (e.trans hk.symm))]
  ·rw[if_neg hk];by_cases h:g=k
   ·have hb:(g == k)=true:=beq_iff_eq.mpr h;simp only[List.lookup,hb,if_neg (λe:g=f=>hk (h.symm.trans e))]
   ·have hb:(g == k)=false:=beq_eq_false_iff_ne.mpr h;simp only[List.lookup,hb];exact ih
theorem wV (f:Str) (v:V):∀fs:List (Str×V),f∈(cx f v fs).map (·.1)/\∀g,g∈fs.map (·.1)->g∈(cx f v fs).map (·.1)
 | []=>⟨by simp [cx],λg h=>by simp at h⟩
 | (k,x) :: r=>by
  obtain ⟨i1,i2⟩:=wV f v r;rw[show cx f v ((k,x) :: r)=(if k=f then (k,v) :: r else (k,x) :: cx f v r) from rfl];by_cases hk:k=f
  ·rw[if_pos hk];subst hk;exact ⟨by simp,λg h=>by simpa using h⟩
  ·rw[if_neg hk];refine ⟨?_,λg h=>?_⟩
   ·rw[ij];exact bW _ i1
   ·rw[ij] at h ⊢;rcases aB.mp h with e | e
    ·exact aB.mpr (.inl e)
    ·exact bW _ (i2 g e)
theorem xr (f:Str) (v:V):∀fs:List (Str×V),(cx f v fs).length<=fs.length+1
 | []=>by simp [cx]
 | (k,x) :: r=>by
  have ih:=xr f v r;rw[show cx f v ((k,x) :: r)=(if k=f then (k,v) :: r else (k,x) :: cx f v r) from rfl];by_cases hk:k=f
  ·rw[if_pos hk,ba,ba];lia
  ·rw[if_neg hk,ba,ba];lia
theorem A3.some_of {v:V} {o:Option Value} (r:A3 (some v) o):∃u,o=some u/\RelV v u:=by
 cases o with
 | none=>exact (show False from r).elim
 | some u=>exact ⟨u,rfl,r⟩
theorem A3.none_of {o:Option Value} (r:A3 none o):o=none:=by
 cases o with
 | none=>rfl
 | some u=>exact (show False from r).elim
theorem IV {v:V} {u:Value} (r:RelV v u):PySem.W.handedIn u=true:=by
 cases v with
 | non=>cases (show u=Value.none from r);rfl
 | bl b=>cases (show u=Value.bool b from r);rfl
 | int i=>obtain ⟨t,e⟩:=(show ∃t,u=Value.int i t from r);cases e;rfl
 | str x=>obtain ⟨t,e⟩:=(show ∃t,u=Value.str x t from r);cases e;rfl
 | byt b=>obtain ⟨t,e⟩:=(show ∃t,u=Value.bytes b t from r);cases e;rfl
 | flt b=>obtain ⟨t,e⟩:=(show ∃t,u=Value.float b t from r);cases e;rfl
 | ref a=>cases (show u=Value.ref a from r);rfl
 | ty n=>cases (show u=Value.type n from r);rfl
section
variable {P:Program} {w:World} {H H':Hp} {h h':Heap} {a C dx:Addr} {fs fs':List (Str×V)}
theorem uY (hok:yO P w H h) (e:H a=some (.ins C dx fs)):∃mA,F7 h a dx C mA/\(∀f,A3 (fs.lookup f) (mA f))/\PySem.Within mA (fs.map (·.1))/\fs.length<=1000/\H dx=some (.own a):=by
 obtain ⟨d,z,ne,ob,mA,n,r,q⟩:=(show gi P w H h a (.ins C dx fs) from hok a _ e);exact ⟨mA,⟨ob,n,ne⟩,r,q,z,d⟩
end
structure Jk (K:FG9) (C:Addr):Prop where
 pg:PySem.W.plainGet K C Str.empty=true
 hd:PySem.W.hasDictIn K C=true
 po:PySem.W.plainOver K C=true
 sa:PySem.W.findIn K (.ref C) "__setattr__"=some (some (.builtin "object.__setattr__"))
theorem Jk.get {K:FG9} {C:Addr} (c:Jk K C) (f:Str):PySem.W.plainGet K C f=true:=c.pg
def jH (K:FG9) (C:Addr) (f:Str):Prop:=PySem.W.findIn K (.ref C) f=some none
theorem jH.taker {K:FG9} {C:Addr} {f:Str} (n:jH K C f):PySem.W.takerIn K C f=some none:=by
 unfold PySem.W.takerIn;rw[show PySem.W.findIn K (.ref C) f=some none from n];rfl
structure O9 (K:FG9) (C:Addr) (m:Str) (f:Addr):Prop where
 at_:PySem.W.findIn K (.ref C) m=some (some (.ref f))
 fn:PySem.W.isFn K (.ref f)=true
 kp:PySem.W.keepIn K (.ref f)=true
section
variable {X:Cx} {pins:List (Addr×Obj)} {σ:St} {H:Hp} {s:Shared} {a C dx:Addr} {fs:List (Str×V)} {f:Str} {v:V} {A:Around} {E:Value->Shared->Prop}
theorem FV {b:Bool} {Q:Value->Shared->Prop} (I:Inv X pins σ H s) (e:H a=some (.ins C dx fs)) (c:Jk X.K C) (n:jH X.K C f) (l:fs.lookup f=some v)
  (h:∀u s',Inv X pins σ H s'->RelV v u->Q u s'):wpAny (model X.prog X.w) A (getAttr (.ref a) f b) Q E s:=by
 obtain ⟨mA,O,r,_,_,_⟩:=uY I.hok e;obtain ⟨u,hu,ru⟩:=A3.some_of (v:=v) (o:=mA f) (by rw[<- l];exact r f);exact get_map I.kIn O (c.get f) c.hd n hu (IV ru) (h u _ (I.tok _) ru)
theorem FU {m:Str} {g:Addr} {pl:Sem Bool} {Q:Value×List Value->Shared->Prop} (I:Inv X pins σ H s) (e:H a=some (.ins C dx fs)) (c:Jk X.K C) (k:O9 X.K C m g) (l:fs.lookup m=none)
  (h:Q (.ref g,[.ref a]) s):wpAny (model X.prog X.w) A (getMethod (.ref a) m pl) Q E s:=by
 obtain ⟨mA,O,r,_,_,_⟩:=uY I.hok e;have hn:mA m=none:=A3.none_of (by rw[<- l];exact r m);exact KE I.kIn O (c.get m) k.at_ k.fn hn h
theorem Fn {y:V} {u:Value} {Q:Unit->Shared->Prop} (I:Inv X pins σ H s) (e:H a=some (.ins C dx fs)) (c:Jk X.K C) (n:jH X.K C f) (hl:fs.length < 1000) (ry:RelV y u)
  (h:∀s',Inv X pins σ (upd H a (.ins C dx (cx f y fs))) s'->Q () s'):wpAny (model X.prog X.w) A (setAttr (.ref a) f u) Q E s:=by
 obtain ⟨mA,O,r,wi,_,ho⟩:=uY I.hok e;have hz:(fs.map (·.1)).length<=sizeLine:=by rw[ar,sizeLine_eq];lia
 refine LP I.kIn O c.sa c.po n.taker c.hd wi hz λh' O' sb=>h _ ?_
 have hd:∃o,h'.get? dx=some o:=let ⟨o,_,_,e',_⟩:=O'.ns;⟨o,e'⟩
 refine I.write (x:=a) (e:=dx) (by rw[e];exact True.intro) (.inr ho) (λb q hb z=>(sb.2 b hb).trans z) hd ?_;refine ⟨by rw[bG O.ne];exact ho,?_,O.ne,O'.obj,_,O'.ns,λg=>?_,λg hg=>?_⟩
 ·have:=xr f y fs;lia
 ·show A3 ((cx f y fs).lookup g) (if g=f then some u else mA g)
  rw[bL];by_cases q:g=f
  ·rw[if_pos q,if_pos q];exact ry
  ·rw[if_neg q,if_neg q];exact r g
 ·by_cases q:g=f
  ·rw[q];exact (wV f y fs).1
  ·refine (wV f y fs).2 g (wi g λz=>hg ?_);show (if g=f then some u else mA g)=none
   rw[if_neg q];exact z
theorem Inv.made (I:Inv X pins σ H s):Inv X pins σ (upd (upd H s.heap.objs.size (.own (s.heap.objs.size+1))) (s.heap.objs.size+1) (.ins C s.heap.objs.size []))
  { s with heap:=(s.heap.push PySem.W.emptyDict).push (PySem.W.instObj C s.heap.objs.size) }:=by
 have e1:(s.heap.push PySem.W.emptyDict).get? s.heap.objs.size=some PySem.W.emptyDict:=Heap.get?_push_size s.heap rfl
 have e2:((s.heap.push PySem.W.emptyDict).push (PySem.W.instObj C s.heap.objs.size)).get? (s.heap.objs.size+1)=some (PySem.W.instObj C s.heap.objs.size):=by
  have:=Heap.get?_push_size (s.heap.push PySem.W.emptyDict) (o:=PySem.W.instObj C s.heap.objs.size) rfl;rwa [Heap.size_push] at this
 have e3:(s.heap.push PySem.W.emptyDict).Ns s.heap.objs.size (λ_=>none):=⟨PySem.W.emptyDict,#[],_,e1,rfl,(λe he=>absurd he (by simp)),λ_=>rfl⟩;have I1:=I.laid (a:=s.heap.objs.size) (o:=.own (s.heap.objs.size+1)) (h':=s.heap.push PySem.W.emptyDict) (t':=s.toks) (λb u q=>Heap.get?_push_of_some _ q) (aj _) ⟨_,e1⟩;refine I1.laid (a:=s.heap.objs.size+1) (o:=.ins C s.heap.objs.size []) (t':=s.toks) (λb u q=>Heap.get?_push_of_some _ q) (Nat.le_of_eq (Heap.size_push _ _)) ?_;have ne:s.heap.objs.size≠s.heap.objs.size+1:=bZ (iM _);refine ⟨by rw[bG ne,aK],bf _,ne,e2,λ_=>none,(Heap.Ns1.of_empty e3).at λo q=>Heap.get?_push_of_some _ q,λ_=>True.intro,λy hy=>absurd rfl hy⟩
theorem MU {prog:Program} {w:World} {env:Env} {e:Expr} {f:Str} {pos:Pos} {s:Shared} {Q:Value->Shared->Prop} (hb:attributeBase e f env (eval e env)=eval e env)
  (h:wpAny (model prog w) A (eval e env) (λo s₁=>wpAny (model prog w) A (getAttr o f true) Q E s₁) E s):wpAny (model prog w) A (eval (.Attribute e f pos) env) Q E s :=
 Attribute_any_ h (by rw[arm_eval_Attribute,hb])
end
def NV (K:FG9) (ta:TE) (f:Str):TE:=λσ H Q=>ta σ H λx H1=>∃a C dx fs v,x=.ref a/\H1 a=some (.ins C dx fs)/\Jk K C/\jH K C f/\fs.lookup f=some v/\Q v H1
def PZ (K:FG9) (ta tv:TE) (f:Str):TS:=λD σ H=>tv σ H λy H1=>ta σ H1 λx H2=>∃a C dx fs,x=.ref a/\H2 a=some (.ins C dx fs)/\Jk K C/\jH K C f/\fs.length < 1000 /\
 D.nx σ (upd H2 a (.ins C dx (cx f y fs)))
section
variable {X:Cx} {o e value:Expr} {f:Str} {pos pos' tpos:Pos} {ta tv:TE}
theorem iZ (he:PE X e ta) (hb:attributeBase e f X.env (eval e X.env)=eval e X.env):PE X (.Attribute e f pos) (NV X.K ta f):=by
 intro pins s σ H Q I h;refine MU hb (gQ (he pins s σ H _ I h) λu s1 ⟨x,H1,I1,rx,a,C,dx,fs,v,ex,ea,c,n,l,q⟩=>?_);subst ex;obtain rfl:u=Value.ref a:=rx;exact FV I1 ea c n l λu' s2 I2 ru=>⟨v,H1,I2,ru,q⟩
theorem wI (ha:PE X o ta) (hv:PE X value tv) (hs:swapsWith value (some (.Attribute o f pos')) pos.line X.env=pure false):PS X (.Assign [.Attribute o f pos'] value pos) (PZ X.K ta tv f):=by
 intro pins s σ H D I h;refine plainObj_wpAny_Assign_Attribute (gQ (hv pins s σ H _ I h) λu s1 ⟨y,H1,I1,ry,q⟩=>gQ (ha pins s1 σ H1 _ I1 q) λov s2 ⟨x,H2,I2,rx,a,C,dx,fs,ex,ea,c,n,l,q2⟩=>?_) hs;subst ex;obtain rfl:ov=Value.ref a:=rx;exact Fn I2 ea c n l ry λs3 I3=>⟨σ,_,I3,q2⟩
end
section
variable {X:Cx} {pins:List (Addr×Obj)} {σ:St} {H:Hp} {s:Shared} {A:Around} {E:Value->Shared->Prop} {Q:Value->Shared->Prop} {c:Value} {b:Bool}
inductive uv (K:FG9) (H:Hp):V->Value->Prop where
 | non:uv K H .non (.type "NoneType")
 | bl (x:Bool):uv K H (.bl x) (.type "bool")
 | int (i:Int):uv K H (.int i) (.type "int")
 | str (x:Str):uv K H (.str x) (.type "str")
 | flt (x:UInt64):uv K H (.flt x) (.type "float")
 | lst {a:Addr} {xs:List V} (e:H a=some (.lst xs)):uv K H (.ref a) (.type "list")
 | frz {a:Addr} {o:Obj} {xs:List V} (e:H a=some (.frz o (.lst xs))):uv K H (.ref a) (.type "list")
 | tup {a:Addr} {xs:List V} (e:H a=some (.tup xs)):uv K H (.ref a) (.type "tuple")
 | dK {a:Addr} {kvs:List (Key×V)} (e:H a=some (.dK kvs)):uv K H (.ref a) (.type "dict")
 | dT {a:Addr} {kvs:List (List Key×V)} (e:H a=some (.dT kvs)):uv K H (.ref a) (.type "dict")
 | ins {a C dx:Addr} {fs:List (Str×V)} (e:H a=some (.ins C dx fs)) (cl:Jk K C) (ha:PySem.W.findIn K (.ref C) "__class__"=some (some (.builtin "object.__class__")))
   (hn:PySem.W.specialIn K (.builtin "object.__class__") "__get__"=some (some (.builtin "getset_descriptor.__get__"))) (htk:PySem.W.takesIn K (.builtin "object.__class__")=some true)
   (hm:PySem.W.mroIn K C (.type "object")=some true):uv K H (.ref a) (.ref C)
theorem BI {x:V} {u t:Value} (I:Inv X pins σ H s) (rx:RelV x u) (ty:uv X.K H x t) (e:PySem.W.kitOne X.K t c=some b) (h:∀tk,Q (.bool b) { s with toks:=tk }) :
  wpAny (model X.prog X.w) A (call (.builtin "isinstance") [u,c]) Q E s:=by
 cases ty with
 | non=>cases (show u=Value.none from rx);exact du PySem.W.kitx_none I.kIn True.intro e (λz=>nomatch z) h
 | bl y=>cases (show u=Value.bool y from rx);exact du PySem.W.kitx_bool I.kIn True.intro e (λz=>nomatch z) h
 | int i=>obtain ⟨t,q⟩:=(show ∃t,u=Value.int i t from rx);cases q;exact du PySem.W.kitx_int I.kIn True.intro e (λz=>nomatch z) h
 | str y=>obtain ⟨t,q⟩:=(show ∃t,u=Value.str y t from rx);cases q;exact du PySem.W.kitx_str I.kIn True.intro e (λz=>nomatch z) h
 | flt y=>obtain ⟨t,q⟩:=(show ∃t,u=Value.float y t from rx);cases q;exact du PySem.W.kitx_float I.kIn True.intro e (λz=>nomatch z) h
 | @lst a xs ea =>
  cases (show u=Value.ref a from rx);obtain ⟨_,_,n,_,h1⟩:=(show gi X.prog X.w H s.heap a (.lst xs) from I.hok a _ ea);exact du vS I.kIn ⟨_,h1,rfl⟩ e (λz=>nomatch z) h
 | @frz a ob xs ea =>
  cases (show u=Value.ref a from rx);obtain ⟨_,_,_,n,_,h1⟩:=(show gi X.prog X.w H s.heap a (.frz ob (.lst xs)) from I.hok a _ ea);exact du vS I.kIn ⟨_,h1,rfl⟩ e (λz=>nomatch z) h
 | @tup a xs ea =>
  cases (show u=Value.ref a from rx);obtain ⟨_,_,_,p⟩:=(show gi X.prog X.w H s.heap a (.tup xs) from I.hok a _ ea);obtain ⟨o,h1,h2,_⟩:=p;exact du tH I.kIn ⟨o,h1,h2⟩ e (λz=>nomatch z) h
 | @dK a kvs ea =>
  cases (show u=Value.ref a from rx);obtain ⟨_,_,vs,_,p⟩:=(show gi X.prog X.w H s.heap a (.dK kvs) from I.hok a _ ea);obtain ⟨o,es,ep,h1,h2,_⟩:=p;exact du vT I.kIn ⟨o,h1,h2.1⟩ e (λz=>nomatch z) h
 | @dT a kvs ea =>
  cases (show u=Value.ref a from rx);obtain ⟨_,_,xs,_,o,es,ep,h1,h2,_⟩:=(show gi X.prog X.w H s.heap a (.dT kvs) from I.hok a _ ea);exact du vT I.kIn ⟨o,h1,h2.1⟩ e (λz=>nomatch z) h
 | @ins a C dx fs ea cl ha hn htk hm =>
  cases (show u=Value.ref a from rx);obtain ⟨mA,O,_⟩:=uY I.hok ea;obtain ⟨od,J,_⟩:=O.look;exact du (PySem.W.kitx_own (cl.get _) cl.hd ha hn htk hm) I.kIn J e (λz=>nomatch z) h
end
structure kI (k:Nat) (A:Around):Prop where
 hd:A.handled=none
 dp:A.depth+3*k+5 < recursionLimit
 un:A.units+16*k+200 < cLine
theorem kI.mono {j k:Nat} {A:Around} (r:kI k A) (h:j<=k):kI j A:=⟨r.hd,by have:=r.dp;lia,by have:=r.un;lia⟩
theorem kI.deeper {k:Nat} {A:Around} (r:kI (k+1) A) (env:Env):kI k (A.deeper env) :=
 ⟨r.hd,by have:=r.dp;show A.depth+1+3*k+5 < _;lia,by have:=r.un;show A.units+3+16*k+200 < _;lia⟩
theorem FP {A:Around} {C:Addr} {us:List Value} {kw:List (Str×Value)}:(A.under (.builtin "type.__call__" ⟨.ref C :: us,kw⟩)).depth=A.depth+1:=by
 first | rfl | simp [Around.under,Code.weight,Code.isCreation,Code.isGuard,Code.isCaller,Code.frames,Code.isFrame,guardIds]
theorem FO {A:Around} {C:Addr} {us:List Value} {kw:List (Str×Value)}:(A.under (.builtin "type.__call__" ⟨.ref C :: us,kw⟩)).units=A.units+1:=by
 first | rfl | simp [Around.under,Code.cUnits,Code.frames,Code.isFrame]
theorem kI.make {k:Nat} {A:Around} (r:kI (k+1) A) (C:Addr) (us:List Value) (kw:List (Str×Value)):kI k (A.under (.builtin "type.__call__" ⟨.ref C :: us,kw⟩)) :=
 ⟨r.hd,by have:=r.dp;rw[FP];lia,by have:=r.un;rw[FO];lia⟩
theorem kI.depth {k:Nat} {A:Around} (r:kI k A):A.depth < recursionLimit:=by have:=r.dp;lia
theorem kI.units {k:Nat} {A:Around} (r:kI k A):A.units+64 < cLine:=by have:=r.un;lia
def Ib:TA:=λ_ H Q=>Q [] H
def pZ (ta:TE) (tr:TA):TA:=λσ H Q=>ta σ H λx H1=>tr σ H1 λxs H2=>Q (x :: xs) H2
section
variable {X:Cx} {e:Expr} {es:List Expr} {te:TE} {t:TA} {pos:Pos}
theorem ag:PA X [] Ib:=λ_ _ _ _ H Q I h=>Calls.spliced_nil ⟨[],H,I,.nil,h⟩
theorem ae (ha:PE X e te) (hr:PA X es t) (hs:starEach (e :: es) X.env=(false,eval e X.env) :: starEach es X.env:=by rfl):PA X (e :: es) (pZ te t):=by
 intro pos pins s σ H Q I h;rw[hs];show wpAny _ _ (spliced ((false,eval e X.env) :: backTo pos (starEach es X.env))) _ _ s
 refine Calls.spliced_cons (gQ (ha pins s σ H _ I h) λu s1 ⟨x,H1,I1,r1,q1⟩=>?_);exact gQ (hr pos pins s1 σ H1 _ I1 q1) λus s2 ⟨xs,H2,I2,r2,q2⟩=>⟨x :: xs,H2,I2,.cons r1 r2,q2⟩
def Py (t:TA):TE:=λσ H Q=>t σ H λxs H1=>xs.length<=sizeLine/\∀p,H1 p=none->Q (.ref p) (upd H1 p (.tup xs))
def PK (t:TA):TE:=λσ H Q=>t σ H λxs H1=>xs.length<=sizeLine/\∀p,H1 p=none->Q (.ref p) (upd H1 p (.lst xs))
theorem cN {x1} (h:PA X es t):PE X (.Tuple es x1 pos) (Py t):=by
 intro pins s σ H Q I hq;refine wpAny_Tuple_spliced (gQ (h pos pins s σ H _ I hq) λus s1 ⟨xs,H1,I1,r,z,q⟩=>⟨by rw[<- r.length];exact z,?_⟩);have hf:H1 s1.heap.objs.size=none:=I1.hok.fresh (aj _);refine ⟨.ref s1.heap.objs.size,upd H1 s1.heap.objs.size (.tup xs),I1.laid (t':=s1.toks) (λb u e=>Heap.get?_push_of_some _ e) (aj _) ?_,rfl,q _ hf⟩;exact ⟨z,us,r,⟨_,Heap.get?_push_size _ rfl,rfl,_,rfl⟩⟩
theorem df (h:PA X es t):PE X (.List es pos) (PK t):=by
 intro pins s σ H Q I hq;refine wpAny_List_spliced (gQ (h pos pins s σ H _ I hq) λus s1 ⟨xs,H1,I1,r,z,q⟩=>⟨by rw[<- r.length];exact z,?_⟩);have hf:H1 s1.heap.objs.size=none:=I1.hok.fresh (aj _);refine ⟨.ref s1.heap.objs.size,upd H1 s1.heap.objs.size (.lst xs),I1.laid (t':=s1.toks) (λb u e=>Heap.get?_push_of_some _ e) (aj _) ?_,rfl,q _ hf⟩;exact ⟨z,us,0,r,Heap.get?_push_size _ rfl⟩
end
abbrev Sp:=List V->Hp->VK->XK->Prop
abbrev Lm:=List Env->Hp->Shared->XK->Value->Shared->Prop
structure F8 (P:Program) (w:World) (K:FG9) (mg:Str->Option Value) (base:Heap) (A:Around) (outer:List Env) (s:Shared) (H:Hp):Prop where
 frames:A.frames=some outer
 mod:Mod K mg base
 bs:∀b o,base.get? b=some o->s.heap.get? b=some o/\H b=none
 bsz:base.objs.size<=s.heap.objs.size
 funs:s.heap.FunFrames base outer
 frf:∀b∈Jh outer,H b=none
 hok:yO P w H s.heap
 bare:AllBare s.gens
def CE (outer:List Env) (P:Program) (w:World) (H:Hp) (s:Shared) (Q:VK) (u:Value) (s':Shared):Prop :=
 ∃v H',s'.os=s.os/\AllBare s'.gens/\Un (Jh outer) [] H H' s.heap s'.heap/\yO P w H' s'.heap/\RelV v u/\Q v H'
def CR (CX:Lm) (outer:List Env) (P:Program) (w:World) (H:Hp) (s:Shared) (Q:VK) (E:XK) (r:Result) (s':Shared):Prop :=
 match r with
 | .ok (.ret u)=>CE outer P w H s Q u s'
 | .ok _=>False
 | .error e=>CX outer H s E e s'
structure cI (P:Program) (w:World) (K:FG9) (mg:Str->Option Value) (base:Heap) (CX:Lm) (k:Nat) (f:Addr) (fd:FuncData) (ps:List Str) (sp:Sp):Prop where
 len:∀vs H Q E,sp vs H Q E->vs.length=ps.length
 run:∀(A:Around) (outer:List Env) (s:Shared) (H:Hp) (args:Args) (us:List Value) (vs:List V) (Q:VK) (E:XK),kI k A->F8 P w K mg base A outer s H->BindsTo s fd args (ps.zip us)->cO vs us->sp vs H Q E →
  codeAny (model P w) A (.call (.ref f) args) (CR CX outer P w H s Q E) s
theorem F8.make {P:Program} {w:World} {K:FG9} {mg:Str->Option Value} {base:Heap} {A:Around} {outer:List Env} {s:Shared} {H:Hp} (e:F8 P w K mg base A outer s H) (C:Addr) (us:List Value) (kw:List (Str×Value)) :
  F8 P w K mg base (A.under (.builtin "type.__call__" ⟨.ref C :: us,kw⟩)) outer s H:=⟨by first | exact e.frames | (simpa [Around.under,Code.envs,Code.isFrame,pushEnvs] using e.frames),e.mod,e.bs,e.bsz,e.funs,e.frf,e.hok,e.bare⟩
section
variable {X:Cx} {pins:List (Addr×Obj)} {σ:St} {H:Hp} {s s':Shared}
theorem Inv.env0 (I:Inv X pins σ H s):F8 X.prog X.w X.K X.mg X.base X.A X.stack s H :=
 ⟨I.ok.frames,I.ok.mod,I.bs,ai I.ok.bsz I.sz,I.stack,I.stkFree,I.hok,I.bare⟩
theorem Inv.after {Q:VK} {u:Value} (I:Inv X pins σ H s) (h:CE X.stack X.prog X.w H s Q u s'):EP X pins σ Q u s':=by
 obtain ⟨v,H',os,bare,un,hok,r,q⟩:=h;obtain ⟨hh,g,d,t,os'⟩:=s';obtain rfl:os'=s.os:=os;exact ⟨v,H',I.call (h':=hh) (g':=g) (d':=d) (t':=t) (ch:=[]) un hok bare (λb z=>absurd z (by simp)),r,q⟩
end
def Jw (sp:Sp) (dvs:List V) (E:XK) (t:TA):TE:=λσ H Q=>t σ H λvs H1=>sp (vs++dvs) H1 Q E
def Nb (C:Addr) (m:Str) (sp:Sp) (dvs:List V) (E:XK) (ta:TE) (t:TA):TE:=λσ H Q=>ta σ H λx H1=>∃a dx fs,x=.ref a/\H1 a=some (.ins C dx fs)/\fs.lookup m=none /\
 t σ H1 λvs H2=>sp (x :: (vs++dvs)) H2 Q E
def Nc (C:Addr) (sp:Sp) (dvs:List V) (E:XK) (t:TA):TE:=λσ H Q=>t σ H λvs H1=>∀x dx,H1 x=none->H1 dx=none->dx≠x →
 sp (.ref x :: (vs++dvs)) (upd (upd H1 dx (.own x)) x (.ins C dx [])) (λv H2=>v=.non/\Q (.ref x) H2) E
def Binds (K:FG9) (fd:FuncData) (ps:List Str) (ds:List Value):Prop :=
 ∀(s:Shared) (us:List Value),K.In s.heap->(us++ds).length=ps.length->BindsTo s fd ⟨us,[]⟩ (ps.zip (us++ds))
theorem Binds.all {K:FG9} {fd:FuncData} {ps:List Str} (h:∀us:List Value,us.length=ps.length->bindArgs fd ⟨us,[]⟩=pure (ps.zip us)):Binds K fd ps []:=λs us _ hl=>by
 rw[kY] at hl ⊢;exact .of_eq (h us hl)
def xf (CX:Lm) (X:Cx) (E:XK):Prop:=∀(pins:List (Addr×Obj)) (σ:St) (H:Hp) (s:Shared) (e:Value) (s':Shared),Inv X pins σ H s->CX X.stack H s E e s'->X.xe e s'
section
variable {X:Cx} {CX:Lm} {k:Nat} {f C:Addr} {fd:FuncData} {ps:List Str} {sp:Sp} {dvs:List V} {ds:List Value} {E:XK} {x m:Str} {p pos apos:Pos} {e o:Expr} {es:List Expr} {ta:TE} {t:TA}
theorem JO {pins:List (Addr×Obj)} {σ:St} {H:Hp} {s:Shared} {Q:VK} {us:List Value} {vs:List V} (F:cI X.prog X.w X.K X.mg X.base CX k f fd ps sp) (hr:kI k X.A) (hb:Binds X.K fd ps ds) (hd:cO dvs ds) (hx:xf CX X E)
  (I:Inv X pins σ H s) (r:cO vs us) (h:sp (vs++dvs) H Q E):wpAny (model X.prog X.w) X.A (call (.ref f) us) (EP X pins σ Q) X.xe s:=by
 have r2:cO (vs++dvs) (us++ds):=r.append hd;have hl:(us++ds).length=ps.length:=by rw[<- r2.length];exact F.len _ _ _ _ h
 refine wpAny_call (codeAny_mono (F.run X.A X.stack s H ⟨us,[]⟩ (us++ds) (vs++dvs) Q E hr I.env0 (hb s us I.kIn hl) r2 h) λr s' hq=>?_);cases r with
 | error e=>exact hx pins σ H s e s' I hq
 | ok fl =>
  cases fl with
  | ret u=>exact I.after hq
  | next=>exact False.elim hq
  | brk=>exact False.elim hq
  | cont=>exact False.elim hq
theorem yJ (F:cI X.prog X.w X.K X.mg X.base CX k f fd ps sp) (hr:kI k X.A) (hg:Gl X x) (hm:X.mg x=some (.ref f)) (hk:PySem.W.keepIn X.K (.ref f)=true) (hb:Binds X.K fd ps ds) (hd:cO dvs ds) (hx:xf CX X E)
  (ha:PA X (e :: es) t) (hdb:(x == ("__debug__":Str))=false:=by decide) (he:starEach (e :: es) X.env=(false,eval e X.env) :: starEach es X.env:=by rfl) (hpl:(backTo pos (starEach es X.env)).any (·.1)=false:=by rfl) :
  PE X (.Call (.Name x p) (e :: es) [] pos) (Jw sp dvs E t):=by
 intro pins s σ H Q I h;refine wpAny_Call_Name_kw (Dq I hg hm ?_ hdb);refine Ff (h₀:=X.base) I.ok.mod.kin hk (gQ (ha pos pins s σ H _ I h) λus s1 ⟨vs,H1,I1,r,q⟩=>⟨I1.kIn,?_⟩) he hpl;exact JO F hr hb hd hx I1 r q
theorem Mt {pl : Sem Bool} (he : PE X o ta) (c : Jk X.K C) (hm : O9 X.K C m f) (F : cI X.prog X.w X.K X.mg X.base CX k f fd ps sp) (hr : kI k X.A) (hb : Binds X.K fd ps ds) (hd : cO dvs ds) (hx : xf CX X E) (ha : PA X (e :: es) t)
    (hst : starEach (e :: es) X.env = (false, eval e X.env) :: starEach es X.env := by rfl) (hpl : (backTo pos (starEach es X.env)).any (·.1) = false := by rfl)
    (ht : eval (.Call (.Attribute o m apos) (e :: es) [] pos) X.env = (do
      let ov <- eval o X.env
      standAt apos.atName
      let (f, first) <- holding [ov] (getMethod ov m pl)
      callWith pos f first (backTo pos (starEach (e :: es) X.env)) (backToKw pos (keywordEach [] X.env))) := by rfl) :
    PE X (.Call (.Attribute o m apos) (e :: es) [] pos) (Nb C m sp dvs E ta t) := by
  intro pins s σ H Q I h;refine PySem.W.methodCall_KW (pl := pl) (gQ (he pins s σ H _ I h) λu s1 ⟨x, H1, I1, rx, a, dx, fs, ex, ea, l, q⟩ => ?_) ht;subst ex;obtain rfl : u = Value.ref a := rx;refine FU I1 ea c hm l ?_;refine Ff (first := [.ref a]) (h₀ := X.base) I.ok.mod.kin hm.kp (gQ (ha pos pins s1 σ H1 _ I1 q) λus s2 ⟨vs, H2, I2, r, q2⟩ => ⟨I2.kIn, ?_⟩) hst hpl;exact JO (us := .ref a :: us) (vs := .ref a :: vs) F hr hb hd hx I2 (.cons rfl r) q2
structure Mk (K:FG9) (C f:Addr):Prop where
 makes:PySem.W.makesIn K C=true
 init:PySem.W.findIn K (.ref C) "__init__"=some (some (.ref f))
 fn:PySem.W.isFn K (.ref f)=true
 kp:PySem.W.keepIn K (.ref C)=true
theorem JN {pins:List (Addr×Obj)} {σ:St} {H:Hp} {s:Shared} {Q:VK} {us:List Value} {vs:List V} (M:Mk X.K C f) (F:cI X.prog X.w X.K X.mg X.base CX k f fd ps sp) (hr:kI (k+1) X.A) (hb:Binds X.K fd ps ds) (hd:cO dvs ds)
  (hx:xf CX X E) (I:Inv X pins σ H s) (r:cO vs us)
  (h:∀x dx,H x=none->H dx=none->dx≠x->sp (.ref x :: (vs++dvs)) (upd (upd H dx (.own x)) x (.ins C dx [])) (λv H2=>v=.non/\Q (.ref x) H2) E) :
  wpAny (model X.prog X.w) X.A (call (.ref C) us) (EP X pins σ Q) X.xe s:=by
 have hq:=h (s.heap.objs.size+1) s.heap.objs.size (I.hok.fresh (lW _)) (I.hok.fresh (aj _)) (bZ (iM _));have I2:=Inv.made (C:=C) I;have r2:cO (V.ref (s.heap.objs.size+1) :: (vs++dvs)) (Value.ref (s.heap.objs.size+1) :: (us++ds)):=.cons rfl (r.append hd)
 have hl:(Value.ref (s.heap.objs.size+1) :: us++ds).length=ps.length:=by
  have e:=r2.length;rw[F.len _ _ _ _ hq] at e;exact e.symm
 refine wpAny_call (Km (f:=f) I.kIn M.makes M.init (beq_iff_eq.mp M.fn) (codeAny_mono (F.run _ X.stack _ _ ⟨Value.ref (s.heap.objs.size+1) :: us,[]⟩ (Value.ref (s.heap.objs.size+1) :: (us++ds)) _ _ E (hr.make C us [])
  (I2.env0.make C us []) (hb _ (Value.ref (s.heap.objs.size+1) :: us) I2.kIn hl) r2 hq) λr s' hq'=>?_))
 cases r with
 | error e=>exact hx pins σ _ _ e s' I2 hq'
 | ok fl =>
  cases fl with
  | ret u =>
   obtain ⟨v,H',I3,rv,ev,q3⟩:=I2.after hq';subst ev;exact ⟨rv,⟨V.ref (s.heap.objs.size+1),H',I3,rfl,q3⟩⟩
  | next=>exact False.elim hq'
  | brk=>exact False.elim hq'
  | cont=>exact False.elim hq'
theorem Mu (M:Mk X.K C f) (F:cI X.prog X.w X.K X.mg X.base CX k f fd ps sp) (hr:kI (k+1) X.A) (hg:Gl X x) (hm:X.mg x=some (.ref C)) (hb:Binds X.K fd ps ds) (hd:cO dvs ds) (hx:xf CX X E)
  (ha:PA X (e :: es) t) (hdb:(x == ("__debug__":Str))=false:=by decide) (he:starEach (e :: es) X.env=(false,eval e X.env) :: starEach es X.env:=by rfl) (hpl:(backTo pos (starEach es X.env)).any (·.1)=false:=by rfl) :
  PE X (.Call (.Name x p) (e :: es) [] pos) (Nc C sp dvs E t):=by
 intro pins s σ H Q I h;refine wpAny_Call_Name_kw (Dq I hg hm ?_ hdb);refine Ff (h₀:=X.base) I.ok.mod.kin M.kp (gQ (ha pos pins s σ H _ I h) λus s1 ⟨vs,H1,I1,r,q⟩=>⟨I1.kIn,?_⟩) he hpl;exact JN M F hr hb hd hx I1 r q
end
structure bg (N P:List Str) (sc:Scope):Prop where
 kind:sc.kind=.function
 co:sc.isCoroutine=false
 gen:sc.isGenerator=false
 nd:N.Nodup
 pre:N.take P.length=P
 par:∀x∈P,sc.names.lookup x=some .local\/sc.names.lookup x=some .cell
 nofree:∀y∈sc.names,y.2≠.free
theorem BZ {kindOf:Str->Option NameKind} {x:Str}:∀{binds:List (Str×Value)} {m:Str->Option Value},(∀v,(x,v)∉binds)->bindL kindOf binds m x=m x
 | [],_,_=>rfl
 | (n,v) :: r,m,h=>by
  unfold bindL;rw[BZ λw hw=>h w (bW _ hw)]
  split
  ·have:x≠n:=by rintro rfl;exact h v dk
   simp [this]
  ·rfl
theorem Cb {kindOf:Str->Option NameKind} {x:Str}:∀{binds:List (Str×Value)} {m:Str->Option Value},(∀v,(x,v)∉binds)->bindC kindOf binds m x=m x
 | [],_,_=>rfl
 | (n,v) :: r,m,h=>by
  unfold bindC;rw[Cb λw hw=>h w (bW _ hw)]
  split
  ·rfl
  ·have:x≠n:=by rintro rfl;exact h v dk
   simp [this]
theorem Ca {kindOf:Str->Option NameKind} {x:Str} {v:Value}:∀{P:List Str} {vs:List Value} {i:Nat} {m:Str->Option Value},P.Nodup->P[i]?=some x->vs[i]?=some v->kindOf x=some .local →
  bindL kindOf (P.zip vs) m x=some v
 | [],_,_,_,_,h,_,_=>by simp at h
 | _ :: _,[],_,_,_,_,h,_=>by simp at h
 | p :: P,w :: vs,0,m,nd,h1,h2,hk=>by
  simp at h1 h2;subst h1;subst h2;show bindL kindOf ((p,w) :: P.zip vs) m p=_
  unfold bindL;rw[BZ λv hv=>(eO.mp nd).1 (Ln hv).1,if_pos hk];simp
 | p :: P,w :: vs,i+1,m,nd,h1,h2,hk=>by
  show bindL kindOf ((p,w) :: P.zip vs) m x=_
  unfold bindL;exact Ca (i:=i) (eO.mp nd).2 (by simpa using h1) (by simpa using h2) hk
theorem Cc {kindOf:Str->Option NameKind} {x:Str} {v:Value}:∀{P:List Str} {vs:List Value} {i:Nat} {m:Str->Option Value},P.Nodup->P[i]?=some x->vs[i]?=some v->kindOf x≠some .local →
  bindC kindOf (P.zip vs) m x=some v
 | [],_,_,_,_,h,_,_=>by simp at h
 | _ :: _,[],_,_,_,_,h,_=>by simp at h
 | p :: P,w :: vs,0,m,nd,h1,h2,hk=>by
  simp at h1 h2;subst h1;subst h2;show bindC kindOf ((p,w) :: P.zip vs) m p=_
  unfold bindC;rw[Cb λv hv=>(eO.mp nd).1 (Ln hv).1,if_neg hk];simp
 | p :: P,w :: vs,i+1,m,nd,h1,h2,hk=>by
  show bindC kindOf ((p,w) :: P.zip vs) m x=_
  unfold bindC;exact Cc (i:=i) (eO.mp nd).2 (by simpa using h1) (by simpa using h2) hk
def start (N:List Str) (vs:List V):St:=vs.map some++List.replicate (N.length - vs.length) none
def IY (CX:Lm) (P:Program) (w:World) (K:FG9) (mg:Str->Option Value) (base:Heap) (N:List Str) (qual:Str) (scope:Scope) (f:Addr) (cd:Value) (A:Around) (outer:List Env) (s:Shared) (H:Hp) (E:XK):Cx where
 prog:=P
 w:=w
 K:=K
 mg:=mg
 base:=base
 A:=A.deeper (envOfC qual scope s.heap.objs.size f cd)
 N:=N
 s₀:=s
 H₀:=H
 env:=envOfC qual scope s.heap.objs.size f cd
 outer:=outer
 stack:=envOfC qual scope s.heap.objs.size f cd :: outer
 ex:=[]
 calm:=true
 fn:=λ_=>true
 pn:=[]
 xe:=λe s'=>wpAny (model P w) (A.deeper (envOfC qual scope s.heap.objs.size f cd)) (leaving (envOfC qual scope s.heap.objs.size f cd) e) (λ_ s''=>CX outer H s E e s'') (λe' s''=>CX outer H s E e' s'') s'
theorem EY {sc:Scope} {n:Nat} {x:Str} (h:sc.names.lookup x=some .cell):∃c,(cellsFrom n sc.names []).lookup x=some c:=by
 have q:=yQ sc.names n [] (.inl h);exact Pp.mp q
theorem IS {CX:Lm} {P:Program} {w:World} {K:FG9} {mg:Str->Option Value} {base:Heap} {N ps:List Str} {qual:Str} {scope:Scope} {f:Addr} {cd:Value} {A:Around} {outer:List Env} {s s1:Shared} {H:Hp} {E:XK} {us:List Value} {vs:List V}
  (S:bg N ps scope) (hd:A.handled=none) (e0:F8 P w K mg base A outer s H) (hl:vs.length=ps.length) (r:cO vs us)
  (x:InCallC s s.heap.objs.size (bindL (envOfC qual scope s.heap.objs.size f cd).kindOf (ps.zip us) λ_=>none) (cellsFrom (s.heap.objs.size+1) scope.names []) (bindC (envOfC qual scope s.heap.objs.size f cd).kindOf (ps.zip us) λ_=>none) s1) :
  Inv (IY CX P w K mg base N qual scope f cd A outer s H E) [] (start N vs) H s1:=by
 have hpl:ps.length<=N.length:=by have:=congrArg List.length S.pre;rw[cH] at this;lia
 obtain ⟨h1,tk,rfl,hk⟩:=x.done;have noA:∀b:Addr,b∉(IY CX P w K mg base N qual scope f cd A outer s H E).ex:=λb z=>absurd (show b∈([]:List Addr) from z) (by simp)
 refine ⟨⟨e0.mod,S.kind,rfl,rfl,aj _,λy z c h1 h2=>?_,λy hy=>?_,λy c _ h=>?_,λ_=>hd,Around.frames_deeper e0.frames,.inr ⟨rfl,rfl⟩,λb z=>absurd z (noA b),e0.bs,e0.bsz,λb _ _=>noA b,λb z=>absurd z (noA b),e0.funs,e0.frf⟩,
  rfl,e0.bare,Un.kept hk,⟨_,x.toInCall.ns,λi y v h1 h2 h3=>?_⟩,λy c h=>⟨_,x.cell y c h⟩,e0.hok.fresh (aj _),λy c h=>?_,λp hp=>absurd (show p∈([]:List (Addr×Obj)) from hp) (by simp),e0.hok.kept hk,?_⟩
 ·exact name_of_addr x.apart (kB h1) (kB h2)
 ·have hy:scope.names.lookup y=some .cell\/scope.names.lookup y=some .free:=hy;rcases hy with hy | hy
  ·exact EY hy
  ·exact absurd rfl (S.nofree _ (kB hy))
 ·exact aZ (x.above y c (kB h))
 ·have hi:i < vs.length:=by
   unfold start at h2;by_cases hi:i < vs.length
   ·exact hi
   ·rw[a9 (by simpa using hi)] at h2;rw[fA] at h2
    split at h2 <;> cases h2
  have ha:vs[i]?=some v:=by
   unfold start at h2;rw[bu (by simpa using hi),aL] at h2;cases e:vs[i]? with
   | none=>rw[e] at h2;cases h2
   | some a=>rw[e] at h2;cases h2;rfl
  obtain ⟨u,hu,rv⟩:=r.get ha
  have hp:ps[i]?=some y:=by
   rw[<- S.pre,kL (by lia)];exact h1
  have ndP:ps.Nodup:=by rw[<- S.pre];exact S.nd.sublist (List.take_sublist _ _)
  refine ⟨u,rv,?_⟩;rcases S.par y (ax hp) with k | k
  ·exact .inl ⟨k,Ca ndP hp hu k⟩
  ·obtain ⟨c,e⟩:=EY (n:=s.heap.objs.size+1) k;refine .inr ⟨.inl k,c,e,?_⟩;have q:=x.cell y c e;rw[Cc ndP hp hu (by show scope.names.lookup y≠_;rw[k];decide)] at q;exact q
 ·exact e0.hok.fresh (aZ (x.above y c (kB h)))
 ·unfold start;show _=N.length
  rw[ak,ar,aO]
  lia
theorem QC {CX:Lm} {P:Program} {w:World} {K:FG9} {mg:Str->Option Value} {base:Heap} {k:Nat} {f:Addr} {name qual:Str} {params:Arguments} {body:List Stmt} {scope:Scope} {dV kV doc pm cdv ct oc:Value} {an od:Option Addr}
  {osl:Array (Option Value)} {N ps:List Str} {sp:Sp} (lk:K.lookup f=some ⟨oc,od,.func (PySem.W.fnOf name qual params body scope dV kV doc pm an cdv ct),osl⟩) (hcd:PySem.W.codeIn K cdv qual=true) (S:bg N ps scope)
  (len:∀vs H Q E,sp vs H Q E->vs.length=ps.length)
  (hbody:∀(A:Around) (outer:List Env) (s:Shared) (H:Hp) (vs:List V) (Q:VK) (E:XK),kI k (A.deeper (envOfC qual scope s.heap.objs.size f cdv))->sp vs H Q E →
   ∃t,F6 (IY CX P w K mg base N qual scope f cdv A outer s H E) body t/\t { nx:=λ_ H'=>Q .non H',rt:=Q } (start N vs) H) :
  cI P w K mg base CX (k+1) f (PySem.W.fnOf name qual params body scope dV kV doc pm an cdv ct) ps sp:=by
 refine ⟨len,λA outer s H args us vs Q E hr e0 hb r hsp=>?_⟩;have hl:=len _ _ _ _ hsp;have KX:K.In s.heap:=e0.mod.kin.keeps λb o e=>(e0.bs b o e).1
 have lim:s.heap.NoLimit:=e0.mod.nolimit.keeps λb o e=>(e0.bs b o e).1
 have hkind:∀y∈ps.zip us,scope.names.lookup y.1=some .local\/(scope.names.lookup y.1=some .cell/\((cellsFrom (s.heap.objs.size+1) scope.names []).lookup y.1).isSome=true):=λ⟨n,v⟩ hy=>by
  rcases S.par n (Ln hy).1 with q | q
  ·exact .inl q
  ·exact .inr ⟨q,yQ _ _ _ (.inl q)⟩
 refine codeAny_call_function hr.depth (KX _ _ lk) rfl S.co S.gen rfl (PySem.W.codeRec_of KX hcd) (hb _ _ _ _ ?_);refine wpAny_newFunctionEnv_cells S.kind hkind λenv he s1 x=>?_
 subst he;refine ⟨lim.keeps x.toInCall.keep,codeAny_func ?_⟩;obtain ⟨t,ht,hq⟩:=hbody A outer s H vs Q E (hr.deeper _) hsp;have I:Inv (IY CX P w K mg base N qual scope f cdv A outer s H E) [] (start N vs) H s1:=IS S hr.hd e0 hl r x;refine wpAny_mono (ht [] s1 (start N vs) H _ I hq) (λfl s' hs=>?_) λe s' hs=>hs
 have fin:∀{σ':St} {H':Hp} {v:V} {u:Value},Inv (IY CX P w K mg base N qual scope f cdv A outer s H E) [] σ' H' s'->RelV v u->Q v H'->CE outer P w H s Q u s' :=
  λ{σ' H' v u} J rv q=>⟨v,H',J.os,J.bare,J.base,J.hok,rv,q⟩
 cases fl with
 | ret u =>
  obtain ⟨v,σ',H',J,rv,q⟩:=hs;exact fin J rv q
 | next =>
  obtain ⟨σ',H',J,q⟩:=hs;exact fin (v:=V.non) (u:=Value.none) J rfl q
 | brk =>
  obtain ⟨_,_,_,q⟩:=hs;exact False.elim q
 | cont =>
  obtain ⟨_,_,_,q⟩:=hs;exact False.elim q
section
variable {X:Cx} {x:Str} {p pos:Pos} {e:Expr} {es:List Expr} {t:TA} {id T:String} {r:List V->Hp->VK->Prop}
def Q9 (r:List V->Hp->VK->Prop) (t:TA):TE:=λσ H Q=>t σ H λvs H1=>r vs H1 Q
theorem bA (hc:mG X (.builtin id) r) (hg:Gl X x) (hm:X.mg x=none) (hv:bootBuiltins x=some (.builtin id)) (ha:PA X (e :: es) t) (hn:x≠"__name__":=by decide) (hdb:(x == ("__debug__":Str))=false:=by decide)
  (he:starEach (e :: es) X.env=(false,eval e X.env) :: starEach es X.env:=by rfl) (hpl:(backTo pos (starEach es X.env)).any (·.1)=false:=by rfl):PE X (.Call (.Name x p) (e :: es) [] pos) (Q9 r t):=by
 intro pins s σ H Q I h;refine wpAny_Call_Name_kw (jT I hg hm hv ?_ hn hdb);exact PyProof.Rows.callWith_builtin1 (gQ (ha pos pins s σ H _ I h) λus s1 ⟨vs,H1,I1,r1,q1⟩=>hc pins s1 σ H1 vs us Q I1 r1 q1) he hpl
theorem dI (hc:mG X (.type T) r) (hg:Gl X x) (hm:X.mg x=none) (hv:bootBuiltins x=some (.type T)) (ha:PA X (e :: es) t) (hn:x≠"__name__":=by decide) (hdb:(x == ("__debug__":Str))=false:=by decide)
  (he:starEach (e :: es) X.env=(false,eval e X.env) :: starEach es X.env:=by rfl) (hpl:(backTo pos (starEach es X.env)).any (·.1)=false:=by rfl):PE X (.Call (.Name x p) (e :: es) [] pos) (Q9 r t):=by
 intro pins s σ H Q I h;refine wpAny_Call_Name_kw (jT I hg hm hv ?_ hn hdb);exact PyProof.Rows.callWith_type1 (gQ (ha pos pins s σ H _ I h) λus s1 ⟨vs,H1,I1,r1,q1⟩=>hc pins s1 σ H1 vs us Q I1 r1 q1) he hpl
end
end L2
namespace HT
open PySem PyProof.Rows
section
open PySem.SeqAt
open PySem.AutoSeq1 (wpAny_loadPart')
open PySem.MeetsSeq PySem.MeetsSeq2 PySem.MeetsSeq3
end
section
variable {prog:Program} {w:World} {A:Around} {E:Value->Shared->Prop} {s:Shared}
def Ep (n d:Nat):Option Int->Nat
 | none=>d
 | some v=>if v < 0 then (v+(n:Int)).toNat else min v.toNat n
theorem Eo (n d:Nat):Ep n d none=d:=rfl
theorem yH (n d k:Nat):Ep n d (some (k:Int))=min k n:=by
 show (if (k:Int) < 0 then ((k:Int)+(n:Int)).toNat else min (k:Int).toNat n)=min k n
 rw[if_neg (by lia),Int.toNat_natCast]
end
end HT
namespace L2
open PySem PySem.Spec PyProof.Rows
abbrev TO:=St->Hp->(Option Int->Hp->Prop)->Prop
def PO (X:Cx) (e:Option Expr) (t:TO):Prop :=
 ∀(pins:List (Addr×Obj)) (s:Shared) (σ:St) (H:Hp) (Q:Option Int->Hp->Prop),Inv X pins σ H s->t σ H Q →
  wpAny (model X.prog X.w) X.A (evalPart e X.env) (λu s'=>∃o H',Inv X pins σ H' s'/\IsPart u o/\Q o H') X.xe s
def Gf:TO:=λ_ H Q=>Q none H
def M7 (t:TE):TO:=λσ H Q=>t σ H λx H1=>∃i,x=.int i/\Q (some i) H1
theorem intsAre_of {ns:List Int}:∀{us:List Value},cO (ns.map V.int) us->IntsAre us ns:=by
 induction ns with
 | nil=>intro us r;rw[List.map_nil] at r;cases r;exact .nil
 | cons n ns ih =>
  intro us r;rw[ij] at r;cases r with
  | cons r1 r2 =>
   obtain ⟨t,e⟩:=r1;subst e;exact .cons n t (ih r2)
section
variable {X:Cx} {e:Expr} {te:TE} {lo hi:Option Expr} {tl th:TO} {pos p2:Pos}
theorem GG:PO X none Gf:=by
 intro pins s σ H Q I h;rw[evalPart_none];exact wpAny_pure ⟨none,H,I,.none,h⟩
theorem yI (h:PE X e te):PO X (some e) (M7 te):=by
 intro pins s σ H Q I hw;rw[evalPart_some];refine gQ (h pins s σ H _ I hw) λu s1 ⟨x,H1,I1,r1,q1⟩=>?_
 obtain ⟨i,rfl,q⟩:=q1;obtain ⟨t,rfl⟩:=r1;exact ⟨some i,H1,I1,.int i t,q⟩
def RE (X:Cx) (r:V->Option Int->Option Int->Hp->VK->Prop):Prop :=
 ∀(pins:List (Addr×Obj)) (s:Shared) (σ:St) (H:Hp) (x:V) (v vl vu:Value) (lo hi:Option Int) (sl:Addr) (Q:VK),Inv X pins σ H s->RelV x v->s.heap.IsSliceOf sl vl vu .none->IsPart vl lo->IsPart vu hi->r x lo hi H Q →
  ∃T id,typeLookup (.type T) "__getitem__"=pure (some (.builtin id))/\s.TypeIs v T/\wpAny (model X.prog X.w) X.A (getItem v (.ref sl)) (EP X pins σ Q) X.xe s
def tSl (r:V->Option Int->Option Int->Hp->VK->Prop) (te:TE) (tl th:TO):TE:=λσ H Q=>te σ H λx H1=>tl σ H1 λl H2=>th σ H2 λu H3=>r x l u H3 Q
theorem zM {r:V->Option Int->Option Int->Hp->VK->Prop} (hr:RE X r) (he:PE X e te) (hl:PO X lo tl) (hu:PO X hi th):PE X (.Subscript e (.Slice lo hi none p2) pos) (tSl r te tl th):=by
 intro pins s σ H Q I h;refine Subscript_ (gQ (he pins s σ H _ I h) λv s1 ⟨x,H1,I1,r1,q1⟩=>?_);refine wpAny_Slice (gQ (hl pins s1 σ H1 _ I1 q1) λvl s2 ⟨l,H2,I2,pl,q2⟩=>gQ (hu pins s2 σ H2 _ I2 q2) λvu s3 ⟨u,H3,I3,pu,q3⟩=>?_);rw[evalPart_none];refine wpAny_pure ?_;have I4:Inv X pins σ H3 { s3 with heap:=s3.heap.push { cls:=.type "slice",data:=.fields #[vl,vu,.none] } }:=I3.kept (t':=s3.toks) λb ob q=>Heap.get?_push_of_some _ q
 obtain ⟨T,id,hT,ht,hg⟩:=hr pins { s3 with heap:=s3.heap.push { cls:=.type "slice",data:=.fields #[vl,vu,.none] } } σ H3 x v vl vu l u s3.heap.objs.size Q I4 r1 (Heap.IsSliceOf.new ..) pl pu q3;show wpAny (model X.prog X.w) X.A (subscriptTail e (.Slice lo hi none p2) v (.ref s3.heap.objs.size)) (EP X pins σ Q) X.xe { s3 with heap:=s3.heap.push { cls:=.type "slice",data:=.fields #[vl,vu,.none] } }
 exact tail_any (ops:=[.ref s3.heap.objs.size,v]) ht hT hg (by with_unfolding_all rfl)
def rY (xs:List V) (lo hi:Option Int):List V:=(xs.drop (HT.Ep xs.length 0 lo)).take (HT.Ep xs.length xs.length hi - HT.Ep xs.length 0 lo)
theorem xQ (xs:List V) (lo hi:Option Int):(rY xs lo hi).length<=xs.length:=by
 unfold rY;rw[cH,Jl]
 lia
end
def Jg (n:Nat) (i:Int):Option Nat:=if 0<=i then (if i < n then some i.toNat else none) else if -(n:Int)<=i then some (i+n).toNat else none
def F0 {α:Type} (xs:List α) (i:Int):Option α:=(Jg xs.length i).bind λj=>xs[j]?
theorem GX {n:Nat} {i:Int} {j:Nat} (h:Jg n i=some j):seqIndex? i n=some j/\j < n/\-(n:Int)<=i/\i < n:=by
 unfold Jg at h;by_cases h0:0<=i
 ·rw[if_pos h0] at h;by_cases h1:i < n
  ·rw[if_pos h1] at h;have e:i.toNat=j:=b6 h;exact ⟨by rw[seqIndex_of h0 h1,e],by lia,by lia,h1⟩
  ·rw[if_neg h1] at h;cases h
 ·rw[if_neg h0] at h;by_cases h1:-(n:Int)<=i
  ·rw[if_pos h1] at h;have e:(i+n).toNat=j:=b6 h;exact ⟨by rw[seqIndex_neg (by lia) h1,e],by lia,h1,by lia⟩
  ·rw[if_neg h1] at h;cases h
theorem DI {α:Type} {xs:List α} {i:Int} {v:α} (h:F0 xs i=some v):∃j,seqIndex? i xs.length=some j/\xs[j]?=some v/\j < xs.length/\-(xs.length:Int)<=i/\i < xs.length:=by
 unfold F0 at h;cases e:Jg xs.length i with
 | none=>rw[e] at h;cases h
 | some j =>
  rw[e] at h;obtain ⟨h1,h2,h3,h4⟩:=GX e;exact ⟨j,h1,h,h2,h3,h4⟩
theorem fL {α:Type} {xs:List α} {j:Nat} {v:α} (h:xs[j]?=some v):F0 xs (j:Int)=some v:=by
 have hj:j < xs.length:=(aE.mp h).1
 have e:Jg xs.length (j:Int)=some j:=by
  unfold Jg;rw[if_pos (by lia),if_pos (by lia)];simp
 unfold F0;rw[e];exact h
theorem vD {α:Type} (xs:List α) (v:α):F0 (xs++[v]) (-1)=some v:=by
 have hl:(xs++[v]).length=xs.length+1:=by simp
 have e:Jg (xs++[v]).length (-1)=some xs.length:=by
  unfold Jg;rw[hl,if_neg (by decide),if_pos (by lia)];congr 1
  lia
 unfold F0;rw[e];show (xs++[v])[xs.length]?=some v
 simp
def MV (b:Expr):Prop:=∀o i,subscripted b false o i=operate [o,i] (getItem o i)
def QQ (X:Cx) (r:R2):Prop :=
 ∀(value slice:Expr) (pins:List (Addr×Obj)) (s:Shared) (σ:St) (H:Hp) (x y:V) (v u:Value) (Q:VK),Inv X pins σ H s->RelV x v->RelV y u->r x y H Q →
  subscripted slice false v u=operate [v,u] (getItem v u)->wpAny (model X.prog X.w) X.A (subscriptTail value slice v u) (EP X pins σ Q) X.xe s
def MtR (X:Cx) (id:String) (r:V->List V->Hp->VK->Prop):Prop :=
 ∀(pins:List (Addr×Obj)) (s:Shared) (σ:St) (H:Hp) (x:V) (xs:List V) (v:Value) (us:List Value) (Q:VK),Inv X pins σ H s->RelV x v->cO xs us->r x xs H Q →
  wpAny (model X.prog X.w) X.A (call (.builtin id) (v :: us)) (EP X pins σ Q) X.xe s
section
variable {X:Cx} {a b:Expr} {ta tb:TE} {pos:Pos}
theorem aY {r:R2} (hr:QQ X r) (ha:PE X a ta) (hb:PE X b tb) (hs:MV b:=by intro _ _;rfl):PE X (.Subscript a b pos) (PH r ta tb):=by
 intro pins s σ H Q I h;exact Subscript_ (O4 ha hb I h λv u s2 x y H2 I2 rx ry q=>hr a b pins s2 σ H2 x y v u Q I2 rx ry q (hs _ _))
def OD (K:FG9):R2:=λx y H Q=>∃p xs i v,x=.ref p/\y=.int i/\bN K H p xs/\F0 xs i=some v/\Q v H
def OC (K:FG9):R2:=λx y H Q=>∃p xs i v,x=.ref p/\y=.int i/\jl K H p xs/\F0 xs i=some v/\Q v H
theorem bS:QQ X (OD X.K):=by
 intro value slice pins s σ H x y v u Q I rx ry h hs;obtain ⟨p,xs,i,z,rfl,rfl,hq,he,q⟩:=h;cases rx;obtain ⟨t,rfl⟩:=ry;obtain ⟨its,r,pl,hz⟩:=I.list hq;obtain ⟨j,h1,h2,h3,h4,h5⟩:=DI he;obtain ⟨w,ew,rw'⟩:=r.get h2;have hl:=r.length;have hn:=z9;have fin:EP X pins σ Q w s:=⟨z,H,I,rw',q⟩;by_cases h0:0<=i
 ·have hj:i.toNat=j:=by
   rw[seqIndex_of h0 h5] at h1;exact b6 h1
  exact item_listR pl.isList h0 (by lia) (by rw[hj];simpa using ew) fin hs
 ·have hj:(i+(its.toArray.size:Int)).toNat=j:=by
   rw[seqIndex_neg (by lia) h4] at h1;rw[aJ,<- hl];exact b6 h1
  exact subscriptTail_builtinR (x:=w) pl.isList.typeIs slot_list_getitem.lookup
   (wpAny_getItem_list_neg (Q:=λr s'=>r=w/\EP X pins σ Q r s') pl.isList (by lia) (by rw[aJ] <;> lia) (by lia) (by rw[hj];simpa using ew) ⟨rfl,fin⟩) hs
theorem bM:QQ X (OC X.K):=by
 intro value slice pins s σ H x y v u Q I rx ry h hs;obtain ⟨p,xs,i,z,rfl,rfl,hq,he,q⟩:=h;cases rx;obtain ⟨t,rfl⟩:=ry;obtain ⟨its,r,pl,hz⟩:=I.tuple hq;obtain ⟨j,h1,h2,h3,h4,h5⟩:=DI he;obtain ⟨w,ew,rw'⟩:=r.get h2;have hl:=r.length;have hn:=z9;have fin:EP X pins σ Q w s:=⟨z,H,I,rw',q⟩
 exact subscriptTail_builtinR (x:=w) pl.typeIs slot_tuple_getitem.lookup
  (getItem_tuple (j:=j) (Q:=λr s'=>r=w/\EP X pins σ Q r s') pl (by lia) (by lia) (by rw[aJ,<- hl];exact h1) (by simpa using ew) ⟨rfl,fin⟩) hs
theorem FN (its:List Value) (n j:Nat) (u:Value):Obj.mapSeq (·.setIfInBounds j u) { cls:=.type "list",data:=.seq its.toArray n }={ cls:=.type "list",data:=.seq (its.set j u).toArray n }:=by
 simp [Obj.mapSeq]
theorem Inv.lst {pins:List (Addr×Obj)} {σ:St} {H:Hp} {s:Shared} {p:Addr} {xs:List V} (I:Inv X pins σ H s) (h:H p=some (.lst xs)) :
  ∃(its:List Value) (n:Nat),cO xs its/\s.heap.get? p=some { cls:=.type "list",data:=.seq its.toArray n }/\xs.length<=sizeLine:=by
 obtain ⟨z,its,n,r,e⟩:=I.hok p _ h;exact ⟨its,n,r,e,z⟩
theorem Inv.lstUpd {pins:List (Addr×Obj)} {σ:St} {H:Hp} {s:Shared} {p:Addr} {xs ys:List V} {its its':List Value} {n n':Nat} {f:Obj->Obj} (I:Inv X pins σ H s) (h:H p=some (.lst xs))
  (ho:s.heap.get? p=some { cls:=.type "list",data:=.seq its.toArray n }) (hf:f { cls:=.type "list",data:=.seq its.toArray n }={ cls:=.type "list",data:=.seq its'.toArray n' }) (r:cO ys its') (hz:ys.length<=sizeLine) (t:Nat) :
  Inv X pins σ (upd H p (.lst ys)) { s with heap:=s.heap.update p f,toks:=t }:=by
 have e:(s.heap.update p f).get? p=some { cls:=.type "list",data:=.seq its'.toArray n' }:=by
  rw[Heap.get?_update_self f ho (by rw[hf] <;> rfl),hf]
 refine I.write (x:=p) (e:=p) (by rw[h];trivial) (.inl rfl) (λb u hb q=>(Heap.get?_update_other _ _ (Ne.symm hb)).trans q) ⟨_,e⟩ ?_;exact ⟨hz,its',n',r,e⟩
def Nk:V->V->V->Hp->(Hp->Prop)->Prop:=λo i v H Q=>∃p xs k j,o=.ref p/\i=.int k/\H p=some (.lst xs)/\Jg xs.length k=some j/\Q (upd H p (.lst (xs.set j v)))
theorem set_list:O7 X Nk:=by
 intro pins s σ H o i v ov iv u Q I ro ri rv h;obtain ⟨p,xs,k,j,rfl,rfl,hp,hj,q⟩:=h;cases ro;obtain ⟨t,rfl⟩:=ri;obtain ⟨its,n,r,ho,hz⟩:=I.lst hp;obtain ⟨h1,h2,h3,h4⟩:=GX hj;have hl:=r.length;have hn:=z9
 have I':Inv X pins σ (upd H p (.lst (xs.set j v))) { s with heap:=s.heap.update p (Obj.mapSeq (·.setIfInBounds j u)) } :=
  I.lstUpd hp ho (FN its n j u) (r.set rv j) (by rw[dQ];exact hz) s.toks
 by_cases h0:0<=k
 ·have hk:k.toNat=j:=by
   rw[seqIndex_of h0 h4] at h1;exact b6 h1
  exact PySem.W.ki_setAt ho h0 (by lia) (by rw[aJ,<- hl];exact h4) (by rw[hk];exact ⟨_,I',q⟩)
 ·have hk:(k+(its.toArray.size:Int)).toNat=j:=by
   rw[seqIndex_neg (by lia) h3] at h1;rw[aJ,<- hl];exact b6 h1
  exact PySem.W.ki_setBack ho (by lia) (by rw[aJ,<- hl];exact h3) (by lia) (by rw[hk];exact ⟨_,I',q⟩)
theorem CG (lo hi:Option Int) (n:Nat):(sliceBounds lo hi none n).1=((HT.Ep n 0 lo:Nat):Int)/\(sliceBounds lo hi none n).2.1=((HT.Ep n n hi:Nat):Int)/\(sliceBounds lo hi none n).2.2=1:=by
 refine ⟨?_,?_,rfl⟩
 ·cases lo with
  | none=>simp [sliceBounds,HT.Ep]
  | some i =>
   simp only[sliceBounds,HT.Ep,Option.getD_none,show (1:Int) > 0 by decide,if_true];by_cases h:i < 0
   ·simp only[h,if_true] <;> lia
   ·simp only[h,if_false] <;> lia
 ·cases hi with
  | none=>simp [sliceBounds,HT.Ep]
  | some i =>
   simp only[sliceBounds,HT.Ep,Option.getD_none,show (1:Int) > 0 by decide,if_true];by_cases h:i < 0
   ·simp only[h,if_true] <;> lia
   ·simp only[h,if_false] <;> lia
theorem AK (its:List Value) (lo hi:Option Int):slicePick its.toArray lo hi none=((its.drop (HT.Ep its.length 0 lo)).take (HT.Ep its.length its.length hi - HT.Ep its.length 0 lo)).toArray:=by
 obtain ⟨h1,h2,h3⟩:=CG lo hi its.toArray.size;unfold slicePick;rw[h1,h2,h3];simp only[sliceRange_one,pick_run,aJ] <;> rfl
def OA (K:FG9):V->Option Int->Option Int->Hp->VK->Prop:=λx lo hi H Q=>∃a xs,x=.ref a/\bN K H a xs/\∀p,H p=none->Q (.ref p) (upd H p (.lst (rY xs lo hi)))
theorem CH:RE X (OA X.K):=by
 intro pins s σ H x v vl vu lo hi sl Q I rx hs pl pu h;obtain ⟨a,xs,rfl,hx,q⟩:=h;cases rx;obtain ⟨its,r,ht,hz⟩:=I.list hx;have hlen:=r.length;refine ⟨"list",_,slot_list_getitem.lookup,ht.isList.typeIs,?_⟩;refine wpAny_getItem_list_slice ht.isList hs pl pu .none (by simp) ?_ (by rw[aJ] <;> lia);rw[AK,<- hlen];refine ⟨.ref s.heap.objs.size,_,I.laid (t':=s.toks) (o:=.lst (rY xs lo hi)) (λb ob q=>Heap.get?_push_of_some _ q) (aj _) ?_,rfl,q _ (I.hok.fresh (aj _))⟩;exact ⟨ai (xQ xs lo hi) hz,_,0,(r.drop (HT.Ep xs.length 0 lo)).take (HT.Ep xs.length xs.length hi - HT.Ep xs.length 0 lo),Heap.get?_push_size _ rfl⟩
def nN:V->Bool
 | .non=>true
 | .bl _=>true
 | .int _=>true
 | .str _=>true
 | _=>false
def NA:V->V->Bool
 | .non,.non=>true
 | .bl a,.bl b=>a == b
 | .bl a,.int b=>(if a then 1 else 0) == b
 | .int a,.bl b=>a == (if b then 1 else 0)
 | .int a,.int b=>a == b
 | .str a,.str b=>a == b
 | _,_=>false
theorem OZ {A:Around} {s:Shared} {y x:V} {u v:Value} (ry:RelV y u) (rx:RelV x v) (fy:nN y=true) (fx:nN x=true):SeqAt.EqAt A s u v (NA y x):=by
 cases y with
 | non =>
  cases ry;cases x with
  | non=>cases rx;exact SeqAt.EqAt.same _
  | bl b=>cases rx;exact SeqAt.EqAt.none_bool b
  | int b=>obtain ⟨t,rfl⟩:=rx;exact SeqAt.EqAt.none_int b t
  | str b=>obtain ⟨t,rfl⟩:=rx;exact SeqAt.EqAt.none_str b t
  | _=>exact absurd (show false=true from fx) bc
 | bl a =>
  cases ry;cases x with
  | non=>cases rx;exact SeqAt.EqAt.bool_none a
  | bl b=>cases rx;exact SeqAt.EqAt.bool_bool a b
  | int b=>obtain ⟨t,rfl⟩:=rx;exact SeqAt.EqAt.bool_int a b t
  | str b=>obtain ⟨t,rfl⟩:=rx;exact SeqAt.EqAt.bool_str a b t
  | _=>exact absurd (show false=true from fx) bc
 | int a =>
  obtain ⟨t',rfl⟩:=ry;cases x with
  | non=>cases rx;exact SeqAt.EqAt.int_none a t'
  | bl b=>cases rx;exact SeqAt.EqAt.int_bool a t' b
  | int b=>obtain ⟨t,rfl⟩:=rx;exact SeqAt.EqAt.int_int a t' b t
  | str b=>obtain ⟨t,rfl⟩:=rx;exact SeqAt.EqAt.int_str a t' b t
  | _=>exact absurd (show false=true from fx) bc
 | str a =>
  obtain ⟨t',rfl⟩:=ry;cases x with
  | non=>cases rx;exact SeqAt.EqAt.str_none a t'
  | bl b=>cases rx;exact SeqAt.EqAt.str_bool a t' b
  | int b=>obtain ⟨t,rfl⟩:=rx;exact SeqAt.EqAt.str_int a t' b t
  | str b=>obtain ⟨t,rfl⟩:=rx;exact SeqAt.EqAt.str_str a t' b t
  | _=>exact absurd (show false=true from fx) bc
 | _=>exact absurd (show false=true from fy) bc
def MK (x:V) (u:Value):Bool:=match u with
 | .none=>NA .non x
 | .bool b=>NA (.bl b) x
 | .int i _=>NA (.int i) x
 | .str z _=>NA (.str z) x
 | _=>false
theorem KU {x y:V} {u:Value} (r:RelV y u) (f:nN y=true):MK x u=NA y x:=by
 cases y with
 | non=>cases r;rfl
 | bl b=>cases r;rfl
 | int i=>obtain ⟨t,rfl⟩:=r;rfl
 | str z=>obtain ⟨t,rfl⟩:=r;rfl
 | _=>exact absurd (show false=true from f) bc
theorem DK {x:V}:∀{xs:List V} {us:List Value},cO xs us->xs.all nN=true->us.any (MK x)=xs.any λy=>NA y x
 | _,_,.nil,_=>rfl
 | y :: xs,u :: us,.cons r t,f=>by
  rw[Pt,dY] at f;rw[List.any_cons,List.any_cons,KU r f.1,DK t f.2]
theorem zZ {A:Around} {s:Shared} {x:V} {v:Value} (rx:RelV x v) (fx:nN x=true):∀{xs:List V} {us:List Value},cO xs us->xs.all nN=true->∀u∈us,SeqAt.EqAt A s u v (MK x u)
 | _,_,.nil,_=>λu hu=>by cases hu
 | y :: xs,u :: us,.cons r t,f=>λu' hu=>by
  rw[Pt,dY] at f;rcases aB.mp hu with rfl | hu
  ·rw[KU r f.1];exact OZ r rx f.1 fx
  ·exact zZ rx fx t f.2 u' hu
def Q2 (x:V) (xs:List V):Bool:=xs.any λy=>NA y x
def rIn (K:FG9) (neg:Bool):R2:=λx y H Q=>∃p xs,y=.ref p/\(bN K H p xs\/jl K H p xs)/\nN x=true/\xs.all nN=true/\Q (.bl (if neg then !Q2 x xs else Q2 x xs)) H
theorem IC:yE X (compareOp .In) (rIn X.K false):=by
 intro pins s σ H x y v u Q I rx ry h;obtain ⟨p,xs,rfl,hq,fx,fs,q⟩:=h;cases ry;rcases hq with hq | hq
 ·obtain ⟨its,r,pl,hz⟩:=I.list hq;refine SeqAt.in_listAt (MK x) pl.isList (λw hw=>zZ rx fx r fs w (by simpa using hw)) ⟨.bl _,H,I,rfl,?_⟩;rw[show its.toArray.any (MK x)=its.any (MK x) by simp,DK r fs];exact q
 ·obtain ⟨its,r,pl,hz⟩:=I.tuple hq;refine SeqAt.in_tupleAt (MK x) pl (λw hw=>zZ rx fx r fs w (by simpa using hw)) ⟨.bl _,H,I,rfl,?_⟩;rw[show its.toArray.any (MK x)=its.any (MK x) by simp,DK r fs];exact q
theorem aX:mG X (.builtin "len") (λxs H Q=>∃p ys,xs=[.ref p]/\(bN X.K H p ys\/jl X.K H p ys)/\Q (.int ys.length) H):=by
 intro pins s σ H xs us Q I r h;obtain ⟨p,ys,rfl,hq,q⟩:=h;obtain ⟨u,rfl,rx⟩:=vals1 r;cases rx;have hn:=z9;rcases hq with hq | hq
 ·obtain ⟨its,r',pl,hz⟩:=I.list hq;have hlen:=r'.length;exact Calls.call_len_list pl.isList (by simp only[aJ] <;> lia) ⟨.int ys.length,H,I.tok _,⟨s.toks+1,by rw[aJ,hlen]⟩,q⟩
 ·obtain ⟨its,r',pl,hz⟩:=I.tuple hq;have hlen:=r'.length;exact len_tuple pl (by simp only[aJ] <;> lia) ⟨.int ys.length,H,I.tok _,⟨s.toks+1,by rw[aJ,hlen]⟩,q⟩
theorem pC:mG X (.type "list") (λxs H Q=>∃p ys,xs=[.ref p]/\(bN X.K H p ys\/jl X.K H p ys)/\∀l,H l=none->Q (.ref l) (upd H l (.lst ys))):=by
 intro pins s σ H xs us Q I r h;obtain ⟨p,ys,rfl,hq,q⟩:=h;obtain ⟨u,rfl,rx⟩:=vals1 r;cases rx
 have fin:∀(its:List Value),cO ys its->ys.length<=sizeLine->∀(h':Heap) (c':Nat),(∀b o',s.heap.get? b=some o'->h'.get? b=some o') →
   h'.get? s.heap.objs.size=some { cls:=.type "list",dict:=none,data:=.seq its.toArray c',slots:=#[] }->EP X pins σ Q (.ref s.heap.objs.size) { s with heap:=h' }:=λits r' hz h' c' kp e =>
  ⟨.ref s.heap.objs.size,_,I.laid (t':=s.toks) kp (aj _) (show gi X.prog X.w _ h' _ (.lst ys) from ⟨hz,its,c',r',e⟩),rfl,q _ (I.hok.fresh (aj _))⟩
 rcases hq with hq | hq
 ·obtain ⟨its,r',pl,hz⟩:=I.list hq;have hlen:=r'.length;obtain ⟨o,ho,hc,n,hd⟩:=pl.isList;exact call_list_seq p (.inl rfl) ho hc hd (λh' c' kp e=>fin its r' hz h' c' kp e) (by simp only[aJ] <;> lia)
 ·obtain ⟨its,r',pl,hz⟩:=I.tuple hq;have hlen:=r'.length;obtain ⟨o,ho,hc,n,hd⟩:=pl;exact call_list_seq p (.inr rfl) ho hc hd (λh' c' kp e=>fin its r' hz h' c' kp e) (by simp only[aJ] <;> lia)
theorem A0:mG X (.type "tuple") (λxs H Q=>∃p ys,xs=[.ref p]/\((bN X.K H p ys/\∀l,H l=none->Q (.ref l) (upd H l (.tup ys)))\/(jl X.K H p ys/\Q (.ref p) H))):=by
 intro pins s σ H xs us Q I r h;obtain ⟨p,ys,rfl,h⟩:=h;obtain ⟨u,rfl,rx⟩:=vals1 r;cases rx;rcases h with ⟨hq,q⟩ | ⟨hq,q⟩
 ·obtain ⟨its,r',pl,hz⟩:=I.list hq;have hlen:=r'.length;refine call_tuple_list pl.isList (λh' kp=>?_) (by simp only[aJ] <;> lia);have I1:Inv X pins σ H { s with heap:=h' }:=I.kept (t':=s.toks) kp
  have I2:Inv X pins σ (upd H h'.objs.size (.tup ys)) { s with heap:=h'.push { cls:=.type "tuple",data:=.seq its.toArray } } :=
   I1.laid (t':=s.toks) (λb o e=>Heap.get?_push_of_some _ e) (aj _) (show gi X.prog X.w _ _ _ (.tup ys) from ⟨hz,its,r',IsTup.new _ _⟩)
  exact ⟨.ref h'.objs.size,_,I2,rfl,q _ (I1.hok.fresh (aj _))⟩
 ·obtain ⟨its,r',pl,hz⟩:=I.tuple hq;exact call_tuple_same pl ⟨.ref p,H,I,rfl,q⟩
def Q8 (K:FG9) (T:String) (x:V) (H:Hp):Prop:=match x with
 | .str _=>T="str"
 | .int _=>T="int"
 | .ref p=>(T="list"/\∃xs,bN K H p xs)\/(T="tuple"/\∃o,K.lookup p=some o/\o.cls=.type "tuple"/\o.dict=none) \/
   (T="dict"/\((∃kvs,H p=some (.dK kvs))\/∃kvs,H p=some (.dT kvs)))\/(T="set"/\∃S n,H p=some (.set S n))
 | _=>False
theorem NR {pins:List (Addr×Obj)} {σ:St} {H:Hp} {s:Shared} {T:String} {x:V} {v:Value} (I:Inv X pins σ H s) (r:RelV x v) (ty:Q8 X.K T x H) :
  s.TypeIs v T/\∀a,v=.ref a->∃ob,s.heap.get? a=some ob/\ob.dict=none:=by
 cases x with
 | str z =>
  obtain ⟨t,rfl⟩:=r;cases (show T="str" from ty);exact ⟨typeIs_str s z t,λ_ e=>nomatch e⟩
 | int i =>
  obtain ⟨t,rfl⟩:=r;cases (show T="int" from ty);exact ⟨typeIs_int s i t,λ_ e=>nomatch e⟩
 | ref p =>
  cases r;rcases ty with ⟨rfl,xs,hq⟩ | ⟨rfl,o,hk,hc,hd⟩ | ⟨rfl,hk⟩ | ⟨rfl,S,n,hk⟩
  ·obtain ⟨its,_,pl,_⟩:=I.list hq;refine ⟨pl.isList.typeIs,λa e=>?_⟩;cases e;obtain ⟨o,n,e,c,hd,_⟩:=pl;exact ⟨o,e,hd⟩
  ·refine ⟨⟨o,I.kIn p o hk,hc⟩,λa e=>?_⟩;cases e;exact ⟨o,I.kIn _ o hk,hd⟩
  ·have z:∃o,s.heap.get? p=some o/\o.ExactDict:=by
    rcases hk with ⟨kvs,hk⟩ | ⟨kvs,hk⟩
    ·obtain ⟨_,_,_,_,o,_,_,e,ex,_⟩:=I.hok p _ hk;exact ⟨o,e,ex⟩
    ·obtain ⟨_,_,_,_,o,_,_,e,ex,_⟩:=I.hok p _ hk;exact ⟨o,e,ex⟩
   obtain ⟨o,e,ex⟩:=z;refine ⟨⟨o,e,ex.1⟩,λa e2=>?_⟩;cases e2;exact ⟨o,e,ex.2.1⟩
  ·obtain ⟨o,_,_,_,e,ex,_⟩:=I.hok p _ hk;refine ⟨⟨o,e,ex.1⟩,λa e2=>?_⟩;cases e2;exact ⟨o,e,ex.2.1⟩
 | _=>exact False.elim ty
def tBM (K:FG9) (T:String) (r:V->List V->Hp->VK->Prop) (to:TE) (t:TA):TE:=λσ H Q=>to σ H λx H1=>Q8 K T x H1/\t σ H1 λxs H2=>r x xs H2 Q
variable {o e:Expr} {es:List Expr} {to:TE} {t:TA} {name:Str} {apos cpos:Pos} {T id:String} {r:V->List V->Hp->VK->Prop}
theorem sG (pa:PlainAttrs T) (slot:Slot T name id) (hty:typeOf (.builtin id)=pure (.type "method_descriptor")) (hm:MtR X id r) (ho:PE X o to) (ha:PA X (e :: es) t)
  (hbase:attributeBase o name X.env (eval o X.env)=eval o X.env:=by rfl)
  (hfew:((backTo cpos (starEach (e :: es) X.env)).all (λx=>!x.1) && (backToKw cpos (keywordEach [] X.env)).all (λx=>x.1.isSome)
   && decide ((e :: es).length+([]:List Keyword).length+(if ([]:List Keyword).isEmpty then 0 else 1) < 30))=true:=by rfl)
  (hline:(apos.endLine == cpos.line)=true:=by rfl) (hs:starEach (e :: es) X.env=(false,eval e X.env) :: starEach es X.env:=by rfl) (hplain:(backTo cpos (starEach es X.env)).any (·.1)=false:=by rfl) :
  PE X (.Call (.Attribute o name apos) (e :: es) [] cpos) (tBM X.K T r to t):=by
 intro pins s σ H Q I h;refine wpAny_Call_method_late hbase hfew hline rfl (gQ (ho pins s σ H _ I h) λv s1 ⟨x,H1,I1,r1,ty,q1⟩=>?_);obtain ⟨h1,h2⟩:=NR I1 r1 ty;refine ⟨T,id,pa,slot,hty,h1,h2,?_⟩;have hA:=ha cpos pins s1 σ H1 _ I1 q1;rw[hs] at hA ⊢;refine Calls.callWith_builtin (by show (false || (backTo cpos (starEach es X.env)).any (·.1))=false;rw[hplain] <;> rfl) (Calls.evalArgs_plain ?_);exact gQ hA λus s2 ⟨vs,H2,I2,r2,q2⟩=>hm pins s2 σ H2 x vs v us Q I2 r1 r2 q2
end
def RJ (X:Cx) (id:String) (r:V->List V->Hp->VK->Prop):Prop :=
 ∀(pins:List (Addr×Obj)) (s:Shared) (σ:St) (H:Hp) (x:V) (xs:List V) (v:Value) (us:List Value) (Q:VK),Inv X pins σ H s->RelV x v->cO xs us->r x xs H Q →
  wpAny (model X.prog X.w) X.A (call (.builtin id) (v :: us)) (EP X pins σ Q) X.xe s
theorem cO.one:∀{x:V} {us:List Value},cO [x] us->∃u,us=[u]/\RelV x u
 | _,_,.cons r .nil=>⟨_,rfl,r⟩
theorem cO.eraseIdx:∀{xs:List V} {us:List Value} (i:Nat),cO xs us->cO (xs.eraseIdx i) (us.eraseIdx i)
 | _,_,_,.nil=>.nil
 | _,_,0,.cons _ t=>t
 | _,_,i+1,.cons r t=>.cons r (cO.eraseIdx i t)
theorem cO.rep {xs:List V} {us:List Value} (h:cO xs us):∀k:Nat,cO (List.replicate k xs).flatten (List.replicate k us).flatten
 | 0=>.nil
 | k+1=>by
  rw[kC,kC,ic,ic];exact cO.append h (cO.rep h k)
theorem BG {α:Type}:∀(l:List α) (i:Nat),(l.eraseIdx i).length<=l.length
 | [],_=>aj _
 | _ :: _,0=>lW _
 | _ :: r,i+1=>dB (BG r i)
theorem foldl_rep (its:List Value):∀(k:Nat) (acc:List Value),
  List.foldl (λx1 x2=>x1++x2) acc.toArray (List.replicate k its.toArray)=(acc++(List.replicate k its).flatten).toArray
 | 0,acc=>by simp
 | k+1,acc=>by
  have e:acc.toArray++its.toArray=(acc++its).toArray:=by simp
  have e2:(acc++its)++(List.replicate k its).flatten=acc++(List.replicate (k+1) its).flatten:=by
   rw[kC,ic,bV]
  rw[<- e2,<- foldl_rep its k (acc++its),<- e,kC,List.foldl_cons]
section
variable {X:Cx} {pins:List (Addr×Obj)} {σ:St} {H:Hp} {s:Shared} {l b:Addr} {xs ys zs:List V}
theorem Inv.lset {its its':List Value} {n:Nat} {f:Array Value->Array Value} {t':Nat} (I:Inv X pins σ H s) (hH:H l=some (.lst xs))
  (e:s.heap.get? l=some { cls:=.type "list",data:=.seq its.toArray n }) (hf:f its.toArray=its'.toArray) (hv:cO ys its') (hz:ys.length<=sizeLine) :
  Inv X pins σ (upd H l (.lst ys)) { s with heap:=s.heap.update l (Obj.mapSeq f),toks:=t' }:=by
 have q:=ki e f;rw[hf] at q;refine I.write (x:=l) (e:=l) (by rw[hH];exact trivial) (.inl rfl) (λb' u hb hu=>(Heap.get?_update_other s.heap (Obj.mapSeq f) (Ne.symm hb)).trans hu) ⟨_,q⟩ ?_;exact ⟨hz,its',_,hv,q⟩
theorem Inv.lnew {its:List Value} {t':Nat} (I:Inv X pins σ H s) (hv:cO ys its) (hz:ys.length<=sizeLine) :
  Inv X pins σ (upd H s.heap.objs.size (.lst ys)) { s with heap:=s.heap.push { cls:=.type "list",data:=.seq its.toArray },toks:=t' } :=
 I.laid (λ_ _ q=>Heap.get?_push_of_some _ q) (aj _) ⟨hz,its,0,hv,Heap.get?_push_size _ rfl⟩
theorem Inv.fresh (I:Inv X pins σ H s):H s.heap.objs.size=none:=I.hok.fresh (aj _)
theorem Inv.lstM (I:Inv X pins σ H s) (hH:H l=some (.lst xs)):xs.length<=sizeLine/\∃(its:List Value) (n:Nat),cO xs its/\xs.length=its.length/\s.heap.get? l=some { cls:=.type "list",data:=.seq its.toArray n }:=by
 obtain ⟨z,its,n,r,e⟩:=I.hok l _ hH;exact ⟨z,its,n,r,r.length,e⟩
theorem EC {n:Nat} (h:n<=sizeLine):Builtin.List.listTooLong n=false:=by
 unfold Builtin.List.listTooLong;exact decide_eq_false (by lia)
end
section
variable {X:Cx}
def Gz:V->List V->Hp->VK->Prop:=λx vs H Q=>∃l xs y,x=.ref l/\vs=[y]/\H l=some (.lst xs)/\xs.length < sizeLine/\Q .non (upd H l (.lst (xs++[y])))
theorem jg:RJ X "list.append" Gz:=by
 intro pins s σ H x vs v us Q I rx rv h;obtain ⟨l,xs,y,rfl,rfl,hH,hz,q⟩:=h;cases rx;obtain ⟨u,rfl,ru⟩:=rv.one;obtain ⟨z,its,n,r,hl,e⟩:=I.lstM hH;refine call_meets F.slot_list_append ⟨_,e,rfl⟩ F.entry_list_append (F.args_list_append_2 _ _) (PySem.list_append l its.toArray n u (by rw[aJ];lia)) ⟨e,?_⟩;refine ⟨.non,_,I.lset (its':=its++[u]) hH e (by simp) (r.append (.cons ru .nil)) ?_,rfl,q⟩;rw[ak,bo]
 lia
def Mo:V->List V->Hp->VK->Prop:=λx vs H Q=>∃l b xs zs,x=.ref l/\vs=[.ref b]/\H l=some (.lst xs)/\H b=some (.lst zs)/\xs.length+zs.length<=sizeLine/\Q .non (upd H l (.lst (xs++zs)))
theorem IK:RJ X "list.extend" Mo:=by
 intro pins s σ H x vs v us Q I rx rv h;obtain ⟨l,b,xs,zs,rfl,rfl,hH,hB,hz,q⟩:=h;cases rx;obtain ⟨u,rfl,ru⟩:=rv.one;cases ru;obtain ⟨z,its,n,r,hl,e⟩:=I.lstM hH;obtain ⟨z2,its2,n2,r2,hl2,e2⟩:=I.lstM hB;have hsz:its.toArray.size+its2.toArray.size<=sizeLine:=by rw[aJ,aJ];lia
 have hlong:¬(!its.toArray.isEmpty && Builtin.List.listTooLong (its.toArray.size+its2.toArray.size))=true:=by
  rw[EC hsz,Bool.and_false];exact bc
 refine call_meets F.slot_list_extend ⟨_,e,rfl⟩ F.entry_list_extend (F.args_list_extend_2 _ _)
  (AutoSeq1.list_extend_list_list_0 l its.toArray n b its2.toArray n2 hlong (by rw[aJ];lia) (by lia)) ⟨e,e2,?_⟩
 refine ⟨.non,_,I.lset (its':=its++its2) hH e (by simp) (r.append r2) ?_,rfl,q⟩;rw[ak]
 lia
def OB:V->List V->Hp->VK->Prop:=λx vs H Q=>∃l xs i k y,x=.ref l/\vs=[.int i]/\H l=some (.lst xs)/\-(2^63)<=i/\i < 2^63/\seqIndex? i xs.length=some k/\xs[k]?=some y/\Q y (upd H l (.lst (xs.eraseIdx k)))
theorem Kh:RJ X "list.pop" OB:=by
 intro pins s σ H x vs v us Q I rx rv h;obtain ⟨l,xs,i,k,y,rfl,rfl,hH,h1,h2,hk,hy,q⟩:=h;cases rx;obtain ⟨u,rfl,ru⟩:=rv.one;obtain ⟨t,rfl⟩:=ru;obtain ⟨z,its,n,r,hl,e⟩:=I.lstM hH;obtain ⟨w,hw,rw'⟩:=r.get hy
 refine call_meets F.slot_list_pop ⟨_,e,rfl⟩ F.entry_list_pop (F.args_list_pop_2 _ _)
  (MeetsSeq.list_pop_at l its.toArray n i t k w (fitsIndex_both h1 h2) (by rw[aJ,<- hl];exact hk) (by rw[<- Array.getElem?_toList];exact hw) (by rw[aJ];lia)) ⟨e,?_⟩
 refine ⟨y,_,I.lset (its':=its.eraseIdx k) hH e ?_ (r.eraseIdx k) ?_,rw',q⟩
 ·show its.toArray.eraseIdxIfInBounds k=(its.eraseIdx k).toArray
  rw[List.eraseIdxIfInBounds_toArray]
 ·have:=BG xs k
  lia
def Qm:R2:=λx y H Q=>∃l b xs zs,x=.ref l/\y=.ref b/\H l=some (.lst xs)/\H b=some (.lst zs)/\xs.length+zs.length<=sizeLine/\∀p,H p=none->Q (.ref p) (upd H p (.lst (xs++zs)))
theorem i8:yE X (binaryOp .Add) Qm:=by
 intro pins s σ H x y v u Q I rx ry h;obtain ⟨l,b,xs,zs,rfl,rfl,hH,hB,hz,q⟩:=h;cases rx;cases ry;obtain ⟨z,its,n,r,hl,e⟩:=I.lstM hH;obtain ⟨z2,its2,n2,r2,hl2,e2⟩:=I.lstM hB;refine PySem.P.add_list e e2 ?_ (by rw[aJ,aJ];lia);have ea:its.toArray++its2.toArray=(its++its2).toArray:=by simp
 rw[ea];exact ⟨.ref _,_,I.lnew (t':=s.toks) (r.append r2) (by rw[ak];lia),rfl,q _ I.fresh⟩
def Qj:R2:=λx y H Q=>∃l k xs,x=.ref l/\y=.int k/\H l=some (.lst xs)/\-(2^63)<=k/\k < 2^63/\xs.length*k.toNat<=sizeLine /\
 ∀p,H p=none->Q (.ref p) (upd H p (.lst (List.replicate k.toNat xs).flatten))
theorem len_rep {α:Type} (xs:List α) (k:Nat):(List.replicate k xs).flatten.length=k*xs.length:=by
 induction k with
 | zero=>simp
 | succ k ih=>rw[kC,ic,ak,ih,dA,rX]
theorem J9:yE X (binaryOp .Mult) Qj:=by
 intro pins s σ H x y v u Q I rx ry h;obtain ⟨l,k,xs,rfl,rfl,hH,h1,h2,hz,q⟩:=h;cases rx;obtain ⟨t,rfl⟩:=ry;obtain ⟨z,its,n,r,hl,e⟩:=I.lstM hH;have hlen:its.toArray.size*k.toNat<=sizeLine:=by rw[aJ,<- hl];exact hz
 have hcap:¬its.toArray.size*k.toNat > (2^63 - 1) / 8:=by
  have:(sizeLine:Nat)<=(2^63 - 1) / 8:=by decide
  lia
 have hfit:¬(!Builtin.List.listFitsIndex k)=true:=by
  rw[fitsIndex_both h1 h2];exact bc
 have hlong:¬Builtin.List.listTooLong (its.toArray.size*k.toNat)=true:=by
  rw[EC hlen];exact bc
 have hnew:List.foldl (λx1 x2=>x1++x2) #[] (List.replicate (if its.toArray.isEmpty=true then 0 else k.toNat) its.toArray)=(List.replicate k.toNat its).flatten.toArray:=by
  have f0:∀m:Nat,List.foldl (λx1 x2=>x1++x2) #[] (List.replicate m its.toArray)=(List.replicate m its).flatten.toArray:=λm=>by
   have:=foldl_rep its m [];rw[cZ] at this;exact this
  rw[f0];cases its with
  | nil=>simp
  | cons a r'=>rw[if_neg (by simp)]
 refine wpAny_binaryOp_repeat_ref (T:="list") (U:="int") (by decide) ⟨_,e,rfl⟩ (λs'=>typeIs_int s' k t) noFill_list_mul F.fills_int_mul F.slot_int_rmul repeat_list F.slot_int_index.lookup
  (call_meets F.slot_int_rmul (typeIs_int s k t) F.entry_int_rmul (F.args_int_rmul_2 _ _) (int___rmul___int_list k t l its.toArray n)
   ⟨e,rfl,⟨_,e,rfl⟩,call_meets F.slot_list_mul ⟨_,e,rfl⟩ F.entry_list_mul (F.args_list_mul_2 _ _) (AutoListH.list___mul___list_int_3 l its.toArray n k t hfit hcap hlong) ⟨e,?_⟩⟩)
 rw[hnew];exact ⟨.ref _,_,I.lnew (t':=s.toks) (r.rep k.toNat) (by rw[len_rep,bQ];exact hz),rfl,q _ I.fresh⟩
end
end L2
namespace Att
open PySem PySem.W PySem.Calls PyProof.Rows
theorem yA {P:Params} {h:Heap}:∀(ns:List Int) (vs:List Value),WellAll P h vs (ns.map WData.int)->IntsAre vs ns:=by
 intro ns
 induction ns with
 | nil =>
  intro vs w;rw[List.map_nil] at w;cases w;exact .nil
 | cons n ns ih =>
  intro vs w;rw[ij] at w;cases w with
  | cons a b =>
   cases a;exact .cons _ _ (ih _ b)
theorem Ik {l:OpenLaw} {n:Nat} (hn:l.most=some n) {P:Params} {h:Heap} {args:List WData} {vals:List Value}
  (hpre:l.row.toRowW.claim.pre args=true) (hwl:WellAll P h vals args) :
  ∃a vs ns,vals=[Value.ref a]/\args=[WData.list (ns.map WData.int)]/\h.get? a=some { cls:=.type "list",data:=.seq vs.toArray }/\IntsAre vs ns/\ns.length<=n:=by
 have hsh:WShape.hasAll [] args [.list .int]=true:=(pre_splitW hpre).1;have hc:l.pre.holds [] { args:=args }=true:=(pre_splitW hpre).2;obtain ⟨d,r,rfl,h1,h2⟩:=hasAllW_cons hsh;obtain rfl:=hasAllW_nil h2;obtain ⟨xs,rfl,h3⟩:=hasW_list h1;obtain ⟨ns,rfl⟩:=items_int h3
 have hlen:ns.length<=n:=by
  unfold OpenLaw.pre at hc
  have h4:(WTm.not (.lt (.lit (.int (n:Int))) (.len (.arg 0)))).holds [] { args:=[.list (ns.map .int)] }=true:=by
   have h4:=(holds_andW hc).1;rw[hn] at h4;exact h4
  have h5:=condW_of h4 (w_not (w_lt w_lit (w_len_list (w_arg rfl))));rw[ar] at h5;refine Nat.le_of_not_lt λq=>?_
  have q':(n:Int) < ((ns.length:Nat):Int):=by lia
  first
   | (rw[decide_eq_true q'] at h5;exact absurd h5 (by decide))
   | (simp at h5;lia)
 cases hwl with
 | cons w1 w2 =>
  cases w2;cases w1 with
  | list ho hall=>exact ⟨_,_,ns,rfl,rfl,ho,yA ns _ hall,hlen⟩
theorem Iz (l:OpenLaw) (args:List WData):l.row.toRowW.claim.post args (.bool true) args=true :=
 postW_of (r:=l.row.toRowW) (X:=(true == true))
  (show WShape.has [] (.bool true) .bool=true by first | rfl | decide | simp [WShape.has,WShape.arms,WShape.armsAll])
  (show (WTm.eq .res (.lit (.bool true))).value [] { args:=args,res:=some (.bool true),after:=args }=some (.bool (true == true)) from w_eq_bool (w_res rfl) w_lit) rfl
theorem E3 {l:OpenLaw} {n:Nat} {q:Program} {loose:List Str} {XP:(Str->Option Value)->Heap->Prop} {YP:World->Heap->Prop} {d:DefRec}
  (hn:l.most=some n) (hdf:d.params.defaults=[])
  (call:∀(w:World) (s₀ s₁:Shared) (mg mb:Str->Option Value) (fa:Addr) (o:Obj) (pm cd doc:Value) (a:Addr) (vs:List Value) (ns:List Int),
   Ground q loose [] XP w s₀ mg mb s₁.heap->YP w s₁.heap →
   s₁.heap.get? fa=some o->o.data=.func (docDef d.name d.params d.body d.scope pm cd doc)->s₁.heap.CodeRec cd d.name->mg d.name=some (.ref fa) →
   s₁.heap.get? a=some { cls:=.type "list",data:=.seq vs.toArray }->IntsAre vs ns->ns.length<=n->s₁.gens=#[] →
   codeAny (model l.prog w) callerA (.call (.ref fa) ⟨[.ref a],[]⟩) (λr s'=>r=.ok (.ret (.bool true))/\OldK s₁.heap s'.heap/\s'.os=s₁.os/\AllBare s'.gens) s₁) :
  WalkO q loose XP YP l.row.toRowW d [] (λf vs=>PySem.call f vs):=by
 intro w s₀ s₁ mg mb G Y fa o pm cd doc dV kV ho hd hcd hD hmg hg args vals as hpre hlay hrd hwl hlo;obtain rfl:dV=.none:=Dflts.none hD hdf;obtain rfl:kV=.none:=Dflts.noKw hD;obtain ⟨a,vs,ns,rfl,rfl,hobj,hints,hlen⟩:=Ik hn hpre hwl;refine enter_call (codeAny_mono (call w s₀ s₁ mg mb fa o pm cd doc a vs ns G Y ho (fd_plain hd) hcd hmg hobj hints hlen hg) λr s' hq=>?_);obtain ⟨rfl,h2,h3,h4⟩:=hq;exact ⟨.inl ⟨.bool true,.bool true,[],rfl,λ_=>rfl,.bool true,Iz l _,λ_=>⟨List.Pairwise.nil,λ_ hm=>(nomatch hm)⟩⟩,h2,h3,h4⟩
section
variable {prog:Program} {w:World} {A:Around} {E:Value->Shared->Prop} {s:Shared} {K:Frag}
end
end Att
namespace L2
open PySem PySem.Spec PyProof.Rows
theorem A6:∀{vs:List Value} {ns:List Int},IntsAre vs ns->cO (ns.map V.int) vs
 | _,_,.nil=>.nil
 | _,_,.cons n t h=>.cons ⟨t,rfl⟩ (A6 h)
def O8 (H:Hp):Prop:=∀b,H b=none\/∃o xs,H b=some (.frz o (.lst xs))
theorem Kq {P : Program} {w : World} {K : FG9} {mg mb : Str → Option Value} {CX : Lm} {k : Nat} {fa a : Addr} {fd : FuncData} {x : Str} {sp : Sp} {s₁ : Shared} {vs : List Value} {ns : List Int}
    (KX : K.In s₁.heap) (hns : s₁.heap.Ns mainGlobals mg) (hb : s₁.heap.Ns builtinsNs mb) (hbb : ∀ x : Str, x ≠ "__name__" → mb x = bootBuiltins x) (hlim : s₁.heap.NoLimit) (hg : s₁.gens = #[])
    (ha : s₁.heap.get? a = some { cls := .type "list", data := .seq vs.toArray }) (hi : IntsAre vs ns) (hl : ns.length ≤ sizeLine) (hr : kI k callerA)
    (F : ∀ base : Heap, K.In base → base.Ns mainGlobals mg → cI P w K mg base CX k fa fd [x] sp) (hbind : ∀ (s : Shared) (u : Value), BindsTo s fd ⟨[u], []⟩ [(x, u)])
    (hsp : ∀ H : Hp, O8 H → bN K H a (ns.map V.int) → sp [.ref a] H (λv _ => v = .bl true) λ_ _ _ => False)
    (hCX : ∀ H e s', CX [] H s₁ (λ_ _ _ => False) e s' → False) :
    codeAny (model P w) callerA (.call (.ref fa) ⟨[.ref a], []⟩) (λr s' => r = .ok (.ret (.bool true)) /\ OldK s₁.heap s'.heap /\ s'.os = s₁.os /\ AllBare s'.gens) s₁ := by
  have rv := A6 hi;have lenV := hi.length
  have core : ∀ H : Hp, O8 H → bN K H a (ns.map V.int) → yO P w H s₁.heap → (∀ b, H b ≠ none → b = a) → (H a ≠ none → K.lookup a = none) →
      codeAny (model P w) callerA (.call (.ref fa) ⟨[.ref a], []⟩) (λr s' => r = .ok (.ret (.bool true)) /\ OldK s₁.heap s'.heap /\ s'.os = s₁.os /\ AllBare s'.gens) s₁ := by
    intro H hO hS hok hA hK;have base_of : ∀ {b : Addr} {o : Obj}, s₁.heap.get? b = some o → H b = none → (Dw s₁.heap H).get? b = some o := λe n => KC e n
    have noA : ∀ {b : Addr} {o : Obj} {es : Array DictEntry} {ep : Nat}, s₁.heap.get? b = some o → o.data = .dict es ep → H b = none := λ{b o es ep} e d => by
      cases q : H b with
      | none => rfl
      | some u =>
        have e' : b = a := hA b (by rw [q]; simp);subst e';rw [ha] at e; cases e;have d' : Data.seq vs.toArray _ = Data.dict es ep := d;cases d'
    have nsK : ∀ {b : Addr} {m : Str → Option Value}, s₁.heap.Ns b m → (Dw s₁.heap H).Ns b m := λ{b m} ⟨o, es, ep, e, d, r⟩ => ⟨o, es, ep, base_of e (noA e d), d, r⟩
    have hKb : K.In (Dw s₁.heap H) := λb o e => base_of (KX b o e) (by
      cases q : H b with
      | none => rfl
      | some u =>
        have e' : b = a := hA b (by rw [q]; simp);subst e';rw [hK (by rw [q]; simp)] at e; cases e)
    have hM : Mod K mg (Dw s₁.heap H) := ⟨hKb, nsK hns, ⟨mb, nsK hb, hbb⟩, let ⟨mc, h1, h2⟩ := hlim; ⟨mc, nsK h1, h2⟩⟩;have e0 : F8 P w K mg (Dw s₁.heap H) callerA [] s₁ H := ⟨rfl, hM, λb o e => Mz e, Nat.le_of_eq (IU _ _), trivial, λb hb => absurd (show b ∈ ([] : List Addr) from hb) (by simp), hok, .of_eq hg⟩;refine codeAny_mono ((F _ hKb (nsK hns)).run callerA [] s₁ H ⟨[.ref a], []⟩ [.ref a] [.ref a] _ _ hr e0 (hbind s₁ (.ref a)) (.cons rfl .nil) (hsp H hO hS)) λr s' h => ?_
    cases r with
    | error e => exact (hCX H e s' h).elim
    | ok fl =>
      cases fl with
      | next => exact False.elim h
      | brk => exact False.elim h
      | cont => exact False.elim h
      | ret u =>
        obtain ⟨v, H', os, bare, un, hok', r', q⟩ := h;have q' : v = .bl true := q;subst q';obtain rfl : u = Value.bool true := r';refine ⟨rfl, OldK.of_keep λb o e => ?_, os, bare⟩;cases q : H b with
        | none => exact un.keep b o e q (by intro z; exact absurd (show b ∈ ([] : List Addr) from z) (by simp)) (by simp)
        | some u =>
          rcases hO b with z | ⟨ob, xs, z⟩
          · rw [q] at z; cases z
          · have z2 := un.frzs b ob _ z;obtain ⟨e1, _⟩ := hok b _ z;obtain ⟨e2, _⟩ := hok' b _ z2;rw [e] at e1; cases e1;exact e2
  cases hk : K.lookup a with
  | some o =>
    have e := KX a o hk;rw [ha] at e;cases e;refine core (λ_ => none) (λ_ => .inl rfl) (.inr ⟨_, vs.toArray, _, hk, rfl, rfl, rfl, by rw [aJ, lenV]; exact hl, by simpa using rv⟩) (λb u z => by have z' : (none : Option HO) = some u := z; cases z') (λb z => absurd rfl z) λz => absurd rfl z
  | none =>
    refine core (λb => if b = a then some (.frz { cls := .type "list", data := .seq vs.toArray } (.lst (ns.map V.int))) else none) (λb => ?_) (.inl (.inr ⟨{ cls := .type "list", data := .seq vs.toArray }, if_pos rfl⟩)) (λb u z => ?_) (λb z => ?_) λ_ => hk
    · by_cases hb : b = a
      · exact .inr ⟨_, _, if_pos hb⟩
      · exact .inl (if_neg hb)
    · by_cases hb : b = a
      · have z' := (if_pos hb).symm.trans z;cases z';subst hb;exact ⟨ha, by rw [ar]; exact hl, vs, _, rv, ha⟩
      · have z' := (if_neg hb).symm.trans z;cases z'
    · by_cases hb : b = a
      · exact hb
      · exact absurd (if_neg hb) z
theorem Lx {l:PySem.W.OpenLaw} {n k:Nat} {q:Program} {loose:List Str} {XP:(Str->Option Value)->Heap->Prop} {YP:World->Heap->Prop} {d:DefRec} {K:Params->FG9} {CX:World->Lm} {sp:World->Sp} {x:Str}
  (hn:l.most=some n) (hn2:n<=sizeLine) (hdf:d.params.defaults=[]) (hr:kI k callerA)
  (hY:∀(w:World) (h:Heap),YP w h->(K w.params).In h)
  (F:∀(w:World) (mg:Str->Option Value) (fa:Addr) (h:Heap),(K w.params).In h->h.Ns mainGlobals mg->mg d.name=some (.ref fa) →
   ∃fd:FuncData,(∀(s:Shared) (u:Value),BindsTo s fd ⟨[u],[]⟩ [(x,u)]) /\
    ∀base:Heap,(K w.params).In base->base.Ns mainGlobals mg->cI l.prog w (K w.params) mg base (CX w) k fa fd [x] (sp w))
  (hsp:∀(w:World) (H:Hp) (a:Addr) (ns:List Int),ns.length<=n->O8 H->bN (K w.params) H a (ns.map V.int)->sp w [.ref a] H (λv _=>v=.bl true) λ_ _ _=>False)
  (hCX:∀(w:World) (H:Hp) (s:Shared) (e:Value) (s':Shared),CX w [] H s (λ_ _ _=>False) e s'->False) :
  PySem.W.WalkO q loose XP YP l.row.toRowW d [] (λf vs=>PySem.call f vs):=by
 refine Att.E3 hn hdf λw s₀ s₁ mg mb fa o pm cd doc a vs ns G Y ho hd hcd hmg hobj hints hlen hg=>?_
 have KX:=hY w _ Y;obtain ⟨fd,hb,hF⟩:=F w mg fa _ KX G.T.g hmg;exact Kq KX G.T.g G.T.b G.T.builtins G.T.nolimit hg hobj hints (ai hlen hn2) hr hF hb (λH hO hS=>hsp w H a ns hlen hO hS) λH e s'=>hCX w H s₁ e s'
end L2


namespace L2
open PySem PySem.Spec PyProof.Rows
def inClass (s:Stmt) (j:Nat):Stmt:=match s with
 | .ClassDef _ _ _ body _ _ _ _ _ _ _=>body.getD j (.Pass ⟨0,0,0,0⟩)
 | _=>.Pass ⟨0,0,0,0⟩
def kW (s:Stmt):Arguments:=match s with
 | .FunctionDef _ a _ _ _ _ _ _ _ _=>a
 | _=>{ posonlyargs:=[],args:=[],vararg:=none,kwonlyargs:=[],kw_defaults:=[],kwarg:=none,defaults:=[] }
def jE (s:Stmt):List Stmt:=match s with
 | .FunctionDef _ _ b _ _ _ _ _ _ _=>b
 | _=>[]
def aN (s:Stmt):Scope:=match s with
 | .FunctionDef _ _ _ _ _ _ sc _ _ _=>sc
 | _=>{ kind:=.function,names:=[],isGenerator:=false,isCoroutine:=false }
abbrev fM:Lm:=λ_ _ _ _ _ _=>False
abbrev E0:XK:=λ_ _ _=>False
theorem Bv {X:Cx}:xf fM X E0:=λ_ _ _ _ _ _ _ h=>h.elim
structure Ll (K:FG9) (x qual:Str) (st:Stmt) (f:Addr) (fd:FuncData):Prop where
 ex:∃(oc:Value) (od:Option Addr) (kV doc pm:Value) (an:Option Addr) (cdv ct:Value) (osl:Array (Option Value)),
  fd=PySem.W.fnOf x qual (kW st) (jE st) (aN st) .none kV doc pm an cdv ct/\K.lookup f=some ⟨oc,od,.func fd,osl⟩/\PySem.W.codeIn K cdv qual=true
 kp:PySem.W.keepIn K (.ref f)=true
section
variable {P:Program} {w:World} {K:FG9} {mg:Str->Option Value} {base:Heap}
theorem Ll.ok {x qual:Str} {st:Stmt} {f:Addr} {fd:FuncData} {N ps:List Str} {k:Nat} {sp:Sp} (F:Ll K x qual st f fd) (S:bg N ps (aN st)) (len:∀vs H Q E,sp vs H Q E->vs.length=ps.length)
  (hbody:∀(cdv:Value) (A:Around) (outer:List Env) (s:Shared) (H:Hp) (vs:List V) (Q:VK) (E:XK),kI k (A.deeper (envOfC qual (aN st) s.heap.objs.size f cdv))->sp vs H Q E →
   ∃t,F6 (IY fM P w K mg base N qual (aN st) f cdv A outer s H E).nox (jE st) t/\t { nx:=λ_ H'=>Q .non H',rt:=Q } (start N vs) H):cI P w K mg base fM (k+1) f fd ps sp:=by
 obtain ⟨oc,od,kV,doc,pm,an,cdv,ct,osl,rfl,lk,hcd⟩:=F.ex;refine QC lk hcd S len λA outer s H vs Q E hr hsp=>?_
 obtain ⟨t,h,q⟩:=hbody cdv A outer s H vs Q E hr hsp;exact ⟨t,h.nox,q⟩
theorem Ll.binds {x qual:Str} {st:Stmt} {f:Addr} {fd:FuncData} {ps:List Str} (F:Ll K x qual st f fd)
  (h:∀(kV doc pm:Value) (an:Option Addr) (cdv ct:Value) (us:List Value),us.length=ps.length->bindArgs (PySem.W.fnOf x qual (kW st) (jE st) (aN st) .none kV doc pm an cdv ct) ⟨us,[]⟩=pure (ps.zip us)):Binds K fd ps []:=by
 obtain ⟨oc,od,kV,doc,pm,an,cdv,ct,osl,rfl,lk,hcd⟩:=F.ex;exact .all (h kV doc pm an cdv ct)
theorem FW {x qual:Str} {st:Stmt} {f:Addr} {oc:Value} {od an:Option Addr} {osl:Array (Option Value)} {kV doc pm cdv ct:Value} (l:K.lookup f=some ⟨oc,od,.func (PySem.W.fnOf x qual (kW st) (jE st) (aN st) .none kV doc pm an cdv ct),osl⟩)
  (c:PySem.W.codeIn K cdv qual=true) (k:PySem.W.keepIn K (.ref f)=true):Ll K x qual st f (PySem.W.fnOf x qual (kW st) (jE st) (aN st) .none kV doc pm an cdv ct):=⟨⟨oc,od,kV,doc,pm,an,cdv,ct,osl,rfl,l,c⟩,k⟩
end
structure Df (K:FG9) (mg:Str->Option Value) (x:Str) (st:Stmt) (ps:List Str) (f:Addr) (fd:FuncData):Prop where
 m:mg x=some (.ref f)
 b:Binds K fd ps []
 F:Ll K x x st f fd
structure Dh (K:FG9) (x:Str) (st:Stmt) (f:Addr) (fd:FuncData):Prop where
 a:PySem.W.nsIn K mainGlobals x=some (some (.ref f))
 F:Ll K x x st f fd
theorem QD {K:FG9} {x:Str} {st:Stmt} {f:Addr} {oc:Value} {od an:Option Addr} {osl:Array (Option Value)} {kV doc pm cdv ct:Value} (a:PySem.W.nsIn K mainGlobals x=some (some (.ref f))) (l:K.lookup f=some ⟨oc,od,.func (PySem.W.fnOf x x (kW st) (jE st) (aN st) .none kV doc pm an cdv ct),osl⟩) (c:PySem.W.codeIn K cdv x=true) (k:PySem.W.keepIn K (.ref f)=true):Dh K x st f (PySem.W.fnOf x x (kW st) (jE st) (aN st) .none kV doc pm an cdv ct):=⟨a,FW l c k⟩
theorem Dh.D {K:FG9} {x:Str} {st:Stmt} {f:Addr} {fd:FuncData} {ps:List Str} {mg:Str->Option Value} {h:Heap} (d:Dh K x st f fd) (X:K.In h) (G:h.Ns mainGlobals mg) (hb:∀(kV doc pm:Value) (an:Option Addr) (cdv ct:Value) (us:List Value),us.length=ps.length->bindArgs (PySem.W.fnOf x x (kW st) (jE st) (aN st) .none kV doc pm an cdv ct) ⟨us,[]⟩=pure (ps.zip us):=by walk_at "b"):Df K mg x st ps f fd:=⟨PySem.W.mg_of X G d.a,d.F.binds hb,d.F⟩
theorem cG {X:Cx} {k k':Nat} {f:Addr} {fd:FuncData} {ps:List Str} {sp:Sp} {x:Str} {st:Stmt} {p pos:Pos} {e:Expr} {es:List Expr} {t:TA} (F:cI X.prog X.w X.K X.mg X.base fM k f fd ps sp) (hr:kI k' X.A) (D:Df X.K X.mg x st ps f fd) (ha:PA X (e :: es) t) (hle:k<=k':=by decide) (hg:Gl X x:=by exact rfl) (hdb:(x == ("__debug__":Str))=false:=by decide) (he:starEach (e :: es) X.env=(false,eval e X.env) :: starEach es X.env:=by rfl) (hpl:(backTo pos (starEach es X.env)).any (·.1)=false:=by rfl):PE X (.Call (.Name x p) (e :: es) [] pos) (Jw sp [] E0 t):=yJ F (hr.mono hle) hg D.m D.F.kp D.b .nil Bv ha hdb he hpl
theorem bC {n:Nat} (h:n<=1000):n < sizeLine:=br h (by decide)
section
variable {X:Cx}
theorem pv (i:Nat) {x:Str} {pos:Pos} (hN:X.N[i]?=some x:=by rfl) (hv:Ry X.env.scope x:=by first | exact Or.inl rfl | exact Or.inr (Or.inl rfl) | exact Or.inr (Or.inr rfl)) (hd:(x == ("__debug__":Str))=false:=by decide)
  (hcd:(x == ("__classdict__":Str))=false:=by decide):PE X (.Name x pos) (NU i):=OG hN hv hd hcd
end
theorem Kv {A B:Prop} (h:B):if false=true then A else B:=by
 rw[if_neg bc];exact h
theorem Qt {A B:Prop} (h:A):if true=true then A else B:=by
 rw[if_pos rfl];exact h
theorem fX {c A B:Prop} [Decidable c] (h1:c->A) (h2:¬c->B):if c then A else B:=by
 by_cases h:c
 ·rw[if_pos h];exact h1 h
 ·rw[if_neg h];exact h2 h
def aG (H H':Hp):Prop:=∀b o,H b=some o->H' b=some o
theorem aG.refl (H:Hp):aG H H:=λ_ _ h=>h
theorem aG.trans {H H1 H2:Hp} (a:aG H H1) (b:aG H1 H2):aG H H2:=λc o h=>b c o (a c o h)
theorem aG.free {H H':Hp} (e:aG H H') {l:Addr} (h:H' l=Option.none):H l=Option.none:=by
 cases q:H l with
 | none=>rfl
 | some o =>
  rw[e l o q] at h;cases h
theorem aG.seq {K:FG9} {H H':Hp} {a:Addr} {xs:List V} (e:aG H H') (h:bN K H a xs):bN K H' a xs:=by
 rcases h with (h | ⟨o,h⟩) | h
 ·exact .inl (.inl (e _ _ h))
 ·exact .inl (.inr ⟨o,e _ _ h⟩)
 ·exact .inr h
end L2
namespace Nm
theorem KJ (a b:Int):Int.gcd b (a.fmod b)=Int.gcd a b:=by
 rw[Int.fmod_def,ko a b];apply Nat.dvd_antisymm
 ·apply Li
  ·exact fb ..
  ·have h1:=fb (a:=b) (b:=a - b*a.fdiv b);have h2:=fB (a:=b) (b:=a - b*a.fdiv b);have h3:=Int.dvd_add h2 (lZ (c:=a.fdiv b) h1);rwa [Int.sub_add_cancel] at h3
 ·apply Li
  ·exact fb ..
  ·exact Int.dvd_sub (fB ..) (lZ (fb ..))
theorem KL (a b:Int):Int.gcd b (a % b)=Int.gcd a b:=by
 rw[Int.emod_def,ko a b];apply Nat.dvd_antisymm
 ·apply Li
  ·exact fb ..
  ·have h1:=fb (a:=b) (b:=a - b*(a / b));have h2:=fB (a:=b) (b:=a - b*(a / b));have h3:=Int.dvd_add h2 (lZ (c:=a / b) h1);rwa [Int.sub_add_cancel] at h3
 ·apply Li
  ·exact fb ..
  ·exact Int.dvd_sub (fB ..) (lZ (fb ..))
theorem MJ (a b:Int) (h:b≠0):(a.fmod b).natAbs < b.natAbs:=by
 rcases Int.lt_or_gt_of_ne h with h | h
 ·have e:a.fmod b=-((-a).fmod (-b)):=by
   have:=Int.neg_fmod_neg (-a) (-b);simp only[Int.neg_neg] at this;exact this
  have h1:=Int.fmod_nonneg_of_pos (-a) (b:=-b) (by lia);have h2:=Int.fmod_lt_of_pos (-a) (b:=-b) (by lia)
  lia
 ·have h1:=Int.fmod_nonneg_of_pos a h;have h2:=Int.fmod_lt_of_pos a h
  lia
def g (t b:Int):Int:=(Int.gcd t b:Int)
def lo (t b:Int):Int:=t / g t b
def hi (t b:Int):Int:=b / g t b
theorem Ae {t b:Int} (h:b≠0):0 < g t b:=by
 unfold g;have:0 < Int.gcd t b:=Lr _ h
 lia
theorem z8 (t b:Int):lo t b*g t b=t:=Int.ediv_mul_cancel (fb ..)
theorem wW (t b:Int):hi t b*g t b=b:=Int.ediv_mul_cancel (fB ..)
theorem Dx {t b:Int} (h:0 < b):0 < hi t b:=by
 have h1:=Ae (t:=t) (b:=b) (by lia);have h2:=wW t b;by_cases h3:0 < hi t b
 ·exact h3
 ·have:hi t b*g t b<=0:=Int.mul_nonpos_of_nonpos_of_nonneg (by lia) (by lia)
  lia
theorem z6 {t b:Int} (h:b≠0):Int.gcd (lo t b) (hi t b)=1:=by
 have h1:=Ae (t:=t) h;have e:=Int.gcd_mul_right (lo t b) (g t b) (hi t b);rw[z8,wW] at e;have e2:(g t b).natAbs=Int.gcd t b:=by unfold g;simp
 rw[e2] at e;have h2:0 < Int.gcd t b:=Lr _ h;exact Nat.eq_of_mul_eq_mul_right h2 (by rw[<- e,pS])
theorem z7 (t b : Int) : lo t b * b = t * hi t b := by
  have h1 := z8 t b;have h2 := wW t b
  calc lo t b * b = lo t b * (hi t b * g t b) := by rw [h2]
    _ = (lo t b * g t b) * hi t b := by rw [fO (hi t b), <- dN]
    _ = t * hi t b := by rw [h1]
theorem o9 {a b c:Int} (h:Int.gcd a b=1) (hd:a∣b*c):a∣c:=by
 have h1:a.natAbs∣b.natAbs*c.natAbs:=by rw[<- cy];exact dM.mpr hd
 have h2:Nat.Coprime a.natAbs b.natAbs:=h;exact dM.mp (h2.dvd_of_dvd_mul_left h1)
theorem uniq {a b c d:Int} (hb:0 < b) (hd:0 < d) (h1:Int.gcd a b=1) (h2:Int.gcd c d=1) (e:a*d=c*b):a=c/\b=d:=by
 have e1:b∣d:=by
  have:b∣a*d:=⟨c,by rw[e,fO]⟩;exact o9 (by rw[ko];exact h1) this
 have e2:d∣b:=by
  have:d∣c*b:=⟨a,by rw[<- e,fO]⟩;exact o9 (by rw[ko];exact h2) this
 have e3:b=d:=Int.dvd_antisymm (by lia) (by lia) e1 e2;subst e3;exact ⟨tJ (by lia) e,rfl⟩
theorem ON {t b c d : Int} (hb : 0 < b) (hd : 0 < d) (h2 : Int.gcd c d = 1) (e : t * d = c * b) : lo t b = c /\ hi t b = d := by
  refine uniq (Dx hb) hd (z6 (by lia)) h2 ?_;have h := z7 t b;have hb' : b ≠ 0 := by lia
  apply tJ hb'
  calc lo t b * d * b = lo t b * b * d := by rw [dN, fO d b, <- dN]
    _ = t * hi t b * d := by rw [h]
    _ = t * d * hi t b := by rw [dN, fO (hi t b), <- dN]
    _ = c * b * hi t b := by rw [e]
    _ = c * hi t b * b := by rw [dN, fO b, <- dN]
theorem OO {a b:Int} (hb:0 < b) (h:Int.gcd a b=1):lo a b=a/\hi a b=b:=ON hb hb h rfl
theorem mY {a b:Int} (h:b≠0):a.natAbs<=(a*b).natAbs:=by
 rw[cy];exact dh _ (Int.natAbs_pos.mpr h)
theorem lo_le {t b:Int} (h:b≠0):(lo t b).natAbs<=t.natAbs:=by
 have:=mY (a:=lo t b) (b:=g t b) (by have:=Ae (t:=t) h;lia);rwa [z8] at this
theorem Nx {t b:Int} (h:b≠0):(hi t b).natAbs<=b.natAbs:=by
 have:=mY (a:=hi t b) (b:=g t b) (by have:=Ae (t:=t) h;lia);rwa [wW] at this
def Sz (k:Nat) (x:Int):Prop:=x.natAbs < 2^k
theorem Sz.mono {j k:Nat} {x:Int} (h:Sz j x) (l:j<=k):Sz k x:=bI h (au (by decide) l)
theorem Sz.mul {j k:Nat} {x y:Int} (h1:Sz j x) (h2:Sz k y):Sz (j+k) (x*y):=by
 unfold Sz at *
 rw[cy,aS];exact Nat.mul_lt_mul'' h1 h2
theorem Sz.neg {k:Nat} {x:Int} (h:Sz k x):Sz k (-x):=by unfold Sz at *;rw[mJ];exact h
theorem Sz.le {k:Nat} {x y:Int} (h:Sz k y) (l:x.natAbs<=y.natAbs):Sz k x:=br l h
theorem Sz.hi {k:Nat} {t b:Int} (h:Sz k b) (hb:b≠0):Sz k (hi t b):=h.le (Nx hb)
end Nm
namespace L2
open PySem PySem.Spec PyProof.Rows
structure Bk (env:Env) (scope:Scope) (own capN:List Str):Prop where
 kind:scope.kind=.function
 locs:∀y∈scope.names,y.2=.local->scope.names.lookup y.1=some .local
 ownk:∀x∈own,scope.names.lookup x=some .local\/scope.names.lookup x=some .cell
 cells:∀y∈scope.names,y.2=.cell->y.1∈own/\y.1∉capN
 frees:∀y∈scope.names,y.2=.free->y.1∈capN/\y.1∉own
 capf:∀x∈capN,scope.names.lookup x=some .free
 caps:∀x∈capN,env.kindOf x=some .cell\/env.kindOf x=some .free
def Q3 (scope:Scope) (own capN:List Str):Bool :=
 decide (scope.kind=.function) && scope.names.all (λy=>decide (y.2=.local->scope.names.lookup y.1=some .local) && decide (y.2=.cell->y.1∈own/\y.1∉capN) && decide (y.2=.free->y.1∈capN/\y.1∉own)) &&
 own.all (λx=>decide (scope.names.lookup x=some .local\/scope.names.lookup x=some .cell)) && capN.all λx=>decide (scope.names.lookup x=some .free)
def BY (env:Env):List Str->Bool
 | []=>true
 | x :: r=>(match env.kindOf x with | some .cell=>true | some .free=>true | _=>false) && BY env r
theorem EZ {env:Env}:∀{capN:List Str},BY env capN=true->∀x∈capN,env.kindOf x=some .cell\/env.kindOf x=some .free
 | [],_,_,h=>nomatch h
 | y :: r,h,x,hx=>by
  unfold BY at h;rw[dY] at h;rcases aB.mp hx with e | hx
  ·subst e;have h1:=h.1
   split at h1
   ·rename_i e;exact .inl e
   ·rename_i e;exact .inr e
   ·cases h1
  ·exact EZ h.2 x hx
theorem Bk.of {env:Env} {scope:Scope} {own capN:List Str} (h1:Q3 scope own capN=true) (h2:BY env capN=true):Bk env scope own capN:=by
 unfold Q3 at h1;rw[dY,dY,dY,oi,oi,oi] at h1;obtain ⟨⟨⟨a1,a2⟩,a3⟩,a4⟩:=h1
 have a2':∀y∈scope.names,(y.2=.local->scope.names.lookup y.1=some .local)/\(y.2=.cell->y.1∈own/\y.1∉capN)/\(y.2=.free->y.1∈capN/\y.1∉own):=λy hy=>by
  have q:=a2 y hy;rw[dY,dY] at q;exact ⟨of_decide_eq_true q.1.1,of_decide_eq_true q.1.2,of_decide_eq_true q.2⟩
 exact ⟨of_decide_eq_true a1,λy hy=>(a2' y hy).1,λx hx=>of_decide_eq_true (a3 x hx),λy hy=>(a2' y hy).2.1,λy hy=>(a2' y hy).2.2,λx hx=>of_decide_eq_true (a4 x hx),EZ h2⟩
def d9 (env:Env):List (Str×NameKind)->List (Str×Addr)->List (Str×Addr)
 | [],acc=>acc
 | (n,k) :: r,acc=>if k == .free then d9 env r ((n,(env.cells.lookup n).getD 0) :: acc) else d9 env r acc
theorem iI (env:Env):∀(names:List (Str×NameKind)) (acc:List (Str×Addr)),d9 env names acc=d9 env names []++acc
 | [],_=>rfl
 | (n,k) :: r,acc=>by
  unfold d9
  split
  ·rw[iI env r (_ :: acc),iI env r [_],bV];rfl
  ·exact iI env r acc
theorem pA (env:Env):∀(names:List (Str×NameKind)) {x:Str} {c:Addr},(x,c)∈d9 env names []->(x,NameKind.free)∈names/\c=(env.cells.lookup x).getD 0
 | [],_,_,h=>nomatch h
 | (n,k) :: r,x,c,h=>by
  unfold d9 at h
  split at h
  ·rename_i hk
   have ek:k=.free:=by simpa using hk
   subst ek;rw[iI] at h;rcases aw.mp h with h | h
   ·have q:=pA env r h;exact ⟨bW _ q.1,q.2⟩
   ·have e:(x,c)=(n,(env.cells.lookup n).getD 0):=by simpa using h
    cases e;exact ⟨dk,rfl⟩
  ·have q:=pA env r h;exact ⟨bW _ q.1,q.2⟩
theorem jc {α:Type}:∀{l:List (Str×α)} {x:Str} {c:α},(x,c)∈l->∃d,l.lookup x=some d
 | (k,v) :: r,x,c,h=>by
  rw[kj];cases hb:x == k with
  | true=>exact ⟨v,rfl⟩
  | false =>
   rcases aB.mp h with e | h
   ·cases e;simp at hb
   ·exact jc h
theorem pB (env:Env):∀(names:List (Str×NameKind)) {x:Str},(x,NameKind.free)∈names->∃c,(x,c)∈d9 env names []
 | (n,k) :: r,x,h=>by
  unfold d9;rcases aB.mp h with e | h
  ·cases e;rw[if_pos (by decide),iI];exact ⟨_,bF _ dk⟩
  ·obtain ⟨c,q⟩:=pB env r h
   split
   ·rw[iI];exact ⟨c,dX _ q⟩
   ·exact ⟨c,q⟩
theorem Aq {scope : Scope} {env : Env} (h : ∀ y ∈ scope.names, y.2 = .free → ∃ c, env.cells.lookup y.1 = some c) : closureFor scope env = pure (d9 env scope.names []) := by
  have gen : ∀ (names : List (Str × NameKind)) (acc : List (Str × Addr)) (f : Str × NameKind → List (Str × Addr) → Sem (ForInStep (List (Str × Addr)))),
      (∀ name kind cells, f (name, kind) cells = if kind == .free then (do let a <- cellOf env name; pure (.yield ((name, a) :: cells))) else pure (.yield cells)) →
      (∀ y ∈ names, y.2 = .free → ∃ c, env.cells.lookup y.1 = some c) → forIn names acc f = pure (d9 env names acc) := by
    intro names
    induction names with
    | nil => intro acc f hf _; rw [Cq]; rfl
    | cons y r ih =>
      intro acc f hf hh;obtain ⟨n, k⟩ := y;rw [Lq, hf];unfold d9;by_cases hk : (k == NameKind.free) = true
      · obtain ⟨c, hc⟩ := hh (n, k) dk (by simpa using hk);have hc' : env.cells.lookup n = some c := hc;have e : cellOf env n = pure c := by unfold cellOf; rw [hc']
        rw [if_pos hk, if_pos hk, e, hc'];simp only [pure_bind, Option.getD_some];exact ih _ f hf λy hy => hh y (bW _ hy)
      · rw [if_neg hk, if_neg hk];simp only [pure_bind];exact ih _ f hf λy hy => hh y (bW _ hy)
  simp only [closureFor];rw [gen scope.names [] _ (λname kind cells => by cases hkc : kind == NameKind.free <;> simp [hkc]) h];rfl

theorem fI:∀(names:List (Str×NameKind)) (n:Nat) (acc:List (Str×Addr)),cellsFrom n names acc=cellsFrom n names []++acc
 | [],_,_=>rfl
 | (x,k) :: r,n,acc=>by
  unfold cellsFrom
  split
  ·rw[fI r (n+1) (_ :: acc),fI r (n+1) [_],bV];rfl
  ·exact fI r n acc
theorem kg:∀(names:List (Str×NameKind)) (n:Nat) {x:Str} {c:Addr},(x,c)∈cellsFrom n names []->(x,NameKind.cell)∈names
 | [],_,_,_,h=>nomatch h
 | (y,k) :: r,n,x,c,h=>by
  unfold cellsFrom at h
  split at h
  ·rename_i hk
   have ek:k=.cell:=by simpa using hk
   subst ek;rw[fI] at h;rcases aw.mp h with h | h
   ·exact bW _ (kg r _ h)
   ·have e:(x,c)=(y,n):=by simpa using h
    cases e;exact dk
  ·exact bW _ (kg r _ h)
def xa (env:Env) (scope:Scope) (C:Addr):Env :=
 { scope:=relabel scope env,locals:=C,globals:=env.globals,cells:=cellsFrom (C+1) scope.names (d9 env scope.names []),qual:=env.qual,func:=none,code:=env.code,frame:=env.frame,builtins:=env.builtins }
theorem EE {M:Model} {A:Around} {E:Value->Shared->Prop} {s:Shared} {scope:Scope} {g:Addr} {cl:List (Str×Addr)} {qual:Str} {env:Env} {Q:Env->Shared->Prop}
  (h:Q (newEnv scope s.heap.objs.size g (cellsFrom (s.heap.objs.size+1) scope.names cl) qual none .none (some env) builtinsNs) { s with heap:=pushCells (s.heap.push { cls:=.type "dict",data:=.dict #[] }) scope.names }) :
  wpAny M A (newFunctionEnv scope g cl [] qual none .none (some env)) Q E s:=by
 simp only[newFunctionEnv,Option.isSome_some,if_true];refine wpAny_bind (wpAny_alloc ?_);refine wpAny_bind (wpAny_layCells _ (λname kind cells=>by cases hkc:kind == NameKind.cell <;> simp [hkc]) _ _ _ _ ?_);rw[show ({ s with heap:=s.heap.push { cls:=.type "dict",data:=.dict #[] } }:Shared).heap.objs.size=s.heap.objs.size+1 from Heap.size_push ..];rw[Cq];exact wpAny_bind (wpAny_pure (wpAny_pure h))
theorem uI {scope:Scope} {env:Env} {x:Str}:∀{k:NameKind},(relabel scope env).names.lookup x=some k->∃k0,scope.names.lookup x=some k0/\(k=k0\/(k0=.free/\k=.cell)):=by
 unfold relabel;show ∀{k:NameKind},(scope.names.map λ(n,k)=>if (k == NameKind.free && env.scope.kind == .function && env.kindOf n == some .cell) then (n,NameKind.cell) else (n,k)).lookup x=some k->_
 induction scope.names with
 | nil=>intro k h;cases h
 | cons y r ih =>
  intro k h;obtain ⟨n,k1⟩:=y;rw[ij,kj] at h;rw[kj];by_cases hc:(k1 == NameKind.free && env.scope.kind == .function && env.kindOf n == some .cell)=true
  ·simp only[hc,if_true] at h;cases hb:x == n with
   | true =>
    simp only[hb] at h
    have e1:k1=.free:=by
     rw[dY,dY] at hc;simpa using hc.1.1
    cases h;exact ⟨k1,rfl,.inr ⟨e1,rfl⟩⟩
   | false=>simp only[hb] at h;exact ih h
  ·have hc':(k1 == NameKind.free && env.scope.kind == .function && env.kindOf n == some .cell)=false:=by simpa using hc
   simp only[hc',iW,if_false] at h;cases hb:x == n with
   | true=>simp only[hb] at h;cases h;exact ⟨_,rfl,.inl rfl⟩
   | false=>simp only[hb] at h;exact ih h
theorem Et {scope:Scope} {env:Env} {x:Str}:scope.names.lookup x=some .free->(relabel scope env).names.lookup x=some .cell\/(relabel scope env).names.lookup x=some .free:=by
 unfold relabel;show _->(scope.names.map λ(n,k)=>if (k == NameKind.free && env.scope.kind == .function && env.kindOf n == some .cell) then (n,NameKind.cell) else (n,k)).lookup x=some .cell\/(scope.names.map λ(n,k)=>if (k == NameKind.free && env.scope.kind == .function && env.kindOf n == some .cell) then (n,NameKind.cell) else (n,k)).lookup x=some .free
 induction scope.names with
 | nil=>intro h;cases h
 | cons y r ih =>
  intro h;obtain ⟨n,k1⟩:=y;rw[kj] at h;rw[ij];by_cases hc:(k1 == NameKind.free && env.scope.kind == .function && env.kindOf n == some .cell)=true
  ·simp only[hc,if_true,kj];cases hb:x == n with
   | true=>exact .inl rfl
   | false=>rw[hb] at h;exact ih h
  ·have hc':(k1 == NameKind.free && env.scope.kind == .function && env.kindOf n == some .cell)=false:=by simpa using hc
   simp only[hc',iW,if_false,kj];cases hb:x == n with
   | true=>rw[hb] at h;cases h;exact .inr rfl
   | false=>rw[hb] at h;exact ih h
structure Bz where
 s:Shared
 H:Hp
 fp:List Addr
 C:Addr
def yC (X:Cx) (own capN:List Str) (scope:Scope) (Z:Bz):Cx where
 prog:=X.prog
 w:=X.w
 K:=X.K
 mg:=X.mg
 base:=X.base
 A:=X.A
 N:=own++capN
 s₀:=Z.s
 H₀:=Z.H
 env:=xa X.env scope Z.C
 outer:=X.stack
 stack:=X.stack
 ex:=Z.fp
 fn:=λx=>own.contains x
 calm:=true
 pn:=[]
 xe:=λ_ _=>False
section
variable {X:Cx} {pins:List (Addr×Obj)} {σ:St} {own capN:List Str} {scope:Scope} {Z:Bz}
theorem ji (B:Bk X.env scope own capN) (I:Inv X pins σ Z.H Z.s) {x:Str} {c:Addr} (h:(xa X.env scope Z.C).cells.lookup x=some c) :
  (x∈own/\(x,c)∈cellsFrom (Z.C+1) scope.names [])\/(x∈capN/\x∉own/\X.env.cells.lookup x=some c):=by
 have h':(cellsFrom (Z.C+1) scope.names (d9 X.env scope.names [])).lookup x=some c:=h;rw[fI] at h';rcases aw.mp (mem_of_lookup h') with m | m
 ·exact .inl ⟨(B.cells _ (kg _ _ m) rfl).1,m⟩
 ·obtain ⟨m1,e⟩:=pA _ _ m;obtain ⟨q1,q2⟩:=B.frees _ m1 rfl;obtain ⟨d,hd⟩:=I.ok.has x (B.caps x q1);rw[hd] at e;exact .inr ⟨q1,q2,by rw[hd,e];rfl⟩
theorem MT (B:Bk X.env scope own capN) (I:Inv X pins σ Z.H Z.s) {x:Str} {c:Addr} (hx:x∈capN) (h:X.env.cells.lookup x=some c):(xa X.env scope Z.C).cells.lookup x=some c:=by
 have hm:(x,NameKind.free)∈scope.names:=mem_of_lookup (B.capf x hx);obtain ⟨c1,m1⟩:=pB X.env scope.names hm
 have hs:∃d,(xa X.env scope Z.C).cells.lookup x=some d:=by
  show ∃d,(cellsFrom (Z.C+1) scope.names (d9 X.env scope.names [])).lookup x=some d
  rw[fI];exact jc (bF _ m1)
 obtain ⟨d,hd⟩:=hs;rcases ji B I hd with ⟨q,m⟩ | ⟨_,_,q⟩
 ·exact absurd hx (B.cells _ (kg _ _ m) rfl).2
 ·rw[h] at q;cases q;exact hd
theorem IB (h:Heap) (C:Addr) (hC:h.objs.size=C+1) (names:List (Str×NameKind)):CellsOk (pushCells h names) (C+1) (cellsFrom (C+1) names []):=by
 have q:=cellsFrom_ok names h (C+1) [] ⟨λ_ _ hm=>(nomatch hm),List.Pairwise.nil⟩ (by rw[hC];exact aj _);rwa [hC] at q
theorem DH (I:Inv X pins σ Z.H Z.s) {x:Str} {c:Addr} (h:X.env.cells.lookup x=some c):@LT.lt Nat instLTNat c Z.s.heap.objs.size:=by
 obtain ⟨v,q⟩:=I.cell x c h;exact q.lt
theorem O3 {h1:Heap} (I:Inv X pins σ Z.H Z.s) (hc:X.calm=true) (B:Bk X.env scope own capN) (hC:Z.s.heap.objs.size<=Z.C) (hcl:CellsOk h1 (Z.C+1) (cellsFrom (Z.C+1) scope.names []))
  (hf:∀b∈Z.fp,jV X pins Z.H b/\@LT.lt Nat instLTNat b Z.s.heap.objs.size):(yC X own capN scope Z).Ok:=by
 refine ⟨I.ok.mod,B.kind,I.ok.glob,I.ok.blt,hC,λx y c h1 h2=>?_,λx hx=>?_,λx c hx h=>?_,λ_=>I.ok.hd hc,I.ok.frames,.inl rfl,λb hb=>⟨?_,λx c h=>?_⟩,I.bs,ai I.ok.bsz I.sz,λb o e hb=>?_,λb hb hz=>?_,I.stack,I.stkFree⟩
 ·rcases ji B I h1 with ⟨q1,m1⟩ | ⟨q1,n1,m1⟩ <;> rcases ji B I h2 with ⟨q2,m2⟩ | ⟨q2,n2,m2⟩
  ·exact name_of_addr hcl.apart m1 m2
  ·have l1:=(hcl.empty _ _ m1).2;have l2:=DH I m2
   lia
  ·have l1:=(hcl.empty _ _ m2).2;have l2:=DH I m1
   lia
  ·exact I.ok.inj x y c m1 m2
 ·have hx':(relabel scope X.env).names.lookup x=some .cell\/(relabel scope X.env).names.lookup x=some .free:=hx
  have hk:scope.names.lookup x=some .cell\/scope.names.lookup x=some .free:=by
   rcases hx' with h | h
   ·obtain ⟨k0,e,q | ⟨q,_⟩⟩:=uI h
    ·exact .inl (by rw[e,<- q])
    ·exact .inr (by rw[e,q])
   ·obtain ⟨k0,e,q | ⟨_,q⟩⟩:=uI h
    ·exact .inr (by rw[e,<- q])
    ·cases q
  show ∃c,(cellsFrom (Z.C+1) scope.names (d9 X.env scope.names [])).lookup x=some c
  rcases hk with h | h
  ·exact Pp.mp (yQ scope.names (Z.C+1) _ (.inl h))
  ·obtain ⟨c,m⟩:=pB X.env scope.names (mem_of_lookup h);rw[fI];exact jc (bF _ m)
 ·have ho:x∈own:=by have hx':own.contains x=true:=hx;simpa using hx'
  rcases ji B I h with ⟨_,m⟩ | ⟨_,n,_⟩
  ·have:=(hcl.empty _ _ m).2;have hC':Z.s.heap.objs.size<=Z.C:=hC;show Z.s.heap.objs.size<=c
   lia
  ·exact absurd ho n
 ·intro e;have e':@Eq Nat b Z.C:=e;have:=(hf b hb).2
  lia
 ·have l:=(hf b hb).2;rcases ji B I h with ⟨_,m⟩ | ⟨_,_,m⟩
  ·intro e;have e':@Eq Nat c b:=e;have:=(hcl.empty _ _ m).2
   lia
  ·exact (hf b hb).1.2.2.2.2.1 x c m
 ·obtain ⟨_,_,_,f3,_⟩:=(hf b hb).1;rcases f3 with f3 | f3
  ·exact I.ok.noex b o e f3
  ·exact absurd (bI (Heap.lt_size e) (ai I.ok.bsz f3)) (eo _)
 ·obtain ⟨_,f1,f2,_⟩:=(hf b hb).1;rcases aB.mp (I.stkSub b hz) with e | e
  ·exact f1 e
  ·exact f2 e
def Jf (k:Nat) (cap:List Nat) (σ:St):St:=List.replicate k none++cap.map λj=>(σ[j]?).join
def yp (X:Cx) (capN:List Str) (cap:List Nat):Prop:=cap.map (λj=>X.N[j]?)=capN.map some
theorem yp.get {cap:List Nat} (h:yp X capN cap) {i:Nat} {x:Str} (e:capN[i]?=some x):∃j,cap[i]?=some j/\X.N[j]?=some x:=by
 have q:=congrArg (λl=>l[i]?) h;simp only[aL,e,Option.map_some] at q;cases hc:cap[i]? with
 | none=>rw[hc] at q;cases q
 | some j=>rw[hc] at q;exact ⟨j,rfl,by simpa using q⟩
theorem E2 {cap:List Nat} {h':Heap} {m:Str->Option Value} (I:Inv X pins σ Z.H Z.s) (B:Bk X.env scope own capN) (hcap:yp X capN cap)
  (kc:∀x c,X.env.cells.lookup x=some c->∀v,Z.s.heap.IsCell c v->h'.IsCell c v) {i:Nat} {x:Str} {v:V} (e1:(own++capN)[i]?=some x) (e2:(Jf own.length cap σ)[i]?=some (some v)) :
  ∃u,RelV v u/\Look (xa X.env scope Z.C) h' m x u:=by
 have hi:own.length<=i:=by
  by_cases hi:own.length<=i
  ·exact hi
  ·exfalso
   unfold Jf at e2;rw[bu (by simpa using hi),fA] at e2
   split at e2 <;> cases e2
 rw[a9 hi] at e1;unfold Jf at e2;rw[a9 (by simpa using hi),aO,aL] at e2;obtain ⟨j,hj,hN⟩:=hcap.get e1;rw[hj] at e2;have e3:(σ[j]?).join=some v:=by simpa using e2
 have e4:σ[j]?=some (some v):=by
  cases q:σ[j]? with
  | none=>rw[q] at e3;cases e3
  | some o=>rw[q] at e3;simp at e3;rw[e3]
 have hx:x∈capN:=ax e1;have hk:=B.caps x hx;obtain ⟨m0,_,hl⟩:=I.loc;obtain ⟨u,r,l⟩:=hl j x v hN e4 (.inr hk);refine ⟨u,r,.inr ⟨Et (B.capf x hx),?_⟩⟩;rcases l with ⟨hk2,_⟩ | ⟨_,c,hc,z⟩
 ·rcases hk with hk | hk
  ·rw[hk] at hk2;cases hk2
  ·rw[hk] at hk2;cases hk2
 ·exact ⟨c,MT B I hx hc,kc x c hc _ z⟩
theorem Qz (I:Inv X pins σ Z.H Z.s) {b:Addr} (h:b∈Jh X.stack):@LT.lt Nat instLTNat b Z.s.heap.objs.size:=by
 obtain ⟨_,o,ho,_⟩:=I.stack.mem h;exact Heap.lt_size ho
theorem MR {cap:List Nat} {h1:Heap} {D:Addr} {oD:Obj} {t1:Nat} (I:Inv X pins σ Z.H Z.s) (hc:X.calm=true) (B:Bk X.env scope own capN) (hcap:yp X capN cap) (hC:Z.s.heap.objs.size<=Z.C)
  (hcl:CellsOk h1 (Z.C+1) (cellsFrom (Z.C+1) scope.names [])) (hf:∀b∈Z.fp,jV X pins Z.H b/\@LT.lt Nat instLTNat b Z.s.heap.objs.size)
  (hk:∀b o,Z.s.heap.get? b=some o->h1.get? b=some o) (hn:h1.Ns Z.C λ_=>none) (hD:Z.s.heap.objs.size<=D) (hDC:D≠Z.C) (hoD:h1.get? D=some oD) (hdD:∀v,oD.data≠.cell v) :
  Inv (yC X own capN scope Z) [(D,oD)] (Jf own.length cap σ) Z.H { Z.s with heap:=h1,toks:=t1 }:=by
 refine ⟨O3 I hc B hC hcl hf,rfl,I.bare,Un.kept hk,⟨_,hn,λi x v e1 e2 _=>E2 I B hcap (λx c _ v z=>z.keeps hk) e1 e2⟩,λx c h=>?_,I.hok.fresh hC,λx c h=>?_,λp hp=>?_,I.hok.kept hk,?_⟩
 ·rcases ji B I h with ⟨_,m⟩ | ⟨_,_,m⟩
  ·exact ⟨none,(hcl.empty _ _ m).1⟩
  ·obtain ⟨v,q⟩:=I.cell x c m;exact ⟨v,q.keeps hk⟩
 ·rcases ji B I h with ⟨_,m⟩ | ⟨_,_,m⟩
  ·exact I.hok.fresh (by have:=(hcl.empty _ _ m).2;lia)
  ·exact I.freeC x c m
 ·have e:p=(D,oD):=by simpa [yC] using hp
  subst e;exact ⟨hoD,I.hok.fresh hD,hDC,λz=>eo _ (bI (Qz I z) hD),hdD⟩
 ·show (Jf own.length cap σ).length=(own++capN).length
  have:=congrArg List.length hcap;simp only[ar] at this;unfold Jf;simp [this]
theorem Lc {cap:List Nat} {pins':List (Addr×Obj)} {σ':St} {H':Hp} {s':Shared} (I:Inv X pins σ Z.H Z.s) (B:Bk X.env scope own capN) (hcap:yp X capN cap) (hf:∀b∈Z.fp,jV X pins Z.H b/\@LT.lt Nat instLTNat b Z.s.heap.objs.size)
  (J:Inv (yC X own capN scope Z) pins' σ' H' s'):Inv (yC X own capN scope Z) pins' (Jf own.length cap σ) H' s':=by
 refine ⟨J.ok,J.os,J.bare,J.base,?_,J.cell,J.free,J.freeC,J.pin,J.hok,?_⟩
 ·obtain ⟨m,hn,_⟩:=J.loc;refine ⟨m,hn,λi x v e1 e2 _=>E2 I B hcap (λx c hx v z=>?_) e1 e2⟩;obtain ⟨o,ho,hd⟩:=z;obtain ⟨sl,e⟩:=J.base.any ho (I.freeC x c hx) λz=>(hf c z).1.2.2.2.2.1 x c hx rfl
  exact ⟨_,e,hd⟩
 ·show (Jf own.length cap σ).length=(own++capN).length
  have:=congrArg List.length hcap;simp only[ar] at this;unfold Jf;simp [this]
theorem MS {σ':St} {H':Hp} {s':Shared} {D:Addr} {its:List Value} {n:Nat} {ys:List V} (I:Inv X pins σ Z.H Z.s) (hf:∀b∈Z.fp,jV X pins Z.H b/\@LT.lt Nat instLTNat b Z.s.heap.objs.size) (hD:Z.s.heap.objs.size<=D)
  (J:Inv (yC X own capN scope Z) [(D,{ cls:=.type "list",data:=.seq its.toArray n })] σ' H' s') (r:cO ys its) (hz:ys.length<=sizeLine) :
  Inv X pins σ (upd H' D (.lst ys)) s':=by
 have pD:=J.pin (D,{ cls:=.type "list",data:=.seq its.toArray n }) (by simp);have ne:∀{b:Addr} {o:Obj},Z.s.heap.get? b=some o->b≠D:=λe z=>by subst z;exact eo _ (bI (Heap.lt_size e) hD)
 have nt:∀{b:Addr} {u:HO},H' b=some u->b≠D:=λe z=>by rw[z,pD.2.1] at e;cases e
 refine I.call' (ch:=Z.fp) J.os ⟨J.base.keep,J.base.slot,λb o e h hx=>?_,J.base.there,λb xs e=>?_,λb o u e=>?_,λb ps e=>?_⟩ (λb u e=>?_) J.bare λb hb=>?_
 ·rw[bG (ne e)];exact J.base.free b o e h hx
 ·have q:=J.base.tups b xs e;rw[bG (nt q)];exact q
 ·have q:=J.base.frzs b o u e;rw[bG (nt q)];exact q
 ·obtain ⟨more,q⟩:=J.base.tbls b ps e;exact ⟨more,by rw[bG (nt q)];exact q⟩
 ·by_cases hb:b=D
  ·subst hb;rw[aK] at e;cases e;exact ⟨hz,its,n,r,pD.1⟩
  ·rw[bG hb] at e;exact (J.hok b u e).stay (λc v _ q=>q) (λc q=>by rw[bG (nt q)];exact q) λc xs q=>by rw[bG (nt q)];exact q
 ·obtain ⟨_,f1,_,f3,f4,f5⟩:=(hf b hb).1;exact ⟨f3,f1,f4,f5⟩
end
theorem NT {α:Type} {t:Sem α} {Q Q':α->Shared->Prop} {M:Model} {A:Around} {E:Value->Shared->Prop} {s:Shared} (h:wpAny M A t Q (λ_ _=>False) s) (hQ:∀a s,Q a s->Q' a s):wpAny M A t Q' E s :=
 wpAny_mono h hQ λ_ _ z=>False.elim z
theorem DF {prog : Program} {w : World} {A : Around} {R : Result → Shared → Prop} {s : Shared} {elt target iter : Expr} {ifs : List Expr} {scope : Scope} {pos : Pos} {it acc : Value} {env : Env} (I : Nat → Shared → Prop)
    (turn : ∀ (E : Value → Shared → Prop) n s, I n s → wpAny (model prog w) A (pyNext it) (λr s₁ => match r with
      | none => R (.ok .next) s₁
      | some v => wpAny (model prog w) A (letOwnedTupleGo target it v) (λ_ s₂ => wpAny (model prog w) A (assign target env v) (λ_ s₃ =>
          wpAny (model prog w) A (forIn ifs true λc r => if r = true then do let ok <- isTrue c env (eval c env); pure (ForInStep.yield ok) else pure (ForInStep.yield r)) (λok s₄ =>
            if ok = true then wpAny (model prog w) A (eval elt env) (λx s₅ => wpAny (model prog w) A (call (.builtin "list.append") [acc, x]) (λ_ s₆ => ∃ m, m < n /\ I m s₆) E s₅) E s₄
            else ∃ m, m < n /\ I m s₄) E s₃) E s₂) E s₁) E s)
    (n : Nat) (h : I n s) : codeAny (model prog w) A (.compLoop (.ListComp elt [⟨target, iter, ifs, 0⟩] scope pos) 0 it acc env) R s := by
  refine codeAny_loop rfl I (λn s hI => ?_) n h;show wpAny _ A ((compTurn (.ListComp elt [⟨target, iter, ifs, 0⟩] scope pos) 0 it acc env).onRaise (λx => do noteFrame x env; theTreesLotGoes x)) _ _ s
  refine wpAny_noted ?_;rw [compTurn_list];refine wpAny_bind (wpAny_standAt (wpAny_bind (wpAny_mono (turn _ n s hI) (λr s₁ h₁ => ?_) λ_ _ h' => h')));cases r with
  | none => exact wpAny_pure h₁
  | some v =>
    refine wpAny_bind (wpAny_mono h₁ (λ_ s₂ h₂ => wpAny_bind (wpAny_mono h₂ (λ_ s₃ h₃ => wpAny_bind (wpAny_mono h₃ (λok s₄ h₄ => ?_) λ_ _ h' => h')) λ_ _ h' => h')) λ_ _ h' => h');cases ok with
    | false => exact wpAny_pure ⟨rfl, h₄⟩
    | true =>
      exact wpAny_bind (wpAny_bind (wpAny_mono h₄ (λx s₅ h₅ => wpAny_bind (wpAny_mono h₅ (λ_ s₆ h₆ => wpAny_pure (wpAny_pure ⟨rfl, h₆⟩)) λ_ _ h' => h')) λ_ _ h' => h'))

def PF (X : Cx) (ifs : List Expr) (t : TT) : Prop :=
  ∀ (pins : List (Addr × Obj)) (s : Shared) (σ : St) (H : Hp) (Q : Bool → Hp → Prop), Inv X pins σ H s → t σ H Q →
    wpAny (model X.prog X.w) X.A (forIn ifs true λc r => if r = true then do let ok <- isTrue c X.env (eval c X.env); pure (ForInStep.yield ok) else pure (ForInStep.yield r)) (TP X pins σ Q) X.xe s
def Px:TT:=λ_ H Q=>Q true H
theorem cC {X:Cx}:PF X [] Px:=λ_ _ _ H _ I h=>wpAny_tests_nil ⟨H,I,h⟩
theorem OF {X:Cx} {c:Expr} {t:TT} (h:PT X c t):PF X [c] t:=λpins s σ H Q I hw=>wpAny_tests_one (h pins s σ H Q I hw)
def pG (σ₀:St) (g:TG) (tf:TT) (te:TE) (x:V) (H:Hp) (NY:V->Hp->Prop) (NN:Hp->Prop):Prop :=
 g x σ₀ H λσ2 H2=>tf σ2 H2 λb H3=>if b=true then te σ2 H3 NY else NN H3
def pR (J:It) (σ₀:St) (g:TG) (tf:TT) (te:TE) (Q:VK) (H1:Hp):Prop :=
 ∃W:Nat->Nat->List V->Hp->Prop,(∃m,W 0 m [] H1)/\∀i m ys H,W i m ys H →
  (J.stop i H/\ys.length<=sizeLine/\∀p,H p=none->Q (.ref p) (upd H p (.lst ys))) \/
  (J.go i H/\ys.length < sizeLine/\∃(NY:V->Hp->Prop) (NN:Hp->Prop),(∀y H',NY y H'->∃m',m' < m/\W (i+1) m' (ys++[y]) H')/\(∀H',NN H'->∃m',m' < m/\W (i+1) m' ys H') /\
   ∀x H',J.yld i H x H'->pG σ₀ g tf te x H' NY NN)
def D3 (wi:TI) (k:Nat) (cap:List Nat) (g:TG) (tf:TT) (te:TE):TE:=λσ H Q=>wi σ H λJ H1=>pR J (Jf k cap σ) g tf te Q H1
abbrev lobj (its:List Value) (n:Nat):Obj:={ cls:=.type "list",data:=.seq its.toArray n }
section
variable {X:Cx} {own capN:List Str} {cap:List Nat} {scope:Scope} {elt tg iter:Expr} {ifs:List Expr} {pos:Pos} {wi:TI} {g:TG} {tf:TT} {te:TE}
theorem BW {use:Option (Value->Sem Unit)} {Qe:Value->Shared->Prop} {fpos:Pos} (hc:X.calm=true) (B:Bk X.env scope own capN) (hcap:yp X capN cap)
  (hi:PI X tg iter wi) (hg:∀Z,PG (yC X own capN scope Z) tg g) (hf:∀Z,PF (yC X own capN scope Z) ifs tf) (he:∀Z,PE (yC X own capN scope Z) elt te)
  (hs:∀x,foldedSetIterable iter X.env x=pure x) {pins:List (Addr×Obj)} {s:Shared} {σ:St} {H:Hp} {Q:VK} (I:Inv X pins σ H s) (h:D3 wi own.length cap g tf te σ H Q)
  (fin:∀(D C:Addr) (s':Shared) (H':Hp),Inv X pins σ H' s'->jV X pins H' C->(∃m,s'.heap.Ns C m)->Q (.ref D) H'->compPost (model X.prog X.w) X.A X.xe use Qe (.ref D) C (.ok .next) s') :
  wpAny (model X.prog X.w) X.A (comprehension (.ListComp elt [⟨tg,iter,ifs,0⟩] scope pos) scope X.env fpos (newList []) false (eval iter X.env) use) Qe X.xe s:=by
 refine wpAny_comprehension_free (use:=use) rfl hs (Aq λy hy hk=>I.ok.has y.1 (B.caps _ (B.frees y hy hk).1)) B.kind B.locs ?_;refine gQ (hi pins s σ H _ I h) λv s1 h1=>gQ h1 λitv s2 h2=>?_
 obtain ⟨it,fp,tn,J,H2,e,I2,T,st2,f2,W,⟨m0,w0⟩,turn⟩:=h2;subst e;have hfp:∀b∈fp,jV X pins H2 b/\@LT.lt Nat instLTNat b s2.heap.objs.size:=λb hb=>⟨f2 b hb,let ⟨_,e,_⟩:=T.obj _ _ st2 b hb;Heap.lt_size e⟩
 refine wpAny_newObj_type (EE ?_) (bf _);have es:(s2.heap.push { cls:=.type "list",data:=.seq ([]:List Value).toArray }).objs.size=s2.heap.objs.size+1:=Heap.size_push ..
 show codeAny _ _ (.compStart _ 0 (.ref it) (.ref s2.heap.objs.size) { newEnv scope (s2.heap.push { cls:=.type "list",data:=.seq ([]:List Value).toArray }).objs.size X.env.globals (cellsFrom ((s2.heap.push { cls:=.type "list",data:=.seq ([]:List Value).toArray }).objs.size+1) scope.names (d9 X.env scope.names [])) X.env.qual none .none (some X.env) builtinsNs with scope:=relabel scope X.env })
  (compPost (model X.prog X.w) X.A X.xe use Qe (.ref s2.heap.objs.size) (s2.heap.push { cls:=.type "list",data:=.seq ([]:List Value).toArray }).objs.size)
  { s2 with heap:=pushCells ((s2.heap.push { cls:=.type "list",data:=.seq ([]:List Value).toArray }).push { cls:=.type "dict",data:=.dict #[] }) scope.names }
 have hk1:∀b o,(s2.heap.push { cls:=.type "list",data:=.seq ([]:List Value).toArray }).get? b=some o->(pushCells ((s2.heap.push { cls:=.type "list",data:=.seq ([]:List Value).toArray }).push { cls:=.type "dict",data:=.dict #[] }) scope.names).get? b=some o :=
  λb o e=>pushCells_keeps _ _ _ _ (Heap.get?_push_of_some _ e)
 have hk:∀b o,s2.heap.get? b=some o->(pushCells ((s2.heap.push { cls:=.type "list",data:=.seq ([]:List Value).toArray }).push { cls:=.type "dict",data:=.dict #[] }) scope.names).get? b=some o:=λb o e=>hk1 b o (Heap.get?_push_of_some _ e)
 have hoD:=hk1 s2.heap.objs.size _ (Heap.get?_push_size s2.heap (o:={ cls:=.type "list",data:=.seq ([]:List Value).toArray }) rfl);have hn:=(Heap.Ns.new (s2.heap.push { cls:=.type "list",data:=.seq ([]:List Value).toArray }) (.type "dict")).keeps (pushCells_keeps scope.names _);have hcl:=IB ((s2.heap.push { cls:=.type "list",data:=.seq ([]:List Value).toArray }).push { cls:=.type "dict",data:=.dict #[] }) (s2.heap.objs.size+1) (by rw[Heap.size_push,es]) scope.names;rw[es] at hn ⊢;generalize pushCells ((s2.heap.push { cls:=.type "list",data:=.seq ([]:List Value).toArray }).push { cls:=.type "dict",data:=.dict #[] }) scope.names=h3 at hk hoD hn hcl ⊢;have Z:Bz:=⟨s2,H2,fp,s2.heap.objs.size+1⟩
 have I3:Inv (yC X own capN scope ⟨s2,H2,fp,s2.heap.objs.size+1⟩) [(s2.heap.objs.size,lobj [] 0)] (Jf own.length cap σ) H2 { s2 with heap:=h3 } :=
  MR (Z:=⟨s2,H2,fp,s2.heap.objs.size+1⟩) (t1:=s2.toks) I2 hc B hcap (lW _) hcl hfp hk hn (aj _) (bZ (iM _)) hoD (λv z=>nomatch z)
 have st3:tn 0 h3:=T.keep _ _ _ st2 λb _ o e=>hk b o e
 have loop:codeAny (model X.prog X.w) X.A (.compLoop (.ListComp elt [⟨tg,iter,ifs,0⟩] scope pos) 0 (.ref it) (.ref s2.heap.objs.size) (xa X.env scope (s2.heap.objs.size+1))) (compPost (model X.prog X.w) X.A X.xe use Qe (.ref s2.heap.objs.size) (s2.heap.objs.size+1)) { s2 with heap:=h3 }:=by
  refine DF (λm s'=>∃i ys σ' H' its n,Inv (yC X own capN scope ⟨s2,H2,fp,s2.heap.objs.size+1⟩) [(s2.heap.objs.size,lobj its n)] σ' H' s'/\tn i s'.heap/\(∀b∈fp,H' b=none)/\cO ys its/\W i m ys H') ?_ m0
   ⟨0,[],_,H2,[],0,I3,st3,λb hb=>(f2 b hb).1,.nil,w0⟩
  rintro E n s4 ⟨i,ys,σ4,H4,its,k,I4,st4,fr4,rv,w4⟩
  have fpo:∀{pp:List (Addr×Obj)} {H':Hp},(∀p∈pp,p.1=s2.heap.objs.size)->(∀b∈fp,H' b=none)->∀b∈fp,jV (yC X own capN scope ⟨s2,H2,fp,s2.heap.objs.size+1⟩) pp H' b:=λ{pp H'} hpp hn b hb=>by
   obtain ⟨e1,e2⟩:=I4.ok.exf b hb;refine ⟨hn b hb,e1,I4.ok.exfs b hb,.inl hb,e2,λp hp=>?_⟩;have hp':p∈pp:=by simpa [yC] using hp
   have l:=(hfp b hb).2;rw[hpp p hp'];exact λz=>eo _ (by rw[<- z] at l;exact l)
  have pinD:∀{its:List Value} {n:Nat},∀p∈[(s2.heap.objs.size,lobj its n)],p.1=s2.heap.objs.size:=λp hp=>by simp at hp;rw[hp]
  rcases turn i n ys H4 w4 with ⟨stop,hz,q⟩ | ⟨go,hlt,NY,NN,hNY,hNN,step⟩
  ·refine gQ (T.done (yC X own capN scope ⟨s2,H2,fp,s2.heap.objs.size+1⟩) rfl rfl rfl rfl i _ s4 σ4 H4 E I4 (fpo pinD fr4) st4 stop) λr s5 ⟨hr,I5⟩=>?_
   subst hr;have pD:=I5.pin (s2.heap.objs.size,lobj its k) (by simp);have I6:=MS (Z:=⟨s2,H2,fp,s2.heap.objs.size+1⟩) I2 hfp (aj _) I5 rv hz
   have hC:upd H4 s2.heap.objs.size (.lst ys) (s2.heap.objs.size+1)=none:=by
    rw[bG (HU (iM _))];exact I5.free
   obtain ⟨m,hm,_⟩:=I5.loc;exact fin _ _ s5 _ I6 (I2.fpOk (lW _) hC) ⟨m,hm⟩ (q _ pD.2.1)
  ·refine gQ (T.item (yC X own capN scope ⟨s2,H2,fp,s2.heap.objs.size+1⟩) rfl rfl rfl rfl i _ s4 σ4 H4 E I4 (fpo pinD fr4) st4 go) λr s5 ⟨u,hr,h5⟩=>?_
   subst hr;refine gQ h5 λ_ s6 ⟨x,H6,I6,r6,y6,st6,fr6⟩=>?_
   have I6':=(Lc (Z:=⟨s2,H2,fp,s2.heap.objs.size+1⟩) I2 B hcap hfp I6).pinned (fpo pinD fr6) (T.obj _ _ st6)
   have back:∀{σ7:St} {H7:Hp} {s7:Shared},Inv (yC X own capN scope ⟨s2,H2,fp,s2.heap.objs.size+1⟩) ([(s2.heap.objs.size,lobj its k)]++zL fp s6.heap) σ7 H7 s7 →
     Inv (yC X own capN scope ⟨s2,H2,fp,s2.heap.objs.size+1⟩) [(s2.heap.objs.size,lobj its k)] σ7 H7 s7/\tn (i+1) s7.heap/\∀b∈fp,H7 b=none:=λ{σ7 H7 s7} I7=>by
    refine ⟨I7.unpinned,T.keep _ _ _ st6 λb hb o e=>(I7.pin (b,o) (bF _ (bF _ (o6 hb e)))).1,λb hb=>?_⟩;obtain ⟨o,e,d⟩:=T.obj _ _ st6 b hb;exact (I7.pin (b,o) (bF _ (bF _ (o6 hb e)))).2.1
   refine NT (hg _ _ s6 _ H6 x u _ I6' r6 (step x H6 y6)) λ_ s7 ⟨σ7,H7,I7,q7⟩=>?_
   refine NT (hf _ _ s7 σ7 H7 _ I7 q7) λok s8 ⟨H8,I8,q8⟩=>?_
   cases ok with
   | false =>
    rw[if_neg bc] at q8 ⊢;obtain ⟨m',hm,w8⟩:=hNN H8 q8;obtain ⟨J1,J2,J3⟩:=back I8;exact ⟨m',hm,i+1,ys,σ7,H8,its,k,J1,J2,J3,rv,w8⟩
   | true =>
    rw[if_pos rfl] at q8 ⊢;refine NT (he _ _ s8 σ7 H8 _ I8 q8) λz s9 ⟨y,H9,I9,r9,q9⟩=>?_
    obtain ⟨J1,J2,J3⟩:=back I9;obtain ⟨m',hm,w9⟩:=hNY y H9 q9;have pD:=J1.pin (s2.heap.objs.size,lobj its k) (by simp);have hl:=rv.length;refine call_meets F.slot_list_append ⟨_,pD.1,rfl⟩ F.entry_list_append (F.args_list_append_2 _ _) (PySem.list_append s2.heap.objs.size its.toArray k z (by rw[aJ];lia)) ⟨pD.1,?_⟩;have e9:=ki pD.1 (λa=>a.push z);have e9':(its.toArray.push z)=(its++[z]).toArray:=by simp
    rw[e9'] at e9;obtain ⟨n',e9⟩:∃n',(s9.heap.update s2.heap.objs.size (Obj.mapSeq λa=>a.push z)).get? s2.heap.objs.size=some (lobj (its++[z]) n'):=⟨_,e9⟩
    have J4:Inv (yC X own capN scope ⟨s2,H2,fp,s2.heap.objs.size+1⟩) [] σ7 H9 { s9 with heap:=s9.heap.update s2.heap.objs.size (Obj.mapSeq λa=>a.push z),toks:=s9.toks } :=
     (J1.pins_of (pins':=[]) λp hp=>nomatch hp).turned (λb o hb e=>(Heap.get?_update_other s9.heap _ (Ne.symm hb)).trans e) pD.2.1 pD.2.2.1 (.inr (aj _)) (λx c hx z=>by
      rcases ji (Z:=⟨s2,H2,fp,s2.heap.objs.size+1⟩) B I2 hx with ⟨_,m⟩ | ⟨_,_,m⟩
      ·have:=(hcl.empty _ _ m).2;have z':@Eq Nat c s2.heap.objs.size:=z
       lia
      ·have:=DH (Z:=⟨s2,H2,fp,s2.heap.objs.size+1⟩) I2 m;rw[z] at this;exact eo _ this) λp hp=>by simp [yC] at hp
    have nfp:∀b∈fp,b≠s2.heap.objs.size:=λb hb z=>by have:=(hfp b hb).2;rw[z] at this;exact eo _ this
    refine ⟨m',hm,i+1,ys++[y],σ7,H9,its++[z],n',J4.pins_of λp hp=>?_,T.keep _ _ _ J2 λb hb o e=>(Heap.get?_update_other s9.heap _ (Ne.symm (nfp b hb))).trans e,J3,rv.append (.cons r9 .nil),w9⟩;have ep:p=(s2.heap.objs.size,lobj (its++[z]) n'):=by simpa using hp
    rw[ep];exact ⟨e9,pD.2.1,pD.2.2.1,pD.2.2.2.1,λv z=>nomatch z⟩
 exact codeAny_compStart_list loop (T.self _ _ _ _ _ st3 loop)
theorem cA (own capN:List Str) (cap:List Nat) (hi:PI X tg iter wi) (hg:∀Z,PG (yC X own capN scope Z) tg g) (hf:∀Z,PF (yC X own capN scope Z) ifs tf) (he:∀Z,PE (yC X own capN scope Z) elt te)
  (h1:Q3 scope own capN=true:=by decide +kernel) (h2:BY X.env capN=true:=by rfl) (hcap:yp X capN cap:=by rfl) (hc:X.calm=true:=by rfl) (hs:∀x,foldedSetIterable iter X.env x=pure x:=by intro _;rfl) :
  PE X (.ListComp elt [⟨tg,iter,ifs,0⟩] scope pos) (D3 wi own.length cap g tf te):=by
 intro pins s σ H Q I h;rw[eval_ListComp];refine BW (use:=none) hc (Bk.of h1 h2) hcap hi hg hf he hs I h λD C s' H' I' fC hm q=>?_
 obtain ⟨m,hm⟩:=hm;refine ⟨m,hm,λh' hs'=>?_⟩;obtain ⟨f0,f1,f2,f3,f4,f5⟩:=fC;exact ⟨.ref D,H',I'.turned (t':=s'.toks) (λb o hb e=>(hs'.2 b hb).trans e) f0 f1 f3 f4 f5,rfl,q⟩
theorem kN (i:Nat) (own capN:List Str) (cap:List Nat) {x:Str} {pos' spos:Pos} (hN:X.N.Nodup) (hi':X.N[i]?=some x) (hx:X.env.scope.names.lookup x=some .local) (hi:PI X tg iter wi) (hg:∀Z,PG (yC X own capN scope Z) tg g) (hf:∀Z,PF (yC X own capN scope Z) ifs tf) (he:∀Z,PE (yC X own capN scope Z) elt te)
  (h1:Q3 scope own capN=true:=by decide +kernel) (h2:BY X.env capN=true:=by rfl) (hcap:yp X capN cap:=by rfl) (hc:X.calm=true:=by rfl) (hs:∀x,foldedSetIterable iter X.env x=pure x:=by intro _;rfl)
  (hsw:swapsWith (.ListComp elt [⟨tg,iter,ifs,0⟩] scope pos) (some (.Name x pos')) spos.line X.env=pure true:=by rfl) :
  PS X (.Assign [.Name x pos'] (.ListComp elt [⟨tg,iter,ifs,0⟩] scope pos) spos) (LC (D3 wi own.length cap g tf te) (G5 i)):=by
 intro pins s σ H D I h;rw[exec_Assign_Name_used _ _ _ _ hsw];refine wpAny_bind (wpAny_standAt (wpAny_bind ?_));rw[arm_evalThenUse_ListComp];refine wpAny_bind (BW (Q:=λv H1=>D.nx (σ.set i (some v)) H1) (use:=some _) hc (Bk.of h1 h2) hcap hi hg hf he hs I h λL C s' H' I' fC hm q=>?_);obtain ⟨m,hm⟩:=hm;obtain ⟨f0,f1,f2,f3,f4,f5⟩:=fC;refine wpAny_assign_Name (A9 I' hN hi' (.inl hx) (v:=.ref L) rfl (λs'' I'' ⟨a,sb,ha⟩=>?_) (.inr hx))
 have hCa:C≠a:=by
  rcases ha with e | e
  ·rw[e];exact f1
  ·exact (f4 x a e).symm
 refine ⟨m,hm.at' λo e=>(sb.2 C hCa).trans e,λh' hs'=>?_⟩;have I3:=I''.turned (h':=h') (t':=s''.toks) (λb o hb e=>(hs'.2 b hb).trans e) f0 f1 f3 f4 f5;exact wpAny_pure (wpAny_pure ⟨_,H',I3,q⟩)
end
section
variable {K:FG9} {a:Addr} {xs:List V} {g:TG} {tf:TT} {te:TE} {Q:VK} {σ₀:St} {H:Hp}
theorem fZ (Pv:Nat->List V->Hp->Prop) (hz:xs.length<=sizeLine) (h0:Pv 0 [] H) (hl:∀i ys H,i<=xs.length->Pv i ys H->bN K H a xs)
  (hs:∀i x ys H,xs[i]?=some x->ys.length<=i->Pv i ys H->pG σ₀ g tf te x H (λy H'=>Pv (i+1) (ys++[y]) H') (λH'=>Pv (i+1) ys H'))
  (hd:∀ys H,ys.length<=xs.length->Pv xs.length ys H->∀p,H p=none->Q (.ref p) (upd H p (.lst ys))):pR (Lk K a) σ₀ g tf te Q H:=by
 refine ⟨λi m ys H=>m=xs.length - i/\i<=xs.length/\ys.length<=i/\Pv i ys H,⟨xs.length,by simp,bf _,bf _,h0⟩,?_⟩;rintro i m ys H ⟨rfl,hi,hy,p⟩;have q:=hl i ys H hi p;by_cases hlt:i < xs.length
 ·refine .inr ⟨⟨xs,xs[i],q,by simp [hlt]⟩,by lia,λy H'=>Pv (i+1) (ys++[y]) H',λH'=>Pv (i+1) ys H',λy H' p'=>⟨xs.length - (i+1),by lia,rfl,hlt,by rw[ak,bo];lia,p'⟩,λH' p'=>⟨xs.length - (i+1),by lia,rfl,hlt,by lia,p'⟩,λx H' y=>?_⟩;obtain ⟨e,y⟩:=y;subst e;exact hs i x ys _ (y xs q) hy p
 ·have e:i=xs.length:=by lia
  subst e;exact .inl ⟨⟨xs,q,aj _⟩,by lia,hd ys H hy p⟩
theorem K9 (Pv:Nat->List V->Hp->Prop) (hz:xs.length<=sizeLine) (h0:Pv 0 [] H) (hl:∀i ys H,i<=xs.length->Pv i ys H->jl K H a xs)
  (hs:∀i x ys H,xs[i]?=some x->ys.length<=i->Pv i ys H->pG σ₀ g tf te x H (λy H'=>Pv (i+1) (ys++[y]) H') (λH'=>Pv (i+1) ys H'))
  (hd:∀ys H,ys.length<=xs.length->Pv xs.length ys H->∀p,H p=none->Q (.ref p) (upd H p (.lst ys))):pR (MX K a) σ₀ g tf te Q H:=by
 refine ⟨λi m ys H=>m=xs.length - i/\i<=xs.length/\ys.length<=i/\Pv i ys H,⟨xs.length,by simp,bf _,bf _,h0⟩,?_⟩;rintro i m ys H ⟨rfl,hi,hy,p⟩;have q:=hl i ys H hi p;by_cases hlt:i < xs.length
 ·refine .inr ⟨⟨xs,xs[i],q,by simp [hlt]⟩,by lia,λy H'=>Pv (i+1) (ys++[y]) H',λH'=>Pv (i+1) ys H',λy H' p'=>⟨xs.length - (i+1),by lia,rfl,hlt,by rw[ak,bo];lia,p'⟩,λH' p'=>⟨xs.length - (i+1),by lia,rfl,hlt,by lia,p'⟩,λx H' y=>?_⟩;obtain ⟨e,y⟩:=y;subst e;exact hs i x ys _ (y xs q) hy p
 ·have e:i=xs.length:=by lia
  subst e;exact .inl ⟨⟨xs,q,aj _⟩,by lia,hd ys H hy p⟩
theorem ph {lo:Int} {n:Nat} (Pv:Nat->List V->Hp->Prop) (hz:n<=sizeLine) (h0:Pv 0 [] H)
  (hs:∀i ys H,i < n->ys.length<=i->Pv i ys H->pG σ₀ g tf te (.int (lo+i)) H (λy H'=>Pv (i+1) (ys++[y]) H') (λH'=>Pv (i+1) ys H'))
  (hd:∀ys H,ys.length<=n->Pv n ys H->∀p,H p=none->Q (.ref p) (upd H p (.lst ys))):pR (Fe lo n) σ₀ g tf te Q H:=by
 refine ⟨λi m ys H=>m=n - i/\i<=n/\ys.length<=i/\Pv i ys H,⟨n,by simp,bf _,bf _,h0⟩,?_⟩;rintro i m ys H ⟨rfl,hi,hy,p⟩;by_cases hlt:i < n
 ·refine .inr ⟨hlt,by lia,λy H'=>Pv (i+1) (ys++[y]) H',λH'=>Pv (i+1) ys H',λy H' p'=>⟨n - (i+1),by lia,rfl,hlt,by rw[ak,bo];lia,p'⟩,λH' p'=>⟨n - (i+1),by lia,rfl,hlt,by lia,p'⟩,λx H' y=>?_⟩;obtain ⟨e,y⟩:=y;subst e y;exact hs i ys _ hlt hy p
 ·have e:i=n:=by lia
  subst e;exact .inl ⟨aj _,by lia,hd ys H hy p⟩
end
open Nm
def gI (i j:Int):Prop:=Pe i j\/∃m n,Sz m i/\Sz n j/\m+n<=1000000
def nZ (i j:Int):Prop:=j≠0/\Sz 8999 j
theorem As {k:Nat} {i:Int} (h:Sz k i):Builtin.Int.intBits i<=k:=by
 unfold Builtin.Int.intBits;by_cases e:i=0
 ·subst e;simp
 ·have e':(i == 0)=false:=by simpa using e
  rw[e'];have hn:i.natAbs≠0:=by lia
  have:=(Nat.log2_lt hn).mpr h;simp only[iW,if_false]
  lia
theorem gI.ok {i j:Int} (h:gI i j):IntMulOk i j:=by
 rcases h with h | ⟨m,n,h1,h2,h3⟩
 ·exact h.ok
 ·have e:(2:Nat)^20=1048576:=by decide
  exact .of_bits (by have:=As h1;lia) (by have:=As h2;lia)
section
variable {X:Cx} {a b:Expr} {ta tb:TE} {pos:Pos}
theorem cY:yE X (binaryOp .Mult) (rI gI λi j=>.int (i*j)):=Q1 λ_ _ _ _ _ _ _ hc q=>mul_int q hc.ok
theorem iQ:yE X (binaryOp .FloorDiv) (rI nZ λi j=>.int (i.fdiv j)):=Q1 λi j _ _ _ _ _ hc q=>by
 refine floordiv_int hc.1 q (.inl (PyProof.noPylong_of_log2 ?_));have hn:j.natAbs≠0:=by have:=hc.1;lia
 have:=(Nat.log2_lt hn).mpr hc.2
 lia
def Pz (t u:TS):TS:=λD σ H=>∃N:St->Hp->Prop,t { D with nx:=N } σ H/\∀σ' H',N σ' H'->u D σ' H'
theorem iE {st:Stmt} {rest:List Stmt} {t u:TS} (h1:PS X st t) (h2:F6 X rest u):F6 X (st :: rest) (Pz t u):=by
 intro pins s σ H D I h;obtain ⟨N,h,k⟩:=h;refine wpAny_execs_cons (gQ (h1 pins s σ H { D with nx:=N } I h) λf s1 q=>?_);cases f with
 | next =>
  obtain ⟨σ',H',I',q⟩:=q;exact h2 pins s1 σ' H' D I' (k _ _ q)
 | ret v=>exact q
 | brk=>exact q
 | cont=>exact q
def Nl (K:FG9):V->V->Hp->VK->Prop:=λo i H Q=>∃p xs k v,o=.ref p/\i=.int k/\bN K H p xs/\F0 xs k=some v/\Q v H
theorem KG:QK X (Nl X.K):=by
 intro pins s σ H o i ov iv Q I ro ri h;obtain ⟨p,xs,k,z,rfl,rfl,hq,he,q⟩:=h;cases ro;obtain ⟨t,rfl⟩:=ri;obtain ⟨its,r,pl,hz⟩:=I.list hq;obtain ⟨j,h1,h2,h3,h4,h5⟩:=DI he;obtain ⟨w,ew,rw'⟩:=r.get h2;have hl:=r.length;have hn:=z9;have fin:EP X pins σ Q w s:=⟨z,H,I,rw',q⟩;by_cases h0:0<=k
 ·have hj:k.toNat=j:=by
   rw[seqIndex_of h0 h5] at h1;exact b6 h1
  exact wpAny_getItem_list pl.isList h0 (by lia) (by rw[hj];simpa using ew) fin
 ·have hj:(k+(its.toArray.size:Int)).toNat=j:=by
   rw[seqIndex_neg (by lia) h4] at h1;rw[aJ,<- hl];exact b6 h1
  exact wpAny_getItem_list_neg pl.isList (by lia) (by rw[aJ] <;> lia) (by lia) (by rw[hj];simpa using ew) fin
def Ir (K:FG9) (T:String):V->Hp->VK->Prop:=λx H Q=>∃t b,uv K H x t/\PySem.W.kitOne K t (.type T)=some b/\Q (.bl b) H
theorem wM {c:Str} {T:String} {p p2:Pos} (hg:Gl X "isinstance") (hm:X.mg "isinstance"=none) (hb:bootBuiltins c=some (.type T)) (hmc:X.mg c=none) (ha:PE X a ta) (hgc:Gl X c:=by rfl) (hn:c≠"__name__":=by decide)
  (hd:(c == ("__debug__":Str))=false:=by decide) (he:starEach [a,.Name c p2] X.env=[(false,eval a X.env),(false,eval (.Name c p2) X.env)]:=by rfl)
  (hpl:(backTo pos (starEach [.Name c p2] X.env)).any (·.1)=false:=by rfl) (he2:starEach [.Name c p2] X.env=[(false,eval (.Name c p2) X.env)]:=by rfl):PE X (.Call (.Name "isinstance" p) [a,.Name c p2] [] pos) (Q0 (Ir X.K T) ta):=by
 intro pins s σ H Q I h;refine wpAny_Call_Name_kw (jT I hg hm PyProof.Rows.boot_isinstance ?_);have hA:PA X [a,.Name c p2] (pZ ta (pZ (tC (.ty T)) Ib)):=ae ha (ae (yK hgc hmc hb rfl hn hd) ag he2) (by rw[he,he2])
 have hq:pZ ta (pZ (tC (.ty T)) Ib) σ H (λvs H1=>∃x,vs=[x,.ty T]/\Ir X.K T x H1 Q):=by
  show ta σ H λx H1=>∃x',[x,V.ty T]=[x',V.ty T]/\Ir X.K T x' H1 Q
  have e:(λx H1=>∃x',[x,V.ty T]=[x',V.ty T]/\Ir X.K T x' H1 Q)=λx H1=>Ir X.K T x H1 Q:=by
   funext x H1;apply propext;constructor
   ·rintro ⟨x',e,q⟩;cases e;exact q
   ·intro q;exact ⟨x,rfl,q⟩
  rw[e];exact h
 refine PyProof.Rows.callWith_builtin1 (gQ (hA pos pins s σ H _ I hq) λus s1 ⟨vs,H1,I1,r1,x,e,q1⟩=>?_) (by rw[he,he2]) hpl;subst e;obtain ⟨u,w',rfl,ru,rt⟩:=vals2 r1;cases rt;obtain ⟨t,bb,ty,ek,q⟩:=q1;exact BI I1 ru ty ek λtk=>⟨.bl bb,H1,I1.tok tk,rfl,q⟩
end
structure Kind (α:Type) [DecidableEq α] where
 R:FG9->Hp->V->α->Prop
 d:Nat
 inj:∀{X:Cx} {pins:List (Addr×Obj)} {σ:St} {H:Hp} {s:Shared} {x:V} {a b:α},Inv X pins σ H s->R X.K H x a->R X.K H x b->a=b
 rc:∀{X:Cx} {pins:List (Addr×Obj)} {σ:St} {H:Hp} {s:Shared} {x y:V} {v u:Value} {a b:α} {A:Around},Inv X pins σ H s->RelV x v->RelV y u->R X.K H x a->R X.K H y b->A.units+d < cLine->SeqAt.RcAt A s v u (decide (a=b))
 ne:∀{X:Cx} {pins:List (Addr×Obj)} {σ:St} {H:Hp} {s:Shared} {x y:V} {v u:Value} {a b:α} {A:Around},Inv X pins σ H s->RelV x v->RelV y u->R X.K H x a->R X.K H y b->A.units+d < cLine->SeqAt.RcNeAt A s v u (!decide (a=b))
 eq:∀{X:Cx} {pins:List (Addr×Obj)} {σ:St} {H:Hp} {s:Shared} {x y:V} {v u:Value} {a b:α} {A:Around},Inv X pins σ H s->RelV x v->RelV y u->R X.K H x a->R X.K H y b->A.units+d < cLine->SeqAt.EqAt A s v u (decide (a=b))
def MF:Kind Int where
 R:=λ_ _ x i=>x=.int i
 d:=0
 inj:=λ_ h1 h2=>by rw[h1] at h2;cases h2;rfl
 rc:=λ{X pins σ H s x y v u a b A} I rx ry h1 h2 _=>by
  subst h1 h2;obtain ⟨t,rfl⟩:=rx;obtain ⟨t',rfl⟩:=ry;have q:=SeqAt.RcAt.int_int (A:=A) (s:=s) a t b t';rwa [gP] at q
 ne:=λ{X pins σ H s x y v u a b A} I rx ry h1 h2 _=>by
  subst h1 h2;obtain ⟨t,rfl⟩:=rx;obtain ⟨t',rfl⟩:=ry;have q:=SeqAt.RcNeAt.int_int (A:=A) (s:=s) a t b t';rwa [gP] at q
 eq:=λ{X pins σ H s x y v u a b A} I rx ry h1 h2 _=>by
  subst h1 h2;obtain ⟨t,rfl⟩:=rx;obtain ⟨t',rfl⟩:=ry;have q:=SeqAt.EqAt.int_int (A:=A) (s:=s) a t b t';rwa [gP] at q
theorem jS {α β:Type} {F:α->β->Prop}:∀{l1:List α} {l2:List β} {i:Nat} (_:Paired F l1 l2) (h1:i < l1.length) (h2:i < l2.length),F l1[i] l2[i]
 | _,_,_,.nil,h1,_=>absurd h1 (fD _)
 | _,_,0,.cons r _,_,_=>r
 | _,_,i+1,.cons _ t,h1,h2=>jS (i:=i) t (Nat.lt_of_succ_lt_succ h1) (Nat.lt_of_succ_lt_succ h2)
theorem lD {α β:Type} {F:α->β->Prop} (hF:∀a b x,F a x->F b x->a=b):∀{l1 l2:List α} {l:List β},Paired F l1 l->Paired F l2 l->l1=l2
 | _,_,_,.nil,.nil=>rfl
 | _,_,_,.cons r t,.cons r' t'=>by rw[hF _ _ _ r r',lD hF t t']
theorem ve {α:Type} [DecidableEq α] (as bs:List α) (h:as.length=bs.length):(List.range as.length).all (λj=>decide (as[j]?=bs[j]?))=decide (as=bs):=by
 rw[k6,oi,decide_eq_true_iff];constructor
 ·intro q;apply ie;intro i;by_cases hi:i < as.length
  ·exact of_decide_eq_true (q i (tI.mpr hi))
  ·rw[aM (by lia),aM (by lia)]
 ·rintro rfl i _;simp
section
variable {α:Type} [DecidableEq α] (k:Kind α)
theorem Kind.items {X:Cx} {pins:List (Addr×Obj)} {σ:St} {H:Hp} {s:Shared} {A:Around} (I:Inv X pins σ H s) (hA:A.units+k.d < cLine) {xs ys:List V} {us ws:List Value} {as bs:List α}
  (rx:cO xs us) (ry:cO ys ws) (ha:Paired (λa x=>k.R X.K H x a) as xs) (hb:Paired (λa x=>k.R X.K H x a) bs ys) :
  ∀j (h1:j < us.toArray.size) (h2:j < ws.toArray.size),SeqAt.EqAt A s us.toArray[j] ws.toArray[j] (decide (as[j]?=bs[j]?)):=λj h1 h2=>by
 have l1:j < us.length:=by simpa using h1
 have l2:j < ws.length:=by simpa using h2
 have e1:=rx.length;have e2:=ry.length;have e3:=ha.length;have e4:=hb.length;obtain ⟨u,hu,ru⟩:=rx.get (i:=j) (x:=xs[j]'(by lia)) (by simp);obtain ⟨w,hw,rw'⟩:=ry.get (i:=j) (x:=ys[j]'(by lia)) (by simp);have q:=k.eq (A:=A) I ru rw' (jS ha (by lia) (by lia)) (jS hb (by lia) (by lia)) hA
 have eu:us.toArray[j]=u:=by
  have:=hu;rw[af l1] at this;simpa using this
 have ew:ws.toArray[j]=w:=by
  have:=hw;rw[af l2] at this;simpa using this
 rw[eu,ew,af (show j < as.length by lia),af (show j < bs.length by lia)];have e5:decide (some as[j]=some bs[j])=decide (as[j]=bs[j]):=by simp
 rw[e5];exact q
theorem Cw {α:Type} [DecidableEq α] (as bs:List α) {n m:Nat} (h1:as.length=n) (h2:bs.length=m):((List.range (min n m)).all (λj=>decide (as[j]?=bs[j]?)) && n == m)=decide (as=bs):=by
 subst h1 h2;by_cases e:as.length=bs.length
 ·rw[show min as.length bs.length=as.length by lia,ve as bs e];simp [e]
 ·have h1:(as.length == bs.length)=false:=by simpa using e
  rw[h1,Bool.and_false];exact (decide_eq_false λz=>e (by rw[z])).symm
def Rn:Kind (List α) where
 R:=λK H x as=>∃p xs,x=.ref p/\jl K H p xs/\Paired (λa x=>k.R K H x a) as xs
 d:=k.d+1
 inj:=λ{X pins σ H s x a b} I h1 h2=>by
  obtain ⟨p,xs,rfl,hp,pa⟩:=h1;obtain ⟨q,ys,e,hq,pb⟩:=h2;cases e;have e:=I.tuple_inj hp hq;subst e;exact lD (F:=λa x=>k.R X.K H x a) (λa b x=>k.inj I) pa pb
 rc:=λ{X pins σ H s x y v u a b A} I rx ry h1 h2 hA=>by
  obtain ⟨p,xs,rfl,hp,pa⟩:=h1;obtain ⟨q,ys,rfl,hq,pb⟩:=h2;cases rx;cases ry;obtain ⟨us,r1,t1,_⟩:=I.tuple hp;obtain ⟨ws,r2,t2,_⟩:=I.tuple hq;have z:=SeqAt.RcAt.tuples (A:=A) (e:=λj=>decide (a[j]?=b[j]?)) (show s.heap.IsTuple p us.toArray from t1) (show s.heap.IsTuple q ws.toArray from t2) (by lia) (k.items (A:=A.in1) I (by show A.units+1+k.d < cLine;lia) r1 r2 pa pb);rwa [Cw a b (by rw[pa.length,r1.length];simp) (by rw[pb.length,r2.length];simp)] at z
 ne:=λ{X pins σ H s x y v u a b A} I rx ry h1 h2 hA=>by
  obtain ⟨p,xs,rfl,hp,pa⟩:=h1;obtain ⟨q,ys,rfl,hq,pb⟩:=h2;cases rx;cases ry;obtain ⟨us,r1,t1,_⟩:=I.tuple hp;obtain ⟨ws,r2,t2,_⟩:=I.tuple hq;have z:=SeqAt.RcNeAt.tuples (A:=A) (e:=λj=>decide (a[j]?=b[j]?)) (show s.heap.IsTuple p us.toArray from t1) (show s.heap.IsTuple q ws.toArray from t2) (by lia) (k.items (A:=A.in1) I (by show A.units+1+k.d < cLine;lia) r1 r2 pa pb);rwa [Cw a b (by rw[pa.length,r1.length];simp) (by rw[pb.length,r2.length];simp)] at z
 eq:=λ{X pins σ H s x y v u a b A} I rx ry h1 h2 hA=>by
  obtain ⟨p,xs,rfl,hp,pa⟩:=h1;obtain ⟨q,ys,rfl,hq,pb⟩:=h2;cases rx;cases ry;by_cases e:p=q
  ·subst e;have e:=I.tuple_inj hp hq;subst e;rw[lD (F:=λa x=>k.R X.K H x a) (λa b x=>k.inj I) pa pb,decide_eq_true rfl];exact SeqAt.EqAt.same _
  ·obtain ⟨us,r1,t1,_⟩:=I.tuple hp;obtain ⟨ws,r2,t2,_⟩:=I.tuple hq;have z:=SeqAt.RcAt.tuples (A:=A) (e:=λj=>decide (a[j]?=b[j]?)) (show s.heap.IsTuple p us.toArray from t1) (show s.heap.IsTuple q ws.toArray from t2) (by lia) (k.items (A:=A.in1) I (by show A.units+1+k.d < cLine;lia) r1 r2 pa pb);rw[Cw a b (by rw[pa.length,r1.length];simp) (by rw[pb.length,r2.length];simp)] at z;exact .of_refs e z
theorem FQ {X:Cx} {pins:List (Addr×Obj)} {σ:St} {H:Hp} {s:Shared} {p q:Addr} {xs ys:List V} {a b:List α} {A:Around} (I:Inv X pins σ H s) (hp:bN X.K H p xs) (hq:bN X.K H q ys)
  (pa:Paired (λa x=>k.R X.K H x a) a xs) (pb:Paired (λa x=>k.R X.K H x a) b ys) (hA:A.units+(k.d+1) < cLine) :
  SeqAt.RcAt A s (.ref p) (.ref q) (decide (a=b))/\SeqAt.RcNeAt A s (.ref p) (.ref q) (!decide (a=b)):=by
 obtain ⟨us,r1,t1,_⟩:=I.list hp;obtain ⟨ws,r2,t2,_⟩:=I.list hq;have l1:=r1.length;have l2:=r2.length;have l3:=pa.length;have l4:=pb.length;by_cases e:us.length=ws.length
 ·have it:=k.items (A:=A.in1) I (by show A.units+1+k.d < cLine;lia) r1 r2 pa pb;have z:=SeqAt.RcAt.lists (A:=A) (e:=λj=>decide (a[j]?=b[j]?)) t1.isList t2.isList (by simpa using e) (by lia) it;have z2:=SeqAt.RcNeAt.lists (A:=A) (e:=λj=>decide (a[j]?=b[j]?)) t1.isList t2.isList (by simpa using e) (by lia) it;have e1:us.toArray.size=a.length:=by rw[aJ];lia
  rw[e1,ve a b (by lia)] at z z2;exact ⟨z,z2⟩
 ·have hne:¬a=b:=λz=>e (by have:=congrArg List.length z;lia)
  rw[decide_eq_false hne];exact ⟨SeqAt.RcAt.lists_lengths t1.isList t2.isList (by simpa using e) (by lia),SeqAt.RcNeAt.lists_lengths t1.isList t2.isList (by simpa using e) (by lia)⟩
def Ku:Kind (List α) where
 R:=λK H x as=>∃p xs,x=.ref p/\bN K H p xs/\Paired (λa x=>k.R K H x a) as xs
 d:=k.d+1
 inj:=λ{X pins σ H s x a b} I h1 h2=>by
  obtain ⟨p,xs,rfl,hp,pa⟩:=h1;obtain ⟨q,ys,e,hq,pb⟩:=h2;cases e;have e:=I.list_inj hp hq;subst e;exact lD (F:=λa x=>k.R X.K H x a) (λa b x=>k.inj I) pa pb
 rc:=λ{X pins σ H s x y v u a b A} I rx ry h1 h2 hA=>by
  obtain ⟨p,xs,rfl,hp,pa⟩:=h1;obtain ⟨q,ys,rfl,hq,pb⟩:=h2;cases rx;cases ry;exact (FQ k I hp hq pa pb hA).1
 ne:=λ{X pins σ H s x y v u a b A} I rx ry h1 h2 hA=>by
  obtain ⟨p,xs,rfl,hp,pa⟩:=h1;obtain ⟨q,ys,rfl,hq,pb⟩:=h2;cases rx;cases ry;exact (FQ k I hp hq pa pb hA).2
 eq:=λ{X pins σ H s x y v u a b A} I rx ry h1 h2 hA=>by
  obtain ⟨p,xs,rfl,hp,pa⟩:=h1;obtain ⟨q,ys,rfl,hq,pb⟩:=h2;cases rx;cases ry;by_cases e:p=q
  ·subst e;have e:=I.list_inj hp hq;subst e;rw[lD (F:=λa x=>k.R X.K H x a) (λa b x=>k.inj I) pa pb,decide_eq_true rfl];exact SeqAt.EqAt.same _
  ·exact .of_refs e (FQ k I hp hq pa pb hA).1
def Kind.via {β:Type} [DecidableEq β] (f:β->α) (fi:∀a b,f a=f b->a=b) (R':FG9->Hp->V->β->Prop) (im:∀{K H x b},R' K H x b->k.R K H x (f b)):Kind β where
 R:=R'
 d:=k.d
 inj:=λI h1 h2=>fi _ _ (k.inj I (im h1) (im h2))
 rc:=λ{X pins σ H s x y v u a b A} I rx ry h1 h2 hA=>by
  have z:=k.rc (A:=A) I rx ry (im h1) (im h2) hA;rwa [decide_eq_decide.mpr (show f a=f b↔a=b from ⟨fi a b,λe=>by rw[e]⟩)] at z
 ne:=λ{X pins σ H s x y v u a b A} I rx ry h1 h2 hA=>by
  have z:=k.ne (A:=A) I rx ry (im h1) (im h2) hA;rwa [decide_eq_decide.mpr (show f a=f b↔a=b from ⟨fi a b,λe=>by rw[e]⟩)] at z
 eq:=λ{X pins σ H s x y v u a b A} I rx ry h1 h2 hA=>by
  have z:=k.eq (A:=A) I rx ry (im h1) (im h2) hA;rwa [decide_eq_decide.mpr (show f a=f b↔a=b from ⟨fi a b,λe=>by rw[e]⟩)] at z
end
def vR (K:FG9) (H:Hp) (x:V) (n:Int×Int):Prop:=∃p,x=.ref p/\jl K H p [.int n.1,.int n.2]
def Qs:Kind (Int×Int):=(Rn MF).via (λn=>[n.1,n.2]) (λa b e=>by cases a;cases b;simp at e;rw[e.1,e.2]) vR λ⟨p,e,h⟩=>⟨p,_,e,h,.cons rfl (.cons rfl .nil)⟩
def Ri (K:FG9):R2:=λx y H Q=>∃(α:Type) (_:DecidableEq α) (k:Kind α) (a b:α),k.d<=50/\k.R K H x a/\k.R K H y b/\Q (.bl (decide (a=b))) H
def Qk (K:FG9):R2:=λx y H Q=>∃(α:Type) (_:DecidableEq α) (k:Kind α) (a b:α),k.d<=50/\k.R K H x a/\k.R K H y b/\Q (.bl (!decide (a=b))) H
theorem zP {X:Cx} (hu:X.A.units+50 < cLine):yE X (compareOp .Eq) (Ri X.K):=by
 intro pins s σ H x y v u Q I rx ry h;obtain ⟨α,_,k,a,b,hd,ha,hb,q⟩:=h;exact k.rc (A:=X.A) I rx ry ha hb (by lia) _ _ _ _ ⟨.bl (decide (a=b)),H,I,rfl,q⟩
theorem C4 {X:Cx} (hu:X.A.units+50 < cLine):yE X (compareOp .NotEq) (Qk X.K):=by
 intro pins s σ H x y v u Q I rx ry h;obtain ⟨α,_,k,a,b,hd,ha,hb,q⟩:=h;exact k.ne (A:=X.A) I rx ry ha hb (by lia) _ _ _ _ ⟨.bl (!decide (a=b)),H,I,rfl,q⟩
theorem Dv {A:Around} {k:Nat} (hr:kI k A):A.units+50 < cLine:=by have:=hr.units;lia
def Inner (H:Hp) (p q:Addr):Prop:=∃a b c:Int,H p=some (.lst [.int a,.int b,.int c,.ref q])
def cT (p:Addr) (H H':Hp):Prop:=(∀b o,H b=some o->b≠p->H' b=some o)/\∀q,Inner H p q->Inner H' p q
theorem cT.refl {p:Addr} (H:Hp):cT p H H:=⟨λ_ _ h _=>h,λ_ h=>h⟩
theorem cT.trans {p:Addr} {H H1 H2:Hp} (a:cT p H H1) (b:cT p H1 H2):cT p H H2:=⟨λc o h n=>b.1 c o (a.1 c o h n) n,λq h=>b.2 q (a.2 q h)⟩
theorem Inner.inj {H:Hp} {p q q':Addr} (h:Inner H p q) (h':Inner H p q'):q=q':=by
 obtain ⟨a,b,c,e⟩:=h;obtain ⟨a',b',c',e'⟩:=h';rw[e] at e';have:=HO.lst.inj (b6 e');simp at this;exact this.2.2.2
theorem cT.set {p q:Addr} {H:Hp} {a b c a' b' c':Int} (h:H p=some (.lst [.int a,.int b,.int c,.ref q])):cT p H (upd H p (.lst [.int a',.int b',.int c',.ref q])) :=
 ⟨λb u h n=>by rw[bG n];exact h,λq' h'=>by
  rw[(Inner.inj ⟨a,b,c,h⟩ h').symm];exact ⟨a',b',c',aK⟩⟩
theorem aG.upto {p:Addr} {H H':Hp} (h:aG H H'):cT p H H':=⟨λb o e _=>h b o e,λq ⟨a,b,c,e⟩=>⟨a,b,c,h _ _ e⟩⟩
theorem aG.new {H:Hp} {p:Addr} {o:HO} (h:H p=Option.none):aG H (upd H p o):=λb u e=>by rw[bG (fG e h)];exact e
theorem aG.sqt {K:FG9} {H H':Hp} {a:Addr} {xs:List V} (e:aG H H') (h:jl K H a xs):jl K H' a xs:=by
 rcases h with (h | ⟨o,h⟩) | h
 ·exact .inl (.inl (e _ _ h))
 ·exact .inl (.inr ⟨o,e _ _ h⟩)
 ·exact .inr h
theorem aG.num {K:FG9} {H H':Hp} {x:V} {n:Int×Int} (e:aG H H') (h:vR K H x n):vR K H' x n:=by obtain ⟨p,q,r⟩:=h;exact ⟨p,q,e.sqt r⟩
section
variable {σ:St} {H:Hp} {D:Ends}
theorem aV {t:TS} {σ0 σ:St} {D:Ends} {H:Hp} (e:σ0=σ) (h:t D σ H):t D σ0 H:=by rw[e];exact h
theorem Of {t u:TS} (h:t { D with nx:=u D } σ H):PB t u D σ H:=h
theorem L4 (h:D.nx σ H):Na D σ H:=h
theorem Oy {te:TE} {g:TG} (h:te σ H λx H1=>g x σ H1 D.nx):LC te g D σ H:=h
theorem JW {i:Nat} {v:V} {Q:St->Hp->Prop} (h:Q (σ.set i (some v)) H):G5 i v σ H Q:=h
theorem Og {te:TE} (h:te σ H D.rt):PC te D σ H:=h
theorem Oq {c:TT} {t u:TS} (h:c σ H λb H1=>if b=true then t D σ H1 else u D σ H1):PL c t u D σ H:=h
theorem Me {te:TE} (h:te σ H λ_ H1=>D.nx σ H1):Nd te D σ H:=h
theorem Oh {i j:Nat} {ta:TA} (h:ta σ H λvs H1=>∃v w,vs=[v,w]/\D.nx ((σ.set i (some v)).set j (some w)) H1):PD i j ta D σ H:=h
theorem Mi {to ti te:TE} {tget:V->V->Hp->VK->Prop} {tip:QG} {tset:F3}
  (h:to σ H λo H1=>ti σ H1 λi H2=>tget o i H2 λx H3=>te σ H3 λy H4=>tip x y H4 λz H5=>tset o i z H5 λH6=>D.nx σ H6):Nf to ti te tget tip tset D σ H:=h
theorem Oo {f:Int->Int->Int} {i j:Int} {Q:VK} (h:Q (.int (f i j)) H):ipI f (.int i) (.int j) H Q:=⟨i,j,rfl,rfl,h⟩
theorem Ou {wi:TI} {g:TG} {tb:TS} (h:wi σ H λJ H1=>∃W:Nat->Nat->St->Hp->Prop,(∃m,W 0 m σ H1)/\∀i m σ H,W i m σ H →
  (J.stop i H/\D.nx σ H)\/(J.go i H/\∃N:St->Hp->Prop,(∀σ' H',N σ' H'->∃m',m' < m/\W (i+1) m' σ' H')/\∀x H',J.yld i H x H'->g x σ H' λσ2 H2=>tb { D with nx:=N,ct:=N,bk:=D.nx } σ2 H2)):PM wi g tb D σ H:=h
variable {Q:VK} {QA:List V->Hp->Prop} {QB:Bool->Hp->Prop}
theorem Oc {i:Nat} {v:V} (e:σ[i]?=some (some v)) (h:Q v H):NU i σ H Q:=⟨v,e,h⟩
theorem Rf {v:V} (h:Q v H):tC v σ H Q:=h
theorem Qf {r:R2} {ta tb:TE} (h:ta σ H λx H1=>tb σ H1 λy H2=>r x y H2 Q):PH r ta tb σ H Q:=h
theorem Qa {r:V->Hp->VK->Prop} {ta:TE} (h:ta σ H λx H1=>r x H1 Q):Q0 r ta σ H Q:=h
theorem Qi {g:Int->Int->V} {i j:Int} (h:Q (g i j) H):Mn g (.int i) (.int j) H Q:=⟨i,j,rfl,rfl,h⟩
theorem fE {C:Int->Int->Prop} {g:Int->Int->V} {i j:Int} (hc:C i j) (h:Q (g i j) H):rI C g (.int i) (.int j) H Q:=⟨i,j,rfl,rfl,hc,h⟩
theorem Rh {g:Int->V} {i:Int} (h:Q (g i) H):rU g (.int i) H Q:=⟨i,rfl,h⟩
theorem Ox {i j:Int} (h:Q (.bl (decide (i=j))) H):Rj (.int i) (.int j) H Q:=⟨rfl,by
 have e:decide (V.int i=V.int j)=decide (i=j):=by simp
 rw[e];exact h⟩
theorem Ol {i j:Int} (h:Q (.bl (!decide (i=j))) H):rNe (.int i) (.int j) H Q:=⟨rfl,by
 have e:decide (V.int i=V.int j)=decide (i=j):=by simp
 rw[e];exact h⟩
theorem Ow {i j:Str} (h:Q (.bl (decide (i=j))) H):Rj (.str i) (.str j) H Q:=⟨rfl,by
 have e:decide (V.str i=V.str j)=decide (i=j):=by simp
 rw[e];exact h⟩
theorem LX {t:TE} (h:t σ H λx H'=>∃k,x=.bl k/\QB k H'):M6 t σ H QB:=h
theorem Qb {t:TE} (h:t σ H λx H'=>∃k,x=.bl k/\QB k H'):tB t σ H QB:=h
theorem Oz {t u:TT} (h:t σ H λc H1=>if c=true then u σ H1 QB else QB false H1):PN t u σ H QB:=h
theorem Qd {t u:TT} (h:t σ H λc H1=>if c=true then QB true H1 else u σ H1 QB):tOr t u σ H QB:=h
theorem Oi {t:TT} (h:t σ H λc H1=>QB (!c) H1):PJ t σ H QB:=h
theorem Mj {t u:TE} (h:t σ H λx H1=>∃c,x=.bl c/\if c=true then u σ H1 Q else Q (.bl false) H1):Ng t u σ H Q:=h
theorem L0 {t:TE} (h:t σ H λx H1=>∃c,x=.bl c/\Q (.bl (!c)) H1):M8 t σ H Q:=h
theorem Ot {c:TT} {ta tb:TE} (h:c σ H λb H1=>if b=true then ta σ H1 Q else tb σ H1 Q):tIf c ta tb σ H Q:=h
theorem Ob (h:QB true H):Px σ H QB:=h
theorem Oj (h:QA [] H):Ib σ H QA:=h
theorem Mf {ta:TE} {tr:TA} (h:ta σ H λx H1=>tr σ H1 λxs H2=>QA (x :: xs) H2):pZ ta tr σ H QA:=h
theorem Mh {sp:Sp} {E:XK} {t:TA} (h:t σ H λvs H1=>sp vs H1 Q E):Jw sp [] E t σ H Q:=by
 have e:(λvs H1=>sp (vs++[]) H1 Q E)=λvs H1=>sp vs H1 Q E:=by funext vs H1;rw[kY]
 show t σ H λvs H1=>sp (vs++[]) H1 Q E
 rw[e];exact h
theorem Qg {r:List V->Hp->VK->Prop} {t:TA} (h:t σ H λvs H1=>r vs H1 Q):Q9 r t σ H Q:=h
theorem Fz {K:FG9} {p:Addr} {xs:List V} {i:Int} {v:V} (hx:jl K H p xs) (e:F0 xs i=some v) (h:Q v H):OC K (.ref p) (.int i) H Q:=⟨p,xs,i,v,rfl,rfl,hx,e,h⟩
theorem cB {K:FG9} {p:Addr} {xs:List V} {i:Int} (hx:bN K H p xs) {v:V} (e:F0 xs i=some v) (h:Q v H):OD K (.ref p) (.int i) H Q:=⟨p,xs,i,v,rfl,rfl,hx,e,h⟩
theorem Md {K:FG9} {p:Addr} {xs:List V} {i:Int} (hx:bN K H p xs) {v:V} (e:F0 xs i=some v) (h:Q v H):Nl K (.ref p) (.int i) H Q:=⟨p,xs,i,v,rfl,rfl,hx,e,h⟩
theorem fj {QH:Hp->Prop} {p:Addr} {xs:List V} {i:Int} {v:V} {j:Nat} {ys:List V} (hx:H p=some (.lst xs)) (e:Jg xs.length i=some j) (ey:xs.set j v=ys) (h:QH (upd H p (.lst ys))):Nk (.ref p) (.int i) v H QH:=⟨p,xs,i,j,rfl,rfl,hx,e,by rw[ey];exact h⟩
theorem Mb {to ti:TE} {t:F3} {v:V} {QS:St->Hp->Prop} (h:to σ H λo H1=>ti σ H1 λi H2=>t o i v H2 λH3=>QS σ H3):Qx to ti t v σ H QS:=h
theorem JX {t:TG} {u:Lj} {v:V} {r:List V} {QS:St->Hp->Prop} (h:t v σ H λσ' H'=>u r σ' H' QS):Ny t u (v :: r) σ H QS:=⟨v,r,rfl,h⟩
theorem Mc {QS:St->Hp->Prop} (h:QS σ H):Qy [] σ H QS:=⟨rfl,h⟩
theorem L9 {K:FG9} {n:Nat} {t:Lj} {a:Addr} {xs:List V} {QS:St->Hp->Prop} (hx:jl K H a xs) (hl:xs.length=n) (h:t xs σ H QS):OY K n t (.ref a) σ H QS:=⟨a,xs,rfl,hx,hl,h⟩
theorem Qc {r:V->Option Int->Option Int->Hp->VK->Prop} {te:TE} {tl th:TO} (h:te σ H λx H1=>tl σ H1 λl H2=>th σ H2 λu H3=>r x l u H3 Q):tSl r te tl th σ H Q:=h
theorem Ip {QO:Option Int->Hp->Prop} (h:QO none H):Gf σ H QO:=h
theorem LZ {t:TE} {QO:Option Int->Hp->Prop} (h:t σ H λx H1=>∃i,x=.int i/\QO (some i) H1):M7 t σ H QO:=h
variable {R:It->Hp->Prop} {K:FG9}
theorem JU {tl:TE} (h:tl σ H λx H1=>∃a,x=.ref a/\(∃xs,bN K H1 a xs)/\R (Lk K a) H1):KA K tl σ H R:=h
theorem L8 {tl:TE} (h:tl σ H λx H1=>∃a,x=.ref a/\(∃xs,jl K H1 a xs)/\R (MX K a) H1):Qw K tl σ H R:=h
theorem JT {ta:TA} (h:ta σ H λvs H1=>∃j:Int,vs=[.int j]/\-(2^62)<=j/\j < 2^62/\R (Fe 0 j.toNat) H1):Nv ta σ H R:=h
theorem JS {ta:TA} (h:ta σ H λvs H1=>∃i j:Int,vs=[.int i,.int j]/\(-(2^62)<=i/\i < 2^62/\-(2^62)<=j/\j < 2^62)/\R (Fe i (j - i).toNat) H1):Nu ta σ H R:=h
theorem Mg {wi:TI} {k:Nat} {cap:List Nat} {g:TG} {tf:TT} {te:TE} {σ₀:St} (e:Jf k cap σ=σ₀) (h:wi σ H λJ H1=>pR J σ₀ g tf te Q H1):D3 wi k cap g tf te σ H Q:=by
 unfold D3;rw[e];exact h
theorem LW {g:TG} {tf:TT} {te:TE} {x:V} {NY:V->Hp->Prop} {NN:Hp->Prop} (h:g x σ H λσ2 H2=>tf σ2 H2 λb H3=>if b=true then te σ2 H3 NY else NN H3):pG σ g tf te x H NY NN:=h
theorem Qh {T:String} {r:V->List V->Hp->VK->Prop} {to:TE} {t:TA} (h:to σ H λx H1=>Q8 K T x H1/\t σ H1 λxs H2=>r x xs H2 Q):tBM K T r to t σ H Q:=h
def QM (Q:VK) (xs:List V) (H:Hp):Prop:=xs.length<=sizeLine/\∀p,H p=none->Q (.ref p) (upd H p (.tup xs))
def QN (Q:VK) (xs:List V) (H:Hp):Prop:=xs.length<=sizeLine/\∀p,H p=none->Q (.ref p) (upd H p (.lst xs))
theorem Od {t:TA} (h:t σ H (QM Q)):Py t σ H Q:=h
theorem Om {t:TA} (h:t σ H (QN Q)):PK t σ H Q:=h
theorem jm {n:Nat} (h:Nat.ble n 1000=true):n<=sizeLine:=aZ (bC (Nat.le_of_ble_eq_true h))
theorem bU {xs:List V} (h:∀p H',aG H H'->H' p=some (.tup xs)->Q (.ref p) H') (hl:Nat.ble xs.length 1000=true:=by rfl):QM Q xs H :=
 ⟨jm hl,λp hp=>h p _ (aG.new hp) aK⟩
theorem cW {xs:List V} (h:∀p H',aG H H'->H p=none->H' p=some (.lst xs)->Q (.ref p) H') (hl:Nat.ble xs.length 1000=true:=by rfl):QN Q xs H :=
 ⟨jm hl,λp hp=>h p _ (aG.new hp) hp aK⟩
theorem Qu {A B:Prop} (h:B):if (!true)=true then A else B:=Kv h
theorem Qv {A B:Prop} (h:A):if (!false)=true then A else B:=Qt h
def WB (tb:TS) (D:Ends) (Pv:St->Hp->Prop) (μ:St->Hp->Nat) (n:Nat) (σ:St) (H:Hp):Prop:=∃N:St->Hp->Prop,(∀σ' H',N σ' H'->∃m',m' < n/\(m'=μ σ' H'/\Pv σ' H'))/\tb { D with nx:=N,ct:=N,bk:=D.nx } σ H
theorem Nj {tb:TS} {Pv:St->Hp->Prop} {μ:St->Hp->Nat} {n:Nat} (h:tb { D with nx:=λσ' H'=>Pv σ' H'/\μ σ' H' < n,ct:=λσ' H'=>Pv σ' H'/\μ σ' H' < n,bk:=D.nx } σ H):WB tb D Pv μ n σ H :=
 ⟨_,λσ' H' ⟨p,l⟩=>⟨_,l,rfl,p⟩,h⟩
theorem Cu {c:TT} {tb:TS} (Pv:St->Hp->Prop) (μ:St->Hp->Nat) (h0:Pv σ H) (hs:∀σ H,Pv σ H->c σ H λb H1=>if b=true then WB tb D Pv μ (μ σ H) σ H1 else D.nx σ H1):Jv c tb D σ H:=by
 refine ⟨λm σ H=>m=μ σ H/\Pv σ H,⟨_,rfl,h0⟩,?_⟩;rintro m σ H ⟨rfl,p⟩;exact hs σ H p
end
def ig (H:Hp) (p:Addr):Prop:=∃(q:Addr) (a b c:Int) (cs:List Int),H p=some (.lst [.int a,.int b,.int c,.ref q])/\H q=some (.lst (cs.map V.int))/\0<=a/\0<=c/\c<=(cs.length:Int)/\∀x∈cs,(0:Int)<=x
theorem Jb {H:Hp} {p q:Addr} {a b c:Int} {cs:List Int} (hp:H p=some (.lst [.int a,.int b,.int c,.ref q])) (hq:H q=some (.lst (cs.map V.int))):q≠p:=λe=>by
 rw[e,hp] at hq;have h:=HO.lst.inj (b6 hq);cases cs with
 | nil=>cases h
 | cons x1 cs=>cases cs with
  | nil=>cases h
  | cons x2 cs=>cases cs with
   | nil=>cases h
   | cons x3 cs=>cases cs with
    | nil=>cases h
    | cons x4 cs=>simp at h
theorem ig.same {H H':Hp} {p:Addr} (h:ig H p) (e:aG H H'):ig H' p:=by obtain ⟨q,a,b,c,cs,h1,h2,r⟩:=h;exact ⟨q,a,b,c,cs,e _ _ h1,e _ _ h2,r⟩
theorem cT.tup {H H':Hp} {p r:Addr} {xs:List V} (u:cT p H H') (B:ig H p) (h:H r=some (.tup xs)):H' r=some (.tup xs):=by
 obtain ⟨q,a,b,c,cs,h1,_⟩:=B;exact u.1 r _ h λe=>by rw[e,h1] at h;cases h
theorem cT.other {H H':Hp} {p r:Addr} {o:HO} (u:cT p H H') (n:r≠p) (h:H r=some o):H' r=some o:=u.1 r _ h n
theorem ig.inner {H:Hp} {p:Addr} (h:ig H p):∃q,Inner H p q/\∃xs,H q=some (.lst xs):=by obtain ⟨q,a,b,c,cs,h1,h2,_⟩:=h;exact ⟨q,⟨a,b,c,h1⟩,_,h2⟩
theorem ig.upd {H:Hp} {p q r:Addr} {o:HO} (h:ig H p) (hi:Inner H p q) (n1:r≠p) (n2:r≠q):ig (L2.upd H r o) p:=by
 obtain ⟨q',a,b,c,cs,h1,h2,z⟩:=h;have e:q'=q:=Inner.inj ⟨a,b,c,h1⟩ hi;subst e;exact ⟨q',a,b,c,cs,by rw[bG n1.symm];exact h1,by rw[bG n2.symm];exact h2,z⟩
theorem Inner.upd {H:Hp} {p q r:Addr} {o:HO} (hi:Inner H p q) (n1:r≠p):Inner (L2.upd H r o) p q:=by obtain ⟨a,b,c,h⟩:=hi;exact ⟨a,b,c,by rw[bG n1.symm];exact h⟩
def LI:Sp:=λvs H Q _=>∃p n,vs=[.ref p,.int n]/\ig H p/\0 < n/\n < 2^64/\∀v H',0<=v->v < n->ig H' p->cT p H H'->Q (.int v) H'
inductive JF (K:FG9) (vs:List V) (H:Hp) (Q:VK) (E9:XK):Prop
 | mk (a:Addr) (ns:List Int):vs=[.ref a]->bN K H a (ns.map V.int)->ns.length<=63->(∀p H',H p=none->ig H' p->aG H H'->Q (.ref p) H')->JF K vs H Q E9
inductive zh (K:FG9) (vs:List V) (H:Hp) (Q:VK) (E9:XK):Prop
 | mk (a:Addr) (ns:List Int):vs=[.ref a]->bN K H a (ns.map V.int)->ns.length<=63->(∀H',Q (.bl true) H')->zh K vs H Q E9
def N3:Sp:=λvs H Q _=>∃t b,vs=[.int t,.int b]/\0 < b/\Sz 8999 b/\∀r H',aG H H'->H' r=some (.tup [.int (lo t b),.int (hi t b)])->Q (.ref r) H'
def PU:Sp:=λvs H Q _=>∃a b,vs=[.int a,.int b]/\Q (.int (g a b)) H
def Ih:Sp:=λvs H Q _=>∃t b,vs=[.int t,.int b]/\b≠0/\Sz 8999 b/\∀r H',aG H H'->H' r=some (.tup [.int (lo (if b < 0 then -t else t) (if b < 0 then -b else b)),.int (hi (if b < 0 then -t else t) (if b < 0 then -b else b))])->Q (.ref r) H'
def Nz (a b c d:Int):Int:=a*d+c*b
def KS (a b c d:Int):Int:=a*d - c*b
def KR (a _b c _d:Int):Int:=a*c
def Gx (K:FG9) (f:Int->Int->Int->Int->Int):Sp:=λvs H Q _=>∃p q a b c d,vs=[.ref p,.ref q]/\jl K H p [.int a,.int b]/\jl K H q [.int c,.int d]/\0 < b/\0 < d/\Sz 4000 a/\Sz 4000 b/\Sz 4000 c/\Sz 4000 d /\
 ∀r H',aG H H'->H' r=some (.tup [.int (lo (f a b c d) (b*d)),.int (hi (f a b c d) (b*d))])->Q (.ref r) H'
def LK (K:FG9):Sp:=λvs H Q _=>∃p q a b c d,vs=[.ref p,.ref q]/\jl K H p [.int a,.int b]/\jl K H q [.int c,.int d]/\0 < b/\0 < d/\c≠0/\Sz 4000 a/\Sz 4000 b/\Sz 4000 c/\Sz 4000 d /\
 ∀r H',aG H H'->H' r=some (.tup [.int (lo (if c < 0 then 0 - a*d else a*d) (if c < 0 then 0 - b*c else b*c)),.int (hi (if c < 0 then 0 - a*d else a*d) (if c < 0 then 0 - b*c else b*c))])->Q (.ref r) H'
theorem bP {α β:Type} {F:α->β->Prop}:∀{l1 l1':List α} {l2 l2':List β},Paired F l1 l2->Paired F l1' l2'->Paired F (l1++l1') (l2++l2')
 | _,_,_,_,.nil,h=>h
 | _,_,_,_,.cons r t,h=>.cons r (bP t h)
theorem dg {h:Heap} {a b:Addr} {o u:Obj} (ha:h.get? a=some o) (hb:h.get? b=some u) (hc:o.cls≠u.cls):a≠b:=λe=>by
 subst e;rw[ha] at hb;cases hb;exact hc rfl
theorem lh {a b:String} (h:a≠b):Value.type a≠Value.type b:=λe=>h (by injection e)
theorem A5 {h:Heap} {z TI TO i1 i2 l1 l2:Addr} {f0 a b:Value} {k1 k2:Nat} {xs ys:Array Value} (hz:IsZip h z TI TO f0) (hTI:IsPair h TI (.ref i1) (.ref i2)) (hTO:IsPair h TO a b)
  (h1:h.IsListIter i1 l1 k1) (h2:h.IsListIter i2 l2 k2) (hl1:h.IsList l1 xs) (hl2:h.IsList l2 ys) (hT:TI≠TO) (hi:i1≠i2):ZipApart z TI TO i1 i2 l1 l2:=by
 obtain ⟨o1,g1,c1,_⟩:=h1;obtain ⟨o2,g2,c2,_⟩:=h2;obtain ⟨p1,q1,d1,_⟩:=hl1;obtain ⟨p2,q2,d2,_⟩:=hl2;refine ⟨dg hTI hz ?_,dg hTO hz ?_,dg g1 hz ?_,dg g2 hz ?_,hT,dg hTI g1 ?_,dg hTI g2 ?_,dg hTO g1 ?_,dg hTO g2 ?_,hi,dg q1 hz ?_,dg q1 hTO ?_,dg q1 g1 ?_,dg q1 g2 ?_,dg q2 hz ?_,dg q2 hTO ?_,dg q2 g1 ?_,dg q2 g2 ?_⟩
 all_goals first
  | (rw[d1];first | (rw[c1];exact lh (by decide)) | (rw[c2];exact lh (by decide)) | exact lh (by decide))
  | (rw[d2];first | (rw[c1];exact lh (by decide)) | (rw[c2];exact lh (by decide)) | exact lh (by decide))
  | (rw[c1];exact lh (by decide))
  | (rw[c2];exact lh (by decide))
  | exact lh (by decide)
def Pa (K : FG9) (l1 l2 : Addr) : It :=
  ⟨λi H => ∃ xs ys x y, bN K H l1 xs /\ bN K H l2 ys /\ xs[i]? = some x /\ ys[i]? = some y,
   λi H v H' => ∃ p x y, v = .ref p /\ H p = none /\ H' = upd H p (.tup [x, y]) /\ (∀ xs, bN K H l1 xs → xs[i]? = some x) /\ ∀ ys, bN K H l2 ys → ys[i]? = some y,
   λi H => ∃ xs ys, bN K H l1 xs /\ bN K H l2 ys /\ (xs.length ≤ i \/ ys.length ≤ i)⟩
def tnZ (z TI TO i1 i2 l1 l2:Addr) (i:Nat) (h:Heap):Prop:=IsZip h z TI TO .none/\IsPair h TI (.ref i1) (.ref i2)/\(∃a b,IsPair h TO a b)/\h.IsListIter i1 l1 i/\h.IsListIter i2 l2 i
theorem Jt {P:Program} {w:World} {K:FG9} {elts:List Expr} {kk:Nat} {tpos:Pos} (z TI TO i1 i2 l1 l2:Addr) (hT:TI≠TO) (hi:i1≠i2):Turn P w K (.Tuple elts kk tpos) (Pa K l1 l2) [z,TI,TO,i1,i2] z (tnZ z TI TO i1 i2 l1 l2) where
 mem:=by simp
 obj:=λi h st b hb=>by
  obtain ⟨hz,hTI,⟨a,c,hTO⟩,⟨o1,g1,c1,d1⟩,⟨o2,g2,c2,d2⟩⟩:=st;simp only[aB,aU,or_false] at hb;rcases hb with rfl | rfl | rfl | rfl | rfl
  ·exact ⟨_,hz,λv q=>nomatch q⟩
  ·exact ⟨_,hTI,λv q=>nomatch q⟩
  ·exact ⟨_,hTO,λv q=>nomatch q⟩
  ·exact ⟨o1,g1,λv q=>by rw[d1] at q;cases q⟩
  ·exact ⟨o2,g2,λv q=>by rw[d2] at q;cases q⟩
 keep:=λi h h' st k=>by
  obtain ⟨hz,hTI,⟨a,c,hTO⟩,h1,h2⟩:=st;exact ⟨k z (by simp) _ hz,k TI (by simp) _ hTI,⟨a,c,k TO (by simp) _ hTO⟩,h1.at λo e=>k i1 (by simp) o e,h2.at λo e=>k i2 (by simp) o e⟩
 item:=by
  intro X hP hw hK hc i pins s σ H E I hf st hg;subst hP hw hK;obtain ⟨hz,hTI,⟨a,c,hTO⟩,h1,h2⟩:=st;obtain ⟨xs,ys,x,y,qx,qy,ex,ey⟩:=hg;obtain ⟨us,rx,px,_⟩:=I.list qx;obtain ⟨ws,ry,py,_⟩:=I.list qy;obtain ⟨u,eu,ru⟩:=rx.get ex;obtain ⟨v,ev,rv⟩:=ry.get ey;have D:=A5 hz hTI hTO h1 h2 px.isList py.isList hT hi;refine wpAny_pyNext_zip_item D hz hTI hTO h1 h2 px.isList py.isList (x:=u) (y:=v) (by simpa using eu) (by simpa using ev) λh' a1 a2 a3 a4 a5 a6 hk=>?_
  refine ⟨_,rfl,wpAny_letOwnedTupleGo_zip a1 λh'' hz'' hs=>?_⟩;have hT0:H s.heap.objs.size=none:=I.hok.fresh (aj _);have zne:s.heap.objs.size≠z:=HU (Heap.lt_size hz)
  have up:∀b o,b∉[z,TO,i1,i2]->s.heap.get? b=some o->h''.get? b=some o:=λb o hb e=>by
   simp only[aB,aU,or_false,not_or] at hb;exact (hs.2 b hb.1).trans (hk b o hb.1 hb.2.1 hb.2.2.1 hb.2.2.2 e)
  have fx:∀b∈[z,TO,i1,i2],jV X pins H b:=λb hb=>hf b (by
   simp only[aB,aU,or_false] at hb ⊢;rcases hb with rfl | rfl | rfl | rfl <;> simp)
  have nx:∀b o,H b=some o->b∉[z,TO,i1,i2]:=λb o e hb=>by
   have:=(fx b hb).1;rw[this] at e;cases e
  have nT:∀{b:Addr} {o:HO},H b=some o->b≠s.heap.objs.size:=λe q=>by rw[q,hT0] at e;cases e
  have tup:h''.get? s.heap.objs.size=some { cls:=.type "tuple",data:=.seq #[u,v] }:=(hs.2 _ zne).trans a5
  have I2:Inv X pins σ (upd H s.heap.objs.size (.tup [x,y])) { s with heap:=h'' }:=by
   refine I.step (g':=s.gens) (d':=s.drawn) (t':=s.toks) (ch:=[z,TO,i1,i2]) (λb hb=>?_) (λb o _ _ hb e _=>up b o hb e) (λb o _ _ hb e _=>⟨o.slots,up b o hb e⟩) (λb o hb e n=>?_)
    (λb o hb e=>⟨o,up b o hb e⟩) (λb q e=>by rw[bG (nT e)];exact e) (λb o q e=>by rw[bG (nT e)];exact e) (λb q e=>⟨#[],by rw[bG (nT e),e];simp⟩) (λm hm=>?_) (λb o e=>?_) I.bare
   ·obtain ⟨_,f1,_,f3,f4,f5⟩:=fx b hb;exact ⟨f3,f1,f4,f5⟩
   ·rw[bG (bZ (Heap.lt_size e))];exact n
   ·obtain ⟨o,es,ep,ho,r⟩:=hm;exact ⟨o,es,ep,up _ o (λz=>(fx _ z).2.1 rfl) ho,r⟩
   ·by_cases hb:b=s.heap.objs.size
    ·subst hb;rw[aK] at e;cases e;exact ⟨jm rfl,[u,v],.cons ru (.cons rv .nil),⟨_,tup,rfl,_,rfl⟩⟩
    ·rw[bG hb] at e;refine (I.hok b o e).stay (λc v' hc q=>up c v' ?_ q) (λc q=>by rw[bG (nT q)];exact q) λc xs q=>by rw[bG (nT q)];exact q
     rcases hc with rfl | hc
     ·exact nx _ _ e
     ·exact nx _ _ hc
  refine ⟨.ref s.heap.objs.size,_,I2,rfl,⟨_,x,y,rfl,hT0,rfl,λxs' q=>by rw[I.list_inj q qx];exact ex,λys' q=>by rw[I.list_inj q qy];exact ey⟩,?_,λb hb=>?_⟩
  ·refine ⟨hz'',(hs.2 _ D.TIz).trans (hk _ _ D.TIz D.TITO D.TIi1 D.TIi2 hTI),⟨_,_,(hs.2 _ D.TOz).trans a2⟩,a3.at λo e=>(hs.2 _ D.i1z).trans e,a4.at λo e=>(hs.2 _ D.i2z).trans e⟩
  ·obtain ⟨o,e,_⟩:∃o,s.heap.get? b=some o/\True:=by
    obtain ⟨o1,g1,_⟩:=h1;obtain ⟨o2,g2,_⟩:=h2;simp only[aB,aU,or_false] at hb;rcases hb with rfl | rfl | rfl | rfl | rfl
    ·exact ⟨_,hz,trivial⟩
    ·exact ⟨_,hTI,trivial⟩
    ·exact ⟨_,hTO,trivial⟩
    ·exact ⟨_,g1,trivial⟩
    ·exact ⟨_,g2,trivial⟩
   rw[bG (bZ (Heap.lt_size e))];exact (hf b hb).1
 done:=by
  intro X hP hw hK hc i pins s σ H E I hf st hg;subst hP hw hK;obtain ⟨hz,hTI,⟨a,c,hTO⟩,h1,h2⟩:=st;obtain ⟨xs,ys,qx,qy,hend⟩:=hg;obtain ⟨us,rx,px,_⟩:=I.list qx;obtain ⟨ws,ry,py,_⟩:=I.list qy;have lx:=rx.length;have ly:=ry.length;have D:=A5 hz hTI hTO h1 h2 px.isList py.isList hT hi
  refine wpAny_pyNext_zip_end (I.ok.hd hc) D hz hTI hTO h1 h2 px.isList py.isList (by
   rcases hend with q | q
   ·exact .inl (by simp;lia)
   ·exact .inr (by simp;lia)) λh' hk=>⟨rfl,?_⟩
  have up:∀b o,b∉[z,TO,i1,i2]->s.heap.get? b=some o->h'.get? b=some o:=λb o hb e=>by
   simp only[aB,aU,or_false,not_or] at hb;exact hk b o hb.1 hb.2.1 hb.2.2.1 hb.2.2.2 e
  have fx:∀b∈[z,TO,i1,i2],jV X pins H b:=λb hb=>hf b (by
   simp only[aB,aU,or_false] at hb ⊢;rcases hb with rfl | rfl | rfl | rfl <;> simp)
  have nx:∀b o,H b=some o->b∉[z,TO,i1,i2]:=λb o e hb=>by
   have:=(fx b hb).1;rw[this] at e;cases e
  refine I.step (g':=s.gens) (d':=s.drawn) (t':=s.toks) (ch:=[z,TO,i1,i2]) (λb hb=>?_) (λb o _ _ hb e _=>up b o hb e) (λb o _ _ hb e _=>⟨o.slots,up b o hb e⟩) (λb o hb e n=>n)
   (λb o hb e=>⟨o,up b o hb e⟩) (λb q e=>e) (λb o q e=>e) (λb q e=>⟨#[],by rw[e];simp⟩) (λm hm=>?_) (λb o e=>?_) I.bare
  ·obtain ⟨_,f1,_,f3,f4,f5⟩:=fx b hb;exact ⟨f3,f1,f4,f5⟩
  ·obtain ⟨o,es,ep,ho,r⟩:=hm;exact ⟨o,es,ep,up _ o (λz=>(fx _ z).2.1 rfl) ho,r⟩
  ·refine (I.hok b o e).stay (λc v' hc q=>up c v' ?_ q) (λc q=>q) λc xs q=>q
   rcases hc with rfl | hc
   ·exact nx _ _ e
   ·exact nx _ _ hc
 self:=λ_ _ _ _ _ st h=>wpAny_pyIter_zip st.1 h
section
variable {X:Cx}
def OU (K:FG9) (ta:TA):TI:=λσ H R=>ta σ H λvs H1=>∃l1 l2,vs=[.ref l1,.ref l2]/\(∃xs,bN K H1 l1 xs)/\(∃ys,bN K H1 l2 ys)/\R (Pa K l1 l2) H1
theorem rJ {a b:Expr} {ta:TA} {p pos tpos:Pos} {elts:List Expr} {kk:Nat} (hg:Gl X "zip") (hm:X.mg "zip"=none) (ha:PA X [a,b] ta) (hs:starEach [a,b] X.env=[(false,eval a X.env),(false,eval b X.env)]:=by rfl) (hs2:starEach [b] X.env=[(false,eval b X.env)]:=by rfl) :
  PI X (.Tuple elts kk tpos) (.Call (.Name "zip" p) [a,b] [] pos) (OU X.K ta):=by
 intro pins s σ H R I h;refine Call_ (jT I hg hm boot_zip (PyProof.Rows.callWith_type1 (gQ (ha pos pins s σ H _ I h) λus s1 ⟨vs,H1,I1,r1,q1⟩=>?_) (by rw[hs,hs2]) (by rw[hs2];rfl)));obtain ⟨l1,l2,e,⟨xs,qx⟩,⟨ys,qy⟩,q⟩:=q1;subst e;obtain ⟨u,v,rfl,ru,rv⟩:=vals2 r1;cases ru;cases rv;obtain ⟨us,rx,px,_⟩:=I1.list qx;obtain ⟨ws,ry,py,_⟩:=I1.list qy;refine call_zip_2 px.isList py.isList λh' a1 a2 a3 a4 a5 a6 hk=>wpAny_pyIter_zip a1 ?_
 have I2:Inv X pins σ H1 { s1 with heap:=h' }:=I1.kept (t':=s1.toks) hk;refine ⟨_,[s1.heap.objs.size+4,s1.heap.objs.size+2,s1.heap.objs.size+3,s1.heap.objs.size,s1.heap.objs.size+1],_,_,H1,rfl,I2,Jt (s1.heap.objs.size+4) (s1.heap.objs.size+2) (s1.heap.objs.size+3) s1.heap.objs.size (s1.heap.objs.size+1) l1 l2 (bZ (iM _)) (bZ (iM _)),⟨a1,a2,⟨_,_,a3⟩,a4,a5⟩,λb hb=>?_,q⟩
 have hb':s1.heap.objs.size<=b:=by
  simp only[aB,aU,or_false] at hb;rcases hb with rfl | rfl | rfl | rfl | rfl <;> first | exact yu _ _ | exact aj _
 exact I1.fpOk hb' (I1.hok.fresh hb')
theorem Ar (hc:X.calm=true):mG X (.builtin "all") (λxs H Q=>∃(p:Addr) (bs:List Bool),xs=[.ref p]/\bN X.K H p (bs.map V.bl)/\Q (.bl (bs.all id)) H):=by
 intro pins s σ H xs us Q I r h;obtain ⟨p,bs,rfl,hp,q⟩:=h;obtain ⟨u,rfl,ru⟩:=vals1 r;cases ru;obtain ⟨vs,rv,pl,hz⟩:=I.list hp
 have hb:PyProof.Rows.LSm.BoolsAre vs bs:=by
  clear q hp pl hz
  induction bs generalizing vs with
  | nil=>cases rv;exact .nil
  | cons b bs ih =>
   rw[ij] at rv;cases rv with
   | cons r1 r2=>cases r1;exact .cons b (ih _ r2)
 have hlt:p < s.heap.objs.size:=by obtain ⟨_,e,_⟩:=pl.isList;exact Heap.lt_size e
 refine call_all_walk (wpAny_pyIter_list pl.isList ?_)
 refine ⟨s.heap.objs.size,[s.heap.objs.size,p],[s.heap.objs.size],vs.toArray.size,_,_,λi=>(bs[i]?).getD true,rfl,Walks.list (A:=X.A.in1) (I.ok.hd hc) _ p (bZ hlt) vs.toArray,
  ⟨⟨_,Heap.get?_push_size _ rfl,rfl,rfl⟩,pl.isList.push _⟩,λi v s' Q' E' hP hQ=>?_,λh' tk hk=>?_⟩
 ·obtain ⟨b,e,rfl⟩:=hb.get i v (by simpa using hP);simp only[e,Option.getD_some] at hQ;exact wpAny_truthy_bool hQ
 ·have e:((List.range vs.toArray.size).all λi=>(bs[i]?).getD true)=bs.all id:=by
   rw[aJ,hb.length];exact PyProof.Rows.LSm.range_all bs
  rw[e];exact ⟨.bl _,H,I.kept (t':=tk) (PyProof.Rows.LSm.kept_iter hk),rfl,q⟩
theorem Lb (hc:X.calm=true):mG X (.builtin "sum") (λxs H Q=>∃(p:Addr) (ns:List Int),xs=[.ref p]/\bN X.K H p (ns.map V.int)/\Q (.int ns.sum) H):=by
 intro pins s σ H xs us Q I r h;obtain ⟨p,ns,rfl,hp,q⟩:=h;obtain ⟨u,rfl,ru⟩:=vals1 r;cases ru;obtain ⟨vs,rv,pl,_⟩:=I.list hp;have hi:IntsAre vs ns:=intsAre_of rv;obtain ⟨xs,hx⟩:=hi.allInts.items;have hl':s.heap.IsList p (intItems xs):=hx ▸ pl.isList;refine sum_intListG (I.ok.hd hc) hl' λh' tk t' hk=>?_
 have e1:ns=xs.toList.map (·.1):=by
  rw[<- nums_intItems,<- hx];exact (show numsOf vs.toArray.toList=ns from hi.numsOf).symm
 have e2:preSum (numAt xs) xs.size=ns.sum:=by
  rw[preSum_eq,aI (by simp),e1]
 rw[e2];exact ⟨.int _,H,I.kept (t':=tk) hk,⟨_,rfl⟩,q⟩
end
section
variable {K:FG9} {l1 l2:Addr} {xs ws:List V} {g:TG} {tf:TT} {te:TE} {Q:VK} {σ₀:St} {H:Hp}
theorem rA (Pv:Nat->List V->Hp->Prop) (hz:xs.length<=sizeLine) (hw:ws.length=xs.length) (h0:Pv 0 [] H) (hl:∀i ys H,i<=xs.length->Pv i ys H->bN K H l1 xs/\bN K H l2 ws)
  (hs:∀i x y ys H p,xs[i]?=some x->ws[i]?=some y->ys.length<=i->Pv i ys H->H p=none->pG σ₀ g tf te (.ref p) (upd H p (.tup [x,y])) (λy H'=>Pv (i+1) (ys++[y]) H') (λH'=>Pv (i+1) ys H'))
  (hd:∀ys H,ys.length<=xs.length->Pv xs.length ys H->∀p,H p=none->Q (.ref p) (upd H p (.lst ys))):pR (Pa K l1 l2) σ₀ g tf te Q H:=by
 refine ⟨λi m ys H=>m=xs.length - i/\i<=xs.length/\ys.length<=i/\Pv i ys H,⟨xs.length,by simp,bf _,bf _,h0⟩,?_⟩;rintro i m ys H ⟨rfl,hi,hy,p⟩;obtain ⟨q1,q2⟩:=hl i ys H hi p;by_cases hlt:i < xs.length
 ·refine .inr ⟨⟨xs,ws,xs[i],ws[i]'(by lia),q1,q2,by simp [hlt],by simp⟩,by lia,λy H'=>Pv (i+1) (ys++[y]) H',λH'=>Pv (i+1) ys H',λy H' p'=>⟨xs.length - (i+1),by lia,rfl,hlt,by rw[ak,bo];lia,p'⟩,λH' p'=>⟨xs.length - (i+1),by lia,rfl,hlt,by lia,p'⟩,λx H' y=>?_⟩;obtain ⟨r,x',y',rfl,hr,rfl,e1,e2⟩:=y;exact hs i x' y' ys _ r (e1 xs q1) (e2 ws q2) hy p hr
 ·have e:i=xs.length:=by lia
  subst e;exact .inl ⟨⟨xs,ws,q1,q2,.inl (aj _)⟩,by lia,hd ys H hy p⟩
theorem MI {tb:TS} {D:Ends} {σ:St} (Pv:Nat->St->Hp->Prop) (hw:ws.length=xs.length) (h0:Pv 0 σ H) (hl:∀i σ H,i<=xs.length->Pv i σ H->bN K H l1 xs/\bN K H l2 ws)
  (hs:∀i x y σ H p,xs[i]?=some x->ws[i]?=some y->Pv i σ H->H p=none->g (.ref p) σ (upd H p (.tup [x,y])) λσ2 H2=>tb { D with nx:=Pv (i+1),ct:=Pv (i+1),bk:=D.nx } σ2 H2) (hd:∀σ H,Pv xs.length σ H->D.nx σ H) :
  ∃W:Nat->Nat->St->Hp->Prop,(∃m,W 0 m σ H)/\∀i m σ H,W i m σ H →
   ((Pa K l1 l2).stop i H/\D.nx σ H)\/((Pa K l1 l2).go i H/\∃N:St->Hp->Prop,(∀σ' H',N σ' H'->∃m',m' < m/\W (i+1) m' σ' H')/\∀x H',(Pa K l1 l2).yld i H x H'->g x σ H' λσ2 H2=>tb { D with nx:=N,ct:=N,bk:=D.nx } σ2 H2):=by
 refine ⟨λi m σ H=>m=xs.length - i/\i<=xs.length/\Pv i σ H,⟨xs.length,by simp,bf _,h0⟩,?_⟩;rintro i m σ H ⟨rfl,hi,p⟩;obtain ⟨q1,q2⟩:=hl i σ H hi p;by_cases hlt:i < xs.length
 ·refine .inr ⟨⟨xs,ws,xs[i],ws[i]'(by lia),q1,q2,by simp [hlt],by simp⟩,Pv (i+1),λσ' H' p'=>⟨xs.length - (i+1),by lia,rfl,hlt,p'⟩,λx H' y=>?_⟩;obtain ⟨r,x',y',rfl,hr,rfl,e1,e2⟩:=y;exact hs i x' y' σ _ r (e1 xs q1) (e2 ws q2) p hr
 ·have e:i=xs.length:=by lia
  subst e;exact .inl ⟨⟨xs,ws,q1,q2,.inl (aj _)⟩,hd σ H p⟩
end
section
variable {X:Cx}
theorem rK (K:FG9) (n:Nat) {es:List Expr} {k:Nat} {pos:Pos} {t:Lj} (h:QJ X es t) (hK:X.K=K:=by rfl) (hc:X.calm=true:=by rfl)
  (hn:(assignEach es X.env).length=n:=by rfl) (hst:(assignEach es X.env).findIdx? (·.1)=none:=by rfl):PG X (.Tuple es k pos) (OY K n t):=by subst hK;exact t8 hc h hn hst
theorem o7 (K:FG9) (hK:X.K=K):QQ X (OC K):=by subst hK;exact bM
theorem fW (K:FG9) (hK:X.K=K):QQ X (OD K):=by subst hK;exact bS
theorem Mv (K:FG9) (hK:X.K=K) (hu:X.A.units+50 < cLine):yE X (compareOp .NotEq) (Qk K):=by subst hK;exact C4 hu
theorem Ey (K:FG9) {tg l:Expr} {tl:TE} (hl:PE X l tl) (hK:X.K=K:=by rfl):PI X tg l (KA K tl):=by subst hK;exact cE hl
theorem JH (K:FG9) (hK:X.K=K):RE X (OA K):=by subst hK;exact CH
end
theorem eI {X:Cx} {e e':Expr} {es:List Expr} {te:TE} {t:TA} (h:e=e') (ha:PE X e' te) (hr:PA X es t) (hs:∀l,starEach (e' :: l) X.env=(false,eval e' X.env) :: starEach l X.env:=by intro _;rfl):PA X (e :: es) (pZ te t):=by subst h;exact ae ha hr (hs _)
section
variable {σ:St} {H:Hp} {D:Ends} {Q:VK}
theorem iD {l:Addr} {xs:List V} {y:V} (hl:H l=some (.lst xs)) (hz:xs.length < sizeLine) (h:Q .non (upd H l (.lst (xs++[y])))):Gz (.ref l) [y] H Q:=⟨l,xs,y,rfl,rfl,hl,hz,h⟩
theorem L7 {K:FG9} {ta:TA} {R:It->Hp->Prop} (h:ta σ H λvs H1=>∃l1 l2,vs=[.ref l1,.ref l2]/\(∃xs,bN K H1 l1 xs)/\(∃ys,bN K H1 l2 ys)/\R (Pa K l1 l2) H1):OU K ta σ H R:=h
theorem iX {l b:Addr} {xs zs:List V} (h1:H l=some (.lst xs)) (h2:H b=some (.lst zs)) (hz:xs.length+zs.length<=sizeLine) (h:∀p H',aG H H'->H p=none->H' p=some (.lst (xs++zs))->Q (.ref p) H'):Qm (.ref l) (.ref b) H Q :=
 ⟨l,b,xs,zs,rfl,rfl,h1,h2,hz,λp hp=>h p _ (aG.new hp) hp aK⟩
theorem Oe {K:FG9} {a:Addr} {xs:List V} {lo hi:Option Int} (h1:bN K H a xs) (h:∀p H',aG H H'->H p=none->H' p=some (.lst (rY xs lo hi))->Q (.ref p) H'):OA K (.ref a) lo hi H Q :=
 ⟨a,xs,rfl,h1,λp hp=>h p _ (aG.new hp) hp aK⟩
theorem ky {α:Type} {xs:List α} {i:Int} (h0:0<=i) (h1:i < xs.length):∃v,F0 xs i=some v/\v∈xs/\xs[i.toNat]?=some v:=by
 have hj:i.toNat < xs.length:=by lia
 refine ⟨xs[i.toNat],?_,aP hj,by simp [hj]⟩;have:=fL (xs:=xs) (j:=i.toNat) (v:=xs[i.toNat]) (by simp [hj]);rwa [Int.toNat_of_nonneg h0] at this
end
theorem cL {α β:Type} {F:α->β->Prop}:∀{l1:List α} {l2:List β} {y:β},Paired F l1 l2->y∈l2->∃x∈l1,F x y
 | _,_,_,.nil,h=>nomatch h
 | _,_,_,.cons r t,h=>by
  rcases aB.mp h with rfl | h
  ·exact ⟨_,dk,r⟩
  ·obtain ⟨x,hx,q⟩:=cL t h;exact ⟨x,bW _ hx,q⟩
theorem cm {α β:Type} {F:α->β->Prop} {l1:List α} {l2:List β} {i:Nat} {y:β} (h:Paired F l1 l2) (e:l2[i]?=some y):∃x,l1[i]?=some x/\F x y:=by
 have hl:=h.length;have hi:i < l2.length:=(aE.mp e).1;refine ⟨l1[i]'(by lia),by simp,?_⟩;have:=jS h (i:=i) (by lia) hi;have e2:l2[i]=y:=(aE.mp e).2;rwa [e2] at this
def ym (n:Int×Int):Prop:=0 < n.2/\Int.gcd n.1 n.2=1/\Sz 8000 n.1/\Sz 8000 n.2
theorem take_snoc {α:Type} {l:List α} {i:Nat} {v:α} (h:l[i]?=some v):l.take (i+1)=l.take i++[v]:=by rw[List.take_add_one,h];rfl
theorem aG.after {H H':Hp} {r:Addr} {o:HO} (s:aG H H') (h:H r=Option.none):aG H (upd H' r o):=λb u e=>by rw[bG (fG e h)];exact s b u e
theorem cT.after {H H':Hp} {b r:Addr} {o:HO} (s:cT b H H') (h:H r=Option.none):cT b H (upd H' r o):=⟨λc u e n=>by rw[bG (fG e h)];exact s.1 c u e n,λq hi=>(s.2 q hi).upd λz=>by obtain ⟨_,_,_,e⟩:=hi;rw[<- z,h] at e;cases e⟩
theorem cT.same {H H' H'':Hp} {b:Addr} (s:cT b H H') (e:aG H' H''):cT b H H'':=s.trans e.upto
theorem DJ {α:Type} {Pr:α->Prop} {l:List α} {a:α} (h:∀n∈l,Pr n) (ha:Pr a):∀n∈l++[a],Pr n:=λn hn=>by
 rcases aw.mp hn with hn | hn
 ·exact h n hn
 ·have e:n=a:=by simpa using hn
  rw[e];exact ha
abbrev AB (h:Heap) (z TI TO:Addr) (f0 f1:Value):Prop:=h.get? z=some { cls:=.type "zip",dict:=none,data:=.fields #[f0,f1,.bool false,.ref TI,.ref TO],slots:=#[] }
section
variable {prog:Program} {w:World} {A:Around} {E:Value->Shared->Prop} {s:Shared}
theorem F2 {a:Addr} {o:Obj} {Q:Option Obj->Shared->Prop} (e:s.heap.get? a=some o) (h:Q (some o) s):wpAny (model prog w) A (loadIfAlive a) Q E s:=by
 intro Γ p hp;show Sem.wp _ _ (.loadIfAlive a .pure) _ _ _ _
 simp only[Sem.wp_loadIfAlive,e];exact wpAny_pure h Γ p hp
theorem zO {z TI TO T:Addr} {b1:Bool} {o:Obj} {Q:Bool->Shared->Prop} (zr:AB s.heap z TI TO (rawInt T) (.bool b1)) (al:s.heap.get? T=some o)
  (h:∀h',AB h' z TI TO (rawInt T) (.bool true)->Heap.SameBut z s.heap h'->Q false { s with heap:=h' }):wpAny (model prog w) A (Builtin.SmallTypes.ownedTupleIsFree (.ref z)) Q E s:=by
 unfold Builtin.SmallTypes.ownedTupleIsFree;refine wpAny_bind (wpAny_field zr rfl (x:=rawInt T) rfl ?_);refine wpAny_bind (F2 (a:=T) al ?_);refine wpAny_bind (wpAny_field zr rfl (x:=.bool b1) rfl ?_);cases b1 with
 | true=>exact wpAny_pure (h _ zr (.refl ..))
 | false=>exact wpAny_bind (wpAny_setField_rec zr (by simp) λh' zr' sb=>wpAny_pure (h h' zr' sb))
theorem IM {z TI TO T i1 i2 l1 l2:Addr} {k1 k2:Nat} {us ws:Array Value} {u v:Value} {b1:Bool} {o:Obj} {Q:Value->Shared->Prop} (D:ZipApart z TI TO i1 i2 l1 l2) (zr:AB s.heap z TI TO (rawInt T) (.bool b1)) (al:s.heap.get? T=some o)
  (pt:IsPair s.heap TI (.ref i1) (.ref i2)) (j1:s.heap.IsListIter i1 l1 k1) (j2:s.heap.IsListIter i2 l2 k2) (m1:s.heap.IsList l1 us) (m2:s.heap.IsList l2 ws) (eu:us[k1]?=some u) (ev:ws[k2]?=some v)
  (hQ:∀h',AB h' z TI TO (rawInt T) (.bool true)->h'.IsListIter i1 l1 (k1+1)->h'.IsListIter i2 l2 (k2+1)->IsPair h' s.heap.objs.size u v->(∀c o,c≠z->c≠i1->c≠i2->s.heap.get? c=some o->h'.get? c=some o)->Q (.ref s.heap.objs.size) { s with heap:=h' }) :
  wpAny (model prog w) A (Builtin.«zip.__next__» ⟨[.ref z],[]⟩) (λfin s'=>∃v,fin=.done (.ret v)/\Q v s') E s:=by
 change wpAny _ _ (field (Value.ref z) 2 >>= _) _ _ s
 refine wpAny_bind (wpAny_field zr rfl (x:=.bool false) rfl ?_)
 change wpAny _ _ (field (Value.ref z) 3 >>= _) _ _ s
 refine wpAny_bind (wpAny_field zr rfl (x:=.ref TI) rfl (wpAny_bind (wpAny_seqItems pt rfl ?_)))
 change wpAny _ _ (Builtin.SmallTypes.ownedTupleIsFree (Value.ref z) >>= _) _ _ s
 refine wpAny_bind (zO zr al λg1 zr1 sb1=>?_);simp only[iW,if_false];refine wpAny_bind ?_;rw[<- Array.forIn_toList];simp only[Lq,Cq];have j1':=j1.extBut sb1.extBut D.i1z;have m1':=m1.extBut sb1.extBut D.l1z;refine wpAny_bind (wpAny_bind (wpAny_holding ?_))
 change wpAny _ _ (Builtin.SmallTypes.nextOf (Value.ref i1) >>= _) _ _ _
 refine wpAny_bind (wpAny_nextOf_list_item j1' m1' eu λg2 j1a sb2=>wpAny_pure ?_);refine wpAny_pure ?_;have j2':=(j2.extBut sb1.extBut D.i2z).extBut sb2.extBut D.i12.symm;have m2':=(m2.extBut sb1.extBut D.l2z).extBut sb2.extBut D.l2i1;refine wpAny_bind (wpAny_bind (wpAny_holding ?_))
 change wpAny _ _ (Builtin.SmallTypes.nextOf (Value.ref i2) >>= _) _ _ _
 refine wpAny_bind (wpAny_nextOf_list_item j2' m2' ev λg3 j2a sb3=>wpAny_pure ?_);refine wpAny_pure (wpAny_pure ?_);refine wpAny_bind (wpAny_newTuple (hsz:=jm rfl) ?_);have sz:g3.objs.size=s.heap.objs.size:=by rw[sb3.1,sb2.1,sb1.1]
 have up:∀c o,c≠z->c≠i1->c≠i2->s.heap.get? c=some o->g3.get? c=some o:=λc o c1 c2 c3 e=>sb3.extBut _ _ c3 (sb2.extBut _ _ c2 (sb1.extBut _ _ c1 e))
 have zr3:AB g3 z TI TO (rawInt T) (.bool true):=sb3.extBut _ _ D.i2z.symm (sb2.extBut _ _ D.i1z.symm zr1);refine wpAny_pure ⟨_,rfl,?_⟩
 change Q (.ref g3.objs.size) { s with heap:=g3.push { cls:=.type "tuple",data:=.seq #[u,v] } }
 have last:=hQ (g3.push { cls:=.type "tuple",data:=.seq #[u,v] }) (Heap.get?_push_of_some _ zr3) ((j1a.extBut sb3.extBut D.i12).at λo e=>Heap.get?_push_of_some _ e) (j2a.at λo e=>Heap.get?_push_of_some _ e)
  (by rw[<- sz];exact Heap.get?_push_size _ rfl) λc o c1 c2 c3 e=>Heap.get?_push_of_some _ (up c o c1 c2 c3 e)
 rw[sz];exact last
theorem Kj {z TI TO T i1 i2 l1 l2:Addr} {k1:Nat} {us:Array Value} {b1:Bool} {o:Obj} {Q:PySem.Fin->Shared->Prop} (hh:A.handled=none) (D:ZipApart z TI TO i1 i2 l1 l2) (zr:AB s.heap z TI TO (rawInt T) (.bool b1)) (al:s.heap.get? T=some o)
  (pt:IsPair s.heap TI (.ref i1) (.ref i2)) (j1:s.heap.IsListIter i1 l1 k1) (m1:s.heap.IsList l1 us) (eu:us[k1]?=none)
  (hE:∀h' e,(∀c o,c≠z->c≠i1->c≠i2->s.heap.get? c=some o->h'.get? c=some o)->(∃o,h'.get? e=some o/\o.cls=.type "StopIteration")->E (.ref e) { s with heap:=h' }) :
  wpAny (model prog w) A (Builtin.«zip.__next__» ⟨[.ref z],[]⟩) Q E s:=by
 change wpAny _ _ (field (Value.ref z) 2 >>= _) _ _ s
 refine wpAny_bind (wpAny_field zr rfl (x:=.bool false) rfl ?_)
 change wpAny _ _ (field (Value.ref z) 3 >>= _) _ _ s
 refine wpAny_bind (wpAny_field zr rfl (x:=.ref TI) rfl (wpAny_bind (wpAny_seqItems pt rfl ?_)))
 change wpAny _ _ (Builtin.SmallTypes.ownedTupleIsFree (Value.ref z) >>= _) _ _ s
 refine wpAny_bind (zO zr al λg1 zr1 sb1=>?_);simp only[iW,if_false];refine wpAny_bind ?_;rw[<- Array.forIn_toList];simp only[Lq,Cq];refine wpAny_bind (wpAny_bind (wpAny_holding ?_))
 change wpAny _ _ (Builtin.SmallTypes.nextOf (Value.ref i1) >>= _) _ _ _
 exact wpAny_bind (wpAny_nextOf_list_end hh (j1.extBut sb1.extBut D.i1z) (m1.extBut sb1.extBut D.l1z) eu λg2 e xb he=>hE g2 e (λc o c1 c2 _ q=>xb _ _ c2 (sb1.extBut _ _ c1 q)) he)
theorem IH {z TI TO T i1 i2 l1 l2:Addr} {k1 k2:Nat} {us ws:Array Value} {u v:Value} {b1:Bool} {o:Obj} {Q:Option Value->Shared->Prop} (D:ZipApart z TI TO i1 i2 l1 l2) (zr:AB s.heap z TI TO (rawInt T) (.bool b1)) (al:s.heap.get? T=some o)
  (pt:IsPair s.heap TI (.ref i1) (.ref i2)) (j1:s.heap.IsListIter i1 l1 k1) (j2:s.heap.IsListIter i2 l2 k2) (m1:s.heap.IsList l1 us) (m2:s.heap.IsList l2 ws) (eu:us[k1]?=some u) (ev:ws[k2]?=some v)
  (hQ:∀h',AB h' z TI TO (rawInt T) (.bool true)->h'.IsListIter i1 l1 (k1+1)->h'.IsListIter i2 l2 (k2+1)->IsPair h' s.heap.objs.size u v->(∀c o,c≠z->c≠i1->c≠i2->s.heap.get? c=some o->h'.get? c=some o)->Q (some (.ref s.heap.objs.size)) { s with heap:=h' }) :
  wpAny (model prog w) A (pyNext (.ref z)) Q E s:=by
 have ty:s.TypeIs (.ref z) "zip":=⟨_,zr,rfl⟩;unfold pyNext;refine wpAny_bind (wpAny_attempt (wpAny_callSpecial?_slot (name:=Str.ofString "__next__") ty oa (wpAny_call_entry oa ty PySem.F.entry_zip_next ?_ (QV _))));exact IM D zr al pt j1 j2 m1 m2 eu ev λh' a1 a2 a3 a4 a5=>wpAny_pure (hQ h' a1 a2 a3 a4 a5)
theorem IG {z TI TO T i1 i2 l1 l2:Addr} {k1:Nat} {us:Array Value} {b1:Bool} {o:Obj} {Q:Option Value->Shared->Prop} (hh:A.handled=none) (D:ZipApart z TI TO i1 i2 l1 l2) (zr:AB s.heap z TI TO (rawInt T) (.bool b1)) (al:s.heap.get? T=some o)
  (pt:IsPair s.heap TI (.ref i1) (.ref i2)) (j1:s.heap.IsListIter i1 l1 k1) (m1:s.heap.IsList l1 us) (eu:us[k1]?=none)
  (hQ:∀h',(∀c o,c≠z->c≠i1->c≠i2->s.heap.get? c=some o->h'.get? c=some o)->Q none { s with heap:=h' }):wpAny (model prog w) A (pyNext (.ref z)) Q E s:=by
 have ty:s.TypeIs (.ref z) "zip":=⟨_,zr,rfl⟩;unfold pyNext;refine wpAny_bind (wpAny_attempt (wpAny_callSpecial?_slot (name:=Str.ofString "__next__") ty oa (wpAny_call_entry oa ty PySem.F.entry_zip_next ?_ (QV _))));refine Kj hh D zr al pt j1 m1 eu λh' e kk ⟨oe,he,hc⟩=>?_
 exact wpAny_bind (wpAny_isInstance (T:="StopIteration") (b:=true) ⟨oe,he,hc⟩ isSubtype_stop (wpAny_pure (hQ _ kk)))
end
section
variable {X:Cx} {pins:List (Addr×Obj)} {σ:St} {H:Hp} {s:Shared}
theorem Inv.moved {h':Heap} {ch:List Addr} {g':Array GenState} {d':Drawn} {t':Nat} (I:Inv X pins σ H s) (fx:∀b∈ch,jV X pins H b) (up:∀b o,b∉ch->s.heap.get? b=some o->h'.get? b=some o) (hg:AllBare g') :
  Inv X pins σ H { s with heap:=h',gens:=g',drawn:=d',toks:=t' }:=by
 have nx:∀b o,H b=some o->b∉ch:=λb o e hb=>by have:=(fx b hb).1;rw[this] at e;cases e
 refine I.step (ch:=ch) (λb hb=>?_) (λb o _ _ hb e _=>up b o hb e) (λb o _ _ hb e _=>⟨o.slots,up b o hb e⟩) (λb o hb e n=>n) (λb o hb e=>⟨o,up b o hb e⟩) (λb q e=>e) (λb o q e=>e) (λb q e=>⟨#[],by rw[e];simp⟩) (λm hm=>?_) (λb o e=>?_) hg
 ·obtain ⟨_,f1,_,f3,f4,f5⟩:=fx b hb;exact ⟨f3,f1,f4,f5⟩
 ·obtain ⟨o,es,ep,ho,r⟩:=hm;exact ⟨o,es,ep,up _ o (λz=>(fx _ z).2.1 rfl) ho,r⟩
 ·refine (I.hok b o e).stay (λc v' hc q=>up c v' ?_ q) (λc q=>q) λc xs q=>q
  rcases hc with rfl | hc
  ·exact nx _ _ e
  ·exact nx _ _ hc
theorem Inv.track {p:Addr} {o:HO} (I:Inv X pins σ H s) (fp:jV X pins H p) (new:gi X.prog X.w (upd H p o) s.heap p o):Inv X pins σ (upd H p o) s:=by
 have nt:∀{b:Addr} {u:HO},H b=some u->b≠p:=λe z=>by rw[z,fp.1] at e;cases e
 refine I.step (h':=s.heap) (g':=s.gens) (d':=s.drawn) (t':=s.toks) (ch:=[p]) (λb hb=>?_) (λb o _ _ _ e _=>e) (λb o _ _ _ e _=>⟨o.slots,e⟩) (λb o hb e n=>?_) (λb o _ e=>⟨o,e⟩) (λb q e=>by rw[bG (nt e)];exact e) (λb o q e=>by rw[bG (nt e)];exact e)
  (λb q e=>⟨#[],by rw[bG (nt e),e];simp⟩) (λm hm=>hm) (λb u e=>?_) I.bare
 ·have e:b=p:=by simpa using hb
  subst e;obtain ⟨_,f1,_,f3,f4,f5⟩:=fp;exact ⟨f3,f1,f4,f5⟩
 ·rw[bG λz=>hb (by simp [z])];exact n
 ·by_cases hb:b=p
  ·subst hb;rw[aK] at e;cases e;exact new
  ·rw[bG hb] at e;exact (I.hok b u e).stay (λc v _ q=>q) (λc q=>by rw[bG (nt q)];exact q) λc xs q=>by rw[bG (nt q)];exact q
end
def NI (H:Hp) (p:V×V) (x:V):Prop:=∃T,x=.ref T/\H T=some (.tup [p.1,p.2])
theorem NI.same {H H':Hp} {p:V×V} {x:V} (h:NI H p x) (e:aG H H'):NI H' p x:=by obtain ⟨T,q,g⟩:=h;exact ⟨T,q,e _ _ g⟩
def Zst (h:Heap) (z TI TO:Addr) (base:Nat):Prop:=(∃a b,IsPair h TO a b)/\(IsZip h z TI TO .none\/∃(T:Addr) (b1:Bool) (o:Obj),AB h z TI TO (rawInt T) (.bool b1)/\h.get? T=some o/\@LE.le Nat instLENat base T)
theorem Ct {h:Heap} {z TI TO i1 i2 l1 l2:Addr} {f0 f1 a b:Value} {k1 k2:Nat} {xs ys:Array Value} (hz:AB h z TI TO f0 f1) (hTI:IsPair h TI (.ref i1) (.ref i2)) (hTO:IsPair h TO a b) (h1:h.IsListIter i1 l1 k1) (h2:h.IsListIter i2 l2 k2) (hl1:h.IsList l1 xs) (hl2:h.IsList l2 ys) (hT:TI≠TO) (hi:i1≠i2):ZipApart z TI TO i1 i2 l1 l2:=by
 obtain ⟨o1,g1,c1,_⟩:=h1;obtain ⟨o2,g2,c2,_⟩:=h2;obtain ⟨p1,q1,d1,_⟩:=hl1;obtain ⟨p2,q2,d2,_⟩:=hl2;have zt:Value.type "zip"≠.type "tuple":=lh (by decide);have it:Value.type "list_iterator"≠.type "tuple":=lh (by decide);have iz:Value.type "list_iterator"≠.type "zip":=lh (by decide);have lz:Value.type "list"≠.type "zip":=lh (by decide);have lt:Value.type "list"≠.type "tuple":=lh (by decide);have li:Value.type "list"≠.type "list_iterator":=lh (by decide)
 exact ⟨dg hTI hz zt.symm,dg hTO hz zt.symm,dg g1 hz (by rw[c1];exact iz),dg g2 hz (by rw[c2];exact iz),hT,dg hTI g1 (by rw[c1];exact it.symm),dg hTI g2 (by rw[c2];exact it.symm),dg hTO g1 (by rw[c1];exact it.symm),dg hTO g2 (by rw[c2];exact it.symm),hi,
  dg q1 hz (by rw[d1];exact lz),dg q1 hTO (by rw[d1];exact lt),dg q1 g1 (by rw[d1,c1];exact li),dg q1 g2 (by rw[d1,c2];exact li),dg q2 hz (by rw[d2];exact lz),dg q2 hTO (by rw[d2];exact lt),dg q2 g1 (by rw[d2,c1];exact li),dg q2 g2 (by rw[d2,c2];exact li)⟩
section
variable {X:Cx} {pins:List (Addr×Obj)} {σ:St}
theorem jV.heap {H H':Hp} {b:Addr} (f:jV X pins H b) (e:H' b=none):jV X pins H' b:=⟨e,f.2⟩
structure DM where
 z:Addr
 TI:Addr
 TO:Addr
 i1:Addr
 i2:Addr
 S:Addr
 base:Nat
def DM.all (a:DM):List Addr:=[a.z,a.TI,a.TO,a.i1,a.i2,a.S]
structure DM.Ok (a:DM):Prop where
 tt:a.TI≠a.TO
 ii:a.i1≠a.i2
 Sz:a.S≠a.z
 STI:a.S≠a.TI
 STO:a.S≠a.TO
 Si1:a.S≠a.i1
 Si2:a.S≠a.i2
 lt:∀b∈a.all,@LT.lt Nat instLTNat b a.base
structure MW (X:Cx) (pins:List (Addr×Obj)) (σ:St) (H1:Hp) (a:DM) (l1 l2:Addr) (i:Nat) (H:Hp) (s:Shared):Prop where
 inv:Inv X pins σ H s
 same:aG H1 H
 fps:∀b∈a.all,jV X pins H b
 sz:a.base<=s.heap.objs.size
 zst:Zst s.heap a.z a.TI a.TO a.base
 pt:IsPair s.heap a.TI (.ref a.i1) (.ref a.i2)
 j1:s.heap.IsListIter a.i1 l1 i
 j2:s.heap.IsListIter a.i2 l2 i
variable {a:DM} {l1 l2:Addr} {H1 H:Hp} {s:Shared} {i:Nat} {xs ys:List V}
theorem MW.push {h':Heap} (L:MW X pins σ H1 a l1 l2 i H s) (O:a.Ok) (k:∀b o,b≠a.S->s.heap.get? b=some o->h'.get? b=some o) (hz:h'.objs.size=s.heap.objs.size):MW X pins σ H1 a l1 l2 i H { s with heap:=h' }:=by
 refine ⟨L.inv.moved (g':=s.gens) (d':=s.drawn) (t':=s.toks) (ch:=[a.S]) (λb hb=>?_) (λb o hb e=>k b o (λz=>hb (by simp [z])) e) L.inv.bare,L.same,L.fps,by show a.base<=h'.objs.size;rw[hz];exact L.sz,?_,k _ _ O.STI.symm L.pt,L.j1.at λo e=>k _ o O.Si1.symm e,L.j2.at λo e=>k _ o O.Si2.symm e⟩
 ·have e:b=a.S:=by simpa using hb
  rw[e];exact L.fps _ (by simp [DM.all])
 ·obtain ⟨⟨c,d,z0⟩,z4⟩:=L.zst;refine ⟨⟨c,d,k _ _ O.STO.symm z0⟩,?_⟩;rcases z4 with z1 | ⟨T,b1,o,z1,z2,z3⟩
  ·exact .inl (k _ _ O.Sz.symm z1)
  ·refine .inr ⟨T,b1,o,k _ _ O.Sz.symm z1,k _ _ (λe=>?_) z2,z3⟩;have:=O.lt a.S (by simp [DM.all]);rw[<- e] at this;exact absurd this (Nat.not_lt.mpr z3)
theorem Jn {A':Around} {E:Value->Shared->Prop} {Q:Option Value->Shared->Prop} (O:a.Ok) (q1:bN X.K H1 l1 xs) (q2:bN X.K H1 l2 ys) {x y:V} (ex:xs[i]?=some x) (ey:ys[i]?=some y) (L:MW X pins σ H1 a l1 l2 i H s)
  (hQ:∀s',MW X pins σ H1 a l1 l2 (i+1) (upd H s.heap.objs.size (.tup [x,y])) s'->(∀c o,c∉[a.z,a.TO,a.i1,a.i2]->s.heap.get? c=some o->s'.heap.get? c=some o)->H s.heap.objs.size=none->Q (some (.ref s.heap.objs.size)) s'):wpAny (model X.prog X.w) A' (pyNext (.ref a.z)) Q E s:=by
 obtain ⟨I,sm,fps,sz,zst,pt,j1,j2⟩:=id L;obtain ⟨us,ru,pu,_⟩:=I.list (sm.seq q1);obtain ⟨ws,rw',pw,_⟩:=I.list (sm.seq q2);obtain ⟨u,eu,r1⟩:=ru.get ex;obtain ⟨v,ev,r2⟩:=rw'.get ey;have fx:∀b∈[a.z,a.TO,a.i1,a.i2],jV X pins H b:=λb hb=>fps b (by simp only[DM.all,aB,aU,or_false] at hb ⊢;rcases hb with e | e | e | e <;> simp [e])
 have hT0:H s.heap.objs.size=none:=I.hok.fresh (aj _);have fT:jV X pins H s.heap.objs.size:=I.fpOk (aj _) hT0;have lt:∀b∈a.all,b≠s.heap.objs.size:=λb hb e=>by have:=O.lt b hb;rw[e] at this;exact absurd this (Nat.not_lt.mpr sz)
 have fin:∀h',(∀c o,c∉[a.z,a.TO,a.i1,a.i2]->s.heap.get? c=some o->h'.get? c=some o)->IsPair h' s.heap.objs.size u v->IsPair h' a.TI (.ref a.i1) (.ref a.i2)->h'.IsListIter a.i1 l1 (i+1)->h'.IsListIter a.i2 l2 (i+1)->Zst h' a.z a.TI a.TO a.base →
   Q (some (.ref s.heap.objs.size)) { s with heap:=h' }:=λh' up pr pt' j1' j2' zst'=>by
  have I2:Inv X pins σ H { s with heap:=h' }:=I.moved (g':=s.gens) (d':=s.drawn) (t':=s.toks) fx up I.bare;have I3:Inv X pins σ (upd H s.heap.objs.size (.tup [x,y])) { s with heap:=h' }:=I2.track fT ⟨jm rfl,[u,v],.cons r1 (.cons r2 .nil),⟨_,pr,rfl,_,rfl⟩⟩;refine hQ _ ⟨I3,sm.trans (aG.new hT0),λb hb=>(fps b hb).heap (by rw[bG (lt b hb)];exact (fps b hb).1),?_,zst',pt',j1',j2'⟩ up hT0;exact ai sz (aZ (Heap.lt_size pr))
 obtain ⟨⟨c,d,z0⟩,z4⟩:=zst;rcases z4 with z1 | ⟨T,b1,o,z1,z2,z3⟩
 ·have D:=Ct z1 pt z0 j1 j2 pu.isList pw.isList O.tt O.ii;refine wpAny_pyNext_zip_item D z1 pt z0 j1 j2 pu.isList pw.isList (x:=u) (y:=v) (by simpa using eu) (by simpa using ev) λh' a1 a2 a3 a4 a5 a6 hk=>?_
  have up:∀c o,c∉[a.z,a.TO,a.i1,a.i2]->s.heap.get? c=some o->h'.get? c=some o:=λc o hc e=>by
   simp only[aB,aU,or_false,not_or] at hc;exact hk c o hc.1 hc.2.1 hc.2.2.1 hc.2.2.2 e
  exact fin h' up a5 (hk _ _ D.TIz D.TITO D.TIi1 D.TIi2 pt) a3 a4 ⟨⟨_,_,a2⟩,.inr ⟨s.heap.objs.size,false,_,a1,a5,sz⟩⟩
 ·have D:=Ct z1 pt z0 j1 j2 pu.isList pw.isList O.tt O.ii;refine IH D z1 z2 pt j1 j2 pu.isList pw.isList (u:=u) (v:=v) (by simpa using eu) (by simpa using ev) λh' a1 a3 a4 a5 hk=>?_
  have up:∀c o,c∉[a.z,a.TO,a.i1,a.i2]->s.heap.get? c=some o->h'.get? c=some o:=λc o hc e=>by
   simp only[aB,aU,or_false,not_or] at hc;exact hk c o hc.1 hc.2.2.1 hc.2.2.2 e
  have Tn:∀b∈a.all,T≠b:=λb hb e=>by have:=O.lt b hb;rw[<- e] at this;exact absurd this (Nat.not_lt.mpr z3)
  exact fin h' up a5 (hk _ _ D.TIz D.TIi1 D.TIi2 pt) a3 a4 ⟨⟨_,_,hk _ _ D.TOz D.TOi1 D.TOi2 z0⟩,.inr ⟨T,true,o,a1,hk _ _ (Tn _ (by simp [DM.all])) (Tn _ (by simp [DM.all])) (Tn _ (by simp [DM.all])) z2,z3⟩⟩
theorem Jm {A':Around} {E:Value->Shared->Prop} {Q:Option Value->Shared->Prop} (hh:A'.handled=none) (O:a.Ok) (q1:bN X.K H1 l1 xs) (q2:bN X.K H1 l2 ys) (hi:xs.length<=i) (L:MW X pins σ H1 a l1 l2 i H s)
  (hQ:∀s',Inv X pins σ H s'->(∀c o,c∉[a.z,a.TO,a.i1,a.i2]->s.heap.get? c=some o->s'.heap.get? c=some o)->Q none s'):wpAny (model X.prog X.w) A' (pyNext (.ref a.z)) Q E s:=by
 obtain ⟨I,sm,fps,sz,zst,pt,j1,j2⟩:=id L;obtain ⟨us,ru,pu,_⟩:=I.list (sm.seq q1);obtain ⟨ws,rw',pw,_⟩:=I.list (sm.seq q2);have lx:=ru.length;have none1:us.toArray[i]?=none:=by simp;lia
 have fx:∀b∈[a.z,a.TO,a.i1,a.i2],jV X pins H b:=λb hb=>fps b (by simp only[DM.all,aB,aU,or_false] at hb ⊢;rcases hb with e | e | e | e <;> simp [e])
 have fin:∀h',(∀c o,c∉[a.z,a.TO,a.i1,a.i2]->s.heap.get? c=some o->h'.get? c=some o)->Q none { s with heap:=h' }:=λh' up=>hQ _ (I.moved (g':=s.gens) (d':=s.drawn) (t':=s.toks) fx up I.bare) up
 obtain ⟨⟨c,d,z0⟩,z4⟩:=zst;rcases z4 with z1 | ⟨T,b1,o,z1,z2,z3⟩
 ·have D:=Ct z1 pt z0 j1 j2 pu.isList pw.isList O.tt O.ii;refine wpAny_pyNext_zip_end hh D z1 pt z0 j1 j2 pu.isList pw.isList (.inl none1) λh' hk=>fin h' λc o hc e=>?_
  simp only[aB,aU,or_false,not_or] at hc;exact hk c o hc.1 hc.2.1 hc.2.2.1 hc.2.2.2 e
 ·have D:=Ct z1 pt z0 j1 j2 pu.isList pw.isList O.tt O.ii;refine IG hh D z1 z2 pt j1 pu.isList none1 λh' hk=>fin h' λc o hc e=>?_
  simp only[aB,aU,or_false,not_or] at hc;exact hk c o hc.1 hc.2.2.1 hc.2.2.2 e
theorem Jq {A':Around} {R:Result->Shared->Prop} (hh:A'.handled=none) (O:a.Ok) (hz:xs.length<=sizeLine) (hl:ys.length=xs.length) (q1:bN X.K H1 l1 xs) (q2:bN X.K H1 l2 ys)
  (fin:∀s' H' ts acc c,Inv X pins σ H' s'->aG H1 H'->jV X pins H' a.S->s'.heap.get? a.S=some (lobj acc c)->cO ts acc->Paired (NI H') (xs.zip ys) ts->R (.ok (.ret .none)) s') :
  ∀(k i:Nat) (s:Shared) (H:Hp) (ts:List V) (acc:List Value) (c:Nat),xs.length - i=k->i<=xs.length->MW X pins σ H1 a l1 l2 i H s->s.heap.get? a.S=some (lobj acc c)->cO ts acc->Paired (NI H) ((xs.zip ys).take i) ts →
   codeAny (model X.prog X.w) A' (.builtin "list.extend.loop" ⟨[.ref a.S,.ref a.z,.none],[]⟩) R s:=by
 have Sn:a.S∉[a.z,a.TO,a.i1,a.i2]:=λh=>by
  simp only[aB,aU,or_false] at h;rcases h with e | e | e | e
  ·exact O.Sz e
  ·exact O.STO e
  ·exact O.Si1 e
  ·exact O.Si2 e
 intro k
 induction k with
 | zero =>
  intro i s H ts acc c hk hi L gS rv prs;have e:i=xs.length:=by lia
  refine codeAny_builtin Pf ?_;rw[Around.under_plainId kz _]
  change wpAny _ A'.in1 (pyNext (Value.ref a.z) >>= _) _ _ s
  refine wpAny_bind (Jm hh O q1 q2 (by lia) L λs' I' up=>wpAny_pure (fin s' H ts acc c I' L.same (L.fps _ (by simp [DM.all])) (up _ _ Sn gS) rv ?_));rwa [aI (by rw[AI];lia)] at prs
 | succ k ih =>
  intro i s H ts acc c hk hi L gS rv prs;have hlt:i < xs.length:=by lia
  have lt:=prs.length;have la:=rv.length;refine codeAny_builtin Pf ?_;rw[Around.under_plainId kz _]
  change wpAny _ A'.in1 (pyNext (Value.ref a.z) >>= _) _ _ s
  refine wpAny_bind (Jn O q1 q2 (x:=xs[i]) (y:=ys[i]'(by lia)) (by simp [hlt]) (by simp) L λs' L' up hT=>?_);have gS':=up _ _ Sn gS
  change wpAny _ A'.in1 (updateSeq a.S (·.push (Value.ref s.heap.objs.size)) >>= _) _ _ s'
  have small:acc.length<=sizeLine:=by
   rw[cH,AI] at lt
   lia
  refine wpAny_bind (wpAny_updateSeq gS' rfl (wpAny_pure ⟨plainId_quiet kz _,?_⟩) (by rw[aJ];exact small) (by
   show (acc.toArray.push (Value.ref s.heap.objs.size)).size<=sizeLine+1
   rw[Array.size_push,aJ]
   lia))
  have gS2:=ki gS' (λb=>b.push (Value.ref s.heap.objs.size));have e2:(acc.toArray.push (Value.ref s.heap.objs.size))=(acc++[Value.ref s.heap.objs.size]).toArray:=by simp
  rw[e2] at gS2;refine ih (i+1) _ (upd H s.heap.objs.size (.tup [xs[i],ys[i]'(by lia)])) (ts++[.ref s.heap.objs.size]) (acc++[.ref s.heap.objs.size]) _ (by lia) hlt (L'.push O (λb o hb e=>(Heap.get?_update_other _ _ (Ne.symm hb)).trans e) (Heap.size_update ..)) gS2 (rv.append (show cO [V.ref s.heap.objs.size] [Value.ref s.heap.objs.size] from .cons rfl .nil)) ?_;have zp:(xs.zip ys)[i]?=some (xs[i],ys[i]'(by lia)):=by simp [Pg,hlt]
  rw[take_snoc zp];exact (Paired.imp' (λ_ _ z=>z.same (aG.new hT)) prs).snoc ⟨_,rfl,aK⟩
theorem Fi:typeLookup (.type "zip") "__len__"=pure Option.none:=by rw[typeLookup_type,builtinLookup_eq_fast];kernel_rfl
theorem DV:typeLookup (.type "zip") "__length_hint__"=pure Option.none:=by rw[typeLookup_type,builtinLookup_eq_fast];kernel_rfl
theorem Jo {A' : Around} {R : Result → Shared → Prop} (hh : A'.handled = none) (O : a.Ok) (hz : xs.length ≤ sizeLine) (hl : ys.length = xs.length) (q1 : bN X.K H1 l1 xs) (q2 : bN X.K H1 l2 ys) (L : MW X pins σ H1 a l1 l2 0 H s) (gS : s.heap.get? a.S = some (lobj [] 0)) (z0 : IsZip s.heap a.z a.TI a.TO .none)
    (fin : ∀ s' H' ts acc c, Inv X pins σ H' s' → aG H1 H' → jV X pins H' a.S → s'.heap.get? a.S = some (lobj acc c) → cO ts acc → Paired (NI H') (xs.zip ys) ts → R (.ok (.ret .none)) s') :
    wpAny (model X.prog X.w) A'.in1 (Builtin.«list.__init__» ⟨[.ref a.S, .ref a.z], []⟩) (λfl s' => match fl with | .done f => R (.ok f) s' | .again c' => c'.quiet = true /\ codeAny (model X.prog X.w) A' c' R s') (λe s' => R (.error e) s') s := by
  change wpAny _ A'.in1 (do let old <- Builtin.List.listItems (Value.ref a.S); Builtin.List.listUpdate (Value.ref a.S) (λ_ => #[]); letGo old.toList.reverse; Builtin.List.listExtendWith (Value.ref a.S) (Value.ref a.z) Value.none) _ _ s
  refine wpAny_bind ?_;unfold Builtin.List.listItems;refine wpAny_bind (wpAny_seqItems gS rfl (wpAny_pure ?_))
  change wpAny _ A'.in1 (updateSeq a.S (λ_ => #[]) >>= λ_ => letGo (#[] : Array Value).toList.reverse >>= λ_ => Builtin.List.listExtendWith (Value.ref a.S) (Value.ref a.z) Value.none) _ _ s
  refine wpAny_bind (wpAny_updateSeq gS rfl ?_);have g1 := ki gS (λ_ => (#[] : Array Value));obtain ⟨n1, g1⟩ : ∃ n1, (s.heap.update a.S (Obj.mapSeq λ_ => (#[] : Array Value))).get? a.S = some (lobj [] n1) := ⟨_, g1⟩;have L1 := L.push (h' := s.heap.update a.S (Obj.mapSeq λ_ => (#[] : Array Value))) O (λb o hb e => (Heap.get?_update_other _ _ (Ne.symm hb)).trans e) (Heap.size_update ..);have z1 : IsZip (s.heap.update a.S (Obj.mapSeq λ_ => (#[] : Array Value))) a.z a.TI a.TO .none := (Heap.get?_update_other _ _ O.Sz).trans z0;refine wpAny_bind (wpAny_letGo ?_);unfold Builtin.List.listExtendWith;have ty : Shared.TypeIs { s with heap := s.heap.update a.S (Obj.mapSeq λ_ => (#[] : Array Value)) } (.ref a.z) "zip" := ⟨_, z1, rfl⟩;refine wpAny_bind (wpAny_typeOf ty ?_);have h1 : Builtin.List.listSameRef (.ref a.S) (.ref a.z) = false := by simp [Builtin.List.listSameRef, O.Sz]
  have h2 : (Value.type "zip" == Value.type "list") = false := by decide
  have h3 : (Value.type "zip" == Value.type "tuple") = false := by decide
  simp only [h1, h2, h3, Bool.or_false, iW, if_false];refine wpAny_bind (wpAny_pyIter_zip z1 (wpAny_bind (wpAny_holding ?_)));unfold Builtin.List.listLengthHint;refine wpAny_bind (wpAny_specialOf ty Fi ?_)
  change wpAny _ A'.in1 (specialOf (Value.ref a.z) (Str.ofString "__length_hint__") >>= _) _ _ _
  refine wpAny_bind (wpAny_specialOf ty DV (wpAny_pure ?_))
  change wpAny _ A'.in1 (rule "list.extend.makes-room" >>= λ_ => Builtin.List.listTouch (Value.ref a.S) >>= λ_ => again (.builtin "list.extend.loop" ⟨[Value.ref a.S, Value.ref a.z, Value.none], []⟩)) _ _ _
  refine wpAny_bind (wpAny_rule (wpAny_bind ?_))
  change wpAny _ A'.in1 (updateSeq a.S (·.push Value.none) >>= λ_ => updateSeq a.S (·.pop)) _ _ _
  refine wpAny_bind (wpAny_updateSeq g1 rfl ?_);have g2 := ki g1 (λb => b.push Value.none);obtain ⟨n2, g2⟩ : ∃ n2, ((s.heap.update a.S (Obj.mapSeq λ_ => (#[] : Array Value))).update a.S (Obj.mapSeq λb => b.push Value.none)).get? a.S = some (lobj [Value.none] n2) := ⟨_, g2⟩;have L2 := L1.push (h' := (s.heap.update a.S (Obj.mapSeq λ_ => (#[] : Array Value))).update a.S (Obj.mapSeq λb => b.push Value.none)) O (λb o hb e => (Heap.get?_update_other _ _ (Ne.symm hb)).trans e) (Heap.size_update ..);refine wpAny_updateSeq g2 rfl ?_ (jm rfl);have g3 := ki g2 (λb => b.pop);have L3 := L2.push (h' := ((s.heap.update a.S (Obj.mapSeq λ_ => (#[] : Array Value))).update a.S (Obj.mapSeq λb => b.push Value.none)).update a.S (Obj.mapSeq λb => b.pop)) O (λb o hb e => (Heap.get?_update_other _ _ (Ne.symm hb)).trans e) (Heap.size_update ..);exact wpAny_pure ⟨plainId_quiet kz _, Jq hh O hz hl q1 q2 fin _ 0 _ H [] [] _ rfl (bf _) L3 g3 .nil .nil⟩
end
section
variable {X:Cx}
theorem NO (n:Nat):DM.Ok ⟨n+4,n+2,n+3,n,n+1,n+5,n+5+1⟩:=by
 have ne:∀p q:Nat,p≠q->@Ne Addr p q:=λ_ _ h=>h
 refine ⟨ne (n+2) (n+3) (by lia),ne n (n+1) (by lia),ne (n+5) (n+4) (by lia),ne (n+5) (n+2) (by lia),ne (n+5) (n+3) (by lia),ne (n+5) n (by lia),ne (n+5) (n+1) (by lia),λb hb=>?_⟩;have hb':b∈[n+4,n+2,n+3,n,n+1,n+5]:=hb;show @LT.lt Nat instLTNat b (n+5+1)
 simp only[aB,aU,or_false] at hb';rcases hb' with e | e | e | e | e | e <;> (rw[e];exact bI (iM _) (by lia))
def DY (K:FG9) (ta:TA):TE:=λσ H Q=>ta σ H λvs H1=>∃(l1 l2:Addr) (xs ys:List V),vs=[.ref l1,.ref l2]/\bN K H1 l1 xs/\bN K H1 l2 ys/\ys.length=xs.length /\
 ∀L ts H',aG H1 H'->H1 L=none->H' L=some (.lst ts)->Paired (NI H') (xs.zip ys) ts->Q (.ref L) H'
theorem FC {e1 e2:Expr} {ta:TA} {p p2 pos pos2:Pos} (hg:Gl X "list") (hm:X.mg "list"=none) (hg2:Gl X "zip") (hm2:X.mg "zip"=none) (ha:PA X [e1,e2] ta) (hc:X.calm=true:=by rfl)
  (hs:starEach [e1,e2] X.env=[(false,eval e1 X.env),(false,eval e2 X.env)]:=by rfl) (hs2:starEach [e2] X.env=[(false,eval e2 X.env)]:=by rfl)
  (hs3:starEach [Expr.Call (.Name "zip" p2) [e1,e2] [] pos2] X.env=[(false,eval (.Call (.Name "zip" p2) [e1,e2] [] pos2) X.env)]:=by rfl) :
  PE X (.Call (.Name "list" p) [.Call (.Name "zip" p2) [e1,e2] [] pos2] [] pos) (DY X.K ta):=by
 intro pins s σ H Q I h;refine wpAny_Call_Name_kw (jT I hg hm boot_list ?_);refine PyProof.Rows.callWith_type1 ?_ (by rw[hs3];rfl) rfl;rw[hs3];show wpAny _ _ (spliced ((false,eval (.Call (.Name "zip" p2) [e1,e2] [] pos2) X.env) :: [])) _ _ s
 refine Calls.spliced_cons ?_;refine Call_ (jT I hg2 hm2 boot_zip (PyProof.Rows.callWith_type1 (gQ (ha pos2 pins s σ H _ I h) λus s1 ⟨vs,H1,I1,r1,q1⟩=>?_) (by rw[hs,hs2]) (by rw[hs2];rfl)));obtain ⟨l1,l2,xs,ys,e,qx,qy,hl,q⟩:=q1;subst e;obtain ⟨u,v,rfl,ru,rv⟩:=vals2 r1;cases ru;cases rv;obtain ⟨us,rx,px,hz⟩:=I1.list qx;obtain ⟨ws,ry,py,_⟩:=I1.list qy;refine call_zip_2 px.isList py.isList λh' a1 a2 a3 a4 a5 a6 hk=>?_
 refine Calls.spliced_nil ?_;have I2:Inv X pins σ H1 { s1 with heap:=h' }:=I1.kept (t':=s1.toks) hk;have up:∀b o,h'.get? b=some o->(h'.push { cls:=.type "list",data:=.seq #[] }).get? b=some o:=λb o e=>Heap.get?_push_of_some _ e
 have O:DM.Ok ⟨s1.heap.objs.size+4,s1.heap.objs.size+2,s1.heap.objs.size+3,s1.heap.objs.size,s1.heap.objs.size+1,h'.objs.size,h'.objs.size+1⟩:=by
  rw[a6];exact NO s1.heap.objs.size
 have old:∀b∈(DM.mk (s1.heap.objs.size+4) (s1.heap.objs.size+2) (s1.heap.objs.size+3) s1.heap.objs.size (s1.heap.objs.size+1) h'.objs.size (h'.objs.size+1)).all,s1.heap.objs.size<=b:=λb hb=>by
  rw[a6] at hb;simp only[DM.all,aB,aU,or_false] at hb;rcases hb with rfl | rfl | rfl | rfl | rfl | rfl <;> first | exact yu _ _ | exact aj _
 have gS:(h'.push { cls:=.type "list",data:=.seq #[] }).get? h'.objs.size=some (lobj [] 0):=Heap.get?_push_size _ rfl;refine callType_codes (Q₁:=λob t=>ob=.ref h'.objs.size/\t={ s1 with heap:=h'.push { cls:=.type "list",data:=.seq #[] } }) PySem.F.called_list (PySem.F.typeCall_list_1 _) PySem.F.entry_list_init (code_list_new _ ⟨rfl,rfl⟩) λob t ht=>?_
 obtain ⟨rfl,rfl⟩:=ht;refine ⟨⟨_,gS,rfl⟩,PySem.F.args_list_init_2 _ _,?_⟩
 have L:MW X pins σ H1 ⟨s1.heap.objs.size+4,s1.heap.objs.size+2,s1.heap.objs.size+3,s1.heap.objs.size,s1.heap.objs.size+1,h'.objs.size,h'.objs.size+1⟩ l1 l2 0 H1 { s1 with heap:=h'.push { cls:=.type "list",data:=.seq #[] } } :=
  ⟨I2.kept (t':=s1.toks) up,aG.refl _,λb hb=>I1.fpOk (old b hb) (I1.hok.fresh (old b hb)),by rw[Heap.size_push];exact aj _,⟨⟨_,_,up _ _ a3⟩,.inl (up _ _ a1)⟩,up _ _ a2,a4.at λo e=>up _ o e,a5.at λo e=>up _ o e⟩
 refine Jo (A':=X.A.in1) (I.ok.hd hc) O hz hl qx qy L gS (up _ _ a1) λs' H' ts acc c I' sm fS gS' vs' prs=>⟨rfl,?_⟩
 have nS:H1 h'.objs.size=none:=I1.hok.fresh (old _ (by simp [DM.all]));have lt:=prs.length;rw[AI] at lt;exact ⟨.ref h'.objs.size,_,I'.track (o:=.lst ts) fS ⟨by lia,acc,c,vs',gS'⟩,rfl,q _ ts _ (sm.trans (aG.new fS.1)) nS aK (Paired.imp' (λ_ _ z=>z.same (aG.new fS.1)) prs)⟩
end
end L2
namespace Nm
def wU:List Int->Int->Int
 | [],m=>m
 | b :: r,m=>wU r (m*(b / g m b))
theorem uW {m b:Int} (hm:0 < m) (hb:0 < b):0 < m*(b / g m b):=iT hm (Dx (t:=m) hb)
theorem Ds {m b : Int} : b ∣ m * (b / g m b) := by
  have h1 := z8 m b;refine ⟨lo m b, ?_⟩;have h2 : b / g m b * g m b = b := wW m b
  calc m * (b / g m b) = lo m b * g m b * (b / g m b) := by rw [h1]
    _ = lo m b * (b / g m b * g m b) := by rw [dN, fO (g m b)]
    _ = b * lo m b := by rw [h2, fO]
theorem Aa:∀{bs:List Int} {m:Int},0 < m->(∀b∈bs,0 < b)->0 < wU bs m
 | [],_,hm,_=>hm
 | b :: r,m,hm,h=>Aa (bs:=r) (uW hm (h b dk)) λc hc=>h c (bW _ hc)
theorem EI:∀{bs:List Int} {m:Int},m∣wU bs m
 | [],_=>HX _
 | b :: r,m=>Int.dvd_trans (Int.dvd_mul_right m _) (EI (bs:=r))
theorem EH:∀{bs:List Int} {m b:Int},b∈bs->b∣wU bs m
 | c :: r,m,b,h=>by
  rcases aB.mp h with rfl | h
  ·exact Int.dvd_trans Ds (EI (bs:=r))
  ·exact EH (bs:=r) h
end Nm
namespace L2
open PySem PySem.Spec PyProof.Rows Nm
def DN (K:FG9) (H:Hp) (p:Addr) (ns:List (Int×Int)):Prop:=∃xs,H p=some (.lst xs)/\Paired (λn x=>vR K H x n) ns xs
theorem DN.same {K:FG9} {H H':Hp} {p:Addr} {ns:List (Int×Int)} (h:DN K H p ns) (e:aG H H'):DN K H' p ns:=by obtain ⟨xs,g,q⟩:=h;exact ⟨xs,e _ _ g,Paired.imp' (λ_ _ z=>e.num z) q⟩
def Ew (K:FG9) (T:String):V->Hp->VK->Prop:=λx H Q=>Ir K T x H Q\/∃a xs b,x=.ref a/\jl K H a xs/\PySem.W.kitOne K (.type "tuple") (.type T)=some b/\Q (.bl b) H
theorem BH:∀{bs:List Int} {m b:Int},wU (bs++[b]) m=wU bs m*(b / g (wU bs m) b)
 | [],_,_=>rfl
 | c :: r,m,b=>BH (bs:=r)
def fJ (ns:List (Int×Int)) (B:Int):List Int:=ns.map λn=>n.1*(B / n.2)
def gZ (ns:List (Int×Int)):Int:=wU (ns.map (·.2)) 1
def K2 (ns ms:List (Int×Int)):Int:=(List.zipWith (·*·) (fJ ns (gZ ns)) (fJ ms (gZ ms))).sum
theorem lU {ns:List (Int×Int)} {n:Int×Int} (h:n∈ns):n.2∣gZ ns:=EH (aD.mpr ⟨n,h,rfl⟩)
theorem Fy {σ:St} {H:Hp} {Q:VK} {K:FG9} {ta:TA} (h:ta σ H λvs H1=>∃(l1 l2:Addr) (xs ys:List V),vs=[.ref l1,.ref l2]/\bN K H1 l1 xs/\bN K H1 l2 ys/\ys.length=xs.length /\
 ∀L ts H',aG H1 H'->H1 L=none->H' L=some (.lst ts)->Paired (NI H') (xs.zip ys) ts->Q (.ref L) H'):DY K ta σ H Q:=h
theorem Ro {m b:Int} (hb:0 < b) {k:Nat} (h:Sz k b):Sz k (g m b):=h.le (by
 have h1:(g m b).natAbs=Int.gcd m b:=by unfold g;simp
 rw[h1];exact fo (by lia) (by have:=fB (a:=m) (b:=b);exact dM.mpr this |> λz=>by simpa using z))
theorem Lv {ts us:List Int} {i:Nat} {pq:V×V} (h:((ts.map V.int).zip (us.map V.int))[i]?=some pq):∃t u,ts[i]?=some t/\us[i]?=some u/\pq=(.int t,.int u):=by
 rw[Pg,aL,aL] at h;obtain ⟨h1,h2⟩:=h;cases e1:ts[i]? with
 | none=>rw[e1] at h1;cases h1
 | some t =>
  cases e2:us[i]? with
  | none=>rw[e2] at h2;cases h2
  | some u =>
   rw[e1] at h1;rw[e2] at h2;refine ⟨t,u,rfl,rfl,?_⟩;cases pq;simp at h1 h2;rw[h1,h2]
def Ij (K:FG9):Sp:=λvs H Q _=>∃x n,vs=[x]/\vR K H x n/\ym n/\∀H',aG H H'->Q (.bl true) H'
inductive wd (K:FG9) (vs:List V) (H:Hp) (Q:VK) (E9:XK):Prop
 | mk (p:Addr) (ns:List (Int×Int)):vs=[.ref p,.int ns.length]->DN K H p ns->ns.length<=1000->(∀n∈ns,ym n)->(∀H',aG H H'->Q (.bl true) H')->wd K vs H Q E9
theorem mi {X:Cx} {a:Expr} {ta:TE} {pos:Pos} {c:Str} {T:String} {p p2:Pos} (hg:Gl X "isinstance") (hm:X.mg "isinstance"=none) (hb:bootBuiltins c=some (.type T)) (hmc:X.mg c=none) (ha:PE X a ta) (hgc:Gl X c:=by rfl) (hn:c≠"__name__":=by decide)
  (hd:(c == ("__debug__":Str))=false:=by decide) (he:starEach [a,.Name c p2] X.env=[(false,eval a X.env),(false,eval (.Name c p2) X.env)]:=by rfl)
  (hpl:(backTo pos (starEach [.Name c p2] X.env)).any (·.1)=false:=by rfl) (he2:starEach [.Name c p2] X.env=[(false,eval (.Name c p2) X.env)]:=by rfl):PE X (.Call (.Name "isinstance" p) [a,.Name c p2] [] pos) (Q0 (Ew X.K T) ta):=by
 intro pins s σ H Q I h;refine wpAny_Call_Name_kw (jT I hg hm PyProof.Rows.boot_isinstance ?_);have hA:PA X [a,.Name c p2] (pZ ta (pZ (tC (.ty T)) Ib)):=ae ha (ae (yK hgc hmc hb rfl hn hd) ag he2) (by rw[he,he2])
 have hq:pZ ta (pZ (tC (.ty T)) Ib) σ H (λvs H1=>∃x,vs=[x,.ty T]/\Ew X.K T x H1 Q):=by
  show ta σ H λx H1=>∃x',[x,V.ty T]=[x',V.ty T]/\Ew X.K T x' H1 Q
  have e:(λx H1=>∃x',[x,V.ty T]=[x',V.ty T]/\Ew X.K T x' H1 Q)=λx H1=>Ew X.K T x H1 Q:=by
   funext x H1;apply propext;constructor
   ·rintro ⟨x',e,q⟩;cases e;exact q
   ·intro q;exact ⟨x,rfl,q⟩
  rw[e];exact h
 refine PyProof.Rows.callWith_builtin1 (gQ (hA pos pins s σ H _ I hq) λus s1 ⟨vs,H1,I1,r1,x,e,q1⟩=>?_) (by rw[he,he2]) hpl;subst e;obtain ⟨u,w',rfl,ru,rt⟩:=vals2 r1;cases rt;rcases q1 with ⟨t,bb,ty,ek,q⟩ | ⟨ad,xs,bb,rfl,hs,ek,q⟩
 ·exact BI I1 ru ty ek λtk=>⟨.bl bb,H1,I1.tok tk,rfl,q⟩
 ·cases ru;obtain ⟨its,_,⟨o,g1,g2,_⟩,_⟩:=I1.tuple hs;exact du tH I1.kIn ⟨o,g1,g2⟩ ek (λz=>nomatch z) λtk=>⟨.bl bb,H1,I1.tok tk,rfl,q⟩
theorem JR {H:Hp} {Q:VK} {l:Addr} {k:Nat} {x:V} (h:H l=some (.lst [x])) (hk:k<=1000) (q:∀p H',aG H H'->H p=none->H' p=some (.lst (List.replicate k x))->Q (.ref p) H'):Qj (.ref l) (.int k) H Q :=
 ⟨l,k,[x],rfl,rfl,h,by lia,by lia,aZ (bC (by simp;lia)),λp hp=>q p _ (aG.new hp) hp (by rw[aK];simp)⟩
theorem O2 {xs:List V} {k:Nat} (h:k<=xs.length):rY xs none (some (k:Int))=xs.take k:=by
 unfold rY;rw[HT.Eo,HT.yH,pV h];simp
theorem uc {α β:Type} {F:α->β->Prop} {x:α} {y:β} (h:F x y):∀m:Nat,Paired F (List.replicate m x) (List.replicate m y)
 | 0=>.nil
 | m+1=>.cons h (uc h m)
theorem fv {n a:Nat} (h:a < n):Jg n (a:Int)=some a:=by
 unfold Jg;rw[if_pos (by lia),if_pos (by lia),Int.toNat_natCast]
theorem K7 {xs:List V} {k:Nat}:rY xs none (some (k:Int))=xs.take k:=by
 by_cases h:k<=xs.length
 ·exact O2 h
 ·unfold rY;rw[HT.Eo,HT.yH,Nat.min_eq_right (by lia),aI (by simp),aI (by lia)];rfl
theorem qR {α β:Type} {F:α->β->Prop}:∀{l1:List α} {l2:List β} (_:Paired F l1 l2) (k:Nat),Paired F (l1.take k) (l2.take k)
 | _,_,.nil,k=>by simp;exact .nil
 | _,_,.cons h r,0=>.nil
 | _,_,.cons h r,k+1=>.cons h (qR r k)
def Mm (K:FG9):List V->Hp->VK->Prop:=λxs H Q=>∃p ys,xs=[.ref p]/\(bN K H p ys\/jl K H p ys)/\∀l,H l=none->Q (.ref l) (upd H l (.lst ys))
theorem eV {X:Cx} (K:FG9) (hK:X.K=K):mG X (.type "list") (Mm K):=by subst hK;exact pC
theorem aG.none {H H':Hp} {l:Addr} (s:aG H H') (h:H' l=Option.none):H l=Option.none:=by
 cases e:H l with
 | none=>rfl
 | some o=>have:=s _ _ e;rw[h] at this;cases this
def NK (K:FG9) (H:Hp) (p:Addr) (rows:List (List (Int×Int))):Prop:=∃xs,H p=some (.lst xs)/\Paired (λns x=>∃q,x=V.ref q/\DN K H q ns) rows xs
theorem Jy {b:Int} (h:b.natAbs<=1000000):Sz 20 b:=br h (by decide)
theorem cT.none {H H':Hp} {b l:Addr} (u:cT b H H') (B:ig H' b) (h:H' l=Option.none):H l=Option.none:=by
 cases e:H l with
 | none=>rfl
 | some o =>
  by_cases z:l=b
  ·obtain ⟨_,_,_,_,_,e2,_⟩:=B;rw[<- z,h] at e2;cases e2
  ·have:=u.1 l o e z;rw[h] at this;cases this
inductive zi (K:FG9) (vs:List V) (H:Hp) (Q:VK) (E9:XK):Prop
 | mk (p:Addr) (rows:List (List (Int×Int))) (m:Nat):vs=[.ref p,.int rows.length,.int m]->NK K H p rows->rows.length<=1000->m<=1000->((∀ns∈rows,ns.length=m/\∀n∈ns,ym n))->(∀H',aG H H'->Q (.bl true) H')->zi K vs H Q E9
end L2
namespace Nm
def nm (q:Rat):Int×Int:=(q.num,(q.den:Int))
theorem ip (q:Rat):0 < (nm q).2:=by have:=q.den_pos;show 0 < (q.den:Int);lia
theorem Dm (q:Rat):Int.gcd (nm q).1 (nm q).2=1:=q.reduced
theorem OL {p q:Rat} (h:nm p=nm q):p=q:=by
 have h1:p.num=q.num:=congrArg Prod.fst h;have h2:(p.den:Int)=q.den:=congrArg Prod.snd h;exact Rat.ext h1 (by lia)
theorem kQ (q : Rat) : (q.num : Rat) = q * (q.den : Rat) := by
  have h := Rat.num_divInt_den q;rw [Rat.divInt_eq_div] at h
  have hd : ((q.den : Int) : Rat) ≠ 0 := by
    intro z;have z := yr.mp z;have := q.den_pos
    lia
  have e : ((q.den : Int) : Rat) = (q.den : Rat) := aH _
  calc (q.num : Rat) = (q.num : Rat) / ((q.den : Int) : Rat) * ((q.den : Int) : Rat) := (Rat.div_mul_cancel hd).symm
    _ = q * (q.den : Rat) := by rw [h, e]
theorem Qq {a b:Int} {q:Rat} (hb:0 < b) (hg:Int.gcd a b=1) (e:q*(b:Rat)=(a:Rat)):(a,b)=nm q:=by
 have h1:a*(q.den:Int)=q.num*b:=by
  apply dn.mp;rw[aQ,aQ,<- e,kQ,aH];grind
 obtain ⟨e1,e2⟩:=uniq hb (ip q) hg (Dm q) h1;exact Prod.ext e1 e2
theorem kU {t b:Int} {q:Rat} (hb:0 < b) (e:q*(b:Rat)=(t:Rat)):(lo t b,hi t b)=nm q:=by
 refine Qq (Dx hb) (z6 (by lia)) ?_;have h:=z7 t b;have hb':(b:Rat)≠0:=λz=>by have:=yr.mp z;lia
 have h2:((lo t b:Int):Rat)*(b:Rat)=(t:Rat)*((hi t b:Int):Rat):=by rw[<- aQ,h,aQ]
 rw[<- e] at h2;have h3:(q*((hi t b:Int):Rat) - ((lo t b:Int):Rat))*(b:Rat)=0:=by grind
 rcases AD.mp h3 with h4 | h4
 ·grind
 ·exact absurd h4 hb'
def Fr (M V:Nat) (q:Rat):Prop:=∃z:Int,q*(M:Rat)=(z:Rat)/\z.natAbs<=V*M
theorem Fr.mono {M V V':Nat} {q:Rat} (h:Fr M V q) (l:V<=V'):Fr M V' q:=by obtain ⟨z,e,b⟩:=h;exact ⟨z,e,ai b (ay _ l)⟩
theorem Fr.scale {M V:Nat} {q:Rat} (h:Fr M V q) (k:Nat):Fr (M*k) V q:=by
 obtain ⟨z,e,b⟩:=h;refine ⟨z*k,?_,?_⟩
 ·rw[eN,aQ,<- e,aH,Rat.mul_assoc]
 ·rw[cy,bw,<- b9];exact ay _ b
theorem Fr.scaleL {M V:Nat} {q:Rat} (h:Fr M V q) (k:Nat):Fr (k*M) V q:=by rw[bQ];exact h.scale k
theorem Fr.dvd {M N V:Nat} {q:Rat} (h:Fr M V q) (d:M∣N):Fr N V q:=by obtain ⟨k,rfl⟩:=d;exact h.scale k
theorem Fr.add {M V W:Nat} {p q:Rat} (h:Fr M V p) (h':Fr M W q):Fr M (V+W) (p+q):=by
 obtain ⟨z,e,b⟩:=h;obtain ⟨z',e',b'⟩:=h';refine ⟨z+z',by rw[AG,<- e,<- e',Rat.add_mul],?_⟩;rw[Lh];have:=Int.natAbs_add_le z z'
 lia
theorem Fr.neg {M V:Nat} {q:Rat} (h:Fr M V q):Fr M V (-q):=by
 obtain ⟨z,e,b⟩:=h;exact ⟨-z,by rw[cR,<- e,Rat.neg_mul],by rw[mJ];exact b⟩
theorem Fr.sub {M V W:Nat} {p q:Rat} (h:Fr M V p) (h':Fr M W q):Fr M (V+W) (p - q):=by rw[Rat.sub_eq_add_neg];exact h.add h'.neg
theorem Fr.mul {M N V W : Nat} {p q : Rat} (h : Fr M V p) (h' : Fr N W q) : Fr (M * N) (V * W) (p * q) := by
  obtain ⟨z, e, b⟩ := h;obtain ⟨z', e', b'⟩ := h';refine ⟨z * z', ?_, ?_⟩
  · rw [eN, aQ, <- e, <- e']; grind
  · rw [cy]
    calc z.natAbs * z'.natAbs ≤ (V * M) * (W * N) := aA b b'
      _ = V * W * (M * N) := by rw [b9, Nat.mul_left_comm M, <- b9]
theorem Fr.zero {M V:Nat}:Fr M V 0:=⟨0,by simp,by simp⟩
theorem Fr.int {M V:Nat} {i:Int} (h:i.natAbs<=V):Fr M V (i:Rat):=⟨i*M,by rw[aQ,aH],by rw[cy,bw];exact ay _ h⟩
theorem Fr.one {M V:Nat} (h:1<=V):Fr M V 1:=Fr.int (i:=1) h
theorem Fr.den {M V:Nat} {q:Rat} (h:Fr M V q):(q.den:Int)∣(M:Int):=by
 obtain ⟨z,e,b⟩:=h
 have h1:q.num*(M:Int)=z*(q.den:Int):=by
  apply dn.mp;rw[aQ,aQ,<- e,kQ,aH,aH];grind
 have h2:(q.den:Int)∣q.num*(M:Int):=⟨z,by rw[h1,fO]⟩;exact o9 (by rw[ko];exact Dm q) h2
theorem Fr.den_le {M V:Nat} {q:Rat} (h:Fr M V q) (hM:0 < M):q.den<=M:=fo hM (lY.mp h.den)
theorem Fr.num_le {M V:Nat} {q:Rat} (h:Fr M V q) (hM:0 < M):q.num.natAbs<=V*M:=by
 have hd:=h.den;obtain ⟨z,e,b⟩:=h;obtain ⟨k,hk⟩:=lY.mp hd;have hk0:k≠0:=λz=>by rw[z,yR] at hk;lia
 have h1:z=q.num*(k:Int):=by
  apply dn.mp;rw[aQ,<- e,kQ,aH,hk,eN];grind
 rw[h1] at b;exact ai (mY (by lia)) b
theorem Fr.own (q:Rat) {V:Nat} (h:q.num.natAbs<=V):Fr q.den V q:=⟨q.num,(kQ q).symm,ai h (dh _ q.den_pos)⟩
theorem Fr.sz {M V k j:Nat} {q:Rat} (h:Fr M V q) (hM:0 < M) (h1:M<=2^k) (h2:V<=2^j):Sz (j+k+1) (nm q).1/\Sz (k+1) (nm q).2:=by
 constructor
 ·show q.num.natAbs < 2^(j+k+1)
  have h3:=h.num_le hM;have h4:V*M<=2^j*2^k:=aA h2 h1;rw[dC,aS];have:=Nat.two_pow_pos (j+k);rw[aS] at this
  lia
 ·show (q.den:Int).natAbs < 2^(k+1)
  have h3:=h.den_le hM;rw[bw,dC];have:=Nat.two_pow_pos k
  lia
theorem Fr.sum {M V:Nat}:∀{l:List Rat},(∀x∈l,Fr M V x)->Fr M (l.length*V) l.sum
 | [],_=>by simp;exact Fr.zero
 | x :: r,h=>by
  rw[List.sum_cons,ba,dA,rX];exact (h x (.head _)).add (Fr.sum λy hy=>h y (.tail _ hy))
def dR (xs ys:List Rat):Rat:=(List.zipWith (·*·) xs ys).sum
theorem Fr.dot {M N V W : Nat} {xs ys : List Rat} (h : ∀ x ∈ xs, Fr M V x) (h' : ∀ y ∈ ys, Fr N W y) : Fr (M * N) (xs.length * (V * W)) (dR xs ys) := by
  have q := Fr.sum (M := M * N) (V := V * W) (l := List.zipWith (· * ·) xs ys) λz hz => by
    obtain ⟨i, hi, e⟩ := bK hz;rw [ib] at e;rw [<- e];exact (h _ (aP _)).mul (h' _ (aP _))
  exact q.mono (ay _ (by rw [cD]; lia))
theorem yL : ∀ {bs : List Int} {m M : Int}, 0 < m → m ∣ M → (∀ b ∈ bs, 0 < b /\ b ∣ M) → wU bs m ∣ M
  | [], _, _, _, h, _ => h
  | b :: r, m, M, hm, h, hb => by
    have b1 := hb b dk;refine yL (bs := r) (uW hm b1.1) ?_ λc hc => hb c (bW _ hc)
    have gp : 0 < g m b := Ae (by lia);have e1 := z8 m b;have e2 := wW m b;obtain ⟨u, hu⟩ := h;obtain ⟨v, hv⟩ := b1.2
    have h3 : lo m b * u = hi m b * v := by
      apply tJ (show g m b ≠ 0 by lia)
      calc lo m b * u * g m b = lo m b * g m b * u := by rw [dN, fO u, <- dN]
        _ = m * u := by rw [e1]
        _ = M := hu.symm
        _ = b * v := hv
        _ = hi m b * g m b * v := by rw [e2]
        _ = hi m b * v * g m b := by rw [dN, fO (g m b), <- dN]
    have h4 : hi m b ∣ lo m b * u := ⟨v, h3⟩;have h5 : hi m b ∣ u := o9 (by rw [ko]; exact z6 (by lia)) h4;obtain ⟨w, hw⟩ := h5;refine ⟨w, ?_⟩;show M = m * hi m b * w
    rw [hu, hw, dN]
theorem DA {a b:Int} {k:Nat} (hb:0 < b) (d:a∣b) (h:Sz k b):Sz k a:=h.le (fo (by lia) (dM.mpr d))
end Nm
namespace Nm
def Dr (W:Nat) (x:Rat):Prop:=x.num.natAbs<=W/\x.den<=W
def uJ:List Nat->Nat
 | []=>1
 | a :: r=>a*uJ r
theorem wJ:∀{l:List Nat},(∀a∈l,0 < a)->0 < uJ l
 | [],_=>Nat.one_pos
 | a :: r,h=>bE (h a (.head _)) (wJ λb hb=>h b (.tail _ hb))
theorem wK:∀{l:List Nat} {a:Nat},a∈l->a∣uJ l
 | b :: r,a,h=>by
  rcases aB.mp h with rfl | h
  ·exact HW ..
  ·exact gD (wK h) (cS ..)
theorem zK {k:Nat}:∀{l:List Nat},(∀a∈l,a<=2^k)->uJ l<=2^(k*l.length)
 | [],_=>by simp [uJ]
 | a :: r,h=>by
  rw[ba,Nat.mul_succ,aS,bQ (2^(k*r.length))];exact aA (h a (.head _)) (zK λb hb=>h b (.tail _ hb))
def GF (M V:Nat) (rows:LR9):Prop:=∀xs∈rows,∀x∈xs,Fr M V x
def Pb (c n i:Nat) (rows:LR9):Prop:=∃M,0 < M/\M<=2^(i*(c*n+2))/\GF M (2^(20+2*i)) rows
theorem OV {c n:Nat}:Pb c n 0 []:=⟨1,by decide,by simp,λ_ h=>nomatch h⟩
theorem OW (c n i:Nat):(i+1)*(c*n+2)=i*(c*n+2)+(c*n+2):=dA ..
theorem MG {c n i:Nat} {rows:LR9} {xs:List Rat} (h:Pb c n i rows) (hl:xs.length=n) (hd:∀x∈xs,Dr (2^c) x) (hc:c<=20):Pb c n (i+1) (rows++[xs]):=by
 obtain ⟨M,h0,h1,h2⟩:=h
 have dp:0 < uJ (xs.map (·.den)):=wJ λa ha=>by
  obtain ⟨x,_,rfl⟩:=aD.mp ha;exact x.den_pos
 have dl:uJ (xs.map (·.den))<=2^(c*n):=by
  have:=zK (k:=c) (l:=xs.map (·.den)) λa ha=>by
   obtain ⟨x,hx,rfl⟩:=aD.mp ha;exact (hd x hx).2
  rwa [ar,hl] at this
 refine ⟨M*uJ (xs.map (·.den)),bE h0 dp,?_,λys hy x hx=>?_⟩
 ·rw[OW,aS];exact aA h1 (ai dl (au (by decide) (by lia)))
 ·rcases aw.mp hy with hy | hy
  ·exact ((h2 ys hy x hx).scale _).mono (au (by decide) (by lia))
  ·have e:ys=xs:=by simpa using hy
   subst e;have f:Fr x.den (2^c) x:=Fr.own x (hd x hx).1;have g:=(f.dvd (wK (aD.mpr ⟨x,hx,rfl⟩))).scaleL M;exact g.mono (au (by decide) (by lia))
def cU (rows:LR9) (w:Nat):LR9:=(List.range w).map λj=>rows.map λxs=>xs.getD j 0
theorem c9 {rows:LR9} {w:Nat}:(cU rows w).length=w:=by simp [cU]
theorem jL {rows:LR9} {w:Nat}:∀ys∈cU rows w,ys.length=rows.length:=λys hy=>by
 obtain ⟨j,_,rfl⟩:=aD.mp hy;exact ar ..
theorem getD_map {α:Type} {l:List α} {f:α->Rat} {i:Nat} (h:i < l.length):(l.map f).getD i 0=f l[i]:=by
 rw[aa,aL,af h];rfl
theorem HZ {rows:LR9} {w:Nat} (h:∀xs∈rows,xs.length=w):cU (cU rows w) rows.length=rows:=by
 apply eX
 ·exact c9
 ·intro i h1 h2;have e:(cU (cU rows w) rows.length)[i]=(cU rows w).map λxs=>xs.getD i 0:=by simp [cU]
  rw[e];have hw:=h rows[i] (aP h2);apply eX
  ·rw[ar,c9,hw]
  ·intro j h3 h4;rw[yw];have e2:(cU rows w)[j]'(by rw[c9];lia)=rows.map λxs=>xs.getD j 0:=by simp [cU]
   rw[e2,getD_map h2,aa,af h4];rfl
end Nm
namespace L2
open PySem PySem.Spec PyProof.Rows Nm
theorem cT.sqt {K:FG9} {H H':Hp} {b a:Addr} {xs:List V} (u:cT b H H') (B:ig H b) (h:jl K H a xs):jl K H' a xs:=by
 rcases h with (h | ⟨o,h⟩) | h
 ·exact .inl (.inl (u.tup B h))
 ·exact .inl (.inr ⟨o,u.other (λz=>by obtain ⟨_,_,_,_,_,e,_⟩:=B;rw[z,e] at h;cases h) h⟩)
 ·exact .inr h
theorem JB {K:FG9} {H:Hp} {a l:Addr} {xs ys:List V} {o:HO} (h:jl K H a xs) (hl:H l=some (.lst ys)):jl K (upd H l o) a xs:=by
 rcases h with (h | ⟨o,h⟩) | h
 ·exact .inl (.inl (by rw[bG λz=>by rw[z,hl] at h;cases h];exact h))
 ·exact .inl (.inr ⟨o,by rw[bG λz=>by rw[z,hl] at h;cases h];exact h⟩)
 ·exact .inr h
def ck (K:FG9) (H:Hp) (q:Rat) (x:V):Prop:=vR K H x (nm q)
section
variable {K:FG9} {H H':Hp} {q:Rat} {x:V} {b l p:Addr} {qs:List Rat}
theorem ck.same (h:ck K H q x) (e:aG H H'):ck K H' q x:=e.num h
theorem ck.upto (h:ck K H q x) (u:cT b H H') (B:ig H b):ck K H' q x:=by obtain ⟨p,e,s⟩:=h;exact ⟨p,e,u.sqt B s⟩
theorem ck.updL {ys:List V} {o:HO} (h:ck K H q x) (hl:H l=some (.lst ys)):ck K (upd H l o) q x:=by obtain ⟨p,e,s⟩:=h;exact ⟨p,e,JB s hl⟩
theorem ck.mk {r:Addr} {a c:Int} (h:H r=some (.tup [.int a,.int c])) (e:(a,c)=nm q):ck K H q (.ref r):=⟨r,rfl,by rw[<- e];exact jl.of h⟩
def cv (K:FG9) (H:Hp) (p:Addr) (qs:List Rat):Prop:=∃xs,H p=some (.lst xs)/\Paired (ck K H) qs xs
theorem cv.same (h:cv K H p qs) (e:aG H H'):cv K H' p qs:=by obtain ⟨xs,g,r⟩:=h;exact ⟨xs,e _ _ g,Paired.imp' (λ_ _ z=>z.same e) r⟩
theorem cv.upto (h:cv K H p qs) (u:cT b H H') (B:ig H b) (n:p≠b):cv K H' p qs:=by obtain ⟨xs,g,r⟩:=h;exact ⟨xs,u.other n g,Paired.imp' (λ_ _ z=>z.upto u B) r⟩
theorem cv.updL {ys:List V} {o:HO} (h:cv K H p qs) (hl:H l=some (.lst ys)) (n:p≠l):cv K (upd H l o) p qs:=by obtain ⟨xs,g,r⟩:=h;exact ⟨xs,by rw[bG n];exact g,Paired.imp' (λ_ _ z=>z.updL hl) r⟩
theorem qS {α β γ:Type} {F:α->β->Prop} {f:γ->α}:∀{l:List γ} {l2:List β},Paired (λc x=>F (f c) x) l l2->Paired F (l.map f) l2
 | _,_,.nil=>.nil
 | _,_,.cons r t=>.cons r (qS t)
theorem cv.rowK (h:cv K H p qs):DN K H p (qs.map nm):=by obtain ⟨xs,g,r⟩:=h;exact ⟨xs,g,qS (F:=λn x=>vR K H x n) r⟩
def c4 (K:FG9) (H0 H:Hp) (qs:List Rat) (x:V):Prop:=∃q,x=V.ref q/\H0 q=none/\cv K H q qs
def bJ (K:FG9) (H0 H:Hp) (p:Addr) (rows:LR9):Prop:=∃xs,H p=some (.lst xs)/\Paired (c4 K H0 H) rows xs/\V.ref p∉xs
theorem je {H0:Hp} {K:FG9} {p:Addr} {rows:LR9} {ys:List V} (h:∃H2,H2 p=none/\Paired (c4 K H0 H2) rows ys):V.ref p∉ys:=λhm=>by
 obtain ⟨H2,e,pr⟩:=h;obtain ⟨qs,_,q,z,_,xs,g,_⟩:=cL pr hm;cases z;rw[e] at g;cases g
variable {H0:Hp} {rows:LR9}
theorem c4.same (h:c4 K H0 H qs x) (e:aG H H'):c4 K H0 H' qs x:=by obtain ⟨q,a,b,c⟩:=h;exact ⟨q,a,b,c.same e⟩
theorem c4.upto (h:c4 K H0 H qs x) (u:cT b H H') (B:ig H b) (nb:H0 b≠none):c4 K H0 H' qs x:=by obtain ⟨q,a,c,d⟩:=h;exact ⟨q,a,c,d.upto u B λz=>nb (by rw[<- z];exact c)⟩
theorem c4.weak (h:c4 K H0 H qs x) {H1:Hp} (e:aG H1 H0):c4 K H1 H qs x:=by obtain ⟨q,a,b,c⟩:=h;exact ⟨q,a,e.none b,c⟩
theorem bJ.same (h:bJ K H0 H p rows) (e:aG H H'):bJ K H0 H' p rows:=by obtain ⟨xs,g,r,n⟩:=h;exact ⟨xs,e _ _ g,Paired.imp' (λ_ _ z=>z.same e) r,n⟩
theorem bJ.upto (h:bJ K H0 H p rows) (u:cT b H H') (B:ig H b) (n:p≠b) (nb:H0 b≠none):bJ K H0 H' p rows:=by obtain ⟨xs,g,r,nn⟩:=h;exact ⟨xs,u.other n g,Paired.imp' (λ_ _ z=>z.upto u B nb) r,nn⟩
theorem bJ.weak (h:bJ K H0 H p rows) {H1:Hp} (e:aG H1 H0):bJ K H1 H p rows:=by obtain ⟨xs,g,r,n⟩:=h;exact ⟨xs,g,Paired.imp' (λ_ _ z=>z.weak e) r,n⟩
theorem bJ.gridK (h:bJ K H0 H p rows):NK K H p (rows.map (List.map nm)):=by obtain ⟨xs,g,r,_⟩:=h;exact ⟨xs,g,qS (F:=λns x=>∃q,x=V.ref q/\DN K H q ns) (Paired.imp' (λ_ _ ⟨q,a,_,c⟩=>⟨q,a,c.rowK⟩) r)⟩
end
def GW:Kind Rat:=Qs.via nm (λ_ _ e=>OL e) (λK H x q=>ck K H q x) id
def EK:Kind (List Rat):=Ku GW
def Dt:Kind (LR9):=Ku EK
theorem cv.kind {K:FG9} {H:Hp} {p:Addr} {qs:List Rat} (h:cv K H p qs):EK.R K H (.ref p) qs:=by obtain ⟨xs,g,q⟩:=h;exact ⟨p,xs,rfl,bN.of g,q⟩
theorem bJ.kind {K:FG9} {H0 H:Hp} {p:Addr} {rows:LR9} (h:bJ K H0 H p rows):Dt.R K H (.ref p) rows:=by obtain ⟨xs,g,q,_⟩:=h;exact ⟨p,xs,rfl,bN.of g,Paired.imp' (λ_ _ ⟨q,a,_,c⟩=>by rw[a];exact c.kind) q⟩
def kK (x:Rat):Prop:=Sz 4000 (nm x).1/\Sz 4000 (nm x).2
def Fits (l:List Rat):Prop:=∃M V:Nat,0 < M/\M<=2^900/\V<=2^900/\∀x∈l,Fr M V x
theorem Fits.szn {l:List Rat} (h:Fits l) {x:Rat} (hx:x∈l):kK x:=by
 obtain ⟨M,V,h0,h1,h2,h3⟩:=h;obtain ⟨a,b⟩:=(h3 x hx).sz h0 h1 h2;exact ⟨a.mono (by decide),b.mono (by decide)⟩
theorem Fits.ok {l:List Rat} (h:Fits l) {x:Rat} (hx:x∈l):ym (nm x):=⟨ip x,Dm x,(h.szn hx).1.mono (by decide),(h.szn hx).2.mono (by decide)⟩
theorem FX {M V:Nat} {x:Rat} (h0:0 < M) (h1:M<=2^1800) (h2:V<=2^1810) (h:Fr M V x):kK x:=by
 obtain ⟨a,b⟩:=h.sz h0 h1 h2;exact ⟨a.mono (by decide),b.mono (by decide)⟩
theorem Jx {x:Rat} (h:kK x):ym (nm x):=⟨ip x,Dm x,h.1.mono (by decide),h.2.mono (by decide)⟩
inductive oq (K:FG9) (f:Rat->Rat->Rat) (vs:List V) (H:Hp) (Q:VK) (E9:XK):Prop
 | mk (u v:V) (x y:Rat):vs=[u,v]->ck K H x u->ck K H y v->kK x->kK y->(∀r H',aG H H'->ck K H' (f x y) (.ref r)->Q (.ref r) H')->oq K f vs H Q E9
section
variable {K:FG9} {vs:List V} {H:Hp} {Q:VK} {E:XK}
theorem FE {f:Rat->Rat->Rat} {F:Int->Int->Int->Int->Int} (hf:∀x y:Rat,(f x y)*(((nm x).2*(nm y).2:Int):Rat)=((F (nm x).1 (nm x).2 (nm y).1 (nm y).2:Int):Rat)) (h:oq K f vs H Q E):Gx K F vs H Q E:=by
 obtain ⟨u,v,x,y,rfl,⟨p,rfl,hp⟩,⟨q,rfl,hq⟩,⟨s1,s2⟩,⟨s3,s4⟩,k⟩:=h;refine ⟨p,q,_,_,_,_,rfl,hp,hq,ip x,ip y,s1,s2,s3,s4,λr H' s g=>k r H' s (ck.mk g ?_)⟩;exact kU (iT (ip x) (ip y)) (hf x y)
theorem oP (x:Rat):(((nm x).1:Int):Rat)=x*(((nm x).2:Int):Rat):=by
 show (x.num:Rat)=x*(((x.den:Nat):Int):Rat)
 rw[kQ,aH]
theorem HM (h:oq K (λx y=>x+y) vs H Q E):Gx K Nz vs H Q E:=FE (λx y=>by
 unfold Nz;rw[AG,aQ,aQ,aQ,oP,oP];grind) h
theorem yG (h:oq K (λx y=>x - y) vs H Q E):Gx K KS vs H Q E:=FE (λx y=>by
 unfold KS;rw[AE,aQ,aQ,aQ,oP,oP];grind) h
theorem GN (h:oq K (λx y=>x*y) vs H Q E):Gx K KR vs H Q E:=FE (λx y=>by
 unfold KR;rw[aQ,aQ,oP,oP];grind) h
end
def F4 (M:Int) (ns:List (Int×Int)):Prop:=0 < M/\Sz 4400 M/\∀n∈ns,0 < n.2/\n.2∣M/\Sz 4400 n.1
theorem F4.bot {M:Int} {ns:List (Int×Int)} (h:F4 M ns):0 < gZ ns/\Sz 4400 (gZ ns):=by
 have hb:∀b∈ns.map (·.2),0 < b/\b∣M:=λb hb=>by
  obtain ⟨n,hn,rfl⟩:=aD.mp hb;exact ⟨(h.2.2 n hn).1,(h.2.2 n hn).2.1⟩
 exact ⟨Aa (by decide) λb q=>(hb b q).1,DA h.1 (yL (by decide) (Int.one_dvd _) hb) h.2.1⟩
inductive JC (K:FG9) (vs:List V) (H:Hp) (Q:VK) (E9:XK):Prop
 | mk (p:Addr) (bs:List Int) (M:Int):vs=[.ref p]->bN K H p (bs.map V.int)->0 < M->Sz 4400 M->((∀b∈bs,0 < b/\b∣M))->Q (.int (wU bs 1)) H->JC K vs H Q E9
inductive JD (K:FG9) (vs:List V) (H:Hp) (Q:VK) (E9:XK):Prop
 | mk (p:Addr) (ns:List (Int×Int)) (M:Int):vs=[.ref p]->DN K H p ns->ns.length<=1000->F4 M ns->(∀H',aG H H'->Q (.int (gZ ns)) H')->JD K vs H Q E9
inductive D6 (K:FG9) (vs:List V) (H:Hp) (Q:VK) (E9:XK):Prop
 | mk (p:Addr) (ns:List (Int×Int)) (M:Int) (B:Int):vs=[.ref p,.int B]->DN K H p ns->ns.length<=1000->F4 M ns->0 < B->Sz 4400 B->(∀r H',H r=none->aG H H'->H' r=some (.lst ((fJ ns B).map V.int))->Q (.ref r) H')->D6 K vs H Q E9
theorem DX {M:Int} {ns:List (Int×Int)} {B t:Int} (h:F4 M ns) (hB:0 < B) (sB:Sz 4400 B) (ht:t∈fJ ns B):Sz 8800 t:=by
 obtain ⟨n,hn,rfl⟩:=aD.mp ht;have hp:=h.2.2 n hn
 have sq:Sz 4400 (B / n.2):=sB.le (by
  rw[Ph (by lia)];exact Nat.div_le_self ..)
 exact (hp.2.2.mul sq).mono (by lia)
theorem pX {x:Rat} {B:Int} (h:(nm x).2∣B):(((nm x).1*(B / (nm x).2):Int):Rat)=x*(B:Rat):=by
 obtain ⟨k,rfl⟩:=h;have hp:=ip x;rw[Int.mul_ediv_cancel_left _ (by lia),aQ,aQ,oP];grind
theorem ER {B C : Int} : ∀ {xs ys : List Rat}, (∀ x ∈ xs, (nm x).2 ∣ B) → (∀ y ∈ ys, (nm y).2 ∣ C) → (((List.zipWith (· * ·) (fJ (xs.map nm) B) (fJ (ys.map nm) C)).sum : Int) : Rat) = dR xs ys * ((B : Rat) * (C : Rat))
  | [], ys, _, _ => by simp [fJ, dR]
  | x :: xs, [], _, _ => by simp [fJ, dR]
  | x :: xs, y :: ys, h1, h2 => by
    have ih := ER (B := B) (C := C) (xs := xs) (ys := ys) (λz hz => h1 z (.tail _ hz)) (λz hz => h2 z (.tail _ hz));have e1 := pX (h1 x (.head _));have e2 := pX (h2 y (.head _));have e3 : (List.zipWith (· * ·) (fJ ((x :: xs).map nm) B) (fJ ((y :: ys).map nm) C)).sum = ((nm x).1 * (B / (nm x).2)) * ((nm y).1 * (C / (nm y).2)) + (List.zipWith (· * ·) (fJ (xs.map nm) B) (fJ (ys.map nm) C)).sum := rfl;have e4 : dR (x :: xs) (y :: ys) = x * y + dR xs ys := rfl;rw [e3, e4, AG, aQ, ih, e1, e2];grind
theorem MO {xs ys:List Rat} (h1:0 < gZ (xs.map nm)) (h2:0 < gZ (ys.map nm)):(lo (K2 (xs.map nm) (ys.map nm)) (gZ (xs.map nm)*gZ (ys.map nm)),hi (K2 (xs.map nm) (ys.map nm)) (gZ (xs.map nm)*gZ (ys.map nm)))=nm (dR xs ys):=by
 refine kU (iT h1 h2) ?_;unfold K2;rw[ER (λx hx=>lU (aD.mpr ⟨x,hx,rfl⟩)) (λx hx=>lU (aD.mpr ⟨x,hx,rfl⟩)),aQ]
inductive D5 (K:FG9) (vs:List V) (H:Hp) (Q:VK) (E9:XK):Prop
 | mk (p:Addr) (w:Nat) (H0:Hp) (rows:LR9):vs=[.ref p,.int w]->bJ K H0 H p rows->rows.length<=1000->w<=1000->(∀xs∈rows,xs.length=w)->(∀r H',H r=none->aG H H'->bJ K H H' r (cU rows w)->Q (.ref r) H')->D5 K vs H Q E9
inductive zf (K:FG9) (vs:List V) (H:Hp) (Q:VK) (E9:XK):Prop
 | mk (b:Addr) (w:Nat):vs=[.ref b,.int w]->ig H b->1<=w->w<=1000000->(∀r x H',Dr (max w 6) x->ck K H' x (.ref r)->ig H' b->cT b H H'->Q (.ref r) H')->zf K vs H Q E9
inductive Eh (K:FG9) (vs:List V) (H:Hp) (Q:VK) (E9:XK):Prop
 | mk (b:Addr) (m w:Nat):vs=[.ref b,.int m,.int w]->ig H b->m<=1000->1<=w->w<=1000000->(∀r xs H',H r=none->cv K H' r xs->xs.length=m->(∀x∈xs,Dr (max w 6) x)->ig H' b->cT b H H'->Q (.ref r) H')->Eh K vs H Q E9
inductive D8 (K:FG9) (vs:List V) (H:Hp) (Q:VK) (E9:XK):Prop
 | mk (p q:Addr) (xs ys:List Rat):vs=[.ref p,.ref q]->cv K H p xs->cv K H q ys->ys.length=xs.length->xs.length<=1000->(∀x∈xs,kK x)->(∀y∈ys,kK y)->(∀r H',H r=none->aG H H'->cv K H' r (List.zipWith (λx y=>x+y) xs ys)->Q (.ref r) H')->D8 K vs H Q E9
inductive JE (K:FG9) (vs:List V) (H:Hp) (Q:VK) (E9:XK):Prop
 | mk (u:V) (q:Addr) (c:Rat) (ys:List Rat):vs=[u,.ref q]->ck K H c u->kK c->cv K H q ys->ys.length<=1000->(∀y∈ys,kK y)->(∀r H',H r=none->aG H H'->cv K H' r (ys.map λy=>c*y)->Q (.ref r) H')->JE K vs H Q E9
inductive zm (K:FG9) (vs:List V) (H:Hp) (Q:VK) (E9:XK):Prop
 | mk (p:Addr) (H0:Hp) (rows:LR9):vs=[.ref p]->bJ K H0 H p rows->rows.length<=1000->(∀xs∈rows,xs.length<=1000)->(∀r H',H r=none->aG H H'->bJ K H H' r rows->Q (.ref r) H')->zm K vs H Q E9
section
variable {K:FG9} {a:Addr} {xs:List V} {g:TG} {tf:TT} {te:TE} {Q:VK} {σ₀:St} {H:Hp} {α β:Type}
theorem dJ {as:List α} {F:Hp->α->V->Prop} (G:Hp->β->V->Prop) (f:α->β) (hx:H a=some (.lst xs)) (pf:Paired (F H) as xs) (hl:as.length<=1000)
  (hF:∀{H H' c x},F H c x->aG H H'->F H' c x) (hG:∀{H H' c x},G H c x->aG H H'->G H' c x)
  (hs:∀(i:Nat) c x H' NY NN,as[i]?=some c->aG H H'->F H' c x->(∀y H2,aG H' H2->G H2 (f c) y->NY y H2)->pG σ₀ g tf te x H' NY NN)
  (hd:∀ys H' p,H p=none->aG H H'->H' p=some (.lst ys)->Paired (G H') (as.map f) ys->(∃H2,H2 p=none/\Paired (G H2) (as.map f) ys)->Q (.ref p) H'):pR (Lk K a) σ₀ g tf te Q H:=by
 have lx:=pf.length;refine fZ (K:=K) (xs:=xs) (λi ys H'=>aG H H'/\Paired (G H') ((as.take i).map f) ys) (aZ (bC (by lia))) ⟨aG.refl _,.nil⟩ (λi ys H' _ ⟨s,_⟩=>bN.of (s _ _ hx)) ?_ ?_
 ·rintro i x ys H' hx' hlen ⟨s,pr⟩;obtain ⟨c,ec,hc⟩:=cm pf hx';refine hs i c x H' _ _ ec s (hF hc s) λy H2 s2 gy=>⟨s.trans s2,?_⟩
  rw[take_snoc ec,cJ];exact bP (Paired.imp' (λ_ _ z=>hG z s2) pr) (.cons gy .nil)
 ·rintro ys H' hy ⟨s,pr⟩ p hp;rw[aI (by lia)] at pr;exact hd ys _ p (s.none hp) (s.trans (aG.new hp)) aK (Paired.imp' (λ_ _ z=>hG z (aG.new hp)) pr) ⟨H',hp,pr⟩
theorem gW {n:Nat} (G:Hp->β->V->Prop) (f:Nat->β) (hl:n<=1000) (hG:∀{H H' c x},G H c x->aG H H'->G H' c x)
  (hs:∀(i:Nat) H' NY NN,i < n->aG H H'->(∀y H2,aG H' H2->G H2 (f i) y->NY y H2)->pG σ₀ g tf te (.int i) H' NY NN)
  (hd:∀ys H' p,H p=none->aG H H'->H' p=some (.lst ys)->Paired (G H') ((List.range n).map f) ys->(∃H2,H2 p=none/\Paired (G H2) ((List.range n).map f) ys)->Q (.ref p) H'):pR (Fe 0 n) σ₀ g tf te Q H:=by
 refine ph (λi ys H'=>aG H H'/\Paired (G H') ((List.range i).map f) ys) (aZ (bC (by lia))) ⟨aG.refl _,.nil⟩ ?_ ?_
 ·rintro i ys H' hi hlen ⟨s,pr⟩;rw[yT];refine hs i H' _ _ hi s λy H2 s2 gy=>⟨s.trans s2,?_⟩
  rw[AH,cJ];exact bP (Paired.imp' (λ_ _ z=>hG z s2) pr) (.cons gy .nil)
 ·rintro ys H' hy ⟨s,pr⟩ p hp;exact hd ys _ p (s.none hp) (s.trans (aG.new hp)) aK (Paired.imp' (λ_ _ z=>hG z (aG.new hp)) pr) ⟨H',hp,pr⟩
theorem w5 {n:Nat} {b:Addr} (G:Hp->β->V->Prop) (C:β->Prop) (hB:ig H b) (hl:n<=1000) (hG:∀{H' H'' c x},G H' c x->cT b H' H''->ig H' b->G H'' c x)
  (hs:∀(i:Nat) H' NY NN,i < n->cT b H H'->ig H' b->(∀y c H2,cT b H' H2->ig H2 b->C c->G H2 c y->NY y H2)->pG σ₀ g tf te (.int i) H' NY NN)
  (hd:∀ys cs H' p,H p=none->cT b H H'->ig H' b->H' p=some (.lst ys)->cs.length=n->(∀c∈cs,C c)->Paired (G H') cs ys->(∃H2,H2 p=none/\Paired (G H2) cs ys)->Q (.ref p) H'):pR (Fe 0 n) σ₀ g tf te Q H:=by
 refine ph (λi ys H'=>cT b H H'/\ig H' b/\∃cs,cs.length=i/\(∀c∈cs,C c)/\Paired (G H') cs ys) (aZ (bC (by lia))) ⟨(aG.refl _).upto,hB,[],rfl,(λ_ z=>nomatch z),.nil⟩ ?_ ?_
 ·rintro i ys H' hi hlen ⟨u,B,cs,lc,hc,pr⟩;rw[yT];refine hs i H' _ _ hi u B λy c H2 u2 B2 cc gy=>⟨u.trans u2,B2,cs++[c],by simp [lc],DJ hc cc,bP (Paired.imp' (λ_ _ z=>hG z u2 B) pr) (.cons gy .nil)⟩
 ·rintro ys H' hy ⟨u,B,cs,lc,hc,pr⟩ p hp;have s:aG H' (upd H' p (.lst ys)):=aG.new hp;exact hd ys cs _ p (u.none B hp) (u.same s) (B.same s) aK lc hc (Paired.imp' (λ_ _ z=>hG z s.upto B) pr) ⟨H',hp,pr⟩
end
section
variable {X:Cx}
theorem eG {n:Nat} {g:TG} {tb:TS} {D:Ends} {σ:St} {H:Hp} (Pv:Nat->St->Hp->Prop) (h0:Pv 0 σ H)
  (hs:∀(i:Nat) σ H,i < n->Pv i σ H->g (.int i) σ H λσ2 H2=>tb { D with nx:=Pv (i+1),ct:=Pv (i+1),bk:=D.nx } σ2 H2) (hd:∀σ H,Pv n σ H->D.nx σ H) :
  ∃W:Nat->Nat->St->Hp->Prop,(∃m,W 0 m σ H)/\∀i m σ H,W i m σ H →
   ((Fe 0 n).stop i H/\D.nx σ H)\/((Fe 0 n).go i H/\∃N:St->Hp->Prop,(∀σ' H',N σ' H'->∃m',m' < m/\W (i+1) m' σ' H')/\∀x H',(Fe 0 n).yld i H x H'->g x σ H' λσ2 H2=>tb { D with nx:=N,ct:=N,bk:=D.nx } σ2 H2) :=
 BJ (lo:=0) Pv h0 (λi σ H hi p=>by rw[yT];exact hs i σ H hi p) hd
theorem nR:mG X (.type "int") (λxs H Q=>∃b:Bool,xs=[.bl b]/\Q (.int (if b=true then 1 else 0)) H):=by
 intro pins s σ H xs us Q I r h;obtain ⟨b,rfl,q⟩:=h;obtain ⟨u,rfl,ru⟩:=vals1 r;cases ru;exact call_int_bool ⟨.int _,H,I.tok _,⟨_,rfl⟩,q⟩
theorem A1 (K:FG9) (hK:X.K=K):mG X (.builtin "len") (λxs H Q=>∃p ys,xs=[.ref p]/\(bN K H p ys\/jl K H p ys)/\Q (.int ys.length) H):=by subst hK;exact aX
theorem J0 {st:Stmt}:PS X st (λ_ _ _=>False):=λ_ _ _ _ _ _ h=>h.elim
end
theorem Ko {t b:Int} {W:Nat} (hb:0 < b) (h1:t.natAbs<=W) (h2:b.natAbs<=W):∃q:Rat,(lo t b,hi t b)=nm q/\Dr W q/\q*(b:Rat)=(t:Rat):=by
 have hb':(b:Rat)≠0:=λz=>by have:=yr.mp z;lia
 have e:(t:Rat) / (b:Rat)*(b:Rat)=t:=Rat.div_mul_cancel hb';have h:=kU hb e;refine ⟨_,h,⟨?_,?_⟩,e⟩
 ·have:=congrArg Prod.fst h;have z:=lo_le (t:=t) (b:=b) (by lia);show ((nm ((t:Rat) / (b:Rat))).1).natAbs<=W
  rw[<- this];exact ai z h1
 ·have:=congrArg Prod.snd h;have z:=Nx (t:=t) (b:=b) (by lia);have hd:(((t:Rat) / (b:Rat)).den:Int)=hi t b:=this.symm;have hp:=Dx (t:=t) hb
  lia
theorem EL {K:FG9} {H:Hp} {qs:List Rat} {xs:List V} (h:Paired (ck K H) qs xs) {j:Nat} (hj:j < qs.length):∃v,F0 xs (j:Int)=some v/\ck K H (qs.getD j 0) v:=by
 have hl:=h.length;refine ⟨xs[j]'(by lia),fL (by simp),?_⟩;have:=jS h (i:=j) hj (by lia);rwa [aa,af hj]
theorem BK {xs ys:List Rat} {i:Nat} (h1:i < xs.length) (h2:i < ys.length):dR (xs.take (i+1)) (ys.take (i+1))=dR (xs.take i) (ys.take i)+xs.getD i 0*ys.getD i 0:=by
 have e1:xs[i]?=some (xs.getD i 0):=by rw[aa,af h1];rfl
 have e2:ys[i]?=some (ys.getD i 0):=by rw[aa,af h2];rfl
 unfold dR;rw[take_snoc e1,take_snoc e2,List.zipWith_append (by simp;lia),List.sum_append];simp [rW]
theorem getD_mem {xs:List Rat} {i:Nat} (h:i < xs.length):xs.getD i 0∈xs:=by
 rw[aa,af h];exact aP h
theorem A4 {xs ys:List Rat} (h:ys.length=xs.length):List.zipWith (λx y=>x+y) xs ys=(List.range xs.length).map λi=>xs.getD i 0+ys.getD i 0:=by
 apply ie;intro i;rw[bT,aL];by_cases hi:i < xs.length
 ·rw[dF hi,af hi,af (show i < ys.length by lia)];simp [aa,af hi,af (show i < ys.length by lia)]
 ·rw[aM (show (List.range xs.length).length<=i by simp;lia),aM (show xs.length<=i by lia)];rfl
theorem c4.updL {K:FG9} {H0 H:Hp} {qs:List Rat} {x:V} {l:Addr} {ys:List V} {o:HO} (h:c4 K H0 H qs x) (hl:H l=some (.lst ys)) (nl:H0 l≠none):c4 K H0 (upd H l o) qs x:=by obtain ⟨q,a,b,c⟩:=h;exact ⟨q,a,b,c.updL hl λz=>nl (by rw[<- z];exact b)⟩
theorem ig.at {H:Hp} {b:Addr} (B:ig H b):H b≠none:=by obtain ⟨_,_,_,_,_,e,_⟩:=B;rw[e];simp
theorem Inner.at {H:Hp} {b q:Addr} (B:ig H b) (i:Inner H b q):H q≠none:=by
 obtain ⟨q',i',xs,e⟩:=B.inner;rw[<- Inner.inj i' i,e];simp
theorem il {α β:Type} {F:α->β->Prop} {l1:List α} {l2:List β} {i:Nat} (h:Paired F l1 l2) (hi:i < l1.length):∃x y,l1[i]?=some x/\l2[i]?=some y/\x∈l1/\F x y:=by
 have hl:=h.length;exact ⟨l1[i],l2[i]'(by lia),by simp,by simp,aP _,jS h hi (by lia)⟩
section
variable {α β:Type} [DecidableEq α] [DecidableEq β] (k1:Kind α) (k2:Kind β)
theorem vZ {X:Cx} {pins:List (Addr×Obj)} {σ:St} {H:Hp} {s:Shared} {A:Around} (I:Inv X pins σ H s) (h1:A.units+k1.d < cLine) (h2:A.units+k2.d < cLine) {x y z w:V} {us ws:List Value} {a b:α×β}
  (rx:cO [x,y] us) (ry:cO [z,w] ws) (a1:k1.R X.K H x a.1) (a2:k2.R X.K H y a.2) (b1:k1.R X.K H z b.1) (b2:k2.R X.K H w b.2) :
  ∀j (h1:j < us.toArray.size) (h2:j < ws.toArray.size),SeqAt.EqAt A s us.toArray[j] ws.toArray[j] (if j=0 then decide (a.1=b.1) else decide (a.2=b.2)):=λj l1 l2=>by
 obtain ⟨u1,u2,rfl,r1,r2⟩:=vals2 rx;obtain ⟨w1,w2,rfl,q1,q2⟩:=vals2 ry;have hj:j < 2:=by simpa using l1
 rcases cb j 1 with h | h
 ·have e:j=0:=by lia
  subst e;exact k1.eq (A:=A) I r1 q1 a1 b1 h1
 ·have e:j=1:=by lia
  subst e;exact k2.eq (A:=A) I r2 q2 a2 b2 h2
theorem Cv {a b:α×β}:(List.range 2).all (λj=>if j=0 then decide (a.1=b.1) else decide (a.2=b.2))=decide (a=b):=by
 have e:List.range 2=[0,1]:=rfl;rw[e];simp only[Pt,List.all_nil,Bool.and_true,if_true,Nat.one_ne_zero,if_false];rw[<- Bool.decide_and];exact decide_eq_decide.mpr ⟨λ⟨h1,h2⟩=>Prod.ext h1 h2,λh=>by rw[h];exact ⟨rfl,rfl⟩⟩
def Nr:Kind (α×β) where
 R:=λK H x a=>∃p u v,x=.ref p/\jl K H p [u,v]/\k1.R K H u a.1/\k2.R K H v a.2
 d:=max k1.d k2.d+1
 inj:=λ{X pins σ H s x a b} I h1 h2=>by
  obtain ⟨p,u,v,rfl,hp,a1,a2⟩:=h1;obtain ⟨q,u',v',e,hq,b1,b2⟩:=h2;cases e;have e:=I.tuple_inj hp hq;cases e;exact Prod.ext (k1.inj I a1 b1) (k2.inj I a2 b2)
 rc:=λ{X pins σ H s x y v u a b A} I rx ry h1 h2 hA=>by
  obtain ⟨p,x1,x2,rfl,hp,a1,a2⟩:=h1;obtain ⟨q,y1,y2,rfl,hq,b1,b2⟩:=h2;cases rx;cases ry;obtain ⟨us,r1,t1,_⟩:=I.tuple hp;obtain ⟨ws,r2,t2,_⟩:=I.tuple hq;have l1:=r1.length;have l2:=r2.length;have z:=SeqAt.RcAt.tuples (A:=A) (e:=λj=>if j=0 then decide (a.1=b.1) else decide (a.2=b.2)) (show s.heap.IsTuple p us.toArray from t1) (show s.heap.IsTuple q ws.toArray from t2) (by lia) (vZ k1 k2 (A:=A.in1) I (by show A.units+1+k1.d < cLine;lia) (by show A.units+1+k2.d < cLine;lia) r1 r2 a1 a2 b1 b2);have e1:us.toArray.size=2:=by rw[aJ,<- l1];rfl
  have e2:ws.toArray.size=2:=by rw[aJ,<- l2];rfl
  rw[e1,e2,HV,Cv] at z;simpa using z
 ne:=λ{X pins σ H s x y v u a b A} I rx ry h1 h2 hA=>by
  obtain ⟨p,x1,x2,rfl,hp,a1,a2⟩:=h1;obtain ⟨q,y1,y2,rfl,hq,b1,b2⟩:=h2;cases rx;cases ry;obtain ⟨us,r1,t1,_⟩:=I.tuple hp;obtain ⟨ws,r2,t2,_⟩:=I.tuple hq;have l1:=r1.length;have l2:=r2.length;have z:=SeqAt.RcNeAt.tuples (A:=A) (e:=λj=>if j=0 then decide (a.1=b.1) else decide (a.2=b.2)) (show s.heap.IsTuple p us.toArray from t1) (show s.heap.IsTuple q ws.toArray from t2) (by lia) (vZ k1 k2 (A:=A.in1) I (by show A.units+1+k1.d < cLine;lia) (by show A.units+1+k2.d < cLine;lia) r1 r2 a1 a2 b1 b2);have e1:us.toArray.size=2:=by rw[aJ,<- l1];rfl
  have e2:ws.toArray.size=2:=by rw[aJ,<- l2];rfl
  rw[e1,e2,HV,Cv] at z;simpa using z
 eq:=λ{X pins σ H s x y v u a b A} I rx ry h1 h2 hA=>by
  obtain ⟨p,x1,x2,rfl,hp,a1,a2⟩:=h1;obtain ⟨q,y1,y2,rfl,hq,b1,b2⟩:=h2;cases rx;cases ry;by_cases e:p=q
  ·subst e;have e:=I.tuple_inj hp hq;cases e;have e2:a=b:=Prod.ext (k1.inj I a1 b1) (k2.inj I a2 b2);rw[decide_eq_true e2];exact SeqAt.EqAt.same _
  ·obtain ⟨us,r1,t1,_⟩:=I.tuple hp;obtain ⟨ws,r2,t2,_⟩:=I.tuple hq;have l1:=r1.length;have l2:=r2.length;have z:=SeqAt.RcAt.tuples (A:=A) (e:=λj=>if j=0 then decide (a.1=b.1) else decide (a.2=b.2)) (show s.heap.IsTuple p us.toArray from t1) (show s.heap.IsTuple q ws.toArray from t2) (by lia) (vZ k1 k2 (A:=A.in1) I (by show A.units+1+k1.d < cLine;lia) (by show A.units+1+k2.d < cLine;lia) r1 r2 a1 a2 b1 b2);have e1:us.toArray.size=2:=by rw[aJ,<- l1];rfl
   have e2:ws.toArray.size=2:=by rw[aJ,<- l2];rfl
   rw[e1,e2,HV,Cv] at z;exact .of_refs e (by simpa using z)
end
theorem DG {i j:Int} (h1:-(2^64) < i) (h2:i < 2^64):gI i j:=.inl (.inl ⟨h1,h2⟩)
theorem HK {i j:Int} (h1:-(2^64) < j) (h2:j < 2^64):gI i j:=.inl (.inr ⟨h1,h2⟩)
def Pk (K : FG9) (l : Addr) : It :=
  ⟨λi H => ∃ xs x, bN K H l xs /\ xs[i]? = some x,
   λi H v H' => ∃ p x, v = .ref p /\ H p = none /\ H' = upd H p (.tup [.int i, x]) /\ ∀ xs, bN K H l xs → xs[i]? = some x,
   λi H => ∃ xs, bN K H l xs /\ xs.length ≤ i⟩
def tnE (e it l:Addr) (i:Nat) (h:Heap):Prop:=(∃old,IsEnum h e it i old)/\h.IsListIter it l i
theorem Ia {P:Program} {w:World} {K:FG9} {elts:List Expr} {kk:Nat} {tpos:Pos} (e it l:Addr) (hei:e≠it):Turn P w K (.Tuple elts kk tpos) (Pk K l) [e,it] e (tnE e it l) where
 mem:=by simp
 obj:=λi h st b hb=>by
  obtain ⟨⟨old,he⟩,⟨o1,g1,c1,d1⟩⟩:=st;simp only[aB,aU,or_false] at hb;rcases hb with rfl | rfl
  ·exact ⟨_,he,λv q=>nomatch q⟩
  ·exact ⟨o1,g1,λv q=>by rw[d1] at q;cases q⟩
 keep:=λi h h' st k=>by
  obtain ⟨⟨old,he⟩,h1⟩:=st;exact ⟨⟨old,k e (by simp) _ he⟩,h1.at λo q=>k it (by simp) o q⟩
 item:=by
  intro X hP hw hK hc i pins s σ H E I hf st hg;subst hP hw hK;obtain ⟨⟨old,he⟩,h1⟩:=st;obtain ⟨xs,x,qx,ex⟩:=hg;obtain ⟨us,rx,px,_⟩:=I.list qx;obtain ⟨u,eu,ru⟩:=rx.get ex;refine wpAny_pyNext_enum_item he h1 px.isList (x:=u) (by simpa using eu) hei λh' a1 a2 a3 a4 hk=>?_
  refine ⟨_,rfl,wpAny_letOwnedTupleGo_enum a1 λh'' he'' hs=>?_⟩;have hT0:H s.heap.objs.size=none:=I.hok.fresh (aj _);have ene:s.heap.objs.size≠e:=HU (Heap.lt_size he)
  have up:∀b o,b∉[e,it]->s.heap.get? b=some o->h''.get? b=some o:=λb o hb q=>by
   simp only[aB,aU,or_false,not_or] at hb;exact (hs.2 b hb.1).trans (hk b o hb.1 hb.2 q)
  have tup:h''.get? s.heap.objs.size=some { cls:=.type "tuple",data:=.seq #[.int i s.toks,u] }:=(hs.2 _ ene).trans a3;have I1:Inv X pins σ H { s with heap:=h'',toks:=s.toks+1 }:=I.moved (g':=s.gens) (d':=s.drawn) (t':=s.toks+1) (ch:=[e,it]) hf up I.bare;have fT:jV X pins H s.heap.objs.size:=I.fpOk (aj _) hT0;have I2:=I1.track (o:=.tup [.int i,x]) fT ⟨jm rfl,[.int i s.toks,u],.cons ⟨_,rfl⟩ (.cons ru .nil),⟨_,tup,rfl,_,rfl⟩⟩;refine ⟨.ref s.heap.objs.size,_,I2,rfl,⟨_,x,rfl,hT0,rfl,λxs' q=>by rw[I.list_inj q qx];exact ex⟩,?_,λb hb=>?_⟩
  ·exact ⟨⟨_,by simpa using he''⟩,a2.at λo q=>(hs.2 _ hei.symm).trans q⟩
  ·rw[bG]
   ·exact (hf b hb).1
   ·obtain ⟨o1,g1,_⟩:=h1;simp only[aB,aU,or_false] at hb;rcases hb with rfl | rfl
    ·exact ene.symm
    ·exact bZ (Heap.lt_size g1)
 done:=by
  intro X hP hw hK hc i pins s σ H E I hf st hg;subst hP hw hK;obtain ⟨⟨old,he⟩,h1⟩:=st;obtain ⟨xs,qx,hend⟩:=hg;obtain ⟨us,rx,px,_⟩:=I.list qx;have lx:=rx.length;refine wpAny_pyNext_enum_end (I.ok.hd hc) he h1 px.isList (by simp;lia) λh' hk=>⟨rfl,?_⟩
  exact I.moved (g':=s.gens) (d':=s.drawn) (t':=s.toks) (ch:=[e,it]) hf (λb o hb q=>hk b o (λz=>hb (by simp [z])) q) I.bare
 self:=λ_ _ _ _ _ st h=>let ⟨⟨_,he⟩,_⟩:=st;wpAny_pyIter_enum he h
section
variable {X:Cx}
def Nw (K:FG9) (ta:TA):TI:=λσ H R=>ta σ H λvs H1=>∃l,vs=[.ref l]/\(∃xs,bN K H1 l xs)/\R (Pk K l) H1
theorem Ms {a:Expr} {ta:TA} {p pos tpos:Pos} {elts:List Expr} {kk:Nat} (hg:Gl X "enumerate") (hm:X.mg "enumerate"=none) (ha:PA X [a] ta) (hs:starEach [a] X.env=[(false,eval a X.env)]:=by rfl) :
  PI X (.Tuple elts kk tpos) (.Call (.Name "enumerate" p) [a] [] pos) (Nw X.K ta):=by
 intro pins s σ H R I h;refine Call_ (jT I hg hm boot_enumerate (PyProof.Rows.callWith_type1 (gQ (ha pos pins s σ H _ I h) λus s1 ⟨vs,H1,I1,r1,q1⟩=>?_) (by rw[hs];rfl) rfl));obtain ⟨l,e,⟨xs,qx⟩,q⟩:=q1;subst e;obtain ⟨u,rfl,ru⟩:=vals1 r1;cases ru;obtain ⟨us,rx,px,_⟩:=I1.list qx;refine call_enumerate_list px.isList λh' a1 a2 a3 hk=>wpAny_pyIter_enum a1 ?_
 have I2:Inv X pins σ H1 { s1 with heap:=h' }:=I1.kept (t':=s1.toks) hk;refine ⟨_,[s1.heap.objs.size+1,s1.heap.objs.size],_,_,H1,rfl,I2,Ia (s1.heap.objs.size+1) s1.heap.objs.size l (Nat.succ_ne_self _),⟨⟨_,a1⟩,a2⟩,λb hb=>?_,q⟩
 have hb':s1.heap.objs.size<=b:=by
  simp only[aB,aU,or_false] at hb;rcases hb with rfl | rfl <;> first | exact lW _ | exact aj _
 exact I1.fpOk hb' (I1.hok.fresh hb')
end
theorem JV {K:FG9} {ta:TA} {R:It->Hp->Prop} {σ:St} {H:Hp} (h:ta σ H λvs H1=>∃l,vs=[.ref l]/\(∃xs,bN K H1 l xs)/\R (Pk K l) H1):Nw K ta σ H R:=h
theorem KP {K:FG9} {l:Addr} {xs:List V} {g:TG} {tb:TS} {D:Ends} {σ:St} {H:Hp} (Pv:Nat->St->Hp->Prop) (h0:Pv 0 σ H) (hl:∀i σ H,i<=xs.length->Pv i σ H->bN K H l xs)
  (hs:∀i x σ H p,xs[i]?=some x->Pv i σ H->H p=none->g (.ref p) σ (upd H p (.tup [.int i,x])) λσ2 H2=>tb { D with nx:=Pv (i+1),ct:=Pv (i+1),bk:=D.nx } σ2 H2) (hd:∀σ H,Pv xs.length σ H->D.nx σ H) :
  ∃W:Nat->Nat->St->Hp->Prop,(∃m,W 0 m σ H)/\∀i m σ H,W i m σ H →
   ((Pk K l).stop i H/\D.nx σ H)\/((Pk K l).go i H/\∃N:St->Hp->Prop,(∀σ' H',N σ' H'->∃m',m' < m/\W (i+1) m' σ' H')/\∀x H',(Pk K l).yld i H x H'->g x σ H' λσ2 H2=>tb { D with nx:=N,ct:=N,bk:=D.nx } σ2 H2):=by
 refine ⟨λi m σ H=>m=xs.length - i/\i<=xs.length/\Pv i σ H,⟨xs.length,by simp,bf _,h0⟩,?_⟩;rintro i m σ H ⟨rfl,hi,p⟩;have q1:=hl i σ H hi p;by_cases hlt:i < xs.length
 ·refine .inr ⟨⟨xs,xs[i],q1,by simp [hlt]⟩,Pv (i+1),λσ' H' p'=>⟨xs.length - (i+1),by lia,rfl,hlt,p'⟩,λx H' y=>?_⟩;obtain ⟨r,x',rfl,hr,rfl,e1⟩:=y;exact hs i x' σ _ r (e1 xs q1) p hr
 ·have e:i=xs.length:=by lia
  subst e;exact .inl ⟨⟨xs,q1,aj _⟩,hd σ H p⟩
section
variable {X:Cx}
theorem GH (K:FG9) {e:Expr} {f:Str} {pos:Pos} {ta:TE} (he:PE X e ta) (hb:attributeBase e f X.env (eval e X.env)=eval e X.env) (hK:X.K=K:=by rfl):PE X (.Attribute e f pos) (NV K ta f):=by subst hK;exact iZ he hb
end
theorem Ov {K:FG9} {ta:TE} {f:Str} {σ:St} {H:Hp} {Q:VK} (h:ta σ H λx H1=>∃a C dx fs v,x=.ref a/\H1 a=some (.ins C dx fs)/\Jk K C/\jH K C f/\fs.lookup f=some v/\Q v H1):NV K ta f σ H Q:=h
theorem LY {K:FG9} {ta tv:TE} {f:Str} {D:Ends} {σ:St} {H:Hp} (h:tv σ H λy H1=>ta σ H1 λx H2=>∃a C dx fs,x=.ref a/\H2 a=some (.ins C dx fs)/\Jk K C/\jH K C f/\fs.length < 1000 /\
 D.nx σ (upd H2 a (.ins C dx (cx f y fs)))):PZ K ta tv f D σ H:=h
theorem L5 {C:Addr} {m:Str} {sp:Sp} {E:XK} {ta:TE} {t:TA} {σ:St} {H:Hp} {Q:VK} (h:ta σ H λx H1=>∃a dx fs,x=.ref a/\H1 a=some (.ins C dx fs)/\fs.lookup m=none /\
 t σ H1 λvs H2=>sp (x :: vs) H2 Q E):Nb C m sp [] E ta t σ H Q:=by
 have e:(λ(x:V) H1=>∃a dx fs,x=.ref a/\H1 a=some (.ins C dx fs)/\fs.lookup m=none/\t σ H1 λvs H2=>sp (x :: (vs++[])) H2 Q E)=λx H1=>∃a dx fs,x=.ref a/\H1 a=some (.ins C dx fs)/\fs.lookup m=none/\t σ H1 λvs H2=>sp (x :: vs) H2 Q E:=by
  funext x H1;simp only[kY]
 show ta σ H (λ(x:V) H1=>∃a dx fs,x=.ref a/\H1 a=some (.ins C dx fs)/\fs.lookup m=none/\t σ H1 λvs H2=>sp (x :: (vs++[])) H2 Q E)
 rw[e];exact h
theorem L6 {C:Addr} {sp:Sp} {E:XK} {t:TA} {σ:St} {H:Hp} {Q:VK} (h:t σ H λvs H1=>∀x dx,H1 x=none->H1 dx=none->dx≠x →
 sp (.ref x :: vs) (upd (upd H1 dx (.own x)) x (.ins C dx [])) (λv H2=>v=.non/\Q (.ref x) H2) E):Nc C sp [] E t σ H Q:=by
 have e:(λvs (H1:Hp)=>∀x dx,H1 x=none->H1 dx=none->dx≠x->sp (.ref x :: (vs++[])) (upd (upd H1 dx (.own x)) x (.ins C dx [])) (λv H2=>v=.non/\Q (.ref x) H2) E)=λvs H1=>∀x dx,H1 x=none->H1 dx=none->dx≠x->sp (.ref x :: vs) (upd (upd H1 dx (.own x)) x (.ins C dx [])) (λv H2=>v=.non/\Q (.ref x) H2) E:=by
  funext vs H1;simp only[kY]
 show t σ H (λvs (H1:Hp)=>∀x dx,H1 x=none->H1 dx=none->dx≠x->sp (.ref x :: (vs++[])) (upd (upd H1 dx (.own x)) x (.ins C dx [])) (λv H2=>v=.non/\Q (.ref x) H2) E)
 rw[e];exact h
def DR (x:Addr) (H H':Hp):Prop:=∀b o,H b=some o->b≠x->H' b=some o
theorem DR.upd {x:Addr} {H:Hp} {o:HO}:DR x H (L2.upd H x o):=λb u h n=>by rw[bG n];exact h
def tG (H:Hp) (x:Addr):Prop:=∃C dx fs,H x=some (.ins C dx fs)
section
variable {K:FG9} {H H' H0:Hp} {q:Rat} {v:V} {x p:Addr} {qs:List Rat} {rows:LR9}
theorem ck.exc (h:ck K H q v) (e:DR x H H') (hx:tG H x):ck K H' q v:=by
 obtain ⟨C,dx,fs,hx⟩:=hx;obtain ⟨r,er,s⟩:=h;refine ⟨r,er,?_⟩;rcases s with (h | ⟨o,h⟩) | h
 ·exact .inl (.inl (e _ _ h λz=>by rw[z,hx] at h;cases h))
 ·exact .inl (.inr ⟨o,e _ _ h λz=>by rw[z,hx] at h;cases h⟩)
 ·exact .inr h
theorem cv.exc (h:cv K H p qs) (e:DR x H H') (hx:tG H x):cv K H' p qs:=by
 obtain ⟨xs,g,r⟩:=h;have hx':=hx;obtain ⟨C,dx,fs,hx⟩:=hx;exact ⟨xs,e _ _ g (λz=>by rw[z,hx] at g;cases g),Paired.imp' (λ_ _ z=>z.exc e hx') r⟩
theorem c4.exc (h:c4 K H0 H qs v) (e:DR x H H') (hx:tG H x):c4 K H0 H' qs v:=by obtain ⟨q,a,b,c⟩:=h;exact ⟨q,a,b,c.exc e hx⟩
theorem bJ.exc (h:bJ K H0 H p rows) (e:DR x H H') (hx:tG H x):bJ K H0 H' p rows:=by
 obtain ⟨xs,g,r,n⟩:=h;have hx':=hx;obtain ⟨C,dx,fs,hx⟩:=hx;exact ⟨xs,e _ _ g (λz=>by rw[z,hx] at g;cases g),Paired.imp' (λ_ _ z=>z.exc e hx') r,n⟩
end
def pH (a b c:Addr) (n i o:Nat):List (Str×V):=cx "outs" (.int o) (cx "look" (.ref c) (cx "ins" (.int i) (cx "put" (.ref b) (cx "states" (.int n) (cx "move" (.ref a) [])))))
section
variable {a b c:Addr} {n i o:Nat}
theorem Gg:(pH a b c n i o).lookup ("ins":Str)=some (.int i):=by
 unfold pH;rw[bL,if_neg (by decide +kernel),bL,if_neg (by decide +kernel),bL,if_pos rfl]
theorem uy:(pH a b c n i o).lookup ("put":Str)=some (.ref b):=by
 unfold pH;rw[bL,if_neg (by decide +kernel),bL,if_neg (by decide +kernel),bL,if_neg (by decide +kernel),bL,if_pos rfl]
theorem tO:(pH a b c n i o).lookup ("states":Str)=some (.int n):=by
 unfold pH;rw[bL,if_neg (by decide +kernel),bL,if_neg (by decide +kernel),bL,if_neg (by decide +kernel),bL,if_neg (by decide +kernel),bL,if_pos rfl]
theorem D4:(pH a b c n i o).lookup ("move":Str)=some (.ref a):=by
 unfold pH;rw[bL,if_neg (by decide +kernel),bL,if_neg (by decide +kernel),bL,if_neg (by decide +kernel),bL,if_neg (by decide +kernel),bL,if_neg (by decide +kernel),bL,if_pos rfl]
theorem NW {m:Str} (h1:¬m="outs") (h2:¬m="look") (h3:¬m="ins") (h4:¬m="put") (h5:¬m="states") (h6:¬m="move"):(pH a b c n i o).lookup m=none:=by
 unfold pH;rw[bL,if_neg h1,bL,if_neg h2,bL,if_neg h3,bL,if_neg h4,bL,if_neg h5,bL,if_neg h6];rfl
theorem Ic:(pH a b c n i o).lookup ("moved":Str)=none:=NW (by decide +kernel) (by decide +kernel) (by decide +kernel) (by decide +kernel) (by decide +kernel) (by decide +kernel)
end
theorem eH {k:Str} {v:V}:∀{l:List (Str×V)},(cx k v l).length<=l.length+1
 | []=>aj _
 | (x,y) :: r=>by
  unfold cx
  split
  ·simp
  ·have:=eH (k:=k) (v:=v) (l:=r);simp only[ba]
   lia
structure fz (mv pt lk:LR9):Prop where
 n8:mv.length<=8
 i4:pt.length<=4
 o4:lk.length<=4
 mw:∀xs∈mv,xs.length=mv.length
 pw:∀xs∈pt,xs.length=mv.length
 lw:∀xs∈lk,xs.length=mv.length
def Cn (mv pt lk:LR9):Prop:=∃M V:Nat,0 < M/\M<=2^800/\V<=2^400/\GF M V mv/\GF M V pt/\GF M V lk
def kX (K:FG9) (H0 H:Hp) (C p:Addr) (mv pt lk:LR9):Prop:=∃dx a b c,H p=some (.ins C dx (pH a b c mv.length pt.length lk.length))/\H0 a=none/\H0 b=none/\H0 c=none/\bJ K H0 H a mv/\bJ K H0 H b pt/\bJ K H0 H c lk
section
variable {K:FG9} {H H' H0 H1:Hp} {C p b:Addr} {mv pt lk:LR9}
theorem kX.same (h:kX K H0 H C p mv pt lk) (e:aG H H'):kX K H0 H' C p mv pt lk:=by obtain ⟨dx,a,b,c,g,n1,n2,n3,g1,g2,g3⟩:=h;exact ⟨dx,a,b,c,e _ _ g,n1,n2,n3,g1.same e,g2.same e,g3.same e⟩
theorem kX.upto (h:kX K H0 H C p mv pt lk) (u:cT b H H') (B:ig H b) (nb:H0 b≠none):kX K H0 H' C p mv pt lk:=by
 obtain ⟨dx,a,b',c,g,n1,n2,n3,g1,g2,g3⟩:=h;refine ⟨dx,a,b',c,u.other (λz=>by obtain ⟨_,_,_,_,_,e,_⟩:=B;rw[z,e] at g;cases g) g,n1,n2,n3,g1.upto u B (λz=>nb (by rw[<- z];exact n1)) nb,g2.upto u B (λz=>nb (by rw[<- z];exact n2)) nb,g3.upto u B (λz=>nb (by rw[<- z];exact n3)) nb⟩
theorem kX.weak (h:kX K H0 H C p mv pt lk) (e:aG H1 H0):kX K H1 H C p mv pt lk:=by obtain ⟨dx,a,b,c,g,n1,n2,n3,g1,g2,g3⟩:=h;exact ⟨dx,a,b,c,g,e.none n1,e.none n2,e.none n3,g1.weak e,g2.weak e,g3.weak e⟩
theorem Cn.fits (h:Cn mv pt lk) {l:List Rat} (hl:∀x∈l,(∃xs∈mv,x∈xs)\/(∃xs∈pt,x∈xs)\/(∃xs∈lk,x∈xs)\/x=0):Fits l:=by
 obtain ⟨M,V,h0,h1,h2,h3,h4,h5⟩:=h;refine ⟨M,V,h0,ai h1 (au (by decide) (by decide)),ai h2 (au (by decide) (by decide)),λx hx=>?_⟩;rcases hl x hx with ⟨xs,a,b⟩ | ⟨xs,a,b⟩ | ⟨xs,a,b⟩ | rfl
 ·exact h3 xs a x b
 ·exact h4 xs a x b
 ·exact h5 xs a x b
 ·exact Fr.zero
end
def Ie:Sp:=λvs H Q _=>∃i:Int,vs=[.int i]/\Q (.bl true) H
def Ii (K:FG9):Sp:=λvs H Q _=>∃x n,vs=[x]/\vR K H x n/\ym n/\∀H',aG H H'->Q (.bl true) H'
inductive Gi (vs:List V) (H:Hp) (Q:VK) (E9:XK):Prop
 | mk (p:Addr) (xs:List V) (a m:Int):vs=[.ref p,.int a,.int m]->H p=some (.lst xs)->(xs.length:Int)<=m->Q .non H->Gi  vs H Q E9
inductive Gv (K:FG9) (vs:List V) (H:Hp) (Q:VK) (E9:XK):Prop
 | mk (p:Addr) (H0:Hp) (rows:LR9) (w:Nat):vs=[.ref p,.int w]->bJ K H0 H p rows->rows.length<=1000->w<=1000->((∀xs∈rows,xs.length=w/\∀x∈xs,ym (nm x)))->(∀r H',H r=none->aG H H'->bJ K H H' r rows->Q (.ref r) H')->Gv K vs H Q E9
def Pl (rows:LR9):Prop:=∀xs∈rows,∀x∈xs,ym (nm x)
inductive Gn (K:FG9) (C:Addr) (vs:List V) (H:Hp) (Q:VK) (E9:XK):Prop
 | mk (x dx p q r:Addr) (Hb H0 H1 H2:Hp) (mv pt lk:LR9):vs=[.ref x,.ref p,.ref q,.ref r]->Hb x=none->Hb dx=none->dx≠x->H=upd (upd Hb dx (.own x)) x (.ins C dx [])->bJ K H0 Hb p mv->bJ K H1 Hb q pt->bJ K H2 Hb r lk->fz mv pt lk->Pl mv->Pl pt->Pl lk->(∀H',aG Hb H'->kX K Hb H' C x mv pt lk->Q .non H')->Gn K C vs H Q E9
def gY (mv pt:LR9) (st pu:List Rat):List Rat:=List.zipWith (λline col=>dR (line++col) (st++pu)) mv (cU pt mv.length)
theorem Cn.ok {mv pt lk:LR9} (h:Cn mv pt lk):Pl mv/\Pl pt/\Pl lk :=
 ⟨λxs hx x hx'=>(h.fits (l:=xs) λy hy=>.inl ⟨xs,hx,hy⟩).ok hx',λxs hx x hx'=>(h.fits (l:=xs) λy hy=>.inr (.inl ⟨xs,hx,hy⟩)).ok hx',λxs hx x hx'=>(h.fits (l:=xs) λy hy=>.inr (.inr (.inl ⟨xs,hx,hy⟩))).ok hx'⟩
def fK (K:FG9) (A:Addr->Prop) (H:Hp) (n:Nat) (C:Rat->Prop) (x:V):Prop:=∃q qs,x=V.ref q/\A q/\cv K H q qs/\qs.length=n/\∀y∈qs,C y
section
variable {K:FG9} {A A':Addr->Prop} {H H' H0:Hp} {n:Nat} {C C':Rat->Prop} {x v:V} {q b l p:Addr} {xs zs:List V} {y:Rat} {o:HO}
theorem fK.same (h:fK K A H n C x) (e:aG H H'):fK K A H' n C x:=by obtain ⟨q,qs,a,c,r,z⟩:=h;exact ⟨q,qs,a,c,r.same e,z⟩
theorem fK.upto (h:fK K A H n C x) (u:cT b H H') (B:ig H b) (nb:¬A b):fK K A H' n C x:=by obtain ⟨q,qs,a,c,r,z⟩:=h;exact ⟨q,qs,a,c,r.upto u B (λe=>nb (by rw[<- e];exact c)),z⟩
theorem fK.other (h:fK K A H n C x) (hl:H l=some (.lst zs)) (nl:¬A l):fK K A (upd H l o) n C x:=by obtain ⟨q,qs,a,c,r,z⟩:=h;exact ⟨q,qs,a,c,r.updL hl (λe=>nl (by rw[<- e];exact c)),z⟩
theorem fK.weak (h:fK K A H n C x) (w:∀q,A q->A' q) (wc:∀y,C y->C' y):fK K A' H n C' x:=by obtain ⟨q,qs,a,c,r,l,z⟩:=h;exact ⟨q,qs,a,w q c,r,l,λy hy=>wc y (z y hy)⟩
theorem t9 {α β:Type} {F:α->β->Prop} {a:α} {b:β} (h:F a b):∀{l1:List α} {l2:List β} (j:Nat),Paired F l1 l2->Paired F (l1.set j a) (l2.set j b)
 | _,_,_,.nil=>.nil
 | _,_,0,.cons _ t=>.cons h t
 | _,_,j+1,.cons r t=>.cons r (t9 h j t)
theorem fK.put (h:fK K A H n C x) (hq:H q=some (.lst zs)) (hv:ck K H y v) (hc:C y) (j:Nat):fK K A (upd H q (.lst (zs.set j v))) n C x:=by
 obtain ⟨q1,qs,rfl,a,⟨zs1,g1,pr⟩,l1,c1⟩:=h;by_cases e:q1=q
 ·subst e;rw[hq] at g1;cases g1;refine ⟨q1,qs.set j y,rfl,a,⟨_,aK,t9 (hv.updL hq) j (Paired.imp' (λ_ _ z=>z.updL hq) pr)⟩,by rw[dQ];exact l1,λz hz=>?_⟩;rcases cg hz with hz | rfl
  ·exact c1 z hz
  ·exact hc
 ·exact ⟨q1,qs,rfl,a,⟨zs1,by rw[bG e];exact g1,Paired.imp' (λ_ _ z=>z.updL hq) pr⟩,l1,c1⟩
theorem fK.at (h:fK K A H n C x):∃q zs qs,x=V.ref q/\A q/\H q=some (.lst zs)/\zs.length=n/\Paired (ck K H) qs zs/\qs.length=n/\∀y∈qs,C y:=by obtain ⟨q,qs,a,c,⟨zs,g,pr⟩,l,z⟩:=h;exact ⟨q,zs,qs,a,c,g,by rw[<- pr.length];exact l,pr,l,z⟩
end
theorem rj {W:Nat} {i:Int} (h:i.natAbs<=W) (hW:1<=W):Dr W (i:Rat):=⟨h,hW⟩
def QR (K:FG9) (A:Addr->Prop) (H:Hp) (n:Nat) (C:Rat->Prop) (p:Addr) (m:Nat):Prop:=∃us,H p=some (.lst us)/\us.length=m/\¬A p/\∀x∈us,fK K A H n C x
structure Fb (A:Addr->Prop) (m p l b q0:Addr):Prop where
 am:¬A m
 ap:¬A p
 al:¬A l
 ab:¬A b
 aq:¬A q0
 mb:m≠b
 pb:p≠b
 lb:l≠b
 mp:m≠p
 ml:m≠l
 mq:m≠q0
theorem Ho {M:Nat} {z:Int} (h:z.natAbs<=2):Fr 1 2 (z:Rat):=Fr.int h
theorem Dy {M W:Nat} {a c:Rat} {z:Int} (hz:z.natAbs<=2) (ha:Fr M W a) (hc:Fr M W c):Fr M (3*W) (a+(z:Rat)*c):=by
 have h:=(Ho (M:=M) hz).mul hc;rw[pS] at h;exact (ha.add h).mono (by lia)
theorem Cz {z:Int} (h:z.natAbs<=1000):kK (z:Rat):=FX (M:=1) (V:=1000) (by decide) (cV) (ai (show 1000<=2^10 by decide) (au (by decide) (by decide))) (Fr.int h)
theorem yX {M W:Nat} {c:Rat} {z:Int} (hz:z.natAbs<=2) (hc:Fr M W c) (h0:0 < M) (h1:M<=2^800) (hW:W<=2^140):kK ((z:Rat)*c):=by
 have h:=(Ho (M:=M) hz).mul hc;rw[pS] at h;refine FX h0 (ai h1 (au (by decide) (by decide))) (ai (aF 2 hW) ?_) h;rw[show 2*2^140=2^141 by rw[dC,bQ]];exact au (by decide) (by decide)
def iL (A:Addr->Prop) (b m:Addr) (H H':Hp):Prop:=∀c u,H c=some u->c≠b->¬A c->c≠m->H' c=some u
theorem iL.same {A:Addr->Prop} {b m:Addr} {H H1 H2:Hp} (h:iL A b m H H1) (s:aG H1 H2):iL A b m H H2:=λc u e n1 n2 n3=>s _ _ (h c u e n1 n2 n3)
theorem iL.upto {A:Addr->Prop} {b m:Addr} {H H1 H2:Hp} (h:iL A b m H H1) (s:cT b H1 H2):iL A b m H H2:=λc u e n1 n2 n3=>s.1 _ _ (h c u e n1 n2 n3) n1
theorem iL.upd {A:Addr->Prop} {b m q:Addr} {H H1:Hp} {o:HO} (h:iL A b m H H1) (hq:A q\/q=m):iL A b m H (L2.upd H1 q o):=λc u e n1 n2 n3=>by
 rw[bG]
 ·exact h c u e n1 n2 n3
 ·rintro rfl;rcases hq with hq | hq
  ·exact n2 hq
  ·exact n3 hq
theorem iL.new {A:Addr->Prop} {b m r:Addr} {H H1:Hp} (h:iL A b m H H1) (hA:∀q,H q=none->A q) (B:ig H1 b) (hm:H1 m≠none) (hr:H1 r=none):A r:=by
 by_cases z:A r
 ·exact z
 ·cases e:H r with
  | none=>exact hA r e
  | some u =>
   have:=h r u e (λy=>B.at (by rw[<- y];exact hr)) z (λy=>hm (by rw[<- y];exact hr));rw[hr] at this;cases this
structure HS (K:FG9) (A:Addr->Prop) (n:Nat) (C:Rat->Prop) (r p b q0:Addr) (us:List V) (H0 H:Hp):Prop where
 gr:H r=some (.lst us)
 ru:∀x∈us,fK K A H n C x
 rp:fK K A H n C (.ref p)
 bag:ig H b
 inn:Inner H b q0
 up:cT b H0 H
section
variable {K:FG9} {A:Addr->Prop} {n:Nat} {C:Rat->Prop} {r p b q0:Addr} {us:List V} {H0 H H':Hp} {y:Rat} {v:V}
theorem HS.same (h:HS K A n C r p b q0 us H0 H) (e:aG H H'):HS K A n C r p b q0 us H0 H':=⟨e _ _ h.gr,λx hx=>(h.ru x hx).same e,h.rp.same e,h.bag.same e,(e.upto (p:=b)).2 _ h.inn,h.up.same e⟩
theorem HS.upto (h:HS K A n C r p b q0 us H0 H) (u:cT b H H') (B:ig H' b) (nb:¬A b) (rb:r≠b):HS K A n C r p b q0 us H0 H':=⟨u.other rb h.gr,λx hx=>(h.ru x hx).upto u h.bag nb,h.rp.upto u h.bag nb,B,u.2 _ h.inn,h.up.trans u⟩
theorem HS.put (h:HS K A n C r p b q0 us H0 H) (ap:A p) (nr:¬A r) (nb:¬A b) (nq:¬A q0) (hp:H0 p=none) (hv:ck K H y v) (hc:C y) (j:Nat):∃zs,H p=some (.lst zs)/\zs.length=n/\HS K A n C r p b q0 us H0 (upd H p (.lst (zs.set j v))):=by
 obtain ⟨q,zs,qs,e,a,g,l,_⟩:=h.rp.at;cases e;have ne:∀{z},¬A z->z≠p:=λh e=>h (by rw[e];exact ap)
 exact ⟨zs,g,l,by rw[bG (ne nr)];exact h.gr,λx hx=>(h.ru x hx).put g hv hc j,h.rp.put g hv hc j,h.bag.upd h.inn (ne nb).symm (ne nq).symm,h.inn.upd (ne nb).symm,h.up.after hp⟩
end
theorem zF {K:FG9} {A:Addr->Prop} {H:Hp} {n:Nat} {C:Rat->Prop} {us:List V} (h:∀x∈us,fK K A H n C x):∃rows:LR9,Paired (λqs x=>∃q,x=V.ref q/\A q/\cv K H q qs) rows us/\rows.length=us.length/\∀qs∈rows,qs.length=n/\∀y∈qs,C y:=by
 induction us with
 | nil=>exact ⟨[],.nil,rfl,λ_ z=>nomatch z⟩
 | cons u us ih =>
  obtain ⟨rows,pr,l,hr⟩:=ih λx hx=>h x (.tail _ hx)
  obtain ⟨q,qs,e,a,r,l1,c⟩:=h u (.head _);refine ⟨qs :: rows,.cons ⟨q,e,a,r⟩ pr,by simp [l],λzs hz=>?_⟩;rcases aB.mp hz with rfl | hz
  ·exact ⟨l1,c⟩
  ·exact hr zs hz
theorem Fw {K:FG9} {A:Addr->Prop} {H:Hp} {n:Nat} {C:Rat->Prop} {us:List V} {rows:LR9} (pr:Paired (λqs x=>∃q,x=V.ref q/\A q/\cv K H q qs) rows us) (h:∀qs∈rows,qs.length=n/\∀y∈qs,C y):∀x∈us,fK K A H n C x:=λx hx=>by
 obtain ⟨qs,hq,q,e,a,r⟩:=cL pr hx;exact ⟨q,qs,e,a,r,(h qs hq).1,(h qs hq).2⟩
theorem rQ {n:Nat}:∀{rows:LR9},(∀xs∈rows,xs.length=n)->rows.flatten.length=rows.length*n
 | [],_=>by simp
 | xs :: rows,h=>by
  rw[ic,ak,h xs (.head _),rQ λys hy=>h ys (.tail _ hy),ba,dA,rX]
theorem LV {c n:Nat} {rows:LR9} (h:∀qs∈rows,qs.length=n/\∀y∈qs,Dr (2^c) y):∃M:Nat,0 < M/\M<=2^(c*(rows.length*n))/\∀qs∈rows,∀y∈qs,Fr M (2^c) y:=by
 have fl:rows.flatten.length=rows.length*n:=rQ λys hy=>(h ys hy).1
 have hm:∀a∈rows.flatten.map (·.den),0 < a/\a<=2^c:=λa ha=>by
  obtain ⟨y,hy,rfl⟩:=aD.mp ha;obtain ⟨qs,hq,hy⟩:=iN.mp hy;exact ⟨y.den_pos,((h qs hq).2 y hy).2⟩
 refine ⟨uJ (rows.flatten.map (·.den)),wJ λa ha=>(hm a ha).1,?_,λqs hq y hy=>?_⟩
 ·have:=zK (k:=c) (l:=rows.flatten.map (·.den)) λa ha=>(hm a ha).2
  rwa [ar,fl] at this
 ·exact (Fr.own y ((h qs hq).2 y hy).1).dvd (wK (aD.mpr ⟨y,iN.mpr ⟨qs,hq,hy⟩,rfl⟩))
theorem jU {K:FG9} {A:Addr->Prop} {H H0:Hp} {n m:Nat} {C:Rat->Prop} {p:Addr} (h:QR K A H n C p m) (w:∀q,A q->H0 q=none):∃rows,bJ K H0 H p rows/\rows.length=m/\∀qs∈rows,qs.length=n/\∀y∈qs,C y:=by
 obtain ⟨us,g,l,a,r⟩:=h;obtain ⟨rows,pr,lr,hr⟩:=zF r;refine ⟨rows,⟨us,g,Paired.imp' (λ_ _ ⟨q,e,aq,rq⟩=>⟨q,e,w q aq,rq⟩) pr,λhm=>?_⟩,by rw[lr,l],hr⟩;obtain ⟨q,_,e,aq,_⟩:=r _ hm;cases e;exact a aq
theorem iL.trans {A:Addr->Prop} {b m:Addr} {H H1 H2:Hp} (h:iL A b m H H1) (h':iL A b m H1 H2):iL A b m H H2:=λc u e n1 n2 n3=>h' c u (h c u e n1 n2 n3) n1 n2 n3
theorem JP {K:FG9} {A:Addr->Prop} {H0 H:Hp} {n:Nat} {C:Rat->Prop} {us:List V} {rows:LR9} (pr:Paired (c4 K H0 H) rows us) (h:∀qs∈rows,qs.length=n/\∀y∈qs,C y) (w:∀q,V.ref q∈us->H0 q=none->H q≠none->A q):∀x∈us,fK K A H n C x:=λx hx=>by
 obtain ⟨qs,hq,q,e,a,r⟩:=cL pr hx;subst e;exact ⟨q,qs,rfl,w q hx a (by obtain ⟨_,g,_⟩:=r;rw[g];simp),r,(h qs hq).1,(h qs hq).2⟩
def Ig:Sp:=λvs H Q _=>∃b,vs=[.ref b]/\ig H b/\∀r (n i o w:Nat) H',H' r=some (.tup [.int n,.int i,.int o,.int w])->n<=5->i<=4->o<=4->(w=4\/w=9\/(w=1000000/\n<=2))->(n=5->i<=2/\o<=2)->ig H' b->cT b H H'->Q (.ref r) H'
def eh (K:FG9) (H0 H:Hp) (r:Addr) (mv pt lk:LR9):Prop:=∃m p l,H r=some (.tup [.ref m,.ref p,.ref l])/\H0 m=none/\H0 p=none/\H0 l=none/\bJ K H0 H m mv/\bJ K H0 H p pt/\bJ K H0 H l lk
section
variable {K:FG9} {H H' H0 H1:Hp} {r b:Addr} {mv pt lk:LR9}
theorem eh.same (h:eh K H0 H r mv pt lk) (e:aG H H'):eh K H0 H' r mv pt lk:=by obtain ⟨m,p,l,g,n1,n2,n3,g1,g2,g3⟩:=h;exact ⟨m,p,l,e _ _ g,n1,n2,n3,g1.same e,g2.same e,g3.same e⟩
theorem eh.upto (h:eh K H0 H r mv pt lk) (u:cT b H H') (B:ig H b) (nb:H0 b≠none):eh K H0 H' r mv pt lk:=by
 obtain ⟨m,p,l,g,n1,n2,n3,g1,g2,g3⟩:=h;exact ⟨m,p,l,u.tup B g,n1,n2,n3,g1.upto u B (λz=>nb (by rw[<- z];exact n1)) nb,g2.upto u B (λz=>nb (by rw[<- z];exact n2)) nb,g3.upto u B (λz=>nb (by rw[<- z];exact n3)) nb⟩
theorem eh.weak (h:eh K H0 H r mv pt lk) (e:∀q,H0 q=none->H1 q=none):eh K H1 H r mv pt lk:=by
 obtain ⟨m,p,l,g,n1,n2,n3,⟨x1,y1,z1,w1⟩,⟨x2,y2,z2,w2⟩,⟨x3,y3,z3,w3⟩⟩:=h;exact ⟨m,p,l,g,e _ n1,e _ n2,e _ n3,⟨x1,y1,Paired.imp' (λ_ _ ⟨q,a,b,c⟩=>⟨q,a,e _ b,c⟩) z1,w1⟩,⟨x2,y2,Paired.imp' (λ_ _ ⟨q,a,b,c⟩=>⟨q,a,e _ b,c⟩) z2,w2⟩,⟨x3,y3,Paired.imp' (λ_ _ ⟨q,a,b,c⟩=>⟨q,a,e _ b,c⟩) z3,w3⟩⟩
end
inductive yZ (K:FG9) (C:Addr) (vs:List V) (H:Hp) (Q:VK) (E9:XK):Prop
 | mk (r:Addr) (H0:Hp) (mv pt lk:LR9):vs=[.ref r]->eh K H0 H r mv pt lk->fz mv pt lk->Cn mv pt lk->(∀x H',H x=none->aG H H'->kX K H H' C x mv pt lk->Q (.ref x) H')->yZ K C vs H Q E9
def nextK (mv pt:LR9) (st pu:List Rat) (k:Nat):List Rat:=List.zipWith (λline col=>dR (line++col.take k) (st++pu.take k)) mv (cU pt mv.length)
theorem jf {mv pt:LR9} {st pu:List Rat} {k:Nat}:(nextK mv pt st pu k).length=mv.length:=by unfold nextK;rw[cD,c9];lia
theorem rM {mv pt:LR9} {st pu:List Rat} {k:Nat} (h1:pt.length<=k) (h2:pu.length<=k):nextK mv pt st pu k=gY mv pt st pu:=by
 unfold nextK gY;apply ie;intro i;rw[bT,bT];cases e1:mv[i]? with
 | none=>rfl
 | some line =>
  cases e2:(cU pt mv.length)[i]? with
  | none=>rfl
  | some col =>
   have:=jL col (ax e2);show some _=some _
   rw[aI (by lia),aI h2]
theorem Ge {rows:LR9} {w i:Nat} (h:i < w):(cU rows w)[i]?=some (rows.map λxs=>xs.getD i 0):=by
 unfold cU;rw[aL,dF h];rfl
theorem FJ {mv pt:LR9} {st pu:List Rat}:nextK mv pt st pu 0=mv.map λxs=>dR xs st:=by
 unfold nextK;apply ie;intro i;rw[bT,aL];by_cases hi:i < mv.length
 ·rw[Ge hi,af hi];simp
 ·rw[aM (by lia)];rfl
theorem zW {mv pt:LR9} {st pu:List Rat} {k i:Nat} (hi:i < mv.length):(nextK mv pt st pu k).getD i 0=dR (mv[i]++(pt.map λxs=>xs.getD i 0).take k) (st++pu.take k):=by
 rw[aa];unfold nextK;rw[bT,af hi,Ge hi];rfl
theorem rk {as bs xs ys:List Rat} (h:as.length=xs.length):dR (as++bs) (xs++ys)=dR as xs+dR bs ys:=by
 unfold dR;rw[List.zipWith_append h,List.sum_append]
theorem FK {mv pt:LR9} {st pu:List Rat} {k:Nat} (hm:∀xs∈mv,xs.length=st.length) (h1:k < pt.length) (h2:k < pu.length) (hw:(pt[k]).length=mv.length) :
  List.zipWith (λx y=>x+y) (nextK mv pt st pu k) ((pt[k]).map λy=>pu[k]*y)=nextK mv pt st pu (k+1):=by
 have l1:((pt[k]).map λy=>pu[k]*y).length=mv.length:=by rw[ar,hw]
 rw[A4 (by rw[l1,jf])];apply ie;intro i;rw[aL,jf];by_cases hi:i < mv.length
 ·have e0:(nextK mv pt st pu (k+1))[i]?=some ((nextK mv pt st pu (k+1)).getD i 0):=by
   rw[aa,af (by rw[jf];exact hi)];rfl
  rw[dF hi,e0,zW hi];have ll:=hm mv[i] (aP hi);have ec:(pt.map λxs=>xs.getD i 0)[k]?=some ((pt[k]).getD i 0):=by rw[aL,af h1];rfl
  have ep:pu[k]?=some pu[k]:=af h2
  have e3:((pt[k]).map λy=>pu[k]*y).getD i 0=pu[k]*(pt[k]).getD i 0:=by
   rw[getD_map (by rw[hw];exact hi),aa,af (by rw[hw];exact hi)];rfl
  show some ((nextK mv pt st pu k).getD i 0+((pt[k]).map λy=>pu[k]*y).getD i 0)=some _
  rw[zW hi,e3,take_snoc ec,take_snoc ep,rk ll,rk ll,rk (by rw[cH,cH,ar];lia)];have:dR [(pt[k]).getD i 0] [pu[k]]=(pt[k]).getD i 0*pu[k]:=by simp [dR,rW]
  rw[this];congr 1;grind
 ·rw[aM (by simpa using hi),aM (by rw[jf];lia)];rfl
theorem kX.weakN {K:FG9} {H H0 H1:Hp} {C p:Addr} {mv pt lk:LR9} (h:kX K H0 H C p mv pt lk) (e:∀q,H0 q=none->H1 q=none):kX K H1 H C p mv pt lk:=by
 obtain ⟨dx,a,b,c,g,n1,n2,n3,⟨x1,y1,z1,w1⟩,⟨x2,y2,z2,w2⟩,⟨x3,y3,z3,w3⟩⟩:=h;exact ⟨dx,a,b,c,g,e _ n1,e _ n2,e _ n3,⟨x1,y1,Paired.imp' (λ_ _ ⟨q,a,b,c⟩=>⟨q,a,e _ b,c⟩) z1,w1⟩,⟨x2,y2,Paired.imp' (λ_ _ ⟨q,a,b,c⟩=>⟨q,a,e _ b,c⟩) z2,w2⟩,⟨x3,y3,Paired.imp' (λ_ _ ⟨q,a,b,c⟩=>⟨q,a,e _ b,c⟩) z3,w3⟩⟩
theorem IL {mv pt:LR9} {st pu:List Rat}:(gY mv pt st pu).length=mv.length:=by unfold gY;rw[cD,c9];lia
def nY (k j:Nat) (l:List Rat):Prop:=∃M V:Nat,0 < M/\M<=2^k/\V<=2^j/\∀x∈l,Fr M V x
theorem MH {M V:Nat} {x:Rat} (h0:0 < M) (h1:M<=2^2000) (h2:V<=2^1950) (h:Fr M V x):kK x:=by
 obtain ⟨a,b⟩:=h.sz h0 h1 h2;exact ⟨a.mono (by decide),b.mono (by decide)⟩
section
variable {k j k' j':Nat} {l xs ys:List Rat} {x y:Rat}
theorem nY.szn (h:nY k j l) (hx:x∈l) (hk:k+j<=3950:=by decide):kK x:=by
 obtain ⟨M,V,h0,h1,h2,h3⟩:=h;obtain ⟨a,b⟩:=(h3 x hx).sz h0 h1 h2;exact ⟨a.mono (by lia),b.mono (by lia)⟩
theorem nY.rowM (h:nY k j l) (hk:k+j<=4200:=by decide):∃M,F4 M (l.map nm):=by
 obtain ⟨M,V,h0,h1,h2,h3⟩:=h;refine ⟨M,by lia,?_,λn hn=>?_⟩
 ·show ((M:Nat):Int).natAbs < 2^4400
  rw[bw];exact br h1 (dS (by decide) (by lia))
 ·obtain ⟨x,hx,rfl⟩:=aD.mp hn;obtain ⟨a,_⟩:=(h3 x hx).sz h0 h1 h2;exact ⟨ip x,(h3 x hx).den,a.mono (by lia)⟩
theorem nY.one (h:nY k j l) (hx:x∈l):nY k j [x]:=by
 obtain ⟨M,V,h0,h1,h2,h3⟩:=h;exact ⟨M,V,h0,h1,h2,λy hy=>by rw[bB.mp hy];exact h3 x hx⟩
theorem KZ (h:nY k j xs) (h':nY k' j' ys) (hl:xs.length<=1000) (i:Nat) (hk:(k+k')+(j+j')<=3930:=by decide):kK (dR (xs.take i) (ys.take i)):=by
 obtain ⟨M,V,h0,h1,h2,h3⟩:=h;obtain ⟨N,W,k0,k1,k2,k3⟩:=h'
 have e:1000*(V*W)<=2^(10+(j+j')):=by
  rw[aS 2 10];exact aA (by decide) (ai (aA h2 k2) (by rw[<- aS];exact aj _))
 obtain ⟨a,b⟩:=((Fr.dot (λx hx=>h3 x (b7 hx)) (λy hy=>k3 y (b7 hy))).mono (ay _ (show (xs.take i).length<=1000 by rw[cH];lia))).sz (bE h0 k0) (ai (aA h1 k1) (by rw[<- aS];exact aj _)) e;exact ⟨a.mono (by lia),b.mono (by lia)⟩
theorem Kf (hx:nY k j [x]) (hy:nY k' j' [y]) (hk:(k+k')+(j+j')<=3930:=by decide):kK (x*y):=by
 obtain ⟨M,V,h0,h1,h2,h3⟩:=hx;obtain ⟨N,W,k0,k1,k2,k3⟩:=hy;obtain ⟨a,b⟩:=((h3 x (.head _)).mul (k3 y (.head _))).sz (bE h0 k0) (ai (aA h1 k1) (by rw[<- aS];exact aj _)) (ai (aA h2 k2) (by rw[<- aS];exact aj _));exact ⟨a.mono (by lia),b.mono (by lia)⟩
def xh (xs ys:List Rat):Prop:=∃k j k' j':Nat,nY k j xs/\nY k' j' ys/\(k+k')+(j+j')<=3930
theorem xh.sys (h:nY 400 120 xs) (h':nY 1500 1800 ys):xh xs ys:=⟨_,_,_,_,h,h',by decide⟩
end
def Ji (mv pt lk:LR9):Prop:=∃M V:Nat,0 < M/\M<=2^400/\V<=2^120/\GF M V mv/\GF M V pt/\GF M V lk
section
variable {mv pt lk:LR9}
theorem Ji.fits (h:Ji mv pt lk) {l:List Rat} (hl:∀x∈l,(∃xs∈mv,x∈xs)\/(∃xs∈pt,x∈xs)\/(∃xs∈lk,x∈xs)\/x=0):nY 400 120 l:=by
 obtain ⟨M,V,h0,h1,h2,g1,g2,g3⟩:=h;refine ⟨M,V,h0,h1,h2,λx hx=>?_⟩;rcases hl x hx with ⟨xs,a,b⟩ | ⟨xs,a,b⟩ | ⟨xs,a,b⟩ | rfl
 ·exact g1 xs a x b
 ·exact g2 xs a x b
 ·exact g3 xs a x b
 ·exact Fr.zero
theorem Ji.sf (h:Ji mv pt lk):Cn mv pt lk:=by obtain ⟨M,V,a,b,c,d⟩:=h;exact ⟨M,V,a,ai b (au (by decide) (by decide)),ai c (au (by decide) (by decide)),d⟩
end
inductive CD (K:FG9) (vs:List V) (H:Hp) (Q:VK) (E9:XK):Prop
 | mk (p q:Addr) (xs ys:List Rat):vs=[.ref p,.ref q]->cv K H p xs->cv K H q ys->ys.length=xs.length->xs.length<=1000->xh xs ys->(∀r H',aG H H'->ck K H' (dR xs ys) (.ref r)->Q (.ref r) H')->CD K vs H Q E9
inductive CC (K:FG9) (vs:List V) (H:Hp) (Q:VK) (E9:XK):Prop
 | mk (p q:Addr) (H0:Hp) (rows:LR9) (ys:List Rat):vs=[.ref p,.ref q]->bJ K H0 H p rows->cv K H q ys->rows.length<=1000->ys.length<=1000->((∀xs∈rows,xs.length=ys.length/\xh xs ys))->(∀r H',H r=none->aG H H'->cv K H' r (rows.map λxs=>dR xs ys)->Q (.ref r) H')->CC K vs H Q E9
inductive Bl (K:FG9) (C:Addr) (vs:List V) (H:Hp) (Q:VK) (E9:XK):Prop
 | mk (x p q:Addr) (H0:Hp) (mv pt lk:LR9) (st pu:List Rat):vs=[.ref x,.ref p,.ref q]->kX K H0 H C x mv pt lk->fz mv pt lk->Ji mv pt lk->cv K H p st->cv K H q pu->st.length=mv.length->pu.length=pt.length->nY 1500 1800 (st++pu)->(∀r H',H r=none->aG H H'->cv K H' r (gY mv pt st pu)->Q (.ref r) H')->Bl K C vs H Q E9
def oh (mv pt:LR9) (st:List Rat) (pus:LR9) (k:Nat):List Rat:=(pus.take k).foldl (gY mv pt) st
def mC (mv pt:LR9) (st:List Rat) (pus:LR9):LR9:=(List.range (pus.length+1)).map (oh mv pt st pus)
section
variable {mv pt lk pus:LR9} {st:List Rat} {k:Nat}
theorem p7 {pu:List Rat} (h:pus[k]?=some pu):oh mv pt st pus (k+1)=gY mv pt (oh mv pt st pus k) pu:=by
 unfold oh;rw[take_snoc h,List.foldl_append];rfl
theorem oo (h:st.length=mv.length):∀{k:Nat},k<=pus.length->(oh mv pt st pus k).length=mv.length
 | 0,_=>h
 | k+1,hk=>by rw[p7 (af (show k < pus.length by lia)),IL]
theorem uq:(mC mv pt st pus).length=pus.length+1:=by unfold mC;rw[ar,cK]
theorem rR (h:k<=pus.length):(mC mv pt st pus)[k]?=some (oh mv pt st pus k):=by
 unfold mC;rw[aL,dF (by lia)];rfl
def F9 (mv pt:LR9) (st:List Rat) (pus:LR9):Prop:=∀k,k<=pus.length->∃N W:Nat,0 < N/\N<=2^1500/\W<=2^1800/\(∀x∈oh mv pt st pus k,Fr N W x)/\∀xs∈pus,∀x∈xs,Fr N W x
theorem F9.both (h:F9 mv pt st pus) (hk:k<=pus.length) {pu:List Rat} (hp:pu∈pus):nY 1500 1800 (oh mv pt st pus k++pu):=by
 obtain ⟨N,W,a,b,c,d,e⟩:=h k hk;exact ⟨N,W,a,b,c,λx hx=>(aw.mp hx).elim (d x) (e pu hp x)⟩
theorem F9.state (h:F9 mv pt st pus) (hk:k<=pus.length):nY 1500 1800 (oh mv pt st pus k):=by
 obtain ⟨N,W,a,b,c,d,e⟩:=h k hk;exact ⟨N,W,a,b,c,d⟩
end
def xc (K:FG9) (H:Hp) (l:Addr) (H':Hp) (xs:List Rat) (x:V):Prop:=∃q,x=.ref q/\H q=none/\q≠l/\cv K H' q xs
section
variable {K:FG9} {H H' H2:Hp} {l:Addr} {xs:List Rat} {x:V}
theorem xc.same (h:xc K H l H' xs x) (e:aG H' H2):xc K H l H2 xs x:=by obtain ⟨q,a,b,c,d⟩:=h;exact ⟨q,a,b,c,d.same e⟩
theorem xc.upd {ys:List V} {o:HO} (h:xc K H l H' xs x) (hl:H' l=some (.lst ys)):xc K H l (upd H' l o) xs x:=by obtain ⟨q,a,b,c,d⟩:=h;exact ⟨q,a,b,c,d.updL hl c⟩
theorem xc.rowF (h:xc K H l H' xs x):c4 K H H' xs x:=by obtain ⟨q,a,b,_,d⟩:=h;exact ⟨q,a,b,d⟩
theorem Im {o:HO} (e:aG H H') (n:H l=none):aG H (upd H' l o):=λb u h=>by
 rw[bG (λz=>by rw[z,n] at h;cases h)];exact e b u h
theorem zG:∀{rows:LR9} {ys:List V},Paired (xc K H l H') rows ys->V.ref l∉ys
 | _,_,.nil=>by simp
 | _,_,.cons ⟨q,a,_,c,_⟩ r=>by
  intro hm;rcases aB.mp hm with e | hm
  ·rw[a] at e;cases e;exact c rfl
  ·exact zG r hm
end
inductive zj (K:FG9) (C:Addr) (vs:List V) (H:Hp) (Q:VK) (E9:XK):Prop
 | mk (x s p:Addr) (H0 H1:Hp) (mv pt lk pus:LR9) (st:List Rat):vs=[.ref x,.ref s,.ref p]->kX K H0 H C x mv pt lk->fz mv pt lk->Ji mv pt lk->cv K H s st->st.length=mv.length->bJ K H1 H p pus->pus.length<=100->(∀xs∈pus,xs.length=pt.length)->F9 mv pt st pus->(∀r H',H r=none->aG H H'->bJ K H H' r (mC mv pt st pus)->Q (.ref r) H')->zj K C vs H Q E9
theorem IX {c:Nat} {l:List Rat} (h:∀x∈l,Dr (2^c) x) (hc:c<=20):∃B:Nat,0 < B/\B<=2^(c*l.length+2)/\∀x∈l,Fr B (2^22) x:=by
 obtain ⟨M,h0,h1,h2⟩:=MG (c:=c) (n:=l.length) (i:=0) (rows:=[]) OV rfl h hc;refine ⟨M,h0,?_,h2 l (by simp)⟩;rw[Nat.zero_add,pS] at h1;exact h1
theorem EM {i:Nat}:∀{pus:LR9},(∀xs∈pus,xs.length=i)->pus.flatten.length=pus.length*i
 | [],_=>by simp
 | x :: r,h=>by
  rw[ic,ak,h x (.head _),EM (λxs hx=>h xs (.tail _ hx)),ba,dA]
  lia
theorem PX {i:Int} (h:i=0\/i=1):Fr 1 1 (i:Rat):=Fr.int (by rcases h with rfl | rfl <;> decide)
theorem sH {α β:Type} {F:α->β->Prop}:∀{l1:List α} {l2:List β} (_:Paired F l1 l2) (k:Nat),Paired F (l1.drop k) (l2.drop k)
 | _,_,h,0=>h
 | _,_,.nil,_+1=>.nil
 | _,_,.cons _ r,k+1=>sH r k
theorem MP {xs:List V} {t n:Nat} (h:t+n<=xs.length):rY xs (some (t:Int)) (some ((t:Int)+(n:Int)))=(xs.drop t).take n:=by
 unfold rY;rw[show ((t:Int)+(n:Int))=((t+n:Nat):Int) by lia,HT.yH,HT.yH,pV (show t<=xs.length by lia),pV h,QX]
end L2
namespace L2
abbrev iB:=Nat->Rat
def AJ (F:List iB->Rat) (r:Nat):List iB->List iB->Rat->Rat
 | _,[],_=>0
 | pre,v :: post,s=>s*v r*F (pre++post)+AJ F r (pre++[v]) post (-s)
def jh:List Nat->List iB->Rat
 | [],[]=>1
 | [],_ :: _=>0
 | r :: rs,vs=>AJ (λws=>jh rs ws) r [] vs 1
theorem DC {a b:List iB} {x:iB}:jh [] (a++x :: b)=0:=by
 cases a <;> rfl
theorem Dp {F:List iB->Rat} {r:Nat} {f g h:iB} {x y:Rat} (hF:∀a b,F (a++h :: b)=x*F (a++f :: b)+y*F (a++g :: b)):∀(b p q:List iB) (s:Rat),AJ F r (p++h :: q) b s=x*AJ F r (p++f :: q) b s+y*AJ F r (p++g :: q) b s
 | [],p,q,s=>by simp only[AJ,fN,rW]
 | v :: b,p,q,s=>by
  have i1:=hF p (q++b);have i2:=Dp (r:=r) hF b p (q++[v]) (-s);simp only[AJ,bV,eY] at i1 i2 ⊢;rw[i1,i2];grind
theorem GR {F:List iB->Rat} {r:Nat} {f g h:iB} {x y:Rat} (hF:∀a b,F (a++h :: b)=x*F (a++f :: b)+y*F (a++g :: b)) (hr:h r=x*f r+y*g r):∀(a pre b:List iB) (s:Rat),AJ F r pre (a++h :: b) s=x*AJ F r pre (a++f :: b) s+y*AJ F r pre (a++g :: b) s
 | [],pre,b,s=>by
  have i2:=Dp (r:=r) hF b pre [] (-s);simp only[AJ,cZ] at i2 ⊢;rw[i2,hr];grind
 | v :: a,pre,b,s=>by
  have i1:=hF (pre++a) b;have i2:=GR hF hr a (pre++[v]) b (-s);simp only[AJ,bV,eY] at i1 i2 ⊢;rw[i1,i2];grind
theorem rh {f g h:iB} {x y:Rat}:∀{rs:List Nat},(∀r∈rs,h r=x*f r+y*g r)->∀a b,jh rs (a++h :: b)=x*jh rs (a++f :: b)+y*jh rs (a++g :: b)
 | [],_,a,b=>by rw[DC,DC,DC];grind
 | r :: rs,hr,a,b=>GR (λa b=>rh (λr' h'=>hr r' (.tail _ h')) a b) (hr r (.head _)) a [] b 1
theorem KW {f h:iB} {rs:List Nat} (hr:∀r∈rs,h r=f r) (a b:List iB):jh rs (a++h :: b)=jh rs (a++f :: b):=by
 rw[rh (f:=f) (g:=f) (x:=1) (y:=0) (λr h'=>by rw[hr r h'];grind) a b];grind
theorem Ht {h:iB} {rs:List Nat} (hr:∀r∈rs,h r=0) (a b:List iB):jh rs (a++h :: b)=0:=by
 rw[rh (f:=h) (g:=h) (x:=0) (y:=0) (λr h'=>by rw[hr r h'];grind) a b];grind
theorem GS {F:List iB->Rat} {r:Nat} {x:iB} (hF:∀a b,F (a++x :: x :: b)=0):∀(b p q:List iB) (s:Rat),AJ F r (p++x :: x :: q) b s=0
 | [],p,q,s=>rfl
 | v :: b,p,q,s=>by
  have i1:=hF p (q++b);have i2:=GS (r:=r) hF b p (q++[v]) (-s);simp only[AJ,bV,eY] at i1 i2 ⊢;rw[i1,i2];grind
theorem GU {F:List iB->Rat} {r:Nat} {x:iB} (hF:∀a b,F (a++x :: x :: b)=0):∀(a pre b:List iB) (s:Rat),AJ F r pre (a++x :: x :: b) s=0
 | [],pre,b,s=>by
  have i2:=GS (r:=r) hF b pre [] (- -s);simp only[AJ,cZ,bV,eY] at i2 ⊢;rw[i2];grind
 | v :: a,pre,b,s=>by
  have i1:=hF (pre++a) b;have i2:=GU (r:=r) hF a (pre++[v]) b (-s);simp only[AJ,bV,eY] at i1 i2 ⊢;rw[i1,i2];grind
theorem Ah {x:iB}:∀{rs:List Nat} (a b:List iB),jh rs (a++x :: x :: b)=0
 | [],a,b=>DC
 | r :: rs,a,b=>GU (λa b=>Ah a b) a [] b 1
theorem ML {x y:iB} {rs:List Nat} (a b:List iB):jh rs (a++x :: y :: b)=- jh rs (a++y :: x :: b):=by
 have hr:∀r∈rs,(λr=>1*x r+1*y r) r=1*x r+1*y r:=λ_ _=>rfl
 have h0:=Ah (x:=λr=>1*x r+1*y r) (rs:=rs) a b;have h1:=rh hr a ((λr=>1*x r+1*y r) :: b);have h2:=rh hr (a++[x]) b;have h3:=rh hr (a++[y]) b;have h4:=Ah (x:=x) (rs:=rs) a b;have h5:=Ah (x:=y) (rs:=rs) a b;simp only[bV,eY,cZ] at h0 h1 h2 h3 h4 h5;rw[h1,h2,h3,h4,h5] at h0;grind
theorem DE {x:iB} {rs:List Nat}:∀(b a c:List iB),jh rs (a++x :: (b++x :: c))=0
 | [],a,c=>Ah a c
 | y :: b,a,c=>by
  have:=DE (x:=x) (rs:=rs) b (a++[y]) c;simp only[bV,eY,cZ] at this;rw[eY,ML,this];rfl
def bR:Nat->(Nat->Rat)->Rat
 | 0,_=>0
 | k+1,f=>bR k f+f k
theorem bp {f g:Nat->Rat}:∀{k:Nat},(∀j,j < k->f j=g j)->bR k f=bR k g
 | 0,_=>rfl
 | k+1,h=>by
  show bR k f+f k=bR k g+g k
  rw[bp λj hj=>h j (by lia),h k (by lia)]
theorem p6 {f g:Nat->Rat}:∀{k:Nat},bR k (λj=>f j+g j)=bR k f+bR k g
 | 0=>by show (0:Rat)=0+0;grind
 | k+1=>by
  show bR k (λj=>f j+g j)+_=(bR k f+f k)+(bR k g+g k)
  rw[p6];grind
theorem dc {f:Nat->Rat} {c:Rat}:∀{k:Nat},bR k (λj=>c*f j)=c*bR k f
 | 0=>by show (0:Rat)=c*0;grind
 | k+1=>by
  show bR k (λj=>c*f j)+_=c*(bR k f+f k)
  rw[dc];grind
theorem dw {f:Nat->Rat}:∀{k:Nat},(∀j,j < k->f j=0)->bR k f=0
 | 0,_=>rfl
 | k+1,h=>by
  show bR k f+f k=0
  rw[dw λj hj=>h j (by lia),h k (by lia)];grind
theorem iP {f:Nat->Rat} {i:Nat}:∀{k:Nat},i < k->(∀j,j < k->j≠i->f j=0)->bR k f=f i
 | k+1,hi,h=>by
  show bR k f+f k=f i
  by_cases e:i=k
  ·subst e;rw[dw λj hj=>h j (by lia) (by lia)];grind
  ·rw[iP (by lia) λj hj=>h j (by lia),h k (by lia) (λz=>e z.symm)];grind
theorem jd {f:Nat->Nat->Rat} {m:Nat}:∀{k:Nat},bR k (λi=>bR m (f i))=bR m (λj=>bR k λi=>f i j)
 | 0=>(dw λ_ _=>rfl).symm
 | k+1=>by
  show bR k (λi=>bR m (f i))+bR m (f k)=bR m (λj=>bR k (λi=>f i j)+f k j)
  rw[jd,p6]
theorem DB {rs:List Nat} {W:iB} {v:Nat->iB} {c:Nat->Rat} (a b:List iB):∀{k:Nat} {W:iB},(∀r∈rs,W r=bR k λj=>c j*v j r)->jh rs (a++W :: b)=bR k λj=>c j*jh rs (a++v j :: b)
 | 0,W,h=>Ht h a b
 | k+1,W,h=>by
  rw[rh (f:=λr=>bR k λj=>c j*v j r) (g:=v k) (x:=1) (y:=c k) (λr hr=>by rw[h r hr];show bR k _+_=_;grind) a b,DB a b (k:=k) (W:=λr=>bR k λj=>c j*v j r) λr _=>rfl];show _=bR k _+_
  grind
end L2
namespace L2
open Nm
def j5 (f:Nat->Nat):Nat->List Nat
 | 0=>[]
 | k+1=>f k :: j5 f k
def iO (v:Nat->iB):Nat->List iB
 | 0=>[]
 | k+1=>v k :: iO v k
def Fd (v:Nat->iB) (i:Nat):Nat->List iB
 | 0=>[]
 | k+1=>if k<=i then [] else v k :: Fd v i k
theorem qQ {f:Nat->Nat}:∀{k:Nat},(j5 f k).length=k
 | 0=>rfl
 | k+1=>by show (j5 f k).length+1=_;rw[qQ]
theorem cw_len {v:Nat->iB}:∀{k:Nat},(iO v k).length=k
 | 0=>rfl
 | k+1=>by show (iO v k).length+1=_;rw[cw_len]
theorem jQ {f:Nat->Nat} {r:Nat}:∀{k:Nat},r∈j5 f k->∃t,t < k/\r=f t
 | k+1,h=>by
  rcases aB.mp h with h | h
  ·exact ⟨k,by lia,h⟩
  ·obtain ⟨t,a,b⟩:=jQ h;exact ⟨t,by lia,b⟩
theorem zH {f g:Nat->Nat}:∀{k:Nat},(∀j,j < k->f j=g j)->j5 f k=j5 g k
 | 0,_=>rfl
 | k+1,h=>by
  show f k :: j5 f k=g k :: j5 g k
  rw[h k (by lia),zH λj hj=>h j (by lia)]
theorem cw_congr {f g:Nat->iB}:∀{k:Nat},(∀j,j < k->f j=g j)->iO f k=iO g k
 | 0,_=>rfl
 | k+1,h=>by
  show f k :: iO f k=g k :: iO g k
  rw[h k (by lia),cw_congr λj hj=>h j (by lia)]
theorem cw_mem {v:Nat->iB} {j:Nat}:∀{k:Nat},j < k->v j∈iO v k
 | k+1,h=>by
  by_cases e:j=k
  ·subst e;exact .head _
  ·exact .tail _ (cw_mem (by lia))
theorem cw_in {v:Nat->iB} {x:iB}:∀{k:Nat},x∈iO v k->∃t,t < k/\x=v t
 | k+1,h=>by
  rcases aB.mp h with h | h
  ·exact ⟨k,by lia,h⟩
  ·obtain ⟨t,a,b⟩:=cw_in h;exact ⟨t,by lia,b⟩
theorem K6 {v:Nat->iB} {i j:Nat} (h1:i < j):∀{k:Nat},j < k->v j∈Fd v i k
 | k+1,h=>by
  show v j∈if k<=i then [] else v k :: Fd v i k
  rw[if_neg (by lia)];by_cases e:j=k
  ·subst e;exact .head _
  ·exact .tail _ (K6 h1 (by lia))
theorem Ap {v:Nat->iB} {i:Nat} {x:iB}:∀{k:Nat},x∈Fd v i k->∃t,t < k/\x=v t
 | k+1,h=>by
  have h:x∈if k<=i then [] else v k :: Fd v i k:=h
  split at h
  ·cases h
  ·rcases aB.mp h with h | h
   ·exact ⟨k,by lia,h⟩
   ·obtain ⟨t,a,b⟩:=Ap h;exact ⟨t,by lia,b⟩
theorem cw_split {v:Nat->iB} {i:Nat}:∀{k:Nat},i < k->iO v k=Fd v i k++v i :: iO v i
 | k+1,h=>by
  show v k :: iO v k=(if k<=i then [] else v k :: Fd v i k)++_
  by_cases e:i=k
  ·subst e;rw[if_pos (aj _)];rfl
  ·rw[if_neg (by lia),cw_split (k:=k) (i:=i) (by lia)];rfl
theorem wZ {rs:List Nat} {v:Nat->iB} {c:Nat->Rat} {W:iB} {k i:Nat} (hi:i < k) (hW:∀r∈rs,W r=bR k λj=>c j*v j r):jh rs (Fd v i k++W :: iO v i)=c i*jh rs (iO v k):=by
 rw[DB (v:=v) (c:=c) (W:=W) _ _ hW,iP hi λj hj ne=>?_,cw_split hi];rcases cb j i with h | h
 ·obtain ⟨s,t,e⟩:=Fg (cw_mem (v:=v) h);rw[e,DE];grind
 ·obtain ⟨s,t,e⟩:=Fg (K6 (v:=v) (show i < j by lia) hj);have:=DE (x:=v j) (rs:=rs) t s (iO v i);rw[e,bV,eY,this];grind
theorem O1 {rs:List Nat} {v:Nat->iB} {c:Nat->Rat} {W:iB} {k:Nat} (hW:∀r∈rs,W r=bR k λj=>c j*v j r):jh rs (W :: iO v k)=0:=by
 have:=DB (v:=v) (c:=c) (W:=W) [] (iO v k) hW;rw[cZ] at this;rw[this];refine dw λj hj=>?_
 obtain ⟨s,t,e⟩:=Fg (cw_mem (v:=v) hj);have:=DE (x:=v j) (rs:=rs) s [] t;rw[cZ] at this;rw[e,cZ,this];grind
theorem IW {rs:List Nat} {v:Nat->iB} {c:Nat->Rat} {W:iB} {k i:Nat} {s:Rat} (hi:i∉rs) (h1:W i=bR k (λj=>c j*v j i)+s) (hW:∀r∈rs,W r=bR k λj=>c j*v j r):jh (i :: rs) (W :: iO v k)=s*jh rs (iO v k):=by
 have e:=rh (rs:=i :: rs) (h:=W) (f:=λr=>bR k λj=>c j*v j r) (g:=λr=>if r=i then 1 else 0) (x:=1) (y:=s) (λr hr=>by
  rcases aB.mp hr with rfl | hr
  ·rw[h1,if_pos rfl];grind
  ·rw[hW r hr,if_neg (λz=>hi (by rw[<- z];exact hr))];grind) [] (iO v k)
 rw[cZ,cZ,cZ,O1 (c:=c) λr _=>rfl] at e
 have e2:jh (i :: rs) ((λr=>if r=i then (1:Rat) else 0) :: iO v k)=jh rs (iO v k):=by
  show 1*(if i=i then (1:Rat) else 0)*jh rs ([]++iO v k)+AJ (λws=>jh rs ws) i ([]++[λr=>if r=i then (1:Rat) else 0]) (iO v k) (-1)=_
  have hF:∀a b,(λws=>jh rs ws) (a++(λr=>if r=i then (1:Rat) else 0) :: b)=0*(λws=>jh rs ws) (a++(λr=>if r=i then (1:Rat) else 0) :: b)+0*(λws=>jh rs ws) (a++(λr=>if r=i then (1:Rat) else 0) :: b):=λa b=>by
   have:=Ht (h:=λr=>if r=i then (1:Rat) else 0) (rs:=rs) (λr hr=>if_neg λz=>hi (by rw[<- z];exact hr)) a b
   dsimp only
   rw[this];grind
  have:=Dp (r:=i) hF (iO v k) [] [] (-1);rw[this,if_pos rfl,cZ];grind
 rw[e2] at e;rw[e];grind
theorem Kn {F:List iB->Rat} {r B W:Nat}:∀{post pre:List iB} {s:Rat},(∀ws,(∀w∈ws,w∈pre++post)->ws.length+1=(pre++post).length->Fr 1 B (F ws))->(∀w∈post,Fr 1 W (w r))->Fr 1 1 s->Fr 1 (post.length*(W*B)) (AJ F r pre post s)
 | [],pre,s,_,_,_=>by show Fr 1 _ 0;exact Fr.zero
 | v :: post,pre,s,hF,hw,hs=>by
  have t1:Fr 1 (W*B) (s*v r*F (pre++post)):=by
   have:=(hs.mul (hw v (.head _))).mul (hF (pre++post) (λw h=>by
    rcases aw.mp h with h | h
    ·exact dX _ h
    ·exact bF _ (.tail _ h)) (by simp only[ak,ba];lia))
   simpa using this
  have t2:=Kn (F:=F) (r:=r) (B:=B) (W:=W) (post:=post) (pre:=pre++[v]) (s:=-s) (λws h h'=>hF ws (λw hw=>by simpa using h w hw) (by simpa using h')) (λw h=>hw w (.tail _ h)) (by simpa using hs.neg);exact (t1.add t2).mono (by rw[ba,dA];lia)
theorem xv {W N:Nat}:∀{rs:List Nat} {vs:List iB},vs.length<=N->(∀v∈vs,∀r∈rs,Fr 1 W (v r))->Fr 1 ((N*W)^rs.length) (jh rs vs)
 | [],[],_,_=>by show Fr 1 1 1;exact (Fr.int (i:=1) (by decide))
 | [],_ :: _,_,_=>by show Fr 1 _ 0;exact Fr.zero
 | r :: rs,vs,hl,h=>by
  have:=Kn (F:=λws=>jh rs ws) (r:=r) (B:=(N*W)^rs.length) (W:=W) (post:=vs) (pre:=[]) (s:=1) (λws h1 h2=>xv (by rw[cZ] at h2;lia) λv hv r' hr'=>h v (by simpa using h1 v hv) r' (.tail _ hr')) (λw hw=>h w hw r (.head _)) (Fr.int (i:=1) (by decide));refine this.mono ?_;rw[ba,dC,bQ ((N*W)^rs.length),b9 N];exact ay _ hl
structure vW (a:Nat->Nat->Rat) (m k:Nat) (pm p:Nat->Nat) (l:Nat->Nat->Rat) (d:Rat):Prop where
 inj:∀i j,i < m->j < m->pm i=pm j->i=j
 rng:∀i,i < m->pm i < m
 km:k<=m
 d0:d≠0
 det:d=jh (j5 pm k) (iO (λj r=>a r (p j)) k)
 eqs:∀i,i < m->∀c,d*a (pm i) c=bR k (λj=>a (pm i) (p j)*l j c)+if i < k then 0 else l i c
 unit:∀i,i < m->∀j,j < k->l i (p j)=if i=j then d else 0
section
variable {a l:Nat->Nat->Rat} {m k:Nat} {pm p:Nat->Nat} {d:Rat}
theorem vW.start (h:∀i,i < m->pm i=i):vW a m 0 pm p a 1 where
 inj i j hi hj e:=by rw[h i hi,h j hj] at e;exact e
 rng i hi:=by rw[h i hi];exact hi
 km:=bf _
 d0:=by decide
 det:=rfl
 eqs i hi c:=by
  rw[h i hi,if_neg (by lia)];show 1*a i c=0+a i c
  grind
 unit i _ j hj:=absurd hj (by lia)
theorem vW.coef (B:vW a m k pm p l d) {i c:Nat} (hi:i < m):a (pm i) c=bR k (λj=>(l j c / d)*a (pm i) (p j))+if i < k then 0 else l i c / d:=by
 have h:=B.eqs i hi c;have d0:=B.d0
 have e:bR k (λj=>(l j c / d)*a (pm i) (p j))=(1 / d)*bR k (λj=>a (pm i) (p j)*l j c):=by
  rw[<- dc];exact bp λj _=>by grind
 rw[e]
 split at h
 ·rw[if_pos (by assumption)];grind
 ·rw[if_neg (by assumption)];grind
theorem vW.old (B:vW a m k pm p l d) {i c:Nat} (hi:i < k):l i c=jh (j5 pm k) (Fd (λj r=>a r (p j)) i k++(λr=>a r c) :: iO (λj r=>a r (p j)) i):=by
 have km:=B.km;have d0:=B.d0;rw[wZ (v:=λj r=>a r (p j)) (c:=λj=>l j c / d) hi λr hr=>?_,<- B.det]
 ·grind
 ·obtain ⟨t,ht,rfl⟩:=jQ hr;have:=B.coef (i:=t) (c:=c) (by lia);rw[if_pos ht] at this;rw[this];grind
theorem vW.new (B:vW a m k pm p l d) {i c:Nat} (h1:k<=i) (hi:i < m):l i c=jh (pm i :: j5 pm k) ((λr=>a r c) :: iO (λj r=>a r (p j)) k):=by
 have km:=B.km;have d0:=B.d0
 have hn:pm i∉j5 pm k:=λhm=>by
  obtain ⟨t,ht,e⟩:=jQ hm;have:=B.inj i t hi (by lia) e
  lia
 have e1:a (pm i) c=bR k (λj=>(l j c / d)*a (pm i) (p j))+l i c / d:=by
  have:=B.coef (i:=i) (c:=c) hi;rwa [if_neg (by lia)] at this
 have e2:∀r∈j5 pm k,a r c=bR k (λj=>(l j c / d)*a r (p j)):=λr hr=>by
  obtain ⟨t,ht,rfl⟩:=jQ hr;have:=B.coef (i:=t) (c:=c) (by lia);rw[if_pos ht] at this;rw[this];grind
 rw[IW (v:=λj r=>a r (p j)) (c:=λj=>l j c / d) (W:=λr=>a r c) (s:=l i c / d) hn e1 e2,<- B.det];grind
theorem vW.fr {W N:Nat} (B:vW a m k pm p l d) (hN:k < N) (hW:1<=W) (ha:∀i,i < m->∀c,Fr 1 W (a i c)) {i c:Nat} (hi:i < m):Fr 1 ((N*W)^(k+1)) (l i c):=by
 have km:=B.km;have mono:∀t,t<=k+1->(N*W)^t<=(N*W)^(k+1):=λt ht=>au (bE (by lia) hW) ht
 have ha':∀r∈j5 pm k,∀c,Fr 1 W (a r c):=λr hr c=>by
  obtain ⟨t,ht,rfl⟩:=jQ hr;exact ha _ (B.rng t (by lia)) c
 by_cases h:i < k
 ·rw[B.old h];refine (xv (W:=W) (N:=N) ?_ ?_).mono (mono _ (by rw[qQ];lia))
  ·have:=congrArg List.length (cw_split (v:=λj r=>a r (p j)) h);rw[ak,ba,cw_len] at this;rw[ak,ba]
   lia
  ·intro v hv r hr;rcases aw.mp hv with hv | hv
   ·obtain ⟨t,_,rfl⟩:=Ap hv;exact ha' r hr _
   ·rcases aB.mp hv with rfl | hv
    ·exact ha' r hr _
    ·obtain ⟨t,_,rfl⟩:=cw_in hv;exact ha' r hr _
 ·rw[B.new (by lia) hi];refine (xv (W:=W) (N:=N) ?_ ?_).mono (mono _ (by rw[ba,qQ];lia))
  ·rw[ba,cw_len]
   lia
  ·intro v hv r hr
   have hr':∀c,Fr 1 W (a r c):=λc=>by
    rcases aB.mp hr with rfl | hr
    ·exact ha _ (B.rng i hi) c
    ·exact ha' r hr c
   rcases aB.mp hv with rfl | hv
   ·exact hr' _
   ·obtain ⟨t,_,rfl⟩:=cw_in hv;exact hr' _
theorem vW.dfr {W N:Nat} (B:vW a m k pm p l d) (hN:k<=N) (ha:∀i,i < m->∀c,Fr 1 W (a i c)):Fr 1 ((N*W)^k) d:=by
 have km:=B.km;rw[B.det]
 have:=xv (W:=W) (N:=N) (rs:=j5 pm k) (vs:=iO (λj r=>a r (p j)) k) (by rw[cw_len];exact hN) λv hv r hr=>by
  obtain ⟨t,ht,rfl⟩:=jQ hr;obtain ⟨t',_,rfl⟩:=cw_in hv;exact ha _ (B.rng t (by lia)) _
 rwa [qQ] at this
def jK (k t i:Nat):Nat:=if i=k then t else if i=t then k else i
theorem rZ {k t m i:Nat} (hk:k < m) (ht:t < m) (hi:i < m):jK k t i < m:=by
 unfold jK
 split
 ·exact ht
 ·split
  ·exact hk
  ·exact hi
theorem NZ {k t i j:Nat} (h:jK k t i=jK k t j):i=j:=by
 unfold jK at h
 split at h <;> split at h <;> (try split at h) <;> (try split at h) <;> lia
theorem tP {k t i:Nat} (h:k<=t) (hi:i < k):jK k t i=i:=by
 unfold jK;rw[if_neg (by lia),if_neg (by lia)]
theorem uA {k t i:Nat} (h:k<=t) (hi:k<=i):k<=jK k t i:=by
 unfold jK
 split
 ·exact h
 ·split <;> lia
theorem vW.swap (B:vW a m k pm p l d) {t:Nat} (h:k<=t) (ht:t < m):vW a m k (λi=>pm (jK k t i)) p (λi=>l (jK k t i)) d where
 inj i j hi hj e:=NZ (B.inj _ _ (rZ (by lia) ht hi) (rZ (by lia) ht hj) e)
 rng i hi:=B.rng _ (rZ (by lia) ht hi)
 km:=B.km
 d0:=B.d0
 det:=by rw[B.det,zH (f:=pm) (g:=λi=>pm (jK k t i)) λj hj=>by rw[tP h hj]]
 eqs i hi c:=by
  have e:=B.eqs (jK k t i) (rZ (by lia) ht hi) c;have e1:bR k (λj=>a (pm (jK k t i)) (p j)*l (jK k t j) c)=bR k (λj=>a (pm (jK k t i)) (p j)*l j c):=bp λj hj=>by rw[tP h hj]
  rw[e1];by_cases hk:i < k
  ·rw[tP h hk] at e ⊢;exact e
  ·rw[if_neg hk];rw[if_neg (by have:=uA h (show k<=i by lia);lia)] at e;exact e
 unit i hi j hj:=by
  rw[B.unit _ (rZ (by lia) ht hi) j hj];by_cases hk:i < k
  ·rw[tP h hk]
  ·have:=uA h (show k<=i by lia);rw[if_neg (by lia),if_neg (by lia)]
theorem vW.step (B:vW a m k pm p l d) {c0:Nat} (hk:k < m) (h0:l k c0≠0):vW a m (k+1) pm (λj=>if j=k then c0 else p j) (λi c=>if i=k then l k c else (l k c0*l i c - l i c0*l k c) / d) (l k c0) where
 inj:=B.inj
 rng:=B.rng
 km:=hk
 d0:=h0
 det:=by
  rw[B.new (aj _) hk];show _=jh (pm k :: j5 pm k) ((λr=>a r (if k=k then c0 else p k)) :: iO _ k)
  rw[if_pos rfl];congr 2;exact cw_congr λj hj=>by rw[if_neg (show j≠k by lia)]
 eqs i hi c:=by
  have d0:=B.d0;have e1:=B.eqs i hi c;have e2:=B.eqs i hi c0;show l k c0*a (pm i) c=(bR k _+_)+_
  have s1:bR k (λj=>a (pm i) (if j=k then c0 else p j)*(if j=k then l k c else (l k c0*l j c - l j c0*l k c) / d))=(l k c0 / d)*bR k (λj=>a (pm i) (p j)*l j c)+(- l k c / d)*bR k (λj=>a (pm i) (p j)*l j c0):=by
   rw[<- dc,<- dc,<- p6];refine bp λj hj=>?_
   rw[if_neg (show j≠k by lia),if_neg (show j≠k by lia)];grind
  rw[s1];simp only[if_true];generalize bR k (λj=>a (pm i) (p j)*l j c)=S1 at e1 ⊢;generalize bR k (λj=>a (pm i) (p j)*l j c0)=S2 at e2 ⊢;rcases jJ i k with h | h | h
  ·rw[if_pos h] at e1 e2;rw[if_pos (by lia)];grind
  ·subst h;rw[if_neg (by lia)] at e1 e2;rw[if_pos (by lia)];grind
  ·rw[if_neg (by lia)] at e1 e2;rw[if_neg (by lia),if_neg (by lia)];grind
 unit i hi j hj:=by
  have d0:=B.d0;by_cases e:j=k
  ·subst e;simp only[if_true];by_cases ei:i=j
   ·rw[if_pos ei,if_pos ei]
   ·rw[if_neg ei,if_neg ei];grind
  ·have hj':j < k:=by lia
   rw[if_neg e];by_cases ei:i=k
   ·rw[if_pos ei,B.unit k hk j hj',if_neg (by lia),if_neg (by lia)]
   ·rw[if_neg ei,B.unit i hi j hj',B.unit k hk j hj',if_neg (show k≠j by lia)]
    split
    ·grind
    ·grind
end
def eK (m:Nat) (a:Nat->Nat->Rat) (x:Nat->Rat):Prop:=∃w:Nat->Rat,∀c,x c=bR m λt=>w t*a t c
section
variable {m m' k n:Nat} {a b:Nat->Nat->Rat} {x y:Nat->Rat}
theorem eK.row {i:Nat} (hi:i < m):eK m a (a i):=⟨λt=>if t=i then 1 else 0,λc=>by
 rw[iP hi λj _ ne=>by dsimp only;rw[if_neg ne];grind]
 dsimp only
 rw[if_pos rfl];grind⟩
theorem eK.lin (α β:Rat) (hx:eK m a x) (hy:eK m a y):eK m a λc=>α*x c+β*y c:=by
 obtain ⟨w,hw⟩:=hx;obtain ⟨v,hv⟩:=hy;refine ⟨λt=>α*w t+β*v t,λc=>?_⟩
 dsimp only
 rw[hw c,hv c,<- dc,<- dc,<- p6];exact bp λj _=>by grind
theorem eK.congr (h:∀c,x c=y c) (hx:eK m a x):eK m a y:=by obtain ⟨w,hw⟩:=hx;exact ⟨w,λc=>by rw[<- h c];exact hw c⟩
theorem eK.trans (h:∀t,t < m'->eK m a (b t)) (hx:eK m' b x):eK m a x:=by
 obtain ⟨v,hv⟩:=hx
 have h2:∀t,∃w:Nat->Rat,t < m'->∀c,b t c=bR m λs=>w s*a s c:=λt=>by
  by_cases ht:t < m'
  ·obtain ⟨w,hw⟩:=h t ht;exact ⟨w,λ_=>hw⟩
  ·exact ⟨λ_=>0,λz=>absurd z ht⟩
 have hc:=Classical.axiomOfChoice h2;obtain ⟨w,hw⟩:=hc;refine ⟨λs=>bR m' λt=>v t*w t s,λc=>?_⟩;rw[hv c];have e1:bR m' (λt=>v t*b t c)=bR m' (λt=>bR m λs=>v t*(w t s*a s c)):=bp λt ht=>by rw[hw t ht c,<- dc]
 rw[e1,jd];refine bp λs _=>?_
 have:bR m' (λt=>v t*w t s)*a s c=a s c*bR m' (λt=>v t*w t s):=dP ..;rw[this,<- dc];exact bp λt _=>by grind
theorem eK.zero (h:∀c,x c=0):eK m a x:=⟨λ_=>0,λc=>by rw[h c,dw λ_ _=>by grind]⟩
end
structure DS (m n:Nat) (a:Nat->Nat->Rat) (k:Nat) (p:Nat->Nat) (R:Nat->Nat->Rat):Prop where
 inc:∀i j,i < j->j < k->p i < p j
 low:∀j,j < k->p j < n
 unit:∀i,i < k->∀j,j < k->R i (p j)=if i=j then 1 else 0
 lead:∀i,i < k->∀c,c < p i->R i c=0
 span:∀i,i < m->eK k R (a i)
 back:∀i,i < k->eK m a (R i)
section
variable {m m' k k' n:Nat} {a a' R R':Nat->Nat->Rat} {p p':Nat->Nat} {x:Nat->Rat}
theorem DS.coef (h:DS m n a k p R) (hx:eK k R x) (c:Nat):x c=bR k λj=>x (p j)*R j c:=by
 obtain ⟨w,hw⟩:=hx;rw[hw c];refine bp λj hj=>?_
 rw[hw (p j),iP hj λt ht ne=>by rw[h.unit t ht j hj,if_neg ne];grind,h.unit j hj j hj,if_pos rfl];grind
theorem DS.lead_in (h:DS m n a k p R) (hx:eK k R x) {c:Nat} (h1:x c≠0) (h0:∀c',c' < c->x c'=0):∃j,j < k/\p j=c:=by
 refine Classical.byContradiction λhn=>h1 ?_
 rw[h.coef hx c];refine dw λj hj=>?_
 rcases jJ (p j) c with z | z | z
 ·rw[h0 _ z];grind
 ·exact absurd ⟨j,hj,z⟩ hn
 ·rw[h.lead j hj c z];grind
theorem inc_le (h1:∀i j,i < j->j < k->p i < p j) (h2:∀i j,i < j->j < k'->p' i < p' j) (hs:∀j,j < k'->∃i,i < k/\p i=p' j):∀{j:Nat},j < k'->∀{i:Nat},i < k->p i=p' j->j<=i
 | 0,_,_,_,_=>bf _
 | j+1,hj,i,hi,e=>by
  obtain ⟨i0,hi0,e0⟩:=hs j (by lia);have:=inc_le h1 h2 hs (j:=j) (by lia) hi0 e0;have lt:=h2 j (j+1) (by lia) hj;rcases jJ i0 i with z | z | z
  ·lia
  ·subst z;lia
  ·have:=h1 i i0 z hi0;lia
theorem Kx (h1:∀i j,i < j->j < k->p i < p j) {i j:Nat} (h:i<=j) (hj:j < k):p i<=p j:=by
 rcases cb i j with z | z
 ·exact aZ (h1 i j z hj)
 ·have:i=j:=by lia
  rw[this];exact aj _
theorem GY (h1:∀i j,i < j->j < k->p i < p j) (h2:∀i j,i < j->j < k'->p' i < p' j) (hs:∀j,j < k'->∃i,i < k/\p i=p' j):k'<=k/\∀j,j < k'->p j<=p' j:=by
 refine ⟨?_,λj hj=>?_⟩
 ·rcases gJ k' with z | z
  ·lia
  ·obtain ⟨i,hi,e⟩:=hs (k' - 1) (by lia);have:=inc_le h1 h2 hs (j:=k' - 1) (by lia) hi e
   lia
 ·obtain ⟨i,hi,e⟩:=hs j hj;rw[<- e];exact Kx h1 (inc_le h1 h2 hs hj hi e) hi
theorem DS.uniq (h:DS m n a k p R) (h':DS m' n a' k' p' R') (s1:∀i,i < m->eK m' a' (a i)) (s2:∀i,i < m'->eK m a (a' i)):k=k'/\(∀j,j < k->p j=p' j)/\∀i,i < k->∀c,R i c=R' i c:=by
 have x1:∀i,i < k->eK k' R' (R i):=λi hi=>eK.trans (λt ht=>h'.span t ht) (eK.trans s1 (h.back i hi))
 have x2:∀i,i < k'->eK k R (R' i):=λi hi=>eK.trans (λt ht=>h.span t ht) (eK.trans s2 (h'.back i hi))
 have y1:∀j,j < k->∃i,i < k'/\p' i=p j:=λj hj=>h'.lead_in (x1 j hj) (by rw[h.unit j hj j hj,if_pos rfl];decide) (h.lead j hj)
 have y2:∀j,j < k'->∃i,i < k/\p i=p' j:=λj hj=>h.lead_in (x2 j hj) (by rw[h'.unit j hj j hj,if_pos rfl];decide) (h'.lead j hj)
 obtain ⟨z1,w1⟩:=GY h'.inc h.inc y1;obtain ⟨z2,w2⟩:=GY h.inc h'.inc y2;have ek:k=k':=Nat.le_antisymm z1 z2;subst ek;have ep:∀j,j < k->p j=p' j:=λj hj=>Nat.le_antisymm (w2 j hj) (w1 j hj)
 refine ⟨rfl,ep,λi hi c=>?_⟩;rw[h.coef (x2 i hi) c,iP hi λj hj ne=>by rw[ep j hj,h'.unit i hi j hj,if_neg (λz=>ne z.symm)];grind,ep i hi,h'.unit i hi i hi,if_pos rfl];grind
end
structure jW (a:Nat->Nat->Rat) (m k P:Nat) (p:Nat->Nat) (l:Nat->Nat->Rat) (d:Rat):Prop where
 km:k<=m
 d0:d≠0
 unit:∀i,i < m->∀j,j < k->l i (p j)=if i=j then d else 0
 inc:∀i j,i < j->j < k->p i < p j
 low:∀j,j < k->p j < P
 zero:∀i,k<=i->i < m->∀c,c < P->l i c=0
 lead:∀j,j < k->∀c,c < p j->l j c=0
 there:∀i,i < m->eK m l (a i)
 back:∀i,i < m->eK m a (l i)
section
variable {m k n P:Nat} {a l l':Nat->Nat->Rat} {p:Nat->Nat} {d d':Rat}
theorem jW.start:jW a m 0 0 p a 1 where
 km:=bf _
 d0:=by decide
 unit _ _ j hj:=absurd hj (by lia)
 inc _ j _ hj:=absurd hj (by lia)
 low j hj:=absurd hj (by lia)
 zero _ _ _ c hc:=absurd hc (by lia)
 lead j hj:=absurd hj (by lia)
 there i hi:=eK.row hi
 back i hi:=eK.row hi
theorem jW.skip (E:jW a m k P p l d) (h:∀i,k<=i->i < m->l i P=0):jW a m k (P+1) p l d :=
 ⟨E.km,E.d0,E.unit,E.inc,λj hj=>Nat.lt_succ_of_lt (E.low j hj),λi h1 h2 c hc=>by
  by_cases e:c=P
  ·rw[e];exact h i h1 h2
  ·exact E.zero i h1 h2 c (by lia),E.lead,E.there,E.back⟩
theorem PR {k t i:Nat}:jK k t (jK k t i)=i:=by
 unfold jK
 split
 ·split <;> (try split) <;> lia
 ·split
  ·rw[if_pos rfl];lia
  ·rfl
theorem jW.swap (E:jW a m k P p l d) {t:Nat} (h:k<=t) (ht:t < m):jW a m k P p (λi=>l (jK k t i)) d where
 km:=E.km
 d0:=E.d0
 unit i hi j hj:=by
  rw[E.unit _ (rZ (by lia) ht hi) j hj];by_cases hk:i < k
  ·rw[tP h hk]
  ·have:=uA h (show k<=i by lia);rw[if_neg (by lia),if_neg (by lia)]
 inc:=E.inc
 low:=E.low
 zero i h1 h2 c hc:=E.zero _ (uA h h1) (rZ (by lia) ht h2) c hc
 lead j hj c hc:=by rw[tP h hj];exact E.lead j hj c hc
 there i hi:=eK.trans (λs hs=>eK.congr (λc=>by rw[PR]) (eK.row (a:=λi=>l (jK k t i)) (i:=jK k t s) (rZ (by lia) ht hs))) (E.there i hi)
 back i hi:=E.back _ (rZ (by lia) ht hi)
theorem jW.step (E : jW a m k P p l d) (hk : k < m) (h0 : d' ≠ 0) (unit' : ∀ i, i < m → ∀ j, j < k + 1 → l' i (if j = k then P else p j) = if i = j then d' else 0)
    (hl : ∀ i, i < m → ∃ β γ : Rat, β ≠ 0 /\ (i = k → γ = 0) /\ ∀ c, l' i c = β * l i c + γ * l k c) : jW a m (k + 1) (P + 1) (λj => if j = k then P else p j) l' d' where
  km := hk
  d0 := h0
  unit := unit'
  inc i j hij hj := by
    by_cases e : j = k
    · rw [if_pos e, if_neg (by lia)];exact E.low i (by lia)
    · rw [if_neg e, if_neg (by lia)];exact E.inc i j hij (by lia)
  low j hj := by
    by_cases e : j = k
    · rw [if_pos e]; lia
    · rw [if_neg e];exact Nat.lt_succ_of_lt (E.low j (by lia))
  zero i h1 h2 c hc := by
    by_cases e : c = P
    · have := unit' i h2 k (by lia);rw [if_pos rfl, if_neg (by lia)] at this;rw [e]; exact this
    · obtain ⟨β, γ, _, _, q⟩ := hl i h2;rw [q c, E.zero i (by lia) h2 c (by lia), E.zero k (aj _) hk c (by lia)];grind
  lead j hj c hc := by
    have km := E.km;obtain ⟨β, γ, _, _, q⟩ := hl j (by lia);by_cases e : j = k
    · rw [if_pos e] at hc;rw [q c, e, E.zero k (aj _) hk c hc];grind
    · rw [if_neg e] at hc;have := E.low j (by lia);rw [q c, E.lead j (by lia) c hc, E.zero k (aj _) hk c (by lia)];grind
  there i hi := by
    refine eK.trans (λs hs => ?_) (E.there i hi);obtain ⟨β, γ, b0, _, q⟩ := hl s hs;obtain ⟨βk, γk, bk0, gk, qk⟩ := hl k hk;have g0 := gk rfl;refine eK.congr (λc => ?_) (eK.lin (1 / β) (-(γ / β) / βk) (eK.row (a := l') hs) (eK.row (a := l') hk));rw [q c, qk c, g0];grind
  back i hi := by
    obtain ⟨β, γ, _, _, q⟩ := hl i hi;exact eK.congr (λc => (q c).symm) (eK.lin β γ (E.back i hi) (E.back k hk))
theorem jW.done (E:jW a m k n p l d) (ha:∀i,i < m->∀c,n<=c->a i c=0):DS m n a k p (λi c=>l i c / d) where
 inc:=E.inc
 low:=E.low
 unit i hi j hj:=by
  have d0:=E.d0;have km:=E.km;rw[E.unit i (by lia) j hj]
  split
  ·grind
  ·grind
 lead i hi c hc:=by
  rw[E.lead i hi c hc];grind
 span i hi:=by
  have d0:=E.d0;refine eK.trans (λs hs=>?_) (E.there i hi);by_cases z:s < k
  ·refine eK.congr (λc=>?_) (eK.lin d 0 (eK.row (a:=λi c=>l i c / d) z) (eK.row (a:=λi c=>l i c / d) z));grind
  ·refine eK.zero λc=>?_
   by_cases hc:c < n
   ·exact E.zero s (by lia) hs c hc
   ·obtain ⟨w,hw⟩:=E.back s hs;rw[hw c,dw λt ht=>by rw[ha t ht c (by lia)];grind]
 back i hi:=by
  have km:=E.km;have d0:=E.d0;refine eK.congr (λc=>?_) (eK.lin (1 / d) 0 (E.back i (by lia)) (E.back i (by lia)));grind
end
def d7 (ls:List (List Int)) (i c:Nat):Rat:=(((ls.getD i []).getD c 0:Int):Rat)
def cu (rows:LR9) (i c:Nat):Rat:=(rows.getD i []).getD c 0
def oj (ls:List (List Int)) (k t:Nat):List (List Int):=(ls.set k (ls.getD t [])).set t (ls.getD k [])
def EX (ls:List (List Int)) (k c:Nat) (b:Int):List (List Int):=(ls.map λzs=>List.zipWith (λx y=>((ls.getD k []).getD c 0*x - zs.getD c 0*y).fdiv b) zs (ls.getD k [])).set k (ls.getD k [])
section
variable {ls ls0:List (List Int)} {k t n P c:Nat} {b d:Int} {ps:List Nat}
theorem rg {α:Type} {l:List α} {i j:Nat} {x e:α} (hi:i < l.length):(l.set i x).getD j e=if j=i then x else l.getD j e:=by
 rw[aa,aa,List.getElem?_set];by_cases h:j=i
 ·subst h;rw[if_pos rfl,if_pos hi,if_pos rfl];rfl
 ·rw[if_neg (λz=>h z.symm),if_neg h]
theorem v5:(oj ls k t).length=ls.length:=by unfold oj;rw[dQ,dQ]
theorem La:(EX ls k c b).length=ls.length:=by unfold EX;rw[dQ,ar]
theorem getD_in {α:Type} {l:List α} {i:Nat} {e:α} (h:i < l.length):l.getD i e∈l:=by
 rw[aa,af h];exact aP h
theorem Gh (w:∀zs∈ls,zs.length=n) (hk:k < ls.length) (ht:t < ls.length):∀zs∈oj ls k t,zs.length=n:=λzs hz=>by
 unfold oj at hz;rcases cg hz with h | h
 ·rcases cg h with h | h
  ·exact w zs h
  ·rw[h];exact w _ (getD_in ht)
 ·rw[h];exact w _ (getD_in hk)
theorem HL (w:∀zs∈ls,zs.length=n) (hk:k < ls.length):∀zs∈EX ls k c b,zs.length=n:=λzs hz=>by
 unfold EX at hz;rcases cg hz with h | h
 ·obtain ⟨y,hy,rfl⟩:=aD.mp h;rw[cD,w y hy,w _ (getD_in hk)]
  lia
 ·rw[h];exact w _ (getD_in hk)
theorem uZ (hk:k < ls.length) (ht:t < ls.length) (i c:Nat):d7 (oj ls k t) i c=d7 ls (jK k t i) c:=by
 unfold d7 oj jK;rw[rg (by rw[dQ];exact ht),rg hk];by_cases h1:i=t
 ·rw[if_pos h1];by_cases h2:i=k
  ·rw[if_pos h2,<- h1,<- h2]
  ·rw[if_neg h2,if_pos h1]
 ·rw[if_neg h1];by_cases h2:i=k
  ·rw[if_pos h2,if_pos h2]
  ·rw[if_neg h2,if_neg h2,if_neg h1]
theorem wY (w:∀zs∈ls,zs.length=n) {i c:Nat} (hc:n<=c):d7 ls i c=0:=by
 unfold d7;by_cases h:i < ls.length
 ·have:=w _ (getD_in (e:=[]) h);rw[aa (l:=ls.getD i []),aM (by lia)];rfl
 ·rw[aa (l:=ls),aM (by lia)];rfl
theorem kJ {x:Int} (h:(x:Rat)=0):x=0:=by
 have:(x:Rat)=((0:Int):Rat):=h;exact dn.mp this
theorem FY {x b:Int} {q:Rat} (hb:b≠0) (hq:∃z:Int,q=(z:Rat)) (e:(x:Rat)=(b:Rat)*q):((x.fdiv b:Int):Rat)=q:=by
 obtain ⟨z,rfl⟩:=hq;rw[<- aQ] at e;have:=dn.mp e;rw[this,Int.mul_fdiv_cancel_left _ hb]
theorem kf {W:Nat} {q:Rat} (h:Fr 1 W q):∃z:Int,q=(z:Rat):=by
 obtain ⟨z,e,_⟩:=h;exact ⟨z,by rw[<- e];simp⟩
theorem kH {W:Nat} {z:Int} (h:Fr 1 W (z:Rat)):z.natAbs<=W:=by
 obtain ⟨y,e,b⟩:=h;have:(z:Rat)=(y:Rat):=by rw[<- e];simp
 rw[dn.mp this];simpa using b
theorem KQ (w:∀zs∈ls,zs.length=n) (hk:k < ls.length) (hb:b≠0) {i:Nat} (hi:i < ls.length) (hz:∀c,∃z:Int,(d7 ls k P*d7 ls i c - d7 ls i P*d7 ls k c) / (b:Rat)=(z:Rat)) (c:Nat) :
  d7 (EX ls k P b) i c=if i=k then d7 ls k c else (d7 ls k P*d7 ls i c - d7 ls i P*d7 ls k c) / (b:Rat):=by
 by_cases e:i=k
 ·rw[if_pos e];unfold d7 EX;rw[rg (by rw[ar];exact hk),if_pos e]
 ·rw[if_neg e];by_cases hc:c < n
  ·have hb':(b:Rat)≠0:=λz=>hb (kJ z)
   have lk:=w _ (getD_in (e:=[]) hk);have li:=w _ (getD_in (e:=[]) hi)
   have e1:d7 (EX ls k P b) i c=(((((ls.getD k []).getD P 0*(ls.getD i []).getD c 0 - (ls.getD i []).getD P 0*(ls.getD k []).getD c 0).fdiv b:Int)):Rat):=by
    unfold EX;rw[d7,rg (by rw[ar];exact hk),if_neg e];rw[aa (l:=List.map _ ls),aL,af hi];show ((((List.zipWith _ ls[i] (ls.getD k [])).getD c 0:Int)):Rat)=_
    have ei:ls.getD i []=ls[i]:=by rw[aa,af hi];rfl
    rw[<- ei];rw[aa (l:=List.zipWith _ _ _),bT,aa (l:=ls.getD i []) (i:=c),aa (l:=ls.getD k []) (i:=c),af (show c < (ls.getD i []).length by lia),af (show c < (ls.getD k []).length by lia)];rfl
   rw[e1];refine FY hb (hz c) ?_;rw[AE,aQ,aQ];show _=(b:Rat)*((d7 ls k P*d7 ls i c - d7 ls i P*d7 ls k c) / (b:Rat))
   show d7 ls k P*d7 ls i c - d7 ls i P*d7 ls k c=_
   grind
  ·rw[wY (HL w hk) (show n<=c by lia),wY w (i:=i) (show n<=c by lia),wY w (i:=k) (show n<=c by lia)];grind
end
section
variable {m k n P:Nat} {a l l2:Nat->Nat->Rat} {pm p p2:Nat->Nat} {d:Rat}
theorem vW.congr (B:vW a m k pm p l d) (hp:∀j,j < k->p2 j=p j) (hl:∀i,i < m->∀c,l2 i c=l i c):vW a m k pm p2 l2 d where
 inj:=B.inj
 rng:=B.rng
 km:=B.km
 d0:=B.d0
 det:=by rw[B.det,cw_congr (f:=λj r=>a r (p j)) (g:=λj r=>a r (p2 j)) λj hj=>by rw[hp j hj]]
 eqs i hi c:=by
  have km:=B.km;rw[B.eqs i hi c,hl i hi c];congr 1;exact bp λj hj=>by rw[hp j hj,hl j (by lia) c]
 unit i hi j hj:=by rw[hp j hj,hl i hi];exact B.unit i hi j hj
theorem eK.rows {x:Nat->Rat} (h:∀i,i < m->∀c,l2 i c=l i c) (hx:eK m l x):eK m l2 x:=by obtain ⟨w,hw⟩:=hx;exact ⟨w,λc=>by rw[hw c];exact bp λt ht=>by rw[h t ht c]⟩
theorem jW.congr (E:jW a m k P p l d) (hp:∀j,j < k->p2 j=p j) (hl:∀i,i < m->∀c,l2 i c=l i c):jW a m k P p2 l2 d where
 km:=E.km
 d0:=E.d0
 unit i hi j hj:=by rw[hp j hj,hl i hi];exact E.unit i hi j hj
 inc i j hij hj:=by rw[hp i (by lia),hp j hj];exact E.inc i j hij hj
 low j hj:=by rw[hp j hj];exact E.low j hj
 zero i h1 h2 c hc:=by rw[hl i h2];exact E.zero i h1 h2 c hc
 lead j hj c hc:=by
  have km:=E.km;rw[hp j hj] at hc;rw[hl j (by lia)];exact E.lead j hj c hc
 there i hi:=(E.there i hi).rows hl
 back i hi:=(E.back i hi).congr λc=>(hl i hi c).symm
theorem jW.kP (E:jW a m k P p l d):k<=P:=by
 have:∀j,j < k->j<=p j:=by
  intro j
  induction j with
  | zero=>intro _;exact bf _
  | succ j ih =>
   intro hj;have:=ih (by lia);have:=E.inc j (j+1) (by lia) hj
   lia
 rcases gJ k with z | z
 ·lia
 ·have h1:=this (k - 1) (by lia);have h2:=E.low (k - 1) (by lia)
  lia
end
structure Cm (ls0:List (List Int)) (n P:Nat) (ls:List (List Int)) (ps:List Nat) (d:Int):Prop where
 len:ls.length=ls0.length
 wide:∀zs∈ls,zs.length=n
 bar:∃pm,vW (d7 ls0) ls0.length ps.length pm (λj=>ps.getD j 0) (d7 ls) d
 el:jW (d7 ls0) ls0.length ps.length P (λj=>ps.getD j 0) (d7 ls) d
section
variable {ls0 ls:List (List Int)} {n P:Nat} {ps:List Nat} {d:Int}
theorem Cm.start (w:∀zs∈ls0,zs.length=n):Cm ls0 n 0 ls0 [] 1:=⟨rfl,w,⟨λi=>i,vW.start λ_ _=>rfl⟩,jW.start⟩
theorem Cm.d0 (h:Cm ls0 n P ls ps d):d≠0:=λz=>h.el.d0 (by rw[z];rfl)
theorem Cm.skip (h:Cm ls0 n P ls ps d) (hz:∀i,ps.length<=i->i < ls.length->d7 ls i P=0):Cm ls0 n (P+1) ls ps d:=⟨h.len,h.wide,h.bar,h.el.skip λi h1 h2=>hz i h1 (by rw[h.len];exact h2)⟩
theorem getD_snoc {l:List Nat} {x j:Nat} (hj:j < l.length+1):(l++[x]).getD j 0=if j=l.length then x else l.getD j 0:=by
 rw[aa,aa];by_cases e:j=l.length
 ·rw[if_pos e,e,a9 (aj _),fk];rfl
 ·rw[if_neg e,bu (by lia)]
theorem Cm.int {W:Nat} (h:Cm ls0 n P ls ps d) (hW:1<=W) (h0:∀i,i < ls0.length->∀c,Fr 1 W (d7 ls0 i c)) {t:Nat} (ht:ps.length<=t) (ht2:t < ls.length) (hne:d7 ls t P≠0) :
  ∀i,i < ls.length->i≠ps.length->∀c,∃z:Int,(d7 (oj ls ps.length t) ps.length P*d7 (oj ls ps.length t) i c - d7 (oj ls ps.length t) i P*d7 (oj ls ps.length t) ps.length c) / (d:Rat)=(z:Rat):=λi hi ne c=>by
 obtain ⟨pm,B⟩:=h.bar;have hl:=h.len;have hk:ps.length < ls.length:=by lia
 have B1:=(B.swap ht (by lia)).congr (p2:=λj=>ps.getD j 0) (l2:=d7 (oj ls ps.length t)) (λ_ _=>rfl) (λi _ c=>uZ hk ht2 i c)
 have h1:d7 (oj ls ps.length t) ps.length P≠0:=by
  rw[uZ hk ht2];unfold jK;rw[if_pos rfl];exact hne
 have B2:=B1.step (c0:=P) (by lia) h1;have:=B2.fr (W:=W) (N:=ps.length+2) (by lia) hW h0 (i:=i) (c:=c) (by lia);rw[if_neg ne] at this;exact kf this
theorem Cm.step {W:Nat} (h:Cm ls0 n P ls ps d) (hW:1<=W) (h0:∀i,i < ls0.length->∀c,Fr 1 W (d7 ls0 i c)) {t:Nat} (ht:ps.length<=t) (ht2:t < ls.length) (hne:d7 ls t P≠0) :
  Cm ls0 n (P+1) (EX (oj ls ps.length t) ps.length P d) (ps++[P]) (((EX (oj ls ps.length t) ps.length P d).getD ps.length []).getD P 0):=by
 obtain ⟨pm,B⟩:=h.bar;have hl:=h.len;have hk:ps.length < ls.length:=by lia
 have hz:=h.int hW h0 ht ht2 hne;have w1:=Gh h.wide hk ht2;have k1:ps.length < (oj ls ps.length t).length:=by rw[v5];exact hk
 have B1:=(B.swap ht (by lia)).congr (p2:=λj=>ps.getD j 0) (l2:=d7 (oj ls ps.length t)) (λ_ _=>rfl) (λi _ c=>uZ hk ht2 i c);have E1:=(h.el.swap ht (by lia)).congr (p2:=λj=>ps.getD j 0) (l2:=d7 (oj ls ps.length t)) (λ_ _=>rfl) (λi _ c=>uZ hk ht2 i c)
 have h1:d7 (oj ls ps.length t) ps.length P≠0:=by
  rw[uZ hk ht2];unfold jK;rw[if_pos rfl];exact hne
 have B2:=B1.step (c0:=P) (by lia) h1
 have fc:∀i,i < ls0.length->∀c,d7 (EX (oj ls ps.length t) ps.length P d) i c=if i=ps.length then d7 (oj ls ps.length t) ps.length c else (d7 (oj ls ps.length t) ps.length P*d7 (oj ls ps.length t) i c - d7 (oj ls ps.length t) i P*d7 (oj ls ps.length t) ps.length c) / (d:Rat):=λi hi c=>by
  by_cases e:i=ps.length
  ·rw[if_pos e];unfold d7 EX;rw[rg (by rw[ar];exact k1),if_pos e]
  ·have:=KQ w1 k1 h.d0 (i:=i) (by rw[v5];lia) (hz i (by lia) e) c;rw[this]
 have ed:(((((EX (oj ls ps.length t) ps.length P d).getD ps.length []).getD P 0:Int)):Rat)=d7 (oj ls ps.length t) ps.length P:=by
  have:=fc ps.length (by lia) P;rw[if_pos rfl] at this;exact this
 have lp:(ps++[P]).length=ps.length+1:=by rw[ak];rfl
 have hp:∀j,j < ps.length+1->(ps++[P]).getD j 0=if j=ps.length then P else ps.getD j 0:=λj hj=>getD_snoc hj
 refine ⟨by rw[La,v5];exact hl,HL w1 k1,⟨λi=>pm (jK ps.length t i),?_⟩,?_⟩
 ·rw[ed,lp];exact B2.congr hp fc
 ·rw[ed,lp];refine jW.congr (E1.step (d':=d7 (oj ls ps.length t) ps.length P) (l':=λi c=>if i=ps.length then d7 (oj ls ps.length t) ps.length c else (d7 (oj ls ps.length t) ps.length P*d7 (oj ls ps.length t) i c - d7 (oj ls ps.length t) i P*d7 (oj ls ps.length t) ps.length c) / (d:Rat)) (by lia) h1 B2.unit λi hi=>?_) hp fc;have d0:=h.el.d0;by_cases e:i=ps.length
  ·refine ⟨1,0,by decide,λ_=>rfl,λc=>?_⟩;rw[if_pos e,e];grind
  ·refine ⟨d7 (oj ls ps.length t) ps.length P / (d:Rat),-(d7 (oj ls ps.length t) i P) / (d:Rat),?_,λz=>absurd z e,λc=>?_⟩
   ·intro z;apply h1;grind
   ·rw[if_neg e];grind
theorem Cm.sz {W r:Nat} (h:Cm ls0 n P ls ps d) (hW:1<=W) (h0:∀i,i < ls0.length->∀c,Fr 1 W (d7 ls0 i c)) (hP:P<=n) (hr:min ls0.length n<=r) (r15:r<=15):(d.natAbs<=(16*W)^r)/\∀zs∈ls,∀z∈zs,z.natAbs<=(16*W)^r:=by
 obtain ⟨pm,B⟩:=h.bar;have kP:=h.el.kP;have km:=B.km;have hl:=h.len;have mono:∀{s t:Nat},s<=t->(16*W)^s<=(16*W)^t:=λhs=>au (bE (by decide) hW) hs
 refine ⟨ai (kH (B.dfr (W:=W) (N:=16) (by lia) h0)) (mono (by lia)),λzs hz z hz'=>?_⟩;obtain ⟨i,hi,rfl⟩:=bK hz;obtain ⟨c,hc,rfl⟩:=bK hz';have hw:=h.wide _ (aP hi)
 have ez:d7 ls i c=(((ls[i])[c]:Int):Rat):=by
  unfold d7;rw[aa (l:=ls),af hi];show ((ls[i].getD c 0:Int):Rat)=_
  rw[aa,af hc];rfl
 by_cases hk:i < ps.length
 ·have:Fr 1 ((16*W)^ps.length) (d7 ls i c):=by
   have hd:=B.d0;rw[B.old hk]
   have:=xv (W:=W) (N:=16) (rs:=j5 pm ps.length) (vs:=Fd (λj r=>d7 ls0 r (ps.getD j 0)) i ps.length++(λr=>d7 ls0 r c) :: iO (λj r=>d7 ls0 r (ps.getD j 0)) i) (by
    have:=congrArg List.length (cw_split (v:=λj r=>d7 ls0 r (ps.getD j 0)) hk);rw[ak,ba,cw_len] at this;rw[ak,ba]
    lia) (by
    intro v hv r hr
    have hr':∀c,Fr 1 W (d7 ls0 r c):=λc=>by
     obtain ⟨t,ht,rfl⟩:=jQ hr;exact h0 _ (B.rng t (by lia)) c
    rcases aw.mp hv with hv | hv
    ·obtain ⟨t,_,rfl⟩:=Ap hv;exact hr' _
    ·rcases aB.mp hv with rfl | hv
     ·exact hr' _
     ·obtain ⟨t,_,rfl⟩:=cw_in hv;exact hr' _)
   rwa [qQ] at this
  rw[ez] at this;exact ai (kH this) (mono (by lia))
 ·by_cases hn:ps.length < n
  ·have:=B.fr (W:=W) (N:=16) (by lia) hW h0 (i:=i) (c:=c) (by lia);rw[ez] at this;exact ai (kH this) (mono (by lia))
  ·have:=h.el.zero i (by lia) (by lia) c (by lia);rw[ez] at this;rw[kJ this];exact bf _
end
def Tp (M W:Nat) (q:Rat):Prop:=∃z:Int,q*(M:Rat)=(z:Rat)/\z.natAbs<=W
theorem Tp.of {M V W:Nat} {q:Rat} (h:Fr M V q) (hW:V*M<=W):Tp M W q:=by obtain ⟨z,a,b⟩:=h;exact ⟨z,a,ai b hW⟩
theorem Tp.mono {M W W':Nat} {q:Rat} (h:Tp M W q) (hW:W<=W'):Tp M W' q:=by obtain ⟨z,a,b⟩:=h;exact ⟨z,a,ai b hW⟩
theorem Tp.fr {M W:Nat} {q:Rat} (h:Tp M W q) (h0:0 < M):Fr M W q:=by obtain ⟨z,a,b⟩:=h;exact ⟨z,a,ai b (dh _ h0)⟩
def E8 (rows:LR9) (n w:Nat):Prop:=∃M W:Nat,0 < M/\M<=2^4300/\1<=W/\W<=2^w/\(∀xs∈rows,∀x∈xs,Tp M W x)/\w<=4300/\min rows.length n<=15/\min rows.length n*(w+4)<=8900
def gE (xs:List Rat):List Int:=fJ (xs.map nm) (gZ (xs.map nm))
theorem pY {xs:List Rat}:(gE xs).length=xs.length:=by unfold gE fJ;rw[ar,ar]
theorem kx {xs:List Rat}:0 < gZ (xs.map nm):=Aa (by decide) λb hb=>by
 obtain ⟨n,hn,rfl⟩:=aD.mp hb;obtain ⟨x,_,rfl⟩:=aD.mp hn;exact ip x
theorem Lz {xs:List Rat} {c:Nat}:(((gE xs).getD c 0:Int):Rat)=xs.getD c 0*((gZ (xs.map nm):Int):Rat):=by
 unfold gE fJ;rw[aa,aa,aL,aL];cases e:xs[c]? with
 | none=>show ((0:Int):Rat)=0*_;rw[kh];rfl
 | some x=>exact pX (lU (aD.mpr ⟨x,ax e,rfl⟩))
section
variable {rows:LR9} {n w i c:Nat} {xs:List Rat}
theorem xi (hi:i < rows.length):d7 (rows.map gE) i c=((gZ ((rows.getD i []).map nm):Int):Rat)*cu rows i c:=by
 unfold d7 cu
 have e:(rows.map gE).getD i []=gE (rows.getD i []):=by
  rw[aa,aa,aL,af hi];rfl
 rw[e,Lz,dP]
theorem Af (hw:∀xs∈rows,xs.length=n) (hc:n<=c):cu rows i c=0:=by
 unfold cu;by_cases h:i < rows.length
 ·have:=hw _ (getD_in (e:=[]) h);rw[aa (l:=rows.getD i []),aM (by lia)];rfl
 ·rw[aa (l:=rows),aM (by lia)];rfl
theorem Cs (i:Nat) (hi:i < rows.length):eK rows.length (d7 (rows.map gE)) (cu rows i):=by
 have h0:((gZ ((rows.getD i []).map nm):Int):Rat)≠0:=λz=>by
  have:=kx (xs:=rows.getD i []);have:=kJ z
  lia
 refine eK.congr (λc=>?_) (eK.lin (1 / ((gZ ((rows.getD i []).map nm):Int):Rat)) 0 (eK.row (a:=d7 (rows.map gE)) hi) (eK.row (a:=d7 (rows.map gE)) hi));rw[xi hi];grind
theorem Cr (i:Nat) (hi:i < rows.length):eK rows.length (cu rows) (d7 (rows.map gE) i):=by
 refine eK.congr (λc=>?_) (eK.lin ((gZ ((rows.getD i []).map nm):Int):Rat) 0 (eK.row (a:=cu rows) hi) (eK.row (a:=cu rows) hi));rw[xi hi];grind
theorem tL {M W:Nat} {x:Rat} (h:Tp M W x):(nm x).2∣(M:Int):=by
 obtain ⟨z,e,b⟩:=h
 exact Fr.den (V:=z.natAbs) (M:=M) ⟨z,e,by
  rcases gJ M with h | h
  ·subst h;have:(z:Rat)=0:=by rw[<- e];simp
   rw[kJ this];simp
  ·exact dh _ h⟩
theorem tK {M W:Nat} {x:Rat} (h:Tp M W x) (h0:0 < M) {B:Int} (hB:0 < B) (d1:(nm x).2∣B) (d2:B∣(M:Int)):∃t:Int,x*(B:Rat)=(t:Rat)/\t.natAbs<=W:=by
 obtain ⟨z,e,b⟩:=h;obtain ⟨s,es⟩:=d2;refine ⟨(nm x).1*(B / (nm x).2),(pX d1).symm,?_⟩
 have s0:0 < s:=by
  rcases Int.lt_trichotomy s 0 with h | h | h
  ·have:=uw hB h
   lia
  ·rw[h] at es;lia
  ·exact h
 have e2:(((nm x).1*(B / (nm x).2)*s:Int):Rat)=(z:Rat):=by
  rw[aQ,pX d1,<- e,<- aH,es,aQ];grind
 have e3:=dn.mp e2;have:((nm x).1*(B / (nm x).2)).natAbs*s.natAbs=z.natAbs:=by rw[<- cy,e3]
 have h1:1<=s.natAbs:=by lia
 have:=dh ((nm x).1*(B / (nm x).2)).natAbs h1
 lia
theorem rT {M W:Nat} (h0:0 < M) (h:∀x∈xs,Tp M W x):gZ (xs.map nm)∣(M:Int):=yL (by decide) (Int.one_dvd _) λb hb=>by
 obtain ⟨n,hn,rfl⟩:=aD.mp hb;obtain ⟨x,hx,rfl⟩:=aD.mp hn;exact ⟨ip x,tL (h x hx)⟩
theorem E8.rowM (F:E8 rows n w) (hx:xs∈rows):∃M,F4 M (xs.map nm):=by
 obtain ⟨M,W,h0,h1,hW,h2,h3,h4,_⟩:=F;refine ⟨M,by lia,?_,λy hy=>?_⟩
 ·show ((M:Nat):Int).natAbs < 2^4400
  rw[bw];exact br h1 (dS (by decide) (by decide))
 ·obtain ⟨x,hx',rfl⟩:=aD.mp hy;have t:=h3 xs hx x hx';refine ⟨ip x,tL t,?_⟩;obtain ⟨s,e,b⟩:=tK t h0 (ip x) (HX _) (tL t);have e2:(((nm x).1:Int):Rat)=(s:Rat):=by rw[<- e];exact kQ x
  rw[dn.mp e2];exact br (ai b h2) (dS (by decide) (by lia))
theorem E8.ent (F:E8 rows n w):∃W:Nat,1<=W/\W<=2^w/\∀i,i < (rows.map gE).length->∀c,Fr 1 W (d7 (rows.map gE) i c):=by
 obtain ⟨M,W,h0,h1,hW,h2,h3,h4,_⟩:=F;refine ⟨W,hW,h2,λi hi c=>?_⟩;rw[ar] at hi;have hx:=getD_in (e:=[]) hi;rw[xi hi];unfold cu;generalize rows.getD i []=xs at hx ⊢;by_cases hc:c < xs.length
 ·have t:=h3 xs hx _ (getD_in (e:=0) hc);obtain ⟨s,e,b⟩:=tK t h0 (kx (xs:=xs)) (lU (aD.mpr ⟨_,getD_in (e:=0) hc,rfl⟩)) (rT h0 (h3 xs hx));rw[dP,e];exact Fr.int b
 ·rw[aa,aM (by lia)];show Fr 1 W (_*0)
  rw[fN];exact Fr.zero
end
def bY (rows:LR9) (n:Nat) (R:LR9) (ps:List Nat):Prop:=R.length=ps.length/\(∀xs∈R,xs.length=n)/\DS rows.length n (cu rows) ps.length (λj=>ps.getD j 0) (cu R)
structure RD (rows:LR9) (n w:Nat) (R:LR9) (ps:List Nat) (d:Int) (ls:List (List Int)):Prop where
 rr:bY rows n R ps
 d0:d≠0
 len:ls.length=ps.length
 wide:∀zs∈ls,zs.length=n
 val:∀i c,d7 ls i c=(d:Rat)*cu R i c
 dsz:d.natAbs<=2^(min rows.length n*(w+4))
 zsz:∀zs∈ls,∀z∈zs,z.natAbs<=2^(min rows.length n*(w+4))
 tp:∀xs∈R,∀x∈xs,Tp d.natAbs (2^(min rows.length n*(w+4))) x
 km:ps.length<=rows.length
theorem DS.congrR {m n k:Nat} {a R R2:Nat->Nat->Rat} {p:Nat->Nat} (h:DS m n a k p R) (hr:∀i,i < k->∀c,R2 i c=R i c):DS m n a k p R2 :=
 ⟨h.inc,h.low,λi hi j hj=>by rw[hr i hi];exact h.unit i hi j hj,λi hi c hc=>by rw[hr i hi];exact h.lead i hi c hc,λi hi=>(h.span i hi).rows hr,λi hi=>(h.back i hi).congr λc=>(hr i hi c).symm⟩
theorem DS.other {m m' n k:Nat} {a a' R:Nat->Nat->Rat} {p:Nat->Nat} (h:DS m n a k p R) (s1:∀i,i < m->eK m' a' (a i)) (s2:∀i,i < m'->eK m a (a' i)):DS m' n a' k p R :=
 ⟨h.inc,h.low,h.unit,h.lead,λi hi=>eK.trans h.span (s2 i hi),λi hi=>eK.trans s1 (h.back i hi)⟩
theorem tZ {W w r : Nat} (h : W ≤ 2 ^ w) : (16 * W) ^ r ≤ 2 ^ (r * (w + 4)) := by
  calc (16 * W) ^ r ≤ (2 ^ (w + 4)) ^ r := iJ (by rw [aS]; lia) _
    _ = 2 ^ (r * (w + 4)) := by rw [<- vU, bQ]
theorem Cm.done {rows:LR9} {n w:Nat} {ls:List (List Int)} {ps:List Nat} {d:Int} (h:Cm (rows.map gE) n n ls ps d) (hw:∀xs∈rows,xs.length=n) (F:E8 rows n w) :
  ∃R,RD rows n w R ps d (ls.take ps.length):=by
 obtain ⟨W,hW,W2,ent⟩:=F.ent;obtain ⟨_,_,_,_,_,_,_,_,r15,_⟩:=F;have hl:=h.len;have d0:=h.d0;have d0':(d:Rat)≠0:=λz=>d0 (kJ z)
 have km:=h.el.km;have hm:(rows.map gE).length=rows.length:=ar ..;obtain ⟨s1,s2⟩:=h.sz (r:=min rows.length n) hW ent (aj _) (by rw[hm];exact aj _) r15;have s2':∀zs∈ls,∀z∈zs,z.natAbs<=2^(min rows.length n*(w+4)):=λzs hz z hz'=>ai (s2 zs hz z hz') (tZ W2)
 have er:∀i c,cu ((ls.take ps.length).map λzs=>zs.map λ(z:Int)=>(z:Rat) / (d:Rat)) i c=d7 (ls.take ps.length) i c / (d:Rat):=λi c=>by
  unfold cu d7;rw[aa (l:=List.map _ _),aL,aa (l:=List.take _ _)];cases e:(ls.take ps.length)[i]? with
  | none=>show (0:Rat)=((0:Int):Rat) / _;grind
  | some zs =>
   show (zs.map λ(z:Int)=>(z:Rat) / (d:Rat)).getD c 0=((zs.getD c 0:Int):Rat) / (d:Rat)
   rw[aa,aa,aL];cases e2:zs[c]? with
   | none=>show (0:Rat)=((0:Int):Rat) / _;grind
   | some z=>rfl
 have et:∀i,i < ps.length->∀c,d7 (ls.take ps.length) i c=d7 ls i c:=λi hi c=>by
  unfold d7;rw[aa (l:=List.take _ _),kL hi,<- aa]
 have RR:=(h.el.done λi hi c hc=>wY (n:=n) (λzs hz=>by
  obtain ⟨xs,hx,rfl⟩:=aD.mp hz;rw[pY];exact hw xs hx) hc).congrR (R2:=cu ((ls.take ps.length).map λzs=>zs.map λ(z:Int)=>(z:Rat) / (d:Rat))) λi hi c=>by rw[er,et i hi]
 rw[hm] at RR;refine ⟨(ls.take ps.length).map λzs=>zs.map λ(z:Int)=>(z:Rat) / (d:Rat),⟨by rw[ar,cH];lia,λxs hx=>?_,RR.other Cr Cs⟩,d0,by rw[cH];lia,λzs hz=>h.wide zs (b7 hz),λi c=>?_,ai s1 (tZ W2),λzs hz=>s2' zs (b7 hz),λxs hx x hx'=>?_,by lia⟩
 ·obtain ⟨zs,hz,rfl⟩:=aD.mp hx;rw[ar];exact h.wide zs (b7 hz)
 ·rw[er];grind
 ·obtain ⟨zs,hz,rfl⟩:=aD.mp hx;obtain ⟨z,hz',rfl⟩:=aD.mp hx';have b:=s2' zs (b7 hz) z hz';rcases vY d with e | e
  ·refine ⟨z,?_,b⟩;have:((d.natAbs:Nat):Rat)=(d:Rat):=by rw[<- aH,<- e]
   rw[this];grind
  ·refine ⟨-z,?_,by rw[mJ];exact b⟩;have:((d.natAbs:Nat):Rat)=-(d:Rat):=by rw[<- aH,<- cR];congr 1;lia
   rw[this,cR];grind
theorem KO {R R':LR9} {n:Nat} (hl:R.length=R'.length) (w1:∀xs∈R,xs.length=n) (w2:∀xs∈R',xs.length=n) (h:∀i,i < R.length->∀c,cu R i c=cu R' i c):R=R':=by
 apply eX hl;intro i h1 h2;apply eX (by rw[w1 _ (aP h1),w2 _ (aP h2)]);intro c h3 h4;have:=h i h1 c;unfold cu at this;rw[aa (l:=R),aa (l:=R'),af h1,af h2] at this;have this:(R[i]).getD c 0=(R'[i]).getD c 0:=this;rw[aa,aa,af h3,af h4] at this;exact this
theorem bY.uniq {rows rows' R R':LR9} {n:Nat} {ps ps':List Nat} (h:bY rows n R ps) (h':bY rows' n R' ps') (s1:∀i,i < rows.length->eK rows'.length (cu rows') (cu rows i)) (s2:∀i,i < rows'.length->eK rows.length (cu rows) (cu rows' i)):R=R'/\ps=ps':=by
 obtain ⟨l1,w1,r1⟩:=h;obtain ⟨l2,w2,r2⟩:=h';obtain ⟨ek,ep,eR⟩:=r1.uniq r2 s1 s2;refine ⟨KO (by lia) w1 w2 λi hi c=>eR i (by lia) c,?_⟩;apply eX ek;intro j h1 h2;have:=ep j h1;rw[aa,aa,af h1,af h2] at this;exact this
theorem bY.same {rows R R':LR9} {n:Nat} {ps ps':List Nat} (h:bY rows n R ps) (h':bY rows n R' ps'):R=R'/\ps=ps':=h.uniq h' (λ_ hi=>eK.row hi) (λ_ hi=>eK.row hi)
open PySem PySem.Spec PyProof.Rows
def HR (l:Addr) (H:Hp) (zs:List Int) (v:V):Prop:=∃q,v=V.ref q/\q≠l/\H q=some (.lst (zs.map V.int))
def rG (l:Addr) (H:Hp) (p:Addr) (ls:List (List Int)):Prop:=p≠l/\∃xs,H p=some (.lst xs)/\Paired (HR l H) ls xs
theorem HR.same {l:Addr} {H H':Hp} {zs:List Int} {v:V} (h:HR l H zs v) (e:aG H H'):HR l H' zs v:=by obtain ⟨q,a,n,b⟩:=h;exact ⟨q,a,n,e _ _ b⟩
theorem HR.upd {l:Addr} {H:Hp} {zs:List Int} {v:V} {o:HO} (h:HR l H zs v):HR l (upd H l o) zs v:=by obtain ⟨q,a,n,b⟩:=h;exact ⟨q,a,n,by rw[bG n];exact b⟩
theorem rG.upd {l:Addr} {H:Hp} {p:Addr} {ls:List (List Int)} {o:HO} (h:rG l H p ls):rG l (upd H l o) p ls:=by obtain ⟨n,xs,a,b⟩:=h;exact ⟨n,xs,by rw[bG n];exact a,Paired.imp' (λ_ _ z=>z.upd) b⟩
theorem ne_old {H:Hp} {l r:Addr} (h:H l≠none) (n:H r=none):r≠l:=λz=>h (by rw[<- z];exact n)
theorem jR {α β:Type} {F:α->β->Prop}:∀{l1:List α} {l2:List β} (_:Paired F l1 l2) (i:Nat) {x:α} {y:β},F x y->Paired F (l1.set i x) (l2.set i y)
 | _,_,.nil,_,_,_,_=>.nil
 | _,_,.cons _ r,0,_,_,h=>.cons h r
 | _,_,.cons a r,i+1,_,_,h=>.cons a (jR r i h)
theorem Js {ls:List (List Int)} {i c:Nat} {zs:List Int} (h:ls[i]?=some zs):d7 ls i c=((zs.getD c 0:Int):Rat):=by
 unfold d7;rw[aa (l:=ls),h];rfl
theorem Q7 {z:Int}:((z:Int):Rat)≠0↔z≠0:=⟨λh e=>h (by rw[e];rfl),λh e=>h (kJ e)⟩
theorem yU {zs:List Int} {c:Nat} (h:c < zs.length):F0 (zs.map V.int) (c:Int)=some (V.int (zs.getD c 0)):=fL (by rw[aL,aa,af h];rfl)
inductive Bp (vs:List V) (H:Hp) (Q:VK) (E9:XK):Prop
 | mk (l p:Addr) (ls:List (List Int)) (b c:Nat):vs=[.ref p,.int b,.int c]->rG l H p ls->ls.length<=1000->b<=1000->(∀zs∈ls,c < zs.length)->(∀t:Nat,b<=t->t < ls.length->d7 ls t c≠0->Q (.int t) H)->((∀t,b<=t->t < ls.length->d7 ls t c=0)->Q .non H)->Bp  vs H Q E9
inductive xl (vs:List V) (H:Hp) (Q:VK) (E9:XK):Prop
 | mk (l p:Addr) (ls:List (List Int)) (t k:Nat):vs=[.ref p,.int t,.int k]->H l≠none->rG l H p ls->ls.length<=1000->t < ls.length->k < ls.length->(∀r H',H r=none->aG H H'->rG l H' r (oj ls k t)->Q (.ref r) H')->xl  vs H Q E9
inductive Br (vs:List V) (H:Hp) (Q:VK) (E9:XK):Prop
 | mk (l p:Addr) (ls:List (List Int)) (k c n:Nat) (b:Int):vs=[.ref p,.int k,.int c,.int b]->H l≠none->rG l H p ls->ls.length<=1000->k < ls.length->(∀zs∈ls,zs.length=n)->n<=1000->c < n->b≠0->Sz 8999 b->(∀zs∈ls,∀z∈zs,Sz 8999 z)->(∀r H',H r=none->aG H H'->rG l H' r (EX ls k c b)->Q (.ref r) H')->Br  vs H Q E9
theorem J6 (K:FG9) {X:Cx} {a b:Expr} {ta:TA} {p pos tpos:Pos} {elts:List Expr} {kk:Nat} (hg:Gl X "zip") (hm:X.mg "zip"=none) (ha:PA X [a,b] ta) (hK:X.K=K:=by rfl) (hs:starEach [a,b] X.env=[(false,eval a X.env),(false,eval b X.env)]:=by rfl) (hs2:starEach [b] X.env=[(false,eval b X.env)]:=by rfl) :
  PI X (.Tuple elts kk tpos) (.Call (.Name "zip" p) [a,b] [] pos) (OU K ta):=by subst hK;exact rJ hg hm ha hs hs2
def fU (ps:List Nat):List V:=ps.map λ(j:Nat)=>V.int (j:Int)
inductive Bc (K:FG9) (vs:List V) (H:Hp) (Q:VK) (E9:XK):Prop
 | mk (p:Addr) (n w:Nat) (H0:Hp) (rows:LR9):vs=[.ref p,.int n]->bJ K H0 H p rows->rows.length<=100->n<=100->(∀xs∈rows,xs.length=n)->E8 rows n w->(∀t lp qp R ps d ls H',H' t=some (.tup [.ref lp,.ref qp])->H' qp=some (.lst (fU ps))->rG qp H' lp ls->aG H H'->RD rows n w R ps d ls->Q (.ref t) H')->Bc K vs H Q E9
inductive xk (K:FG9) (vs:List V) (H:Hp) (Q:VK) (E9:XK):Prop
 | mk (p:Addr) (n w:Nat) (H0:Hp) (rows:LR9):vs=[.ref p,.int n]->bJ K H0 H p rows->rows.length<=100->n<=100->(∀xs∈rows,xs.length=n)->E8 rows n w->(∀r R ps M H',H r=none->aG H H'->bJ K H H' r R->bY rows n R ps->ps.length<=rows.length->0 < M->M<=2^(min rows.length n*(w+4))->(∀xs∈R,∀x∈xs,Tp M (2^(min rows.length n*(w+4))) x)->Q (.ref r) H')->xk K vs H Q E9
def l8 (rows:LR9) (i:Nat):Rat:=((gZ ((rows.getD i []).map nm):Int):Rat)
theorem yN {rows:LR9} {i:Nat}:l8 rows i≠0:=λz=>by
 have:=kx (xs:=rows.getD i []);have:=kJ z
 lia
structure xg (rows:LR9) (n P:Nat) (rs:LR9) (ps:List Nat):Prop where
 len:rs.length=rows.length
 wide:∀xs∈rs,xs.length=n
 ex:∃pm l d,vW (d7 (rows.map gE)) rows.length ps.length pm (λj=>ps.getD j 0) l d/\jW (d7 (rows.map gE)) rows.length ps.length P (λj=>ps.getD j 0) l d/\∀i,i < rows.length->∀c,cu rs i c=l i c / (d*if i < ps.length then 1 else l8 rows (pm i))
section
variable {rows rs rs':LR9} {n P w a:Nat} {ps:List Nat}
theorem GQ {d:Rat} {k i j:Nat} (h:d≠0):d*(if i < k then 1 else l8 rows j)≠0:=by
 have:=yN (rows:=rows) (i:=j)
 split <;> grind
theorem xg.start (hw:∀xs∈rows,xs.length=n):xg rows n 0 rows []:=⟨rfl,hw,λi=>i,d7 (rows.map gE),1,vW.start λ_ _=>rfl,jW.start,λi hi c=>by
 rw[xi hi,if_neg (by show ¬i < 0;lia)];have:=yN (rows:=rows) (i:=i);show cu rows i c=l8 rows i*cu rows i c / (1*l8 rows i)
 grind⟩
theorem xg.skip (h:xg rows n P rs ps) (hz:∀i,ps.length<=i->i < rs.length->cu rs i P=0):xg rows n (P+1) rs ps:=by
 obtain ⟨len,wide,pm,l,d,B,E,v⟩:=h;refine ⟨len,wide,pm,l,d,B,E.skip λi h1 h2=>?_,v⟩;have:=v i h2 P;rw[hz i h1 (by lia)] at this;have ne:=GQ (rows:=rows) (i:=i) (j:=pm i) (k:=ps.length) B.d0;generalize d*(if i < ps.length then 1 else l8 rows (pm i))=D at this ne;grind
theorem xg.km (h:xg rows n P rs ps):ps.length<=rows.length/\ps.length<=P:=by obtain ⟨_,_,_,_,_,_,E,_⟩:=h;exact ⟨E.km,E.kP⟩
theorem xg.step (h:xg rows n P rs ps) {t:Nat} (ht:ps.length<=t) (ht2:t < rs.length) (hne:cu rs t P≠0) (l':rs'.length=rows.length) (w':∀xs∈rs',xs.length=n)
  (hv:∀i,i < rows.length->∀c,cu rs' i c=if i=ps.length then 1 / cu rs t P*cu rs t c else cu rs (jK ps.length t i) c - cu rs (jK ps.length t i) P*(1 / cu rs t P*cu rs t c)):xg rows n (P+1) rs' (ps++[P]):=by
 obtain ⟨len,wide,pm,l,d,B,E,v⟩:=h;have hk:ps.length < rows.length:=by lia
 have B1:=B.swap ht (by lia);have E1:=E.swap ht (by lia);have d0:=B.d0
 have v1:∀i,i < rows.length->∀c,cu rs (jK ps.length t i) c=l (jK ps.length t i) c / (d*if i < ps.length then 1 else l8 rows (pm (jK ps.length t i))):=λi hi c=>by
  rw[v _ (rZ hk (by lia) hi) c];by_cases z:i < ps.length
  ·rw[tP ht z,if_pos z]
  ·rw[if_neg z,if_neg (by have:=uA ht (show ps.length<=i by lia);lia)]
 have sk:jK ps.length t ps.length=t:=by unfold jK;rw[if_pos rfl]
 have vt:∀c,cu rs t c=l (jK ps.length t ps.length) c / (d*l8 rows (pm (jK ps.length t ps.length))):=λc=>by
  have:=v1 ps.length hk c;rw[if_neg (by lia),sk] at this;rw[sk];exact this
 have bt:=yN (rows:=rows) (i:=pm (jK ps.length t ps.length));have h1:l (jK ps.length t ps.length) P≠0:=λz=>hne (by rw[vt P,z];grind)
 have B2:=B1.step (c0:=P) hk h1;have lp:(ps++[P]).length=ps.length+1:=by rw[ak];rfl
 have hp:∀j,j < ps.length+1->(ps++[P]).getD j 0=if j=ps.length then P else ps.getD j 0:=λj hj=>getD_snoc hj
 refine ⟨l',w',λi=>pm (jK ps.length t i),_,_,by rw[lp];exact B2.congr (l2:=λi c=>if i=ps.length then l (jK ps.length t ps.length) c else (l (jK ps.length t ps.length) P*l (jK ps.length t i) c - l (jK ps.length t i) P*l (jK ps.length t ps.length) c) / d) hp (λ_ _ _=>rfl),?_,λi hi c=>?_⟩
 ·rw[lp];refine jW.congr (E1.step (d':=l (jK ps.length t ps.length) P) (l':=λi c=>if i=ps.length then l (jK ps.length t ps.length) c else (l (jK ps.length t ps.length) P*l (jK ps.length t i) c - l (jK ps.length t i) P*l (jK ps.length t ps.length) c) / d) hk h1 B2.unit λi hi=>?_) hp (λ_ _ _=>rfl);by_cases e:i=ps.length
  ·refine ⟨1,0,by decide,λ_=>rfl,λc=>?_⟩;rw[if_pos e,e];grind
  ·refine ⟨l (jK ps.length t ps.length) P / d,-(l (jK ps.length t i) P) / d,?_,λz=>absurd z e,λc=>?_⟩
   ·intro z;apply h1;grind
   ·rw[if_neg e];grind
 ·rw[hv i hi c,lp,vt c,vt P];by_cases e:i=ps.length
  ·rw[if_pos e,if_pos e,if_pos (by lia)];grind
  ·rw[if_neg e,if_neg e,v1 i hi c,v1 i hi P];have ne:=GQ (rows:=rows) (i:=i) (j:=pm (jK ps.length t i)) (k:=ps.length) d0;by_cases z:i < ps.length
   ·rw[if_pos z,if_pos (by lia)];grind
   ·have bi:=yN (rows:=rows) (i:=pm (jK ps.length t i));rw[if_neg z,if_neg (by lia)];grind
theorem xg.done (h:xg rows n n rs ps) (hw:∀xs∈rows,xs.length=n):bY rows n (rs.take ps.length) ps:=by
 obtain ⟨len,wide,pm,l,d,B,E,v⟩:=h;have km:=E.km;refine ⟨by rw[cH];lia,λxs hx=>wide xs (b7 hx),DS.other ((E.done λi hi c hc=>?_).congrR λi hi c=>?_) Cr Cs⟩
 ·exact wY (n:=n) (λzs hz=>by
   obtain ⟨xs,hx,rfl⟩:=aD.mp hz;rw[pY];exact hw xs hx) hc
 ·have e:cu (rs.take ps.length) i c=cu rs i c:=by
   unfold cu;rw[aa (l:=List.take _ _),kL hi,<- aa]
  rw[e,v i (by lia) c,if_pos hi,Co]
def NJ (rows:LR9) (n w a:Nat):Prop:=∃M W:Nat,0 < M/\M<=2^a/\1<=W/\W<=2^w/\(∀xs∈rows,∀x∈xs,Tp M W x)/\min rows.length n<=15/\2*(min rows.length n*(w+4)+a)<=3990
theorem NJ.ent (F:NJ rows n w a):∃W:Nat,1<=W/\W<=2^w/\∀i,i < rows.length->∀c,Fr 1 W (d7 (rows.map gE) i c):=by
 obtain ⟨M,W,h0,h1,hW,h2,h3,_⟩:=F;refine ⟨W,hW,h2,λi hi c=>?_⟩;have hx:=getD_in (e:=[]) hi;rw[xi hi];unfold cu;generalize rows.getD i []=xs at hx ⊢;by_cases hc:c < xs.length
 ·have t:=h3 xs hx _ (getD_in (e:=0) hc);obtain ⟨s,e,b⟩:=tK t h0 (kx (xs:=xs)) (lU (aD.mpr ⟨_,getD_in (e:=0) hc,rfl⟩)) (rT h0 (h3 xs hx));rw[dP,e];exact Fr.int b
 ·rw[aa,aM (by lia)];show Fr 1 W (_*0)
  rw[fN];exact Fr.zero
theorem NJ.bot (F:NJ rows n w a) {i:Nat} (hi:i < rows.length):∃b:Nat,0 < b/\b<=2^a/\l8 rows i=(b:Rat):=by
 obtain ⟨M,W,h0,h1,hW,h2,h3,_⟩:=F;have hx:=getD_in (e:=[]) hi;have p:=kx (xs:=rows.getD i []);have dv:=rT h0 (h3 _ hx);refine ⟨(gZ ((rows.getD i []).map nm)).natAbs,by lia,ai (fo h0 ?_) h1,?_⟩
 ·have:=dM.mpr dv;rwa [bw] at this
 ·unfold l8;rw[<- aH];congr 1
  lia
theorem Ju {l D:Rat} {z y:Int} {W:Nat} (hl:l=(z:Rat)) (hD:D=(y:Rat)) (h0:D≠0) (hz:z.natAbs<=W):Tp y.natAbs W (l / D):=by
 rcases vY y with e | e
 ·refine ⟨z,?_,hz⟩;have:((y.natAbs:Nat):Rat)=D:=by rw[<- aH,<- e,hD]
  rw[this,hl];grind
 ·refine ⟨-z,?_,by rw[mJ];exact hz⟩;have:((y.natAbs:Nat):Rat)=-D:=by rw[<- aH,hD,<- cR];congr 1;lia
  rw[this,hl,cR];grind
theorem xg.sz (h:xg rows n P rs ps) (F:NJ rows n w a) (hP:P<=n) {i:Nat} (hi:i < rows.length):∃D:Nat,0 < D/\D<=2^(min rows.length n*(w+4)+a)/\∀c,Tp D (2^(min rows.length n*(w+4))) (cu rs i c):=by
 obtain ⟨len,wide,pm,l,d,B,E,v⟩:=h;obtain ⟨W,hW,W2,ent⟩:=F.ent;obtain ⟨_,_,_,_,_,_,_,r15,_⟩:=id F;have kP:=E.kP;have km:=B.km;have mono:∀{s t:Nat},s<=t->(16*W)^s<=(16*W)^t:=λhs=>au (bE (by decide) hW) hs
 obtain ⟨y,ey⟩:=kf (B.dfr (W:=W) (N:=16) (by lia) ent);have hy:=B.dfr (W:=W) (N:=16) (by lia) ent;rw[ey] at hy;have yb:y.natAbs<=2^(min rows.length n*(w+4)):=ai (kH hy) (ai (mono (show ps.length<=min rows.length n by lia)) (tZ W2));have y0:y≠0:=λz=>B.d0 (by rw[ey,z];rfl)
 have lb:∀c,∃z:Int,l i c=(z:Rat)/\z.natAbs<=2^(min rows.length n*(w+4)):=λc=>by
  by_cases hk:i < ps.length
  ·have f:Fr 1 ((16*W)^ps.length) (l i c):=by
    rw[B.old hk]
    have:=xv (W:=W) (N:=16) (rs:=j5 pm ps.length) (vs:=Fd (λj r=>d7 (rows.map gE) r (ps.getD j 0)) i ps.length++(λr=>d7 (rows.map gE) r c) :: iO (λj r=>d7 (rows.map gE) r (ps.getD j 0)) i) (by
     have:=congrArg List.length (cw_split (v:=λj r=>d7 (rows.map gE) r (ps.getD j 0)) hk);rw[ak,ba,cw_len] at this;rw[ak,ba]
     lia) (by
     intro v hv r hr
     have hr':∀c,Fr 1 W (d7 (rows.map gE) r c):=λc=>by
      obtain ⟨t,ht,rfl⟩:=jQ hr;exact ent _ (B.rng t (by lia)) c
     rcases aw.mp hv with hv | hv
     ·obtain ⟨t,_,rfl⟩:=Ap hv;exact hr' _
     ·rcases aB.mp hv with rfl | hv
      ·exact hr' _
      ·obtain ⟨t,_,rfl⟩:=cw_in hv;exact hr' _)
    rwa [qQ] at this
   obtain ⟨z,ez⟩:=kf f;rw[ez] at f;exact ⟨z,ez,ai (kH f) (ai (mono (by lia)) (tZ W2))⟩
  ·by_cases hn:ps.length < n
   ·have f:=B.fr (W:=W) (N:=16) (by lia) hW ent (i:=i) (c:=c) hi;obtain ⟨z,ez⟩:=kf f;rw[ez] at f;exact ⟨z,ez,ai (kH f) (ai (mono (by lia)) (tZ W2))⟩
   ·refine ⟨0,?_,bf _⟩;by_cases hc:c < n
    ·rw[E.zero i (by lia) hi c (by lia)];rfl
    ·have:=v i hi c;rw[Af wide (by lia)] at this;have ne:=GQ (rows:=rows) (i:=i) (j:=pm i) (k:=ps.length) B.d0;generalize d*(if i < ps.length then 1 else l8 rows (pm i))=D at this ne;show l i c=0
     grind
 obtain ⟨b,b0,b1,eb⟩:∃b:Nat,0 < b/\b<=2^a/\(if i < ps.length then 1 else l8 rows (pm i))=(b:Rat):=by
  by_cases hk:i < ps.length
  ·exact ⟨1,by decide,cV,by rw[if_pos hk];rfl⟩
  ·obtain ⟨b,x1,x2,x3⟩:=F.bot (B.rng i hi);exact ⟨b,x1,x2,by rw[if_neg hk,x3]⟩
 have eD:d*(b:Rat)=((y*b:Int):Rat):=by rw[aQ,ey,aH]
 refine ⟨(y*b).natAbs,?_,?_,λc=>?_⟩
 ·rw[cy,bw];exact bE (by lia) b0
 ·rw[cy,bw,aS];exact aA yb b1
 ·obtain ⟨z,ez,bz⟩:=lb c;rw[v i hi c,eb];refine Ju ez eD (λq=>?_) bz;rw[eD] at q;have:=kJ q;rcases Int.mul_eq_zero.mp this with q | q
  ·exact y0 q
  ·lia
end
theorem Cy {M W:Nat} {x:Rat} (h:Tp M W x) (h0:0 < M) (h1:M<=2^3995) (h2:W<=2^3995):kK x:=by
 refine ⟨?_,?_⟩
 ·obtain ⟨s,e,b⟩:=tK h h0 (ip x) (HX _) (tL h);have e2:(((nm x).1:Int):Rat)=(s:Rat):=by rw[<- e];exact kQ x
  rw[dn.mp e2];exact br (ai b h2) (dS (by decide) (by decide))
 ·have:=fo h0 (lY.mp (tL h));show ((x.den:Nat):Int).natAbs < _
  rw[bw];exact br (ai this h1) (dS (by decide) (by decide))
theorem Tp.mul {M W M' W':Nat} {x y:Rat} (h:Tp M W x) (h':Tp M' W' y):Tp (M*M') (W*W') (x*y):=by
 obtain ⟨z,e,b⟩:=h;obtain ⟨z',e',b'⟩:=h';refine ⟨z*z',?_,by rw[cy];exact aA b b'⟩;rw[aQ,<- e,<- e',eN];grind
theorem LF {x:Rat} (h:kK x) (h0:x≠0):kK (1 / x):=by
 have n0:x.num≠0:=λz=>h0 (Rat.num_eq_zero.mp z)
 have e:=kQ x;have e1:(1 / x)*(x.num:Rat)=(x.den:Rat):=by rw[e];grind
 have t:Tp x.num.natAbs x.den (1 / x):=by
  rcases vY x.num with q | q
  ·refine ⟨x.den,?_,by simp⟩;have:((x.num.natAbs:Nat):Rat)=(x.num:Rat):=by rw[<- aH,<- q]
   rw[this,e1,aH]
  ·refine ⟨-(x.den:Int),?_,by simp⟩;have:((x.num.natAbs:Nat):Rat)=-(x.num:Rat):=by rw[<- aH,<- cR];congr 1;lia
   rw[this,cR,aH,<- e1];grind
 obtain ⟨h1,h2⟩:=h;have h1:x.num.natAbs < 2^4000:=h1;have h2:((x.den:Nat):Int).natAbs < 2^4000:=h2;rw[bw] at h2;refine ⟨?_,?_⟩
 ·obtain ⟨s,e,b⟩:=tK t (by lia) (ip (1 / x)) (HX _) (tL t);have e2:(((nm (1 / x)).1:Int):Rat)=(s:Rat):=by rw[<- e];exact kQ (1 / x)
  rw[dn.mp e2];exact br b h2
 ·have:=fo (show 0 < x.num.natAbs by lia) (lY.mp (tL t));show (((1 / x).den:Nat):Int).natAbs < _
  rw[bw];exact br this h1
inductive y9 (K:FG9) (vs:List V) (H:Hp) (Q:VK) (E9:XK):Prop
 | mk (u v:V) (x y:Rat):vs=[u,v]->ck K H x u->ck K H y v->kK x->kK y->y≠0->(∀r H',aG H H'->ck K H' (x / y) (.ref r)->Q (.ref r) H')->y9 K vs H Q E9
theorem Ex {K:FG9} {vs:List V} {H:Hp} {Q:VK} {E:XK} (h:y9 K vs H Q E):LK K vs H Q E:=by
 obtain ⟨u,v,x,y,rfl,⟨p,rfl,hp⟩,⟨q,rfl,hq⟩,⟨s1,s2⟩,⟨s3,s4⟩,y0,k⟩:=h;have n0:(nm y).1≠0:=λz=>y0 (Rat.num_eq_zero.mp z)
 have px:=ip x;have py:=ip y;have e1:=oP x;have e2:=oP y;have dx:(((nm x).2:Int):Rat)≠0:=λz=>by have:=kJ z;lia
 have dy:(((nm y).2:Int):Rat)≠0:=λz=>by have:=kJ z;lia
 refine ⟨p,q,_,_,_,_,rfl,hp,hq,px,py,n0,s1,s2,s3,s4,λr H' s g=>k r H' s (ck.mk g ?_)⟩;by_cases hc:(nm y).1 < 0
 ·rw[if_pos hc,if_pos hc];refine kU (by have:=uw px hc;lia) ?_;rw[AE,AE,aQ,aQ,e1,e2];show x / y*(((0:Int):Rat) - _)=((0:Int):Rat) - _
  grind
 ·rw[if_neg hc,if_neg hc];refine kU (iT px (by lia)) ?_;rw[aQ,aQ,e1,e2];grind
inductive v9 (K:FG9) (vs:List V) (H:Hp) (Q:VK) (E9:XK):Prop
 | mk (p q:Addr) (xs ys:List Rat):vs=[.ref p,.ref q]->cv K H p xs->cv K H q ys->ys.length=xs.length->xs.length<=1000->(∀x∈xs,kK x)->(∀y∈ys,kK y)->(∀r H',H r=none->aG H H'->cv K H' r (List.zipWith (λx y=>x - y) xs ys)->Q (.ref r) H')->v9 K vs H Q E9
theorem OX {xs ys:List Rat} {c:Nat} (h:xs.length=ys.length):(List.zipWith (λx y=>x - y) xs ys).getD c 0=xs.getD c 0 - ys.getD c 0:=by
 rw[aa,aa,aa,bT];by_cases hc:c < xs.length
 ·rw[af hc,af (show c < ys.length by lia)];rfl
 ·rw[aM (by lia),aM (by lia)];show (0:Rat)=0 - 0
  grind
theorem KI {xs:List Rat} {c:Nat} {q:Rat}:(xs.map λy=>q*y).getD c 0=q*xs.getD c 0:=by
 rw[aa,aa,aL];cases xs[c]? with
 | none=>show (0:Rat)=q*0;grind
 | some x=>rfl
theorem Fh {xs ys:List Rat} (h:ys.length=xs.length):List.zipWith (λx y=>x - y) xs ys=(List.range xs.length).map λi=>xs.getD i 0 - ys.getD i 0:=by
 apply ie;intro i;rw[bT,aL];by_cases hi:i < xs.length
 ·rw[dF hi,af hi,af (show i < ys.length by lia)];simp [aa,af hi,af (show i < ys.length by lia)]
 ·rw[aM (show (List.range xs.length).length<=i by simp;lia),aM (show xs.length<=i by lia)];rfl
theorem wX {K:FG9} {H0 H H':Hp} {q:Addr} {rows:LR9} {vs:List V} (pr:Paired (c4 K H0 H) rows vs) (s:aG H H') (n:H q=none) (g:H' q=some (.lst vs)):bJ K H0 H' q rows :=
 ⟨vs,g,Paired.imp' (λ_ _ z=>z.same s) pr,λz=>by
  obtain ⟨_,_,q',e,_,_,g',_⟩:=cL pr z;cases e;rw[n] at g';cases g'⟩
theorem LD:kK 1:=Cy (M:=1) (W:=1) ⟨1,by simp,by decide⟩ (by decide) cV cV
theorem bY.le {rows R:LR9} {n:Nat} {ps:List Nat} (h:bY rows n R ps):ps.length<=n:=by
 obtain ⟨_,_,rr⟩:=h;rcases cb n ps.length with z | z
 ·have inc:∀j,j < ps.length->j<=ps.getD j 0:=by
   intro j
   induction j with
   | zero=>intro _;exact bf _
   | succ j ih =>
    intro hj;have:=ih (by lia);have:=rr.inc j (j+1) (by lia) hj
    lia
  have h1:=inc (ps.length - 1) (by lia);have h2:=rr.low (ps.length - 1) (by lia)
  lia
 ·exact z
theorem Tp.zero {M W:Nat}:Tp M W 0:=⟨0,by simp,by simp⟩
theorem Tp.add {M W W':Nat} {x y:Rat} (h:Tp M W x) (h':Tp M W' y):Tp M (W+W') (x+y):=by
 obtain ⟨z,e,b⟩:=h;obtain ⟨z',e',b'⟩:=h';refine ⟨z+z',?_,ai (Int.natAbs_add_le _ _) (Nat.add_le_add b b')⟩;rw[AG,<- e,<- e'];grind
theorem Tp.sum {M W:Nat} {f:Nat->Rat}:∀{k:Nat},(∀j,j < k->Tp M W (f j))->Tp M (k*W) (bR k f)
 | 0,_=>Tp.zero
 | k+1,h=>by
  have:=(Tp.sum (k:=k) λj hj=>h j (by lia)).add (h k (by lia));exact this.mono (by rw[dA];exact aj _)
theorem jY {M W:Nat} {xs:List Rat} (h:∀x∈xs,Tp M W x) (c:Nat):Tp M W (xs.getD c 0):=by
 by_cases hc:c < xs.length
 ·exact h _ (getD_in hc)
 ·rw[aa,aM (by lia)];exact Tp.zero
theorem Pw {M W:Nat} {R:LR9} (h:∀xs∈R,∀x∈xs,Tp M W x) (i c:Nat):Tp M W (cu R i c):=by
 unfold cu;by_cases hi:i < R.length
 ·exact jY (h _ (getD_in hi)) c
 ·rw[aa (l:=R),aM (by lia)];exact Tp.zero
theorem zN {α β:Type} {F:α->β->Prop}:∀{l1:List α} {l2:List β},Paired F l1 l2->Paired F l1.reverse l2.reverse
 | _,_,.nil=>.nil
 | _,_,.cons a r=>by rw[vV,vV];exact bP (zN r) (.cons a .nil)
theorem Ky {j:Nat} {ps:List Nat}:Q2 (.int (j:Int)) (fU ps)=decide (j∈ps):=by
 unfold Q2 fU;rw[List.any_map,k6,List.any_eq_true,decide_eq_true_iff];constructor
 ·rintro ⟨x,hx,e⟩;have e:((x:Int) == (j:Int))=true:=e;have:(x:Int)=j:=by simpa using e
  have:x=j:=by lia
  rw[<- this];exact hx
 ·intro h;exact ⟨j,h,by show ((j:Int) == (j:Int))=true;simp⟩
theorem IJ {ps:List Nat}:(fU ps).all nN=true:=by
 unfold fU;rw[List.all_map];exact oi.mpr λ_ _=>rfl
theorem Ke {ps:List Nat}:(fU ps).length=ps.length:=ar ..
def Ad (ps:List Nat):List Int:=ps.map λ(j:Nat)=>(j:Int)
theorem II {ps:List Nat}:fU ps=(Ad ps).map V.int:=by unfold fU Ad;rw[mI];rfl
theorem paired_ints {K:FG9} {H:Hp}:∀{zs:List Int},Paired (λa x=>MF.R K H x a) zs (zs.map V.int)
 | []=>.nil
 | z :: zs=>.cons rfl paired_ints
theorem BF {K:FG9} {H:Hp} {p:Addr} {ps:List Nat} (h:H p=some (.lst (fU ps))):(Ku MF).R K H (.ref p) (Ad ps):=⟨p,fU ps,rfl,bN.of h,by rw[II];exact paired_ints⟩
theorem MC {ps:List Nat} {i:Nat} {v:V} (h:(fU ps)[i]?=some v):∃j,ps[i]?=some j/\v=V.int (j:Int):=by
 unfold fU at h;rw[aL] at h;cases e:ps[i]? with
 | none=>rw[e] at h;cases h
 | some x=>rw[e] at h;exact ⟨x,rfl,(b6 h).symm⟩
def MB (xs:List Rat) (i:Nat):List Nat:=(List.range i).filter λc=>decide (xs.getD c 0≠0)
theorem GK {xs:List Rat} {i:Nat}:MB xs (i+1)=if xs.getD i 0≠0 then MB xs i++[i] else MB xs i:=by
 unfold MB;rw[AH,List.filter_append];by_cases h:xs.getD i 0≠0
 ·rw[if_pos h,List.filter_cons_of_pos (by simpa using h)];rfl
 ·rw[if_neg h,List.filter_cons_of_neg (by simpa using h)];simp
section
variable {R rows:LR9} {ps:List Nat} {n a j:Nat}
theorem fw:∀{xs ys:List Rat},xs.length=ys.length->dR xs ys=bR xs.length λc=>xs.getD c 0*ys.getD c 0:=by
 intro xs ys h
 have key:∀k,k<=xs.length->dR (xs.take k) (ys.take k)=bR k λc=>xs.getD c 0*ys.getD c 0:=by
  intro k
  induction k with
  | zero=>intro _;rfl
  | succ k ih =>
   intro hk;rw[BK (by lia) (by lia),ih (by lia)];rfl
 have:=key xs.length (aj _);rwa [aI (aj _),aI (by lia)] at this
end
def Qr:Kind Str where
 R:=λ_ _ x i=>x=.str i
 d:=0
 inj:=λ_ h1 h2=>by rw[h1] at h2;cases h2;rfl
 rc:=λ{X pins σ H s x y v u a b A} I rx ry h1 h2 _=>by
  subst h1 h2;obtain ⟨t,rfl⟩:=rx;obtain ⟨t',rfl⟩:=ry;have q:=SeqAt.RcAt.str_str (A:=A) (s:=s) a t b t';rwa [gP] at q
 ne:=λ{X pins σ H s x y v u a b A} I rx ry h1 h2 _=>by
  subst h1 h2;obtain ⟨t,rfl⟩:=rx;obtain ⟨t',rfl⟩:=ry;have q:=SeqAt.RcNeAt.str_str (A:=A) (s:=s) a t b t';rwa [gP] at q
 eq:=λ{X pins σ H s x y v u a b A} I rx ry h1 h2 _=>by
  subst h1 h2;obtain ⟨t,rfl⟩:=rx;obtain ⟨t',rfl⟩:=ry;have q:=SeqAt.EqAt.str_str (A:=A) (s:=s) a t b t';rwa [gP] at q
theorem Hu {q:Rat} (h:q.den<=9):q.den∣2520:=by
 have:=q.den_pos;generalize q.den=d at h this;have:d=1\/d=2\/d=3\/d=4\/d=5\/d=6\/d=7\/d=8\/d=9:=by lia
 rcases this with rfl | rfl | rfl | rfl | rfl | rfl | rfl | rfl | rfl <;> decide
theorem KY {q:Rat} {M:Nat} (h:Dr 9 q) (hM:2520∣M):Fr M 9 q:=(Fr.own q h.1).dvd (gD (Hu h.2) hM)
def cX (rows:LR9) (due:List Rat):LR9:=List.zipWith (λrow d=>row++[d]) rows due
def uC (R:LR9) (ps:List Nat) (n j:Nat):List Rat:=(List.range n).map λc=>bR j λi=>if ps.getD i 0=c then cu R i n else 0
def fP (R:LR9) (ps:List Nat) (n:Nat):List Rat:=uC R ps n ps.length
section
variable {rows R:LR9} {due xs:List Rat} {ps:List Nat} {n j:Nat}
theorem nE (h:due.length=rows.length):(cX rows due).length=rows.length:=by unfold cX;rw[cD];lia
theorem uX (h:∀xs∈rows,xs.length=n):∀xs∈cX rows due,xs.length=n+1:=λxs hx=>by
 unfold cX at hx;obtain ⟨i,hi,rfl⟩:=bK hx;rw[ib,ak,h _ (aP _)];rfl
theorem Nt {i:Nat} {row:List Rat} {d:Rat} (h1:rows[i]?=some row) (h2:due[i]?=some d):(cX rows due)[i]?=some (row++[d]):=by
 unfold cX;rw[bT,h1,h2]
theorem xu (hd:due.length=rows.length) (hw:∀xs∈rows,xs.length=n) {i:Nat} (hi:i < rows.length):(∀c,c < n->cu (cX rows due) i c=cu rows i c)/\cu (cX rows due) i n=due.getD i 0:=by
 have e1:=af hi;have e2:=af (show i < due.length by lia);have ej:=Nt e1 e2;have wi:=hw _ (aP hi);refine ⟨λc hc=>?_,?_⟩
 ·unfold cu;rw[aa (l:=cX rows due),ej,aa (l:=rows),e1];show (rows[i]++[due[i]]).getD c 0=(rows[i]).getD c 0
  rw[aa,aa,bu (by lia)]
 ·unfold cu;rw[aa (l:=cX rows due),ej,aa (l:=due),e2];show (rows[i]++[due[i]]).getD n 0=due[i]
  rw[aa,a9 (by lia),wi,fk];rfl
theorem jM:(uC R ps n j).length=n:=by unfold uC;rw[ar,cK]
theorem JG {c:Nat} (h:c < n):(uC R ps n j).getD c 0=bR j λi=>if ps.getD i 0=c then cu R i n else 0:=by
 unfold uC;rw[aa,aL,dF h];rfl
theorem LM:uC R ps n 0=List.replicate n 0:=by
 unfold uC;show (List.range n).map (λ_=>(0:Rat))=_
 rw[Lp,cK]
theorem LN {J:LR9} (RR:bY J (n+1) R ps) (hj:j < ps.length):(uC R ps n j).set (ps.getD j 0) (cu R j n)=uC R ps n (j+1):=by
 obtain ⟨_,_,rr⟩:=RR;apply eX (by rw[dQ,jM,jM]);intro c h1 h2;rw[jM] at h2;have e1:(uC R ps n j)[c]'(by rw[jM];exact h2)=bR j λi=>if ps.getD i 0=c then cu R i n else 0:=by simp only[uC,yw,List.getElem_range]
 have e2:(uC R ps n (j+1))[c]'(by rw[jM];exact h2)=bR j (λi=>if ps.getD i 0=c then cu R i n else 0)+if ps.getD j 0=c then cu R j n else 0:=by simp only[uC,yw,List.getElem_range];rfl
 rw[List.getElem_set,e2];by_cases q:ps.getD j 0=c
 ·rw[if_pos q,if_pos q,dw λi hi=>?_,Rat.zero_add];rw[if_neg];intro z;have:=rr.inc i j hi hj
  lia
 ·rw[if_neg q,if_neg q,e1,rW]
theorem LO {c:Nat} (hp:c∉ps):(fP R ps n).getD c 0=0:=by
 by_cases hc:c < n
 ·unfold fP;rw[JG hc,dw λi hi=>?_];rw[if_neg (λz=>hp (by rw[<- z];exact getD_in hi))]
 ·rw[aa,aM (by unfold fP;rw[jM];lia)];rfl
theorem Fm (hd:due.length=rows.length) (hw:∀xs∈rows,xs.length=n) (RR:bY (cX rows due) (n+1) R ps) (hn:n∉ps) {i:Nat} {row:List Rat} (hr:rows[i]?=some row):dR row (fP R ps n)=due.getD i 0:=by
 obtain ⟨_,_,rr⟩:=RR;have hi:=(aE.mp hr).1;have wr:=hw row (ax hr);have ef:∀c,cu rows i c=row.getD c 0:=λc=>by unfold cu;rw[aa (l:=rows),hr];rfl
 obtain ⟨f1,f2⟩:=xu hd hw hi
 have low:∀j,j < ps.length->ps.getD j 0 < n:=λj hj=>by
  have:=rr.low j hj;have:ps.getD j 0≠n:=λz=>hn (by rw[<- z];exact getD_in hj)
  lia
 have co:=rr.coef (rr.span i (by rw[nE hd];exact hi)) n;rw[f2] at co;rw[co,fw (by unfold fP;rw[jM,wr]),wr]
 have e1:bR n (λc=>row.getD c 0*(fP R ps n).getD c 0)=bR n (λc=>bR ps.length λj=>if ps.getD j 0=c then row.getD (ps.getD j 0) 0*cu R j n else 0):=by
  refine bp λc hc=>?_
  unfold fP;rw[JG hc,<- dc];refine bp λj _=>?_
  split
  ·rename_i q;rw[q]
  ·grind
 rw[e1,<- jd];refine bp λj hj=>?_
 rw[iP (i:=ps.getD j 0) (low j hj) λc _ ne=>if_neg λz=>ne z.symm,if_pos rfl,f1 _ (low j hj),ef]
theorem Ej (hd:due.length=rows.length) (hw:∀xs∈rows,xs.length=n) (RR:bY (cX rows due) (n+1) R ps) (hn:n∈ps):∃w:Nat->Rat,(∀c,c < n->bR rows.length (λi=>w i*cu rows i c)=0)/\bR rows.length (λi=>w i*due.getD i 0)=1:=by
 obtain ⟨_,_,rr⟩:=RR;obtain ⟨j,hj,ej⟩:=bK hn;have ejD:ps.getD j 0=n:=by rw[aa,af hj];exact ej
 obtain ⟨w,hw'⟩:=rr.back j hj;rw[nE hd] at hw';refine ⟨w,λc hc=>?_,?_⟩
 ·have z:=rr.lead j hj c (by rw[ejD];exact hc);rw[hw' c] at z;rw[<- z];exact bp λi hi=>by rw[(xu hd hw hi).1 c hc]
 ·have u:=rr.unit j hj j hj;rw[if_pos rfl,ejD,hw' n] at u;rw[<- u];exact bp λi hi=>by rw[(xu hd hw hi).2]
theorem N7 (hd:due.length=rows.length) (hw:∀xs∈rows,xs.length=n) (RR:bY (cX rows due) (n+1) R ps) {x:Nat->Rat} (hx:∀i,i < rows.length->bR n (λc=>cu rows i c*x c)=due.getD i 0):n∉ps:=λhn=>by
 obtain ⟨w,h1,h2⟩:=Ej hd hw RR hn
 have e1:bR rows.length (λi=>w i*due.getD i 0)=bR rows.length (λi=>bR n λc=>x c*(w i*cu rows i c)):=bp λi hi=>by
  rw[<- hx i hi,<- dc];exact bp λc _=>by grind
 have e2:bR n (λc=>bR rows.length λi=>x c*(w i*cu rows i c))=0:=dw λc hc=>by
  rw[dc,h1 c hc];grind
 rw[e1,jd,e2] at h2;exact absurd h2 (by decide)
theorem PV {M W:Nat} (h0:0 < M) (tp:∀xs∈R,∀x∈xs,Tp M W x) {J:LR9} (RR:bY J (n+1) R ps):∀x∈fP R ps n,Tp M W x:=λx hx=>by
 obtain ⟨_,_,rr⟩:=RR;obtain ⟨c,hc,rfl⟩:=aD.mp hx;by_cases hp:∃j,j < ps.length/\ps.getD j 0=c
 ·obtain ⟨j,hj,e⟩:=hp;rw[iP hj λi hi ne=>if_neg λz=>?_,if_pos e]
  ·exact Pw tp j n
  ·rcases jJ i j with q | q | q
   ·have:=rr.inc i j q hj;lia
   ·exact ne q
   ·have:=rr.inc j i q hi;lia
 ·rw[dw λj hj=>if_neg λz=>hp ⟨j,hj,z⟩];exact Tp.zero
end
inductive y7 (K:FG9) (vs:List V) (H:Hp) (Q:VK) (E9:XK):Prop
 | mk (p q:Addr) (n w:Nat) (H0:Hp) (rows:LR9) (due:List Rat):vs=[.ref p,.int n,.ref q]->bJ K H0 H p rows->cv K H q due->due.length=rows.length->rows.length<=99->n<=99->(∀xs∈rows,xs.length=n)->E8 (cX rows due) (n+1) w->((∀x R ps M H',bY (cX rows due) (n+1) R ps->n∉ps->H x=none->aG H H'->cv K H' x (fP R ps n)->0 < M->M<=2^(min rows.length (n+1)*(w+4))->(∀y∈fP R ps n,Tp M (2^(min rows.length (n+1)*(w+4))) y)->Q (.ref x) H')/\(∀R ps H',bY (cX rows due) (n+1) R ps->n∈ps->aG H H'->Q .non H'))->y7 K vs H Q E9
def Jz (rows:LR9) (n:Nat) (due:List Rat):LR9:=cX (cU rows n++[due]) (List.replicate n 0++[1])
inductive Bh (K:FG9) (vs:List V) (H:Hp) (Q:VK) (E9:XK):Prop
 | mk (p q:Addr) (n w w':Nat) (H0:Hp) (rows:LR9) (due:List Rat):vs=[.ref p,.int n,.ref q]->bJ K H0 H p rows->cv K H q due->due.length=rows.length->rows.length<=90->n<=90->(∀xs∈rows,xs.length=n)->E8 (cX rows due) (n+1) w->E8 (Jz rows n due) (rows.length+1) w'->((∀t x R ps M H',bY (cX rows due) (n+1) R ps->n∉ps->H' t=some (.tup [.str (Str.ofString "yes"),.ref x])->H x=none->aG H H'->cv K H' x (fP R ps n)->0 < M->M<=2^(min rows.length (n+1)*(w+4))->(∀y∈fP R ps n,Tp M (2^(min rows.length (n+1)*(w+4))) y)->Q (.ref t) H')/\(∀t x R ps R' ps' M H',bY (cX rows due) (n+1) R ps->n∈ps->bY (Jz rows n due) (rows.length+1) R' ps'->rows.length∉ps'->H' t=some (.tup [.str (Str.ofString "no"),.ref x])->H x=none->aG H H'->cv K H' x (fP R' ps' rows.length)->0 < M->M<=2^(min (n+1) (rows.length+1)*(w'+4))->(∀y∈fP R' ps' rows.length,Tp M (2^(min (n+1) (rows.length+1)*(w'+4))) y)->Q (.ref t) H'))->Bh K vs H Q E9
theorem Iw {rows R R':LR9} {due:List Rat} {ps ps':List Nat} {n:Nat} (hd:due.length=rows.length) (hw:∀xs∈rows,xs.length=n) (RR:bY (cX rows due) (n+1) R ps) (hn:n∈ps) (RR':bY (Jz rows n due) (rows.length+1) R' ps'):rows.length∉ps':=by
 obtain ⟨w,h1,h2⟩:=Ej hd hw RR hn;have l1:(cU rows n++[due]).length=n+1:=by rw[ak,c9];rfl
 have w1:∀xs∈cU rows n++[due],xs.length=rows.length:=λxs hx=>by
  rcases aw.mp hx with hx | hx
  ·exact jL xs hx
  ·rw[bB.mp hx];exact hd
 refine N7 (x:=w) (by rw[l1,ak,aO];rfl) w1 RR' λi hi=>?_
 rw[l1] at hi;by_cases e:i < n
 ·have e1:∀c,cu (cU rows n++[due]) i c=cu rows c i:=λc=>by
   unfold cu;rw[aa (l:=cU rows n++[due]),bu (by rw[c9];exact e)];unfold cU;rw[aL,dF e];show (rows.map λxs=>xs.getD i 0).getD c 0=_
   rw[aa,aL,aa (l:=rows)];cases rows[c]? with
   | none=>rfl
   | some y=>rfl
  have e2:(List.replicate n (0:Rat)++[1]).getD i 0=0:=by
   rw[aa,bu (by rw[aO];exact e),fA,if_pos e];rfl
  rw[e2,<- h1 i e];exact bp λc _=>by rw[e1];grind
 ·have ei:i=n:=by lia
  subst ei
  have e1:∀c,cu (cU rows i++[due]) i c=due.getD c 0:=λc=>by
   unfold cu;rw[aa (l:=cU rows i++[due]),a9 (by rw[c9];exact aj _),c9,fk];rfl
  have e2:(List.replicate i (0:Rat)++[1]).getD i 0=1:=by
   rw[aa,a9 (by rw[aO];exact aj _),aO,fk];rfl
  rw[e2,<- h2];exact bp λc _=>by rw[e1];grind
theorem Kk {n:Nat}:((List.range n).map λ_=>(0:Rat))=List.replicate n 0:=by rw[Lp,cK]
def N2 (K:FG9):Sp:=λvs H Q _=>∃m:Nat,vs=[.int m]/\m<=100/\∀r H',H r=none->aG H H'->cv K H' r (List.replicate m 0)->Q (.ref r) H'
inductive xj (K:FG9) (vs:List V) (H:Hp) (Q:VK) (E9:XK):Prop
 | mk (p q:Addr) (n w w':Nat) (H0:Hp) (rows:LR9) (row:List Rat):vs=[.ref p,.int n,.ref q]->bJ K H0 H p rows->cv K H q row->row.length=n->rows.length<=90->n<=90->(∀xs∈rows,xs.length=n)->E8 (cX (cU rows n) row) (rows.length+1) w->E8 (cX (rows++[row]) (List.replicate rows.length 0++[1])) (n+1) w'->((∀t x R ps M H',bY (cX (cU rows n) row) (rows.length+1) R ps->rows.length∉ps->H' t=some (.tup [.str (Str.ofString "in"),.ref x])->H x=none->aG H H'->cv K H' x (fP R ps rows.length)->0 < M->M<=2^(min n (rows.length+1)*(w+4))->(∀y∈fP R ps rows.length,Tp M (2^(min n (rows.length+1)*(w+4))) y)->Q (.ref t) H')/\(∀t x R ps R' ps' M H',bY (cX (cU rows n) row) (rows.length+1) R ps->rows.length∈ps->bY (cX (rows++[row]) (List.replicate rows.length 0++[1])) (n+1) R' ps'->n∉ps'->H' t=some (.tup [.str (Str.ofString "out"),.ref x])->H x=none->aG H H'->cv K H' x (fP R' ps' n)->0 < M->M<=2^(min (rows.length+1) (n+1)*(w'+4))->(∀y∈fP R' ps' n,Tp M (2^(min (rows.length+1) (n+1)*(w'+4))) y)->Q (.ref t) H'))->xj K vs H Q E9
def QY (rows:LR9) (ws:List Rat) (n j:Nat):List Rat:=(List.range n).map λc=>bR j λi=>ws.getD i 0*cu rows i c
def NQ (rows:LR9) (ws:List Rat) (n:Nat):List Rat:=QY rows ws n ws.length
section
variable {rows:LR9} {ws xs row:List Rat} {n j:Nat}
theorem NP:(QY rows ws n j).length=n:=by unfold QY;rw[ar,cK]
theorem Gd {c:Nat} (hc:c < n):(NQ rows ws n).getD c 0=bR ws.length λi=>ws.getD i 0*cu rows i c:=by
 unfold NQ QY;rw[aa,aL,dF hc];rfl
theorem EO (h:xs.length=ws.length):dR xs ws=dR ws xs:=by
 rw[fw h,fw h.symm,h];exact bp λc _=>dP ..
theorem yW {c:Nat} (hc:c < n):(cU rows n)[c]?=some (rows.map λxs=>xs.getD c 0):=by
 unfold cU;rw[aL,dF hc];rfl
theorem Kl {c i:Nat}:(rows.map λxs=>xs.getD c 0).getD i 0=cu rows i c:=by
 unfold cu;rw[aa,aL,aa (l:=rows)];cases rows[i]? with
 | none=>rfl
 | some y=>rfl
theorem HY {R:LR9} {ps:List Nat} (hl:row.length=n) (RR:bY (cX (cU rows n) row) (rows.length+1) R ps) (hn:rows.length∉ps):NQ rows (fP R ps rows.length) n=row:=by
 have ls:(fP R ps rows.length).length=rows.length:=jM;apply eX (by unfold NQ;rw[NP,hl]);intro c h1 h2;have hc:c < n:=by lia
 have d:=Fm (rows:=cU rows n) (by rw[c9,hl]) (λxs hx=>jL xs hx) RR hn (yW hc);have e:=Gd (rows:=rows) (ws:=fP R ps rows.length) hc;have e1:(NQ rows (fP R ps rows.length) n).getD c 0=(NQ rows (fP R ps rows.length) n)[c]:=by rw[aa,af h1];rfl
 have e2:row.getD c 0=row[c]:=by rw[aa,af h2];rfl
 rw[<- e1,<- e2,e,<- d,fw (by rw[ar,ls]),ar,ls];exact bp λi _=>by rw[Kl];grind
theorem Iv {R:LR9} {ps:List Nat} (hw:∀xs∈rows,xs.length=n) (hl:row.length=n) (RR:bY (cX (rows++[row]) (List.replicate rows.length 0++[1])) (n+1) R ps) (hn:n∉ps):dR (fP R ps n) row=1/\∀xs∈rows,dR xs (fP R ps n)=0:=by
 have l1:(List.replicate rows.length (0:Rat)++[1]).length=(rows++[row]).length:=by rw[ak,ak,aO];rfl
 have w1:∀xs∈rows++[row],xs.length=n:=λxs hx=>by
  rcases aw.mp hx with hx | hx
  ·exact hw xs hx
  ·rw[bB.mp hx];exact hl
 have ls:(fP R ps n).length=n:=jM;refine ⟨?_,λxs hx=>?_⟩
 ·have:=Fm l1 w1 RR hn (i:=rows.length) (row:=row) (by rw[a9 (aj _),fk];rfl);rw[EO (by rw[ls,hl]),this,aa,a9 (by rw[aO];exact aj _),aO,fk];rfl
 ·obtain ⟨i,hi,rfl⟩:=bK hx;have:=Fm l1 w1 RR hn (i:=i) (row:=rows[i]) (by rw[bu hi,af hi]);rw[this,aa,bu (by rw[aO];exact hi),fA,if_pos hi];rfl
end
theorem Fr.up {M V M' V':Nat} {x:Rat} (h:Fr M V x) (hd:M∣M') (hv:V<=V'):Fr M' V' x:=(h.dvd hd).mono hv
section
variable {rows R:LR9} {due:List Rat} {ps:List Nat} {n:Nat}
theorem MM {xs ys:List Rat} {M V D B:Nat} (h:ys.length=xs.length) (hx:∀x∈xs,Fr M V x) (hy:∀y∈ys,Fr D B y):Fr (M*D) (xs.length*(V*B)) (dR xs ys):=by
 rw[fw h.symm]
 have key:∀j,j<=xs.length->Fr (M*D) (j*(V*B)) (bR j λc=>xs.getD c 0*ys.getD c 0):=by
  intro j
  induction j with
  | zero=>intro _;exact Fr.zero
  | succ j ih =>
   intro hj;exact ((ih (by lia)).add ((hx _ (getD_in (by lia))).mul (hy _ (getD_in (by lia))))).mono (Nat.le_of_eq (dA j (V*B)).symm)
 exact key _ (aj _)
end
theorem Kw {ps qs:List Nat} (h:Ad ps=Ad qs):ps=qs:=List.map_inj_right (λ_ _ e=>Int.ofNat.inj e) |>.mp h
def nG (K:FG9) (P:Addr->Prop) (H:Hp) (xs:List Rat) (v:V):Prop:=∃q,v=.ref q/\P q/\cv K H q xs
section
variable {K:FG9} {P:Addr->Prop} {H H':Hp} {xs:List Rat} {v:V} {b l:Addr}
theorem nG.same (h:nG K P H xs v) (s:aG H H'):nG K P H' xs v:=by obtain ⟨q,a,c,d⟩:=h;exact ⟨q,a,c,d.same s⟩
theorem nG.updL {ys:List V} {o:HO} (h:nG K P H xs v) (hl:H l=some (.lst ys)) (nb:∀q,P q->q≠l):nG K P (upd H l o) xs v:=by obtain ⟨q,a,c,d⟩:=h;exact ⟨q,a,c,d.updL hl (nb q c)⟩
theorem bJ.ofE {H0:Hp} {rows:LR9} {us:List V} (g:H l=some (.lst us)) (h:Paired (nG K P H) rows us) (h0:∀q,P q->H0 q=none) (hn:∀q,P q->q≠l):bJ K H0 H l rows :=
 ⟨us,g,Paired.imp' (λ_ _ ⟨q,a,c,d⟩=>⟨q,a,h0 q c,d⟩) h,λz=>by
  obtain ⟨_,_,q,e,c,_⟩:=cL h z;cases e;exact hn _ c rfl⟩
end
theorem qT {α β:Type} {F G:α->β->Prop}:∀{l1:List α} {l2:List β},(∀a b,b∈l2->F a b->G a b)->Paired F l1 l2->Paired G l1 l2
 | _,_,_,.nil=>.nil
 | _,_,h,.cons a r=>.cons (h _ _ (by simp) a) (qT (λx y hy=>h x y (by simp [hy])) r)
section
variable {rows rows' R R':LR9} {n w W:Nat} {ps ps':List Nat}
theorem A8 (hw:∀xs∈rows,xs.length=n) (hW:1<=W) (ent:∀i,i < (rows.map gE).length->∀c,Fr 1 W (d7 (rows.map gE) i c)):∀P,P<=n->∃ls ps d,Cm (rows.map gE) n P ls ps d:=by
 intro P
 induction P with
 | zero=>intro _;exact ⟨_,_,_,Cm.start λzs hz=>by obtain ⟨x,hx,rfl⟩:=aD.mp hz;rw[pY];exact hw x hx⟩
 | succ P ih =>
  intro hP;obtain ⟨ls,ps,d,I⟩:=ih (by lia);by_cases e:∃t,ps.length<=t/\t < ls.length/\d7 ls t P≠0
  ·obtain ⟨t,h1,h2,h3⟩:=e;exact ⟨_,_,_,I.step hW ent h1 h2 h3⟩
  ·exact ⟨_,_,_,I.skip λi h1 h2=>by
    by_cases z:d7 ls i P=0
    ·exact z
    ·exact absurd ⟨i,h1,h2,z⟩ e⟩
theorem Io (hw:∀xs∈rows,xs.length=n) (F:E8 rows n w):∃R ps d ls,RD rows n w R ps d ls:=by
 obtain ⟨W,hW,W2,ent⟩:=F.ent;obtain ⟨ls,ps,d,I⟩:=A8 hw hW ent n (aj _);obtain ⟨R,S⟩:=I.done hw F;exact ⟨R,ps,d,_,S⟩
theorem P6 (hw:∀xs∈rows,xs.length=n) (F:E8 rows n w) (RR:bY rows n R ps):ps.length<=rows.length/\∃M,0 < M/\M<=2^(min rows.length n*(w+4))/\∀xs∈R,∀x∈xs,Tp M (2^(min rows.length n*(w+4))) x:=by
 obtain ⟨R2,ps2,d,ls,S⟩:=Io hw F;obtain ⟨rfl,rfl⟩:=S.rr.same RR;exact ⟨S.km,d.natAbs,Int.natAbs_pos.mpr S.d0,S.dsz,S.tp⟩
theorem IT {k:Nat} {p q:Nat->Nat} (hp:∀i j,i < j->j < k->p i < p j) (hq:∀i j,i < j->j < k->q i < q j) (hs:∀i,i < k->∃j,j < k/\q j=p i):∀i,i < k->p i=q i:=by
 have hqm:∀i j,i<=j->j < k->q i<=q j:=λi j h hj=>by
  rcases cb i j with z | z
  ·exact aZ (hq i j z hj)
  ·have:i=j:=by lia
   rw[this];exact aj _
 have hqi:∀i j,i < k->j < k->q i < q j->i < j:=λi j hi hj h=>by
  rcases cb i j with z | z
  ·exact z
  ·have:=hqm j i z hi
   lia
 have key:∀i,i < k->∀j,j < k->q j=p i->i<=j:=by
  intro i
  induction i with
  | zero=>intro _ j _ _;exact bf _
  | succ i ih =>
   intro hi j hj e;obtain ⟨j',hj',e'⟩:=hs i (by lia);have h1:=ih (by lia) j' hj' e';have h2:=hp i (i+1) (by lia) hi;have:=hqi j' j hj' hj (by lia)
   lia
 have key2:∀t i,i+t+1=k->∀j,j < k->q j=p i->j<=i:=by
  intro t
  induction t with
  | zero=>intro i e j hj _;lia
  | succ t ih =>
   intro i e j hj ej;obtain ⟨j',hj',e'⟩:=hs (i+1) (by lia);have h1:=ih (i+1) (by lia) j' hj' e';have h2:=hp i (i+1) (by lia) (by lia);have:=hqi j j' hj hj' (by lia)
   lia
 intro i hi;obtain ⟨j,hj,e⟩:=hs i hi;have h1:=key i hi j hj e;have h2:=key2 (k - 1 - i) i (by lia) j hj e;have:j=i:=by lia
 rw[<- e,this]
theorem Bu (h:bY rows n R ps) (h':bY rows' n R' ps') (hl:ps.length=ps'.length) (hs:∀i,i < ps.length->eK ps'.length (cu R') (cu R i)):R=R'/\ps=ps':=by
 obtain ⟨l1,w1,r1⟩:=h;obtain ⟨l2,w2,r2⟩:=h'
 have ep:∀i,i < ps.length->ps.getD i 0=ps'.getD i 0:=IT r1.inc (by rw[hl];exact r2.inc) λi hi=>by
  have u:=r1.unit i hi i hi;rw[if_pos rfl] at u;obtain ⟨j,hj,e⟩:=r2.lead_in (hs i hi) (c:=ps.getD i 0) (by rw[u];decide) (λc hc=>r1.lead i hi c hc);exact ⟨j,by lia,e⟩
 have eps:ps=ps':=by
  apply eX hl;intro i a b;have:=ep i a;rw[aa,aa,af a,af b] at this;exact this
 refine ⟨KO (n:=n) (by lia) w1 w2 λi hi c=>?_,eps⟩;rw[l1] at hi;rw[r2.coef (hs i hi) c,<- hl,iP hi λj hj hj'=>?_]
 ·rw[<- ep i hi];have u:=r1.unit i hi i hi;rw[if_pos rfl] at u;rw[u];grind
 ·rw[<- ep j hj];have u:=r1.unit i hi j hj;rw[if_neg (Ne.symm hj')] at u;rw[u];grind
end
def pT (mv:LR9) (x:List Rat):List Rat:=mv.map λxs=>dR xs x
def kry (mv pt:LR9):Nat->LR9
 | 0=>[]
 | t+1=>pt++(kry mv pt t).map (pT mv)
section
variable {mv pt R R' S X Y:LR9} {n t m i c:Nat} {ps ps':List Nat} {a:Nat->Nat->Rat}
theorem C5 {x:List Rat}:(pT mv x).length=mv.length:=ar ..
theorem Ka (lm:mv.length=n) (wm:∀xs∈mv,xs.length=n) (wR:∀xs∈R,xs.length=n) (hi:i < R.length) (c:Nat):cu (R.map (pT mv)) i c=bR n λj=>cu mv c j*cu R i j:=by
 have wi:=wR _ (aP hi);have e1:(R.map (pT mv)).getD i []=pT mv R[i]:=by rw[aa,aL,af hi];rfl
 have e2:R.getD i []=R[i]:=by rw[aa,af hi];rfl
 by_cases hc:c < n
 ·have wc:=wm _ (aP (show c < mv.length by lia));have e3:mv.getD c []=mv[c]'(by lia):=by rw[aa,af (by lia)];rfl
  have e4:(pT mv R[i]).getD c 0=dR (mv[c]'(by lia)) R[i]:=by
   unfold pT;rw[aa,aL,af (by lia)];rfl
  unfold cu;rw[e1,e2,e3,e4,fw (by lia),wc]
 ·have e3:mv.getD c []=[]:=by rw[aa,aM (by lia)];rfl
  unfold cu
  rw[e1,e3,aa,aM (by rw[C5];lia),dw λj _=>by
   show ([]:List Rat).getD j 0*_=0
   rw[aa];show (0:Rat)*_=0
   grind]
  rfl
theorem Fl (lm:mv.length=n) (wm:∀xs∈mv,xs.length=n) (wR:∀xs∈R,xs.length=n) (wS:∀xs∈S,xs.length=n) (hi:i < R.length) (h:eK S.length (cu S) (cu R i)):eK (S.map (pT mv)).length (cu (S.map (pT mv))) (cu (R.map (pT mv)) i):=by
 obtain ⟨w,hw⟩:=h;refine ⟨w,λc=>?_⟩;rw[Ka lm wm wR hi,ar]
 have e1:bR n (λj=>cu mv c j*cu R i j)=bR n (λj=>bR S.length λs=>w s*(cu mv c j*cu S s j)):=bp λj _=>by
  rw[hw j,<- dc];exact bp λs _=>by grind
 rw[e1,jd];exact bp λs hs=>by rw[dc,Ka lm wm wS hs]
theorem yD (h:i < X.length):cu (X++Y) i=cu X i:=by
 funext c;unfold cu;rw[aa (l:=X++Y),bu h,<- aa]
theorem uu:cu (X++Y) (X.length+i)=cu Y i:=by
 funext c;unfold cu;rw[aa (l:=X++Y),a9 (by lia),show X.length+i - X.length=i by lia,<- aa]
theorem CB (h1:∀i,i < X.length->eK m a (cu X i)) (h2:∀i,i < Y.length->eK m a (cu Y i)):∀i,i < (X++Y).length->eK m a (cu (X++Y) i):=λi hi=>by
 rw[ak] at hi;by_cases h:i < X.length
 ·rw[yD h];exact h1 i h
 ·obtain ⟨j,rfl⟩:∃j,i=X.length+j:=⟨i - X.length,by lia⟩;rw[uu];exact h2 j (by lia)
theorem yY (h:i < X.length):eK (X++Y).length (cu (X++Y)) (cu X i):=by
 have:=eK.row (a:=cu (X++Y)) (m:=(X++Y).length) (i:=i) (by rw[ak];lia);rwa [yD h] at this
theorem v8 {x:Nat->Rat} (h:eK Y.length (cu Y) x):eK (X++Y).length (cu (X++Y)) x:=eK.trans (λs hs=>by
 have:=eK.row (a:=cu (X++Y)) (m:=(X++Y).length) (i:=X.length+s) (by rw[ak];lia);rwa [uu] at this) h
theorem fh (lm:mv.length=n) (wp:∀xs∈pt,xs.length=n):∀t,∀xs∈kry mv pt t,xs.length=n:=by
 intro t
 induction t with
 | zero=>intro xs hx;cases hx
 | succ t ih =>
  intro xs hx;rcases aw.mp hx with hx | hx
  ·exact wp xs hx
  ·obtain ⟨y,_,rfl⟩:=aD.mp hx;rw[C5,lm]
theorem Ac (lm:mv.length=n) (wm:∀xs∈mv,xs.length=n) (wp:∀xs∈pt,xs.length=n) (RR:bY (kry mv pt t) n R ps) (RR':bY (pt++R.map (pT mv)) n R' ps'):bY (kry mv pt (t+1)) n R' ps':=by
 have wk:=fh (mv:=mv) lm wp t;refine ⟨RR'.1,RR'.2.1,RR'.2.2.other ?_ ?_⟩
 ·refine CB (λi hi=>yY hi) λi hi=>v8 ?_
  rw[ar] at hi;exact Fl lm wm RR.2.1 wk hi (RR.2.2.back i (by rw[<- RR.1];exact hi))
 ·refine CB (λi hi=>yY hi) λi hi=>v8 ?_
  rw[ar] at hi;have:=RR.2.2.span i hi;rw[<- RR.1] at this;exact Fl lm wm wk RR.2.1 hi this
theorem Kr (lm:mv.length=n) (wm:∀xs∈mv,xs.length=n) (wp:∀xs∈pt,xs.length=n):∀t i,i < (kry mv pt t).length->eK (kry mv pt (t+1)).length (cu (kry mv pt (t+1))) (cu (kry mv pt t) i):=by
 intro t
 induction t with
 | zero=>intro i hi;cases hi
 | succ t ih =>
  refine CB (λi hi=>yY hi) λi hi=>v8 ?_
  rw[ar] at hi;exact Fl lm wm (fh lm wp t) (fh lm wp (t+1)) hi (ih i hi)
theorem Ab (lm:mv.length=n) (wm:∀xs∈mv,xs.length=n) (wp:∀xs∈pt,xs.length=n) (RR:bY (kry mv pt t) n R ps) (RR':bY (kry mv pt (t+1)) n R' ps'):∀i,i < ps.length->eK ps'.length (cu R') (cu R i):=λi hi =>
 eK.trans (λs hs=>RR'.2.2.span s hs) (eK.trans (Kr lm wm wp t) (RR.2.2.back i hi))
theorem IQ (lm:mv.length=n) (wm:∀xs∈mv,xs.length=n) (wp:∀xs∈pt,xs.length=n) (RR:bY (kry mv pt t) n R ps) (RR':bY (pt++R.map (pT mv)) n R' ps') (hl:ps'.length=ps.length):∀s,bY (kry mv pt (t+s)) n R ps:=by
 have K1:=Ac lm wm wp RR RR';obtain ⟨e1,e2⟩:=Bu RR K1 hl.symm (Ab lm wm wp RR K1);subst e1 e2;intro s
 induction s with
 | zero=>exact RR
 | succ s ih=>exact Ac lm wm wp ih RR'
theorem Ks (lm:mv.length=n) (wm:∀xs∈mv,xs.length=n) (wp:∀xs∈pt,xs.length=n) (RR:bY (kry mv pt t) n R ps) (RR':bY (kry mv pt (t+1)) n R' ps'):ps.length<=ps'.length:=by
 have h:=Ab lm wm wp RR RR'
 have hs:∀i,i < ps.length->∃j,j < ps'.length/\ps'.getD j 0=ps.getD i 0:=λi hi=>by
  have u:=RR.2.2.unit i hi i hi;rw[if_pos rfl] at u;exact RR'.2.2.lead_in (h i hi) (c:=ps.getD i 0) (by rw[u];decide) (λc hc=>RR.2.2.lead i hi c hc)
 rcases cb ps'.length ps.length with z | z
 ·exfalso
  have key:∀i,i < ps.length->∀j,j < ps'.length->ps'.getD j 0=ps.getD i 0->i<=j:=by
   intro i
   induction i with
   | zero=>intro _ j _ _;exact bf _
   | succ i ih =>
    intro hi j hj e;obtain ⟨j',hj',e'⟩:=hs i (by lia);have h1:=ih (by lia) j' hj' e';have h2:=RR.2.2.inc i (i+1) (by lia) hi;rcases cb j' j with y | y
    ·lia
    ·rcases cb j j' with x | x
     ·have:=RR'.2.2.inc j j' x hj'
      lia
     ·have:j=j':=by lia
      rw[this] at e
      lia
  obtain ⟨j,hj,e⟩:=hs (ps.length - 1) (by lia);have:=key (ps.length - 1) (by lia) j hj e
  lia
 ·exact z
theorem Kt {M V c:Nat} (lm:mv.length=n) (wm:∀xs∈mv,xs.length=n) (wp:∀xs∈pt,xs.length=n) (hc:(n+1)*V<=2^c) (fm:GF M V mv) (fp:GF M V pt):∀t,∀xs∈kry mv pt t,∀x∈xs,Fr (M^t) (2^(c*t)) x:=by
 intro t
 induction t with
 | zero=>intro xs hx;cases hx
 | succ t ih =>
  intro xs hx x hx';have hV:V<=2^c:=ai (cF _ (by lia)) hc;rcases aw.mp hx with hx | hx
  ·refine Fr.up (fp xs hx x hx') (by rw[dC];exact cS _ _) (ai hV (au (by decide) (dh _ (by lia))))
  ·obtain ⟨y,hy,rfl⟩:=aD.mp hx;unfold pT at hx';obtain ⟨r,hr,rfl⟩:=aD.mp hx';have wr:=wm r hr;have wy:=fh (mv:=mv) lm wp t y hy;have f:=MM (by lia) (fm r hr) (ih y hy);rw[dC,bQ (M^t)];refine f.mono ?_;rw[c8,Lg,aS,bQ (2^(c*t)),<- b9,wr];exact ay _ (ai (ay _ (by lia)) hc)
def rE (mv pt:LR9) (a c:Nat):Prop:=∃M V:Nat,0 < M/\M<=2^a/\(mv.length+1)*V<=2^c/\GF M V mv/\GF M V pt/\a<=400/\c<=40/\mv.length*(mv.length*(a+c)+4)<=1740/\mv.length*(mv.length*(mv.length*(a+c)+4)+a+c+4)<=8900
theorem rE.swf {a c:Nat} (F:rE mv pt a c) (D:mv.length<=8) (wm:∀xs∈mv,xs.length=mv.length) (wp:∀xs∈pt,xs.length=mv.length) (ht:t<=mv.length):E8 (kry mv pt t) mv.length (mv.length*(a+c)):=by
 obtain ⟨M,V,M0,Ma,hV,fm,fp,a3,c3,e14,e89⟩:=F;have f:=Kt rfl wm wp hV fm fp t;have h1:mv.length*(a+c)<=8*440:=aA D (by lia);have hM:M^t<=2^(a*mv.length):=ai (iJ Ma _) (by rw[<- vU];exact au (by decide) (aF _ ht));have h2:a*mv.length<=mv.length*(a+c):=by rw[bQ];exact aF _ (by lia)
 have h3:mv.length=0\/mv.length*(a+c)<=1740:=by
  rcases gJ mv.length with z | z
  ·exact .inl z
  ·right
   have:=cF (mv.length*(a+c)+4) z
   lia
 have h4:mv.length*(a+c)<=1740:=by
  rcases h3 with z | z
  ·rw[z];lia
  ·exact z
 refine ⟨M^t,2^(mv.length*(a+c)),c7 M0,ai hM (au (by decide) (by lia)),cV,aj _,λxs hx x hx'=>Tp.of (f xs hx x hx') ?_,by lia,by lia,?_⟩
 ·refine ai (aA (au (by decide) (aF c ht)) hM) ?_;rw[<- aS];refine au (by decide) ?_;rw[bQ c,bQ a,<- c8,rX c];exact aj _
 ·exact ai (ay _ (yt _ _)) (by lia)
theorem rE.tp {a c:Nat} (F:rE mv pt a c) (D:mv.length<=8) (wm:∀xs∈mv,xs.length=mv.length) (wp:∀xs∈pt,xs.length=mv.length) (ht:t<=mv.length) (RR:bY (kry mv pt t) mv.length R ps):∃M,0 < M/\M<=2^(mv.length*(mv.length*(a+c)+4))/\∀xs∈R,∀x∈xs,Tp M (2^(mv.length*(mv.length*(a+c)+4))) x:=by
 obtain ⟨_,M,h0,h1,h2⟩:=P6 (fh rfl wp t) (F.swf D wm wp ht) RR;have le:2^(min (kry mv pt t).length mv.length*(mv.length*(a+c)+4))<=2^(mv.length*(mv.length*(a+c)+4)):=au (by decide) (ay _ (yt _ _));exact ⟨M,h0,ai h1 le,λxs hx x hx'=>(h2 xs hx x hx').mono le⟩
theorem rE.step {a c:Nat} (F:rE mv pt a c) (D:mv.length<=8) (wm:∀xs∈mv,xs.length=mv.length) (wp:∀xs∈pt,xs.length=mv.length) (ht:t<=mv.length) (RR:bY (kry mv pt t) mv.length R ps):E8 (pt++R.map (pT mv)) mv.length (mv.length*(mv.length*(a+c)+4)+a+c):=by
 obtain ⟨N,N0,N1,tN⟩:=F.tp D wm wp ht RR;obtain ⟨M,V,M0,Ma,hV,fm,fp,a3,c3,e14,e89⟩:=F;generalize mv.length*(mv.length*(a+c)+4)=e at *
 have V1:V<=2^c:=ai (cF _ (by lia)) hV;have eW:(2:Nat)^(e+a+c)=2^c*(2^a*2^e):=by rw[<- aS,<- aS];congr 1;lia
 refine ⟨N*M,2^(e+a+c),bE N0 M0,?_,cV,aj _,λxs hx x hx'=>?_,by lia,by lia,?_⟩
 ·exact ai (aA N1 Ma) (by rw[<- aS];exact au (by decide) (by lia))
 ·rcases aw.mp hx with hx | hx
  ·refine Tp.of ((fp xs hx x hx').scaleL N) ?_;rw[eW,bQ N];exact aA V1 (aA Ma N1)
  ·obtain ⟨y,hy,rfl⟩:=aD.mp hx;unfold pT at hx';obtain ⟨r,hr,rfl⟩:=aD.mp hx';have wr:=wm r hr;have wy:=RR.2.1 y hy;rw[fw (by lia),wr];have t1:∀j,Tp M (V*M) (r.getD j 0):=λj=>jY (λx hx=>Tp.of (fm r hr x hx) (aj _)) j
   have t2:∀j,Tp N (2^e) (y.getD j 0):=λj=>jY (tN y hy) j
   have:=Tp.sum (k:=mv.length) (M:=N*M) (W:=V*M*2^e) (f:=λj=>r.getD j 0*y.getD j 0) λj _=>by
    have:=(t1 j).mul (t2 j);rwa [bQ M N] at this
   refine this.mono ?_;rw[eW,b9 V,<- b9 mv.length];exact aA (ai (ay _ (by lia)) hV) (ay _ Ma)
 ·exact ai (ay _ (yt _ _)) (by rw[show e+a+c+4=e+a+c+4 from rfl];exact e89)
theorem rE.fit {a c:Nat} (F:rE mv pt a c) (D:mv.length<=8) (wm:∀xs∈mv,xs.length=mv.length) (wp:∀xs∈pt,xs.length=mv.length) (ht:t<=mv.length) (RR:bY (kry mv pt t) mv.length R ps):∀xs∈mv,∀r∈R,xh xs r:=λxs hx r hr=>by
 obtain ⟨N,N0,N1,tN⟩:=F.tp D wm wp ht RR;obtain ⟨M,V,M0,Ma,hV,fm,fp,a3,c3,e14,e89⟩:=F;have V1:V<=2^c:=ai (cF _ (by lia)) hV;have p14:=au (show 0 < 2 by decide) e14;exact ⟨400,40,1740,1740,⟨M,V,M0,ai Ma (au (by decide) a3),ai V1 (au (by decide) c3),fm xs hx⟩,⟨N,2^1740,N0,ai N1 p14,aj _,λx hx=>((tN r hr x hx).mono p14).fr N0⟩,by decide⟩
end
inductive Bj (K:FG9) (C:Addr) (vs:List V) (H:Hp) (Q:VK) (E9:XK):Prop
 | mk (x p:Addr) (H0 H1:Hp) (mv pt lk R:LR9):vs=[.ref x,.ref p]->kX K H0 H C x mv pt lk->fz mv pt lk->bJ K H1 H p R->R.length<=100->(∀r∈R,r.length=mv.length)->(∀xs∈mv,∀r∈R,xh xs r)->(∀r H',H r=none->aG H H'->bJ K H H' r (R.map (pT mv))->Q (.ref r) H')->Bj K C vs H Q E9
structure rF (mv pt:LR9) (Rs:List (LR9)):Prop where
 ne:Rs≠[]
 rr:∀t R,Rs[t]?=some R->∃ps,bY (kry mv pt t) mv.length R ps
 up:∀t R R',Rs[t]?=some R->Rs[t+1]?=some R'->R.length < R'.length
def GrL (K:FG9) (H0 H:Hp) (l:Addr) (Rs:List (LR9)):Prop:=∃us,H l=some (.lst us)/\Paired (λR v=>∃q,v=V.ref q/\H0 q=none/\q≠l/\bJ K H0 H q R) Rs us
inductive Bo (K:FG9) (C:Addr) (vs:List V) (H:Hp) (Q:VK) (E9:XK):Prop
 | mk (x:Addr) (a c st:Nat) (H0:Hp) (mv pt lk:LR9):vs=[.ref x,.int st]->st<=1000->kX K H0 H C x mv pt lk->fz mv pt lk->rE mv pt a c->(∀r Rs H',H r=none->aG H H'->GrL K H H' r Rs->rF mv pt Rs->Rs.length<=st+1->(∀R,Rs.getLast?=some R->∀s,(Rs.length - 1=st/\s=st\/Rs.length - 1 < st/\Rs.length - 1<=s)->∃ps,bY (kry mv pt s) mv.length R ps)->Q (.ref r) H')->Bo K C vs H Q E9
section
variable {K:FG9} {H0 H1 H H':Hp} {p l:Addr} {rows mv pt R R':LR9} {Rs:List (LR9)} {t:Nat}
theorem bJ.weakN (h:bJ K H0 H p rows) (hn:∀q,H0 q=none->H1 q=none):bJ K H1 H p rows:=by obtain ⟨xs,g,r,n⟩:=h;exact ⟨xs,g,Paired.imp' (λ_ _ ⟨q,a,b,c⟩=>⟨q,a,hn q b,c⟩) r,n⟩
theorem bJ.updL {ys:List V} {o:HO} (h:bJ K H0 H p rows) (hl:H l=some (.lst ys)) (nl:H0 l≠none) (pl:p≠l):bJ K H0 (upd H l o) p rows:=by obtain ⟨xs,g,r,n⟩:=h;exact ⟨xs,by rw[bG pl];exact g,Paired.imp' (λ_ _ z=>c4.updL z hl nl) r,n⟩
theorem Oa {n:Nat}:bY [] n [] []:=⟨rfl,(λ_ h=>by cases h),(λ_ _ _ h=>absurd h (fD _)),(λ_ h=>absurd h (fD _)),(λ_ h=>absurd h (fD _)),(λ_ h=>absurd h (fD _)),(λ_ h=>absurd h (fD _)),(λ_ h=>absurd h (fD _))⟩
theorem rF.len (h:rF mv pt Rs):∀(t:Nat) (R:LR9),Rs[t]?=some R->t<=R.length:=by
 intro t
 induction t with
 | zero=>intro R _;exact bf _
 | succ t ih =>
  intro R e;have ht:=(aE.mp e).1;have e0:=af (show t < Rs.length by lia);have:=ih _ e0;have:=h.up t _ R e0 e
  lia
theorem rF.snoc {ps':List Nat} (h:rF mv pt (Rs++[R])) (h1:bY (kry mv pt (Rs.length+1)) mv.length R' ps') (h2:R.length < R'.length):rF mv pt ((Rs++[R])++[R']):=by
 have l1:(Rs++[R]).length=Rs.length+1:=by rw[ak];rfl
 refine ⟨by simp,λt S e=>?_,λt S S' e e'=>?_⟩
 ·rcases cb t (Rs.length+1) with z | z
  ·rw[bu (by lia)] at e;exact h.rr t S e
  ·have ht:=(aE.mp e).1;rw[ak,bo] at ht;have:t=Rs.length+1:=by lia
   subst this;rw[a9 (by lia),l1,fk] at e;cases e;exact ⟨ps',h1⟩
 ·have ht:=(aE.mp e').1;rw[ak,bo] at ht;rw[bu (by lia)] at e;rcases cb (t+1) (Rs.length+1) with z | z
  ·rw[bu (by lia)] at e';exact h.up t S S' e e'
  ·have:t=Rs.length:=by lia
   subst this;rw[a9 (by lia),l1,fk] at e';cases e';rw[a9 (aj _),fk] at e;cases e;exact h2
end
def pK (k t i:Nat):Nat:=if i < k then i else if i=k then t else if i<=t then i - 1 else i
def Er (k t i:Nat):Nat:=if i < k then i else if i=t then k else if i < t then i+1 else i
section
variable {k t m i j:Nat}
theorem uG (h : k ≤ t) (ht : t < m) (hi : i < m) : pK k t i < m := by     unfold pK; split; · exact hi
                                                                          · split; · exact ht
                                                                            · split <;> lia
theorem P7 (h : k ≤ t) (ht : t < m) (hi : i < m) : Er k t i < m := by     unfold Er; split; · exact hi
                                                                          · split; · lia
                                                                            · split <;> lia
theorem P0 (h:k<=t):pK k t (Er k t i)=i:=by
 by_cases h1:i < k
 ·rw[show Er k t i=i by unfold Er;rw[if_pos h1]];unfold pK;rw[if_pos h1]
 ·by_cases h2:i=t
  ·rw[show Er k t i=k by unfold Er;rw[if_neg h1,if_pos h2]];unfold pK;rw[if_neg (by lia),if_pos rfl,h2]
  ·by_cases h3:i < t
   ·rw[show Er k t i=i+1 by unfold Er;rw[if_neg h1,if_neg h2,if_pos h3]];unfold pK;rw[if_neg (by lia),if_neg (by lia),if_pos (by lia)];lia
   ·rw[show Er k t i=i by unfold Er;rw[if_neg h1,if_neg h2,if_neg h3]];unfold pK;rw[if_neg h1,if_neg (by lia),if_neg (by lia)]
theorem Ni (h:k<=t):Er k t (pK k t i)=i:=by
 by_cases h1:i < k
 ·rw[show pK k t i=i by unfold pK;rw[if_pos h1]];unfold Er;rw[if_pos h1]
 ·by_cases h2:i=k
  ·rw[show pK k t i=t by unfold pK;rw[if_neg h1,if_pos h2]];unfold Er;rw[if_neg (by lia),if_pos rfl,h2]
  ·by_cases h3:i<=t
   ·rw[show pK k t i=i - 1 by unfold pK;rw[if_neg h1,if_neg h2,if_pos h3]];unfold Er;rw[if_neg (by lia),if_neg (by lia),if_pos (by lia)];lia
   ·rw[show pK k t i=i by unfold pK;rw[if_neg h1,if_neg h2,if_neg h3]];unfold Er;rw[if_neg h1,if_neg (by lia),if_neg (by lia)]
theorem qP (hi:i < k):pK k t i=i:=by unfold pK;rw[if_pos hi]
theorem uH (h:k<=t) (hi:k<=i):k<=pK k t i:=by
 unfold pK;rw[if_neg (by lia)]
 split
 ·exact h
 ·split <;> lia
variable {a l:Nat->Nat->Rat} {pm p:Nat->Nat} {d:Rat} {P:Nat}
theorem vW.rot (B:vW a m k pm p l d) (h:k<=t) (ht:t < m):vW a m k (λi=>pm (pK k t i)) p (λi=>l (pK k t i)) d where
 inj i j hi hj e:=by
  have:=B.inj _ _ (uG h ht hi) (uG h ht hj) e;rw[<- Ni (i:=i) h,this,Ni h]
 rng i hi:=B.rng _ (uG h ht hi)
 km:=B.km
 d0:=B.d0
 det:=by rw[B.det,zH (f:=pm) (g:=λi=>pm (pK k t i)) λj hj=>by rw[qP hj]]
 eqs i hi c:=by
  have e:=B.eqs (pK k t i) (uG h ht hi) c;have e1:bR k (λj=>a (pm (pK k t i)) (p j)*l (pK k t j) c)=bR k (λj=>a (pm (pK k t i)) (p j)*l j c):=bp λj hj=>by rw[qP hj]
  rw[e1];by_cases hk:i < k
  ·rw[qP hk] at e ⊢;exact e
  ·rw[if_neg hk];rw[if_neg (by have:=uH h (show k<=i by lia);lia)] at e;exact e
 unit i hi j hj:=by
  rw[B.unit _ (uG h ht hi) j hj];by_cases hk:i < k
  ·rw[qP hk]
  ·have:=uH h (show k<=i by lia);rw[if_neg (by lia),if_neg (by lia)]
theorem jW.rot (E:jW a m k P p l d) (h:k<=t) (ht:t < m):jW a m k P p (λi=>l (pK k t i)) d where
 km:=E.km
 d0:=E.d0
 unit i hi j hj:=by
  rw[E.unit _ (uG h ht hi) j hj];by_cases hk:i < k
  ·rw[qP hk]
  ·have:=uH h (show k<=i by lia);rw[if_neg (by lia),if_neg (by lia)]
 inc:=E.inc
 low:=E.low
 zero i h1 h2 c hc:=E.zero _ (uH h h1) (uG h ht h2) c hc
 lead j hj c hc:=by rw[qP hj];exact E.lead j hj c hc
 there i hi:=eK.trans (λs hs=>eK.congr (λc=>by rw[P0 h]) (eK.row (a:=λi=>l (pK k t i)) (i:=Er k t s) (P7 h ht hs))) (E.there i hi)
 back i hi:=E.back _ (uG h ht hi)
end
section
variable {rows fs ls:LR9} {n P w a:Nat} {ps:List Nat}
theorem LG {k i:Nat}:jK k k i=i:=by unfold jK;split <;> (try split) <;> lia
theorem xg.rot (h:xg rows n P (fs++ls) ps) (hf:fs.length=ps.length) {t:Nat} (ht:t < ls.length):xg rows n P (fs++ls.getD t [] :: ls.eraseIdx t) ps:=by
 obtain ⟨len,wide,pm,l,d,B,E,v⟩:=h;rw[ak] at len;have h1:ps.length<=ps.length+t:=by lia
 have h2:ps.length+t < rows.length:=by lia
 have ef:∀i,i < rows.length->∀c,cu (fs++ls.getD t [] :: ls.eraseIdx t) i c=cu (fs++ls) (pK ps.length (ps.length+t) i) c:=λi hi c=>by
  by_cases z:i < ps.length
  ·rw[qP z,yD (by lia),yD (by lia)]
  ·obtain ⟨j,rfl⟩:∃j,i=fs.length+j:=⟨i - fs.length,by lia⟩;rw[uu];cases j with
   | zero =>
    rw[show pK ps.length (ps.length+t) (fs.length+0)=fs.length+t by unfold pK;rw[if_neg (by lia),if_pos (by lia)];lia,uu];rfl
   | succ j =>
    by_cases y:j < t
    ·rw[show pK ps.length (ps.length+t) (fs.length+(j+1))=fs.length+j by unfold pK;rw[if_neg (by lia),if_neg (by lia),if_pos (by lia)];lia,uu];show cu (ls.eraseIdx t) j c=_
     unfold cu;rw[aa (l:=ls.eraseIdx t),List.getElem?_eraseIdx_of_lt y,<- aa]
    ·rw[show pK ps.length (ps.length+t) (fs.length+(j+1))=fs.length+(j+1) by unfold pK;rw[if_neg (by lia),if_neg (by lia),if_neg (by lia)],uu];show cu (ls.eraseIdx t) j c=_
     unfold cu;rw[aa (l:=ls.eraseIdx t),List.getElem?_eraseIdx_of_ge (by lia),<- aa]
 refine ⟨?_,λxs hx=>?_,λi=>pm (pK ps.length (ps.length+t) i),λi=>l (pK ps.length (ps.length+t) i),d,B.rot h1 h2,E.rot h1 h2,λi hi c=>?_⟩
 ·rw[ak,ba,NM ht];lia
 ·rcases aw.mp hx with hx | hx
  ·exact wide xs (aw.mpr (.inl hx))
  ·rcases aB.mp hx with rfl | hx
   ·exact wide _ (aw.mpr (.inr (getD_in ht)))
   ·exact wide xs (aw.mpr (.inr (Pq hx)))
 ·rw[ef i hi c,v _ (uG h1 h2 hi) c];by_cases z:i < ps.length
  ·dsimp only
   rw[qP z]
  ·rw[if_neg z,if_neg (by have:=uH h1 (show ps.length<=i by lia);lia)]
def nM (P:Nat) (h:List Rat):List Rat:=h.map λy=>1 / h.getD P 0*y
def z5 (P:Nat) (u r:List Rat):List Rat:=List.zipWith (λx y=>x - y) r (u.map λy=>r.getD P 0*y)
theorem xg.lean (h:xg rows n P (fs++ls) ps) (hf:fs.length=ps.length) {t:Nat} (ht:t < ls.length) (hP:P < n) (hne:(ls.getD t []).getD P 0≠0):xg rows n (P+1) ((fs.map (z5 P (nM P (ls.getD t [])) )++[nM P (ls.getD t [])])++(ls.eraseIdx t).map (z5 P (nM P (ls.getD t [])))) (ps++[P]):=by
 have R:=h.rot hf ht;have len:=R.len;have wide:=R.wide;generalize ls.getD t []=hd at *
 generalize ls.eraseIdx t=l2 at *
 rw[ak,ba] at len;have whd:hd.length=n:=wide _ (aw.mpr (.inr (.head _)));have wu:(nM P hd).length=n:=by unfold nM;rw[ar];exact whd
 have ek:cu (fs++hd :: l2) ps.length=λc=>hd.getD c 0:=by
  have:=uu (X:=fs) (Y:=hd :: l2) (i:=0);rw[show fs.length+0=ps.length by lia] at this;rw[this];rfl
 have wl:∀r,r.length=n->(z5 P (nM P hd) r).length=n:=λr hr=>by unfold z5;rw[cD,ar,wu,hr];lia
 have vl:∀r,r.length=n->∀c,(z5 P (nM P hd) r).getD c 0=r.getD c 0 - r.getD P 0*(1 / hd.getD P 0*hd.getD c 0):=λr hr c=>by
  unfold z5;rw[OX (by rw[ar,wu,hr]),KI];unfold nM;rw[KI]
 refine R.step (t:=ps.length) (aj _) (by rw[ak,ba];lia) (by rw[ek];exact hne) ?_ ?_ λi hi c=>?_
 ·rw[ak,ak,ar,ar,bo];lia
 ·intro xs hx;rcases aw.mp hx with hx | hx
  ·rcases aw.mp hx with hx | hx
   ·obtain ⟨r,hr,rfl⟩:=aD.mp hx;exact wl r (wide r (aw.mpr (.inl hr)))
   ·rw[bB.mp hx];exact wu
  ·obtain ⟨r,hr,rfl⟩:=aD.mp hx;exact wl r (wide r (aw.mpr (.inr (.tail _ hr))))
 ·rw[LG,ek]
  dsimp only
  have lf:(fs.map (z5 P (nM P hd))).length=ps.length:=by rw[ar];exact hf
  have key:∀{X:LR9} {s:Nat} (hs:s < X.length) (_:∀r∈X,r.length=n),cu (X.map (z5 P (nM P hd))) s c=cu X s c - cu X s P*(1 / hd.getD P 0*hd.getD c 0):=λ{X s} hs hX=>by
   unfold cu;have e1:(X.map (z5 P (nM P hd))).getD s []=z5 P (nM P hd) X[s]:=by rw[aa,aL,af hs];rfl
   have e2:X.getD s []=X[s]:=by rw[aa,af hs];rfl
   rw[e1,e2];exact vl _ (hX _ (aP hs)) c
  rcases jJ i ps.length with z | z | z
  ·rw[if_neg (by lia),bV,yD (by lia),yD (by lia),key (by lia) λr hr=>wide r (aw.mpr (.inl hr))]
  ·rw[if_pos z,bV,show i=(fs.map (z5 P (nM P hd))).length+0 by lia,uu];show (nM P hd).getD c 0=_
   unfold nM;rw[KI]
  ·rw[if_neg (by lia)];obtain ⟨j,rfl⟩:∃j,i=ps.length+1+j:=⟨i - ps.length - 1,by lia⟩
   have e1:cu (fs++hd :: l2) (ps.length+1+j)=cu l2 j:=by
    have:=uu (X:=fs) (Y:=hd :: l2) (i:=j+1);rw[show fs.length+(j+1)=ps.length+1+j by lia] at this;rw[this];rfl
   have e2:cu ((fs.map (z5 P (nM P hd))++[nM P hd])++l2.map (z5 P (nM P hd))) (ps.length+1+j)=cu (l2.map (z5 P (nM P hd))) j:=by
    have:=uu (X:=fs.map (z5 P (nM P hd))++[nM P hd]) (Y:=l2.map (z5 P (nM P hd))) (i:=j);rw[ak,lf,bo] at this;exact this
   rw[e1,e2,key (by lia) λr hr=>wide r (aw.mpr (.inr (.tail _ hr)))]
end
theorem uL {α β:Type} {F:α->β->Prop}:∀{l1:List α} {l2:List β} (_:Paired F l1 l2) (i:Nat),Paired F (l1.eraseIdx i) (l2.eraseIdx i)
 | _,_,.nil,_=>.nil
 | _,_,.cons _ r,0=>r
 | _,_,.cons h r,i+1=>.cons h (uL r i)
theorem OK {xs:List Rat} {i c:Nat}:c∈MB xs i↔c < i/\xs.getD c 0≠0:=by
 unfold MB;rw[Lo,tI];simp
theorem bJ.toE {K:FG9} {H0 H:Hp} {l:Addr} {rows:LR9} (h:bJ K H0 H l rows):∃us,H l=some (.lst us)/\Paired (nG K (λq=>H0 q=none/\q≠l) H) rows us:=by
 obtain ⟨us,g,pr,nn⟩:=h;exact ⟨us,g,qT (λxs v hv ⟨q,e,a,b⟩=>⟨q,e,⟨a,λz=>nn (by rw[<- z,<- e];exact hv)⟩,b⟩) pr⟩
theorem BE {α:Type} {v:α}:∀{l:List α},l.Nodup->v∉l->∀j,(l.set j v).Nodup
 | [],_,_,_=>mH
 | a :: l,h,hn,0=>by
  rw[eO] at h;rw[List.set_cons_zero,eO];exact ⟨λz=>hn (.tail _ z),h.2⟩
 | a :: l,h,hn,j+1=>by
  rw[eO] at h;rw[List.set_cons_succ,eO];refine ⟨λz=>?_,BE h.2 (λz=>hn (.tail _ z)) j⟩;rcases cg z with z | z
  ·exact h.1 z
  ·exact hn (by rw[z];exact .head _)
structure jI (K:FG9) (A:Addr->Prop) (H:Hp) (n:Nat) (C:V->Rat->Prop) (m p l b q0:Addr) (us ws vs:List V):Prop where
 bag:ig H b
 inn:Inner H b q0
 gm:H m=some (.lst us)
 gp:H p=some (.lst ws)
 gl:H l=some (.lst vs)
 lm:us.length=n
 row:∀x∈us++vs++ws,fK K A H n (C x) x
 nd:(us++vs++ws).Nodup
section
variable {K:FG9} {A:Addr->Prop} {H H':Hp} {n:Nat} {C C':V->Rat->Prop} {m p l b q0 q:Addr} {us ws vs zs:List V} {y:Rat} {v:V}
theorem jI.same (h:jI K A H n C m p l b q0 us ws vs) (e:aG H H'):jI K A H' n C m p l b q0 us ws vs :=
 ⟨h.bag.same e,(e.upto (p:=b)).2 _ h.inn,e _ _ h.gm,e _ _ h.gp,e _ _ h.gl,h.lm,λx hx=>(h.row x hx).same e,h.nd⟩
theorem jI.upto (h:jI K A H n C m p l b q0 us ws vs) (M:Fb A m p l b q0) (u:cT b H H') (B':ig H' b):jI K A H' n C m p l b q0 us ws vs :=
 ⟨B',u.2 _ h.inn,u.other M.mb h.gm,u.other M.pb h.gp,u.other M.lb h.gl,h.lm,λx hx=>(h.row x hx).upto u h.bag M.ab,h.nd⟩
theorem jI.weak (h:jI K A H n C m p l b q0 us ws vs) (w:∀x∈us++vs++ws,∀y,C x y->C' x y):jI K A H n C' m p l b q0 us ws vs :=
 ⟨h.bag,h.inn,h.gm,h.gp,h.gl,h.lm,λx hx=>(h.row x hx).weak (λ_ z=>z) (w x hx),h.nd⟩
theorem jI.put (h:jI K A H n C m p l b q0 us ws vs) (M:Fb A m p l b q0) (aq:A q) (hq:H q=some (.lst zs)) (hv:ck K H y v) (hc:C (.ref q) y) (j:Nat):jI K A (upd H q (.lst (zs.set j v))) n C m p l b q0 us ws vs:=by
 have ne:∀{z},¬A z->z≠q:=λh e=>h (by rw[e];exact aq)
 refine ⟨h.bag.upd h.inn (ne M.ab).symm (ne M.aq).symm,h.inn.upd (ne M.ab).symm,by rw[bG (ne M.am)];exact h.gm,by rw[bG (ne M.ap)];exact h.gp,by rw[bG (ne M.al)];exact h.gl,h.lm,λx hx=>?_,h.nd⟩;by_cases e:x=.ref q
 ·subst e;exact (h.row _ hx).put hq hv hc j
 ·obtain ⟨q1,qs,rfl,a1,r1,l1,c1⟩:=h.row x hx;exact ⟨q1,qs,rfl,a1,r1.updL hq (λz=>e (by rw[z])),l1,c1⟩
theorem jI.set (h:jI K A H n C m p l b q0 us ws vs) (M:Fb A m p l b q0) (hx:fK K A H n (C v) v) (hn:v∉us++vs++ws) (j:Nat):jI K A (upd H m (.lst (us.set j v))) n C m p l b q0 (us.set j v) ws vs:=by
 have mem:∀x∈us.set j v++vs++ws,x=v\/x∈us++vs++ws:=λx hx=>by
  rcases aw.mp hx with hx | hx
  ·rcases aw.mp hx with hx | hx
   ·rcases cg hx with hx | hx
    ·exact .inr (by simp [hx])
    ·exact .inl hx
   ·exact .inr (by simp [hx])
  ·exact .inr (by simp [hx])
 refine ⟨h.bag.upd h.inn M.mb M.mq,h.inn.upd M.mb,aK,by rw[bG M.mp.symm];exact h.gp,by rw[bG M.ml.symm];exact h.gl,by rw[dQ];exact h.lm,λx hx'=>?_,?_⟩
 ·rcases mem x hx' with rfl | hx'
  ·exact hx.other h.gm M.am
  ·exact (h.row x hx').other h.gm M.am
 ·have nd:=h.nd;rw[bV] at nd hn ⊢;obtain ⟨n1,n2,n3⟩:=dH.mp nd;refine dH.mpr ⟨?_,n2,λa ha c hc=>?_⟩
  ·rcases cb j us.length with z | z
   ·exact BE n1 (λz'=>hn (aw.mpr (.inl z'))) j
   ·rw[List.set_eq_of_length_le z];exact n1
  ·rcases cg ha with ha | rfl
   ·exact n3 a ha c hc
   ·exact λz=>hn (aw.mpr (.inr (by rw[z];exact hc)))
end
theorem Hq {M W:Nat} {x:Rat} (h0:0 < M) (h1:M<=2^800) (hW:W<=2^140) (h:Fr M W x):kK x :=
 FX h0 (ai h1 (au (by decide) (by decide))) (ai hW (au (by decide) (by decide))) h
theorem Mr {t V c:Nat} (ht:t<=3) (hV:V<=2^20) (hc:c<=9):c*(9^t*V)<=2^140:=by
 have h1:9^t<=9^3:=au (by decide) ht;have h2:c*(9^t*V)<=9*(9^3*2^20):=aA hc (aA h1 hV);exact ai h2 (ai (show 9*(9^3*2^20)<=2^40 by decide) (au (by decide) (by decide)))
theorem oQ {α:Type} {l:List α} {v:α} (h:l.Nodup) (hn:v∉l):(l++[v]).Nodup:=dH.mpr ⟨h,by simp,λa ha c hc=>by rw[bB.mp hc];exact λz=>hn (by rw[<- z];exact ha)⟩
section
variable {K:FG9} {a:Addr} {xs:List V} {g:TG} {tf:TT} {te:TE} {Q:VK} {σ₀:St} {H:Hp} {α β:Type}
theorem BX {n:Nat} {b:Addr} (G:Hp->β->V->Prop) (C:β->Prop) (hB:ig H b) (hl:n<=1000) (hG:∀{H' H'' c x},G H' c x->cT b H' H''->ig H' b->G H'' c x)
  (hA:∀{H' c x},G H' c x->∃q,x=V.ref q/\H' q≠none)
  (hs:∀(i:Nat) H' NY NN,i < n->cT b H H'->ig H' b->(∀y c H2,cT b H' H2->ig H2 b->C c->G H2 c y->(∃q,y=V.ref q/\H' q=none)->NY y H2)->pG σ₀ g tf te (.int i) H' NY NN)
  (hd:∀ys cs H' p,H p=none->cT b H H'->ig H' b->H' p=some (.lst ys)->cs.length=n->ys.Nodup->(∀c∈cs,C c)->Paired (G H') cs ys->(∃H2,H2 p=none/\Paired (G H2) cs ys)->Q (.ref p) H'):pR (Fe 0 n) σ₀ g tf te Q H:=by
 refine ph (λi ys H'=>cT b H H'/\ig H' b/\∃cs,cs.length=i/\ys.Nodup/\(∀c∈cs,C c)/\Paired (G H') cs ys) (aZ (bC (by lia))) ⟨(aG.refl _).upto,hB,[],rfl,mH,(λ_ z=>nomatch z),.nil⟩ ?_ ?_
 ·rintro i ys H' hi hlen ⟨u,B,cs,lc,nd,hc,pr⟩;rw[yT];refine hs i H' _ _ hi u B λy c H2 u2 B2 cc gy ⟨q,ey,nq⟩=>⟨u.trans u2,B2,cs++[c],by simp [lc],oQ nd (λz=>by obtain ⟨c',_,gc⟩:=cL pr z;obtain ⟨q',e',h'⟩:=hA gc;rw[ey] at e';cases e';exact h' nq),DJ hc cc,bP (Paired.imp' (λ_ _ z=>hG z u2 B) pr) (.cons gy .nil)⟩
 ·rintro ys H' hy ⟨u,B,cs,lc,nd,hc,pr⟩ p hp;have s:aG H' (upd H' p (.lst ys)):=aG.new hp;exact hd ys cs _ p (u.none B hp) (u.same s) (B.same s) aK lc nd hc (Paired.imp' (λ_ _ z=>hG z s.upto B) pr) ⟨H',hp,pr⟩
end
structure F5 (K:FG9) (A:Addr->Prop) (n:Nat) (C:Rat->Prop) (m p l b q0:Addr) (us ws vs:List V) (H0 H:Hp):Prop where
 mix:jI K A H n (λ_=>C) m p l b q0 us ws vs
 gp:H p=some (.lst ws)
 gl:H l=some (.lst vs)
 kp:iL A b m H0 H
section
variable {K:FG9} {A:Addr->Prop} {n:Nat} {C:Rat->Prop} {m p l b q0 q:Addr} {us ws vs:List V} {H0 H H':Hp} {y:Rat} {v:V}
theorem F5.same (h:F5 K A n C m p l b q0 us ws vs H0 H) (e:aG H H'):F5 K A n C m p l b q0 us ws vs H0 H':=⟨h.mix.same e,e _ _ h.gp,e _ _ h.gl,h.kp.same e⟩
theorem F5.upto (h:F5 K A n C m p l b q0 us ws vs H0 H) (M:Fb A m p l b q0) (u:cT b H H') (B:ig H' b):F5 K A n C m p l b q0 us ws vs H0 H':=⟨h.mix.upto M u B,u.other M.pb h.gp,u.other M.lb h.gl,h.kp.upto u⟩
theorem F5.row (h:F5 K A n C m p l b q0 us ws vs H0 H) {x:V} (hx:x∈ws\/x∈vs):fK K A H n C x:=h.mix.row x (by rcases hx with hx | hx <;> simp [hx])
theorem F5.put (h:F5 K A n C m p l b q0 us ws vs H0 H) (M:Fb A m p l b q0) (hx:V.ref q∈ws\/V.ref q∈vs) (hv:ck K H y v) (hc:C y) (j:Nat):∃zs,H q=some (.lst zs)/\zs.length=n/\F5 K A n C m p l b q0 us ws vs H0 (upd H q (.lst (zs.set j v))):=by
 obtain ⟨q',zs,qs,e,a,g,lz,_⟩:=(h.row hx).at;cases e;have ne:∀{z},¬A z->z≠q:=λh e=>h (by rw[e];exact a)
 exact ⟨zs,g,lz,h.mix.put M a g hv hc j,by rw[bG (ne M.ap)];exact h.gp,by rw[bG (ne M.al)];exact h.gl,h.kp.upd (.inl a)⟩
end
inductive Eb (K:FG9) (vs:List V) (H:Hp) (Q:VK) (E9:XK):Prop
 | mk (b:Addr) (n w:Nat) (way first:Int):vs=[.ref b,.int n,.int way,.int first,.int w]->ig H b->n<=8->1<=w->w<=1000000->(∀r us H',H r=none->H' r=some (.lst us)->us.length=n->us.Nodup->(∀x∈us,fK K (λq=>H q=none/\q≠r) H' n (Dr (max w 6)) x)->ig H' b->cT b H H'->Q (.ref r) H')->Eb K vs H Q E9
def PtF (n i o w c:Nat) (mv pt lk:LR9):Prop:=∃M V1:Nat,0 < M/\GF M V1 mv/\GF M V1 pt/\GF M V1 lk/\((w<=9/\M=2520/\V1=9^3*9)\/(9 < w/\M<=2^(c*((n+i+o)*n))/\V1=9^3*2^c))
inductive Ec (K:FG9) (vs:List V) (H:Hp) (Q:VK) (E9:XK):Prop
 | mk (b:Addr) (n:Nat):vs=[.ref b,.int n]->ig H b->1<=n->n<=8->(∀r mv pt lk H',eh K H H' r mv pt lk->mv.length=n->pt.length=1->lk.length=1->fz mv pt lk->GF 1 1 mv->GF 1 1 pt->GF 1 1 lk->ig H' b->cT b H H'->Q (.ref r) H')->Ec K vs H Q E9
theorem yM {mv pt:LR9} {M V1 a c n0:Nat} (M0:0 < M) (hM:M<=2^a) (hn:mv.length<=n0) (hV:(n0+1)*V1<=2^c) (fm:GF M V1 mv) (fp:GF M V1 pt) (h4:a<=400/\c<=40/\n0*(n0*(a+c)+4)<=1740/\n0*(n0*(n0*(a+c)+4)+a+c+4)<=8900):rE mv pt a c:=by
 obtain ⟨h1,h2,h3,h5⟩:=h4;have e1:mv.length*(a+c)<=n0*(a+c):=ay _ hn;have e2:mv.length*(mv.length*(a+c)+4)<=n0*(n0*(a+c)+4):=aA hn (by lia);have e3:mv.length*(mv.length*(mv.length*(a+c)+4)+a+c+4)<=n0*(n0*(n0*(a+c)+4)+a+c+4):=aA hn (by lia);exact ⟨M,V1,M0,hM,ai (ay _ (by lia)) hV,fm,fp,h1,h2,by lia,by lia⟩
def LH (K:FG9):Sp:=λvs H Q _=>∃b:Addr,vs=[.ref b]/\ig H b /\
 ∀r mv pt lk H',eh K H H' r mv pt lk->6<=mv.length->fz mv pt lk->GF 1 (9^3) mv->GF 1 (9^3) pt->GF 1 (9^3) lk->ig H' b->cT b H H'->Q (.ref r) H'
theorem DD {rs:List Nat} {v v':Nat->iB}:∀{k:Nat} (pre:List iB),(∀j,j < k->∀r∈rs,v j r=v' j r)->jh rs (pre++iO v k)=jh rs (pre++iO v' k)
 | 0,_,_=>rfl
 | k+1,pre,h=>by
  show jh rs (pre++v k :: iO v k)=jh rs (pre++v' k :: iO v' k)
  rw[KW (h k (by lia))];have:=DD (k:=k) (pre++[v' k]) λj hj=>h j (by lia)
  simpa using this
theorem cw_map {τ:iB->iB} {v:Nat->iB}:∀{k:Nat},(iO v k).map τ=iO (λj=>τ (v j)) k
 | 0=>rfl
 | k+1=>by show τ (v k) :: _=_;rw[cw_map];rfl
theorem Ag {N : Nat} {W : Nat → Nat} : ∀ {rs : List Nat} {vs : List iB}, vs.length ≤ N → (∀ v ∈ vs, ∀ r ∈ rs, Fr 1 (W r) (v r)) → Fr 1 ((rs.map λr => N * W r).foldr (· * ·) 1) (jh rs vs)
  | [], [], _, _ => by show Fr 1 1 1; exact (Fr.int (i := 1) (by decide))
  | [], _ :: _, _, _ => by show Fr 1 _ 0; exact Fr.zero
  | r :: rs, vs, hl, h => by
    have := Kn (F := λws => jh rs ws) (r := r) (B := (rs.map λr => N * W r).foldr (· * ·) 1) (W := W r) (post := vs) (pre := []) (s := 1) (λws h1 h2 => Ag (by rw [cZ] at h2; lia) λv hv r' hr' => h v (by simpa using h1 v hv) r' (.tail _ hr')) (λw hw => h w hw r (.head _)) (Fr.int (i := 1) (by decide));refine this.mono ?_;show _ ≤ N * W r * _
    rw [b9 N];exact ay _ hl
section
variable {rows fs ls:LR9} {n r M W Wv Wb k P:Nat} {Pm Y Z B E a:Nat->Nat->Rat} {d:Rat} {ps:List Nat} {rs:LR9}
def QP (rows:LR9) (n S:Nat):Prop:=2*S<=3990/\∃J:Nat->LR9->List Nat->Prop,J 0 rows []/\(∀P rs ps,J P rs ps->(∀i,ps.length<=i->i < rs.length->cu rs i P=0)->J (P+1) rs ps) /\
 (∀P fs ls ps t,J P (fs++ls) ps->fs.length=ps.length->t < ls.length->P < n->(ls.getD t []).getD P 0≠0->J (P+1) ((fs.map (z5 P (nM P (ls.getD t [])) )++[nM P (ls.getD t [])])++(ls.eraseIdx t).map (z5 P (nM P (ls.getD t [])))) (ps++[P])) /\
 (∀P rs ps,J P rs ps->xg rows n P rs ps)/\∀P rs ps,J P rs ps->P<=n->∀i,i < rows.length->∃D:Nat,0 < D/\D<=2^S/\∀c,Tp D (2^S) (cu rs i c)
theorem NJ.lws {w a:Nat} (F:NJ rows n w a) (hw:∀xs∈rows,xs.length=n):QP rows n (min rows.length n*(w+4)+a):=by
 obtain ⟨_,_,_,_,_,_,_,_,e⟩:=id F;refine ⟨e,xg rows n,xg.start hw,λ_ _ _ h z=>h.skip z,λ_ _ _ _ _ h hf ht hP hne=>h.lean hf ht hP hne,λ_ _ _ h=>h,λP rs ps h hP i hi=>?_⟩;obtain ⟨D,D0,D1,D2⟩:=h.sz F hP hi;exact ⟨D,D0,D1,λc=>(D2 c).mono (au (by decide) (by lia))⟩
end
section
variable {rows R R1 R2 mv pt:LR9} {n r M V1 W W' Wv Wb k P:Nat} {Pm Y Z B E a:Nat->Nat->Rat} {d:Rat} {ps ps1 ps2:List Nat} {rs:LR9}
theorem NS (h0:0 < M) (h3:∀xs∈rows,∀x∈xs,Tp M W x):∀i,i < rows.length->∀c,Fr 1 W (d7 (rows.map gE) i c):=λi hi c=>by
 have hx:=getD_in (e:=[]) hi;rw[xi hi];unfold cu;generalize rows.getD i []=xs at hx ⊢;by_cases hc:c < xs.length
 ·have t:=h3 xs hx _ (getD_in (e:=0) hc);obtain ⟨s,e,b⟩:=tK t h0 (kx (xs:=xs)) (lU (aD.mpr ⟨_,getD_in (e:=0) hc,rfl⟩)) (rT h0 (h3 xs hx));rw[dP,e];exact Fr.int b
 ·rw[aa,aM (by lia)];show Fr 1 W (_*0)
  rw[fN];exact Fr.zero
theorem KN {V:Nat} {f:Nat->Rat}:∀{k:Nat},(∀j,j < k->Fr 1 V (f j))->Fr 1 (k*V) (bR k f)
 | 0,_=>Fr.zero
 | k+1,h=>by
  rw[dA];exact (KN λj hj=>h j (by lia)).add (h k (by lia))
theorem v7 {f:Nat->Rat} {a:Nat}:∀{b:Nat},bR (a+b) f=bR a f+bR b λt=>f (a+t)
 | 0=>by show bR a f=bR a f+0;grind
 | b+1=>by
  show bR (a+b) f+f (a+b)=_+(bR b _+f (a+b))
  rw[v7];grind
end
section
variable {rows R R1 R2 mv pt:LR9} {n t t2 a c:Nat} {ps ps1 ps2:List Nat}
theorem Hs {M W:Nat} (h:∀i,i < rows.length->∀c,Tp M W (cu rows i c)):∀xs∈rows,∀x∈xs,Tp M W x:=λxs hx x hx'=>by
 obtain ⟨i,hi,rfl⟩:=bK hx;obtain ⟨c,hc,rfl⟩:=bK hx';have:=h i hi c;unfold cu at this;rw[aa (l:=rows),af hi] at this;have e:(some rows[i]).getD []=rows[i]:=rfl;rw[e,aa,af hc] at this;exact this
end
inductive zg (K:FG9) (vs:List V) (H:Hp) (Q:VK) (E9:XK):Prop
 | mk (p:Addr) (n S:Nat) (H0:Hp) (rows:LR9):vs=[.ref p,.int n]->bJ K H0 H p rows->rows.length<=100->n<=100->(∀xs∈rows,xs.length=n)->QP rows n S->(∀r R ps H',H r=none->aG H H'->bJ K H H' r R->bY rows n R ps->ps.length<=rows.length->Q (.ref r) H')->zg K vs H Q E9
section
variable {K:FG9} {a:Addr} {xs:List V} {g:TG} {tf:TT} {te:TE} {Q:VK} {σ₀:St} {H:Hp} {α β:Type}
theorem BV {as:List α} {F:Hp->α->V->Prop} (G:Hp->β->V->Prop) (f:α->β) (hx:H a=some (.lst xs)) (pf:Paired (F H) as xs) (hl:as.length<=1000)
  (hF:∀{H H' c x},F H c x->aG H H'->F H' c x) (hG:∀{H H' c x},G H c x->aG H H'->G H' c x) (hA:∀{H' c x},G H' c x->∃q,x=V.ref q/\H' q≠none)
  (hs:∀(i:Nat) c x H' NY NN,as[i]?=some c->aG H H'->F H' c x->(∀y H2,aG H' H2->G H2 (f c) y->(∃q,y=V.ref q/\H' q=none)->NY y H2)->pG σ₀ g tf te x H' NY NN)
  (hd:∀ys H' p,H p=none->aG H H'->H' p=some (.lst ys)->ys.Nodup->(∀y∈ys,∃q,y=V.ref q/\H q=none/\q≠p)->Paired (G H') (as.map f) ys->Q (.ref p) H'):pR (Lk K a) σ₀ g tf te Q H:=by
 have lx:=pf.length;refine fZ (K:=K) (xs:=xs) (λi ys H'=>aG H H'/\ys.Nodup/\(∀y∈ys,∃q,y=V.ref q/\H q=none)/\Paired (G H') ((as.take i).map f) ys) (aZ (bC (by lia))) ⟨aG.refl _,mH,(λ_ z=>nomatch z),.nil⟩ (λi ys H' _ ⟨s,_⟩=>bN.of (s _ _ hx)) ?_ ?_
 ·rintro i x ys H' hx' hlen ⟨s,nd,hn,pr⟩;obtain ⟨c,ec,hc⟩:=cm pf hx';refine hs i c x H' _ _ ec s (hF hc s) λy H2 s2 gy ⟨q,ey,nq⟩=>⟨s.trans s2,oQ nd (λz=>?_),DJ hn ⟨q,ey,s.none nq⟩,?_⟩
  ·obtain ⟨c',_,gc⟩:=cL pr z;obtain ⟨q',e',h'⟩:=hA gc;rw[ey] at e';cases e';exact h' nq
  ·rw[take_snoc ec,cJ];exact bP (Paired.imp' (λ_ _ z=>hG z s2) pr) (.cons gy .nil)
 ·rintro ys H' hy ⟨s,nd,hn,pr⟩ p hp;rw[aI (by lia)] at pr;refine hd ys _ p (s.none hp) (s.trans (aG.new hp)) aK nd (λy hy=>?_) (Paired.imp' (λ_ _ z=>hG z (aG.new hp)) pr);obtain ⟨q,e,nq⟩:=hn y hy;refine ⟨q,e,nq,λz=>?_⟩;obtain ⟨c',_,gc⟩:=cL pr hy;obtain ⟨q',e',h'⟩:=hA gc;rw[e] at e';cases e';exact h' (by rw[z];exact hp)
end
structure Q4 (K:FG9) (H0 H:Hp) (n:Nat) (fd:Addr) (L:List (Addr×List V)):Prop where
 gf:H fd=some (.lst (L.map λe=>V.ref e.1))
 nf:H0 fd=none
 ls:∀e∈L,H0 e.1=none/\e.1≠fd/\H e.1=some (.lst e.2)
 nd:(L.map λe=>e.1).Nodup
 rows:∀e∈L,∀x∈e.2,fK K (λq=>(H0 q=none/\q≠fd)/\q∉L.map λe=>e.1) H n (Fr 1 1) x
 rd:(L.flatMap λe=>e.2).Nodup
section
variable {K:FG9} {H0 H H1:Hp} {n:Nat} {fd q:Addr} {L:List (Addr×List V)} {us:List V}
theorem Q4.snoc (h:Q4 K H0 H n fd L) (s0:aG H0 H) (s:aG H H1) (hq:H q=none) (gq:H1 q=some (.lst us)) (nd:us.Nodup) (hr:∀x∈us,fK K (λz=>H z=none/\z≠q) H1 n (Fr 1 1) x):Q4 K H0 (upd H1 fd (.lst ((L.map λe=>V.ref e.1)++[.ref q]))) n fd (L++[(q,us)]):=by
 have qf:q≠fd:=λz=>by rw[z,h.gf] at hq;cases hq
 have old:∀{z},z∈(L.map λe=>e.1)->H z≠none:=λhz=>by
  obtain ⟨e,he,rfl⟩:=aD.mp hz;rw[(h.ls e he).2.2];exact λz=>nomatch z
 have g1:=s _ _ h.gf;refine ⟨by rw[aK,cJ];rfl,h.nf,λe he=>?_,?_,λe he x hx=>?_,?_⟩
 ·rcases aw.mp he with he | he
  ·obtain ⟨a,b,c⟩:=h.ls e he;exact ⟨a,b,by rw[bG b];exact s _ _ c⟩
  ·rw[bB.mp he];exact ⟨s0.none hq,qf,by rw[bG qf];exact gq⟩
 ·rw[cJ];exact oQ h.nd λz=>old z hq
 ·have key:fK K (λz=>(H0 z=none/\z≠fd)/\z∉(L++[(q,us)]).map λe=>e.1) H1 n (Fr 1 1) x:=by
   rcases aw.mp he with he | he
   ·obtain ⟨z,qs,e1,⟨e2,e3⟩,e4,e5⟩:=h.rows e he x hx;refine ⟨z,qs,e1,⟨e2,λhz=>?_⟩,e4.same s,e5⟩;rw[cJ] at hz;rcases aw.mp hz with hz | hz
    ·exact e3 hz
    ·have hz:z=q:=bB.mp hz;obtain ⟨_,gg,_⟩:=e4;rw[hz,hq] at gg;cases gg
   ·rw[bB.mp he] at hx;refine (hr x hx).weak (λz hz=>⟨⟨s0.none hz.1,λy=>by rw[y] at hz;rw[h.gf] at hz;exact absurd hz.1 (λw=>nomatch w)⟩,λy=>?_⟩) (λ_ w=>w);rw[cJ] at y;rcases aw.mp y with y | y
    ·exact old y hz.1
    ·exact hz.2 (bB.mp y)
  exact key.other g1 (λz=>z.1.2 rfl)
 ·rw[List.flatMap_append];refine dH.mpr ⟨h.rd,by simpa using nd,λx hx y hy z=>?_⟩;obtain ⟨e,he,hx⟩:=List.mem_flatMap.mp hx;obtain ⟨w,qs,e1,_,⟨_,gg,_⟩,_⟩:=h.rows e he x hx;obtain ⟨w',_,e1',⟨hw,_⟩,_⟩:=hr y (by simpa using hy);rw[<- z,e1] at e1';cases e1';rw[hw] at gg;cases gg
end
theorem JM:typeLookup (.type "list_reverseiterator") "__len__"=pure none:=by
 rw[typeLookup_type,builtinLookup_eq_fast]
 kernel_rfl
theorem LS:typeLookup (.type "list_reverseiterator") "__length_hint__"=pure (some (.builtin "list_reverseiterator.__length_hint__")):=by
 rw[typeLookup_type,builtinLookup_eq_fast]
 kernel_rfl
section
variable {prog:Program} {w:World} {A:Around} {E:Value->Shared->Prop} {s:Shared}
theorem LQ {it l:Addr} {i:Int} {Q:Bool->Shared->Prop} (hit:s.heap.IsRevIter it l i) (q:Q false s):wpAny (model prog w) A (Builtin.List.listLengthHint (.ref it)) Q E s:=by
 unfold Builtin.List.listLengthHint;refine wpAny_bind (wpAny_specialOf hit.typeIs JM ?_);show wpAny _ A (specialOf (Value.ref it) (Str.ofString "__length_hint__") >>= _) Q E s
 refine wpAny_bind (wpAny_specialOf hit.typeIs LS ?_);generalize hid:("list_reverseiterator.__length_hint__":String)=id0
 dsimp only
 rw[show splitId id0=some ("list_reverseiterator","__length_hint__") from by subst hid;decide +kernel];subst hid;refine wpAny_bind (wpAny_isInstance (T:="list_reverseiterator") (b:=true) hit.typeIs (by rw[isSubtype_type];kernel_rfl) ?_);refine wpAny_ite_split (λz=>absurd z (by decide)) (λ_=>?_);refine wpAny_ite_split (λ_=>?_) (λz=>absurd (by decide +kernel) z);exact wpAny_ite_split (λz=>absurd z (by decide +kernel)) (λ_=>wpAny_pure q)
theorem LU {R:Result->Shared->Prop} {I l S:Addr} {items:Array Value} {res:Value} {c0:Nat} (hh:A.handled=none) (hit:s.heap.IsRevIter I l ((items.size:Int) - 1)) (hl:s.heap.IsList l items) (nI:l≠I) (nS:S≠I) (nL:S≠l) (hn:items.size<=sizeLine) (hS:s.heap.get? S=some { cls:=.type "list",data:=.seq #[] c0 })
  (hR:∀h' tk acc c,(∀b o,b≠S->b≠I->s.heap.get? b=some o->h'.get? b=some o)->h'.get? S=some { cls:=.type "list",data:=.seq acc c }->ItemsOf (λi v=>items[items.size - 1 - i]?=some v) acc items.size->R (.ok (.ret res)) { s with heap:=h',toks:=tk }) :
  wpAny (model prog w) A.in1 (Builtin.List.listExtendWith (.ref S) (.ref I) res) (λfin s2=>match fin with | .done f=>R (.ok f) s2 | .again c=>c.quiet=true/\codeAny (model prog w) A c R s2) (λe s2=>R (.error e) s2) s:=by
 have W:=(Walks.listRev (prog:=prog) (w:=w) (A:=A.in1) hh I l nI items).toS;unfold Builtin.List.listExtendWith;refine wpAny_bind (wpAny_typeOf hit.typeIs ?_);rw[if_neg (by simp [Builtin.List.listSameRef,nS])];refine wpAny_bind (wpAny_pyIter_revIter hit ?_);refine wpAny_bind (wpAny_holding (LQ hit ?_));refine wpAny_ite_split (λz=>absurd z (by decide +kernel)) (λ_=>?_);have h0:s.heap.IsRevIter I l ((items.size:Int) - 1 - ((0:Nat):Int)):=by simpa using hit
 refine wpAny_pure ⟨plainId_quiet F.plain_extend_loop _,codeAny_extend_loopS W hn S (by simp [nS,nL]) res items.size 0 s #[] c0 rfl (bf _) ⟨bf _,h0,hl⟩ hS (ItemsOf.nil _) λs2 acc c hm h2 hi=>?_⟩;rw[Moved.eq_with hm];exact hR s2.heap s2.toks acc c (λb o n1 n2 e=>hm.heap b o (by simp [n1,n2]) e) h2 hi
theorem LR {Q : Value → Shared → Prop} {I l : Addr} {items : Array Value} (hh : A.handled = none) (hit : s.heap.IsRevIter I l ((items.size : Int) - 1)) (hl : s.heap.IsList l items) (nI : l ≠ I) (hn : items.size ≤ sizeLine)
    (hQ : ∀ h' tk acc c, (∀ b o, b ≠ I → s.heap.get? b = some o → h'.get? b = some o) → h'.get? s.heap.objs.size = some { cls := .type "list", data := .seq acc c } → ItemsOf (λi v => items[items.size - 1 - i]? = some v) acc items.size → Q (.ref s.heap.objs.size) { s with heap := h', toks := tk }) :
    wpAny (model prog w) A (call (.type "list") [.ref I]) Q E s := by
  refine callType_codes (Q₁ := λx s2 => x = .ref s.heap.objs.size /\ s2 = { s with heap := s.heap.push { cls := .type "list", data := .seq #[] } }) F.called_list (F.typeCall_list_1 _) F.entry_list_init (code_list_new _ ⟨rfl, rfl⟩) λx s2 hx => ?_
  obtain ⟨rfl, rfl⟩ := hx;have up : ∀ b o, s.heap.get? b = some o → (s.heap.push { cls := .type "list", data := .seq #[] }).get? b = some o := λb o e => Heap.get?_push_of_some _ e
  have hS : (s.heap.push { cls := .type "list", data := .seq #[] }).get? s.heap.objs.size = some { cls := .type "list", data := .seq #[] } := Heap.get?_push_size _ rfl
  have lI : I ≠ s.heap.objs.size := by
    obtain ⟨o, ho, _⟩ := hit;exact bZ (Heap.lt_size ho)
  have lL : l ≠ s.heap.objs.size := by
    obtain ⟨o, ho, _⟩ := hl;exact bZ (Heap.lt_size ho)
  refine ⟨⟨_, hS, rfl⟩, F.args_list_init_2 _ _, ?_⟩;show wpAny _ A.in1.in1 (do let old <- Builtin.List.listItems (.ref s.heap.objs.size); Builtin.List.listUpdate (.ref s.heap.objs.size) (λ_ => #[]); letGo old.toList.reverse; Builtin.List.listExtendWith (.ref s.heap.objs.size) (.ref I) .none) _ _ _
  refine wpAny_bind ?_;unfold Builtin.List.listItems;refine wpAny_bind (wpAny_seqItems hS rfl (wpAny_pure ?_));refine wpAny_bind (m := Builtin.List.listUpdate (.ref s.heap.objs.size) (λ_ => #[])) (wpAny_updateSeq hS rfl ?_);have h3 := Heap.get?_update_self (Obj.mapSeq (λ_ => (#[] : Array Value))) hS rfl;have o3 : ∀ b o, b ≠ s.heap.objs.size → (s.heap.push { cls := .type "list", data := .seq #[] }).get? b = some o → ((s.heap.push { cls := .type "list", data := .seq #[] }).update s.heap.objs.size (Obj.mapSeq (λ_ => (#[] : Array Value)))).get? b = some o := λb o nb e => (Heap.get?_update_other _ _ (Ne.symm nb)).trans e
  refine wpAny_bind (wpAny_letGo ?_);refine LU (A := A.in1) hh (hit.at λo e => o3 _ _ lI (up _ _ e)) (hl.at λo e => o3 _ _ lL (up _ _ e)) nI lI.symm lL.symm hn h3 λh' tk acc c hk h2 hi => ?_
  exact ⟨rfl, hQ h' tk acc c (λb o nb e => hk b o (bZ (Heap.lt_size e)) nb (o3 _ _ (bZ (Heap.lt_size e)) (up _ _ e))) h2 hi⟩
end
section
variable {X:Cx}
def DZ (K:FG9) (ta:TA):TE:=λσ H Q=>ta σ H λvs H1=>∃l xs,vs=[.ref l]/\bN K H1 l xs/\xs.length<=1000/\∀L H',aG H1 H'->H1 L=none->H' L=some (.lst xs.reverse)->Q (.ref L) H'
theorem DW:∀{xs:List V} {us:List Value},cO xs us->cO xs.reverse us.reverse
 | _,_,.nil=>.nil
 | _,_,.cons h r=>by
  rw[vV,vV];exact cO.append (DW r) (.cons h .nil)
theorem FD (K:FG9) {e1:Expr} {ta:TA} {p p2 pos pos2:Pos} (hg:Gl X "list") (hm:X.mg "list"=none) (hg2:Gl X "reversed") (hm2:X.mg "reversed"=none) (ha:PA X [e1] ta) (hK:X.K=K:=by rfl) (hc:X.calm=true:=by rfl)
  (hs:starEach [e1] X.env=[(false,eval e1 X.env)]:=by rfl)
  (hs3:starEach [Expr.Call (.Name "reversed" p2) [e1] [] pos2] X.env=[(false,eval (.Call (.Name "reversed" p2) [e1] [] pos2) X.env)]:=by rfl) :
  PE X (.Call (.Name "list" p) [.Call (.Name "reversed" p2) [e1] [] pos2] [] pos) (DZ K ta):=by
 subst hK;intro pins s σ H Q I h;refine wpAny_Call_Name_kw (jT I hg hm boot_list ?_);refine PyProof.Rows.callWith_type1 ?_ (by rw[hs3];rfl) rfl;rw[hs3];show wpAny _ _ (spliced ((false,eval (.Call (.Name "reversed" p2) [e1] [] pos2) X.env) :: [])) _ _ s
 refine Calls.spliced_cons ?_;refine Call_ (jT I hg2 hm2 boot_reversed (PyProof.Rows.callWith_type1 (gQ (ha pos2 pins s σ H _ I h) λus s1 ⟨vs,H1,I1,r1,q1⟩=>?_) hs rfl));obtain ⟨l,xs,e,hl,hn,q⟩:=q1;subst e;obtain ⟨u,rfl,ru⟩:=vals1 r1;cases ru;obtain ⟨its,rv,pl,hz⟩:=I1.list hl;have hlen:=rv.length;have pI:=pl.isList;refine call_reversed_list pI ?_;refine Calls.spliced_nil ?_;have kp:∀b o,s1.heap.get? b=some o->(s1.heap.push (revObj l ((its.toArray.size:Int) - 1))).get? b=some o:=λb o e=>Heap.get?_push_of_some _ e
 have nI:l≠s1.heap.objs.size:=by
  obtain ⟨o,ho,_⟩:=pI;exact bZ (Heap.lt_size ho)
 refine LR (I.ok.hd hc) (I:=s1.heap.objs.size) (l:=l) (items:=its.toArray) ⟨_,Heap.get?_push_size _ rfl,rfl,rfl⟩ (pI.at λo e=>kp _ _ e) nI (by rw[aJ];lia) λh' tk acc c hk hS hacc=>?_
 have sz:s1.heap.objs.size<=(s1.heap.push (revObj l ((its.toArray.size:Int) - 1))).objs.size:=by rw[Heap.size_push];exact lW _
 have nS:=I1.hok.fresh sz
 have ea:acc.toList=its.reverse:=by
  apply ie;intro j;rcases cb j its.length with z | z
  ·have hj:j < acc.toList.length:=by rw[Array.length_toList,hacc.1,aJ];exact z
   have:=hacc.2 j acc.toList[j] (by rw[<- Array.getElem?_toList];exact af hj);rw[af hj,List.getElem?_reverse z];simpa using this.symm
  ·rw[aM (by rw[Array.length_toList,hacc.1,aJ];exact z),aM (by rw[kD];exact z)]
 have vs':cO xs.reverse acc.toList:=by rw[ea];exact DW rv
 have sl:xs.reverse.length<=sizeLine:=by rw[kD];exact hz
 refine ⟨.ref _,_,I1.laid (o:=.lst xs.reverse) (λb o e=>hk b o (bZ (Heap.lt_size e)) (kp b o e)) sz ?_,rfl,q _ _ (aG.new nS) nS aK⟩;exact ⟨sl,acc.toList,c,vs',by simpa using hS⟩
end
theorem EG {F G:List iB->Rat} {r:Nat} {g:Nat->Rat} {c:Rat} (hF:∀ws:List iB,F (ws.map λv i=>g i*v i)=c*G ws):∀(post pre:List iB) (s:Rat),AJ F r (pre.map λv i=>g i*v i) (post.map λv i=>g i*v i) s=g r*c*AJ G r pre post s
 | [],_,_=>by show (0:Rat)=_*0;grind
 | v :: post,pre,s=>by
  have i1:=hF (pre++post);have i2:=EG (r:=r) hF post (pre++[v]) (-s);simp only[cJ,ij,List.map_nil,AJ] at i1 i2 ⊢;rw[i1,i2];grind
theorem vd {g : Nat → Rat} : ∀ (rs : List Nat) (vs : List iB), jh rs (vs.map λv i => g i * v i) = (rs.map g).foldr (· * ·) 1 * jh rs vs
  | [], [] => by show (1 : Rat) = 1 * 1; grind
  | [], _ :: _ => by show (0 : Rat) = 1 * 0; grind
  | r :: rs, vs => by
    have := EG (r := r) (F := λws => jh rs ws) (G := λws => jh rs ws) (c := (rs.map g).foldr (· * ·) 1) (λws => vd rs ws) vs [] 1;exact this
theorem C2 {g:Nat->Rat}:∀{rs:List Nat},(∀r∈rs,g r≠0)->(rs.map g).foldr (·*·) 1≠0
 | [],_=>by show (1:Rat)≠0;decide
 | r :: rs,h=>by
  show g r*_≠0
  have h1:=h r (.head _);have h2:=C2 λr' hr'=>h r' (.tail _ hr')
  intro z;rcases AD.mp z with z | z
  ·exact h1 z
  ·exact h2 z
section
variable {rows R X K0:LR9} {due L:List Rat} {n m M W D E W0 W1:Nat} {ps:List Nat}
theorem BS (hw:∀xs∈rows,xs.length=n) (hW:1<=W) (h0:0 < M) (h3:∀xs∈rows,∀x∈xs,Tp M W x) (RR:bY rows n R ps):∃pm:Nat->Nat,(∀i j,i < ps.length->j < ps.length->pm i=pm j->i=j)/\(∀t,t < ps.length->pm t < rows.length)/\ps.length<=rows.length/\jh (j5 pm ps.length) (iO (λj i=>cu rows i (ps.getD j 0)) ps.length)≠0:=by
 have ent:=NS h0 h3;obtain ⟨ls,ps2,d,I⟩:=A8 hw hW (by rw[ar];exact ent) n (aj _);obtain ⟨_,_,⟨pm,B⟩,E⟩:=I;rw[ar] at B E
 have RF:DS rows.length n (cu rows) ps2.length (λj=>ps2.getD j 0) (λi c=>d7 ls i c / d):=DS.other (E.done λi hi c hc=>wY (n:=n) (λzs hz=>by
  obtain ⟨xs,hx,rfl⟩:=aD.mp hz;rw[pY];exact hw xs hx) hc) Cr Cs
 obtain ⟨e1,e2,e3⟩:=RF.uniq RR.2.2 (λ_ hi=>eK.row hi) (λ_ hi=>eK.row hi);have km:=B.km;have dt:=B.det;have d0:=B.d0
 have e4:jh (j5 pm ps2.length) ([]++iO (λj r=>d7 (rows.map gE) r (ps2.getD j 0)) ps2.length)=jh (j5 pm ps2.length) ([]++iO (λj i=>l8 rows i*cu rows i (ps.getD j 0)) ps2.length):=DD [] λj hj r hr=>by
  obtain ⟨t,ht,rfl⟩:=jQ hr;rw[xi (B.rng t (by lia)),e2 j hj];rfl
 have e5:iO (λj i=>l8 rows i*cu rows i (ps.getD j 0)) ps2.length=(iO (λj i=>cu rows i (ps.getD j 0)) ps2.length).map λv i=>l8 rows i*v i:=(cw_map (τ:=λv i=>l8 rows i*v i)).symm
 refine ⟨pm,λi j hi hj e=>B.inj i j (by lia) (by lia) e,λt ht=>B.rng t (by lia),by lia,?_⟩;rw[<- e1];intro z;apply d0;rw[dt];have e4:jh (j5 pm ps2.length) (iO (λj r=>d7 (rows.map gE) r (ps2.getD j 0)) ps2.length)=jh (j5 pm ps2.length) (iO (λj i=>l8 rows i*cu rows i (ps.getD j 0)) ps2.length):=e4;rw[e4,e5,vd,z,fN]
theorem Nh (hd:due.length=X.length) (hw:∀xs∈X,xs.length=n) (RR:bY (cX X due) (n+1) R ps) (hn:n∉ps) {i:Nat} (hi:i < X.length):due.getD i 0=bR ps.length λj=>cu R j n*cu X i (ps.getD j 0):=by
 obtain ⟨j1,j2⟩:=xu hd hw hi;have sp:=RR.2.2.span i (by rw[nE hd];exact hi);have:=RR.2.2.coef sp n;rw[<- j2,this];refine bp λj hj=>?_
 have lo:=RR.2.2.low j hj;have ne:ps.getD j 0≠n:=λz=>hn (by rw[<- z];exact getD_in hj)
 rw[j1 _ (by lia)];exact dP _ _
theorem Gy (RR:bY X (n+1) R ps) {y:Rat} (hy:y∈fP R ps n):y=0\/∃j,j < ps.length/\y=cu R j n:=by
 obtain ⟨c,hc,rfl⟩:=bK hy;have lc:(fP R ps n).length=n:=jM;have e:(fP R ps n)[c]=(fP R ps n).getD c 0:=by rw[aa,af hc];rfl
 rw[e];by_cases hp:c∈ps
 ·obtain ⟨j,hj,ej⟩:=bK hp
  right
  refine ⟨j,hj,?_⟩;have ej':ps.getD j 0=c:=by rw[aa,af hj];exact ej
  have:=JG (R:=R) (ps:=ps) (n:=n) (j:=ps.length) (c:=c) (by lia);unfold fP;rw[this,iP hj λi hi ne=>if_neg λz=>?_,if_pos ej'];rcases cb i j with y | y
  ·have:=RR.2.2.inc i j y hj
   lia
  ·have:=RR.2.2.inc j i (by lia) hi
   lia
 ·exact .inl (LO hp)
theorem O0 {N Wx:Nat} {rs:List Nat} {vs:List iB} (hl:vs.length<=N) (h:∀v∈vs,∀r∈rs,Fr 1 Wx (v r)):∃z:Int,jh rs vs=(z:Rat)/\z.natAbs<=(N*Wx)^rs.length:=by
 have f:=xv hl h;obtain ⟨z,ez⟩:=kf f;rw[ez] at f;exact ⟨z,ez,kH f⟩
theorem LL {e:Nat} (he:ps.length<=n->ps.length<=e) (hK:∀xs∈K0,xs.length=n) (hL:L.length=n) (n15:n<=15) (D0:0 < D) (E0:0 < E) (w0:1<=W0) (w1:1<=W1) (tk:∀xs∈K0,∀x∈xs,Tp D W0 x) (tl:∀x∈L,Tp E W1 x) (RR:bY (cX (cU K0 n) L) (K0.length+1) R ps) (hn:K0.length∉ps) :
  ∃q:Nat,0 < q/\q<=(16*W0)^e/\∀y∈fP R ps K0.length,Tp (E*q) (D*(n*(W1*(16*W0)^e))) y:=by
 have lt:(cU K0 n).length=n:=c9;have wt:∀xs∈cU K0 n,xs.length=K0.length:=jL;have hd:L.length=(cU K0 n).length:=by rw[lt];exact hL
 have tfn:∀i,i < n->∀j,cu (cU K0 n) i j=cu K0 j i:=λi hi j=>by
  unfold cu;rw[aa (l:=cU K0 n),yW hi];show (K0.map λxs=>xs.getD i 0).getD j 0=_
  rw[aa,aL,aa (l:=K0)];cases K0[j]? with
  | none=>show (0:Rat)=([]:List Rat).getD i 0;rw[aa];rfl
  | some xs=>rfl
 have tkf:∀j i,Tp D W0 (cu K0 j i):=λj i=>by
  unfold cu;rw[aa (l:=K0)];by_cases hj:j < K0.length
  ·rw[af hj];exact jY (tk _ (aP hj)) i
  ·rw[aM (by lia)];show Tp D W0 (([]:List Rat).getD i 0)
   exact jY (by intro x z;cases z) i
 have tlf:∀i,Tp E W1 (L.getD i 0):=λi=>jY tl i
 have tj:∀xs∈cX (cU K0 n) L,∀x∈xs,Tp (D*E) (W0*E+W1*D) x:=Hs λi hi c=>by
  rw[nE hd,lt] at hi;obtain ⟨j1,j2⟩:=xu hd wt (by rw[lt];exact hi);by_cases hc:c < K0.length
  ·rw[j1 c hc,tfn i hi];obtain ⟨z,ee,b⟩:=tkf c i;exact ⟨z*E,by rw[eN,aQ,<- ee,aH];grind,by rw[cy,bw];exact ai (ay _ b) (yu _ _)⟩
  ·by_cases hc2:c=K0.length
   ·rw[hc2,j2];obtain ⟨z,ee,b⟩:=tlf i;exact ⟨z*D,by rw[eN,aQ,<- ee,aH];grind,by rw[cy,bw];exact ai (ay _ b) (Nat.le_add_left _ _)⟩
   ·rw[Af (uX wt) (by lia)];exact ⟨0,by rw[kh];rfl,bf _⟩
 obtain ⟨pm,pinj,plt,kn,dne⟩:=BS (uX wt) (W:=W0*E+W1*D) (ai (bE w0 E0) (yu _ _)) (bE D0 E0) tj RR;rw[nE hd,lt] at plt kn
 have pl:∀j,j < ps.length->ps.getD j 0 < K0.length:=λj hj=>by
  have lo:=RR.2.2.low j hj;have ne:ps.getD j 0≠K0.length:=λz=>hn (by rw[<- z];exact getD_in hj)
  lia
 have Dne:(D:Rat)≠0:=λz=>by
  have:((D:Int):Rat)=0:=by rw[aH];exact z
  have:=kJ this
  lia
 have Ene:(E:Rat)≠0:=λz=>by
  have:((E:Int):Rat)=0:=by rw[aH];exact z
  have:=kJ this
  lia
 have rlt:∀r∈j5 pm ps.length,r < n:=λr hr=>by
  obtain ⟨t,ht,rfl⟩:=jQ hr;exact plt t ht
 obtain ⟨v,ev⟩:∃v:Nat->iB,v=λj i=>(D:Rat)*cu K0 (ps.getD j 0) i:=⟨_,rfl⟩
 have vint:∀j r,Fr 1 W0 (v j r):=λj r=>by
  obtain ⟨z,ee,b⟩:=tkf (ps.getD j 0) r;rw[ev];show Fr 1 W0 ((D:Rat)*_)
  rw[dP,ee];exact Fr.int b
 have den:jh (j5 pm ps.length) (iO v ps.length)≠0:=by
  have e1:jh (j5 pm ps.length) ([]++iO v ps.length)=jh (j5 pm ps.length) ([]++iO (λj i=>(D:Rat)*cu (cX (cU K0 n) L) i (ps.getD j 0)) ps.length):=DD [] λj hj r hr=>by
   have hr:=rlt r hr;obtain ⟨j1,_⟩:=xu hd wt (i:=r) (by rw[lt];exact hr);rw[j1 _ (pl j hj),tfn r hr,ev]
  have e2:iO (λj i=>(D:Rat)*cu (cX (cU K0 n) L) i (ps.getD j 0)) ps.length=(iO (λj i=>cu (cX (cU K0 n) L) i (ps.getD j 0)) ps.length).map λv i=>(λ_=>(D:Rat)) i*v i:=(cw_map (τ:=λv i=>(D:Rat)*v i)).symm
  have e1:jh (j5 pm ps.length) (iO v ps.length)=jh (j5 pm ps.length) (iO (λj i=>(D:Rat)*cu (cX (cU K0 n) L) i (ps.getD j 0)) ps.length):=e1;rw[e1,e2,vd];intro z;rcases AD.mp z with z | z
  ·exact C2 (g:=λ_=>(D:Rat)) (λ_ _=>Dne) z
  ·exact dne z
 obtain ⟨q,eq,bq⟩:=O0 (N:=16) (Wx:=W0) (rs:=j5 pm ps.length) (vs:=iO v ps.length) (by rw[cw_len];lia) λw hw r _=>by
  obtain ⟨t,_,rfl⟩:=cw_in hw;exact vint t r
 rw[qQ] at bq;have up:(16*W0)^ps.length<=(16*W0)^e:=au (by lia) (he kn);have q0:q≠0:=λz=>den (by rw[eq,z];rfl)
 refine ⟨q.natAbs,by lia,ai bq up,λy hy=>?_⟩;rcases Gy RR hy with rfl | ⟨i,hi,rfl⟩
 ·exact ⟨0,by rw[kh];rfl,bf _⟩
 ·have hW:∀r∈j5 pm ps.length,(E:Rat)*L.getD r 0=bR ps.length λj=>((E:Rat)*cu R j K0.length / D)*v j r:=λr hr=>by
   have hr:=rlt r hr;rw[Nh hd wt RR hn (i:=r) (by rw[lt];exact hr),<- dc];refine bp λj hj=>?_
   rw[tfn r hr,ev]
   dsimp only
   grind
  have cr:=wZ (v:=v) (c:=λj=>(E:Rat)*cu R j K0.length / D) (W:=λr=>(E:Rat)*L.getD r 0) hi hW
  have ex:jh (j5 pm ps.length) (Fd v i ps.length++(λr=>(E:Rat)*L.getD r 0) :: iO v i)=bR ps.length λt=>((E:Rat)*L.getD (pm t) 0)*jh (j5 pm ps.length) (Fd v i ps.length++(λr=>if r=pm t then 1 else 0) :: iO v i):=DB (W:=λ_=>0) (v:=λt r=>if r=pm t then 1 else 0) (c:=λt=>(E:Rat)*L.getD (pm t) 0) _ _ (λr hr=>by
   obtain ⟨t,ht,rfl⟩:=jQ hr;rw[iP ht λj hj ne=>by rw[if_neg λz=>ne (pinj j t hj ht z.symm),fN],if_pos rfl,Co])
  have hlen:∀x:iB,(Fd v i ps.length++x :: iO v i).length<=16:=λx=>by
   have:=congrArg List.length (cw_split (v:=v) hi);rw[ak,ba,cw_len] at this;rw[ak,ba]
   lia
  have nf:Fr 1 (n*(W1*(16*W0)^e)) (jh (j5 pm ps.length) (Fd v i ps.length++(λr=>(E:Rat)*L.getD r 0) :: iO v i)):=by
   rw[ex];refine (KN (V:=W1*(16*W0)^e) λt ht=>?_).mono (ay _ kn);obtain ⟨z,ee,b⟩:=tlf (pm t)
   have f1:Fr 1 W1 ((E:Rat)*L.getD (pm t) 0):=by
    rw[dP,ee];exact Fr.int b
   have f2:=xv (W:=W0) (N:=16) (rs:=j5 pm ps.length) (hlen λr=>if r=pm t then 1 else 0) λw hw r _=>by
    rcases aw.mp hw with hw | hw
    ·obtain ⟨s,_,rfl⟩:=Ap hw;exact vint s r
    ·rcases aB.mp hw with rfl | hw
     ·dsimp only
      split
      ·exact Fr.one w0
      ·exact Fr.zero
     ·obtain ⟨s,_,rfl⟩:=cw_in hw;exact vint s r
   rw[qQ] at f2;have:=f1.mul f2;rw[pS] at this;exact this.mono (aF _ up)
  obtain ⟨z,ez⟩:=kf nf;rw[ez] at nf cr;have bz:=kH nf;rw[eq] at cr
  have key:cu R i K0.length*((E:Rat)*(q:Rat))=(D:Rat)*(z:Rat):=by
   rw[cr];grind
  have kq:(((E*q.natAbs:Nat):Rat))=(E:Rat)*((q.natAbs:Nat):Rat):=eN ..;rcases vY q with h | h
  ·have hq:((q.natAbs:Nat):Rat)=(q:Rat):=by rw[<- aH,<- h]
   refine ⟨D*z,?_,by rw[cy,bw];exact aF _ bz⟩;rw[kq,hq,key,aQ,aH]
  ·have hq:((q.natAbs:Nat):Rat)=-(q:Rat):=by rw[<- aH,<- cR];congr 1;lia
   refine ⟨-(D*z),?_,by rw[mJ,cy,bw];exact aF _ bz⟩;rw[kq,hq,cR,aQ,aH,<- key];grind
theorem N5 (hK:∀xs∈K0,xs.length=n) (hL:L.length=n) (n15:n<=15) (D0:0 < D) (E0:0 < E) (w0:1<=W0) (w1:1<=W1) (tk:∀xs∈K0,∀x∈xs,Tp D W0 x) (tl:∀x∈L,Tp E W1 x) (RR:bY (cX (cU K0 n) L) (K0.length+1) R ps) (hn:K0.length∉ps) :
  ∃q:Nat,0 < q/\q<=(16*W0)^n/\∀y∈fP R ps K0.length,Tp (E*q) (D*(n*(W1*(16*W0)^n))) y :=
 LL (λh=>h) hK hL n15 D0 E0 w0 w1 tk tl RR hn
theorem Fx {pm w : Nat → Nat} {X Y s : Nat} (hX : 1 ≤ X) (hY : 1 ≤ Y) (h1 : ∀ r, r ≠ s → w r ≤ X) (h2 : w s ≤ Y) : ∀ k, (∀ i j, i < k → j < k → pm i = pm j → i = j) → ((∃ t, t < k /\ pm t = s) → ((j5 pm k).map w).foldr (· * ·) 1 ≤ X ^ k * Y) /\ ((∀ t, t < k → pm t ≠ s) → ((j5 pm k).map w).foldr (· * ·) 1 ≤ X ^ k)
  | 0, _ => ⟨λ⟨t, h, _⟩ => absurd h (fD _), λ_ => aj _⟩
  | k + 1, inj => by
    obtain ⟨i1, i2⟩ := Fx (pm := pm) (w := w) hX hY h1 h2 k λi j hi hj => inj i j (by lia) (by lia)
    have mul : ((j5 pm (k + 1)).map w).foldr (· * ·) 1 = w (pm k) * ((j5 pm k).map w).foldr (· * ·) 1 := rfl;refine ⟨λ⟨t, ht, et⟩ => ?_, λh => ?_⟩
    · rw [mul];by_cases e : pm k = s
      · have := i2 λt' ht' z => by
          have := inj t' k (by lia) (by lia) (z.trans e.symm)
          lia
        rw [e]
        calc w s * _ ≤ Y * X ^ k := aA h2 this
          _ = X ^ k * Y := bQ _ _
          _ ≤ X ^ (k + 1) * Y := ay _ (au hX (lW _))
      · have := i1 ⟨t, by rcases cb t k with z | z; exact z; exact absurd (by rw [show k = t by lia]; exact et) e, et⟩
        calc w (pm k) * _ ≤ X * (X ^ k * Y) := aA (h1 _ e) this
          _ = X ^ (k + 1) * Y := by rw [dC, <- b9, bQ X]
    · rw [mul, dC, bQ (X ^ k)];exact aA (h1 _ (h k (by lia))) (i2 λt ht => h t (by lia))
theorem C1 {pm w:Nat->Nat} {X Y s:Nat} (hX:1<=X) (hY:1<=Y) (h1:∀r,r≠s->w r<=X) (h2:w s<=Y) {k n:Nat} (hk:k<=n) (inj:∀i j,i < k->j < k->pm i=pm j->i=j):((j5 pm k).map w).foldr (·*·) 1<=X^n*Y:=by
 obtain ⟨a,b⟩:=Fx (pm:=pm) (w:=w) hX hY h1 h2 k inj;have up:X^k<=X^n:=au hX hk;by_cases e:∃t,t < k/\pm t=s
 ·exact ai (a e) (ay _ up)
 ·exact ai (b λt ht z=>e ⟨t,ht,z⟩) (ai up (dh _ hY))
theorem Iu {e:Nat} (he:ps.length<=n->ps.length<=K0.length+1->ps.length<=e) (hK:∀xs∈K0,xs.length=n) (hL:L.length=n) (n15:n<=15) (D0:0 < D) (E0:0 < E) (w0:1<=W0) (tk:∀xs∈K0,∀x∈xs,Tp D W0 x) (tl:∀x∈L,Tp E W1 x) (RR:bY (cX (K0++[L]) (List.replicate K0.length 0++[1])) (n+1) R ps) (hn:n∉ps) :
  ∃q:Nat,0 < q/\q<=(16*W0)^e*(16*(W1+E))/\∀y∈fP R ps n,Tp q ((16*W0)^e*(16*(W1+E))) y:=by
 have hw:∀xs∈K0++[L],xs.length=n:=λxs hx=>by
  rcases aw.mp hx with hx | hx
  ·exact hK xs hx
  ·rw[bB.mp hx];exact hL
 have hd:(List.replicate K0.length (0:Rat)++[1]).length=(K0++[L]).length:=by simp
 have lX:(K0++[L]).length=K0.length+1:=by simp
 have due:∀i,i < K0.length+1->(List.replicate K0.length (0:Rat)++[1]).getD i 0=if i=K0.length then 1 else 0:=λi hi=>by
  rw[aa];by_cases ee:i=K0.length
  ·rw[a9 (by simp;lia),if_pos ee];simp [ee]
  ·rw[bu (by simp;lia),if_neg ee,fA,if_pos (by lia)];rfl
 have tX:∀i c,Tp (if i=K0.length then E else D) (if i=K0.length then W1 else W0) (cu (K0++[L]) i c):=λi c=>by
  by_cases ee:i=K0.length
  ·rw[if_pos ee,if_pos ee,ee];have:=uu (X:=K0) (Y:=[L]) (i:=0);rw[Nat.add_zero] at this;rw[this];exact jY tl c
  ·rw[if_neg ee,if_neg ee];by_cases h:i < K0.length
   ·rw[yD h];unfold cu;rw[aa (l:=K0),af h];exact jY (tk _ (aP h)) c
   ·unfold cu;rw[aa (l:=K0++[L]),aM (by rw[lX];lia)];exact jY (by intro x z;cases z) c
 have tj:∀xs∈cX (K0++[L]) (List.replicate K0.length 0++[1]),∀x∈xs,Tp (D*E) (W0*E+W1*D+D*E) x:=Hs λi hi c=>by
  rw[nE hd] at hi;obtain ⟨j1,j2⟩:=xu hd hw hi;by_cases hc:c < n
  ·rw[j1 c hc];obtain ⟨z,ee,b⟩:=tX i c;by_cases h:i=K0.length
   ·rw[if_pos h] at ee b;exact ⟨z*D,by rw[eN,aQ,<- ee,aH];grind,by rw[cy,bw];have:=ay D b;lia⟩
   ·rw[if_neg h] at ee b;exact ⟨z*E,by rw[eN,aQ,<- ee,aH];grind,by rw[cy,bw];have:=ay E b;lia⟩
  ·by_cases hc2:c=n
   ·rw[hc2,j2,due i (by lia)]
    split
    ·exact ⟨(D*E:Nat),by rw[Rat.one_mul,aH],by rw[bw];lia⟩
    ·exact ⟨0,by rw[kh];rfl,bf _⟩
   ·rw[Af (uX hw) (by lia)];exact ⟨0,by rw[kh];rfl,bf _⟩
 obtain ⟨pm,pinj,plt,kn1,dne⟩:=BS (uX hw) (W:=W0*E+W1*D+D*E) (by have:=bE D0 E0;lia) (bE D0 E0) tj RR;rw[nE hd,lX] at plt kn1
 have pl:∀j,j < ps.length->ps.getD j 0 < n:=λj hj=>by
  have lo:=RR.2.2.low j hj;have ne:ps.getD j 0≠n:=λz=>hn (by rw[<- z];exact getD_in hj)
  lia
 have kn:ps.length<=n:=by
  have inc:∀j,j < ps.length->j<=ps.getD j 0:=by
   intro j
   induction j with
   | zero=>intro _;exact bf _
   | succ j ih =>
    intro hj;have:=ih (by lia);have:=RR.2.2.inc j (j+1) (by lia) hj
    lia
  rcases gJ ps.length with z | z
  ·lia
  ·have:=inc (ps.length - 1) (by lia);have:=pl (ps.length - 1) (by lia)
   lia
 obtain ⟨g,eg⟩:∃g:Nat->Rat,g=λi=>((if i=K0.length then E else D:Nat):Rat):=⟨_,rfl⟩
 have gne:∀i,g i≠0:=λi z=>by
  rw[eg] at z;have z:(((if i=K0.length then E else D:Nat):Int):Rat)=0:=by rw[aH];exact z
  have:=kJ z
  split at this <;> lia
 have rlt:∀r∈j5 pm ps.length,r < K0.length+1:=λr hr=>by
  obtain ⟨t,ht,rfl⟩:=jQ hr;exact plt t ht
 obtain ⟨v,ev⟩:∃v:Nat->iB,v=λj i=>g i*cu (K0++[L]) i (ps.getD j 0):=⟨_,rfl⟩
 obtain ⟨wt,ew⟩:∃wt:Nat->Nat,wt=λi=>if i=K0.length then W1+E else W0:=⟨_,rfl⟩
 have vint:∀j r,Fr 1 (wt r) (v j r):=λj r=>by
  obtain ⟨z,ee,b⟩:=tX r (ps.getD j 0);rw[ev,eg,ew];show Fr 1 _ (_*_)
  rw[dP,ee];refine (Fr.int b).mono ?_
  dsimp only
  split <;> lia
 have bnd:∀{vs:List iB},vs.length<=16->(∀w∈vs,∀r∈j5 pm ps.length,Fr 1 (wt r) (w r))->∃z:Int,jh (j5 pm ps.length) vs=(z:Rat)/\z.natAbs<=(16*W0)^e*(16*(W1+E)):=λ{vs} hl h=>by
  have f:=Ag hl h;obtain ⟨z,ez⟩:=kf f;rw[ez] at f;refine ⟨z,ez,ai (kH f) (C1 (s:=K0.length) (by lia) (by lia) (λr hr=>?_) ?_ (he kn kn1) pinj)⟩
  ·rw[ew];dsimp only;rw[if_neg hr];exact aj _
  ·rw[ew];dsimp only;rw[if_pos rfl];exact aj _
 have den:jh (j5 pm ps.length) (iO v ps.length)≠0:=by
  have e1:jh (j5 pm ps.length) ([]++iO v ps.length)=jh (j5 pm ps.length) ([]++iO (λj i=>g i*cu (cX (K0++[L]) (List.replicate K0.length 0++[1])) i (ps.getD j 0)) ps.length):=DD [] λj hj r hr=>by
   have hr:=rlt r hr;obtain ⟨j1,_⟩:=xu hd hw (i:=r) (by rw[lX];exact hr);rw[j1 _ (pl j hj),ev]
  have e2:iO (λj i=>g i*cu (cX (K0++[L]) (List.replicate K0.length 0++[1])) i (ps.getD j 0)) ps.length=(iO (λj i=>cu (cX (K0++[L]) (List.replicate K0.length 0++[1])) i (ps.getD j 0)) ps.length).map λv i=>g i*v i:=(cw_map (τ:=λv i=>g i*v i)).symm
  have e1:jh (j5 pm ps.length) (iO v ps.length)=jh (j5 pm ps.length) (iO (λj i=>g i*cu (cX (K0++[L]) (List.replicate K0.length 0++[1])) i (ps.getD j 0)) ps.length):=e1;rw[e1,e2,vd];intro z;rcases AD.mp z with z | z
  ·exact C2 (λr _=>gne r) z
  ·exact dne z
 obtain ⟨q,eq,bq⟩:=bnd (vs:=iO v ps.length) (by rw[cw_len];lia) λw hw r _=>by
  obtain ⟨t,_,rfl⟩:=cw_in hw;exact vint t r
 have q0:q≠0:=λz=>den (by rw[eq,z];rfl)
 refine ⟨q.natAbs,by lia,bq,λy hy=>?_⟩;rcases Gy RR hy with rfl | ⟨i,hi,rfl⟩
 ·exact ⟨0,by rw[kh];rfl,bf _⟩
 ·have hW:∀r∈j5 pm ps.length,g r*(if r=K0.length then 1 else 0)=bR ps.length λj=>cu R j n*v j r:=λr hr=>by
   have hr:=rlt r hr;rw[<- due r hr,Nh hd hw RR hn (i:=r) (by rw[lX];exact hr),<- dc];refine bp λj hj=>?_
   rw[ev]
   dsimp only
   grind
  have cr:=wZ (v:=v) (c:=λj=>cu R j n) (W:=λr=>g r*(if r=K0.length then 1 else 0)) hi hW
  obtain ⟨z,ez,bz⟩:=bnd (vs:=Fd v i ps.length++(λr=>g r*(if r=K0.length then 1 else 0)) :: iO v i) (by
   have:=congrArg List.length (cw_split (v:=v) hi);rw[ak,ba,cw_len] at this;rw[ak,ba]
   lia) λw hw r _=>by
    rcases aw.mp hw with hw | hw
    ·obtain ⟨s,_,rfl⟩:=Ap hw;exact vint s r
    ·rcases aB.mp hw with rfl | hw
     ·dsimp only
      by_cases ee:r=K0.length
      ·rw[if_pos ee,Co,eg,ew]
       dsimp only
       rw[if_pos ee,if_pos ee,<- aH];exact Fr.int (by rw[bw];lia)
      ·rw[if_neg ee,fN];exact Fr.zero
     ·obtain ⟨s,_,rfl⟩:=cw_in hw;exact vint s r
  rw[ez,eq] at cr;have key:cu R i n*(q:Rat)=(z:Rat):=cr.symm;rcases vY q with h | h
  ·have hq:((q.natAbs:Nat):Rat)=(q:Rat):=by rw[<- aH,<- h]
   exact ⟨z,by rw[hq,key],bz⟩
  ·have hq:((q.natAbs:Nat):Rat)=-(q:Rat):=by rw[<- aH,<- cR];congr 1;lia
   exact ⟨-z,by rw[hq,cR,<- key];grind,by rw[mJ];exact bz⟩
theorem J5 (hK:∀xs∈K0,xs.length=n) (hL:L.length=n) (n15:n<=15) (D0:0 < D) (E0:0 < E) (w0:1<=W0) (tk:∀xs∈K0,∀x∈xs,Tp D W0 x) (tl:∀x∈L,Tp E W1 x) (RR:bY (cX (K0++[L]) (List.replicate K0.length 0++[1])) (n+1) R ps) (hn:n∉ps) :
  ∃q:Nat,0 < q/\q<=(16*W0)^n*(16*(W1+E))/\∀y∈fP R ps n,Tp q ((16*W0)^n*(16*(W1+E))) y :=
 Iu (λh _=>h) hK hL n15 D0 E0 w0 tk tl RR hn
end
def iG (mv:LR9):Nat->List Rat->List Rat
 | 0,x=>x
 | t+1,x=>pT mv (iG mv t x)
section
variable {mv pt lk pus:LR9} {st pu go:List Rat} {n t T c:Nat}
theorem iF (h:st.length=mv.length):∀t,(iG mv t st).length=mv.length
 | 0=>h
 | _+1=>C5
theorem KH {x y:List Rat} (h:x.length=y.length) (e:∀c,c < x.length->x.getD c 0=y.getD c 0):x=y:=by
 apply eX h;intro c h1 h2;have:=e c h1;rwa [aa,aa,af h1,af h2] at this
theorem Qp (wm:∀xs∈mv,xs.length=mv.length) (h:st.length=mv.length) (hc:c < mv.length):(pT mv st).getD c 0=bR mv.length λj=>cu mv c j*st.getD j 0:=by
 have e:(pT mv st).getD c 0=dR mv[c] st:=by
  unfold pT;rw[aa,aL,af hc];rfl
 have wc:=wm _ (aP hc);rw[e,fw (by lia),wc];refine bp λj _=>?_
 unfold cu;rw[aa (l:=mv),af hc];rfl
theorem Ki (D:fz mv pt lk) (h:st.length=mv.length) (hp:pu.length=pt.length) (hc:c < mv.length):(gY mv pt st pu).getD c 0=bR mv.length (λj=>cu mv c j*st.getD j 0)+bR pt.length λi=>pu.getD i 0*cu pt i c:=by
 have wc:=D.mw _ (aP hc)
 have e:(gY mv pt st pu).getD c 0=dR (mv[c]++pt.map λxs=>xs.getD c 0) (st++pu):=by
  unfold gY;rw[aa,bT,af hc,yW hc];rfl
 rw[e,rk (by lia),fw (by lia),fw (by rw[ar];lia),wc,ar];congr 1
 ·refine bp λj _=>?_
  unfold cu;rw[aa (l:=mv),af hc];rfl
 ·refine bp λi hi=>?_
  rw[dP];congr 1;unfold cu;rw[aa,aL,aa (l:=pt),af hi];rfl
theorem rO:∀t,(kry mv pt t).length=t*pt.length
 | 0=>by rw[Nat.zero_mul];rfl
 | t+1=>by
  show (pt++(kry mv pt t).map (pT mv)).length=_
  rw[ak,ar,rO t,dA,rX]
theorem CA (D:fz mv pt lk) (ls:st.length=mv.length):∀k,k<=pus.length->(∀xs∈pus,xs.length=pt.length)->∀c,c < mv.length->(oh mv pt st pus k).getD c 0=(iG mv k st).getD c 0+bR (kry mv pt k).length λi=>((pus.take k).reverse.flatten).getD i 0*cu (kry mv pt k) i c:=by
 intro k
 induction k with
 | zero =>
  intro _ _ c _;show st.getD c 0=st.getD c 0+0
  grind
 | succ k ih =>
  intro hk hp c hc;have hk':k < pus.length:=hk;have e:=af hk';have hl:=hp _ (aP hk');have ls':=oo (pt:=pt) (pus:=pus) ls (k:=k) (by lia)
  have lf:((pus.take k).reverse.flatten).length=(kry mv pt k).length:=by
   rw[rO,EM (i:=pt.length) λxs hx=>hp xs (b7 (yv.mp hx)),kD,cH,pV (by lia)]
  rw[p7 e,Ki D ls' hl hc]
  have er:(pus.take (k+1)).reverse.flatten=pus[k]++(pus.take k).reverse.flatten:=by
   rw[take_snoc e,List.reverse_append];simp
  have ek:kry mv pt (k+1)=pt++(kry mv pt k).map (pT mv):=rfl;rw[er,ek,ak,ar,v7]
  have p1:(bR pt.length λi=>(pus[k]++(pus.take k).reverse.flatten).getD i 0*cu (pt++(kry mv pt k).map (pT mv)) i c)=bR pt.length λi=>pus[k].getD i 0*cu pt i c:=bp λi hi=>by
   rw[yD hi,aa,bu (by lia),aa]
  have p2:(bR (kry mv pt k).length λi=>(pus[k]++(pus.take k).reverse.flatten).getD (pt.length+i) 0*cu (pt++(kry mv pt k).map (pT mv)) (pt.length+i) c)=bR mv.length λj=>cu mv c j*bR (kry mv pt k).length λi=>((pus.take k).reverse.flatten).getD i 0*cu (kry mv pt k) i j:=by
   have q1:∀i,i < (kry mv pt k).length->(pus[k]++(pus.take k).reverse.flatten).getD (pt.length+i) 0*cu (pt++(kry mv pt k).map (pT mv)) (pt.length+i) c=bR mv.length λj=>cu mv c j*(((pus.take k).reverse.flatten).getD i 0*cu (kry mv pt k) i j):=λi hi=>by
    rw[uu,Ka rfl D.mw (fh rfl D.pw k) hi,aa,a9 (by lia),hl,QX,<- aa,<- dc];exact bp λj _=>by grind
   rw[bp q1,jd];exact bp λj _=>dc
  rw[p1,p2];have p3:(iG mv (k+1) st).getD c 0=bR mv.length λj=>cu mv c j*(iG mv k st).getD j 0:=Qp D.mw (iF ls k) hc
  rw[p3]
  have p4:(bR mv.length λj=>cu mv c j*(oh mv pt st pus k).getD j 0)=(bR mv.length λj=>cu mv c j*(iG mv k st).getD j 0)+bR mv.length λj=>cu mv c j*bR (kry mv pt k).length λi=>((pus.take k).reverse.flatten).getD i 0*cu (kry mv pt k) i j:=by
   rw[<- p6];refine bp λj hj=>?_
   rw[ih (by lia) hp j hj];grind
  rw[p4];grind
end
section
variable {mv pt lk pus R:LR9} {st pu go w pr L:List Rat} {n t T c u k:Nat} {ps:List Nat}
theorem JA (D:fz mv pt lk) (ls:st.length=mv.length):oh mv pt st (List.replicate T (List.replicate pt.length 0)) T=iG mv T st:=by
 have l1:=oo (pt:=pt) (pus:=List.replicate T (List.replicate pt.length 0)) ls (k:=T) (by rw[aO];exact aj _);refine KH (by rw[l1,iF ls]) λc hc=>?_
 rw[l1] at hc;rw[CA D ls T (by rw[aO];exact aj _) (λxs hx=>by rw[(di.mp hx).2,aO]) c hc,dw λi _=>?_,rW]
 have z:(((List.replicate T (List.replicate pt.length (0:Rat))).take T).reverse.flatten).getD i 0=0:=by
  rw[aa];cases e:(((List.replicate T (List.replicate pt.length (0:Rat))).take T).reverse.flatten)[i]? with
  | none=>rfl
  | some y =>
   have:=ax e;obtain ⟨l,hl,hy⟩:=iN.mp this;have hl:=b7 (yv.mp hl);rw[(di.mp hl).2] at hy;exact (di.mp hy).2
 rw[z,kh]
def eF (mv:LR9) (T:Nat) (st go:List Rat):List Rat:=List.zipWith (λx y=>x - y) go (iG mv T st)
theorem rf (ls:st.length=mv.length) (lg:go.length=mv.length):(eF mv T st go).length=mv.length:=by
 unfold eF;rw[cD,iF ls,lg,HV]
theorem Jp {x y:List Rat} (h:x.length=y.length) (hc:c < x.length):(List.zipWith (λx y=>x - y) x y).getD c 0=x.getD c 0 - y.getD c 0:=by
 rw[aa,bT,aa (l:=x),aa (l:=y),af hc,af (by lia)];rfl
theorem GV:∀u,∃Z,kry mv pt (u+1)=kry mv pt u++Z
 | 0=>⟨pt++[],rfl⟩
 | u+1=>by
  obtain ⟨Z,e⟩:=GV u;refine ⟨Z.map (pT mv),?_⟩;show pt++(kry mv pt (u+1)).map (pT mv)=(pt++(kry mv pt u).map (pT mv))++_
  rw[e,cJ,bV]
theorem EJ {u:Nat}:∀s,∃Z,kry mv pt (u+s)=kry mv pt u++Z
 | 0=>⟨[],by rw[kY];rfl⟩
 | s+1=>by
  obtain ⟨Z,e⟩:=EJ (u:=u) s;obtain ⟨Y,e'⟩:=GV (mv:=mv) (pt:=pt) (u+s);exact ⟨Z++Y,by rw[<- Nat.add_assoc,e',e,bV]⟩
def yB (w:List Rat) (u k:Nat):LR9:=(List.range u).map λt=>(w.drop (t*k)).take k
theorem EW:∀{u:Nat} {w:List Rat},w.length=u*k->(yB w u k).flatten=w
 | 0,w,h=>by
  rw[Nat.zero_mul] at h;rw[List.length_eq_zero_iff.mp h];rfl
 | u+1,w,h=>by
  have e:yB w (u+1) k=yB (w.take (u*k)) u k++[w.drop (u*k)]:=by
   unfold yB;rw[AH,cJ];congr 1
   ·refine List.map_congr_left λt ht=>?_
    have ht:=tI.mp ht;have:t*k+k<=u*k:=by rw[<- dA];exact ay _ ht
    rw[List.drop_take,List.take_take,pV (by lia)]
   ·show [(w.drop (u*k)).take k]=_
    rw[aI (by rw[Jl,h,dA];lia)]
  rw[e,iK,EW (by rw[cH,h,dA];lia)];simp
theorem QE (h:w.length=u*k):∀xs∈yB w u k,xs.length=k:=λxs hx=>by
 obtain ⟨t,ht,rfl⟩:=aD.mp hx;have ht:=tI.mp ht;have:t*k+k<=u*k:=by rw[<- dA];exact ay _ ht
 rw[cH,Jl]
 lia
theorem K8 {x:Rat} {xs:List Rat} (hx:xs∈yB w u k) (hx':x∈xs):x∈w:=by
 obtain ⟨t,_,rfl⟩:=aD.mp hx;exact List.mem_of_mem_drop (b7 hx')
def zI (w:List Rat) (T u k:Nat):LR9:=List.replicate (T - u) (List.replicate k 0)++(yB w u k).reverse
theorem GA (hu:u<=T):(zI w T u k).length=T:=by
 unfold zI yB;rw[ak,aO,kD,ar,cK]
 lia
theorem Nn (h:w.length=u*k):∀xs∈zI w T u k,xs.length=k:=λxs hx=>by
 rcases aw.mp hx with hx | hx
 ·rw[(di.mp hx).2,aO]
 ·exact QE h xs (yv.mp hx)
theorem Mp {P:Rat->Prop} (h0:P 0) (h:∀x∈w,P x):∀xs∈zI w T u k,∀x∈xs,P x:=λxs hx x hx'=>by
 rcases aw.mp hx with hx | hx
 ·rw[(di.mp hx).2] at hx';rw[(di.mp hx').2];exact h0
 ·exact h x (K8 (yv.mp hx) hx')
theorem JQ {T k:Nat}:(List.replicate T (List.replicate k (0:Rat))).flatten=List.replicate (T*k) 0:=by
 rw[List.flatten_replicate_replicate]
theorem FZ (D:fz mv pt lk) (ls:st.length=mv.length) (lg:go.length=mv.length) (hu:u<=T) (hw:w.length=(kry mv pt u).length) (e:NQ (kry mv pt u) w mv.length=eF mv T st go):oh mv pt st (zI w T u pt.length) T=go:=by
 have hw':w.length=u*pt.length:=by rw[hw,rO]
 have lp:=GA (w:=w) (k:=pt.length) hu;have l1:=oo (pt:=pt) (pus:=zI w T u pt.length) ls (k:=T) (by lia);refine KH (by rw[l1,lg]) λc hc=>?_
 rw[l1] at hc;rw[CA D ls T (by lia) (Nn hw') c hc,aI (by lia)]
 have er:(zI w T u pt.length).reverse.flatten=w++List.replicate ((T - u)*pt.length) 0:=by
  unfold zI;rw[List.reverse_append,List.reverse_reverse,iK,EW hw',List.reverse_replicate,JQ]
 obtain ⟨Z,eZ⟩:=EJ (mv:=mv) (pt:=pt) (u:=u) (T - u);rw[show u+(T - u)=T by lia] at eZ;rw[er,eZ,ak,v7]
 have p1:(bR (kry mv pt u).length λi=>(w++List.replicate ((T - u)*pt.length) 0).getD i 0*cu (kry mv pt u++Z) i c)=(eF mv T st go).getD c 0:=by
  rw[<- e,Gd hc,hw];exact bp λi hi=>by rw[yD hi,aa,bu (by lia),aa]
 have p2:(bR Z.length λi=>(w++List.replicate ((T - u)*pt.length) 0).getD ((kry mv pt u).length+i) 0*cu (kry mv pt u++Z) ((kry mv pt u).length+i) c)=0:=dw λi _=>by
  have z:(w++List.replicate ((T - u)*pt.length) (0:Rat)).getD ((kry mv pt u).length+i) 0=0:=by
   rw[aa,a9 (by lia),fA]
   split <;> rfl
  rw[z,kh]
 rw[p1,p2,rW];unfold eF;rw[Jp (by rw[lg,iF ls]) (by lia)];grind
theorem Iy {ps':List Nat} (wp:∀xs∈pt,xs.length=mv.length) (RRu:bY (kry mv pt u) mv.length R ps) (RRT:bY (kry mv pt T) mv.length R ps') (lp:pr.length=mv.length) (h:∀xs∈kry mv pt u,dR xs pr=0):∀xs∈kry mv pt T,dR xs pr=0:=λxs hx=>by
 have wu:=fh (mv:=mv) rfl wp u;have wT:=fh (mv:=mv) rfl wp T;obtain ⟨i,hi,rfl⟩:=bK hx;have s1:eK (kry mv pt u).length (cu (kry mv pt u)) (cu (kry mv pt T) i):=eK.trans (λt ht=>RRu.2.2.back t (by rw[<- RRu.1,RRT.1];exact ht)) (RRT.2.2.span i hi);obtain ⟨v,hv⟩:=s1
 have fn:∀{X:LR9} {i:Nat} (h:i < X.length) (c:Nat),X[i].getD c 0=cu X i c:=λ{X i} h c=>by
  unfold cu;rw[aa (l:=X),af h];rfl
 have w1:=wT _ (aP hi);rw[fw (by lia),w1]
 have e1:(bR mv.length λc=>(kry mv pt T)[i].getD c 0*pr.getD c 0)=bR (kry mv pt u).length λt=>v t*bR mv.length λc=>cu (kry mv pt u) t c*pr.getD c 0:=by
  have q:∀c,c < mv.length->(kry mv pt T)[i].getD c 0*pr.getD c 0=bR (kry mv pt u).length λt=>v t*(cu (kry mv pt u) t c*pr.getD c 0):=λc _=>by
   rw[fn hi c,hv c,dP,<- dc];exact bp λt _=>by grind
  rw[bp q,jd];exact bp λt _=>dc
 rw[e1];refine dw λt ht=>?_
 have w2:=wu _ (aP ht);have:=h _ (aP ht);rw[fw (by lia),w2] at this
 have q:(bR mv.length λc=>cu (kry mv pt u) t c*pr.getD c 0)=0:=by
  refine Eq.trans ?_ this;exact bp λc _=>by rw[fn ht c]
 rw[q,fN]
end
def AZ (l:Addr):Hp:=λq=>if q=l then some (.lst []) else none
theorem off_ne {l:Addr}:AZ l l≠none:=by unfold AZ;rw[if_pos rfl];exact λz=>nomatch z
theorem Kd {l q:Addr} (h:q≠l):AZ l q=none:=by unfold AZ;rw[if_neg h]
def Jj (K:FG9) (l:Addr) (H:Hp) (R:LR9) (v:V):Prop:=∃q,v=V.ref q/\q≠l/\bJ K (AZ l) H q R
section
variable {K:FG9} {H0 H H':Hp} {l p q:Addr} {R:LR9} {v:V} {mv pt:LR9} {u T:Nat}
theorem bJ.off (h:bJ K H0 H p R) (hl:H l=none):p≠l/\bJ K (AZ l) H p R:=by
 obtain ⟨xs,g,r,n⟩:=h;refine ⟨λz=>(by rw[z,hl] at g;cases g),xs,g,Paired.imp' (λ_ _ ⟨q,a,b,c⟩=>⟨q,a,Kd λz=>?_,c⟩) r,n⟩;obtain ⟨_,gg,_⟩:=c;rw[z,hl] at gg;cases gg
theorem Jj.same (h:Jj K l H R v) (s:aG H H'):Jj K l H' R v:=by obtain ⟨q,a,b,c⟩:=h;exact ⟨q,a,b,c.same s⟩
theorem Jj.upd {ys zs:List V} (h:Jj K l H R v) (g:H l=some (.lst ys)):Jj K l (upd H l (.lst zs)) R v:=by obtain ⟨q,a,b,c⟩:=h;exact ⟨q,a,b,c.updL g off_ne b⟩
def Jc (mv pt:LR9) (u:Nat):List (LR9):=(List.range u).map λs=>pt.map (iG mv s)
theorem DL:Jc mv pt (u+1)=Jc mv pt u++[pt.map (iG mv u)]:=by unfold Jc;rw[AH,cJ];rfl
theorem rV:∀u,(Jc mv pt u).flatten=kry mv pt u
 | 0=>rfl
 | u+1=>by
  have e:Jc mv pt (u+1)=pt :: (Jc mv pt u).map (List.map (pT mv)):=by
   unfold Jc;rw[List.range_succ_eq_map,ij,mI];congr 1
   ·exact ia pt
   ·rw[mI];refine List.map_congr_left λs _=>?_
    show pt.map (iG mv (s+1))=(pt.map (iG mv s)).map (pT mv)
    rw[mI];rfl
  rw[e,ic,<- List.map_flatten,rV u];rfl
theorem O5 {s:Nat} {xs:List Rat} (h:xs∈pt.map (iG mv s)):xs∈kry mv pt (s+1):=by
 rw[<- rV,DL,iK];exact bF _ (by simpa using h)
theorem rE.fitP {a c s:Nat} (F:rE mv pt a c) (wm:∀xs∈mv,xs.length=mv.length) (wp:∀xs∈pt,xs.length=mv.length) (hs:s+1<=mv.length):∀xs∈mv,∀r∈pt.map (iG mv s),xh xs r:=λxs hx r hr=>by
 obtain ⟨M,V,M0,Ma,hV,fm,fp,a3,c3,e14,_⟩:=F;have f:=Kt rfl wm wp hV fm fp (s+1) r (O5 hr);have V1:V<=2^c:=ai (cF _ (by lia)) hV;have e1:(s+1)*(a+c)<=mv.length*(a+c):=ay _ hs;have e2:mv.length*(a+c)+4<=mv.length*(mv.length*(a+c)+4):=cF _ (by lia);have e3:(s+1)*(a+c)=a*(s+1)+c*(s+1):=by rw[c8,bQ,bQ c]
 refine ⟨a,c,a*(s+1),c*(s+1),⟨M,V,M0,Ma,V1,fm xs hx⟩,⟨M^(s+1),2^(c*(s+1)),c7 M0,?_,aj _,f⟩,by lia⟩;exact ai (iJ Ma _) (by rw[<- vU];exact aj _)
end
inductive Ei (K:FG9) (C:Addr) (vs:List V) (H:Hp) (Q:VK) (E9:XK):Prop
 | mk (x:Addr) (u a c:Nat) (H0:Hp) (mv pt lk:LR9):vs=[.ref x,.int u]->u<=mv.length->kX K H0 H C x mv pt lk->fz mv pt lk->rE mv pt a c->(∀r us H',H r=none->aG H H'->H' r=some (.lst us)->Paired (Jj K r H') (Jc mv pt u) us->Q (.ref r) H')->Ei K C vs H Q E9
inductive Eg (K:FG9) (vs:List V) (H:Hp) (Q:VK) (E9:XK):Prop
 | mk (p:Addr) (xs:List V) (Rs:List (LR9)):vs=[.ref p]->H p=some (.lst xs)->Paired (Jj K p H) Rs xs->Rs.flatten.length<=1000->(∀r H0 H',H r=none->aG H H'->bJ K H0 H' r Rs.flatten->Q (.ref r) H')->Eg K vs H Q E9
inductive Gu (K:FG9) (vs:List V) (H:Hp) (Q:VK) (E9:XK):Prop
 | mk (p:Addr) (u k:Nat) (w:List Rat):vs=[.ref p,.int u,.int k]->cv K H p w->w.length=u*k->u*k<=1000->u<=1000->k<=1000->(∀r H',H r=none->aG H H'->bJ K H H' r (yB w u k)->Q (.ref r) H')->Gu K vs H Q E9
inductive D9 (K:FG9) (C:Addr) (vs:List V) (H:Hp) (Q:VK) (E9:XK):Prop
 | mk (x:Addr) (T:Nat) (H0:Hp) (mv pt lk:LR9):vs=[.ref x,.int T]->T<=100->kX K H0 H C x mv pt lk->fz mv pt lk->(∀r H',H r=none->aG H H'->bJ K H H' r (List.replicate T (List.replicate pt.length 0))->Q (.ref r) H')->D9 K C vs H Q E9
inductive Ee (K:FG9) (C:Addr) (vs:List V) (H:Hp) (Q:VK) (E9:XK):Prop
 | mk (x s g:Addr) (T:Nat) (H0:Hp) (mv pt lk:LR9) (st go:List Rat):vs=[.ref x,.ref s,.ref g,.int T]->T<=99->kX K H0 H C x mv pt lk->fz mv pt lk->Ji mv pt lk->cv K H s st->st.length=mv.length->cv K H g go->go.length=mv.length->F9 mv pt st (List.replicate T (List.replicate pt.length 0))->(∀x∈go,kK x)->(∀r H',H r=none->aG H H'->cv K H' r (eF mv T st go)->Q (.ref r) H')->Ee K C vs H Q E9
structure RK (mv pt:LR9) (L:List Rat) (D W0 E W1:Nat):Prop where
 d0:0 < D
 e0:0 < E
 w0:1<=W0
 w1:1<=W1
 tk:∀u,u<=mv.length->∀xs∈kry mv pt u,∀x∈xs,Tp D W0 x
 tl:∀x∈L,Tp E W1 x
 de:D*E<=2^4300
 sw:∃w,W0*E+W1*D+D*E<=2^w/\w<=4300/\(mv.length+1)*(w+4)<=8900
theorem RK.join {mv pt:LR9} {L:List Rat} {D W0 E W1:Nat} (F:RK mv pt L D W0 E W1) {rows:LR9} {due:List Rat} {n':Nat} (hd:due.length=rows.length) (h1:∀xs∈rows,∀x∈xs,Tp (D*E) (W0*E+W1*D+D*E) x) (h2:∀x∈due,Tp (D*E) (W0*E+W1*D+D*E) x) (n8:mv.length<=8) (hm:min rows.length n'<=mv.length+1):∃w,E8 (cX rows due) n' w:=by
 obtain ⟨w,b1,b2,b3⟩:=F.sw;have:=bE F.d0 F.e0;refine ⟨w,D*E,W0*E+W1*D+D*E,bE F.d0 F.e0,F.de,by lia,b1,λxs hx x hx'=>?_,b2,by rw[nE hd];lia,by rw[nE hd];exact ai (ay _ hm) b3⟩;unfold cX at hx;obtain ⟨i,hi,rfl⟩:=bK hx;rw[ib] at hx';rcases aw.mp hx' with z | z
 ·exact h1 _ (aP _) x z
 ·rw[bB.mp z];exact h2 _ (aP _)
theorem Tp.up {M W x:Nat} {q:Rat} (h:Tp M W q) (k:Nat) (hx:W*k<=x):Tp (M*k) x q:=by
 obtain ⟨z,e,b⟩:=h;exact ⟨z*k,by rw[eN,aQ,<- e,aH];grind,by rw[cy,bw];exact ai (ay _ b) hx⟩
structure QL (mv pt:LR9) (st pu:List Rat):Prop where
 f2:∀xs∈mv,xh xs st
 part:∀kk,∀x∈nextK mv pt st pu kk,kK x
 su:∀u∈pu,kK u
 sp:∀row∈pt,∀y∈row,kK y
 mul:∀u∈pu,∀row∈pt,∀y∈row,kK (u*y)
inductive Ea (K:FG9) (vs:List V) (H:Hp) (Q:VK) (E9:XK):Prop
 | mk (r s u:Addr) (H0:Hp) (mv pt lk:LR9) (st pu:List Rat):vs=[.ref r,.ref s,.ref u]->eh K H0 H r mv pt lk->fz mv pt lk->cv K H s st->cv K H u pu->st.length=mv.length->pu.length=pt.length->QL mv pt st pu->(∀t H',H t=none->aG H H'->cv K H' t (gY mv pt st pu)->Q (.ref t) H')->Ea K vs H Q E9
structure Bd (mv pt:LR9) (M1 M2 V a1 a2 c:Nat):Prop where
 m1:0 < M1
 m2:0 < M2
 b1:M1<=2^a1
 b2:M2<=2^a2
 gm:GF M1 V mv
 gp:GF M2 V pt
 vc:(mv.length+4)*V<=2^c
section
variable {mv pt lk pus:LR9} {st pu go:List Rat} {M1 M2 V a1 a2 c N Np p t T ν:Nat}
theorem Bd.v1 (B:Bd mv pt M1 M2 V a1 a2 c):V<=2^c:=ai (cF _ (by lia)) B.vc
theorem o8 {M W:Nat} {x:Rat} (h0:0 < M) {a b:Nat} (h1:M<=2^a) (h2:W<=2^b) (hab:a+b<=3990) (h:Fr M W x):kK x:=by
 refine Cy (Tp.of h (aj _)) h0 (ai h1 (au (by decide) (by lia))) ?_;refine ai (aA h2 h1) ?_;rw[<- aS];exact au (by decide) (by lia)
theorem Bd.next (B:Bd mv pt M1 M2 V a1 a2 c) (D:fz mv pt lk) (ls:st.length=mv.length) (lu:pu.length=pt.length) (N0:0 < N) (dv:M2*Np∣M1*N) (hs:∀x∈st,Fr N (2^p) x) (hu:∀x∈pu,Fr Np (2^p) x) (hN:N<=2^ν) (sz:a1+ν+c+p<=3900) (sp2:a2+c<=3900):QL mv pt st pu/\∀x∈gY mv pt st pu,Fr (M1*N) (2^(c+p)) x:=by
 have V1:=B.v1;have i4:=D.i4;have MN0:0 < M1*N:=bE B.m1 N0;have MN:M1*N<=2^(a1+ν):=by rw[aS];exact aA B.b1 hN
 have Np0:0 < Np:=by
  rcases gJ Np with z | z
  ·rw[z,yR] at dv;have:=QW dv
   lia
  ·exact z
 have NpMN:Np<=M1*N:=ai (cF _ B.m2) (fo MN0 dv)
 have one:∀u∈pu,∀row∈pt,∀y∈row,Fr (M1*N) (V*2^p) (u*y):=λu hu' row hr y hy=>by
  have:=(B.gp row hr y hy).mul (hu u hu');rw[dP];exact this.dvd dv
 have part:∀kk,kk<=pt.length->∀x∈nextK mv pt st pu kk,Fr (M1*N) (2^(c+p)) x:=λkk hkk x hx=>by
  obtain ⟨j,hj,e⟩:=bK hx;rw[jf] at hj;have e2:=zW (mv:=mv) (pt:=pt) (st:=st) (pu:=pu) (k:=kk) hj;rw[aa,af (by rw[jf];exact hj)] at e2;have e3:x=dR (mv[j]++(pt.map λxs=>xs.getD j 0).take kk) (st++pu.take kk):=by rw[<- e,<- e2];rfl
  have wj:=D.mw _ (aP hj);rw[e3,rk (by lia)];have f1:=Fr.dot (B.gm _ (aP hj)) hs;rw[wj] at f1
  have f2:Fr (M1*N) (4*(V*2^p)) (dR ((pt.map λxs=>xs.getD j 0).take kk) (pu.take kk)):=by
   have hc:∀y∈(pt.map λxs=>xs.getD j 0).take kk,Fr M2 V y:=λy hy=>by
    obtain ⟨xs,hxs,rfl⟩:=aD.mp (b7 hy);rw[aa];cases e:xs[j]? with
    | none=>exact Fr.zero
    | some z=>exact B.gp xs hxs z (ax e)
   have:=Fr.dot (ys:=pu.take kk) hc (λy hy=>hu y (b7 hy));refine (this.dvd dv).mono (ay _ ?_);rw[cH,ar]
   lia
  refine (f1.add f2).mono ?_;rw[<- Lh,aS,<- b9];exact ay _ B.vc
 have szb:∀{x:Rat},Fr (M1*N) (2^(c+p)) x->kK x:=λh=>o8 MN0 MN (aj _) (by lia) h
 have all:∀kk,∀x∈nextK mv pt st pu kk,Fr (M1*N) (2^(c+p)) x:=λkk x hx=>by
  rcases cb pt.length kk with z | z
  ·have e:nextK mv pt st pu kk=nextK mv pt st pu pt.length:=(rM (by lia) (by lia)).trans (rM (aj _) (by lia)).symm;rw[e] at hx;exact part _ (aj _) x hx
  ·exact part kk z x hx
 refine ⟨⟨λxs hx=>⟨a1,c,ν,p,⟨M1,V,B.m1,B.b1,V1,B.gm xs hx⟩,⟨N,2^p,N0,hN,aj _,hs⟩,by lia⟩,λkk x hx=>szb (all kk x hx),λu hu'=>?_,λrow hr y hy=>?_,λu hu' row hr y hy=>szb ((one u hu' row hr y hy).mono (by rw[aS];exact ay _ V1))⟩,λx hx=>?_⟩
 ·exact o8 Np0 (ai NpMN MN) (aj _) (by lia) (hu u hu')
 ·exact o8 B.m2 B.b2 V1 (by lia) (B.gp row hr y hy)
 ·rw[<- rM (k:=pt.length) (aj _) (by lia)] at hx;exact all _ x hx
end
section
variable {mv pt lk pus:LR9} {st pu go:List Rat} {M1 M2 V a1 a2 c N Np p t T ν k:Nat}
def Jd (mv pt pus:LR9) (st:List Rat):Prop:=∃M1 M2 V a1 a2 c N Np p ν,Bd mv pt M1 M2 V a1 a2 c/\0 < N/\N<=2^ν/\M2*Np∣N/\(∀x∈st,Fr N (2^p) x)/\(∀xs∈pus,∀x∈xs,Fr Np (2^p) x)/\a1*(pus.length+1)+ν+c*(pus.length+1)+p<=3900/\a2+c<=3900
theorem fR {M a t N ν:Nat} (h:M<=2^a) (hN:N<=2^ν):M^t*N<=2^(a*t+ν):=by
 rw[aS,vU];exact aA (iJ h t) hN
theorem Bd.states (B:Bd mv pt M1 M2 V a1 a2 c) (D:fz mv pt lk) (ls:st.length=mv.length) (wp:∀xs∈pus,xs.length=pt.length) (N0:0 < N) (hN:N<=2^ν) (dv:M2*Np∣N) (hs:∀x∈st,Fr N (2^p) x) (hu:∀xs∈pus,∀x∈xs,Fr Np (2^p) x) (sz:a1*(pus.length+1)+ν+c*(pus.length+1)+p<=3900) (sp2:a2+c<=3900):∀k,k<=pus.length->(∀x∈oh mv pt st pus k,Fr (M1^k*N) (2^(c*k+p)) x)/\∀pu,pus[k]?=some pu->QL mv pt (oh mv pt st pus k) pu:=by
 have key:∀k,k<=pus.length->(∀x∈oh mv pt st pus k,Fr (M1^k*N) (2^(c*k+p)) x)->∀pu,pus[k]?=some pu->QL mv pt (oh mv pt st pus k) pu/\∀x∈gY mv pt (oh mv pt st pus k) pu,Fr (M1*(M1^k*N)) (2^(c+(c*k+p))) x:=λk hk f pu hpu=>by
  have mp:=ax hpu;have kl:=(aE.mp hpu).1;have e1:a1*(k+1)<=a1*(pus.length+1):=aF _ (by lia);have e2:c*(k+1)<=c*(pus.length+1):=aF _ (by lia);rw[c8,Lg] at e1 e2;refine B.next D (oo ls hk) (wp pu mp) (bE (c7 B.m1) N0) ?_ f (λx hx=>(hu pu mp x hx).mono (au (by decide) (Nat.le_add_left _ _))) (fR B.b1 hN) (by lia) sp2;exact gD dv (gD (cS _ _) (cS _ _))
 have fr:∀k,k<=pus.length->∀x∈oh mv pt st pus k,Fr (M1^k*N) (2^(c*k+p)) x:=by
  intro k
  induction k with
  | zero =>
   intro _ x hx;rw[Nat.pow_zero,pS,yR,Nat.zero_add];exact hs x hx
  | succ k ih =>
   intro hk x hx;have e:=af (show k < pus.length by lia);rw[p7 e] at hx;have:=(key k (by lia) (ih (by lia)) _ e).2 x hx;rw[<- b9,bQ M1,<- dC,show c+(c*k+p)=c*(k+1)+p by rw[c8];lia] at this;exact this
 exact λk hk=>⟨fr k hk,λpu hpu=>(key k hk (fr k hk) pu hpu).1⟩
theorem Jd.nx (h:Jd mv pt pus st) (D:fz mv pt lk) (ls:st.length=mv.length) (wp:∀xs∈pus,xs.length=pt.length) (hk:k<=pus.length) (hpu:pus[k]?=some pu):QL mv pt (oh mv pt st pus k) pu:=by
 obtain ⟨M1,M2,V,a1,a2,c,N,Np,p,ν,B,N0,hN,dv,hs,hu,sz,sp2⟩:=h;exact (B.states D ls wp N0 hN dv hs hu sz sp2 k hk).2 pu hpu
theorem Jd.szn (h:Jd mv pt pus st) (D:fz mv pt lk) (ls:st.length=mv.length) (wp:∀xs∈pus,xs.length=pt.length) (hk:k<=pus.length):∀x∈oh mv pt st pus k,kK x:=λx hx=>by
 obtain ⟨M1,M2,V,a1,a2,c,N,Np,p,ν,B,N0,hN,dv,hs,hu,sz,sp2⟩:=h;have e1:a1*k<=a1*(pus.length+1):=aF _ (by lia);have e2:c*k<=c*(pus.length+1):=aF _ (by lia);exact o8 (bE (c7 B.m1) N0) (fR B.b1 hN) (aj _) (by lia) ((B.states D ls wp N0 hN dv hs hu sz sp2 k hk).1 x hx)
def Po (mv:LR9) (st:List Rat) (T:Nat):Prop:=∃M1 V a1 c N p ν,0 < M1/\M1<=2^a1/\GF M1 V mv/\(mv.length+4)*V<=2^c/\0 < N/\N<=2^ν/\(∀x∈st,Fr N (2^p) x)/\a1*(T+1)+ν+c*(T+1)+p<=3900
theorem FA (gm:GF M1 V mv) (wm:∀xs∈mv,xs.length=mv.length) (vc:(mv.length+4)*V<=2^c) (ls:st.length=mv.length) (hs:∀x∈st,Fr N (2^p) x):∀t,∀x∈iG mv t st,Fr (M1^t*N) (2^(c*t+p)) x:=by
 intro t
 induction t with
 | zero =>
  intro x hx;rw[Nat.pow_zero,pS,yR,Nat.zero_add];exact hs x hx
 | succ t ih =>
  intro x hx;obtain ⟨row,hr,rfl⟩:=aD.mp (show x∈mv.map λxs=>dR xs (iG mv t st) from hx);have f:=Fr.dot (gm row hr) ih;rw[<- b9,bQ M1,<- dC] at f;refine f.mono ?_;rw[wm row hr,<- b9,show c*(t+1)+p=c+(c*t+p) by rw[c8];lia,aS 2 c];exact ay _ (ai (ay V (show mv.length<=mv.length+4 by lia)) vc)
theorem Po.fit (h:Po mv st T) (wm:∀xs∈mv,xs.length=mv.length) (ls:st.length=mv.length) (ht:t<=T):(∀xs∈mv,xh xs (iG mv t st))/\∀x∈iG mv t st,kK x:=by
 obtain ⟨M1,V,a1,c,N,p,ν,m0,m1,gm,vc,N0,hN,hs,sz⟩:=h;have f:=FA gm wm vc ls hs t;have V1:V<=2^c:=ai (cF _ (by lia)) vc;have e1:a1*t<=a1*T:=aF _ ht;have e2:c*t<=c*T:=aF _ ht;rw[c8,c8,Lg,Lg] at sz;exact ⟨λxs hx=>⟨a1,c,a1*t+ν,c*t+p,⟨M1,V,m0,m1,V1,gm xs hx⟩,⟨M1^t*N,2^(c*t+p),bE (c7 m0) N0,fR m1 hN,aj _,f⟩,by lia⟩,λx hx=>o8 (bE (c7 m0) N0) (fR m1 hN) (aj _) (by lia) (f x hx)⟩
def QU (mv pt:LR9) (T:Nat):Prop:=∃M1 M2 V a1 a2 c,Bd mv pt M1 M2 V a1 a2 c/\a1*(T+1)+a2+c*(T+2)<=3900
theorem QU.row (h:QU mv pt T) (wm:∀xs∈mv,xs.length=mv.length) (wp:∀xs∈pt,xs.length=mv.length):∀xs∈pt,Po mv xs T:=λxs hx=>by
 obtain ⟨M1,M2,V,a1,a2,c,B,sz⟩:=h;refine ⟨M1,V,a1,c,M2,c,a2,B.m1,B.b1,B.gm,B.vc,B.m2,B.b2,λx hx'=>(B.gp xs hx x hx').mono B.v1,?_⟩;rw[c8 c T 2] at sz;rw[c8 c T 1]
 lia
end
inductive Gr (K:FG9) (vs:List V) (H:Hp) (Q:VK) (E9:XK):Prop
 | mk (r s p:Addr) (H0 H1:Hp) (mv pt lk pus:LR9) (st:List Rat):vs=[.ref r,.ref s,.ref p]->eh K H0 H r mv pt lk->fz mv pt lk->cv K H s st->st.length=mv.length->bJ K H1 H p pus->pus.length<=100->(∀xs∈pus,xs.length=pt.length)->Jd mv pt pus st->(∀t H',H t=none->aG H H'->cv K H' t (oh mv pt st pus pus.length)->Q (.ref t) H')->Gr K vs H Q E9
inductive Bs (K:FG9) (vs:List V) (H:Hp) (Q:VK) (E9:XK):Prop
 | mk (r s:Addr) (T:Nat) (H0:Hp) (mv pt lk:LR9) (st:List Rat):vs=[.ref r,.ref s,.int T]->T<=100->eh K H0 H r mv pt lk->fz mv pt lk->cv K H s st->st.length=mv.length->Po mv st T->(∀t H',H t=none->aG H H'->cv K H' t (iG mv T st)->Q (.ref t) H')->Bs K vs H Q E9
inductive Bt (K:FG9) (vs:List V) (H:Hp) (Q:VK) (E9:XK):Prop
 | mk (r:Addr) (T:Nat) (H0:Hp) (mv pt lk:LR9):vs=[.ref r,.int T]->T<=20->eh K H0 H r mv pt lk->fz mv pt lk->QU mv pt T->(∀q H',H q=none->aG H H'->bJ K H H' q (kry mv pt T)->Q (.ref q) H')->Bt K vs H Q E9
section
variable {X:Cx}
theorem IZ (hc:X.calm=true):mG X (.builtin "max") (λxs H Q=>∃(p:Addr) (ns:List Int),xs=[.ref p]/\bN X.K H p (ns.map V.int)/\0 < ns.length/\∀M,M∈ns->(∀a,a∈ns->a<=M)->Q (.int M) H):=by
 intro pins s σ H xs us Q I r h;obtain ⟨p,ns,rfl,hp,hne,q⟩:=h;obtain ⟨u,rfl,ru⟩:=vals1 r;cases ru;obtain ⟨its,r2,pl,_⟩:=I.list hp;have hi:=intsAre_of r2;have hl:=pl.isList;obtain ⟨xs,e⟩:=hi.allInts.items
 have hns:ns=xs.toList.map (·.1):=by
  rw[<- hi.numsOf,<- nums_intItems,<- e]
 have hsz:0 < xs.size:=by
  have h3:=hne;rw[hns,ar,Array.length_toList] at h3;exact h3
 rw[e] at hl;refine max_intList (I.ok.hd hc) hl hsz λv h' tk hv hk=>?_
 obtain ⟨t,rfl⟩:=intItems_at hv;obtain ⟨h1,h2⟩:=argBest_gt (numAt xs) (xs.size - 1);refine ⟨.int _,H,I.kept hk,⟨_,rfl⟩,q _ ?_ λa ha=>?_⟩
 ·rw[hns,numAt_eq];exact getD_in (by rw[ar,Array.length_toList];lia)
 ·rw[hns] at ha;obtain ⟨j,hj,rfl⟩:=mem_getD ha;rw[ar,Array.length_toList] at hj;rw[<- numAt_eq];exact h2 j (by lia)
end
theorem Bw {α β:Type} {f:α->β}:∀{l1:List α} {l2:List β},Paired (λa b=>b=f a) l1 l2->l2=l1.map f
 | _,_,.nil=>rfl
 | _,_,.cons h r=>by rw[h,Bw r];rfl
def StP (mv pt:LR9) (T:Nat):Prop:=T<=12/\(T<=3\/((∀xs∈mv++pt,∀x∈xs,x.den<=9/\x.num.natAbs < 1000)/\(5 < mv.length->T<=mv.length)/\(3<=mv.length->mv.length<=5->T<=mv.length+1)))
def Pj (x:Rat):Int:=(x.den:Int)+(x.num.natAbs:Int) / 1000*9
theorem MQ {x:Rat} (h:Pj x<=9):x.den<=9/\x.num.natAbs < 1000:=by
 unfold Pj at h;have:=x.den_pos
 lia
inductive Be (K:FG9) (vs:List V) (H:Hp) (Q:VK) (E9:XK):Prop
 | mk (b r:Addr) (H0:Hp) (mv pt lk:LR9):vs=[.ref b,.ref r]->ig H b->H0 b≠none->eh K H0 H r mv pt lk->fz mv pt lk->(∀xs∈mv++pt,∀x∈xs,kK x)->(∀(T:Nat) H',StP mv pt T->ig H' b->cT b H H'->Q (.int T) H')->Be K vs H Q E9
inductive D7 (K:FG9) (vs:List V) (H:Hp) (Q:VK) (E9:XK):Prop
 | mk (b r:Addr) (T w:Nat) (H0:Hp) (mv pt lk:LR9):vs=[.ref b,.ref r,.int T,.int w]->T<=100->1<=w->w<=1000->ig H b->H0 b≠none->eh K H0 H r mv pt lk->fz mv pt lk->(∀p pus H',H p=none->bJ K H H' p pus->pus.length=T->(∀xs∈pus,xs.length=pt.length/\∀x∈xs,Dr (max w 6) x)->ig H' b->cT b H H'->Q (.ref p) H')->D7 K vs H Q E9
section
variable {mv pt lk pus:LR9} {st pr go:List Rat} {T k:Nat}
theorem Jd.sznP (h:Jd mv pt pus st):∀xs∈pus,∀x∈xs,kK x:=λxs hx x hx'=>by
 obtain ⟨M1,M2,V,a1,a2,c,N,Np,p,ν,B,N0,hN,dv,hs,hu,sz,sp2⟩:=h
 have Np0:0 < Np:=by
  rcases gJ Np with z | z
  ·rw[z,yR] at dv;have:=QW dv
   lia
  ·exact z
 have le:Np<=N:=ai (cF _ B.m2) (fo N0 dv);exact o8 Np0 (ai le hN) (aj _) (by lia) (hu xs hx x hx')
end
inductive Bn (K:FG9) (vs:List V) (H:Hp) (Q:VK) (E9:XK):Prop
 | mk (r s g p:Addr) (T:Nat) (H0 H1:Hp) (mv pt lk pus:LR9) (st go:List Rat):vs=[.ref r,.ref s,.ref g,.int T,.ref p]->T<=100->eh K H0 H r mv pt lk->fz mv pt lk->cv K H s st->st.length=mv.length->cv K H g go->bJ K H1 H p pus->pus.length=T->(∀xs∈pus,xs.length=pt.length)->Jd mv pt pus st->oh mv pt st pus T=go->(∀H',aG H H'->Q (.bl true) H')->Bn K vs H Q E9
structure RI (mv pt:LR9) (T:Nat) (st go pr:List Rat):Prop where
 ad:QU mv pt T
 al:Po mv st T
 sg:∀x∈go,kK x
 sr:∀x∈pr,kK x
 f1:∀xs∈kry mv pt T,xh pr xs
 f2:xh pr (eF mv T st go)
inductive zb (K:FG9) (vs:List V) (H:Hp) (Q:VK) (E9:XK):Prop
 | mk (r s g p:Addr) (T:Nat) (H0:Hp) (mv pt lk:LR9) (st go pr:List Rat):vs=[.ref r,.ref s,.ref g,.int T,.ref p]->T<=20->eh K H0 H r mv pt lk->fz mv pt lk->cv K H s st->st.length=mv.length->cv K H g go->go.length=mv.length->cv K H p pr->pr.length=mv.length->RI mv pt T st go pr->(∀xs∈kry mv pt T,dR xs pr=0)->dR pr (eF mv T st go)=1->(∀H',aG H H'->Q (.bl true) H')->zb K vs H Q E9
structure CtF (mv pt:LR9) (T:Nat) (st go:List Rat) (D W0 E W1:Nat):Prop where
 cf:F9 mv pt st (List.replicate T (List.replicate pt.length 0))
 sg:∀x∈go,kK x
 co:RK mv pt (eF mv T st go) D W0 E W1
 en:∀(pus:LR9) (q:Nat),0 < q->q<=(16*W0)^mv.length->pus.length=T->(∀xs∈pus,∀x∈xs,Tp (E*q) (D*(mv.length*(W1*(16*W0)^mv.length))) x)->Jd mv pt pus st
def Ly (v:Nat):Rat:=⟨1,v+1,Nat.succ_ne_zero v,by simp⟩
theorem MZ {v:Nat} (h:v < 3):Fr 6 1 (Ly v):=by
 have e:(Ly v).num.natAbs<=1:=aj _;have f:=Fr.own (Ly v) e
 have d:(Ly v).den∣6:=by
  show v+1∣6
  rcases (show v=0\/v=1\/v=2 by lia) with rfl | rfl | rfl <;> decide
 exact f.dvd d
def Q6 (pt:LR9) (T w:Nat) (pus:LR9):Prop:=pus.length=T/\∀xs∈pus,xs.length=pt.length/\∀x∈xs,Dr (max w 6) x
def GoP (mv pt:LR9) (T w:Nat) (st go:List Rat):Prop:=(∀x∈go,Dr (max w 6) x)\/∃pus,Q6 pt T w pus/\(go=oh mv pt st pus T\/∃a v,v < 3/\go=(oh mv pt st pus T).set a ((oh mv pt st pus T).getD a 0+Ly v))
inductive Ef (K:FG9) (vs:List V) (H:Hp) (Q:VK) (E9:XK):Prop
 | mk (b r s:Addr) (T w:Nat) (H0:Hp) (mv pt lk:LR9) (st:List Rat):vs=[.ref b,.ref r,.ref s,.int T,.int w]->T<=100->1<=w->w<=1000->ig H b->H0 b≠none->eh K H0 H r mv pt lk->fz mv pt lk->cv K H s st->s≠b->st.length=mv.length->(∀pus,Q6 pt T w pus->Jd mv pt pus st)->(∀g go H',H g=none->cv K H' g go->go.length=mv.length->GoP mv pt T w st go->ig H' b->cT b H H'->Q (.ref g) H')->Ef K vs H Q E9
theorem Kg (ws vs:List V) (M1 M2 M3:Nat):∃μ:V->Nat,(∀x∈ws,μ x=M2)/\(∀x∈vs,x∉ws->μ x=M3)/\(∀x,x∉ws->x∉vs->μ x=M1)/\∀x,μ x=M1\/μ x=M2\/μ x=M3:=by
 classical
 refine ⟨λx=>if x∈ws then M2 else if x∈vs then M3 else M1,λx h=>if_pos h,λx h h'=>?_,λx h h'=>?_,λx=>?_⟩
 ·show (if x∈ws then M2 else if x∈vs then M3 else M1)=M3
  rw[if_neg h',if_pos h]
 ·show (if x∈ws then M2 else if x∈vs then M3 else M1)=M1
  rw[if_neg h,if_neg h']
 ·show (if x∈ws then M2 else if x∈vs then M3 else M1)=M1\/(if x∈ws then M2 else if x∈vs then M3 else M1)=M2\/(if x∈ws then M2 else if x∈vs then M3 else M1)=M3
  by_cases h:x∈ws
  ·rw[if_pos h];exact .inr (.inl rfl)
  ·rw[if_neg h];by_cases h':x∈vs
   ·rw[if_pos h'];exact .inr (.inr rfl)
   ·rw[if_neg h'];exact .inl rfl
theorem jI.apart {K:FG9} {A:Addr->Prop} {H:Hp} {n:Nat} {C:V->Rat->Prop} {m p l b q0:Addr} {us ws vs:List V} (h:jI K A H n C m p l b q0 us ws vs):(∀x∈us,x∉ws/\x∉vs)/\∀x∈vs,x∉ws:=by
 obtain ⟨n1,n2,n3⟩:=dH.mp h.nd;obtain ⟨n4,n5,n6⟩:=dH.mp n1;exact ⟨λx hx=>⟨λz=>n3 x (aw.mpr (.inl hx)) x z rfl,λz=>n6 x hx x z rfl⟩,λx hx z=>n3 x (aw.mpr (.inr hx)) x z rfl⟩
theorem jI.fr3 {K:FG9} {A:Addr->Prop} {H:Hp} {n c:Nat} {m p l b q0:Addr} {us ws vs:List V} (h:jI K A H n (λ_=>Dr (2^c)) m p l b q0 us ws vs):∃M1 M2 M3,0 < M1/\0 < M2/\0 < M3/\M1<=2^(c*(n*n))/\M2<=2^(c*(ws.length*n))/\M3<=2^(c*(vs.length*n))/\(∀x∈us,fK K A H n (Fr M1 (2^c)) x)/\(∀x∈ws,fK K A H n (Fr M2 (2^c)) x)/\∀x∈vs,fK K A H n (Fr M3 (2^c)) x:=by
 have one:∀l:List V,(∀x∈l,x∈us++vs++ws)->∃M,0 < M/\M<=2^(c*(l.length*n))/\∀x∈l,fK K A H n (Fr M (2^c)) x:=λl hl=>by
  obtain ⟨ra,pa,la,ha⟩:=zF λx hx=>h.row x (hl x hx)
  obtain ⟨M,m0,m1,m2⟩:=LV (c:=c) (n:=n) (rows:=ra) ha;exact ⟨M,m0,by rw[la] at m1;exact m1,Fw pa λqs hq=>⟨(ha qs hq).1,m2 qs hq⟩⟩
 obtain ⟨M1,a1,a2,a3⟩:=one us λx hx=>by simp [hx]
 obtain ⟨M2,b1,b2,b3⟩:=one ws λx hx=>by simp [hx]
 obtain ⟨M3,c1,c2,c3⟩:=one vs λx hx=>by simp [hx]
 rw[h.lm] at a2;exact ⟨M1,M2,M3,a1,b1,c1,a2,b2,c2,a3,b3,c3⟩
inductive Bm (K:FG9) (xs:List V) (H:Hp) (Q:VK) (E9:XK):Prop
 | mk (b m p l q0:Addr) (n V1:Nat) (μ:V->Nat) (A:Addr->Prop) (us ws vs:List V):xs=[.ref b,.ref m,.ref p,.ref l]->Fb A m p l b q0->jI K A H n (λx=>Fr (μ x) V1) m p l b q0 us ws vs->n<=8->ws.length<=4->vs.length<=4->(∀x,0 < μ x)->(∀x,μ x<=2^800)->(∃M,∀x,x∉ws->x∉vs->μ x=M)->V1<=2^20->(∀q,H q=none->A q)->(∀r us' H',H' r=some (.tup [.ref m,.ref p,.ref l])->jI K A H' n (λx=>Fr (μ x) (9^3*V1)) m p l b q0 us' ws vs->iL A b m H H'->Q (.ref r) H')->Bm K xs H Q E9
def RH (n i o w c:Nat) (mv pt lk:LR9):Prop:=∃M1 M2 M3 V1:Nat,0 < M1/\0 < M2/\0 < M3/\GF M1 V1 mv/\GF M2 V1 pt/\GF M3 V1 lk/\((w<=9/\M1=2520/\M2=2520/\M3=2520/\V1=9^3*9)\/(9 < w/\M1<=2^(c*(n*n))/\M2<=2^(c*(i*n))/\M3<=2^(c*(o*n))/\V1=9^3*2^c))
inductive Bi (K:FG9) (vs:List V) (H:Hp) (Q:VK) (E9:XK):Prop
 | mk (b:Addr) (n i o w c:Nat):vs=[.ref b,.int n,.int i,.int o,.int w]->ig H b->n<=8->i<=4->o<=4->1<=w->w<=1000000->max w 6<=2^c->c<=20->c*((n+i+o)*n)<=800->(∀r mv pt lk H',eh K H H' r mv pt lk->mv.length=n->pt.length=i->lk.length=o->fz mv pt lk->RH n i o w c mv pt lk->ig H' b->cT b H H'->Q (.ref r) H')->Bi K vs H Q E9
def Rg (mv pt:LR9) (w:Nat):Prop:=(w<=9/\Bd mv pt 1 1 (9^3) 0 0 14)\/(w<=9/\mv.length<=5/\Bd mv pt 2520 2520 (9^3*9) 12 12 16)\/(w=1000/\mv.length<=2/\∃M1 M2,Bd mv pt M1 M2 (9^3*2^20) 80 160 33)
def LJ (K:FG9):Sp:=λvs H Q _=>∃b:Addr,vs=[.ref b]/\ig H b /\
 ∀t r (w a c:Nat) mv pt lk H',H' t=some (.tup [.ref r,.int w])->eh K H H' r mv pt lk->fz mv pt lk->Ji mv pt lk->rE mv pt a c->Rg mv pt w->1<=w->w<=1000->ig H' b->cT b H H'->Q (.ref t) H'
theorem FT {M V:Nat} {l:LR9} (h:GF M V l) (k:Nat):GF (k*M) V l:=λxs hx x hx'=>(h xs hx x hx').scaleL k
theorem RH.n {n i o w c:Nat} {mv pt lk:LR9} (h:RH n i o w c mv pt lk):PtF n i o w c mv pt lk:=by
 obtain ⟨M1,M2,M3,V1,a1,a2,a3,f1,f2,f3,hc⟩:=h;rcases hc with ⟨w9,rfl,rfl,rfl,e⟩ | ⟨w9,e1,e2,e3,e⟩
 ·exact ⟨2520,V1,by decide,f1,f2,f3,.inl ⟨w9,rfl,e⟩⟩
 ·refine ⟨M1*M2*M3,V1,bE (bE a1 a2) a3,?_,?_,?_,.inr ⟨w9,?_,e⟩⟩
  ·have:=FT f1 (M2*M3);rwa [show M2*M3*M1=M1*M2*M3 by rw[bQ (M2*M3),b9]] at this
  ·have:=FT f2 (M1*M3);rwa [show M1*M3*M2=M1*M2*M3 by rw[b9,bQ M3,b9]] at this
  ·exact FT f3 (M1*M2)
  ·refine ai (aA (aA e1 e2) e3) ?_;rw[<- aS,<- aS,show c*((n+i+o)*n)=c*(n*n)+c*(i*n)+c*(o*n) by rw[Lh,Lh,c8,c8]];exact aj _
def zd (n a1 a2:Nat):Nat:=a1*(n - 1)+a2
def zw (n a1 a2 c:Nat):Nat:=zd n a1 a2+c*n
def zq (n a1 a2 c:Nat):Nat:=n*(4+zw n a1 a2 c)
def ze (a1 a2 T b:Nat):Nat:=a1*T+a2+b
def zu (a1 a2 c T b g:Nat):Nat:=ze a1 a2 T b+(c*T+g+1)
abbrev ZS (n a1 a2 c T b g:Nat):Prop:=ze a1 a2 T b<=1500/\c*T+g<=1800/\zw n a1 a2 c+ze a1 a2 T b+zu a1 a2 c T b g+zd n a1 a2+2<=4300/\(n+1)*(zw n a1 a2 c+ze a1 a2 T b+zu a1 a2 c T b g+zd n a1 a2+6)<=8900/\a1*(T+1)+(a2+ze a1 a2 T b+zq n a1 a2 c)+c*(T+1)+(zd n a1 a2+3+zu a1 a2 c T b g+zq n a1 a2 c)<=3900/\a2+c<=3900/\a1*(T+1)+a2+c*(T+2)<=3900
abbrev ZP (n a1 a2 c T b g:Nat):Prop:=2*(zq n a1 a2 c+5+zu a1 a2 c T b g)+zu a1 a2 c T b g<=3930/\2*(zq n a1 a2 c+5+zu a1 a2 c T b g)+(a1*T+a2+c*(T+1))<=3930
theorem Jr {n n' a1 a2 c T T' b b' g:Nat} (hn:n<=n') (hT:T<=T') (hb:b<=b'):zd n a1 a2<=zd n' a1 a2/\zw n a1 a2 c<=zw n' a1 a2 c/\zq n a1 a2 c<=zq n' a1 a2 c/\ze a1 a2 T b<=ze a1 a2 T' b'/\zu a1 a2 c T b g<=zu a1 a2 c T' b' g/\a1*T<=a1*T'/\c*T<=c*T'/\a1*(T+1)<=a1*(T'+1)/\c*(T+1)<=c*(T'+1)/\c*(T+2)<=c*(T'+2):=by
 have e1:a1*(n - 1)<=a1*(n' - 1):=aF _ (by lia);have e2:c*n<=c*n':=aF _ hn;have e3:a1*T<=a1*T':=aF _ hT;have e4:c*T<=c*T':=aF _ hT;have w:zw n a1 a2 c<=zw n' a1 a2 c:=by unfold zw zd;lia
 have q:zq n a1 a2 c<=zq n' a1 a2 c:=aA hn (by lia);refine ⟨by unfold zd;lia,w,q,by unfold ze;lia,by unfold zu ze;lia,e3,e4,aF _ (by lia),aF _ (by lia),aF _ (by lia)⟩
theorem jX {n n' a1 a2 c T T' b b' g:Nat} (hn:n<=n') (hT:T<=T') (hb:b<=b') (h:ZS n' a1 a2 c T' b' g):ZS n a1 a2 c T b g:=by
 obtain ⟨h1,h2,h3,h4,h5,h6,h7⟩:=h;obtain ⟨m1,m2,m3,m4,m5,m6,m7,m8,m9,m10⟩:=Jr (a1:=a1) (a2:=a2) (c:=c) (g:=g) hn hT hb;refine ⟨by lia,by lia,by lia,ai (aA (by lia) (by lia)) h4,by lia,h6,by lia⟩
theorem yF {n n' a1 a2 c T T' b b' g:Nat} (hn:n<=n') (hT:T<=T') (hb:b<=b') (h:ZP n' a1 a2 c T' b' g):ZP n a1 a2 c T b g:=by
 obtain ⟨h1,h2⟩:=h;obtain ⟨m1,m2,m3,m4,m5,m6,m7,m8,m9,m10⟩:=Jr (a1:=a1) (a2:=a2) (c:=c) (g:=g) hn hT hb;exact ⟨by lia,by lia⟩
section
variable {mv pt lk pus:LR9} {st pu go pr:List Rat} {M1 M2 V a1 a2 c B b g p t T w:Nat}
theorem Bd.kry (X:Bd mv pt M1 M2 V a1 a2 c) (D:fz mv pt lk):∀t,∀xs∈kry mv pt t,∀x∈xs,Fr (M1^(t - 1)*M2) (2^(c*t)) x:=by
 intro t
 induction t with
 | zero=>intro xs hx;exact nomatch hx
 | succ t ih =>
  intro xs hx x hx';rcases aw.mp (show xs∈pt++(L2.kry mv pt t).map (pT mv) from hx) with hx | hx
  ·refine Fr.up (X.gp xs hx x hx') (cS _ _) (ai X.v1 (au (by decide) ?_));exact dh _ (by lia)
  ·obtain ⟨ys,hy,rfl⟩:=aD.mp hx;obtain ⟨row,hr,rfl⟩:=aD.mp (show x∈mv.map λzs=>dR zs ys from hx');rcases t with _ | t
   ·exact nomatch hy
   have f:=Fr.dot (X.gm row hr) (ih ys hy);rw[show M1*(M1^(t+1 - 1)*M2)=M1^(t+1+1 - 1)*M2 by rw[<- b9,show t+1 - 1=t by lia,show t+1+1 - 1=t+1 by lia,dC,bQ M1]] at f;refine f.mono ?_;rw[D.mw row hr,<- b9,show c*(t+1+1)=c+c*(t+1) by rw[c8 c (t+1)];lia,aS 2 c];exact ay _ (ai (ay V (show mv.length<=mv.length+4 by lia)) X.vc)
theorem Bd.lack (X:Bd mv pt M1 M2 V a1 a2 c) (D:fz mv pt lk) (ls:st.length=mv.length) (hs:∀x∈st,Fr B (2^g) x) (hg:∀x∈go,Fr (M1^T*(M2*B)) (2^(c*T+g)) x):∀x∈eF mv T st go,Fr (M1^T*(M2*B)) (2^(c*T+g+1)) x:=λx hx=>by
 unfold eF at hx;obtain ⟨j,hj,e⟩:=bK hx;rw[ib] at e;rw[<- e,show 2^(c*T+g+1)=2^(c*T+g)+2^(c*T+g) by rw[dC];lia];exact (hg _ (aP _)).sub ((FA X.gm D.mw X.vc ls hs T _ (aP _)).dvd (Nat.mul_dvd_mul_left _ (cS _ _)))
theorem Bd.end (X:Bd mv pt M1 M2 V a1 a2 c) (D:fz mv pt lk) (ls:st.length=mv.length) (lp:pus.length=T) (wp:∀xs∈pus,xs.length=pt.length) (b0:0 < B) (b1:B<=2^b) (hs:∀x∈st,Fr B (2^g) x) (hu:∀xs∈pus,∀x∈xs,Fr B (2^g) x) (Z:ZS mv.length a1 a2 c T b g):Jd mv pt pus st/\∀k,k<=T->∀x∈oh mv pt st pus k,Fr (M1^k*(M2*B)) (2^(c*k+g)) x:=by
 obtain ⟨h1,h2,h3,h4,h5,h6,h7⟩:=Z;have n0:0 < M2*B:=bE X.m2 b0;have hN:M2*B<=2^(a2+b):=by rw[aS];exact aA X.b2 b1
 have hs':∀x∈st,Fr (M2*B) (2^g) x:=λx hx=>(hs x hx).scaleL _
 have sz:a1*(pus.length+1)+(a2+b)+c*(pus.length+1)+g<=3900:=by
  rw[lp];unfold zu ze at h5
  lia
 exact ⟨⟨M1,M2,V,a1,a2,c,M2*B,B,g,a2+b,X,n0,hN,yS _,hs',hu,sz,h6⟩,λk hk=>(X.states D ls wp n0 hN (yS _) hs' hu sz h6 k (by lia)).1⟩
theorem Es {T i:Nat} {xs:List Rat} {x:Rat} (h:xs∈List.replicate T (List.replicate i (0:Rat))) (hx:x∈xs):x=0:=by
 rw[vX h] at hx;exact vX hx
theorem Bd.ctf (X:Bd mv pt M1 M2 V a1 a2 c) (D:fz mv pt lk) (ls:st.length=mv.length) (b0:0 < B) (b1:B<=2^b) (hs:∀x∈st,Fr B (2^g) x) (hg:∀x∈go,Fr (M1^T*(M2*B)) (2^(c*T+g)) x) (Z:ZS mv.length a1 a2 c T b g):CtF mv pt T st go (M1^(mv.length - 1)*M2) (2^(c*mv.length)*(M1^(mv.length - 1)*M2)) (M1^T*(M2*B)) (2^(c*T+g+1)*(M1^T*(M2*B))):=by
 have Z':=Z;obtain ⟨h1,h2,h3,h4,h5,h6,h7⟩:=Z;have n0:0 < M2*B:=bE X.m2 b0;have hN:M2*B<=2^(a2+b):=by rw[aS];exact aA X.b2 b1
 obtain ⟨Dd,eD⟩:∃d,M1^(mv.length - 1)*M2=d:=⟨_,rfl⟩;obtain ⟨E,eE⟩:∃d,M1^T*(M2*B)=d:=⟨_,rfl⟩;have D0:0 < Dd:=by rw[<- eD];exact bE (c7 X.m1) X.m2
 have E0:0 < E:=by rw[<- eE];exact bE (c7 X.m1) n0
 have dD:Dd<=2^zd mv.length a1 a2:=by rw[<- eD];exact fR X.b1 X.b2
 have dE:E<=2^ze a1 a2 T b:=by
  rw[<- eE,show ze a1 a2 T b=a1*T+(a2+b) by unfold ze;lia];exact fR X.b1 hN
 have dW:2^(c*mv.length)*Dd<=2^zw mv.length a1 a2 c:=by
  rw[show zw mv.length a1 a2 c=c*mv.length+zd mv.length a1 a2 by unfold zw;lia,aS];exact aF _ dD
 have dU:2^(c*T+g+1)*E<=2^zu a1 a2 c T b g:=by
  rw[show zu a1 a2 c T b g=c*T+g+1+ze a1 a2 T b by unfold zu;lia,aS 2 (c*T+g+1)];exact aF _ dE
 have hl:=X.lack D ls hs hg;have hg':=hg;rw[eD,eE];rw[eE] at hl hg'
 have q2:(16*(2^(c*mv.length)*Dd))^mv.length<=2^zq mv.length a1 a2 c:=by
  have:16*(2^(c*mv.length)*Dd)<=2^(4+zw mv.length a1 a2 c):=by rw[aS];exact aF _ dW
  refine ai (iJ this _) ?_;rw[<- vU,bQ];exact aj _
 refine ⟨λk hk=>?_,λx hx=>o8 E0 dE (aj _) (by lia) (hg' x hx),⟨D0,E0,bE (c7 (by decide)) D0,bE (c7 (by decide)) E0,λu hu xs hx x hx'=>?_,λx hx=>Tp.of (hl x hx) (aj _),?_,?_⟩,λqs q q0 hq lq hp=>?_⟩
 ·have wz:∀xs∈List.replicate T (List.replicate pt.length (0:Rat)),xs.length=pt.length:=λxs hx=>by rw[vX hx,aO]
  have lz:(List.replicate T (List.replicate pt.length (0:Rat))).length=T:=aO ..;rw[lz] at hk;obtain ⟨_,f⟩:=X.end D ls lz wz b0 b1 hs (λxs hx x hx'=>by rw[Es hx hx'];exact Fr.zero) Z';have m1:a1*k<=a1*T:=aF _ hk;have m2:c*k<=c*T:=aF _ hk;exact ⟨M1^k*(M2*B),2^(c*k+g),bE (c7 X.m1) n0,ai (fR X.b1 hN) (au (by decide) (by unfold ze at h1;lia)),au (by decide) (by lia),f k hk,λxs hx x hx'=>by rw[Es hx hx'];exact Fr.zero⟩
 ·have f:=X.kry D u xs hx x hx';rw[<- eD];refine Tp.of (Fr.up (M':=M1^(mv.length - 1)*M2) (V':=2^(c*mv.length)) f (og (pU _ (by lia)) _) (au (by decide) (aF _ hu))) (aj _)
 ·refine ai (aA dD dE) ?_;rw[<- aS];exact au (by decide) (by lia)
 ·refine ⟨zw mv.length a1 a2 c+ze a1 a2 T b+zu a1 a2 c T b g+zd mv.length a1 a2+2,?_,h3,h4⟩
  have S:∀{x y k j:Nat},x<=2^k->y<=2^j->k+j<=zw mv.length a1 a2 c+ze a1 a2 T b+zu a1 a2 c T b g+zd mv.length a1 a2->x*y<=2^(zw mv.length a1 a2 c+ze a1 a2 T b+zu a1 a2 c T b g+zd mv.length a1 a2):=λhx hy hk=>by
   refine ai (aA hx hy) ?_;rw[<- aS];exact au (by decide) hk
  have s1:=S dW dE (by lia);have s2:=S dU dD (by lia);have s3:=S dD dE (by lia);rw[aS _ _ 2];generalize 2^(zw mv.length a1 a2 c+ze a1 a2 T b+zu a1 a2 c T b g+zd mv.length a1 a2)=P at s1 s2 s3 ⊢
  lia
 ·have Np0:0 < E*q:=bE E0 q0;have hq':q<=2^zq mv.length a1 a2 c:=ai hq q2
  have hP:Dd*(mv.length*(2^(c*T+g+1)*E*(16*(2^(c*mv.length)*Dd))^mv.length))<=2^(zd mv.length a1 a2+3+zu a1 a2 c T b g+zq mv.length a1 a2 c):=by
   have n3:mv.length<=2^3:=D.n8;refine ai (aA dD (aA n3 (aA dU q2))) ?_;rw[<- aS,<- aS,<- aS];exact au (by decide) (by lia)
  refine ⟨M1,M2,V,a1,a2,c,M2*(E*q),E*q,zd mv.length a1 a2+3+zu a1 a2 c T b g+zq mv.length a1 a2 c,a2+ze a1 a2 T b+zq mv.length a1 a2 c,X,bE X.m2 Np0,?_,yS _,λx hx=>?_,λxs hx x hx'=>((hp xs hx x hx').fr Np0).mono hP,?_,h6⟩
  ·rw[aS,aS,b9];exact aA X.b2 (aA dE hq')
  ·refine Fr.up (hs x hx) ?_ (au (by decide) (by unfold zu;lia));rw[<- eE];exact gD (gD (gD (cS _ M2) (cS _ (M1^T))) (HW _ q)) (cS _ _)
  ·rw[lq];exact h5
theorem Bd.prf (X:Bd mv pt M1 M2 V a1 a2 c) (D:fz mv pt lk) (ls:st.length=mv.length) (b0:0 < B) (b1:B<=2^b) (hs:∀x∈st,Fr B (2^g) x) (hg:∀x∈go,Fr (M1^T*(M2*B)) (2^(c*T+g)) x) (Z:ZS mv.length a1 a2 c T b g) (P:ZP mv.length a1 a2 c T b g) {q:Nat} (q0:0 < q) (hq:q<=(16*(2^(c*mv.length)*(M1^(mv.length - 1)*M2)))^mv.length*(16*(2^(c*T+g+1)*(M1^T*(M2*B))+M1^T*(M2*B)))) (hp:∀y∈pr,Tp q ((16*(2^(c*mv.length)*(M1^(mv.length - 1)*M2)))^mv.length*(16*(2^(c*T+g+1)*(M1^T*(M2*B))+M1^T*(M2*B)))) y):RI mv pt T st go pr/\∀(L:List Rat) (B':Nat),0 < B'->B'<=2^b->(∀x∈L,Fr (M1^T*(M2*B')) (2^(c*T+g+1)) x)->xh pr L:=by
 have n0:∀{B'},0 < B'->0 < M1^T*(M2*B'):=λh=>bE (c7 X.m1) (bE X.m2 h)
 have hN:∀{B'},B'<=2^b->M1^T*(M2*B')<=2^ze a1 a2 T b:=λh=>by
  rw[show ze a1 a2 T b=a1*T+(a2+b) by unfold ze;lia];exact fR X.b1 (by rw[aS];exact aA X.b2 h)
 have ct:=X.ctf D ls b0 b1 hs hg Z;have hl:=X.lack D ls hs hg;obtain ⟨h1,h2,h3,h4,h5,h6,h7⟩:=Z;obtain ⟨p1,p2⟩:=P;have dD:M1^(mv.length - 1)*M2<=2^zd mv.length a1 a2:=fR X.b1 X.b2;have dE:=hN b1
 have W:(16*(2^(c*mv.length)*(M1^(mv.length - 1)*M2)))^mv.length*(16*(2^(c*T+g+1)*(M1^T*(M2*B))+M1^T*(M2*B)))<=2^(zq mv.length a1 a2 c+5+zu a1 a2 c T b g):=by
  have e1:16*(2^(c*mv.length)*(M1^(mv.length - 1)*M2))<=2^(4+zw mv.length a1 a2 c):=by
   rw[show zw mv.length a1 a2 c=c*mv.length+zd mv.length a1 a2 by unfold zw;lia,aS 2 4,aS];exact aF _ (aF _ dD)
  have e2:=iJ e1 mv.length;rw[<- vU,bQ (4+zw mv.length a1 a2 c)] at e2
  have e3:2^(c*T+g+1)*(M1^T*(M2*B))<=2^zu a1 a2 c T b g:=by
   rw[show zu a1 a2 c T b g=c*T+g+1+ze a1 a2 T b by unfold zu;lia,aS 2 (c*T+g+1)];exact aF _ dE
  have e4:M1^T*(M2*B)<=2^(c*T+g+1)*(M1^T*(M2*B)):=cF _ (c7 (by decide));generalize 2^(c*T+g+1)*(M1^T*(M2*B))=u at e3 e4 ⊢;rw[show zq mv.length a1 a2 c+5+zu a1 a2 c T b g=mv.length*(4+zw mv.length a1 a2 c)+(5+zu a1 a2 c T b g) by unfold zq;lia,aS];refine aA e2 ?_;rw[aS];generalize M1^T*(M2*B)=v at e4 ⊢
  lia
 have fp:nY (zq mv.length a1 a2 c+5+zu a1 a2 c T b g) (zq mv.length a1 a2 c+5+zu a1 a2 c T b g) pr:=⟨q,_,q0,ai hq W,W,λx hx=>(hp x hx).fr q0⟩;have key:∀(L:List Rat) (B':Nat),0 < B'->B'<=2^b->(∀x∈L,Fr (M1^T*(M2*B')) (2^(c*T+g+1)) x)->xh pr L:=λL B' c0 c1 h=>⟨_,_,ze a1 a2 T b,c*T+g+1,fp,⟨_,_,n0 c0,hN c1,aj _,h⟩,by unfold zu at p1 ⊢;lia⟩
 refine ⟨⟨⟨M1,M2,V,a1,a2,c,X,h7⟩,⟨M1,V,a1,c,B,g,b,X.m1,X.b1,X.gm,X.vc,b0,b1,hs,by unfold zu ze at h5;lia⟩,ct.sg,λx hx=>o8 q0 (ai hq W) W (by lia) ((hp x hx).fr q0),λxs hx=>?_,key _ B b0 b1 hl⟩,key⟩;refine ⟨_,_,a1*T+a2,c*(T+1),fp,⟨M1^T*M2,2^(c*T),bE (c7 X.m1) X.m2,fR X.b1 X.b2,au (by decide) (aF _ (by lia)),λx hx'=>(X.kry D T xs hx x hx').dvd (og (pU _ (by lia)) _)⟩,by lia⟩
theorem Pu {n a1 a2 c T b g:Nat} (h:ZS n a1 a2 c T b (g+1)):ZS n a1 a2 c T b g:=by
 obtain ⟨h1,h2,h3,h4,h5,h6,h7⟩:=h;have e:zu a1 a2 c T b g<=zu a1 a2 c T b (g+1):=by unfold zu;lia
 exact ⟨h1,by lia,by lia,ai (aF _ (by lia)) h4,by lia,h6,h7⟩
structure Us (mv pt:LR9) (w T M1 M2 V a1 a2 c b1 b2:Nat):Prop where
 bd:Bd mv pt M1 M2 V a1 a2 c
 z1:ZS mv.length a1 a2 c T b1 23
 zp:ZP mv.length a1 a2 c T b1 23
 z2:ZS mv.length a1 a2 c T b2 23
 dr:∀l:List Rat,(∀x∈l,Dr (max w 6) x)->∃B,0 < B/\6∣B/\(∀x∈l,Fr B (2^22) x)/\(l.length<=2*mv.length+T*pt.length->B<=2^b1)/\(l.length<=2*mv.length+2*(T*pt.length)->B<=2^b2)
end
section
variable {mv pt lk pus pus':LR9} {st st' pu go pr:List Rat} {M1 M2 V a1 a2 c B b1 b2 g p t T w:Nat}
theorem OM {l:List Rat} (h:∀x∈l,Fr B (2^22) x):∀x∈l,Fr B (2^23) x:=λx hx=>(h x hx).mono (by decide)
end
open PySem.MeetsSeq
def Pn (mv pt:LR9) (T u:Nat):Prop:=(∃R ps ps',bY (kry mv pt u) mv.length R ps/\bY (kry mv pt T) mv.length R ps')/\∀i,i < u->∀R ps ps',bY (kry mv pt i) mv.length R ps->¬bY (kry mv pt T) mv.length R ps'
def MY (mv pt:LR9) (T:Nat) (L:List Rat) (pus:LR9):Prop:=∃u R ps,Pn mv pt T u/\bY (cX (cU (kry mv pt u) mv.length) L) ((kry mv pt u).length+1) R ps/\(kry mv pt u).length∉ps/\pus=zI (fP R ps (kry mv pt u).length) T u pt.length
def Pd (mv pt:LR9) (T:Nat) (L pr:List Rat):Prop:=∃u R ps R' ps',Pn mv pt T u/\bY (cX (cU (kry mv pt u) mv.length) L) ((kry mv pt u).length+1) R ps/\(kry mv pt u).length∈ps/\bY (cX (kry mv pt u++[L]) (List.replicate (kry mv pt u).length 0++[1])) (mv.length+1) R' ps'/\pr=fP R' ps' mv.length
section
variable {mv pt:LR9} {T u u':Nat} {L pr pr':List Rat} {pus pus':LR9} {Rs:List (LR9)}
theorem Pn.uniq (h:Pn mv pt T u) (h':Pn mv pt T u'):u=u':=by
 obtain ⟨⟨R,ps,ps2,a,b⟩,c⟩:=h;obtain ⟨⟨R',ps',ps2',a',b'⟩,c'⟩:=h';rcases jJ u u' with h | h | h
 ·exact absurd b (c' u h _ _ _ a)
 ·exact h
 ·exact absurd b' (c u' h _ _ _ a')
theorem MY.uniq (h:MY mv pt T L pus) (h':MY mv pt T L pus'):pus=pus':=by
 obtain ⟨u,R,ps,a,b,_,rfl⟩:=h;obtain ⟨u',R',ps',a',b',_,rfl⟩:=h';cases a.uniq a';obtain ⟨rfl,rfl⟩:=b.same b';rfl
theorem Pd.uniq (h:Pd mv pt T L pr) (h':Pd mv pt T L pr'):pr=pr':=by
 obtain ⟨u,R,ps,R2,ps2,a,b,_,c,rfl⟩:=h;obtain ⟨u',R',ps',R2',ps2',a',b',_,c',rfl⟩:=h';cases a.uniq a';obtain ⟨rfl,rfl⟩:=c.same c';rfl
theorem MY.not (h:MY mv pt T L pus) (h':Pd mv pt T L pr):False:=by
 obtain ⟨u,R,ps,a,b,n,rfl⟩:=h;obtain ⟨u',R',ps',R2',ps2',a',b',m,c',rfl⟩:=h';cases a.uniq a';obtain ⟨rfl,rfl⟩:=b.same b';exact n m
theorem rF.lt (h:rF mv pt Rs):∀(k i:Nat) (R R':LR9),Rs[i]?=some R->Rs[i+1+k]?=some R'->R.length < R'.length
 | 0,i,R,R',a,b=>h.up i R R' a b
 | k+1,i,R,R',a,b=>by
  have hk:i+1+k < Rs.length:=by have:=(aE.mp b).1;lia
  have e:Rs[i+1+k]?=some Rs[i+1+k]:=af hk;exact Nat.lt_trans (h.lt k i R _ a e) (h.up (i+1+k) _ R' e b)
theorem rF.cmu (h:rF mv pt Rs) {R:LR9} {psT:List Nat} (eR:Rs[u]?=some R) (RRT:bY (kry mv pt T) mv.length R psT):Pn mv pt T u:=by
 obtain ⟨ps,RRu⟩:=h.rr u R eR;refine ⟨⟨R,ps,psT,RRu,RRT⟩,λi hi R1 ps1 ps2 a b=>?_⟩;have hu:=(aE.mp eR).1;have ei:Rs[i]?=some (Rs[i]'(by lia)):=af (by lia);obtain ⟨psi,RRi⟩:=h.rr i _ ei;have lt:=h.lt (u - i - 1) i _ R ei (by rw[show i+1+(u - i - 1)=u by lia];exact eR);have e1:=(RRi.same a).1;have e2:=(RRT.same b).1;rw[e1,e2] at lt;exact eo _ lt
end
section
variable {X:Cx} {tg l:Expr} {tl:TE}
def Kz (K:FG9) (tl:TE):TI:=λσ H R=>tl σ H λx H1=>∃a,x=.ref a/\((∃xs,bN K H1 a xs)/\R (Lk K a) H1\/(∃xs,jl K H1 a xs)/\R (MX K a) H1)
theorem OE (hl:PE X l tl):PI X tg l (Kz X.K tl):=by
 intro pins s σ H R I h;refine gQ (hl pins s σ H _ I h) λv s1 ⟨x,H1,I1,r1,q1⟩=>?_
 obtain ⟨a,e,q1⟩:=q1;subst e;cases r1;rcases q1 with ⟨⟨xs,hq⟩,q⟩ | ⟨⟨xs,hq⟩,q⟩
 ·obtain ⟨its,rv,p,hz⟩:=I1.list hq;refine wpAny_pyIter_list p.isList ?_;refine ⟨s1.heap.objs.size,[s1.heap.objs.size],_,_,H1,rfl,I1.kept (t':=s1.toks) λb o e=>Heap.get?_push_of_some _ e,A7 a _,⟨_,Heap.get?_push_size _ rfl,rfl,rfl⟩,λb hb=>?_,q⟩;have e:b=s1.heap.objs.size:=by simpa using hb
  subst e;exact I1.fpOk (aj _) (I1.hok.fresh (aj _))
 ·obtain ⟨its,rv,p,hz⟩:=I1.tuple hq;refine wpAny_pyIter_tuple (show s1.heap.IsTuple a its.toArray from p) ?_;refine ⟨s1.heap.objs.size,[s1.heap.objs.size],_,_,H1,rfl,I1.kept (t':=s1.toks) λb o e=>Heap.get?_push_of_some _ e,yV a _,⟨_,Heap.get?_push_size _ rfl,rfl,rfl⟩,λb hb=>?_,q⟩;have e:b=s1.heap.objs.size:=by simpa using hb
  subst e;exact I1.fpOk (aj _) (I1.hok.fresh (aj _))
end
section
variable {X:Cx} {pins:List (Addr×Obj)} {σ:St} {H:Hp} {s:Shared} {A:Around} {E:Value->Shared->Prop} {Q:Value->Shared->Prop} {b:Bool} {tp:Addr} {dd:Option Addr} {its:List Value} {n:Nat} {sl:Array (Option Value)}
theorem FR {x:V} {u t:Value} (I:Inv X pins σ H s) (rx:RelV x u) (ty:uv X.K H x t) (htp:s.heap.get? tp=some ⟨.type "tuple",dd,.seq its.toArray n,sl⟩) (e:PySem.W.kitAny X.K t its=some b) (h:∀tk,Q (.bool b) { s with toks:=tk }) :
  wpAny (model X.prog X.w) A (call (.builtin "isinstance") [u,.ref tp]) Q E s:=by
 cases ty with
 | non=>cases (show u=Value.none from rx);exact dq PySem.W.kitx_none I.kIn True.intro htp e (λz=>nomatch z) h
 | bl y=>cases (show u=Value.bool y from rx);exact dq PySem.W.kitx_bool I.kIn True.intro htp e (λz=>nomatch z) h
 | int i=>obtain ⟨t,q⟩:=(show ∃t,u=Value.int i t from rx);cases q;exact dq PySem.W.kitx_int I.kIn True.intro htp e (λz=>nomatch z) h
 | str y=>obtain ⟨t,q⟩:=(show ∃t,u=Value.str y t from rx);cases q;exact dq PySem.W.kitx_str I.kIn True.intro htp e (λz=>nomatch z) h
 | flt y=>obtain ⟨t,q⟩:=(show ∃t,u=Value.float y t from rx);cases q;exact dq PySem.W.kitx_float I.kIn True.intro htp e (λz=>nomatch z) h
 | @lst a xs ea =>
  cases (show u=Value.ref a from rx);obtain ⟨_,_,n,_,h1⟩:=(show gi X.prog X.w H s.heap a (.lst xs) from I.hok a _ ea);exact dq vS I.kIn ⟨_,h1,rfl⟩ htp e (λz=>nomatch z) h
 | @frz a ob xs ea =>
  cases (show u=Value.ref a from rx);obtain ⟨_,_,_,n,_,h1⟩:=(show gi X.prog X.w H s.heap a (.frz ob (.lst xs)) from I.hok a _ ea);exact dq vS I.kIn ⟨_,h1,rfl⟩ htp e (λz=>nomatch z) h
 | @tup a xs ea =>
  cases (show u=Value.ref a from rx);obtain ⟨_,_,_,p⟩:=(show gi X.prog X.w H s.heap a (.tup xs) from I.hok a _ ea);obtain ⟨o,h1,h2,_⟩:=p;exact dq tH I.kIn ⟨o,h1,h2⟩ htp e (λz=>nomatch z) h
 | @dK a kvs ea =>
  cases (show u=Value.ref a from rx);obtain ⟨_,_,vs,_,p⟩:=(show gi X.prog X.w H s.heap a (.dK kvs) from I.hok a _ ea);obtain ⟨o,es,ep,h1,h2,_⟩:=p;exact dq vT I.kIn ⟨o,h1,h2.1⟩ htp e (λz=>nomatch z) h
 | @dT a kvs ea =>
  cases (show u=Value.ref a from rx);obtain ⟨_,_,xs,_,o,es,ep,h1,h2,_⟩:=(show gi X.prog X.w H s.heap a (.dT kvs) from I.hok a _ ea);exact dq vT I.kIn ⟨o,h1,h2.1⟩ htp e (λz=>nomatch z) h
 | @ins a C dx fs ea cl ha hn htk hm =>
  cases (show u=Value.ref a from rx);obtain ⟨mA,O,_⟩:=uY I.hok ea;obtain ⟨od,J,_⟩:=O.look;exact dq (PySem.W.kitx_own (cl.get _) cl.hd ha hn htk hm) I.kIn J htp e (λz=>nomatch z) h
def Ql (K:FG9):List V->Hp->VK->Prop:=λvs H Q=>∃x tp,vs=[x,.ref tp]/\H tp=some (.tup [.ty "list",.ty "tuple"])/\((∃t b,uv K H x t/\PySem.W.kitAny K t [.type "list",.type "tuple"]=some b/\Q (.bl b) H)\/∃a xs,x=.ref a/\jl K H a xs/\Q (.bl true) H)
theorem Ja {X:Cx}:mG X (.builtin "isinstance") (Ql X.K):=by
 intro pins s σ H vs us Q I r h;obtain ⟨x,tp,rfl,et,q1⟩:=h;obtain ⟨u,v,rfl,ru,rv⟩:=vals2 r;cases rv;obtain ⟨_,its,rits,o,ho,hoc,n,hod⟩:=(show gi X.prog X.w H s.heap tp (.tup [.ty "list",.ty "tuple"]) from I.hok tp _ et);obtain ⟨oc,od,dt,sl⟩:=o
 dsimp only at hoc hod
 subst hoc hod
 obtain rfl:its=[.type "list",.type "tuple"]:=by
  cases rits with
  | cons a r=>cases r with
   | cons a2 r2=>cases r2;cases a;cases a2;rfl
 rcases q1 with ⟨t,b,ty,ek,q⟩ | ⟨ad,xs,rfl,hs,q⟩
 ·exact FR I ru ty ho ek λtk=>⟨.bl b,H,I.tok tk,rfl,q⟩
 ·cases ru;obtain ⟨_,_,⟨o,g1,g2,_⟩,_⟩:=I.tuple hs;exact dq tH I.kIn ⟨o,g1,g2⟩ ho (b:=true) rfl (λz=>nomatch z) λtk=>⟨.bl true,H,I.tok tk,rfl,q⟩
end
inductive Ed where
 | fl (v:V)
 | row (qs:List Rat)
 | grid (rs:LR9)
def Ed.ok:Ed->Prop
 | .fl v=>nN v=true
 | .row qs=>qs.length<=100
 | .grid rs=>rs.length<=100/\∀qs∈rs,qs.length<=100
def yP (K:FG9) (H0 H:Hp):Ed->V->Prop
 | .fl v,x=>x=v
 | .row qs,x=>∃p,x=.ref p/\H0 p=none/\cv K H p qs
 | .grid rs,x=>∃p,x=.ref p/\H0 p=none/\bJ K H0 H p rs
theorem yP.same {K:FG9} {H0 H H':Hp} {d:Ed} {x:V} (h:yP K H0 H d x) (s:aG H H'):yP K H0 H' d x:=by
 cases d with
 | fl v=>exact h
 | row qs=>obtain ⟨p,a,b,c⟩:=h;exact ⟨p,a,b,c.same s⟩
 | grid rs=>obtain ⟨p,a,b,c⟩:=h;exact ⟨p,a,b,c.same s⟩
def Gj (K:FG9) (n:Nat):Sp:=match n with
 | 0=>λ_ _ _ _=>False
 | i+1=>λvs H Q _=>∃x,vs=[x] /\
  ((nN x=true/\∀H',aG H H'->Q x H')
  \/ (1<=i/\∃q,ck K H q x/\∀r H',aG H H'->ck K H' q (.ref r)->Q (.ref r) H')
  \/ (2<=i/\∃p qs,x=.ref p/\cv K H p qs/\qs.length<=100/\∀r H',H r=none->aG H H'->cv K H' r qs->Q (.ref r) H')
  \/ (3<=i/\∃p H0 rs,x=.ref p/\bJ K H0 H p rs/\rs.length<=100/\(∀qs∈rs,qs.length<=100)/\∀r H',H r=none->aG H H'->bJ K H H' r rs->Q (.ref r) H')
  \/ (4<=i/\∃t xs H0 ds,x=.ref t/\jl K H t xs/\Paired (yP K H0 H) ds xs/\ds.length<=10/\(∀d∈ds,Ed.ok d)/\∀r ys H',aG H H'->H' r=some (.tup ys)->Paired (yP K H H') ds ys->Q (.ref r) H'))
section
variable {K:FG9} {a:Addr} {xs:List V} {g:TG} {tf:TT} {te:TE} {Q:VK} {σ₀:St} {H:Hp} {α β:Type}
theorem BU {as:List α} {F:Hp->α->V->Prop} (G:Hp->β->V->Prop) (f:α->β) (hx:jl K H a xs) (pf:Paired (F H) as xs) (hl:as.length<=1000)
  (hF:∀{H H' c x},F H c x->aG H H'->F H' c x) (hG:∀{H H' c x},G H c x->aG H H'->G H' c x)
  (hs:∀(i:Nat) c x H' NY NN,as[i]?=some c->aG H H'->F H' c x->(∀y H2,aG H' H2->G H2 (f c) y->NY y H2)->pG σ₀ g tf te x H' NY NN)
  (hd:∀ys H' p,H p=none->aG H H'->H' p=some (.lst ys)->Paired (G H') (as.map f) ys->(∃H2,H2 p=none/\Paired (G H2) (as.map f) ys)->Q (.ref p) H'):pR (MX K a) σ₀ g tf te Q H:=by
 have lx:=pf.length;refine K9 (K:=K) (xs:=xs) (λi ys H'=>aG H H'/\Paired (G H') ((as.take i).map f) ys) (aZ (bC (by lia))) ⟨aG.refl _,.nil⟩ (λi ys H' _ ⟨s,_⟩=>s.sqt hx) ?_ ?_
 ·rintro i x ys H' hx' hlen ⟨s,pr⟩;obtain ⟨c,ec,hc⟩:=cm pf hx';refine hs i c x H' _ _ ec s (hF hc s) λy H2 s2 gy=>⟨s.trans s2,?_⟩
  rw[take_snoc ec,cJ];exact bP (Paired.imp' (λ_ _ z=>hG z s2) pr) (.cons gy .nil)
 ·rintro ys H' hy ⟨s,pr⟩ p hp;rw[aI (by lia)] at pr;exact hd ys _ p (s.none hp) (s.trans (aG.new hp)) aK (Paired.imp' (λ_ _ z=>hG z (aG.new hp)) pr) ⟨H',hp,pr⟩
end
def Kp (S:Addr->Prop) (H H':Hp):Prop:=∀a o,H a=some o->(¬S a\/∀zs,o≠.lst zs)->H' a=some o
section
variable {K:FG9} {S S':Addr->Prop} {H H' H'':Hp} {p:Addr} {q:Rat} {qs:List Rat} {x:V}
theorem Kp.of (s:aG H H'):Kp S H H':=λa o h _=>s a o h
theorem Kp.mono (h:Kp S H H') (hs:∀a,S a->S' a):Kp S' H H':=λa o e c=>h a o e (c.elim (λn=>.inl λz=>n (hs a z)) .inr)
theorem Kp.trans (h:Kp S H H') (h':Kp S H' H''):Kp S H H'':=λa o e c=>h' a o (h a o e c) c
theorem Kp.upd {ys:List V} {o:HO} (hl:H p=some (.lst ys)) (hS:S p):Kp S H (upd H p o):=λa o' e c=>by
 by_cases z:a=p
 ·subst z;rw[hl] at e;cases e;exact c.elim (λn=>absurd hS n) λn=>absurd rfl (n ys)
 ·rw[bG z];exact e
theorem Kp.sqt (h:Kp S H H') {a:Addr} {xs:List V} (s:jl K H a xs):jl K H' a xs:=by
 rcases s with (e | ⟨o,e⟩) | e
 ·exact .inl (.inl (h _ _ e (.inr λ_ z=>nomatch z)))
 ·exact .inl (.inr ⟨o,h _ _ e (.inr λ_ z=>nomatch z)⟩)
 ·exact .inr e
theorem Kp.numR (h:Kp S H H') {n:Int×Int} (m:vR K H x n):vR K H' x n:=by obtain ⟨p,e,s⟩:=m;exact ⟨p,e,h.sqt s⟩
theorem Kp.num (h:Kp S H H') (n:ck K H q x):ck K H' q x:=by obtain ⟨p,e,s⟩:=n;exact ⟨p,e,h.sqt s⟩
theorem Kp.row (h:Kp S H H') (n:¬S p) (r:cv K H p qs):cv K H' p qs:=by
 obtain ⟨xs,g,pr⟩:=r;exact ⟨xs,h _ _ g (.inl n),Paired.imp' (λ_ _ z=>h.num z) pr⟩
end
def Pc (K:FG9) (W:Addr->Prop) (H:Hp):Ed->V->Prop
 | .fl v,x=>x=v
 | .row qs,x=>∃p,x=.ref p/\W p/\cv K H p qs
 | .grid rs,x=>∃p us,x=.ref p/\W p/\H p=some (.lst us)/\V.ref p∉us/\Paired (λqs v=>∃q,v=V.ref q/\W q/\cv K H q qs) rs us
theorem Pc.kp {K:FG9} {S W:Addr->Prop} {H H':Hp} {d:Ed} {x:V} (h:Pc K W H d x) (k:Kp S H H') (n:∀a,W a->¬S a):Pc K W H' d x:=by
 cases d with
 | fl v=>exact h
 | row qs=>obtain ⟨p,a,b,c⟩:=h;exact ⟨p,a,b,k.row (n p b) c⟩
 | grid rs =>
  obtain ⟨p,us,a,b,c,d,e⟩:=h;exact ⟨p,us,a,b,k _ _ c (.inl (n p b)),d,Paired.imp' (λ_ _ ⟨q,a,b,c⟩=>⟨q,a,b,k.row (n q b) c⟩) e⟩
theorem yP.elW {K:FG9} {H0 Hf H:Hp} {d:Ed} {x:V} (h:yP K H0 Hf d x) (s:aG Hf H):Pc K (λa=>H0 a=none/\Hf a≠none) H d x:=by
 cases d with
 | fl v=>exact h
 | row qs =>
  obtain ⟨p,a,b,c⟩:=h;exact ⟨p,a,⟨b,by obtain ⟨_,g,_⟩:=c;rw[g];exact λz=>nomatch z⟩,c.same s⟩
 | grid rs =>
  obtain ⟨p,a,b,us,c,d,e⟩:=h;exact ⟨p,us,a,⟨b,by rw[c];exact λz=>nomatch z⟩,s _ _ c,e,Paired.imp' (λ_ _ ⟨q,a,b,c⟩=>⟨q,a,⟨b,by obtain ⟨_,g,_⟩:=c;rw[g];exact λz=>nomatch z⟩,c.same s⟩) d⟩
def Bg (K:FG9) (n:Nat):Sp:=match n with
 | 0=>λ_ _ _ _=>False
 | i+1=>λvs H Q _=>∃x,vs=[x] /\
  ((nN x=true/\∀H',aG H H'->Q .non H')
  \/ (1<=i/\∃n,vR K H x n/\∀H',aG H H'->Q .non H')
  \/ (2<=i/\∃p zs,x=.ref p/\H p=some (.lst zs)/\zs.length<=500/\(∀z∈zs,∃n,vR K H z n)/\∀t H',Kp (λa=>a=p) H H'->H' t=some (.tup [.int 7,.int 1])->H' p=some (.lst (zs++[.ref t]))->Q .non H')
  \/ (3<=i/\∃p us,x=.ref p/\H p=some (.lst us)/\us.length<=100/\V.ref p∉us/\(∀y∈us,∃q zs,y=.ref q/\H q=some (.lst zs)/\zs.length<=100/\∀z∈zs,∃n,vR K H z n)/\∀H',Kp (λa=>a=p\/V.ref a∈us) H H'->Q .non H')
  \/ (4<=i/\∃(t:Addr) (xs:List V) (ews:List (Ed×(Addr->Prop))),x=.ref t/\jl K H t xs/\Paired (λ(e:Ed×(Addr->Prop)) v=>Pc K e.2 H e.1 v) ews xs/\ews.length<=10/\(∀e∈ews,Ed.ok e.1)/\(∀(i j:Nat) (e e':Ed×(Addr->Prop)),i < j->ews[i]?=some e->ews[j]?=some e'->∀a,e'.2 a->¬e.2 a)/\∀H',Kp (λa=>∃e∈ews,e.2 a) H H'->Q .non H'))
theorem Ls {n a1 a2 c T u b g:Nat} (hu:u<=T) (h:ZS n a1 a2 c T b g):ZS n a1 a2 c u (b+a1*(T - u)) (g+c*(T - u)):=by
 obtain ⟨k,rfl⟩:∃k,T=u+k:=⟨T - u,by lia⟩;rw[show u+k - u=k by lia];have e1:a1*(u+k)=a1*u+a1*k:=c8 ..;have e2:c*(u+k)=c*u+c*k:=c8 ..;have e3:a1*(u+1)<=a1*(u+k+1):=aF _ (by lia);have e4:c*(u+1)<=c*(u+k+1):=aF _ (by lia);have e5:c*(u+2)<=c*(u+k+2):=aF _ (by lia);have z1:ze a1 a2 u (b+a1*k)=ze a1 a2 (u+k) b:=by unfold ze;lia
 have z2:zu a1 a2 c u (b+a1*k) (g+c*k)=zu a1 a2 c (u+k) b g:=by unfold zu;rw[z1];lia
 obtain ⟨h1,h2,h3,h4,h5,h6,h7⟩:=h;unfold ZS;rw[z1,z2];exact ⟨h1,by lia,h3,h4,by lia,h6,by lia⟩
theorem Lu {n a1 a2 c T u b g:Nat} (hu:u<=T) (h:ZP n a1 a2 c T b g):ZP n a1 a2 c u (b+a1*(T - u)) (g+c*(T - u)):=by
 obtain ⟨k,rfl⟩:∃k,T=u+k:=⟨T - u,by lia⟩;rw[show u+k - u=k by lia];have e1:a1*(u+k)=a1*u+a1*k:=c8 ..;have e2:c*(u+k)=c*u+c*k:=c8 ..;have e4:c*(u+1)<=c*(u+k+1):=aF _ (by lia);have z1:ze a1 a2 u (b+a1*k)=ze a1 a2 (u+k) b:=by unfold ze;lia
 have z2:zu a1 a2 c u (b+a1*k) (g+c*k)=zu a1 a2 c (u+k) b g:=by unfold zu;rw[z1];lia
 obtain ⟨h1,h2⟩:=h;unfold ZP;rw[z2];exact ⟨h1,by lia⟩
def O6 (mv pt:LR9) (st go:List Rat) (u:Nat) (A:LR9->Prop) (B:List Rat->Prop):Prop:=∃D W0 E W1,CtF mv pt u st go D W0 E W1 /\
 (∀(pus:LR9) (q:Nat),pus.length=u->(∀xs∈pus,xs.length=pt.length)->oh mv pt st pus u=go->MY mv pt u (eF mv u st go) pus->0 < q->q<=(16*W0)^mv.length->(∀xs∈pus,∀x∈xs,Tp (E*q) (D*(mv.length*(W1*(16*W0)^mv.length))) x)->A pus) /\
 (∀(pr:List Rat) (q:Nat),pr.length=mv.length->(∀xs∈kry mv pt u,dR xs pr=0)->dR pr (eF mv u st go)=1->Pd mv pt u (eF mv u st go) pr->0 < q->q<=(16*W0)^mv.length*(16*(W1+E))->(∀y∈pr,Tp q ((16*W0)^mv.length*(16*(W1+E))) y)->B pr)
def NH (mv pt:LR9) (st go:List Rat) (u:Nat) (pus:LR9):Prop:=pus.length=u/\(∀xs∈pus,xs.length=pt.length)/\oh mv pt st pus u=go/\MY mv pt u (eF mv u st go) pus/\Jd mv pt pus st
def NG (mv pt:LR9) (st go:List Rat) (u:Nat) (pr:List Rat):Prop:=pr.length=mv.length/\(∀xs∈kry mv pt u,dR xs pr=0)/\dR pr (eF mv u st go)=1/\Pd mv pt u (eF mv u st go) pr/\RI mv pt u st go pr
section
variable {mv pt lk:LR9} {st go:List Rat} {M1 M2 V a1 a2 c B b g T u w b1 b2:Nat}
theorem Bd.soo (X:Bd mv pt M1 M2 V a1 a2 c) (D:fz mv pt lk) (ls:st.length=mv.length) (b0:0 < B) (b1:B<=2^b) (hs:∀x∈st,Fr B (2^g) x) (hg:∀x∈go,Fr (M1^T*(M2*B)) (2^(c*T+g)) x) (Z:ZS mv.length a1 a2 c T b g) (P:ZP mv.length a1 a2 c T b g) (hu:u<=T):O6 mv pt st go u (NH mv pt st go u) (NG mv pt st go u):=by
 have b0':0 < M1^(T - u)*B:=bE (c7 X.m1) b0;have b1':M1^(T - u)*B<=2^(b+a1*(T - u)):=by rw[rX];exact fR X.b1 b1
 have hs':∀x∈st,Fr (M1^(T - u)*B) (2^(g+c*(T - u))) x:=λx hx=>((hs x hx).scaleL _).mono (au (by decide) (by lia))
 have e1:M1^u*(M2*(M1^(T - u)*B))=M1^T*(M2*B):=by
  rw[Nat.mul_left_comm M2,<- b9,<- aS,show u+(T - u)=T by lia]
 have e2:c*u+(g+c*(T - u))=c*T+g:=by
  have:c*u+c*(T - u)=c*T:=by rw[<- c8,show u+(T - u)=T by lia]
  lia
 have hg':∀x∈go,Fr (M1^u*(M2*(M1^(T - u)*B))) (2^(c*u+(g+c*(T - u)))) x:=by rw[e1,e2];exact hg
 have Z':=Ls hu Z;have P':=Lu hu P;have ct:=X.ctf D ls b0' b1' hs' hg' Z';refine ⟨_,_,_,_,ct,λpus q l w s cp q0 q1 tp=>⟨l,w,s,cp,ct.en pus q q0 q1 l tp⟩,λpr q l k d cn q0 q1 tp=>⟨l,k,d,cn,(X.prf D ls b0' b1' hs' hg' Z' P' q0 q1 tp).1⟩⟩
def QT (mv pt:LR9) (M1 M2 c b1 T:Nat) (st go:List Rat):Prop:=∃B,0 < B/\B<=2^b1/\(∀x∈st,Fr B (2^22) x)/\∀x∈go,Fr (M1^T*(M2*B)) (2^(c*T+23)) x
theorem QT.soo (h:QT mv pt M1 M2 c b1 T st go) (U:Us mv pt w T M1 M2 V a1 a2 c b1 b2) (D:fz mv pt lk) (ls:st.length=mv.length) (hu:u<=T):O6 mv pt st go u (NH mv pt st go u) (NG mv pt st go u):=by
 obtain ⟨B,h0,h1,f1,fg⟩:=h;exact U.bd.soo D ls h0 h1 (OM f1) fg U.z1 U.zp hu
theorem Us.gob (U:Us mv pt w T M1 M2 V a1 a2 c b1 b2) (D:fz mv pt lk) (ls:st.length=mv.length) (lg:go.length=mv.length) (hs:∀x∈st,Dr (max w 6) x) {T':Nat} (hT:T'<=T) (hg:GoP mv pt T' w st go):QT mv pt M1 M2 c b1 T st go:=by
 have up:2^(c*T+22)+1<=2^(c*T+23):=by
  rw[show c*T+23=1+(c*T+22) by lia,aS 2 1];have:0 < 2^(c*T+22):=c7 (by decide)
  lia
 rcases hg with hg | ⟨pus,hp,hg⟩
 ·obtain ⟨B,h0,h6,h,h1,_⟩:=U.dr (st++go) λx hx=>(aw.mp hx).elim (hs x) (hg x)
  exact ⟨B,h0,h1 (by rw[ak,ls,lg];lia),λx hx=>h x (dX _ hx),λx hx=>Fr.up (h x (bF _ hx)) (gD (cS _ _) (cS _ _)) (au (by decide) (by lia))⟩
 ·obtain ⟨B,h0,h6,h,h1,_⟩:=U.dr (st++pus.flatten) λx hx=>by
   rcases aw.mp hx with hx | hx
   ·exact hs x hx
   ·obtain ⟨xs,m1,m2⟩:=iN.mp hx;exact (hp.2 xs m1).2 x m2
  have hm:T'*pt.length<=T*pt.length:=ay _ hT
  have h1:=h1 (by
   rw[ak,rQ λxs hx=>(hp.2 xs hx).1,hp.1,ls]
   lia)
  have f1:∀x∈st,Fr B (2^22) x:=λx hx=>h x (dX _ hx)
  have f2:∀xs∈pus,∀x∈xs,Fr B (2^22) x:=λxs hx x hx'=>h x (bF _ (iN.mpr ⟨xs,hx,hx'⟩))
  have fe0:=(U.bd.end D ls hp.1 (λxs hx=>(hp.2 xs hx).1) h0 h1 f1 f2 (jX (aj _) hT (aj _) (Pu U.z1))).2 T' (aj _);have fe:∀x∈oh mv pt st pus T',Fr (M1^T*(M2*B)) (2^(c*T+22)) x:=λx hx=>Fr.up (fe0 x hx) (og (pU _ hT) _) (au (by decide) (Nat.add_le_add_right (aF _ hT) _))
  refine ⟨B,h0,h1,f1,λx hx=>?_⟩;rcases hg with rfl | ⟨a,v,v3,rfl⟩
  ·exact (fe x hx).mono (by lia)
  ·rcases cg hx with hx | rfl
   ·exact (fe x hx).mono (by lia)
   ·have u1:Fr (M1^T*(M2*B)) 1 (Ly v):=(MZ v3).dvd (gD h6 (gD (cS _ _) (cS _ _)))
    have u2:Fr (M1^T*(M2*B)) (2^(c*T+22)) ((oh mv pt st pus T').getD a 0):=by
     rw[aa];cases h:(oh mv pt st pus T')[a]? with
     | none=>exact Fr.zero
     | some y=>exact fe y (ax h)
    exact (u2.add u1).mono up
theorem Us.enf (U:Us mv pt w T M1 M2 V a1 a2 c b1 b2) (D:fz mv pt lk) (ls:st.length=mv.length) (hs:∀x∈st,Dr (max w 6) x) {T':Nat} (hT:T'<=T) {pus:LR9} (hp:Q6 pt T' w pus):Jd mv pt pus st:=by
 obtain ⟨B,h0,h6,h,h1,_⟩:=U.dr (st++pus.flatten) λx hx=>by
  rcases aw.mp hx with hx | hx
  ·exact hs x hx
  ·obtain ⟨xs,m1,m2⟩:=iN.mp hx;exact (hp.2 xs m1).2 x m2
 have hm:T'*pt.length<=T*pt.length:=ay _ hT
 have h1:=h1 (by
  rw[ak,rQ λxs hx=>(hp.2 xs hx).1,hp.1,ls]
  lia)
 exact (U.bd.end D ls hp.1 (λxs hx=>(hp.2 xs hx).1) h0 h1 (λx hx=>h x (dX _ hx)) (λxs hx x hx'=>h x (bF _ (iN.mpr ⟨xs,hx,hx'⟩))) (jX (aj _) hT (aj _) (Pu U.z1))).1
end
theorem yP.kp {K:FG9} {S:Addr->Prop} {H0 H H':Hp} {d:Ed} {x:V} (h:yP K H0 H d x) (k:Kp S H H') (n:∀a,H0 a=none->¬S a):yP K H0 H' d x:=by
 cases d with
 | fl v=>exact h
 | row qs=>obtain ⟨p,a,b,c⟩:=h;exact ⟨p,a,b,k.row (n p b) c⟩
 | grid rs =>
  obtain ⟨p,a,b,us,c,d,e⟩:=h;exact ⟨p,a,b,us,k _ _ c (.inl (n p b)),Paired.imp' (λ_ _ ⟨q,a,b,c⟩=>⟨q,a,b,k.row (n q b) c⟩) d,e⟩
theorem yP.upto {K:FG9} {H0 H H':Hp} {d:Ed} {x:V} {b:Addr} (h:yP K H0 H d x) (u:cT b H H') (B:ig H b) (nb:H0 b≠none):yP K H0 H' d x:=by
 cases d with
 | fl v=>exact h
 | row qs=>obtain ⟨p,a,e,c⟩:=h;exact ⟨p,a,e,c.upto u B λz=>nb (by rw[<- z];exact e)⟩
 | grid rs=>obtain ⟨p,a,e,c⟩:=h;exact ⟨p,a,e,c.upto u B (λz=>nb (by rw[<- z];exact e)) nb⟩
section
variable {rows rs K0:LR9} {L:List Rat} {n P X Y s D E S w0 w1 a0 a1:Nat} {ps:List Nat} {Wf Bf:Nat->Nat}
theorem xg.szW (h : xg rows n P rs ps) (hP : P ≤ n) (n15 : n ≤ 15) (hX : 1 ≤ X) (hY : 1 ≤ Y) (hD : 1 ≤ D) (ent : ∀ i, i < rows.length → ∀ c, Fr 1 (Wf i) (d7 (rows.map gE) i c)) (bot : ∀ i, i < rows.length → ∃ b : Nat, 0 < b /\ b ≤ Bf i /\ l8 rows i = (b : Rat)) (h1 : ∀ r, r ≠ s → 16 * Wf r ≤ X) (h2 : 16 * Wf s ≤ Y) (b1 : ∀ r, r ≠ s → Bf r ≤ D) (b2 : Bf s ≤ E) {i : Nat} (hi : i < rows.length) : ∃ d' : Nat, 0 < d' /\ (d' ≤ X ^ n * Y * D \/ d' ≤ X ^ n * E) /\ ∀ c, Tp d' (X ^ n * Y) (cu rs i c) := by
  obtain ⟨len, wide, pm, l, d, B, E0, v⟩ := h;have kP := E0.kP;have km := B.km;have up : ∀ {t : Nat}, t ≤ n → X ^ t ≤ X ^ n := λht => au hX ht
  have inj : ∀ i j, i < ps.length → j < ps.length → pm i = pm j → i = j := λi j a b => B.inj i j (by lia) (by lia)
  have one := Fx (pm := pm) (w := λr => 16 * Wf r) (s := s) hX hY h1 h2 ps.length inj;have foldB := C1 (pm := pm) (w := λr => 16 * Wf r) (s := s) hX hY h1 h2 (show ps.length ≤ n by lia) inj
  have entr : ∀ r ∈ j5 pm ps.length, ∀ c, Fr 1 (Wf r) (d7 (rows.map gE) r c) := λr hr c => by
    obtain ⟨t, ht, rfl⟩ := jQ hr;exact ent _ (B.rng t (by lia)) c
  have hd : Fr 1 (((j5 pm ps.length).map λr => 16 * Wf r).foldr (· * ·) 1) d := by
    rw [B.det]
    exact Ag (N := 16) (by rw [cw_len]; lia) λv hv r hr => by
      obtain ⟨t', _, rfl⟩ := cw_in hv;exact entr r hr _
  obtain ⟨y, ey⟩ := kf hd;rw [ey] at hd;have yb := kH hd;have y0 : y ≠ 0 := λz => B.d0 (by rw [ey, z]; rfl)
  have lb : ∀ c, ∃ z : Int, l i c = (z : Rat) /\ z.natAbs ≤ X ^ n * Y := λc => by
    by_cases hk : i < ps.length
    · have f : Fr 1 (((j5 pm ps.length).map λr => 16 * Wf r).foldr (· * ·) 1) (l i c) := by
        rw [B.old hk];refine Ag (N := 16) ?_ λv hv r hr => ?_
        · have := congrArg List.length (cw_split (v := λj r => d7 (rows.map gE) r (ps.getD j 0)) hk);rw [ak, ba, cw_len] at this;rw [ak, ba]
          lia
        · rcases aw.mp hv with hv | hv
          · obtain ⟨t, _, rfl⟩ := Ap hv;exact entr r hr _
          · rcases aB.mp hv with rfl | hv
            · exact entr r hr _
            · obtain ⟨t, _, rfl⟩ := cw_in hv;exact entr r hr _
      obtain ⟨z, ez⟩ := kf f;rw [ez] at f;exact ⟨z, ez, ai (kH f) foldB⟩
    · by_cases hn : ps.length < n
      · have f : Fr 1 (((pm i :: j5 pm ps.length).map λr => 16 * Wf r).foldr (· * ·) 1) (l i c) := by
          rw [B.new (by lia) hi];refine Ag (N := 16) (by rw [ba, cw_len]; lia) λv hv r hr => ?_
          have er : ∀ c, Fr 1 (Wf r) (d7 (rows.map gE) r c) := λc => by
            rcases aB.mp hr with rfl | hr
            · exact ent _ (B.rng i hi) c
            · exact entr r hr c
          rcases aB.mp hv with rfl | hv
          · exact er _
          · obtain ⟨t, _, rfl⟩ := cw_in hv;exact er _
        obtain ⟨z, ez⟩ := kf f;rw [ez] at f;refine ⟨z, ez, ai (kH f) ?_⟩;show 16 * Wf (pm i) * ((j5 pm ps.length).map λr => 16 * Wf r).foldr (· * ·) 1 ≤ _
        by_cases es : pm i = s
        · have nt : ∀ t, t < ps.length → pm t ≠ s := λt ht z => by
            have := B.inj t i (by lia) hi (by rw [z, es])
            lia
          rw [bQ, es];exact aA (ai (one.2 nt) (up (by lia))) h2
        · have := C1 (pm := pm) (w := λr => 16 * Wf r) (s := s) hX hY h1 h2 (aj ps.length) inj;refine ai (aA (h1 _ es) this) ?_;rw [<- b9, bQ X, <- dC];exact ay _ (up (by lia))
      · refine ⟨0, ?_, bf _⟩;by_cases hc : c < n
        · rw [E0.zero i (by lia) hi c (by lia)];rfl
        · have := v i hi c;rw [Af wide (by lia)] at this;have ne := GQ (rows := rows) (i := i) (j := pm i) (k := ps.length) B.d0;generalize d * (if i < ps.length then 1 else l8 rows (pm i)) = D at this ne;show l i c = 0
          grind
  obtain ⟨b, c0, c1, eb⟩ : ∃ b : Nat, 0 < b /\ (y.natAbs * b ≤ X ^ n * Y * D \/ y.natAbs * b ≤ X ^ n * E) /\ (if i < ps.length then 1 else l8 rows (pm i)) = (b : Rat) := by
    by_cases hk : i < ps.length
    · exact ⟨1, by decide, .inl (aA (ai yb foldB) hD), by rw [if_pos hk]; rfl⟩
    · obtain ⟨b, x1, x2, x3⟩ := bot _ (B.rng i hi);refine ⟨b, x1, ?_, by rw [if_neg hk, x3]⟩;by_cases es : pm i = s
      · have nt : ∀ t, t < ps.length → pm t ≠ s := λt ht z => by
          have := B.inj t i (by lia) hi (by rw [z, es])
          lia
        rw [es] at x2;exact .inr (aA (ai yb (ai (one.2 nt) (up (by lia)))) (ai x2 b2))
      · exact .inl (aA (ai yb foldB) (ai x2 (b1 _ es)))
  have eD : d * (b : Rat) = ((y * b : Int) : Rat) := by rw [aQ, ey, aH]
  refine ⟨(y * b).natAbs, ?_, ?_, λc => ?_⟩
  · rw [cy, bw];exact bE (by lia) c0
  · rw [cy, bw];exact c1
  · obtain ⟨z, ez, bz⟩ := lb c;rw [v i hi c, eb];refine Ju ez eD (λq => ?_) bz;rw [eD] at q;have := kJ q;rcases Int.mul_eq_zero.mp this with q | q
    · exact y0 q
    · lia
theorem MD (hK:∀xs∈K0,xs.length=n) (hL:L.length=n) (n15:n<=15) {W0 W1:Nat} (D0:0 < D) (E0:0 < E) (D1:D<=2^a0) (E1:E<=2^a1) (v0:1<=W0) (v1:1<=W1) (w0':W0<=2^w0) (w1':W1<=2^w1) (tk:∀xs∈K0,∀x∈xs,Tp D W0 x) (tl:∀x∈L,Tp E W1 x) (hS:2*S<=3990) (s1:n*(w0+4)+(w1+4)+a0<=S) (s2:n*(w0+4)+a1<=S):QP (K0++[L]) n S:=by
 have hw:∀xs∈K0++[L],xs.length=n:=λxs hx=>by
  rcases aw.mp hx with hx | hx
  ·exact hK xs hx
  ·rw[bB.mp hx];exact hL
 have lX:(K0++[L]).length=K0.length+1:=by simp
 have at_:∀i,i < (K0++[L]).length->∀x∈(K0++[L]).getD i [],Tp (if i=K0.length then E else D) (if i=K0.length then W1 else W0) x:=λi hi x hx=>by
  by_cases e:i=K0.length
  ·rw[if_pos e,if_pos e];rw[e,aa,a9 (aj _),fk] at hx;exact tl x hx
  ·rw[if_neg e,if_neg e];have h:i < K0.length:=by lia
   rw[aa,bu h,af h] at hx;exact tk _ (aP h) x hx
 have p0:∀i,0 < (if i=K0.length then E else D):=λi=>by split <;> lia
 have ent:∀i,i < (K0++[L]).length->∀c,Fr 1 (if i=K0.length then W1 else W0) (d7 ((K0++[L]).map gE) i c):=λi hi c=>by
  have t3:=at_ i hi;have q0:=p0 i;rw[xi hi];unfold cu;generalize (K0++[L]).getD i []=xs at t3 ⊢;by_cases hc:c < xs.length
  ·have t:=t3 _ (getD_in (e:=0) hc);obtain ⟨s,e,b⟩:=tK t q0 (kx (xs:=xs)) (lU (aD.mpr ⟨_,getD_in (e:=0) hc,rfl⟩)) (rT q0 t3);rw[dP,e];exact Fr.int b
  ·rw[aa,aM (by lia)];show Fr 1 _ (_*0)
   rw[fN];exact Fr.zero
 have bot:∀i,i < (K0++[L]).length->∃b:Nat,0 < b/\b<=(if i=K0.length then E else D)/\l8 (K0++[L]) i=(b:Rat):=λi hi=>by
  have p:=kx (xs:=(K0++[L]).getD i []);have dv:=rT (p0 i) (at_ i hi);refine ⟨(gZ (((K0++[L]).getD i []).map nm)).natAbs,by lia,fo (p0 i) ?_,?_⟩
  ·have:=dM.mpr dv;rwa [bw] at this
  ·unfold l8;rw[<- aH];congr 1
   lia
 have xn:(16*W0)^n<=2^(n*(w0+4)):=tZ w0';have y1:16*W1<=2^(w1+4):=by rw[aS];lia
 have up:∀{t:Nat},t<=S->2^t<=2^S:=λh=>au (by decide) h
 refine ⟨hS,xg (K0++[L]) n,xg.start hw,λ_ _ _ h z=>h.skip z,λ_ _ _ _ _ h hf ht hP hne=>h.lean hf ht hP hne,λ_ _ _ h=>h,λP rs ps h hP i hi=>?_⟩;obtain ⟨d,d0,d1,d2⟩:=h.szW (s:=K0.length) (X:=16*W0) (Y:=16*W1) (D:=D) (E:=E) hP n15 (by lia) (by lia) D0 ent bot (λr hr=>by rw[if_neg hr];exact aj _) (by rw[if_pos rfl];exact aj _) (λr hr=>by rw[if_neg hr];exact aj _) (by rw[if_pos rfl];exact aj _) hi;have z1:(16*W0)^n*(16*W1)<=2^(n*(w0+4)+(w1+4)):=by rw[aS];exact aA xn y1
 refine ⟨d,d0,?_,λc=>(d2 c).mono (ai z1 (up (by lia)))⟩;rcases d1 with d1 | d1
 ·refine ai d1 (ai ?_ (up s1));rw[aS 2 _ a0];exact aA z1 D1
 ·refine ai d1 (ai ?_ (up s2));rw[aS];exact aA xn E1
end
section
variable {rows rows' R R' mv pt lk pus:LR9} {n T:Nat} {ps ps':List Nat} {x y st go pr:List Rat}
theorem Iq (RR:bY rows n R ps) (RR':bY rows' n R' ps') (h:∀i,i < ps.length->eK ps'.length (cu R') (cu R i)):ps.length<=ps'.length:=by
 have hs:∀i,i < ps.length->∃j,j < ps'.length/\ps'.getD j 0=ps.getD i 0:=λi hi=>by
  have u:=RR.2.2.unit i hi i hi;rw[if_pos rfl] at u;exact RR'.2.2.lead_in (h i hi) (c:=ps.getD i 0) (by rw[u];decide) (λc hc=>RR.2.2.lead i hi c hc)
 rcases cb ps'.length ps.length with z | z
 ·exfalso
  have key:∀i,i < ps.length->∀j,j < ps'.length->ps'.getD j 0=ps.getD i 0->i<=j:=by
   intro i
   induction i with
   | zero=>intro _ j _ _;exact bf _
   | succ i ih =>
    intro hi j hj e;obtain ⟨j',hj',e'⟩:=hs i (by lia);have h1:=ih (by lia) j' hj' e';have h2:=RR.2.2.inc i (i+1) (by lia) hi;rcases cb j' j with y | y
    ·lia
    ·rcases cb j j' with x | x
     ·have:=RR'.2.2.inc j j' x hj'
      lia
     ·have:j=j':=by lia
      rw[this] at e
      lia
  obtain ⟨j,hj,e⟩:=hs (ps.length - 1) (by lia);have:=key (ps.length - 1) (by lia) j hj e
  lia
 ·exact z
theorem Ez:cu (rows++[x]) rows.length=λc=>x.getD c 0:=by
 have:=uu (X:=rows) (Y:=[x]) (i:=0);rw[Nat.add_zero] at this;rw[this];rfl
theorem JY (RR:bY rows n R ps) (RR':bY (rows++[x]) n R' ps') (hw:∀xs∈rows,xs.length=n) (lx:x.length=n) (ly:y.length=n) (h1:∀xs∈rows,dR xs y=0) (h2:dR y x=1):ps.length < ps'.length:=by
 have lX:(rows++[x]).length=rows.length+1:=by simp
 have hin:∀i,i < ps.length->eK ps'.length (cu R') (cu R i):=λi hi=>eK.trans (λs hs=>by
  have:=RR'.2.2.span s (by rw[lX];lia);rwa [yD hs] at this) (RR.2.2.back i hi)
 have g:=Iq RR RR' hin;rcases cb ps.length ps'.length with z | z
 ·exact z
 exfalso
 obtain ⟨rfl,rfl⟩:=Bu RR RR' (by lia) hin;obtain ⟨w,e⟩:=eK.trans (λs hs=>RR.2.2.back s hs) (RR'.2.2.span rows.length (by rw[lX];lia));rw[Ez] at e;rw[fw (by rw[ly,lx]),ly] at h2
 have e1:(bR n λc=>y.getD c 0*x.getD c 0)=bR n λc=>bR rows.length λt=>w t*(cu rows t c*y.getD c 0):=bp λc _=>by
  have:=e c;simp only at this;rw[this,<- dc];exact bp λt _=>by grind
 rw[e1,jd,dw λt ht=>?_] at h2
 ·exact absurd h2 (by decide)
 rw[dc];have mt:=aP ht;have d:=h1 _ mt;rw[fw (by rw[hw _ mt,ly]),hw _ mt] at d
 have:(bR n λc=>cu rows t c*y.getD c 0)=0:=by
  refine Eq.trans (bp λc _=>?_) d;unfold cu;rw[aa (l:=rows),af ht];rfl
 rw[this,fN]
theorem Ml (RR:bY rows n R ps) (RR':bY (rows++[x]) n R' ps') (sx:eK rows.length (cu rows) λc=>x.getD c 0):ps=ps':=by
 have lX:(rows++[x]).length=rows.length+1:=by simp
 refine (RR.uniq RR' (λi hi=>?_) λi hi=>?_).2
 ·have:=eK.row (a:=cu (rows++[x])) (m:=(rows++[x]).length) (i:=i) (by rw[lX];lia);rwa [yD hi] at this
 ·by_cases h:i < rows.length
  ·rw[yD h];exact eK.row h
  ·rw[show i=rows.length by lia,Ez];exact sx
theorem ME (D:fz mv pt lk) (ls:st.length=mv.length) (lg:go.length=mv.length) (lp:pus.length=T) (wp:∀xs∈pus,xs.length=pt.length) (h1:oh mv pt st pus T=go):eK (kry mv pt T).length (cu (kry mv pt T)) λc=>(eF mv T st go).getD c 0:=by
 have ll:=rf (T:=T) ls lg;have f:=CA (pus:=pus) (st:=st) D ls T (by lia) wp;rw[h1] at f;have wT:=fh (mv:=mv) rfl D.pw T;refine ⟨λi=>((pus.take T).reverse.flatten).getD i 0,λc=>?_⟩;by_cases hc:c < mv.length
 ·show (eF mv T st go).getD c 0=_
  unfold eF;rw[Jp (by rw[lg,iF ls]) (by lia),f c hc];grind
 ·show (eF mv T st go).getD c 0=_
  rw[aa,aM (by lia),dw λt _=>by rw[Af wT (by lia),fN]];rfl
end
def QI (mv pt:LR9) (T:Nat):Prop:=T<=12/\(StP mv pt T\/5 < mv.length)
structure Z42 (n T a1 a2 c b1:Nat):Prop where
 s:n*(c*T+(a1*(T - 1)+a2)+4)+(c*T+24+(a1*T+a2+b1)+4)+(a1*(T - 1)+a2)<=1995
 ad:a1*(T+1)+a2+c*(T+2)<=3900
 al:a1*(T+1)+b1+c*(T+1)+22<=3900
structure QF (mv pt:LR9) (st go:List Rat) (u:Nat):Prop where
 ad:QU mv pt u
 al:Po mv st u
 lw:∃S,QP (kry mv pt u) mv.length S
 lo:∃S,QP (kry mv pt u++[eF mv u st go]) mv.length S
section
variable {mv pt lk:LR9} {st go:List Rat} {M1 M2 V a1 a2 c b1 b2 T u w:Nat}
theorem P8 (R:Rg mv pt w) (D:fz mv pt lk) (S:QI mv pt T):∃M1 M2 V a1 a2 c b1 b2,Us mv pt w T M1 M2 V a1 a2 c b1 b2/\Z42 mv.length T a1 a2 c b1:=by
 have i4:=D.i4;have n8:=D.n8;have T12:=S.1;have mul:∀{x y p q:Nat},x<=p->y<=q->x*y<=p*q:=λh h'=>aA h h'
 have small:w<=9->∀l:List Rat,(∀x∈l,Dr (max w 6) x)->∃B,0 < B/\6∣B/\(∀x∈l,Fr B (2^22) x)/\(l.length<=2*mv.length+T*pt.length->B<=2^12)/\(l.length<=2*mv.length+2*(T*pt.length)->B<=2^12):=λw9 l h=>⟨2520,by decide,by decide,λx hx=>(KY ⟨ai (h x hx).1 (by lia),ai (h x hx).2 (by lia)⟩ (yS _)).mono (by decide),λ_=>by decide,λ_=>by decide⟩
 have wide:w=1000->∀t,T*pt.length<=t->mv.length<=2->∀l:List Rat,(∀x∈l,Dr (max w 6) x)->∃B,0 < B/\6∣B/\(∀x∈l,Fr B (2^22) x)/\(l.length<=2*mv.length+T*pt.length->B<=2^(45+10*t))/\(l.length<=2*mv.length+2*(T*pt.length)->B<=2^(45+20*t)):=λw9 t ht n2 l h=>by
  obtain ⟨B,h0,h1,h2⟩:=IX (c:=10) (l:=l) (λx hx=>⟨ai (h x hx).1 (by rw[w9];decide),ai (h x hx).2 (by rw[w9];decide)⟩) (by decide)
  have up:∀k,3+(10*l.length+2)<=k->6*B<=2^k:=λk hk=>by
   refine ai ?_ (au (by decide) hk);rw[aS 2 3];exact aA (by decide) h1
  exact ⟨6*B,by lia,HW _ _,λx hx=>(h2 x hx).scaleL 6,λhl=>up _ (by lia),λhl=>up _ (by lia)⟩
 rcases R with ⟨w9,X⟩ | ⟨w9,n5,X⟩ | ⟨w9,n2,M1,M2,X⟩
 ·have e:mv.length*(14*T+(0*(T - 1)+0)+4)<=8*172:=mul n8 (by lia);exact ⟨_,_,_,_,_,_,12,12,⟨X,jX (n':=8) (T':=12) (b':=12) n8 T12 (aj _) (by decide),yF (n':=8) (T':=12) (b':=12) n8 T12 (aj _) (by decide),jX (n':=8) (T':=12) (b':=12) n8 T12 (aj _) (by decide),small w9⟩,by lia,by lia,by lia⟩
 ·have z:mv.length*(16*T+(12*(T - 1)+12)+4)+(16*T+24+(12*T+12+12)+4)+(12*(T - 1)+12)<=1995:=by
   by_cases n2:mv.length<=2
   ·have e:mv.length*(16*T+(12*(T - 1)+12)+4)<=2*340:=mul n2 (by lia)
    lia
   ·have t6:T<=6:=by
     obtain ⟨_,⟨_,h | ⟨_,_,h⟩⟩ | h⟩:=S
     ·lia
     ·have:=h (by lia) n5
      lia
     ·lia
    have e:mv.length*(16*T+(12*(T - 1)+12)+4)<=5*172:=mul n5 (by lia)
    lia
  exact ⟨_,_,_,_,_,_,12,12,⟨X,jX (n':=5) (T':=12) (b':=12) n5 T12 (aj _) (by decide),yF (n':=5) (T':=12) (b':=12) n5 T12 (aj _) (by decide),jX (n':=5) (T':=12) (b':=12) n5 T12 (aj _) (by decide),small w9⟩,z,by lia,by lia⟩
 ·by_cases T3:T<=3
  ·have m:T*pt.length<=3*4:=aA T3 i4;have e:mv.length*(33*T+(80*(T - 1)+160)+4)<=2*423:=mul n2 (by lia);exact ⟨_,_,_,_,_,_,165,285,⟨X,jX (n':=2) (T':=3) (b':=165) n2 T3 (aj _) (by decide),yF (n':=2) (T':=3) (b':=165) n2 T3 (aj _) (by decide),jX (n':=2) (T':=3) (b':=285) n2 T3 (aj _) (by decide),wide w9 12 m n2⟩,by lia,by lia,by lia⟩
  ·obtain ⟨_,⟨_,z | ⟨hd,_⟩⟩ | z⟩:=S
   ·exact absurd z T3
   ·have m:T*pt.length<=12*4:=aA T12 i4
    have gf:∀l:LR9,(∀xs∈l,xs∈mv++pt)->GF 2520 1000 l:=λl hl xs hx x hx'=>by
     have:=hd xs (hl xs hx) x hx';exact (Fr.own x (aZ this.2)).dvd (Hu this.1)
    have X2:Bd mv pt 2520 2520 1000 12 12 13:=⟨by decide,by decide,by decide,by decide,gf mv λxs hx=>aw.mpr (.inl hx),gf pt λxs hx=>aw.mpr (.inr hx),ai (ay _ (show mv.length+4<=6 by lia)) (by decide)⟩;have e:mv.length*(13*T+(12*(T - 1)+12)+4)<=2*304:=mul n2 (by lia);exact ⟨_,_,_,_,_,_,525,1005,⟨X2,jX (n':=2) (T':=12) (b':=525) n2 T12 (aj _) (by decide),yF (n':=2) (T':=12) (b':=525) n2 T12 (aj _) (by decide),jX (n':=2) (T':=12) (b':=1005) n2 T12 (aj _) (by decide),wide w9 48 m n2⟩,by lia,by lia,by lia⟩
   ·lia
theorem QT.x42 (h:QT mv pt M1 M2 c b1 T st go) (U:Us mv pt w T M1 M2 V a1 a2 c b1 b2) (Z:Z42 mv.length T a1 a2 c b1) (D:fz mv pt lk) (ls:st.length=mv.length) (lg:go.length=mv.length) (hu:u<=T):QF mv pt st go u:=by
 obtain ⟨B,h0,h1,fs,fg⟩:=h;obtain ⟨zs,zd,za⟩:=Z;have X:=U.bd;have n8:=D.n8;have up:∀{p r:Nat},p<=r->2^p<=2^r:=λz=>au (by decide) z
 have mono:∀{x p q:Nat},p<=q->x*p<=x*q:=λh=>aF _ h
 have u1:a1*(u+1)<=a1*(T+1):=mono (by lia);have u2:c*(u+2)<=c*(T+2):=mono (by lia);have u3:c*(u+1)<=c*(T+1):=mono (by lia);have u4:c*u<=c*T:=mono hu;have D0:0 < M1^(T - 1)*M2:=bE (c7 X.m1) X.m2;have D1:M1^(T - 1)*M2<=2^(a1*(T - 1)+a2):=fR X.b1 X.b2;have E0:0 < M1^T*(M2*B):=bE (c7 X.m1) (bE X.m2 h0)
 have E1:M1^T*(M2*B)<=2^(a1*T+a2+b1):=by
  have:M2*B<=2^(a2+b1):=by rw[aS];exact aA X.b2 h1
  rw[Nat.add_assoc];exact fR X.b1 this
 have tk:∀xs∈kry mv pt u,∀x∈xs,Tp (M1^(T - 1)*M2) (2^(c*T+(a1*(T - 1)+a2))) x:=λxs hx x hx'=>Tp.of (Fr.up (X.kry D u xs hx x hx') (og (pU _ (by lia)) _) (up u4)) (by rw[aS];exact aF _ D1)
 have fp:∀x∈iG mv u st,Fr (M1^T*(M2*B)) (2^(c*T+23)) x:=λx hx=>Fr.up (FA X.gm D.mw X.vc ls fs u x hx) (Nat.mul_dvd_mul (pU _ hu) (cS _ _)) (up (by lia))
 have tl:∀x∈eF mv u st go,Tp (M1^T*(M2*B)) (2^(c*T+24+(a1*T+a2+b1))) x:=λx hx=>by
  obtain ⟨i,hi,rfl⟩:=bK hx;unfold eF at hi ⊢;rw[ib];rw[cD] at hi;have f:=Fr.sub (fg _ (aP (show i < go.length by lia))) (fp _ (aP (show i < (iG mv u st).length by lia)));refine Tp.of f ?_;rw[aS 2 (c*T+24)];refine aA ?_ E1;have:2^(c*T+24)=2^(c*T+23)*2:=dC ..
  lia
 have s0:0<=c*T:=bf _;refine ⟨⟨M1,M2,V,a1,a2,c,X,by lia⟩,⟨M1,V,a1,c,B,22,b1,X.m1,X.b1,X.gm,X.vc,h0,h1,fs,by lia⟩,⟨_,NJ.lws (w:=c*T+(a1*(T - 1)+a2)) (a:=a1*(T - 1)+a2) ⟨_,_,D0,D1,cV,aj _,tk,by lia,?_⟩ (fh rfl D.pw u)⟩,⟨1995,MD (fh rfl D.pw u) (rf ls lg) (by lia) D0 E0 D1 E1 cV cV (aj _) (aj _) tk tl (by decide) (by lia) (by lia)⟩⟩;have:min (L2.kry mv pt u).length mv.length*(c*T+(a1*(T - 1)+a2)+4)<=mv.length*(c*T+(a1*(T - 1)+a2)+4):=ay _ (by lia)
 lia
end
def Je (mv pt:LR9) (st go:List Rat) (T:Nat) (kd:Str) (ed:Ed):Prop:=(kd=Str.ofString "puts"/\∃pus,ed=.grid pus/\NH mv pt st go T pus)\/(kd=Str.ofString "never"/\∃pr,ed=.row pr/\NG mv pt st go T pr)
section
variable {mv pt lk:LR9} {st go:List Rat} {T:Nat} {kd kd':Str} {ed ed':Ed}
theorem Je.uniq (h:Je mv pt st go T kd ed) (h':Je mv pt st go T kd' ed'):kd=kd'/\ed=ed':=by
 rcases h with ⟨rfl,a,rfl,A⟩ | ⟨rfl,a,rfl,A⟩ <;> rcases h' with ⟨rfl,b,rfl,B⟩ | ⟨rfl,b,rfl,B⟩
 ·exact ⟨rfl,by rw[A.2.2.2.1.uniq B.2.2.2.1]⟩
 ·exact (A.2.2.2.1.not B.2.2.2.1).elim
 ·exact (B.2.2.2.1.not A.2.2.2.1).elim
 ·exact ⟨rfl,by rw[A.2.2.2.1.uniq B.2.2.2.1]⟩
theorem Je.ok (h:Je mv pt st go T kd ed) (n8:mv.length<=8) (i4:pt.length<=4) (t12:T<=12):Ed.ok ed:=by
 rcases h with ⟨_,a,rfl,A⟩ | ⟨_,a,rfl,A⟩
 ·exact ⟨by rw[A.1];lia,λxs hx=>by rw[A.2.1 xs hx];lia⟩
 ·show a.length<=100
  rw[A.1]
  lia
end
inductive Bq (K:FG9) (C:Addr) (vs:List V) (H:Hp) (Q:VK) (E9:XK):Prop
 | mk (x s g:Addr) (T a c:Nat) (H0:Hp) (mv pt lk:LR9) (st go:List Rat):vs=[.ref x,.ref s,.ref g,.int T]->T<=99->kX K H0 H C x mv pt lk->fz mv pt lk->Ji mv pt lk->rE mv pt a c->cv K H s st->st.length=mv.length->cv K H g go->go.length=mv.length->O6 mv pt st go T (NH mv pt st go T) (NG mv pt st go T)->(∀t p kd ed H',H' t=some (.tup [.str kd,.ref p])->H p=none->aG H H'->yP K H H' ed (.ref p)->Je mv pt st go T kd ed->Q (.ref t) H')->Bq K C vs H Q E9
inductive y8 (K:FG9) (C:Addr) (vs:List V) (H:Hp) (Q:VK) (E9:XK):Prop
 | mk (x r s g:Addr) (T a c:Nat) (H0 H1:Hp) (mv pt lk:LR9) (st go:List Rat):vs=[.ref x,.ref r,.ref s,.ref g,.int T]->T<=12->kX K H0 H C x mv pt lk->eh K H1 H r mv pt lk->fz mv pt lk->Ji mv pt lk->rE mv pt a c->cv K H s st->st.length=mv.length->cv K H g go->go.length=mv.length->O6 mv pt st go T (NH mv pt st go T) (NG mv pt st go T)->QF mv pt st go T->(∀H',aG H H'->Q (.bl true) H')->y8 K C vs H Q E9
end L2
open L2
local macro_rules | `(tactic| walk_at "hl") => `(tactic| first | (show _ ≤ sizeLine; with_unfolding_all decide) | (with_unfolding_all exact (by decide)))
local macro_rules | `(tactic| walk_at "sq") => `(tactic| first | with_reducible assumption | with_reducible exact jl.of (by assumption) | with_reducible exact bN.of (by assumption) | with_reducible exact jl.of aK | with_reducible exact bN.of aK | assumption)
local macro_rules | `(tactic| walk_at "sc") => `(tactic| first | (with_reducible show (0 : Int) < _; decide) | with_reducible exact HK (by decide) (by decide) | with_reducible exact DG (by decide) (by decide) | with_reducible exact cpow_of (by decide) (by decide) (by decide))
local macro_rules | `(tactic| walk_at "rd") => `(tactic| first
  | with_reducible refine Of ?_
  | with_reducible refine L4 ?_
  | with_reducible refine Oy ?_
  | with_reducible refine JW ?_
  | ((with_reducible refine' Oc ?hx1 ?_); (case hx1 => with_unfolding_all rfl))
  | with_reducible refine Rf ?_
  | with_reducible refine Qf ?_
  | with_reducible refine Qi ?_
  | with_reducible refine Qa ?_
  | with_reducible refine Rh ?_
  | with_reducible refine Ox ?_
  | with_reducible refine Ol ?_
  | with_reducible refine Ow ?_
  | with_reducible refine rd_neS ?_
  | with_reducible refine rd_eqB ?_
  | with_reducible refine rd_neB ?_
  | with_reducible refine L7 ?_
  | with_reducible refine Fy ?_
  | with_reducible refine Ov ?_
  | with_reducible refine LY ?_
  | with_reducible refine L5 ?_
  | with_reducible refine L6 ?_
  | with_reducible refine JV ?_
  | with_reducible refine LX ?_
  | with_reducible refine Qb ?_
  | with_reducible refine Og ?_
  | with_reducible refine rd_retN ?_
  | with_reducible refine Oq ?_
  | with_reducible refine Oz ?_
  | with_reducible refine Qd ?_
  | with_reducible refine Oi ?_
  | with_reducible refine Mj ?_
  | with_reducible refine rd_orV ?_
  | with_reducible refine L0 ?_
  | with_reducible refine Ot ?_
  | with_reducible refine Ob ?_
  | with_reducible refine Kv ?_
  | with_reducible refine Qt ?_
  | with_reducible refine Qu ?_
  | with_reducible refine Qv ?_
  | with_reducible refine Nj ?_
  | with_reducible refine Oj ?_
  | with_reducible refine Mf ?_
  | with_reducible refine Od ?_
  | with_reducible refine Om ?_
  | with_reducible refine Mh ?_
  | with_reducible refine Qg ?_
  | with_reducible refine Me ?_
  | with_reducible refine Oh ?_
  | with_reducible refine Mi ?_
  | ((with_reducible refine' rd_aug ?hx1 ?_); (case hx1 => with_unfolding_all rfl))
  | with_reducible refine Oo ?_
  | with_reducible refine Mb ?_
  | with_reducible refine JX ?_
  | with_reducible refine Mc ?_
  | with_reducible refine Qc ?_
  | with_reducible refine Ip ?_
  | with_reducible refine LZ ?_
  | with_reducible refine Ou ?_
  | with_reducible refine JU ?_
  | with_reducible refine L8 ?_
  | with_reducible refine JT ?_
  | with_reducible refine JS ?_
  | ((with_reducible refine' Mg ?hx1 ?_); (case hx1 => with_unfolding_all rfl))
  | with_reducible refine LW ?_
  | with_reducible refine Qh ?_
  | with_reducible refine rd_bm0 ?_
  | with_reducible refine rd_brk ?_
  | ((with_reducible refine' L9 ?hx1 ?hx2 ?_); (case hx1 => walk_at "sq"); (case hx2 => with_unfolding_all rfl))
  | with_reducible refine rd_cont ?_
  | ((with_reducible refine' fE ?hx1 ?_); (case hx1 => walk_at "sc"))
  | ((with_reducible refine' Fz ?hx1 ?hx2 ?_); (case hx1 => walk_at "sq"); (case hx2 => with_unfolding_all rfl))
  | ((with_reducible refine' cB ?hx1 ?hx2 ?_); (case hx1 => walk_at "sq"); (case hx2 => with_unfolding_all rfl))
  | ((with_reducible refine' Md ?hx1 ?hx2 ?_); (case hx1 => walk_at "sq"); (case hx2 => with_unfolding_all rfl))
  | ((with_reducible refine' fj ?hx1 ?hx2 ?hx3 ?_); (case hx1 => with_reducible first | assumption | exact aK); (case hx2 => with_unfolding_all rfl); (case hx3 => with_unfolding_all rfl))
  | with_reducible refine ⟨_, rfl, ?_⟩
  | with_reducible refine ⟨_, _, rfl, ?_⟩)
local macro_rules | `(tactic| walk_at "w") => `(tactic| repeat walk_at "rd")
local macro_rules | `(tactic| walk_at "d") => `(tactic| exact ⟨rfl,rfl,rfl,by decide +kernel,rfl,by decide +kernel,by decide +kernel⟩)
namespace Lw
open PySem PySem.Spec PyProof.Rows L2 Nm
local macro_rules | `(tactic| exists $e) => `(tactic| (walk_at "w";refine $e))
set_option maxHeartbeats 4000000
def top (i:Nat):Stmt:=PySem.Challenge.pw_helmsum_k42_come_or_price.main.body.getD i (.Pass ⟨0,0,0,0⟩)
abbrev tY:Stmt:=top 54
abbrev qC:Stmt:=top 55
abbrev kM:Stmt:=top 71
abbrev qK:Stmt:=top 73
abbrev tU:Stmt:=top 56
abbrev tS:Stmt:=top 57
abbrev qG:Stmt:=top 64
abbrev qF:Stmt:=top 59
abbrev wH:Stmt:=top 66
abbrev oH:Stmt:=top 68
abbrev jO:Stmt:=top 74
abbrev mS:Stmt:=top 61
abbrev tT:Stmt:=top 62
abbrev qI:Stmt:=top 67
abbrev oG:Stmt:=top 69
abbrev mQ:Stmt:=top 75
abbrev qh:Stmt:=top 50
abbrev tR:Stmt:=top 9
abbrev jN:Stmt:=top 10
abbrev qq:Stmt:=top 12
abbrev zD:Stmt:=top 16
abbrev mP:Stmt:=top 51
abbrev eC:Stmt:=inClass (top 52) 0
abbrev mU:Stmt:=top 70
abbrev qJ:Stmt:=top 76
abbrev oC:Stmt:=top 77
abbrev tW:Stmt:=top 63
abbrev wG:Stmt:=top 72
abbrev qH:Stmt:=top 79
abbrev tV:Stmt:=top 80
abbrev qE:Stmt:=top 78
abbrev qO:Stmt:=top 89
abbrev qi:Stmt:=top 19
abbrev jt:Stmt:=top 11
abbrev kE:Stmt:=top 18
abbrev oA:Stmt:=top 30
abbrev wF:Stmt:=top 32
abbrev oB:Stmt:=top 31
abbrev CY:Stmt:=top 33
abbrev zC:Stmt:=top 13
abbrev wB:Stmt:=top 34
abbrev wA:Stmt:=top 20
abbrev wD:Stmt:=top 23
abbrev oz:Stmt:=top 40
abbrev mM:Stmt:=top 42
abbrev Fu:Stmt:=top 25
abbrev qB:Stmt:=top 41
abbrev oy:Stmt:=top 21
abbrev zB:Stmt:=top 36
abbrev mO:Stmt:=top 24
abbrev CZ:Stmt:=top 37
abbrev mL:Stmt:=top 38
abbrev C0:Stmt:=top 14
abbrev qo:Stmt:=top 17
abbrev fQ:Stmt:=inClass (top 52) 1
abbrev zE:Stmt:=top 28
abbrev mN:Stmt:=top 43
abbrev wC:Stmt:=top 44
abbrev JL:Stmt:=top 26
abbrev Fv:Stmt:=top 45
abbrev qN:Stmt:=top 90
abbrev oE:Stmt:=top 91
abbrev oM:Stmt:=top 85
abbrev qL:Stmt:=top 58
abbrev oI:Stmt:=top 65
abbrev oK:Stmt:=top 86
abbrev qD:Stmt:=top 60
abbrev qM:Stmt:=top 84
abbrev jP:Stmt:=top 81
abbrev mT:Stmt:=top 82
abbrev mR:Stmt:=top 88
abbrev lC:Stmt:=top 83
abbrev oJ:Stmt:=top 87
abbrev oF:Stmt:=top 92
abbrev JK:Stmt:=top 93
set_option genInjectivity false in
set_option genSizeOf false in
structure Ads where
 AA:Addr
 Ao:FuncData
 xW:Addr
 xD:FuncData
 vJ:Addr
 vo:FuncData
 yg:Addr
 xM:FuncData
 Ax:Addr
 Al:FuncData
 Av:Addr
 Aj:FuncData
 ya:Addr
 xH:FuncData
 xZ:Addr
 xG:FuncData
 Ck:Addr
 BR:FuncData
 vM:Addr
 vv:FuncData
 nV:Addr
 nP:FuncData
 tD:Addr
 sW:FuncData
 Aw:Addr
 Ak:FuncData
 yd:Addr
 xJ:FuncData
 vL:Addr
 vq:FuncData
 tx:Addr
 sU:FuncData
 xR:Addr
 xx:FuncData
 Au:Addr
 Ai:FuncData
 nU:Addr
 nO:FuncData
 xU:Addr
 xB:FuncData
 E6:Addr
 EU:FuncData
 tw:Addr
 sT:FuncData
 jG:Addr
 jF:FuncData
 tF:Addr
 sY:FuncData
 ye:Addr
 xK:FuncData
 vI:Addr
 vn:FuncData
 Az:Addr
 An:FuncData
 Cj:Addr
 BQ:FuncData
 yc:Addr
 xI:FuncData
 Ay:Addr
 Am:FuncData
 xY:Addr
 xF:FuncData
 yj:Addr
 xP:FuncData
 xS:Addr
 xy:FuncData
 mE:Addr
 mB:FuncData
 pP:Addr
 pO:FuncData
 vG:Addr
 vh:FuncData
 Ci:Addr
 BP:FuncData
 vH:Addr
 vm:FuncData
 HN:Addr
 HH:FuncData
 E5:Addr
 ET:FuncData
 Ce:Addr
 BM:FuncData
 Cd:Addr
 BL:FuncData
 Cg:Addr
 BO:FuncData
 vF:Addr
 vg:FuncData
 td:Addr
 sQ:FuncData
 Ld:Addr
 K4:FuncData
 xV:Addr
 xC:FuncData
 vE:Addr
 vf:FuncData
 E4:Addr
 ES:FuncData
 tu:Addr
 sS:FuncData
 HP:Addr
 HI:FuncData
 sZ:Addr
 sP:FuncData
 HQ:Addr
 HJ:FuncData
 xT:Addr
 xA:FuncData
 lV:Addr
 lS:FuncData
 E7:Addr
 EV:FuncData
 tm:Addr
 sR:FuncData
 Cf:Addr
 BN:FuncData
 NF:Addr
 NC:FuncData
 Le:Addr
 K5:FuncData
 rC:Addr
 rn:FuncData
 pE:Addr
 pe:FuncData
 vQ:Addr
 vB:FuncData
 yh:Addr
 xN:FuncData
 vN:Addr
 vw:FuncData
 vP:Addr
 vA:FuncData
 xX:Addr
 xE:FuncData
 yi:Addr
 xO:FuncData
 nX:Addr
 nQ:FuncData
 tE:Addr
 sX:FuncData
 tz:Addr
 sV:FuncData
 rD:Addr
 rz:FuncData
 vO:Addr
 vz:FuncData
 vK:Addr
 vp:FuncData
 ND:Addr
 NB:FuncData
 a_NOUGHT:Addr
 a_ONE:Addr
 t_MOST_STATES:Tok
 t_MOST_PUTS:Tok
 t_MOST_LOOKS:Tok
 a_System:Addr
structure Txt (K:W.Frag) (mg:Str->Option Value) (Z:Ads):Prop where
 qZ:Df K mg "_law_bag" tY ["_law_script"] Z.AA Z.Ao
 aW:Df K mg "_law_take" qC ["_law_bag_here","_law_many"] Z.xW Z.xD
 nk:Df K mg "_law_sizes" kM ["_law_bag_here"] Z.vJ Z.vo
 jB:Df K mg "_law_line" qK ["_law_bag_here","_law_n"] Z.yg Z.xM
 eU:Df K mg "_law_low" tU ["_law_top","_law_bottom"] Z.Ax Z.Al
 iu:Df K mg "_law_sum" tS ["_law_one","_law_other"] Z.Av Z.Aj
 kR:Df K mg "_law_plus" qG ["_law_one","_law_other"] Z.ya Z.xH
 iH:Df K mg "_law_prod" qF ["_law_one","_law_other"] Z.xZ Z.xG
 jb:Df K mg "_law_by" wH ["_law_by_here","_law_row_here"] Z.Ck Z.BR
 j8:Df K mg "_law_mixed" oH ["_law_bag_here","_law_move_here","_law_put","_law_look"] Z.vM Z.vv
 jA:Df K mg "_law_two_lines" jO ["_law_bag_here"] Z.nV Z.nP
 lQ:Df K mg "_law_number" mS ["_law_bag_here","_law_wide"] Z.tD Z.sW
 gH:Df K mg "_law_row" tT ["_law_bag_here","_law_many","_law_wide"] Z.Aw Z.Ak
 oY:Df K mg "_law_move" qI ["_law_bag_here","_law_n","_law_way","_law_first","_law_wide"] Z.yd Z.xJ
 nC:Df K mg "_law_parts" oG ["_law_bag_here","_law_n","_law_ins","_law_outs","_law_wide"] Z.vL Z.vq
 lM:Df K mg "_law_system" mQ ["_law_bag_here"] Z.tx Z.sU
 jx:Df K mg "want_list" qh ["thing","at","most"] Z.xR Z.xx
 mj:Df K mg "is_whole" tR ["thing"] Z.Au Z.Ai
 fq:Df K mg "common_divisor" jN ["one","other"] Z.nU Z.nO
 oT:Df K mg "is_number" qq ["thing"] Z.xU Z.xB
 wO:Df K mg "is_row" zD ["thing","many"] Z.E6 Z.EU
 ir:Df K mg "copied_rows" mP ["things","wide"] Z.tw Z.sT
 mD:Binds K Z.jF ["self","move","put","look"] []
 mF:Ll K "__init__" "System.__init__" eC Z.jG Z.jF
 iw:Df K mg "_law_copied" mU ["_law_grid"] Z.tF Z.sY
 oZ:Df K mg "_law_made" qJ ["_law_parts_here"] Z.ye Z.xK
 ni:Df K mg "_law_steps" oC ["_law_bag_here","_law_parts_here"] Z.vI Z.vn
 kv:Df K mg "_law_dot" tW ["_law_one","_law_other"] Z.Az Z.An
 lO:Df K mg "_law_on" wG ["_law_grid","_law_row_here"] Z.Cj Z.BQ
 oX:Df K mg "_law_next" qH ["_law_parts_here","_law_state","_law_puts_here"] Z.yc Z.xI
 mo:Df K mg "_law_end" tV ["_law_parts_here","_law_start","_law_rows"] Z.Ay Z.Am
 oW:Df K mg "_law_puts" qE ["_law_bag_here","_law_parts_here","_law_steps_here","_law_wide"] Z.xY Z.xF
 kT:Df K mg "_law_goal" qO ["_law_bag_here","_law_parts_here","_law_start","_law_steps_here","_law_wide"] Z.yj Z.xP
 jy:Df K mg "tops_over" qi ["row","bottom"] Z.xS Z.xy
 ja:Df K mg "common_multiple" jt ["wholes"] Z.mE Z.mB
 fV:Df K mg "common_bottom" kE ["row"] Z.pP Z.pO
 mZ:Df K mg "first_with" oA ["lines","begin","place"] Z.vG Z.vh
 uo:Df K mg "cleared" wF ["lines","at","place","before"] Z.Ci Z.BP
 nh:Df K mg "brought_up" oB ["lines","at","to"] Z.vH Z.vm
 uU:Df K mg "swept" CY ["rows","wide"] Z.HN Z.HH
 k9:Df K mg "lowest" zC ["top","bottom"] Z.E5 Z.ET
 uh:Df K mg "reduced" wB ["rows","wide"] Z.Ce Z.BM
 oS:Df K mg "row_dot" wA ["one","other"] Z.Cd Z.BL
 uj:Df K mg "grid_on" wD ["grid","row"] Z.Cg Z.BO
 j7:Df K mg "moved_rows" oz ["system","rows"] Z.vF Z.vg
 lK:Df K mg "reach_grown" mM ["system","steps"] Z.td Z.sQ
 Dn:Df K mg "flat" Fu ["lists"] Z.Ld Z.K4
 oU:Df K mg "additions" qB ["system","steps"] Z.xV Z.xC
 iS:Df K mg "nought_row" oy ["many"] Z.vE Z.vf
 rN:Df K mg "solved" zB ["rows","wide","due"] Z.E4 Z.ES
 iq:Df K mg "grid_turned" mO ["grid","wide"] Z.tu Z.sS
 zX:Df K mg "solve" CZ ["rows","wide","due"] Z.HP Z.HI
 lJ:Df K mg "weights_for" mL ["rows","wide","row"] Z.sZ Z.sP
 zY:Df K mg "minus" C0 ["one","other"] Z.HQ Z.HJ
 oR:Df K mg "row_minus" qo ["one","other"] Z.xT Z.xA
 pN:O9 K Z.a_System "moved" Z.lV
 rB:Binds K Z.lS ["self","state","puts"] []
 rH:Ll K "moved" "System.moved" fQ Z.lV Z.lS
 wQ:Df K mg "course" zE ["system","start","puts"] Z.E7 Z.EV
 jz:Df K mg "nothing_for" mN ["system","steps"] Z.tm Z.sR
 ui:Df K mg "lacking" wC ["system","start","goal","steps"] Z.Cf Z.BN
 FL:Df K mg "cut" JL ["row","many","wide"] Z.NF Z.NC
 uV:Df K mg "come" Fv ["system","start","goal","steps"] Z.Le Z.K5
 d6:Df K mg "_law_kept" qN ["_law_thing"] Z.rC Z.rn
 fH:Df K mg "_law_spoil" oE ["_law_thing"] Z.pE Z.pe
 ke:Df K mg "_law_added" oM ["_law_parts_here","_law_steps_here"] Z.vQ Z.vB
 o5:Df K mg "_law_less" qL ["_law_one","_law_other"] Z.yh Z.xN
 gV:Df K mg "_law_minus" oI ["_law_one","_law_other"] Z.vN Z.vw
 j9:Df K mg "_law_alone" oK ["_law_parts_here","_law_start","_law_steps_here"] Z.vP Z.vA
 oV:Df K mg "_law_quot" qD ["_law_one","_law_other"] Z.xX Z.xE
 kS:Df K mg "_law_lean" qM ["_law_rows","_law_wide"] Z.yi Z.xO
 jD:Df K mg "_law_is_number" jP ["_law_thing"] Z.nX Z.nQ
 jC:Df K mg "_law_is_row" mT ["_law_thing","_law_many"] Z.tE Z.sX
 lN:Df K mg "_law_priced" mR ["_law_parts_here","_law_start","_law_goal_here","_law_steps_here","_law_price"] Z.tz Z.sV
 kG:Df K mg "_law_is_grid" lC ["_law_thing","_law_many","_law_wide"] Z.rD Z.rz
 nD:Df K mg "_law_leads" oJ ["_law_parts_here","_law_start","_law_goal_here","_law_steps_here","_law_puts_here"] Z.vO Z.vz
 nv:Df K mg "_law_right" oF ["_law_system_here","_law_parts_here","_law_start","_law_goal_here","_law_steps_here"] Z.vK Z.vp
 NL:Ll K "law" "law" JK Z.ND Z.NB
 abs:mg "abs"=none
 len:mg "len"=none
 min:mg "min"=none
 int:mg "int"=none
 range:mg "range"=none
 isinstance:mg "isinstance"=none
 list:mg "list"=none
 bool:mg "bool"=none
 tuple:mg "tuple"=none
 all:mg "all"=none
 enumerate:mg "enumerate"=none
 max:mg "max"=none
 zip:mg "zip"=none
 sum:mg "sum"=none
 reversed:mg "reversed"=none
 mg_NOUGHT:mg "NOUGHT"=some (.ref Z.a_NOUGHT)
 sq_NOUGHT:∀H,jl K H Z.a_NOUGHT [.int 0,.int 1]
 mg_ONE:mg "ONE"=some (.ref Z.a_ONE)
 sq_ONE:∀H,jl K H Z.a_ONE [.int 1,.int 1]
 mg_MOST_STATES:mg "MOST_STATES"=some (.int 8 Z.t_MOST_STATES)
 mg_MOST_PUTS:mg "MOST_PUTS"=some (.int 4 Z.t_MOST_PUTS)
 mg_MOST_LOOKS:mg "MOST_LOOKS"=some (.int 4 Z.t_MOST_LOOKS)
 mg_System:mg "System"=some (.ref Z.a_System)
 cl_System:Jk K Z.a_System
 na_move:jH K Z.a_System "move"
 na_states:jH K Z.a_System "states"
 na_put:jH K Z.a_System "put"
 na_ins:jH K Z.a_System "ins"
 na_look:jH K Z.a_System "look"
 na_outs:jH K Z.a_System "outs"
 mk_System:Mk K Z.a_System Z.jG
section
variable {P:Program} {w:World} {K:W.Frag} {mg:Str->Option Value} {base:Heap} {Z:Ads}
theorem En:bg ["_law_script"] ["_law_script"] (aN tY):=by walk_at "d"
theorem EB (T:Txt K mg Z):cI P w K mg base fM 1 Z.AA Z.Ao ["_law_script"] (JF K):=by
 refine T.qZ.F.ok En (λvs H Q E h=>?_) (λcdv A outer s H vs Q E hr h=>?_)
 ·obtain ⟨a,ns,rfl,_⟩:=h;rfl
 ·obtain ⟨a,ns,rfl,hS,hlen,k⟩:=h;refine ⟨_,(az (a7 (df (ae ao (ae ao (ae ao (ae (cA ["_law_cell"] [] [] (cE (zM CH (pv 0) GG (yI ao))) (λ_=>(aT (i:=0) (show ND9 ["_law_cell"] by decide +kernel))) (λ_=>cC) (λ_=>(bA vC (by rfl) T.abs PyProof.Rows.boot_abs (ae (pv 0) ag)))) ag))))))),?_⟩;refine aV (σ:=[some (.ref a)]) rfl ?_;exists ⟨a,_,rfl,hS,λl hl=>?_⟩;have hcl:(rY (ns.map V.int) none (some 63)).length<=63:=ai (xQ _ _ _) (by simpa using hlen);refine ⟨l,rfl,⟨_,bN.of aK⟩,?_⟩;refine fZ (K:=K) (a:=l) (xs:=rY (ns.map V.int) none (some 63)) (λi ys H'=>H'=upd H l (.lst (rY (ns.map V.int) none (some 63)))/\∃cs:List Int,ys=cs.map V.int/\∀x∈cs,0<=x) (ai hcl (by decide)) ⟨rfl,[],rfl,λ_ z=>nomatch z⟩ (λi ys H' _ ⟨e,_⟩=>by subst e;exact bN.of aK) ?_ ?_
  ·rintro i x ys H' hx hi ⟨rfl,cs,rfl,hcs⟩
   obtain ⟨z,rfl⟩:∃z,x=V.int z:=by
    have hm:x∈ns.map V.int:=List.mem_of_mem_drop (b7 (ax hx));obtain ⟨z,_,e⟩:=aD.mp hm;exact ⟨z,e.symm⟩
   exists ⟨rfl,cs++[if z < 0 then -z else z],by simp,λx hx=>?_⟩;rcases aw.mp hx with hx | hx
   ·exact hcs x hx
   ·have e:x=if z < 0 then -z else z:=by simpa using hx
    subst e
    split <;> lia
  ·rintro ys H' hy ⟨rfl,cs,rfl,hcs⟩ p hp;exists ⟨by show 4<=sizeLine;decide,λb hb=>?_⟩;have n1:b≠p:=λz=>by rw[z,aK] at hb;cases hb
   have hb1:(upd H l (.lst (rY (ns.map V.int) none (some 63)))) b=none:=by rw[bG n1] at hb;exact hb
   have s1:aG H (upd H l (.lst (rY (ns.map V.int) none (some 63)))):=aG.new hl;refine k b _ (s1.free hb1) ⟨p,0,1234567891,0,cs,aK,by rw[bG n1.symm];exact aK,by decide,by decide,by lia,hcs⟩ ((s1.trans (aG.new hp)).trans (aG.new hb))
theorem gL:bg ["_law_bag_here","_law_many","_law_more","_law_cell","_law_value","_law_first","_law_second"] ["_law_bag_here","_law_many"] (aN qC):=by walk_at "d"
theorem be (T:Txt K mg Z):cI P w K mg base fM 1 Z.xW Z.xD ["_law_bag_here","_law_many"] LI:=by
 refine T.aW.F.ok gL (λvs H Q E h=>?_) (λcdv A outer s H vs Q E hr h=>?_)
 ·obtain ⟨p,n,rfl,_⟩:=h;rfl
 ·obtain ⟨p,n,rfl,⟨q,a,b,c,cs,hp,hq,ha,hc,hcl,hcs⟩,hn,hn2,k⟩:=h;have nqp:q≠p:=Jb hp hq
  refine ⟨_,(iE (cP (bx eJ (aY bS (pv 0) ao) ao (bD _)) (av (a8 (i:=2) gL.nd rfl (Or.inl rfl) ao)
   (iE (cP (bx qU (aY bS (pv 0) ao) (bA aX (by rfl) T.len aR (ae (aY bS (pv 0) ao) ag)) (bD _)) (av (a8 (i:=3) gL.nd rfl (Or.inl rfl) (aY bS (aY bS (pv 0) ao) (aY bS (pv 0) ao)))
   (av (Mq (pv 0) ao KG ao OT set_list)
   (av (cP (bx By (pv 3) ao (bD _)) (az (fF (pv 3) (gX (pv 0) ao set_list))) bO)
   (az (a8 (i:=2) gL.nd rfl (Or.inl rfl) (bH ff (bH mW (pv 3) ao) ao)))))) bO)
   (az (fF (bH mW (bH ff (bH cY (aY bS (pv 0) ao) ao) (pv 2)) ao) (gX (pv 0) ao set_list))))) bO)
   (av (cP (bx pM (aY bS (pv 0) ao) ao (bD _)) (av (a8 (i:=4) gL.nd rfl (Or.inl rfl) (bH mW (aY bS (pv 0) ao) (pv 1)))
   (av (fF (bH iQ (aY bS (pv 0) ao) (pv 1)) (gX (pv 0) ao set_list))
   (az (a7 (pv 4))))) bO)
   (av (a8 (i:=5) gL.nd rfl (Or.inl rfl) (bH mW (bH cY (aY bS (pv 0) ao) ao) ao))
   (av (a8 (i:=6) gL.nd rfl (Or.inl rfl) (bH mW (bH cY (pv 5) ao) ao))
   (av (cP (bx pM (pv 1) ao (bD _)) (az (a7 (bH mW (bH ff (bH cY (pv 6) ao) (pv 5)) (pv 1)))) bO)
   (az (a7 (bH mW (bH iQ (pv 6) ao) (pv 1))))))))),?_⟩
  refine aV (σ:=[some (.ref p),some (.int n),none,none,none,none,none]) rfl ?_;refine ⟨λσ' H'=>∃(x y:Option V) (a' b' c':Int),σ'=[some (.ref p),some (.int n),x,y,none,none,none]/\H' p=some (.lst [.int a',.int b',.int c',.ref q])/\0<=a'/\0<=c'/\c'<=cs.length/\cT p H H',?_,?_⟩
  ·exists fX (λh0=>?_) (λh0=>?_)
   ·exists ⟨λσ' H'=>∃(m:Int) (y:Option V) (a' c':Int),σ'=[some (.ref p),some (.int n),some (.int m),y,none,none,none]/\H' p=some (.lst [.int a',.int b,.int c',.ref q])/\0<=a'/\0<=c'/\c'<=cs.length/\cT p H H',?_,?_⟩
    ·exists ⟨_,_,rfl,.inl (bN.of hq),?_⟩;exists fX (λh1=>?_) (λh1=>?_)
     ·have h1':c < cs.length:=by simpa using of_decide_eq_true h1
      obtain ⟨z,hz⟩:∃z,cs[c.toNat]?=some z:=⟨_,af (by lia)⟩;have hz0:0<=z:=hcs z (ax hz);exists cB (bN.of hq) (v:=.int z) ?_ ?_
      ·have:=fL (xs:=cs.map V.int) (j:=c.toNat) (v:=.int z) (by rw[aL,hz];rfl);rwa [Int.toNat_of_nonneg hc] at this
      exists fX (λh2=>?_) (λh2=>?_)
      ·exists ⟨_,_,z,c+1,rfl,aK,hz0,by lia,by lia,(cT.set hp).trans (cT.set aK)⟩
      ·exists ⟨_,_,a,c+1,rfl,aK,ha,by lia,by lia,cT.set hp⟩
     ·exists ⟨_,_,a,c,rfl,hp,ha,hc,hcl,cT.refl _⟩
    ·rintro σ' H' ⟨m,y,a',c',rfl,hp',ha',hc',hcl',u'⟩;exists ⟨_,_,a',_,c',rfl,aK,ha',hc',hcl',u'.trans (cT.set hp')⟩
   ·exists ⟨_,_,a,b,c,rfl,hp,ha,hc,hcl,cT.refl _⟩
  ·rintro σ' H' ⟨x,y,a',b',c',rfl,hp',ha',hc',hcl',u'⟩;have hq':H' q=some (.lst (cs.map V.int)):=u'.1 q _ hq nqp
   have sn:Sz 8999 n:=by
    show n.natAbs < 2^8999
    exact bI (show n.natAbs < 2^64 by lia) (au (by decide) (by decide))
   exists fX (λh0=>?_) (λh0=>?_)
   ·exists fE (show (0:Int) < n from hn) ?_;exists fE (show nZ _ _ from ⟨by lia,sn⟩) ?_;exists k _ _ (kZ _ (by lia)) (iV _ hn) ⟨q,_,b',c',cs,aK,by rw[bG nqp];exact hq',?_,hc',hcl',hcs⟩ (u'.trans (cT.set hp'));rw[cz _ (by lia)];exact Int.ediv_nonneg ha' (by lia)
   ·exists fX (λh1=>?_) (λh1=>?_)
    ·exists fE (show (0:Int) < n from hn) ?_;exact k _ _ (kZ _ (by lia)) (iV _ hn) ⟨q,a',b',c',cs,hp',hq',ha',hc',hcl',hcs⟩ u'
    ·exists fE (show nZ _ _ from ⟨by decide,by show (3:Nat) < 2^8999;exact bI (show 3 < 2^2 by decide) (au (by decide) (by decide))⟩) ?_;exists fE (show (0:Int) < n from hn) ?_;exact k _ _ (kZ _ (by lia)) (iV _ hn) ⟨q,a',b',c',cs,hp',hq',ha',hc',hcl',hcs⟩ u'
theorem A2:∃x1 x2 x3 x4 x5 x6 x7 x8 x9 x10 x11 x12 x13 x14 x15 x16:Expr,x1=(Expr.Constant (Const.int 0) 0 ⟨310,16,310,17⟩)/\x2=(Expr.Constant (Const.int 1) 0 ⟨310,19,310,20⟩)/\x3=(Expr.Constant (Const.int 1) 0 ⟨310,22,310,23⟩)/\x4=(Expr.Constant (Const.int 1) 0 ⟨310,25,310,26⟩)/\x5=(Expr.Constant (Const.int 2) 0 ⟨310,28,310,29⟩)/\x6=(Expr.Constant (Const.int 2) 0 ⟨310,31,310,32⟩)/\x7=(Expr.Constant (Const.int 3) 0 ⟨310,34,310,35⟩)/\x8=(Expr.Constant (Const.int 4) 0 ⟨310,37,310,38⟩)/\x9=(Expr.Constant (Const.int 0) 0 ⟨311,17,311,18⟩)/\x10=(Expr.Constant (Const.int 1) 0 ⟨311,20,311,21⟩)/\x11=(Expr.Constant (Const.int 1) 0 ⟨311,23,311,24⟩)/\x12=(Expr.Constant (Const.int 1) 0 ⟨311,26,311,27⟩)/\x13=(Expr.Constant (Const.int 2) 0 ⟨311,29,311,30⟩)/\x14=(Expr.Constant (Const.int 2) 0 ⟨311,32,311,33⟩)/\x15=(Expr.Constant (Const.int 3) 0 ⟨311,35,311,36⟩)/\x16=(Expr.Constant (Const.int 4) 0 ⟨311,38,311,39⟩)/\jE kM=[ (Stmt.Assign (targets:=[(Expr.Name "_law_n" ⟨307,4,307,10⟩)]) (value:=(Expr.Call (func:=(Expr.Name "_law_take" ⟨307,13,307,22⟩)) (args:=[ (Expr.Name "_law_bag_here" ⟨307,23,307,36⟩),(Expr.Constant (Const.int 5) 0 ⟨307,38,307,39⟩)]) (keywords:=[]) (pos:=⟨307,13,307,40⟩))) (pos:=⟨307,4,307,40⟩)),(Stmt.If (test:=(Expr.Compare (left:=(Expr.Call (func:=(Expr.Name "_law_take" ⟨308,7,308,16⟩)) (args:=[ (Expr.Name "_law_bag_here" ⟨308,17,308,30⟩),(Expr.Constant (Const.int 8) 0 ⟨308,32,308,33⟩)]) (keywords:=[]) (pos:=⟨308,7,308,34⟩))) (ops:=[PySem.CmpOp.Eq]) (comparators:=[(Expr.Constant (Const.int 7) 0 ⟨308,38,308,39⟩)]) (pos:=⟨308,7,308,39⟩))) (body:=[ (Stmt.Assign (targets:=[(Expr.Name "_law_n" ⟨309,8,309,14⟩)]) (value:=(Expr.Constant (Const.int 5) 0 ⟨309,17,309,18⟩)) (pos:=⟨309,8,309,18⟩))]) (orelse:=[]) (pos:=⟨308,4,309,18⟩)),(Stmt.Assign (targets:=[(Expr.Name "_law_ins" ⟨310,4,310,12⟩)]) (value:=(Expr.Subscript (value:=(Expr.List (elts:=[x1,x2,x3,x4,x5,x6,x7,x8]) (pos:=⟨310,15,310,39⟩))) (slice:=(Expr.Call (func:=(Expr.Name "_law_take" ⟨310,40,310,49⟩)) (args:=[ (Expr.Name "_law_bag_here" ⟨310,50,310,63⟩),(Expr.Constant (Const.int 8) 0 ⟨310,65,310,66⟩)]) (keywords:=[]) (pos:=⟨310,40,310,67⟩))) (pos:=⟨310,15,310,68⟩))) (pos:=⟨310,4,310,68⟩)),(Stmt.Assign (targets:=[(Expr.Name "_law_outs" ⟨311,4,311,13⟩)]) (value:=(Expr.Subscript (value:=(Expr.List (elts:=[x9,x10,x11,x12,x13,x14,x15,x16]) (pos:=⟨311,16,311,40⟩))) (slice:=(Expr.Call (func:=(Expr.Name "_law_take" ⟨311,41,311,50⟩)) (args:=[ (Expr.Name "_law_bag_here" ⟨311,51,311,64⟩),(Expr.Constant (Const.int 8) 0 ⟨311,66,311,67⟩)]) (keywords:=[]) (pos:=⟨311,41,311,68⟩))) (pos:=⟨311,16,311,69⟩))) (pos:=⟨311,4,311,69⟩)),(Stmt.If (test:=(Expr.Compare (left:=(Expr.Name "_law_n" ⟨312,7,312,13⟩)) (ops:=[PySem.CmpOp.Eq]) (comparators:=[(Expr.Constant (Const.int 5) 0 ⟨312,17,312,18⟩)]) (pos:=⟨312,7,312,18⟩))) (body:=[ (Stmt.Assign (targets:=[ (Expr.Tuple (elts:=[(Expr.Name "_law_ins" ⟨313,8,313,16⟩),(Expr.Name "_law_outs" ⟨313,18,313,27⟩)]) (k:=0) (pos:=⟨313,8,313,27⟩))]) (value:=(Expr.Tuple (elts:=[ (Expr.Call (func:=(Expr.Name "min" ⟨313,31,313,34⟩)) (args:=[ (Expr.Name "_law_ins" ⟨313,35,313,43⟩),(Expr.Constant (Const.int 2) 0 ⟨313,45,313,46⟩)]) (keywords:=[]) (pos:=⟨313,31,313,47⟩)),(Expr.Call (func:=(Expr.Name "min" ⟨313,49,313,52⟩)) (args:=[ (Expr.Name "_law_outs" ⟨313,53,313,62⟩),(Expr.Constant (Const.int 2) 0 ⟨313,64,313,65⟩)]) (keywords:=[]) (pos:=⟨313,49,313,66⟩))]) (k:=0) (pos:=⟨313,30,313,67⟩))) (pos:=⟨313,8,313,67⟩))]) (orelse:=[]) (pos:=⟨312,4,313,67⟩)),(Stmt.Assign (targets:=[(Expr.Name "_law_wide" ⟨314,4,314,13⟩)]) (value:=(Expr.Subscript (value:=(Expr.List (elts:=[ (Expr.Constant (Const.int 4) 0 ⟨314,17,314,18⟩),(Expr.Constant (Const.int 4) 0 ⟨314,20,314,21⟩),(Expr.Constant (Const.int 9) 0 ⟨314,23,314,24⟩),(Expr.Constant (Const.int 1000000) 0 ⟨314,26,314,33⟩)]) (pos:=⟨314,16,314,34⟩))) (slice:=(Expr.Call (func:=(Expr.Name "_law_take" ⟨314,35,314,44⟩)) (args:=[ (Expr.Name "_law_bag_here" ⟨314,45,314,58⟩),(Expr.Constant (Const.int 4) 0 ⟨314,60,314,61⟩)]) (keywords:=[]) (pos:=⟨314,35,314,62⟩))) (pos:=⟨314,16,314,63⟩))) (pos:=⟨314,4,314,63⟩)),(Stmt.If (test:=(Expr.Compare (left:=(Expr.Name "_law_wide" ⟨315,7,315,16⟩)) (ops:=[PySem.CmpOp.Gt]) (comparators:=[(Expr.Constant (Const.int 9) 0 ⟨315,19,315,20⟩)]) (pos:=⟨315,7,315,20⟩))) (body:=[ (Stmt.Assign (targets:=[(Expr.Name "_law_n" ⟨316,8,316,14⟩)]) (value:=(Expr.Call (func:=(Expr.Name "min" ⟨316,17,316,20⟩)) (args:=[ (Expr.Name "_law_n" ⟨316,21,316,27⟩),(Expr.Constant (Const.int 2) 0 ⟨316,29,316,30⟩)]) (keywords:=[]) (pos:=⟨316,17,316,31⟩))) (pos:=⟨316,8,316,31⟩))]) (orelse:=[]) (pos:=⟨315,4,316,31⟩)),(Stmt.Return (value:=(some (Expr.Tuple (elts:=[ (Expr.Name "_law_n" ⟨317,12,317,18⟩),(Expr.Name "_law_ins" ⟨317,20,317,28⟩),(Expr.Name "_law_outs" ⟨317,30,317,39⟩),(Expr.Name "_law_wide" ⟨317,41,317,50⟩)]) (k:=0) (pos:=⟨317,11,317,51⟩)))) (pos:=⟨317,4,317,51⟩))]:=⟨_,_,_,_,_,_,_,_,_,_,_,_,_,_,_,_,rfl,rfl,rfl,rfl,rfl,rfl,rfl,rfl,rfl,rfl,rfl,rfl,rfl,rfl,rfl,rfl,by with_unfolding_all rfl⟩
theorem eT:bg ["_law_bag_here","_law_n","_law_ins","_law_outs","_law_wide"] ["_law_bag_here"] (aN kM):=by walk_at "d"
theorem AV (T:Txt K mg Z):cI P w K mg base fM 2 Z.vJ Z.vo ["_law_bag_here"] Ig:=by
 refine T.nk.F.ok eT (λvs H Q E h=>?_) (λcdv A outer s H vs Q E hr h=>?_)
 ·obtain ⟨b,rfl,_⟩:=h;rfl
 ·obtain ⟨b,rfl,hB,k⟩:=h;obtain ⟨x1,x2,x3,x4,x5,x6,x7,x8,x9,x10,x11,x12,x13,x14,x15,x16,hx1,hx2,hx3,hx4,hx5,hx6,hx7,hx8,hx9,hx10,hx11,hx12,hx13,hx14,hx15,hx16,hbd⟩:=A2;rw[hbd]
  refine ⟨_,(av (a8 (i:=1) eT.nd rfl (Or.inl rfl) (cG (be T) hr T.aW (ae (pv 0) (ae ao ag))))
   (iE (cP (bx eJ (cG (be T) hr T.aW (ae (pv 0) (ae ao ag))) ao (bD _)) (az (a8 (i:=1) eT.nd rfl (Or.inl rfl) ao)) bO)
   (av (a8 (i:=2) eT.nd rfl (Or.inl rfl) (aY bS (df (eI hx1 ao (eI hx2 ao (eI hx3 ao (eI hx4 ao (eI hx5 ao (eI hx6 ao (eI hx7 ao (eI hx8 ao ag))))))))) (cG (be T) hr T.aW (ae (pv 0) (ae ao ag)))))
   (av (a8 (i:=3) eT.nd rfl (Or.inl rfl) (aY bS (df (eI hx9 ao (eI hx10 ao (eI hx11 ao (eI hx12 ao (eI hx13 ao (eI hx14 ao (eI hx15 ao (eI hx16 ao ag))))))))) (cG (be T) hr T.aW (ae (pv 0) (ae ao ag)))))
   (iE (cP (bx eJ (pv 1) ao (bD _)) (az (JZ (i:=2) (j:=3) rfl eT.nd rfl rfl (by decide) rfl rfl (ae (bA (rS rfl) (by rfl) T.min PyProof.Rows.boot_min (ae (pv 2) (ae ao ag))) (ae (bA (rS rfl) (by rfl) T.min PyProof.Rows.boot_min (ae (pv 3) (ae ao ag))) ag)) rfl)) bO)
   (av (a8 (i:=4) eT.nd rfl (Or.inl rfl) (aY bS (df (ae ao (ae ao (ae ao (ae ao ag))))) (cG (be T) hr T.aW (ae (pv 0) (ae ao ag)))))
   (iE (cP (bx pM (pv 4) ao (bD _)) (az (a8 (i:=1) eT.nd rfl (Or.inl rfl) (bA (rS rfl) (by rfl) T.min PyProof.Rows.boot_min (ae (pv 1) (ae ao ag))))) bO)
   (az (a7 (cN (ae (pv 1) (ae (pv 2) (ae (pv 3) (ae (pv 4) ag)))))))))))))),?_⟩
  refine aV (σ:=[some (.ref b),none,none,none,none]) rfl ?_;exists ⟨b,5,rfl,hB,by decide,by decide,λn H1 n0 n1 B1 u1=>?_⟩;obtain ⟨n,rfl⟩:=bX n0;exists ⟨λσ' H'=>(∃n:Nat,σ'=[some (.ref b),some (.int n),none,none,none]/\n<=5)/\ig H' b/\cT b H H',?_,?_⟩
  ·exists ⟨b,8,rfl,B1,by decide,by decide,λv H2 v0 v1 B2 u2=>?_⟩;exists fX (λ_=>?_) (λ_=>?_)
   ·exists ⟨⟨5,rfl,by decide⟩,B2,u1.trans u2⟩
   ·exists ⟨⟨n,rfl,by lia⟩,B2,u1.trans u2⟩
  clear n0 n1 u1 B1;rintro σ' H1 ⟨⟨n,rfl,n5⟩,B1,u1⟩;exists cW λl0 H2 s2 n2 g2=>?_
  exists ⟨b,8,rfl,B1.same s2,by decide,by decide,λv H3 v0 v1 B3 u3=>?_⟩;have g3:=u3.other (λz=>B1.at (by rw[<- z];exact n2)) g2;obtain ⟨x,ex,mx,_⟩:=ky (xs:=[V.int 0,V.int 1,V.int 1,V.int 1,V.int 2,V.int 2,V.int 3,V.int 4]) v0 (by simpa using v1)
  obtain ⟨i,rfl,hi⟩:∃z:Nat,x=.int z/\z<=4:=by
   simp only[aB,aU,or_false] at mx;rcases mx with rfl | rfl | rfl | rfl | rfl | rfl | rfl | rfl
   ·exact ⟨0,rfl,by decide⟩
   ·exact ⟨1,rfl,by decide⟩
   ·exact ⟨1,rfl,by decide⟩
   ·exact ⟨1,rfl,by decide⟩
   ·exact ⟨2,rfl,by decide⟩
   ·exact ⟨2,rfl,by decide⟩
   ·exact ⟨3,rfl,by decide⟩
   ·exact ⟨4,rfl,by decide⟩
  exists cB (bN.of g3) ex ?_;clear ex mx g3 g2;exists cW λl1 H4 s4 n4 g4=>?_
  exists ⟨b,8,rfl,B3.same s4,by decide,by decide,λt H5 t0 t1 B5 u5=>?_⟩;have g5:=u5.other (λz=>B3.at (by rw[<- z];exact n4)) g4;obtain ⟨x,ex,mx,_⟩:=ky (xs:=[V.int 0,V.int 1,V.int 1,V.int 1,V.int 2,V.int 2,V.int 3,V.int 4]) t0 (by simpa using t1)
  obtain ⟨o,rfl,ho⟩:∃z:Nat,x=.int z/\z<=4:=by
   simp only[aB,aU,or_false] at mx;rcases mx with rfl | rfl | rfl | rfl | rfl | rfl | rfl | rfl
   ·exact ⟨0,rfl,by decide⟩
   ·exact ⟨1,rfl,by decide⟩
   ·exact ⟨1,rfl,by decide⟩
   ·exact ⟨1,rfl,by decide⟩
   ·exact ⟨2,rfl,by decide⟩
   ·exact ⟨2,rfl,by decide⟩
   ·exact ⟨3,rfl,by decide⟩
   ·exact ⟨4,rfl,by decide⟩
  exists cB (bN.of g5) ex ?_;clear ex mx g5 g4;have u15:=(((u1.same s2).trans u3).same s4).trans u5;exists ⟨λσ' H'=>(∃i o:Nat,σ'=[some (.ref b),some (.int n),some (.int i),some (.int o),none]/\i<=4/\o<=4/\(n=5->i<=2/\o<=2))/\ig H' b/\cT b H H',?_,?_⟩
  ·exists fX (λh0=>?_) (λh0=>?_)
   ·exists ⟨⟨min i 2,min o 2,?_,by lia,by lia,λ_=>⟨by lia,by lia⟩⟩,B5,u15⟩;have e1:(if (2:Int) < (i:Int) then (2:Int) else (i:Int))=((min i 2:Nat):Int):=by split <;> lia
    have e2:(if (2:Int) < (o:Int) then (2:Int) else (o:Int))=((min o 2:Nat):Int):=by split <;> lia
    rw[<- e1,<- e2];rfl
   ·exists ⟨⟨i,o,rfl,hi,ho,λz=>absurd (decide_eq_true (show (n:Int)=5 by lia)) h0⟩,B5,u15⟩
  clear hi ho u15 B5 u5 u3 u1;rintro σ' H5 ⟨⟨i,o,rfl,hi,ho,h5⟩,B5,u5⟩;exists cW λl2 H6 s6 n6 g6=>?_
  exists ⟨b,4,rfl,B5.same s6,by decide,by decide,λv H7 v0 v1 B7 u7=>?_⟩;have g7:=u7.other (λz=>B5.at (by rw[<- z];exact n6)) g6;obtain ⟨x,ex,mx,_⟩:=ky (xs:=[V.int 4,V.int 4,V.int 9,V.int 1000000]) v0 (by simpa using v1)
  obtain ⟨w,rfl,hw⟩:∃w:Nat,x=.int w/\(w=4\/w=9\/w=1000000):=by
   simp only[aB,aU,or_false] at mx;rcases mx with rfl | rfl | rfl | rfl
   ·exact ⟨4,rfl,.inl rfl⟩
   ·exact ⟨4,rfl,.inl rfl⟩
   ·exact ⟨9,rfl,.inr (.inl rfl)⟩
   ·exact ⟨1000000,rfl,.inr (.inr rfl)⟩
  exists cB (bN.of g7) ex ?_;have u07:=(u5.same s6).trans u7;exists ⟨λσ' H'=>(∃n:Nat,σ'=[some (.ref b),some (.int n),some (.int i),some (.int o),some (.int w)]/\n<=5/\(w=4\/w=9\/(w=1000000/\n<=2))/\(n=5->i<=2/\o<=2))/\ig H' b/\cT b H H',?_,?_⟩
  ·exists fX (λh0=>?_) (λh0=>?_)
   ·exists ⟨⟨min n 2,?_,by lia,by lia,λz=>by lia⟩,B7,u07⟩;have e1:(if (2:Int) < (n:Int) then (2:Int) else (n:Int))=((min n 2:Nat):Int):=by split <;> lia
    rw[<- e1];rfl
   ·exists ⟨⟨n,rfl,n5,?_,h5⟩,B7,u07⟩;rcases hw with z | z | z
    ·exact .inl z
    ·exact .inr (.inl z)
    ·exact absurd (decide_eq_true (show (9:Int) < (w:Int) by lia)) h0
  ·clear h5 n5;rintro σ' H8 ⟨⟨n',rfl,n5,hwn,h5⟩,B8,u8⟩;exists bU λr H9 s9 g9=>?_
   exact k r n' i o w H9 g9 n5 hi ho hwn h5 (B8.same s9) (u8.same s9)
theorem iC:bg ["_law_bag_here","_law_n","_law_move_here","_law_at","_law_put","_law_first","_law_look"] ["_law_bag_here","_law_n"] (aN qK):=by walk_at "d"
theorem oO (T:Txt K mg Z):cI P w K mg base fM 2 Z.yg Z.xM ["_law_bag_here","_law_n"] (Ec K):=by
 refine T.jB.F.ok iC (λvs H Q E h=>?_) (λcdv A outer s H vs Q E hr h=>?_)
 ·obtain ⟨b,n,rfl,_⟩:=h;rfl
 ·obtain ⟨b,n,rfl,hB,n1,n8,k⟩:=h
  refine ⟨_,(av (kN 2 ["_law_i"] ["_law_n"] [1] iC.nd rfl rfl (cw rfl T.range (ae (pv 1) ag)) (λ_=>(aT (i:=0) (show ND9 ["_law_i","_law_n"] by decide +kernel) rfl (Or.inr rfl) (Or.inl rfl))) (λ_=>cC) (λ_=>(cA ["_law_j"] ["_law_i"] [0] (cw rfl T.range (ae (pv 1) ag)) (λ_=>(aT (i:=0) (show ND9 ["_law_j","_law_i"] by decide +kernel))) (λ_=>cC) (λ_=>(cN (ae (dI nR (by rfl) T.int PyProof.Rows.boot_int (ae (gO eJ (pv 0) (bH ff (pv 1) ao) (bD _)) ag)) (ae ao ag)))))))
   (av (fF (cA ["_law_j"] ["_law_bag_here"] [0] (cw rfl T.range (ae (pv 1) ag)) (λ_=>(aT (i:=0) (show ND9 ["_law_j","_law_bag_here"] by decide +kernel))) (λ_=>cC) (λ_=>(cN (ae (bH i5 (cG (be T) hr T.aW (ae (pv 1) (ae ao ag))) ao) (ae ao ag))))) (gX (pv 2) (bH i5 (pv 1) ao) set_list))
   (av (a8 (i:=3) iC.nd rfl (Or.inr rfl) (aY bS (df (ae (bH i5 (pv 1) ao) (ae (cG (be T) hr T.aW (ae (pv 0) (ae (pv 1) ag))) ag))) (cG (be T) hr T.aW (ae (pv 0) (ae ao ag)))))
   (av (a8 (i:=4) iC.nd rfl (Or.inl rfl) (df (ae (cA ["_law_j"] ["_law_at"] [3] (cw rfl T.range (ae (pv 1) ag)) (λ_=>(aT (i:=0) (show ND9 ["_law_j","_law_at"] by decide +kernel))) (λ_=>cC) (λ_=>(cN (ae (dI nR (by rfl) T.int PyProof.Rows.boot_int (ae (gO eJ (pv 0) (pv 1) (bD _)) ag)) (ae ao ag))))) ag)))
   (av (a8 (i:=5) iC.nd rfl (Or.inr rfl) (aY bS (df (ae ao (ae ao (ae (cG (be T) hr T.aW (ae (pv 0) (ae (pv 1) ag))) ag)))) (cG (be T) hr T.aW (ae (pv 0) (ae ao ag)))))
   (av (a8 (i:=6) iC.nd rfl (Or.inl rfl) (df (ae (cA ["_law_j"] ["_law_first"] [5] (cw rfl T.range (ae (pv 1) ag)) (λ_=>(aT (i:=0) (show ND9 ["_law_j","_law_first"] by decide +kernel))) (λ_=>cC) (λ_=>(cN (ae (dI nR (by rfl) T.int PyProof.Rows.boot_int (ae (gO eJ (pv 0) (pv 1) (bD _)) ag)) (ae ao ag))))) ag)))
   (az (a7 (cN (ae (pv 2) (ae (pv 4) (ae (pv 6) ag)))))))))))),?_⟩
  refine aV (σ:=[some (.ref b),some (.int n),none,none,none,none,none]) rfl ?_
  have bit:∀{z:Int},∀y∈(List.range n).map (λ(j:Nat)=>(((if decide ((j:Int)=z)=true then 1 else 0:Int)):Rat)),Fr 1 1 y:=λy hy=>by
   obtain ⟨j,_,rfl⟩:=aD.mp hy;exact PX (by split <;> simp)
  exists ⟨by lia,by lia,?_⟩;refine gW (n:=n) (c4 K H) (λ(i:Nat)=>(List.range n).map λ(j:Nat)=>(((if decide ((j:Int)=(i:Int)+1)=true then 1 else 0:Int)):Rat)) (by lia) (λa b=>a.same b) ?_ ?_
  ·rintro i Hb NY NN hi sa k1;exists ⟨by lia,by lia,?_⟩;refine gW (n:=n) (ck K) (λ(j:Nat)=>(((if decide ((j:Int)=(i:Int)+1)=true then 1 else 0:Int)):Rat)) (by lia) (λa b=>a.same b) ?_ ?_
   ·rintro j Hz NY2 NN2 hj sz k2;exists bU λt Hy sy gy=>?_
    exact k2 _ _ sy (ck.mk gy rfl)
   ·rintro ys Hz t ht sz g pr nx;exact k1 _ _ sz ⟨t,rfl,sa.none ht,ys,g,pr⟩
  rintro ys H1 mm hm s1 g1 pr1 nx1;have G1:bJ K H H1 mm ((List.range n).map λ(i:Nat)=>(List.range n).map λ(j:Nat)=>(((if decide ((j:Int)=(i:Int)+1)=true then 1 else 0:Int)):Rat)):=⟨ys,g1,pr1,je nx1⟩;clear g1 pr1 nx1;have B1:=hB.same s1;have mb:mm≠b:=λz=>hB.at (by rw[<- z];exact hm)
  obtain ⟨q0,I0,xq,gq0⟩:=hB.inner;have mq:mm≠q0:=λz=>by rw[<- z,hm] at gq0;cases gq0
  exists ⟨by lia,by lia,?_⟩;refine w5 (n:=n) (b:=b) (ck K) (Fr 1 1) B1 (by lia) (λa u B=>a.upto u B) ?_ ?_
  ·rintro j Ha NY NN hj ua Ba k1;exists ⟨b,3,rfl,Ba,by decide,by decide,λv Hb v0 v1 Bb ub=>?_⟩;exists bU λt Hc sc gc=>?_
   exact k1 _ ((v - 1:Int):Rat) _ (ub.same sc) (Bb.same sc) (Fr.int (by lia)) (ck.mk gc rfl)
  rintro ys2 cs H2 q2 hq2 u2 B2 g2 lc hc pr2 _;have u02:=(s1.upto (p:=b)).trans u2;have nq2:H q2=none:=s1.none hq2;obtain ⟨us,gu,pu⟩:=(G1.upto u2 B1 mb hB.at).toE;have lu:=pu.length;rw[ar,cK] at lu
  have q2m:q2≠mm:=λz=>by
   obtain ⟨_,gg,_⟩:=id G1;rw[z,gg] at hq2;cases hq2
  walk_at "w";rw[show ((n:Int) - 1)=((n - 1:Nat):Int) by lia];refine fj gu (fv (by lia)) rfl ?_;have G3:bJ K H (upd H2 mm (.lst (us.set (n - 1) (.ref q2)))) mm (((List.range n).map λ(i:Nat)=>(List.range n).map λ(j:Nat)=>(((if decide ((j:Int)=(i:Int)+1)=true then 1 else 0:Int)):Rat)).set (n - 1) cs):=bJ.ofE aK (jR (Paired.imp' (λ_ _ z=>nG.updL z gu (λq h=>h.2)) pu) (n - 1) ⟨q2,rfl,⟨nq2,q2m⟩,cv.updL ⟨ys2,g2,pr2⟩ gu q2m⟩) (λq h=>h.1) (λq h=>h.2);have B3:ig (upd H2 mm (.lst (us.set (n - 1) (.ref q2)))) b:=B2.upd (u02.2 _ I0) mb mq;have u03:cT b H (upd H2 mm (.lst (us.set (n - 1) (.ref q2)))):=u02.after hm;obtain ⟨mv,emv⟩:∃mv,mv=((List.range n).map λ(i:Nat)=>(List.range n).map λ(j:Nat)=>(((if decide ((j:Int)=(i:Int)+1)=true then 1 else 0:Int)):Rat)).set (n - 1) cs:=⟨_,rfl⟩;have lmv:mv.length=n:=by rw[emv,dQ,ar,cK]
  have hmv:∀xs∈mv,xs.length=n/\∀y∈xs,Fr 1 1 y:=λxs hx=>by
   rw[emv] at hx;rcases cg hx with hx | rfl
   ·obtain ⟨i,_,rfl⟩:=aD.mp hx;exact ⟨by rw[ar,cK],bit⟩
   ·exact ⟨lc,hc⟩
  rw[<- emv] at G3;generalize upd H2 mm (.lst (us.set (n - 1) (.ref q2)))=H3 at G3 B3 u03 ⊢;clear emv pu gu G1 u2 pr2 g2 B2;exists ⟨b,n,rfl,B3,by lia,by lia,λa1 H4 a10 a11 B4 u4=>?_⟩;exists cW λl1 H5 s5 nl1 g5=>?_
  exists ⟨b,2,rfl,B4.same s5,by decide,by decide,λv H6 v0 v1 B6 u6=>?_⟩;have g6:=u6.other (λz=>B4.at (by rw[<- z];exact nl1)) g5;obtain ⟨x,ex,mx,_⟩:=ky (xs:=[V.int ((n:Int) - 1),V.int a1]) v0 (by simpa using v1)
  obtain ⟨at',rfl⟩:∃a:Int,x=.int a:=by
   simp only[aB,aU,or_false] at mx;rcases mx with rfl | rfl
   ·exact ⟨_,rfl⟩
   ·exact ⟨_,rfl⟩
  exists cB (bN.of g6) ex ?_;have u36:=(u4.same s5).trans u6;have G6:=G3.upto u36 B3 mb hB.at;have u06:=u03.trans u36;clear ex mx g6 g5 G3 u4 u6;exists ⟨by lia,by lia,?_⟩;refine gW (n:=n) (ck K) (λ(j:Nat)=>(((if decide ((j:Int)=at')=true then 1 else 0:Int)):Rat)) (by lia) (λa b=>a.same b) ?_ ?_
  ·rintro j Hz NY2 NN2 hj sz k2;exists bU λt Hy sy gy=>?_
   exact k2 _ _ sy (ck.mk gy rfl)
  rintro ys7 H7 q7 hq7 s7 g7 pr7 _;have R7:cv K H7 q7 _:=⟨ys7,g7,pr7⟩;exists cW λp8 H8 s8 n8' g8=>?_
  have s68:=s7.trans s8;have q78:q7≠p8:=λz=>by rw[z,n8'] at g7;cases g7
  have np8:H p8=none:=u06.none B6 (s7.none n8');have nq7:H q7=none:=u06.none B6 hq7
  have GP:bJ K H H8 p8 [(List.range n).map λ(j:Nat)=>(((if decide ((j:Int)=at')=true then 1 else 0:Int)):Rat)]:=⟨_,g8,.cons ⟨q7,rfl,nq7,R7.same s8⟩ .nil,λz=>by
   rw[bB] at z;cases z;exact q78 rfl⟩
  have B8:=B6.same s68;have u08:=u06.same s68;have G8:=G6.same s68;have pb:p8≠b:=λz=>hB.at (by rw[<- z];exact np8)
  exists ⟨b,n,rfl,B8,by lia,by lia,λa2 H9 a20 a21 B9 u9=>?_⟩;exists cW λl2 Ha sa nl2 ga=>?_
  exists ⟨b,3,rfl,B9.same sa,by decide,by decide,λv' Hb v0' v1' Bb ub=>?_⟩;have gb:=ub.other (λz=>B9.at (by rw[<- z];exact nl2)) ga;obtain ⟨x,ex,mx,_⟩:=ky (xs:=[V.int 0,V.int 0,V.int a2]) v0' (by simpa using v1')
  obtain ⟨fi,rfl⟩:∃a:Int,x=.int a:=by
   simp only[aB,aU,or_false] at mx;rcases mx with rfl | rfl | rfl
   ·exact ⟨_,rfl⟩
   ·exact ⟨_,rfl⟩
   ·exact ⟨_,rfl⟩
  exists cB (bN.of gb) ex ?_;have u8b:=(u9.same sa).trans ub;have Gb:=G8.upto u8b B8 mb hB.at;have GPb:=GP.upto u8b B8 pb hB.at;have u0b:=u08.trans u8b;clear ex mx gb ga G8 GP u9 ub;exists ⟨by lia,by lia,?_⟩;refine gW (n:=n) (ck K) (λ(j:Nat)=>(((if decide ((j:Int)=fi)=true then 1 else 0:Int)):Rat)) (by lia) (λa b=>a.same b) ?_ ?_
  ·rintro j Hz NY2 NN2 hj sz k2;exists bU λt Hy sy gy=>?_
   exact k2 _ _ sy (ck.mk gy rfl)
  rintro ysc Hc qc hqc sc gc prc _;have Rc:cv K Hc qc _:=⟨ysc,gc,prc⟩;exists cW λpd Hd sd nd gd=>?_
  have sbd:=sc.trans sd;have qcd:qc≠pd:=λz=>by rw[z,nd] at gc;cases gc
  have npd:H pd=none:=u0b.none Bb (sc.none nd);have nqc:H qc=none:=u0b.none Bb hqc
  have GL:bJ K H Hd pd [(List.range n).map λ(j:Nat)=>(((if decide ((j:Int)=fi)=true then 1 else 0:Int)):Rat)]:=⟨_,gd,.cons ⟨qc,rfl,nqc,Rc.same sd⟩ .nil,λz=>by
   rw[bB] at z;cases z;exact qcd rfl⟩
  exists bU λr He se ge=>?_
  have sbe:=sbd.trans se;refine k r mv _ _ He ⟨mm,p8,pd,ge,hm,np8,npd,Gb.same sbe,GPb.same sbe,GL.same se⟩ lmv rfl rfl ⟨by lia,by simp,by simp,λxs hx=>by rw[(hmv xs hx).1,lmv],λxs hx=>?_,λxs hx=>?_⟩ (λxs hx=>(hmv xs hx).2) (λxs hx=>?_) (λxs hx=>?_) (Bb.same sbe) (u0b.same sbe)
  ·rw[bB.mp hx,ar,cK,lmv]
  ·rw[bB.mp hx,ar,cK,lmv]
  ·rw[bB.mp hx];exact bit
  ·rw[bB.mp hx];exact bit
theorem l9:bg ["_law_top","_law_bottom","_law_one","_law_other"] ["_law_top","_law_bottom"] (aN tU):=by walk_at "d"
theorem gG (T:Txt K mg Z):cI P w K mg base fM 1 Z.Ax Z.Al ["_law_top","_law_bottom"] N3:=by
 refine T.eU.F.ok l9 (λvs H Q E h=>?_) (λcdv A outer s H vs Q E hr h=>?_)
 ·obtain ⟨t,b,rfl,_⟩:=h;rfl
 ·obtain ⟨t,b,rfl,hb,hs,k⟩:=h
  refine ⟨_,(av (a8 (i:=2) l9.nd rfl (Or.inl rfl) (bA vC (by rfl) T.abs PyProof.Rows.boot_abs (ae (pv 0) ag)))
   (av (a8 (i:=3) l9.nd rfl (Or.inl rfl) (pv 1))
   (av (zJ PassesOwn.never (bx uM (pv 2) ao (bD _))
    (az (JZ (i:=2) (j:=3) rfl l9.nd rfl rfl (by decide) rfl rfl (ae (bH mW (pv 3) (pv 2)) (ae (pv 2) ag)) rfl)))
   (az (a7 (cN (ae (bH iQ (pv 0) (pv 3)) (ae (bH iQ (pv 1) (pv 3)) ag)))))))),?_⟩
  refine aV (σ:=[some (.int t),some (.int b),none,none]) rfl ?_;walk_at "w"
  refine Cu (λσ' H'=>∃(u v:Int),σ'=[some (.int t),some (.int b),some (.int u),some (.int v)]/\H'=H/\0<=u/\0 < v/\Int.gcd u v=Int.gcd t b) (λσ' _=>match σ' with | [_,_,some (.int u),_]=>u.natAbs | _=>0) ⟨_,b,rfl,rfl,by split <;> lia,hb,by
   split
   ·rw[Int.neg_gcd]
   ·rfl⟩ ?_
  rintro σ' H' ⟨u,v,rfl,rfl,hu,hv,hg⟩;exists fX (λh=>?_) (λh=>?_)
  ·have hu0:u≠0:=λz=>by subst z;simp at h
   exists fE (show (0:Int) < u by lia) ?_;walk_at "w";have h1:=kZ v hu0;have h2:=iV v (show 0 < u by lia);exact ⟨⟨v % u,u,rfl,rfl,h1,by lia,by rw[ko,KL,ko];exact hg⟩,by show (v % u).natAbs < u.natAbs;lia⟩
  ·have hu0:u=0:=by
    by_cases z:u=0
    ·exact z
    ·exfalso;apply h;simp [z]
   subst hu0
   have e:v=g t b:=by
    unfold g;rw[<- hg,Int.gcd_zero_left]
    lia
   have hgs:Sz 8999 v:=hs.le (by
    rw[e];have h1:(g t b).natAbs=Int.gcd t b:=by unfold g;simp
    rw[h1];exact fo (by lia) (by have:=fB (a:=t) (b:=b);exact dM.mpr this |> λz=>by simpa using z))
   exists fE (show nZ _ _ from ⟨by lia,hgs⟩) ?_;exists fE (show nZ _ _ from ⟨by lia,hgs⟩) ?_;exists bU λr H' s' h'=>?_
   rw[cz _ (by lia),cz _ (by lia),e] at h';exact k r H' s' h'
theorem El:bg ["_law_one","_law_other"] ["_law_one","_law_other"] (aN tS):=by walk_at "d"
theorem kr (T:Txt K mg Z):cI P w K mg base fM 2 Z.Av Z.Aj ["_law_one","_law_other"] (oq K (λx y=>x+y)):=by
 refine T.iu.F.ok El (λvs H Q E h=>?_) (λcdv A outer s H vs Q E hr h=>?_)
 ·obtain ⟨p,q,a,b,c,d,rfl,hp,hq,hb,hd,sa,sb,sc,sd,k⟩:=HM h;rfl
 ·obtain ⟨p,q,a,b,c,d,rfl,hp,hq,hb,hd,sa,sb,sc,sd,k⟩:=HM h;refine ⟨_,(az (a7 (cG (gG T) hr T.eU (ae (bH ff (bH cY (aY bM (pv 0) ao) (aY bM (pv 1) ao)) (bH cY (aY bM (pv 1) ao) (aY bM (pv 0) ao))) (ae (bH cY (aY bM (pv 0) ao) (aY bM (pv 1) ao)) ag))))),?_⟩;refine aV (σ:=[some (.ref p),some (.ref q)]) rfl ?_;have hbd:0 < b*d:=iT hb hd;have sbd:Sz 8999 (b*d):=(sb.mul sd).mono (by decide);exists fE (show gI _ _ from .inr ⟨_,_,sa,sd,by decide⟩) ?_;exists fE (show gI _ _ from .inr ⟨_,_,sc,sb,by decide⟩) ?_;exists fE (show gI _ _ from .inr ⟨_,_,sb,sd,by decide⟩) ?_;walk_at "w";exists ⟨_,_,rfl,hbd,sbd,k⟩
theorem CS:bg ["_law_one","_law_other"] ["_law_one","_law_other"] (aN qG):=by walk_at "d"
theorem uP (T:Txt K mg Z):cI P w K mg base fM 3 Z.ya Z.xH ["_law_one","_law_other"] (D8 K):=by
 refine T.kR.F.ok CS (λvs H Q E h=>?_) (λcdv A outer s H vs Q E hr h=>?_)
 ·obtain ⟨p,q,xs,ys,rfl,_⟩:=h;rfl
 ·obtain ⟨p,q,xs,ys,rfl,hp,hq,hl,hz,h1,h2,kk⟩:=h;refine ⟨_,(az (a7 (cA ["_law_k"] ["_law_one","_law_other"] [0,1] (cw rfl T.range (ae (bA aX (by rfl) T.len aR (ae (pv 0) ag)) ag)) (λ_=>(aT (i:=0) (show ND9 ["_law_k","_law_one","_law_other"] by decide +kernel))) (λ_=>cC) (λ_=>(cG (kr T) hr T.iu (ae (aY (fW K (by rfl)) (pv 1) (pv 0)) (ae (aY (fW K (by rfl)) (pv 2) (pv 0)) ag))))))),?_⟩;refine aV (σ:=[some (.ref p),some (.ref q)]) rfl ?_;obtain ⟨us,gu,qu⟩:=id hp;obtain ⟨ws,gw,qw⟩:=id hq;have lu:=qu.length;exists ⟨_,_,rfl,.inl (bN.of gu),?_⟩;exists ⟨by lia,by lia,?_⟩;refine gW (n:=us.length) (ck K) (λi=>xs.getD i 0+ys.getD i 0) (by lia) (λa b=>a.same b) ?_ ?_
  ·rintro i H' NY NN hi s k1;have ix:i < xs.length:=by lia
   have iy:i < ys.length:=by lia
   obtain ⟨vx,ex,nx⟩:=EL (Paired.imp' (λ_ _ z=>z.same s) qu) ix;obtain ⟨vy,ey,ny⟩:=EL (Paired.imp' (λ_ _ z=>z.same s) qw) iy;exists cB (bN.of (s _ _ gu)) ex ?_;exists cB (bN.of (s _ _ gw)) ey ?_;exists ⟨_,_,_,_,rfl,nx,ny,h1 _ (getD_mem ix),h2 _ (getD_mem iy),λr3 H3 s3 n3=>k1 _ _ s3 n3⟩
  ·rintro ys' H' l hl' s g pr nx;exact kk l H' hl' s ⟨ys',g,by rw[A4 (by lia)];rw[<- lu] at pr;exact pr⟩
theorem CQ:bg ["_law_one","_law_other"] ["_law_one","_law_other"] (aN qF):=by walk_at "d"
theorem kO (T:Txt K mg Z):cI P w K mg base fM 2 Z.xZ Z.xG ["_law_one","_law_other"] (oq K (λx y=>x*y)):=by
 refine T.iH.F.ok CQ (λvs H Q E h=>?_) (λcdv A outer s H vs Q E hr h=>?_)
 ·obtain ⟨p,q,a,b,c,d,rfl,hp,hq,hb,hd,sa,sb,sc,sd,k⟩:=GN h;rfl
 ·obtain ⟨p,q,a,b,c,d,rfl,hp,hq,hb,hd,sa,sb,sc,sd,k⟩:=GN h;refine ⟨_,(az (a7 (cG (gG T) hr T.eU (ae (bH cY (aY bM (pv 0) ao) (aY bM (pv 1) ao)) (ae (bH cY (aY bM (pv 0) ao) (aY bM (pv 1) ao)) ag))))),?_⟩;refine aV (σ:=[some (.ref p),some (.ref q)]) rfl ?_;have hbd:0 < b*d:=iT hb hd;have sbd:Sz 8999 (b*d):=(sb.mul sd).mono (by decide);exists fE (show gI _ _ from .inr ⟨_,_,sa,sc,by decide⟩) ?_;exists fE (show gI _ _ from .inr ⟨_,_,sb,sd,by decide⟩) ?_;walk_at "w";exists ⟨_,_,rfl,hbd,sbd,k⟩
theorem Fs:bg ["_law_by_here","_law_row_here"] ["_law_by_here","_law_row_here"] (aN wH):=by walk_at "d"
theorem lH (T:Txt K mg Z):cI P w K mg base fM 3 Z.Ck Z.BR ["_law_by_here","_law_row_here"] (JE K):=by
 refine T.jb.F.ok Fs (λvs H Q E h=>?_) (λcdv A outer s H vs Q E hr h=>?_)
 ·obtain ⟨u,q,c,ys,rfl,_⟩:=h;rfl
 ·obtain ⟨u,q,c,ys,rfl,hc,sc,hq,hz,h2,kk⟩:=h;refine ⟨_,(az (a7 (cA ["_law_one"] ["_law_by_here"] [0] (cE (pv 1)) (λ_=>(aT (i:=0) (show ND9 ["_law_one","_law_by_here"] by decide +kernel))) (λ_=>cC) (λ_=>(cG (kO T) hr T.iH (ae (pv 1) (ae (pv 0) ag))))))),?_⟩;refine aV (σ:=[some u,some (.ref q)]) rfl ?_;obtain ⟨us,gu,qu⟩:=id hq;exists ⟨⟨_,bN.of gu⟩,?_⟩;refine dJ (K:=K) (F:=ck K) (ck K) (λy=>c*y) gu qu hz (λa b=>a.same b) (λa b=>a.same b) ?_ ?_
  ·rintro i y x H' NY NN en s hx k;exists ⟨_,_,_,_,rfl,hc.same s,hx,sc,h2 y (ax en),λr H2 s2 h2'=>k _ _ s2 h2'⟩
  ·rintro ys' H' r hr s g pr nx;exact kk r H' hr s ⟨ys',g,pr⟩
theorem d5:bg ["_law_bag_here","_law_move_here","_law_put","_law_look","_law_n","_law_turn","_law_i","_law_j","_law_by_here","_law_less_here","_law_row_here"] ["_law_bag_here","_law_move_here","_law_put","_law_look"] (aN oH):=by walk_at "d"
theorem sL (T:Txt K mg Z):cI P w K mg base fM 4 Z.vM Z.vv ["_law_bag_here","_law_move_here","_law_put","_law_look"] (Bm K):=by
 refine T.j8.F.ok d5 (λvs H Q E h=>?_) (λcdv A outer s H vs Q E hr h=>?_)
 ·obtain ⟨b,m,p,l,q0,n,WV,μ,A,us,ws,vs,rfl,_⟩:=h;rfl
 ·obtain ⟨b,m,p,l,q0,n,WV,μ,A,us,ws,vs,rfl,MA,X,n8,i4,o4,M0,M1,⟨M,eM⟩,V1,hA,k⟩:=h
  refine ⟨_,(av (a8 (i:=4) d5.nd rfl (Or.inl rfl) (bA aX (by rfl) T.len aR (ae (pv 1) ag)))
   (av (cP (PW.pt (nJ (bx qU (pv 4) ao (bD _)) (kF (bx eJ (cG (be T) hr T.aW (ae (pv 0) (ae ao ag))) ao (bD _))))) (az (a7 (cN (ae (pv 1) (ae (pv 2) (ae (pv 3) ag)))))) bO)
   (av (dO PassesOwn.never rfl (cw rfl T.range (ae (bH ff ao (cG (be T) hr T.aW (ae (pv 0) (ae ao ag)))) ag)) (aT (i:=5) d5.nd)
    (av (a8 (i:=6) d5.nd rfl (Or.inl rfl) (cG (be T) hr T.aW (ae (pv 0) (ae (pv 4) ag))))
   (av (a8 (i:=7) d5.nd rfl (Or.inl rfl) (bH mW (bH ff (bH ff (pv 6) ao) (cG (be T) hr T.aW (ae (pv 0) (ae (bH i5 (pv 4) ao) ag)))) (pv 4)))
   (av (a8 (i:=8) d5.nd rfl (Or.inl rfl) (cN (ae (aY bS (df (ae ao (ae (xm pW ao) (ae ao (ae (xm pW ao) ag))))) (cG (be T) hr T.aW (ae (pv 0) (ae ao ag)))) (ae ao ag))))
   (av (a8 (i:=9) d5.nd rfl (Or.inl rfl) (cN (ae (bH i5 ao (aY bM (pv 8) ao)) (ae ao ag))))
   (av (fF (cG (uP T) hr T.kR (ae (aY bS (pv 1) (pv 6)) (ae (cG (lH T) hr T.jb (ae (pv 8) (ae (aY bS (pv 1) (pv 7)) ag))) ag))) (gX (pv 1) (pv 6) set_list))
   (av (dO PassesOwn.never rfl (cE (bH i8 (pv 1) (pv 3))) (aT (i:=10) d5.nd)
    (az (fF (cG (kr T) hr T.iu (ae (aY bS (pv 10) (pv 7)) (ae (cG (kO T) hr T.iH (ae (pv 9) (ae (aY bS (pv 10) (pv 6)) ag))) ag))) (gX (pv 10) (pv 7) set_list))))
   (az (dO PassesOwn.never rfl (cE (pv 2)) (aT (i:=10) d5.nd)
    (az (fF (cG (kr T) hr T.iu (ae (aY bS (pv 10) (pv 6)) (ae (cG (kO T) hr T.iH (ae (pv 8) (ae (aY bS (pv 10) (pv 7)) ag))) ag))) (gX (pv 10) (pv 6) set_list))))))))))))
   (az (a7 (cN (ae (pv 1) (ae (pv 2) (ae (pv 3) ag))))))))),?_⟩
  refine aV (σ:=[some (.ref b),some (.ref m),some (.ref p),some (.ref l),none,none,none,none,none,none,none]) rfl ?_;have done:∀r us' H' t,t<=3->H' r=some (.tup [.ref m,.ref p,.ref l])->jI K A H' n (λx=>Fr (μ x) (9^t*WV)) m p l b q0 us' ws vs->iL A b m H H'->Q (.ref r) H':=λr us' H' t ht g x kp=>k r us' H' g (x.weak λ_ _ y h=>h.mono (ay _ (au (by decide) ht))) kp
  have X0:jI K A H n (λx=>Fr (μ x) (9^0*WV)) m p l b q0 us ws vs:=X.weak λ_ _ y h=>h.mono (by simp)
  clear X k;have gu:=X0.gm;have lu:=X0.lm;exists ⟨_,_,rfl,.inl (bN.of gu),?_⟩;rw[lu];clear gu lu;have kp0:iL A b m H H:=λ_ _ h _ _ _=>h
  exists fX (λh0=>?_) (λh0=>?_)
  ·exists bU λr H' s' g'=>?_
   exact done r us H' 0 (by decide) g' (X0.same s') (kp0.same s')
  have n2:2<=n:=by
   rcases cb n 2 with z | z
   ·exact absurd (decide_eq_true (show (n:Int) < 2 by lia)) h0
   ·exact z
  exists ⟨b,2,rfl,X0.bag,by decide,by decide,λv H1 v0 v1 B1 u1=>?_⟩;have X1:=X0.upto MA u1 B1;have kp1:=kp0.upto u1;exists fX (λh1=>?_) (λh1=>?_)
  ·exists bU λr H' s' g'=>?_
   exact done r us H' 0 (by decide) g' (X1.same s') (kp1.same s')
  exists ⟨b,3,rfl,B1,by decide,by decide,λc H2 c0 c1 B2 u2=>?_⟩;have X2:=X1.upto MA u2 B2;have kp2:=kp1.upto u2;clear X0 X1 kp0 kp1 u1 u2 B1;exists ⟨by lia,by lia,?_⟩;refine eG (n:=(1+c).toNat) (λt σ' H'=>∃(x1 x2 x3 x4 x5 x6:Option V) (us:List V),σ'=[some (.ref b),some (.ref m),some (.ref p),some (.ref l),some (.int n),x1,x2,x3,x4,x5,x6]/\jI K A H' n (λx=>Fr (μ x) (9^t*WV)) m p l b q0 us ws vs/\iL A b m H H') ⟨none,none,none,none,none,none,us,rfl,X2,kp2⟩ ?_ ?_
  ·rintro t σ' H' ht ⟨x1,x2,x3,x4,x5,x6,us,rfl,X,kp⟩;have t3:t<=2:=by lia
   exists ⟨b,n,rfl,X.bag,by lia,by lia,λii Ha i0 i1 Ba ua=>?_⟩;obtain ⟨ii,rfl⟩:=bX i0;have Xa:=X.upto MA ua Ba;have kpa:=kp.upto ua;exists ⟨b,_,rfl,Ba,by lia,by lia,λd Hb d0 d1 Bb ub=>?_⟩;have Xb:=Xa.upto MA ub Bb;have kpb:=kpa.upto ub;exists fE (show (0:Int) < n by lia) ?_;have j0:=kZ ((ii:Int)+1+d) (show (n:Int)≠0 by lia);have j1:=iV ((ii:Int)+1+d) (show (0:Int) < n by lia);generalize ((ii:Int)+1+d) % (n:Int)=jj at j0 j1 ⊢;obtain ⟨jj,rfl⟩:=bX j0;exists cW λl0 Hc sc nc gc=>?_
   exists ⟨b,4,rfl,Bb.same sc,by decide,by decide,λv' Hd v0' v1' Bd ud=>?_⟩;have gd:=ud.other (λz=>Bb.at (by rw[<- z];exact nc)) gc;obtain ⟨x,ex,mx,_⟩:=ky (xs:=[V.int 1,V.int (-1),V.int 2,V.int (-2)]) v0' (by simpa using v1')
   obtain ⟨z,rfl,hz⟩:∃z:Int,x=.int z/\z.natAbs<=2:=by
    simp only[aB,aU,or_false] at mx;rcases mx with rfl | rfl | rfl | rfl
    ·exact ⟨1,rfl,by decide⟩
    ·exact ⟨-1,rfl,by decide⟩
    ·exact ⟨2,rfl,by decide⟩
    ·exact ⟨-2,rfl,by decide⟩
   have Xd:=(Xb.same sc).upto MA ud Bd;have kpd:=(kpb.same sc).upto ud;exists cB (bN.of gd) ex ?_;exists bU λbt He se ge=>?_
   exists bU λlt Hf sf gf=>?_
   have Xf:=(Xd.same se).same sf;have kpf:=(kpd.same se).same sf;have nb:ck K Hf ((z:Int):Rat) (.ref bt):=ck.mk (sf _ _ ge) rfl;have nl:ck K Hf ((0 - z:Int):Rat) (.ref lt):=ck.mk gf rfl;clear X Xa Xb Xd kp kpa kpb kpd ua ub ud sc gc gd ex mx ge gf se sf Ba Bb Bd nc;have gu:=Xf.gm;have lu:=Xf.lm
   have ru:∀x∈us,fK K A Hf n (Fr M (9^t*WV)) x:=λx hx=>by
    have:=Xf.row x (by simp [hx]);rwa [eM x (Xf.apart.1 x hx).1 (Xf.apart.1 x hx).2] at this
   have hM:0 < M/\M<=2^800:=by
    have hx:us[ii]'(by lia)∈us:=aP _;have:=eM _ (Xf.apart.1 _ hx).1 (Xf.apart.1 _ hx).2;rw[<- this];exact ⟨M0 _,M1 _⟩
   have e1:us[ii]?=some (us[ii]'(by lia)):=by simp
   have e2:us[jj]?=some (us[jj]'(by lia)):=by simp
   obtain ⟨q1,z1,qs1,w1,a1,g1,k1,p1,l1,c1⟩:=(ru _ (ax e1)).at;obtain ⟨q2,z2,qs2,w2,a2,g2,k2,p2,l2,c2⟩:=(ru _ (ax e2)).at;rw[w1] at e1;rw[w2] at e2;generalize eW:9^t*WV=W at *
   have W9:9*W<=2^140:=by rw[<- eW];exact Mr (by lia) V1 (by decide)
   have sz9M:∀{x:Rat} {U:Nat},U<=9*W->Fr M U x->kK x:=λhU h=>Hq hM.1 hM.2 (ai hU W9) h
   have sz9:∀{x:Rat} {U:Nat} {v:V},U<=9*W->Fr (μ v) U x->kK x:=λhU h=>Hq (M0 _) (M1 _) (ai hU W9) h
   exists cB (bN.of gu) (fL e1) ?_;exists cB (bN.of gu) (fL e2) ?_;exists ⟨_,q2,_,qs2,rfl,nb,Cz (by lia),⟨z2,g2,p2⟩,by lia,λy hy=>sz9M (by lia) (c2 y hy),λr1 Hg n1 sg R1=>?_⟩;exists ⟨q1,r1,qs1,_,rfl,⟨z1,sg _ _ g1,Paired.imp' (λ_ _ y=>y.same sg) p1⟩,R1,by rw[ar,l1,l2],by lia,λy hy=>sz9M (by lia) (c1 y hy),λy hy=>?_,λr2 Hh n2' sh R2=>?_⟩
   ·obtain ⟨y',hy',rfl⟩:=aD.mp hy;exact yX hz (c2 y' hy') hM.1 hM.2 (by lia)
   have sfh:=sg.trans sh
   have new:V.ref r2∉us++vs++ws:=λz=>by
    obtain ⟨q',_,_,e',_,g',_⟩:=((Xf.same sg).row _ z).at;cases e';rw[n2'] at g';cases g'
   have Xh:=(Xf.same sfh).weak (C':=λx y=>(x∈ws->Fr (μ x) W y)/\Fr (μ x) (3*W) y) λx _ y h=>⟨λ_=>h,h.mono (by lia)⟩
   have kph:=kpf.same sfh;have guh:=sfh _ _ gu;have ar2:A r2:=(kpf.same sg).new hA (Xf.same sg).bag (by rw[sg _ _ gu];simp) n2'
   have rp2:fK K A Hh n (λy=>(V.ref r2∈ws->Fr (μ (.ref r2)) W y)/\Fr (μ (.ref r2)) (3*W) y) (.ref r2):=by
    rw[eM (.ref r2) (λz=>new (aw.mpr (.inr z))) (λz=>new (aw.mpr (.inl (aw.mpr (.inr z)))))];refine ⟨r2,_,rfl,ar2,R2,by rw[cD,ar];lia,λy hy=>⟨λz=>absurd (aw.mpr (.inr z)) new,?_⟩⟩;obtain ⟨j',hj',e⟩:=bK hy;rw[ib,yw] at e;rw[<- e];exact Dy hz (c1 _ (aP _)) (c2 _ (aP _))
   exists fj guh (fv (by lia)) rfl ?_;have Xi:=Xh.set MA rp2 new ii;have kpi:=kph.upd (o:=.lst (us.set ii (.ref r2))) (q:=m) (.inr rfl);have nli:ck K (upd Hh m (.lst (us.set ii (.ref r2)))) ((0 - z:Int):Rat) (.ref lt):=(nl.same sfh).updL guh;have nbi:ck K (upd Hh m (.lst (us.set ii (.ref r2)))) ((z:Int):Rat) (.ref bt):=(nb.same sfh).updL guh;generalize upd Hh m (.lst (us.set ii (.ref r2)))=Hi at Xi kpi nli nbi ⊢;generalize us.set ii (.ref r2)=um at Xi;clear nb nl Xf kpf gu ru e1 e2 g1 p1 g2 p2 R1 R2 Xh kph guh rp2 sg sh sfh new;have gm:=Xi.gm;have lm:=Xi.lm;have gl:=Xi.gl;have nd:=Xi.nd;obtain ⟨nd1,nd2,nd3⟩:=dH.mp nd;exists iX gm gl (aZ (bC (by lia))) λcl Hj sj nj gj=>?_
   have kpj:=kpi.same sj
   have rows:∀x∈um++vs,∀q,x=V.ref q->q≠cl:=λx hx q e y=>by
    obtain ⟨q',zs,_,e',_,g',_⟩:=(Xi.row x (aw.mpr (.inl hx))).at;rw[e] at e';cases e';rw[y,nj] at g';cases g'
   have Xj:=(Xi.same sj).weak (C':=λx y=>(x∈ws->Fr (μ x) W y)/\(x∈(um++vs).drop 0->Fr (μ x) (3*W) y)/\Fr (μ x) (9*W) y) λx _ y h=>⟨h.1,λ_=>h.2,h.2.mono (by lia)⟩
   have lj:ck K Hj ((0 - z:Int):Rat) (.ref lt):=nli.same sj;have bj:ck K Hj ((z:Int):Rat) (.ref bt):=nbi.same sj;clear Xi kpi nli nbi;refine ⟨_,rfl,⟨_,bN.of gj⟩,?_⟩;refine fY (K:=K) (a:=cl) (xs:=um++vs) (λs σ' H'=>∃x6:Option V,σ'=[some (.ref b),some (.ref m),some (.ref p),some (.ref l),some (.int n),some (.int t),some (.int ii),some (.int jj),some (.ref bt),some (.ref lt),x6]/\jI K A H' n (λx y=>(x∈ws->Fr (μ x) W y)/\(x∈(um++vs).drop s->Fr (μ x) (3*W) y)/\Fr (μ x) (9*W) y) m p l b q0 um ws vs/\iL A b m H H'/\H' cl=some (.lst (um++vs))/\ck K H' ((0 - z:Int):Rat) (.ref lt)/\ck K H' ((z:Int):Rat) (.ref bt)) ⟨_,rfl,Xj,kpj,gj,lj,bj⟩ (λs σ' H' _ ⟨_,_,_,_,e,_⟩=>bN.of e) ?_ ?_
   ·rintro s x σ' Hk hx ⟨y6,rfl,Xk,kpk,gk,lk,bk⟩;have hs:s < (um++vs).length:=(aE.mp hx).1;have mx:=ax hx
    have xd:x∈(um++vs).drop s:=by
     rw[eQ hs,(aE.mp hx).2];exact .head _
    have xd2:x∉(um++vs).drop (s+1):=λz=>by
     have:=nd1.sublist (List.drop_sublist s _);rw[eQ hs,eO,(aE.mp hx).2] at this;exact this.1 z
    have xw:x∉ws:=λz=>nd3 x mx x z rfl
    have rx:=Xk.row x (aw.mpr (.inl mx));obtain ⟨q,zs,qs,rfl,aq,gq,lq,pq,lq2,cq⟩:=rx.at;have qcl:=rows _ mx q rfl;obtain ⟨vj,ej,nj'⟩:=EL pq (j:=jj) (by lia);obtain ⟨vi,ei,ni'⟩:=EL pq (j:=ii) (by lia);have cj:=(cq _ (getD_mem (xs:=qs) (i:=jj) (by lia))).2.1 xd;have ci:=(cq _ (getD_mem (xs:=qs) (i:=ii) (by lia))).2.1 xd;exists cB (bN.of gq) ej ?_;exists cB (bN.of gq) ei ?_;exists ⟨_,_,_,_,rfl,lk,ni',Cz (by lia),sz9 (by lia) ci,λr3 Hl sl n3=>?_⟩;exists ⟨_,_,_,_,rfl,nj'.same sl,n3,sz9 (by lia) cj,yX (by lia) ci (M0 _) (M1 _) (by lia),λr4 Hm sm n4=>?_⟩;have slm:=sl.trans sm;exists fj (slm _ _ gq) (fv (by lia)) rfl ?_;refine ⟨_,rfl,?_,(kpk.same slm).upd (.inl aq),by rw[bG qcl.symm];exact slm _ _ gk,(lk.same slm).updL (slm _ _ gq),(bk.same slm).updL (slm _ _ gq)⟩;refine ((Xk.same slm).weak λx' _ y h=>⟨h.1,λz=>h.2.1 ?_,h.2.2⟩).put MA aq (slm _ _ gq) n4 ⟨λz=>absurd z xw,λz=>absurd z xd2,?_⟩ jj
    ·rw[eQ hs];exact .tail _ z
    ·exact (Dy (by lia) cj ci).mono (by lia)
   ·rintro σ' Hk ⟨y6,rfl,Xk,kpk,gk,lk,bk⟩;have gp:=Xk.gp;have Xk2:=Xk.weak (C':=λx y=>(x∈ws.drop 0->Fr (μ x) W y)/\Fr (μ x) (9*W) y) λx _ y h=>⟨λz=>h.1 (by simpa using z),h.2.2⟩
    clear Xk;exists ⟨⟨_,bN.of gp⟩,?_⟩;refine fY (K:=K) (a:=p) (xs:=ws) (λs σ' H'=>∃x6:Option V,σ'=[some (.ref b),some (.ref m),some (.ref p),some (.ref l),some (.int n),some (.int t),some (.int ii),some (.int jj),some (.ref bt),some (.ref lt),x6]/\jI K A H' n (λx y=>(x∈ws.drop s->Fr (μ x) W y)/\Fr (μ x) (9*W) y) m p l b q0 um ws vs/\iL A b m H H'/\ck K H' ((z:Int):Rat) (.ref bt)) ⟨_,rfl,Xk2,kpk,bk⟩ (λs σ' H' _ ⟨_,_,X,_⟩=>bN.of X.gp) ?_ ?_
    ·rintro s x σ' Hl hx ⟨w6,rfl,Xl,kpl,bl⟩;have hs:s < ws.length:=(aE.mp hx).1;have mx:=ax hx
     have xd:x∈ws.drop s:=by
      rw[eQ hs,(aE.mp hx).2];exact .head _
     have xd2:x∉ws.drop (s+1):=λz=>by
      have:=nd2.sublist (List.drop_sublist s _);rw[eQ hs,eO,(aE.mp hx).2] at this;exact this.1 z
     have rx:=Xl.row x (aw.mpr (.inr mx));obtain ⟨q,zs,qs,rfl,aq,gq,lq,pq,lq2,cq⟩:=rx.at;obtain ⟨vj,ej,nj'⟩:=EL pq (j:=jj) (by lia);obtain ⟨vi,ei,ni'⟩:=EL pq (j:=ii) (by lia);have cj:=(cq _ (getD_mem (xs:=qs) (i:=jj) (by lia))).1 xd;have ci:=(cq _ (getD_mem (xs:=qs) (i:=ii) (by lia))).1 xd;exists cB (bN.of gq) ei ?_;exists cB (bN.of gq) ej ?_;exists ⟨_,_,_,_,rfl,bl,nj',Cz (by lia),sz9 (by lia) cj,λr3 Hm sm n3=>?_⟩;exists ⟨_,_,_,_,rfl,ni'.same sm,n3,sz9 (by lia) ci,yX (by lia) cj (M0 _) (M1 _) (by lia),λr4 Hn sn n4=>?_⟩;have smn:=sm.trans sn;exists fj (smn _ _ gq) (fv (by lia)) rfl ?_;refine ⟨_,rfl,?_,(kpl.same smn).upd (.inl aq),(bl.same smn).updL (smn _ _ gq)⟩;refine ((Xl.same smn).weak λx' _ y h=>⟨λz=>h.1 ?_,h.2⟩).put MA aq (smn _ _ gq) n4 ⟨λz=>absurd z xd2,?_⟩ ii
     ·rw[eQ hs];exact .tail _ z
     ·exact (Dy (by lia) ci cj).mono (by lia)
    ·rintro σ' Hl ⟨w6,rfl,Xl,kpl,bl⟩;refine ⟨_,_,_,_,_,_,um,rfl,Xl.weak λ_ _ y h=>h.2.mono ?_,kpl⟩;rw[<- eW,dC,bQ (9^t) 9,b9];exact aj _
  ·rintro σ' H' ⟨x1,x2,x3,x4,x5,x6,us',rfl,X,kp⟩;exists bU λr H2' s' g'=>?_
   exact done r us' H2' _ (by lia) g' (X.same s') (kp.same s')
theorem dG:bg ["_law_bag_here","_law_one","_law_other","_law_ahead","_law_behind","_law_found","_law_k"] ["_law_bag_here"] (aN jO):=by walk_at "d"
theorem uO (T:Txt K mg Z):cI P w K mg base fM 5 Z.nV Z.nP ["_law_bag_here"] (LH K):=by
 refine T.jA.F.ok dG (λvs H Q E h=>?_) (λcdv A outer s H vs Q E hr h=>?_)
 ·obtain ⟨b,rfl,_⟩:=h;rfl
 ·obtain ⟨b,rfl,hB,k⟩:=h
  refine ⟨_,(av (a8 (i:=1) dG.nd rfl (Or.inl rfl) (cG (oO T) hr T.jB (ae (pv 0) (ae ao ag))))
   (av (a8 (i:=2) dG.nd rfl (Or.inl rfl) (cG (oO T) hr T.jB (ae (pv 0) (ae (bH ff ao (cG (be T) hr T.aW (ae (pv 0) (ae ao ag)))) ag))))
   (av (a8 (i:=3) dG.nd rfl (Or.inr rfl) (bH J9 (df (ae (cN (ae ao (ae ao ag))) ag)) ao))
   (av (a8 (i:=4) dG.nd rfl (Or.inr rfl) (bH J9 (df (ae (cN (ae ao (ae ao ag))) ag)) (bA aX (by rfl) T.len aR (ae (aY bM (pv 2) ao) ag))))
   (av (a8 (i:=5) dG.nd rfl (Or.inl rfl) (df ag))
   (av (dO PassesOwn.never rfl (cw rfl T.range (ae ao ag)) (aT (i:=6) dG.nd)
    (az (hZ (sG cM c6 c5 jg (pv 5) (ae (bH i8 (cA ["_law_row_here"] ["_law_behind"] [4] (cE (aY bM (pv 1) (pv 6))) (λ_=>(aT (i:=0) (show ND9 ["_law_row_here","_law_behind"] by decide +kernel))) (λ_=>cC) (λ_=>(bH i8 (pv 0) (pv 1)))) (cA ["_law_row_here"] ["_law_ahead"] [3] (cE (aY bM (pv 2) (pv 6))) (λ_=>(aT (i:=0) (show ND9 ["_law_row_here","_law_ahead"] by decide +kernel))) (λ_=>cC) (λ_=>(bH i8 (pv 1) (pv 0))))) ag)))))
   (az (a7 (cG (sL T) hr T.j8 (ae (pv 0) (ae (aY bS (pv 5) ao) (ae (aY bS (pv 5) ao) (ae (aY bS (pv 5) ao) ag))))))))))))),?_⟩
  refine aV (σ:=[some (.ref b),none,none,none,none,none,none]) rfl ?_;obtain ⟨q0,I0,xq,gq0⟩:=hB.inner;exists ⟨b,3,rfl,hB,by decide,by decide,λr1 mv1 pt1 lk1 H1 P1 lm1 lp1 ll1 D1 fm1 fp1 fl1 B1 u1=>?_⟩;exists ⟨b,3,rfl,B1,by decide,by decide,λv H2 v0 v1 B2 u2=>?_⟩;obtain ⟨v,rfl⟩:=bX v0;have u02:=u1.trans u2;walk_at "w";rw[show ((3:Int)+(v:Int))=((3+v:Nat):Int) by lia];refine ⟨b,3+v,rfl,B2,by lia,by lia,λr2 mv2 pt2 lk2 H3 P2 lm2 lp2 ll2 D2 fm2 fp2 fl2 B3 u3=>?_⟩;have u03:=u02.trans u3;have P1c:=(P1.upto (u2.trans u3) B1 hB.at);have P2c:eh K H H3 r2 mv2 pt2 lk2:=P2.weak λq h=>u02.none B2 h
  exists bU λt0 H4 s4 g4=>?_
  exists cW λa1 H5 s5 n5 g5=>?_
  exists JR (k:=3) g5 (by decide) λah H6 s6 n6 g6=>?_
  have s36:=(s4.trans s5).trans s6;obtain ⟨m1,p1,l1,gt1,m1n,p1n,l1n,Gm1,Gp1,Gl1⟩:=P1c.same s36;obtain ⟨m2,p2,l2,gt2,m2n,p2n,l2n,Gm2,Gp2,Gl2⟩:=P2c.same s36;have N0:ck K H6 0 (V.ref t0):=ck.mk (q:=0) ((s5.trans s6) _ _ g4) rfl;exists bU λt1 H7 s7 g7=>?_
  exists cW λa2 H8 s8 n8' g8=>?_
  have s68:=s7.trans s8;have gt2':=s68 _ _ gt2;obtain ⟨um2,gm2,qm2,_⟩:=id (Gm2.same s68);have lum2:=qm2.length;exists ⟨_,_,rfl,.inl (bN.of gm2),?_⟩;rw[<- lum2,lm2];exists JR (k:=3+v) g8 (by lia) λbh H9 s9 n9 g9=>?_
  have s69:=s68.trans s9;have s39:=s36.trans s69;have N1:ck K H9 0 (V.ref t1):=ck.mk (q:=0) ((s8.trans s9) _ _ g7) rfl;have u09:=u03.same s39;have B9:=B3.same s39;have g6':=s69 _ _ g6;have N0':=N0.same s69;exists cW λfd H10 s10 n10 g10=>?_
  have X1:∀i:Nat,i < 3->∃q1 R1 q2 R2,[V.ref m1,V.ref p1,V.ref l1][i]?=some (V.ref q1)/\bJ K H H9 q1 R1/\(∀xs∈R1,xs.length=3/\∀y∈xs,Fr 1 1 y)/\[V.ref m2,V.ref p2,V.ref l2][i]?=some (V.ref q2)/\bJ K H H9 q2 R2/\(∀xs∈R2,xs.length=3+v/\∀y∈xs,Fr 1 1 y)/\R1.length<=100/\R2.length<=100/\[6+v,2,2][i]?=some (R1.length+R2.length):=λi hi=>by
   rcases (show i=0\/i=1\/i=2 by lia) with rfl | rfl | rfl
   ·exact ⟨m1,mv1,m2,mv2,rfl,Gm1.same s69,λxs hx=>⟨by rw[D1.mw xs hx,lm1],fm1 xs hx⟩,rfl,Gm2.same s69,λxs hx=>⟨by rw[D2.mw xs hx,lm2],fm2 xs hx⟩,by lia,by lia,by rw[lm1,lm2,show 3+(3+v)=6+v by lia];rfl⟩
   ·exact ⟨p1,pt1,p2,pt2,rfl,Gp1.same s69,λxs hx=>⟨by rw[D1.pw xs hx,lm1],fp1 xs hx⟩,rfl,Gp2.same s69,λxs hx=>⟨by rw[D2.pw xs hx,lm2],fp2 xs hx⟩,by lia,by lia,by rw[lp1,lp2];rfl⟩
   ·exact ⟨l1,lk1,l2,lk2,rfl,Gl1.same s69,λxs hx=>⟨by rw[D1.lw xs hx,lm1],fl1 xs hx⟩,rfl,Gl2.same s69,λxs hx=>⟨by rw[D2.lw xs hx,lm2],fl2 xs hx⟩,by lia,by lia,by rw[ll1,ll2];rfl⟩
  exists ⟨by decide,by decide,?_⟩;refine eG (n:=3) (λi σ' H'=>aG H9 H'/\∃x6 L,σ'=[some (.ref b),some (.ref r1),some (.ref r2),some (.ref ah),some (.ref bh),some (.ref fd),x6]/\Q4 K H9 H' (6+v) fd L/\L.length=i/\∀(j:Nat) (e:Addr×List V),L[j]?=some e->[6+v,2,2][j]?=some e.2.length) ⟨s10,none,[],rfl,⟨g10,n10,(λ_ z=>nomatch z),mH,(λ_ z=>nomatch z),mH⟩,rfl,λj e h=>by simp at h⟩ ?_ ?_
  ·rintro i σ' H' hi ⟨s',x6,L,rfl,T,lL,hL⟩;obtain ⟨q1,R1,q2,R2,e1,G1,w1,e2,G2,w2,b1,b2,hlen⟩:=X1 i hi;have gt1':=s' _ _ (s69 _ _ gt1);have gt2'':=s' _ _ (s69 _ _ gt2);obtain ⟨ux1,gx1,qx1,_⟩:=id (G1.same s');have gb:=s' _ _ g9;have ga:=s' _ _ g6';exists ⟨.inl ⟨rfl,_,bN.of T.gf⟩,?_⟩;exists Fz (jl.of gt1') (fL e1) ?_;exists ⟨⟨_,bN.of gx1⟩,?_⟩;refine BV (K:=K) (F:=c4 K H) (λH'' c x=>∃q,x=V.ref q/\cv K H'' q c) (λr=>r++List.replicate (3+v) 0) gx1 qx1 (by lia) (λa b=>a.same b) (λa b=>by obtain ⟨q,e,r⟩:=a;exact ⟨q,e,r.same b⟩) (λa=>by obtain ⟨q,e,_,gg,_⟩:=a;exact ⟨q,e,by rw[gg];exact λz=>nomatch z⟩) ?_ ?_
   ·rintro j ns x Hi NY NN en si ⟨q,rfl,_,zs,gz,qz⟩ k1;have ws:=(w1 ns (ax en)).1;have lz:=qz.length;exists iX gz (si _ _ gb) (aZ (bC (by rw[aO];lia))) λc Hj sj nj gj=>?_
    exact k1 _ _ sj ⟨c,rfl,_,gj,bP (Paired.imp' (λ_ _ z=>z.same sj) qz) (uc (((N1.same s').same si).same sj) _)⟩ ⟨c,rfl,nj⟩
   rintro ys1 Ha c1 hc1 sa ga1 nd1 ne1 pr1;obtain ⟨ux2,gx2,qx2,_⟩:=id ((G2.same s').same sa);have gt2a:=sa _ _ gt2'';exists Fz (jl.of gt2a) (fL e2) ?_;exists ⟨⟨_,bN.of gx2⟩,?_⟩;refine BV (K:=K) (F:=c4 K H) (λH'' c x=>∃q,x=V.ref q/\cv K H'' q c) (λr=>List.replicate 3 0++r) gx2 qx2 (by lia) (λa b=>a.same b) (λa b=>by obtain ⟨q,e,r⟩:=a;exact ⟨q,e,r.same b⟩) (λa=>by obtain ⟨q,e,_,gg,_⟩:=a;exact ⟨q,e,by rw[gg];exact λz=>nomatch z⟩) ?_ ?_
   ·rintro j ns x Hi NY NN en si ⟨q,rfl,_,zs,gz,qz⟩ k1;have ws:=(w2 ns (ax en)).1;have lz:=qz.length;exists iX ((sa.trans si) _ _ ga) gz (aZ (bC (by rw[aO];lia))) λc Hj sj nj gj=>?_
    exact k1 _ _ sj ⟨c,rfl,_,gj,bP (uc ((((N0'.same s').same sa).same si).same sj) _) (Paired.imp' (λ_ _ z=>z.same sj) qz)⟩ ⟨c,rfl,nj⟩
   rintro ys2 Hb c2 hc2 sb gb2 nd2 ne2 pr2;have sab:=sa.trans sb;have ly1:=pr1.length;have ly2:=pr2.length;rw[ar] at ly1 ly2;exists iX (sb _ _ ga1) gb2 (aZ (bC (by lia))) λqn Hc sc nc gc=>?_
   have sac:=sab.trans sc;have gfc:=sac _ _ T.gf;exists iD gfc (bC (by rw[ar];lia)) ?_
   have rP:∀{c:List Rat} {x:V},(∃q,x=V.ref q/\cv K Hb q c)->(∃q,x=V.ref q/\H' q=none)->c.length=6+v->(∀y∈c,Fr 1 1 y)->fK K (λz=>H' z=none/\z≠qn) Hc (6+v) (Fr 1 1) x:=λ⟨q,e,r⟩ ⟨q',e',nq⟩ hl hf=>by
    rw[e] at e';cases e';exact ⟨q,_,e,⟨nq,λz=>by obtain ⟨_,gg,_⟩:=r;rw[z,nc] at gg;cases gg⟩,r.same sc,hl,hf⟩
   refine ⟨(s'.trans sac).after n10,some (.int i),L++[(qn,ys1++ys2)],rfl,T.snoc s' sac (sab.none nc) gc ?_ (λx hx=>?_),by rw[ak,bo,lL],λj e he=>?_⟩
   ·refine dH.mpr ⟨nd1,nd2,λx hx y hy z=>?_⟩;obtain ⟨_,_,q,e,_,gg,_⟩:=cL pr1 hx;obtain ⟨q',e',nq,_⟩:=ne2 y hy;rw[<- z,e] at e';cases e';rw[nq] at gg;cases gg
   ·rcases aw.mp hx with hx | hx
    ·obtain ⟨c,mc,q,e,r⟩:=cL pr1 hx;obtain ⟨ns,mn,rfl⟩:=aD.mp mc;obtain ⟨q',e',nq,_⟩:=ne1 x hx;refine rP ⟨q,e,r.same sb⟩ ⟨q',e',nq⟩ (by rw[ak,aO,(w1 ns mn).1];lia) λy hy=>?_
     rcases aw.mp hy with hy | hy
     ·exact (w1 ns mn).2 y hy
     ·rw[(di.mp hy).2];exact Fr.zero
    ·obtain ⟨c,mc,q,e,r⟩:=cL pr2 hx;obtain ⟨ns,mn,rfl⟩:=aD.mp mc;obtain ⟨q',e',nq,_⟩:=ne2 x hx;refine rP ⟨q,e,r⟩ ⟨q',e',sa.none nq⟩ (by rw[ak,aO,(w2 ns mn).1];lia) λy hy=>?_
     rcases aw.mp hy with hy | hy
     ·rw[(di.mp hy).2];exact Fr.zero
     ·exact (w2 ns mn).2 y hy
   ·rcases cb j L.length with z | z
    ·rw[bu z] at he;exact hL j e he
    ·have hj:=(aE.mp he).1;rw[ak,bo] at hj;have ej:j=L.length:=by lia
     subst ej;rw[a9 (aj _),fk] at he;cases he;rw[lL,hlen,ak,ly1,ly2]
  ·rintro σ' H' ⟨s',x6,L,rfl,T,lL,hL⟩
   obtain ⟨⟨m,us⟩,⟨p,ws⟩,⟨l,vs⟩,rfl⟩:∃a b c,L=[a,b,c]:=by
    rcases L with _ | ⟨a,_ | ⟨b,_ | ⟨c,_ | ⟨d,L⟩⟩⟩⟩
    ·cases lL
    ·cases lL
    ·cases lL
    ·exact ⟨a,b,c,rfl⟩
    ·simp at lL
   have lu:us.length=6+v:=by have:=hL 0 _ rfl;simpa using this.symm
   have lw:ws.length=2:=by have:=hL 1 _ rfl;simpa using this.symm
   have lv:vs.length=2:=by have:=hL 2 _ rfl;simpa using this.symm
   have gf:=T.gf;obtain ⟨mn,mf,gm⟩:=T.ls (m,us) (by simp);obtain ⟨pn,pf,gp⟩:=T.ls (p,ws) (by simp);obtain ⟨ln,lf,gl⟩:=T.ls (l,vs) (by simp);have nd:=T.nd;have rw':=T.rows;have rd:=T.rd;clear T hL;have gf:H' fd=some (.lst [.ref m,.ref p,.ref l]):=gf;have nd:[m,p,l].Nodup:=nd;have rd:(us++(ws++(vs++[]))).Nodup:=rd;have u0':=u09.same s';have B':=B9.same s';have hm0:H m=none:=u09.none B9 mn;have hp0:H p=none:=u09.none B9 pn;have hl0:H l=none:=u09.none B9 ln;obtain ⟨A,eA⟩:∃A:Addr->Prop,A=λq=>H q=none/\q≠m/\q≠p/\q≠l:=⟨_,rfl⟩
   have mkA:∀{q},H q=none->q≠m->q≠p->q≠l->A q:=λh1 h2 h3 h4=>by rw[eA];exact ⟨h1,h2,h3,h4⟩
   have unA:∀{q},A q->H q=none/\q≠m/\q≠p/\q≠l:=λh=>by rw[eA] at h;exact h
   have nb:∀{q},H q=none->q≠b:=λh z=>hB.at (by rw[<- z];exact h)
   have MA:Fb A m p l b q0:=⟨λz=>(unA z).2.1 rfl,λz=>(unA z).2.2.1 rfl,λz=>(unA z).2.2.2 rfl,λz=>hB.at (unA z).1,(λz=>by have z1:=(unA z).1;rw[gq0] at z1;cases z1),nb hm0,nb hp0,nb hl0,by intro z;subst z;simp at nd,by intro z;subst z;simp at nd,λz=>by rw[<- z,hm0] at gq0;cases gq0⟩;have X:jI K A H' (6+v) (λ_=>Fr 1 1) m p l b q0 us ws vs:=⟨B',u0'.2 _ I0,gm,gp,gl,lu,λx hx=>?_,?_⟩
   ·exists ⟨b,m,p,l,q0,6+v,1,λ_=>1,A,us,ws,vs,rfl,MA,X,by lia,by lia,by lia,λ_=>Nat.zero_lt_one,λ_=>cV,⟨1,λ_ _ _=>rfl⟩,by decide,λq hq=>?_,λr us' H'' g Y kp=>?_⟩
    ·exact mkA (u0'.none B' hq) (λz=>by rw[z,gm] at hq;cases hq) (λz=>by rw[z,gp] at hq;cases hq) (λz=>by rw[z,gl] at hq;cases hq)
    ·obtain ⟨mv,Gm,lmv,hmv⟩:=jU (H0:=H) (n:=6+v) (C:=Fr 1 (9^3*1)) (m:=6+v) ⟨us',Y.gm,Y.lm,MA.am,λx hx=>Y.row x (by simp [hx])⟩ λq h=>(unA h).1
     obtain ⟨pt,Gp,lpt,hpt⟩:=jU (H0:=H) (n:=6+v) (C:=Fr 1 (9^3*1)) (m:=2) ⟨ws,Y.gp,lw,MA.ap,λx hx=>Y.row x (by simp [hx])⟩ λq h=>(unA h).1
     obtain ⟨lk,Gl,llk,hlk⟩:=jU (H0:=H) (n:=6+v) (C:=Fr 1 (9^3*1)) (m:=2) ⟨vs,Y.gl,lv,MA.al,λx hx=>Y.row x (by simp [hx])⟩ λq h=>(unA h).1
     refine k r mv pt lk H'' ⟨m,p,l,g,hm0,hp0,hl0,Gm,Gp,Gl⟩ (by lia) ⟨by lia,by lia,by lia,λxs hx=>by rw[(hmv xs hx).1,lmv],λxs hx=>by rw[(hpt xs hx).1,lmv],λxs hx=>by rw[(hlk xs hx).1,lmv]⟩ (λxs hx=>(hmv xs hx).2) (λxs hx=>(hpt xs hx).2) (λxs hx=>(hlk xs hx).2) Y.bag ⟨λc' u e n1=>kp c' u (u0'.1 _ _ e n1) n1 (λz=>by have:=(unA z).1;rw[e] at this;cases this) (λz=>by rw[z,hm0] at e;cases e),λq h=>by rw[<- Inner.inj I0 h];exact Y.inn⟩
   ·have hx:∃e∈[(m,us),(p,ws),(l,vs)],x∈e.2:=by
     rcases aw.mp hx with hx | hx
     ·rcases aw.mp hx with hx | hx
      ·exact ⟨(m,us),by simp,hx⟩
      ·exact ⟨(l,vs),by simp,hx⟩
     ·exact ⟨(p,ws),by simp,hx⟩
    obtain ⟨e,he,hx⟩:=hx;refine (rw' e he x hx).weak (λq hq=>?_) (λ_ w=>w);obtain ⟨⟨h1,_⟩,h2⟩:=hq;have h2:q∉[m,p,l]:=h2;simp only[aB,aU,or_false,not_or] at h2;exact mkA (u09.none B9 h1) h2.1 h2.2.1 h2.2.2
   ·rw[kY] at rd
    have e:(us++vs++ws).Perm (us++(ws++vs)):=by
     rw[bV];exact List.Perm.append_left _ List.perm_append_comm
    exact e.nodup_iff.mpr rd
theorem qg:bg ["_law_bag_here","_law_wide","_law_way"] ["_law_bag_here","_law_wide"] (aN mS):=by walk_at "d"
theorem zV (T:Txt K mg Z):cI P w K mg base fM 2 Z.tD Z.sW ["_law_bag_here","_law_wide"] (zf K):=by
 refine T.lQ.F.ok qg (λvs H Q E h=>?_) (λcdv A outer s H vs Q E hr h=>?_)
 ·obtain ⟨b,w,rfl,_⟩:=h;rfl
 ·obtain ⟨b,w,rfl,hB,w0,w1,k⟩:=h
  refine ⟨_,(av (a8 (i:=2) qg.nd rfl (Or.inl rfl) (cG (be T) hr T.aW (ae (pv 0) (ae ao ag))))
   (av (cP (bx qU (pv 2) ao (bD _)) (az (a7 (cN (ae ao (ae ao ag))))) bO)
   (av (cP (bx qU (pv 2) ao (bD _)) (az (a7 (cN (ae (bH i5 (cG (be T) hr T.aW (ae (pv 0) (ae ao ag))) ao) (ae ao ag))))) bO)
   (av (cP (bx eJ (pv 2) ao (bD _)) (az (a7 (cG (gG T) hr T.eU (ae (bH i5 (cG (be T) hr T.aW (ae (pv 0) (ae ao ag))) ao) (ae (bH ff ao (cG (be T) hr T.aW (ae (pv 0) (ae ao ag)))) ag))))) bO)
   (az (a7 (cG (gG T) hr T.eU (ae (bH i5 (cG (be T) hr T.aW (ae (pv 0) (ae (bH ff (bH cY ao (pv 1)) ao) ag))) (pv 1)) (ae (bH ff ao (cG (be T) hr T.aW (ae (pv 0) (ae (pv 1) ag)))) ag))))))))),?_⟩
  refine aV (σ:=[some (.ref b),some (.int w),none]) rfl ?_;exists ⟨b,8,rfl,hB,by decide,by decide,λv H1 v0 v1 B1 u1=>?_⟩;exists fX (λh0=>?_) (λh0=>?_)
  ·exists bU λr H2 s2 g2=>?_
   exact k r 0 _ ⟨bf _,by show 1<=_;lia⟩ (ck.mk g2 rfl) (B1.same s2) (u1.same s2)
  exists fX (λh1=>?_) (λh1=>?_)
  ·exists ⟨b,7,rfl,B1,by decide,by decide,λa H2 a0 a1 B2 u2=>?_⟩;exists bU λr H3 s3 g3=>?_
   exact k r ((a - 3:Int):Rat) _ ⟨by show (a - 3).natAbs<=_;lia,by show 1<=_;lia⟩ (ck.mk g3 rfl) (B2.same s3) ((u1.trans u2).same s3)
  exists fX (λh2=>?_) (λh2=>?_)
  ·exists ⟨b,13,rfl,B1,by decide,by decide,λa H2 a0 a1 B2 u2=>?_⟩;exists ⟨b,6,rfl,B2,by decide,by decide,λc H3 c0 c1 B3 u3=>?_⟩;exists ⟨_,_,rfl,by lia,(Jy (by lia)).mono (by decide),λr H4 s4 g4=>?_⟩;obtain ⟨q,e,d,_⟩:=Ko (t:=a - 6) (b:=1+c) (W:=max w 6) (by lia) (by lia) (by lia);exact k r q _ d (ck.mk g4 e) (B3.same s4) (((u1.trans u2).trans u3).same s4)
  exists ⟨b,_,rfl,B1,by lia,by lia,λa H2 a0 a1 B2 u2=>?_⟩;exists ⟨b,_,rfl,B2,by lia,by lia,λc H3 c0 c1 B3 u3=>?_⟩;exists ⟨_,_,rfl,by lia,(Jy (by lia)).mono (by decide),λr H4 s4 g4=>?_⟩;obtain ⟨q,e,d,_⟩:=Ko (t:=a - w) (b:=1+c) (W:=max w 6) (by lia) (by lia) (by lia);exact k r q _ d (ck.mk g4 e) (B3.same s4) (((u1.trans u2).trans u3).same s4)
theorem Em:bg ["_law_bag_here","_law_many","_law_wide"] ["_law_bag_here","_law_many","_law_wide"] (aN tT):=by walk_at "d"
theorem ks (T:Txt K mg Z):cI P w K mg base fM 3 Z.Aw Z.Ak ["_law_bag_here","_law_many","_law_wide"] (Eh K):=by
 refine T.gH.F.ok Em (λvs H Q E h=>?_) (λcdv A outer s H vs Q E hr h=>?_)
 ·obtain ⟨b,m,w,rfl,_⟩:=h;rfl
 ·obtain ⟨b,m,w,rfl,hB,hm,w0,w1,k⟩:=h;refine ⟨_,(az (a7 (cA ["_law_k"] ["_law_bag_here","_law_wide"] [0,2] (cw rfl T.range (ae (pv 1) ag)) (λ_=>(aT (i:=0) (show ND9 ["_law_k","_law_bag_here","_law_wide"] by decide +kernel))) (λ_=>cC) (λ_=>(cG (zV T) hr T.lQ (ae (pv 1) (ae (pv 2) ag))))))),?_⟩;refine aV (σ:=[some (.ref b),some (.int m),some (.int w)]) rfl ?_;exists ⟨by lia,by lia,?_⟩;refine w5 (n:=m) (ck K) (Dr (max w 6)) hB hm (λa u B=>a.upto u B) ?_ ?_
  ·rintro i H' NY NN hi u B k1;exists ⟨b,w,rfl,B,w0,w1,λr x H2 hx h2 B2 u2=>k1 _ x _ u2 B2 hx h2⟩
  ·rintro ys cs H' p hp u B g lc hc pr nx;exact k p cs H' hp ⟨ys,g,pr⟩ lc hc B u
theorem js:bg ["_law_bag_here","_law_n","_law_way","_law_first","_law_wide","_law_move_here","_law_i","_law_row_here","_law_j"] ["_law_bag_here","_law_n","_law_way","_law_first","_law_wide"] (aN qI):=by walk_at "d"
theorem Di (T : Txt K mg Z) : cI P w K mg base fM 4 Z.yd Z.xJ ["_law_bag_here", "_law_n", "_law_way", "_law_first", "_law_wide"] (Eb K) := by
  have pF := ks (P := P) (w := w) (base := base) T;have jk := be (P := P) (w := w) (base := base) T;refine T.oY.F.ok js (λvs H Q E h => ?_) (λcdv A outer s H vs Q E hr h => ?_)
  · obtain ⟨b, n, w, way, first, rfl, _⟩ := h;rfl
  · obtain ⟨b, n, w, way, first, rfl, hB, n8, w0, w1, k⟩ := h
    refine ⟨_, (av (a8 (i := 5) js.nd rfl (Or.inl rfl) (df ag))
      (av (dO PassesOwn.never rfl (cw rfl T.range (ae (pv 1) ag)) (aT (i := 6) js.nd)
        (av (a8 (i := 7) js.nd rfl (Or.inl rfl) (cG pF hr T.gH (ae (pv 0) (ae (pv 1) (ae (pv 4) ag)))))
      (av (dO PassesOwn.never rfl (cw rfl T.range (ae (pv 1) ag)) (aT (i := 8) js.nd)
        (iE (cP (PW.pt (iY (bx eJ (pv 2) ao (bD _)) (ju (bx pM (cG jk hr T.aW (ae (pv 0) (ae ao ag))) ao (bD _))))) (az (fF (cN (ae ao (ae ao ag))) (gX (pv 7) (pv 8) set_list))) bO)
      (iE (cP (PW.pt (iY (bx eJ (pv 2) ao (bD _)) (ju (bx qU (bH ff (pv 6) ao) (pv 1) (bD _))))) (az (fF (cN (ae (dI nR (by rfl) T.int PyProof.Rows.boot_int (ae (gO eJ (pv 8) (bH ff (pv 6) ao) (bD _)) ag)) (ae ao ag))) (gX (pv 7) (pv 8) set_list))) bO)
      (iE (cP (PW.pt (nJ (PW.pt (iY (bx eJ (pv 2) ao (bD _)) (iY (bx By (pv 6) (pv 3) (bD _)) (ju (bx qU (pv 8) (pv 3) (bD _)))))) (kF (PW.pt (iY (bx eJ (pv 2) ao (bD _)) (iY (bx qU (pv 6) (pv 3) (bD _)) (ju (bx By (pv 8) (pv 3) (bD _))))))))) (az (fF (cN (ae ao (ae ao ag))) (gX (pv 7) (pv 8) set_list))) bO)
      (az (cP (bx eJ (pv 2) ao (bD _)) (az (fF (cN (ae (bH cY (aY bS (df (ae ao (ae ao (ae (xm pW ao) (ae ao ag))))) (bH mW (pv 3) ao)) (dI nR (by rfl) T.int PyProof.Rows.boot_int (ae (gO eJ (pv 6) (pv 8) (bD _)) ag))) (ae ao ag))) (gX (pv 7) (pv 8) set_list))) bO))))))
      (az (hZ (sG cM c6 c5 jg (pv 5) (ae (pv 7) ag)))))))
      (az (a7 (pv 5))))), ?_⟩
    refine aV (σ := [some (.ref b), some (.int n), some (.int way), some (.int first), some (.int w), none, none, none, none]) rfl ?_;have W1 : 1 ≤ max w 6 := by lia
    exists cW λr H1 s1 n1 g1 => ?_
    have rb : r ≠ b := λz => hB.at (by rw [<- z]; exact n1)
    obtain ⟨q0, I0, xs0, gq0⟩ := hB.inner;have I1 : Inner H1 b q0 := (s1.upto (p := b)).2 _ I0;obtain ⟨A, eA⟩ : ∃ A : Addr → Prop, A = λq => H q = none /\ q ≠ r := ⟨_, rfl⟩
    have nb : ¬ A b := by rw [eA]; exact λz => hB.at z.1
    have nr : ¬ A r := by rw [eA]; exact λz => z.2 rfl
    have nq : ¬ A q0 := by rw [eA]; exact λz => by have z1 := z.1; rw [gq0] at z1; cases z1
    have rq : r ≠ q0 := λz => by rw [<- z, n1] at gq0; cases gq0
    exists ⟨by lia, by lia, ?_⟩;refine eG (n := n) (λi σ' H' => ∃ (x1 x2 x3 : Option V) (us : List V), σ' = [some (.ref b), some (.int n), some (.int way), some (.int first), some (.int w), some (.ref r), x1, x2, x3] /\ H' r = some (.lst us) /\ us.length = i /\ us.Nodup /\ (∀ x ∈ us, fK K A H' n (Dr (max w 6)) x) /\ ig H' b /\ Inner H' b q0 /\ cT b H H') ⟨none, none, none, [], rfl, g1, rfl, mH, (λ_ z => nomatch z), hB.same s1, I1, s1.upto⟩ ?_ ?_
    · rintro i σ' H' hi ⟨x1, x2, x3, us, rfl, gu, lu, nd, ru, B', I', u'⟩;exists ⟨b, n, w, rfl, B', by lia, w0, w1, λp xs Ha np Ra la da Ba ua => ?_⟩;have hp0 : H p = none := u'.none B' np
      have pn : V.ref p ∉ us := λz => by
        obtain ⟨q', _, _, e', _, g', _⟩ := (ru _ z).at;cases e';rw [np] at g';cases g'
      have ap' : H p = none /\ p ≠ r := ⟨hp0, λz => by rw [z, gu] at np; cases np⟩;have ap : A p := by rw [eA]; exact ap'
      have X0 : HS K A n (Dr (max w 6)) r p b q0 us H Ha := ⟨ua.other rb gu, λx hx => (ru x hx).upto ua B' nb, ⟨p, xs, rfl, ap, Ra, la, da⟩, Ba, ua.2 _ I', u'.trans ua⟩;clear ru Ra gu;exists ⟨by lia, by lia, ?_⟩;refine eG (n := n) (λj σ' H' => (∃ x3, σ' = [some (.ref b), some (.int n), some (.int way), some (.int first), some (.int w), some (.ref r), some (.int i), some (.ref p), x3]) /\ HS K A n (Dr (max w 6)) r p b q0 us H H') ⟨⟨_, rfl⟩, X0⟩ ?_ ?_
      · rintro j σ' Hj hj ⟨⟨x3, rfl⟩, X⟩;exists ⟨λσ' H' => σ' = [some (.ref b), some (.int n), some (.int way), some (.int first), some (.int w), some (.ref r), some (.int i), some (.ref p), some (.int j)] /\ HS K A n (Dr (max w 6)) r p b q0 us H H', ?_, ?_⟩
        · exists fX (λ_ => ?_) (λ_ => ?_)
          · exists ⟨b, 3, rfl, X.bag, by decide, by decide, λd Hd d0 d1 Bd ud => ?_⟩;replace X := X.upto ud Bd nb rb
            repeat' (first | walk_at "rd" | refine fX (λ_ => ?_) (λ_ => ?_))
            all_goals first
              | exact ⟨rfl, X⟩
              | (refine bU λt Hb sb gb => ?_
                 walk_at "w";obtain ⟨zs, gz, lz, Xz⟩ := (X.same sb).put ap nr nb nq hp0 (ck.mk (q := 0) gb rfl) (rj (i := 0) (bf _) W1) j;refine fj gz (fv (by lia)) rfl ?_;exact ⟨rfl, Xz⟩)
          · exists ⟨rfl, X⟩
        clear X;rintro σ' Hj ⟨rfl, X⟩;refine ⟨λσ' H' => σ' = [some (.ref b), some (.int n), some (.int way), some (.int first), some (.int w), some (.ref r), some (.int i), some (.ref p), some (.int j)] /\ HS K A n (Dr (max w 6)) r p b q0 us H H', ?_, ?_⟩
        · repeat' (first | walk_at "rd" | refine fX (λ_ => ?_) (λ_ => ?_))
          all_goals first
            | exact ⟨rfl, X⟩
            | (refine bU λt Hb sb gb => ?_
               walk_at "w";obtain ⟨zs, gz, lz, Xz⟩ := (X.same sb).put ap nr nb nq hp0 (ck.mk (q := ((if decide ((j : Int) = (i : Int) + 1) = true then (1 : Int) else 0 : Int) : Rat)) gb rfl) (rj (by split <;> lia) W1) j;refine fj gz (fv (by lia)) rfl ?_;exact ⟨rfl, Xz⟩)
        clear X;rintro σ' Hj ⟨rfl, X⟩;refine ⟨λσ' H' => σ' = [some (.ref b), some (.int n), some (.int way), some (.int first), some (.int w), some (.ref r), some (.int i), some (.ref p), some (.int j)] /\ HS K A n (Dr (max w 6)) r p b q0 us H H', ?_, ?_⟩
        · repeat' (first | walk_at "rd" | refine fX (λ_ => ?_) (λ_ => ?_))
          all_goals first
            | exact ⟨rfl, X⟩
            | (refine bU λt Hb sb gb => ?_
               walk_at "w";obtain ⟨zs, gz, lz, Xz⟩ := (X.same sb).put ap nr nb nq hp0 (ck.mk (q := 0) gb rfl) (rj (i := 0) (bf _) W1) j;refine fj gz (fv (by lia)) rfl ?_;exact ⟨rfl, Xz⟩)
        clear X;rintro σ' Hj ⟨rfl, X⟩;exists fX (λ_ => ?_) (λ_ => ?_)
        · exists cW λl0 Hc sc nc gc => ?_
          walk_at "w";obtain ⟨x, ex, mx, _⟩ := ky (xs := [V.int 2, V.int 1, V.int (-1), V.int 0]) (i := first % 4) (kZ _ (by decide)) (by have := iV first (show (0 : Int) < 4 by decide); simpa using this)
          obtain ⟨z, rfl, hz⟩ : ∃ z : Int, x = .int z /\ z.natAbs ≤ 2 := by
            simp only [aB, aU, or_false] at mx;rcases mx with rfl | rfl | rfl | rfl
            · exact ⟨2, rfl, by decide⟩
            · exact ⟨1, rfl, by decide⟩
            · exact ⟨-1, rfl, by decide⟩
            · exact ⟨0, rfl, by decide⟩
          refine cB (bN.of gc) ex ?_;exists fE (DG (by lia) (by lia)) ?_;exists bU λt Hb sb gb => ?_
          walk_at "w";obtain ⟨zs, gz, lz, Xz⟩ := ((X.same sc).same sb).put ap nr nb nq hp0 (ck.mk (q := ((z * (if decide ((i : Int) = (j : Int)) = true then (1 : Int) else 0) : Int) : Rat)) gb rfl) (rj (by split <;> lia) W1) j;refine fj gz (fv (by lia)) rfl ?_;exact ⟨⟨_, rfl⟩, Xz⟩
        · exists ⟨⟨_, rfl⟩, X⟩
      · rintro σ' Hj ⟨⟨x3, rfl⟩, X⟩;exists ⟨.inl ⟨rfl, _, bN.of X.gr⟩, ?_⟩;exists iD X.gr (bC (by lia)) ?_;refine ⟨_, _, _, us ++ [.ref p], rfl, aK, by simp [lu], oQ nd pn, λx hx => ?_, X.bag.upd X.inn rb rq, X.inn.upd rb, X.up.after n1⟩;rcases aw.mp hx with hx | hx
        · exact (X.ru x hx).other X.gr nr
        · have e : x = V.ref p := by simpa using hx
          rw [e]; exact X.rp.other X.gr nr
    · rintro σ' H' ⟨x1, x2, x3, us, rfl, gu, lu, nd, ru, B', I', u'⟩;exists k r us H' n1 gu lu nd (by rw [eA] at ru; exact ru) B' u'
theorem dZ:bg ["_law_bag_here","_law_n","_law_ins","_law_outs","_law_wide","_law_way","_law_first","_law_move_here","_law_put","_law_look","_law_k","_law_row_here"] ["_law_bag_here","_law_n","_law_ins","_law_outs","_law_wide"] (aN oG):=by walk_at "d"
theorem AX (T : Txt K mg Z) : cI P w K mg base fM 5 Z.vL Z.vq ["_law_bag_here", "_law_n", "_law_ins", "_law_outs", "_law_wide"] (Bi K) := by
  have jk := be (P := P) (w := w) (base := base) T;have Fc := Di (P := P) (w := w) (base := base) T;have pF := ks (P := P) (w := w) (base := base) T;have DQ := sL (P := P) (w := w) (base := base) T;refine T.nC.F.ok dZ (λvs H Q E h => ?_) (λcdv A outer s H vs Q E hr h => ?_)
  · obtain ⟨b, n, i, o, w, c, rfl, _⟩ := h;rfl
  · obtain ⟨b, n, i, o, w, c, rfl, hB, n8, i4, o4, w0, w1, hc, hc20, hcM, k⟩ := h
    refine ⟨_, (av (a8 (i := 5) dZ.nd rfl (Or.inl rfl) (cG jk hr T.aW (ae (pv 0) (ae ao ag))))
      (av (a8 (i := 6) dZ.nd rfl (Or.inl rfl) (cG jk hr T.aW (ae (pv 0) (ae (bH ff (pv 1) ao) ag))))
      (av (a8 (i := 7) dZ.nd rfl (Or.inl rfl) (cG Fc hr T.oY (ae (pv 0) (ae (pv 1) (ae (pv 5) (ae (pv 6) (ae (pv 4) ag)))))))
      (av (kN 8 ["_law_k"] ["_law_bag_here", "_law_n", "_law_wide"] [0, 1, 4] dZ.nd rfl rfl (cw rfl T.range (ae (pv 2) ag)) (λ_ => (aT (i := 0) (show List.Nodup (α := PySem.Str) ["_law_k", "_law_bag_here", "_law_n", "_law_wide"] by decide +kernel))) (λ_ => cC) (λ_ => (cG pF hr T.gH (ae (pv 1) (ae (pv 2) (ae (pv 3) ag))))))
      (av (kN 9 ["_law_k"] ["_law_bag_here", "_law_n", "_law_wide"] [0, 1, 4] dZ.nd rfl rfl (cw rfl T.range (ae (pv 3) ag)) (λ_ => (aT (i := 0) (show List.Nodup (α := PySem.Str) ["_law_k", "_law_bag_here", "_law_n", "_law_wide"] by decide +kernel))) (λ_ => cC) (λ_ => (cG pF hr T.gH (ae (pv 1) (ae (pv 2) (ae (pv 3) ag))))))
      (av (dO PassesOwn.never rfl (cw rfl T.range (ae (pv 1) ag)) (aT (i := 10) dZ.nd)
        (av (dO PassesOwn.never rfl (cE (pv 8)) (aT (i := 11) dZ.nd)
        (az (cP (PW.pt (nJ (PW.pt (iY (bx eJ (pv 5) ao (bD _)) (ju (bx By (pv 10) (pv 6) (bD _))))) (kF (PW.pt (iY (bx eJ (pv 5) ao (bD _)) (iY (bx qU (bH ff (pv 10) ao) (pv 1) (bD _)) (ju (bx eJ (cG jk hr T.aW (ae (pv 0) (ae ao ag))) ao (bD _))))))))) (az (fF (cN (ae ao (ae ao ag))) (gX (pv 11) (pv 10) set_list))) bO)))
      (az (dO PassesOwn.never rfl (cE (pv 9)) (aT (i := 11) dZ.nd)
        (az (cP (PW.pt (nJ (PW.pt (iY (bx eJ (pv 5) ao (bD _)) (ju (bx By (pv 10) (pv 6) (bD _))))) (kF (PW.pt (iY (bx eJ (pv 5) ao (bD _)) (iY (bx pM (pv 10) ao (bD _)) (ju (bx eJ (cG jk hr T.aW (ae (pv 0) (ae ao ag))) ao (bD _))))))))) (az (fF (cN (ae ao (ae ao ag))) (gX (pv 11) (pv 10) set_list))) bO))))))
      (az (a7 (cG DQ hr T.j8 (ae (pv 0) (ae (pv 7) (ae (pv 8) (ae (pv 9) ag))))))))))))), ?_⟩
    refine aV (σ := [some (.ref b), some (.int n), some (.int i), some (.int o), some (.int w), none, none, none, none, none, none, none]) rfl ?_;have W1 : 1 ≤ max w 6 := by lia
    obtain ⟨q0, I0, xs0, gq0⟩ := hB.inner;exists ⟨b, 6, rfl, hB, by decide, by decide, λway H1 a0 a1 B1 u1 => ?_⟩;exists ⟨b, _, rfl, B1, by lia, by lia, λfirst H2 f0 f1 B2 u2 => ?_⟩;have u02 := u1.trans u2;exists ⟨b, n, w, way, first, rfl, B2, n8, w0, w1, λm us H3 nm0 gm lm ndm rm B3 u3 => ?_⟩;have u03 := u02.trans u3;exists ⟨by lia, by lia, ?_⟩;refine BX (n := i) (b := b) (c4 K H3) (λxs => xs.length = n /\ ∀ x ∈ xs, Dr (max w 6) x) B3 (by lia) (λa u B => a.upto u B B3.at) (λ⟨q, e, _, _, g, _⟩ => ⟨q, e, by rw [g]; exact λz => nomatch z⟩) ?_ ?_
    · rintro s H' NY NN hi u B k1;exists ⟨b, n, w, rfl, B, by lia, w0, w1, λr xs H2 nr R lx dx B2 u2 => k1 _ xs _ u2 B2 ⟨lx, dx⟩ ⟨r, rfl, u.none B nr, R⟩ ⟨r, rfl, nr⟩⟩
    rintro ws puts H4 p np u4 B4 gp lp ndp hp pr4 nx4;have u04 := u03.trans u4;exists ⟨by lia, by lia, ?_⟩;refine BX (n := o) (b := b) (c4 K H4) (λxs => xs.length = n /\ ∀ x ∈ xs, Dr (max w 6) x) B4 (by lia) (λa u B => a.upto u B B4.at) (λ⟨q, e, _, _, g, _⟩ => ⟨q, e, by rw [g]; exact λz => nomatch z⟩) ?_ ?_
    · rintro s H' NY NN hi u B k1;exists ⟨b, n, w, rfl, B, by lia, w0, w1, λr xs H2 nr R lx dx B2 u2 => k1 _ xs _ u2 B2 ⟨lx, dx⟩ ⟨r, rfl, u.none B nr, R⟩ ⟨r, rfl, nr⟩⟩
    rintro vs looks H5 l nl u5 B5 gl ll ndl hl pr5 nx5;have u05 := u04.trans u5;have hm0 : H m = none := u02.none B2 nm0;have hp0 : H p = none := u03.none B3 np;have hl0 : H l = none := u04.none B4 nl;have mb : m ≠ b := λz => B2.at (by rw [<- z]; exact nm0)
    have pb : p ≠ b := λz => B3.at (by rw [<- z]; exact np)
    have lb : l ≠ b := λz => B4.at (by rw [<- z]; exact nl)
    have gm4 := u4.other mb gm;have gm5 := u5.other mb gm4;have gp5 := u5.other pb gp;have mp : m ≠ p := λz => by rw [z, np] at gm; cases gm
    have ml : m ≠ l := λz => by rw [z, nl] at gm4; cases gm4
    have pl : p ≠ l := λz => by rw [z, nl] at gp; cases gp
    have mq : m ≠ q0 := λz => Inner.at B2 (u02.2 _ I0) (by rw [<- z]; exact nm0)
    obtain ⟨A, eA⟩ : ∃ A : Addr → Prop, A = λq => H q = none /\ q ≠ m /\ q ≠ p /\ q ≠ l := ⟨_, rfl⟩
    have mkA : ∀ {q}, H q = none → q ≠ m → q ≠ p → q ≠ l → A q := λh1 h2 h3 h4 => by rw [eA]; exact ⟨h1, h2, h3, h4⟩
    have unA : ∀ {q}, A q → H q = none /\ q ≠ m /\ q ≠ p /\ q ≠ l := λh => by rw [eA] at h; exact h
    have MA : Fb A m p l b q0 := ⟨λz => (unA z).2.1 rfl, λz => (unA z).2.2.1 rfl, λz => (unA z).2.2.2 rfl, λz => hB.at (unA z).1, (λz => by have z1 := (unA z).1; rw [gq0] at z1; cases z1), mb, pb, lb, mp, ml, mq⟩;clear eA;have lws : ws.length = i := by rw [<- pr4.length]; exact lp
    have lvs : vs.length = o := by rw [<- pr5.length]; exact ll
    have alM : ∀ q, V.ref q ∈ us → H3 q ≠ none /\ q ≠ b /\ H4 q ≠ none := λq hq => by
      obtain ⟨q', qs, e, ⟨a1, a2⟩, r, z⟩ := rm _ hq;cases e;have qb : q ≠ b := λy => B2.at (by rw [<- y]; exact a1)
      obtain ⟨xq, gq, _⟩ := id r;obtain ⟨xq4, gq4, _⟩ := r.upto u4 B3 qb;exact ⟨(by rw [gq]; exact λz => nomatch z), qb, (by rw [gq4]; exact λz => nomatch z)⟩
    have alP : ∀ q, V.ref q ∈ ws → H3 q = none /\ H4 q ≠ none := λq hq => by
      obtain ⟨_, _, q', e, a, _, g, _⟩ := cL pr4 hq;cases e;exact ⟨a, by rw [g]; exact λz => nomatch z⟩
    have alL : ∀ q, V.ref q ∈ vs → H4 q = none := λq hq => by
      obtain ⟨_, _, q', e, a, _⟩ := cL pr5 hq;cases e;exact a
    have isR : ∀ x, x ∈ us \/ x ∈ ws \/ x ∈ vs → ∃ q, x = V.ref q := λx hx => by
      rcases hx with hx | hx | hx
      · obtain ⟨q, _, e, _⟩ := rm x hx; exact ⟨q, e⟩
      · obtain ⟨_, _, q, e, _⟩ := cL pr4 hx; exact ⟨q, e⟩
      · obtain ⟨_, _, q, e, _⟩ := cL pr5 hx; exact ⟨q, e⟩
    have nd : (us ++ vs ++ ws).Nodup := by
      refine dH.mpr ⟨dH.mpr ⟨ndm, ndl, λx hx y hy e => ?_⟩, ndp, λx hx y hy e => ?_⟩
      · subst e;obtain ⟨q, rfl⟩ := isR x (.inl hx);exact (alM q hx).2.2 (alL q hy)
      · subst e;obtain ⟨q, rfl⟩ := isR x (.inr (.inl hy));rcases aw.mp hx with hx | hx
        · exact (alM q hx).1 (alP q hy).1
        · exact (alP q hy).2 (alL q hx)
    have X5 : F5 K A n (Dr (max w 6)) m p l b q0 us ws vs H H5 := by
      refine ⟨⟨B5, u05.2 _ I0, gm5, gp5, gl, lm, λx hx => ?_, nd⟩, gp5, gl, λc u e n1 _ _ => u05.1 c u e n1⟩;rcases aw.mp hx with hx | hx
      · rcases aw.mp hx with hx | hx
        · obtain ⟨q, qs, e, ⟨a1, a2⟩, r, z⟩ := rm x hx;obtain ⟨xq, gq, _⟩ := id r;have qb : q ≠ b := λy => B2.at (by rw [<- y]; exact a1)
          have r4 := r.upto u4 B3 qb;obtain ⟨xq4, gq4, _⟩ := id r4;exact ⟨q, qs, e, mkA (u02.none B2 a1) a2 (λy => by rw [y, np] at gq; cases gq) (λy => by rw [y, nl] at gq4; cases gq4), r4.upto u5 B4 qb, z⟩
        · refine JP (A := A) pr5 hl (λq hq a b' => ?_) x hx;exact mkA (u04.none B4 a) (λy => by rw [y, gm4] at a; cases a) (λy => by rw [y, gp] at a; cases a) (λy => je nx5 (by rw [<- y]; exact hq))
      · refine fK.upto (JP (A := A) pr4 hp (λq hq a b' => ?_) x hx) u5 B4 MA.ab;exact mkA (u03.none B3 a) (λy => by rw [y, gm] at a; cases a) (λy => je nx4 (by rw [<- y]; exact hq)) (λy => b' (by rw [y]; exact nl))
    clear alM alP alL isR rm pr4 pr5 nx4 nx5 gm gm4 gm5 gp gp5 gl hp hl;exists ⟨by lia, by lia, ?_⟩;refine eG (n := n) (λkk σ' H' => (∃ x1 x2, σ' = [some (.ref b), some (.int n), some (.int i), some (.int o), some (.int w), some (.int way), some (.int first), some (.ref m), some (.ref p), some (.ref l), x1, x2]) /\ F5 K A n (Dr (max w 6)) m p l b q0 us ws vs H H') ⟨⟨_, _, rfl⟩, X5⟩ ?_ ?_
    · rintro kk σ' Hj hk ⟨⟨x1, x2, rfl⟩, X⟩;exists ⟨⟨_, bN.of X.gp⟩, ?_⟩;refine fY (K := K) (a := p) (xs := ws) (λs σ' H' => (∃ x2, σ' = [some (.ref b), some (.int n), some (.int i), some (.int o), some (.int w), some (.int way), some (.int first), some (.ref m), some (.ref p), some (.ref l), some (.int kk), x2]) /\ F5 K A n (Dr (max w 6)) m p l b q0 us ws vs H H') ⟨⟨_, rfl⟩, X⟩ (λs σ' H' _ ⟨_, e⟩ => bN.of e.gp) ?_ ?_
      · rintro s x σ' Hk hx ⟨⟨y2, rfl⟩, X⟩;have mx := ax hx;obtain ⟨q, _, rfl, _⟩ := X.row (.inl mx)
        repeat' (first | walk_at "rd" | refine fX (λ_ => ?_) (λ_ => ?_))
        all_goals first
          | exact ⟨⟨_, rfl⟩, X⟩
          | (refine bU λt Hb sb gb => ?_
             walk_at "w";obtain ⟨zs, gz, lz, Xz⟩ := (X.same sb).put MA (.inl mx) (ck.mk (q := 0) gb rfl) (rj (i := 0) (bf _) W1) kk;refine fj gz (fv (by lia)) rfl ?_;exact ⟨⟨_, rfl⟩, Xz⟩)
          | (refine ⟨b, 2, rfl, X.mix.bag, by decide, by decide, λd Hd d0 d1 Bd ud => ?_⟩
             replace X := X.upto MA ud Bd
             repeat' (first | walk_at "rd" | refine fX (λ_ => ?_) (λ_ => ?_))
             all_goals first
               | exact ⟨⟨_, rfl⟩, X⟩
               | (refine bU λt Hb sb gb => ?_
                  walk_at "w";obtain ⟨zs, gz, lz, Xz⟩ := (X.same sb).put MA (.inl mx) (ck.mk (q := 0) gb rfl) (rj (i := 0) (bf _) W1) kk;refine fj gz (fv (by lia)) rfl ?_;exact ⟨⟨_, rfl⟩, Xz⟩))
      · rintro σ' Hk ⟨⟨y2, rfl⟩, X⟩;exists ⟨⟨_, bN.of X.gl⟩, ?_⟩;refine fY (K := K) (a := l) (xs := vs) (λs σ' H' => (∃ x2, σ' = [some (.ref b), some (.int n), some (.int i), some (.int o), some (.int w), some (.int way), some (.int first), some (.ref m), some (.ref p), some (.ref l), some (.int kk), x2]) /\ F5 K A n (Dr (max w 6)) m p l b q0 us ws vs H H') ⟨⟨_, rfl⟩, X⟩ (λs σ' H' _ ⟨_, e⟩ => bN.of e.gl) ?_ ?_
        · rintro s x σ' Hk hx ⟨⟨y2, rfl⟩, X⟩;have mx := ax hx;obtain ⟨q, _, rfl, _⟩ := X.row (.inr mx)
          repeat' (first | walk_at "rd" | refine fX (λ_ => ?_) (λ_ => ?_))
          all_goals first
            | exact ⟨⟨_, rfl⟩, X⟩
            | (refine bU λt Hb sb gb => ?_
               walk_at "w";obtain ⟨zs, gz, lz, Xz⟩ := (X.same sb).put MA (.inr mx) (ck.mk (q := 0) gb rfl) (rj (i := 0) (bf _) W1) kk;refine fj gz (fv (by lia)) rfl ?_;exact ⟨⟨_, rfl⟩, Xz⟩)
            | (refine ⟨b, 2, rfl, X.mix.bag, by decide, by decide, λd Hd d0 d1 Bd ud => ?_⟩
               replace X := X.upto MA ud Bd
               repeat' (first | walk_at "rd" | refine fX (λ_ => ?_) (λ_ => ?_))
               all_goals first
                 | exact ⟨⟨_, rfl⟩, X⟩
                 | (refine bU λt Hb sb gb => ?_
                    walk_at "w";obtain ⟨zs, gz, lz, Xz⟩ := (X.same sb).put MA (.inr mx) (ck.mk (q := 0) gb rfl) (rj (i := 0) (bf _) W1) kk;refine fj gz (fv (by lia)) rfl ?_;exact ⟨⟨_, rfl⟩, Xz⟩))
        · rintro σ' Hk ⟨⟨y2, rfl⟩, X⟩;exact ⟨⟨_, _, rfl⟩, X⟩
    · rintro σ' Hj ⟨⟨x1, x2, rfl⟩, X⟩
      obtain ⟨M1, M2, M3, V0, a1, a2, a3, V2, hcs, R1, R2, R3⟩ : ∃ M1 M2 M3 V0 : Nat, (0 < M1 /\ M1 ≤ 2 ^ 800) /\ (0 < M2 /\ M2 ≤ 2 ^ 800) /\ (0 < M3 /\ M3 ≤ 2 ^ 800) /\ V0 ≤ 2 ^ 20 /\ ((w ≤ 9 /\ M1 = 2520 /\ M2 = 2520 /\ M3 = 2520 /\ V0 = 9) \/ (9 < w /\ M1 ≤ 2 ^ (c * (n * n)) /\ M2 ≤ 2 ^ (c * (i * n)) /\ M3 ≤ 2 ^ (c * (o * n)) /\ V0 = 2 ^ c)) /\ (∀ x ∈ us, fK K A Hj n (Fr M1 V0) x) /\ (∀ x ∈ ws, fK K A Hj n (Fr M2 V0) x) /\ ∀ x ∈ vs, fK K A Hj n (Fr M3 V0) x := by
        by_cases w9 : w ≤ 9
        · have XM := X.mix.weak (C' := λ_ => Fr 2520 9) λ_ _ y h => KY ⟨ai h.1 (by lia), ai h.2 (by lia)⟩ (yS _)
          have z : 0 < 2520 /\ 2520 ≤ 2 ^ 800 := ⟨by decide, ai (show 2520 ≤ 2 ^ 12 by decide) (au (by decide) (by decide))⟩;exact ⟨2520, 2520, 2520, 9, z, z, z, by decide, .inl ⟨w9, rfl, rfl, rfl, rfl⟩, λx hx => XM.row x (by simp [hx]), λx hx => XM.row x (by simp [hx]), λx hx => XM.row x (by simp [hx])⟩
        · obtain ⟨M1, M2, M3, a1, a2, a3, b1, b2, b3, R1, R2, R3⟩ := (X.mix.weak (C' := λ_ => Dr (2 ^ c)) λ_ _ y h => ⟨ai h.1 hc, ai h.2 hc⟩).fr3;rw [lws] at b2;rw [lvs] at b3;have up : ∀ {M k : Nat}, M ≤ 2 ^ (c * k) → k ≤ (n + i + o) * n → M ≤ 2 ^ 800 := λh hk => ai h (au (by decide) (ai (aF _ hk) hcM))
          exact ⟨M1, M2, M3, 2 ^ c, ⟨a1, up b1 (ay _ (by lia))⟩, ⟨a2, up b2 (ay _ (by lia))⟩, ⟨a3, up b3 (ay _ (by lia))⟩, au (by decide) hc20, .inr ⟨by lia, b1, b2, b3, rfl⟩, R1, R2, R3⟩
      obtain ⟨μ, e2, e3, e1, e4⟩ := Kg ws vs M1 M2 M3;obtain ⟨ap1, ap2⟩ := X.mix.apart
      have XM : jI K A Hj n (λx => Fr (μ x) V0) m p l b q0 us ws vs := by
        refine ⟨X.mix.bag, X.mix.inn, X.mix.gm, X.mix.gp, X.mix.gl, X.mix.lm, λx hx => ?_, X.mix.nd⟩;rcases aw.mp hx with hx | hx
        · rcases aw.mp hx with hx | hx
          · rw [e1 x (ap1 x hx).1 (ap1 x hx).2]; exact R1 x hx
          · rw [e3 x hx (ap2 x hx)]; exact R3 x hx
        · rw [e2 x hx]; exact R2 x hx
      have p1 : ∀ x, 0 < μ x := λx => by
        rcases e4 x with e | e | e
        · rw [e]; exact a1.1
        · rw [e]; exact a2.1
        · rw [e]; exact a3.1
      have p2 : ∀ x, μ x ≤ 2 ^ 800 := λx => by
        rcases e4 x with e | e | e
        · rw [e]; exact a1.2
        · rw [e]; exact a2.2
        · rw [e]; exact a3.2
      have gmj := X.mix.gm;exists ⟨b, m, p, l, q0, n, V0, μ, A, us, ws, vs, rfl, MA, XM, n8, by lia, by lia, p1, p2, ⟨M1, e1⟩, V2, λq hq => ?_, λr us' H' g Y kp => ?_⟩
      · refine mkA ?_ (λz => by rw [z, gmj] at hq; cases hq) (λz => by rw [z, X.gp] at hq; cases hq) (λz => by rw [z, X.gl] at hq; cases hq);cases e : H q with
        | none => rfl
        | some u =>
          have := X.kp q u e (λz => X.mix.bag.at (by rw [<- z]; exact hq)) (λz => by have := (unA z).1; rw [e] at this; cases this) (λz => by rw [z, hm0] at e; cases e);rw [hq] at this; cases this
      · obtain ⟨yp1, yp2⟩ := Y.apart;obtain ⟨mv, Gm, lmv, hmv⟩ := jU (H0 := H) (n := n) (C := Fr M1 (9 ^ 3 * V0)) (m := n) ⟨us', Y.gm, Y.lm, MA.am, λx hx => by have := Y.row x (by simp [hx]); rwa [e1 x (yp1 x hx).1 (yp1 x hx).2] at this⟩ λq h => (unA h).1
        obtain ⟨pt, Gp, lpt, hpt⟩ := jU (H0 := H) (n := n) (C := Fr M2 (9 ^ 3 * V0)) (m := i) ⟨ws, Y.gp, lws, MA.ap, λx hx => by have := Y.row x (by simp [hx]); rwa [e2 x hx] at this⟩ λq h => (unA h).1
        obtain ⟨lk, Gl, llk, hlk⟩ := jU (H0 := H) (n := n) (C := Fr M3 (9 ^ 3 * V0)) (m := o) ⟨vs, Y.gl, lvs, MA.al, λx hx => by have := Y.row x (by simp [hx]); rwa [e3 x hx (yp2 x hx)] at this⟩ λq h => (unA h).1
        refine k r mv pt lk H' ⟨m, p, l, g, hm0, hp0, hl0, Gm, Gp, Gl⟩ lmv lpt llk ⟨by lia, by lia, by lia, λxs hx => by rw [(hmv xs hx).1, lmv], λxs hx => by rw [(hpt xs hx).1, lmv], λxs hx => by rw [(hlk xs hx).1, lmv]⟩ ⟨M1, M2, M3, 9 ^ 3 * V0, a1.1, a2.1, a3.1, λxs hx => (hmv xs hx).2, λxs hx => (hpt xs hx).2, λxs hx => (hlk xs hx).2, ?_⟩ Y.bag ⟨λc' u e n1 => (X.kp.trans kp) c' u e n1 (λz => by have := (unA z).1; rw [e] at this; cases this) (λz => by rw [z, hm0] at e; cases e), λq h => by rw [<- Inner.inj I0 h]; exact Y.inn⟩;rcases hcs with ⟨b1, b2, b3, b4, b5⟩ | ⟨b1, b2, b3, b4, b5⟩
        · exact .inl ⟨b1, b2, b3, b4, by rw [b5]⟩
        · exact .inr ⟨b1, b2, b3, b4, by rw [b5]⟩
theorem ik:bg ["_law_bag_here","_law_n","_law_ins","_law_outs","_law_wide"] ["_law_bag_here"] (aN mQ):=by walk_at "d"
theorem zT (T:Txt K mg Z):cI P w K mg base fM 6 Z.tx Z.sU ["_law_bag_here"] (LJ K):=by
 refine T.lM.F.ok ik (λvs H Q E h=>?_) (λcdv A outer s H vs Q E hr h=>?_)
 ·obtain ⟨b,rfl,_⟩:=h;rfl
 ·obtain ⟨b,rfl,hB,k⟩:=h
  refine ⟨_,(av (fF (cG (AV T) hr T.nk (ae (pv 0) ag)) (t8 rfl (cQ (aT (i:=1) ik.nd) (cQ (aT (i:=2) ik.nd) (cQ (aT (i:=3) ik.nd) (cQ (aT (i:=4) ik.nd) iU))))))
   (av (cP (bx eJ (cG (be T) hr T.aW (ae (pv 0) (ae ao ag))) ao (bD _)) (av (cP (bx eJ (cG (be T) hr T.aW (ae (pv 0) (ae ao ag))) ao (bD _)) (az (a7 (cN (ae (cG (uO T) hr T.jA (ae (pv 0) ag)) (ae ao ag))))) bO)
   (az (a7 (cN (ae (cG (oO T) hr T.jB (ae (pv 0) (ae (bH ff ao (cG (be T) hr T.aW (ae (pv 0) (ae ao ag)))) ag))) (ae ao ag)))))) bO)
   (az (a7 (cN (ae (cG (AX T) hr T.nC (ae (pv 0) (ae (pv 1) (ae (pv 2) (ae (pv 3) (ae (pv 4) ag)))))) (ae (bA (rS rfl) (by rfl) T.min PyProof.Rows.boot_min (ae (pv 4) (ae ao ag))) ag))))))),?_⟩
  refine aV (σ:=[some (.ref b),none,none,none,none]) rfl ?_;have sf:∀{mv pt lk:LR9} {M V1:Nat},0 < M->M<=2^400->V1<=2^30->GF M V1 mv->GF M V1 pt->GF M V1 lk->Ji mv pt lk:=λh0 h1 h2 a b c=>⟨_,_,h0,h1,ai h2 (au (by decide) (by decide)),a,b,c⟩
  exists ⟨b,rfl,hB,λr n i o w H1 g1 n5 i4 o4 hw h5 B1 u1=>?_⟩;exists ⟨b,16,rfl,B1,by decide,by decide,λv H2 v0 v1 B2 u2=>?_⟩;have u02:=u1.trans u2;exists fX (λh0=>?_) (λh0=>?_)
  ·exists ⟨b,2,rfl,B2,by decide,by decide,λv2 H3 _ _ B3 u3=>?_⟩;have u03:=u02.trans u3;exists fX (λh1=>?_) (λh1=>?_)
   ·exists ⟨b,rfl,B3,λr4 mv pt lk H4 P4 l6 D fm fp fl B4 u4=>?_⟩;exists bU λt H5 s5 g5=>?_
    exact k t r4 4 0 13 mv pt lk H5 g5 ((P4.weak λq h=>u03.none B3 h).same s5) D (sf (by decide) cV (by decide) fm fp fl) (yM (n0:=8) (by decide) (by decide) D.n8 (by decide) fm fp (by decide)) (.inl ⟨by decide,by decide,by decide,by decide,by decide,fm,fp,ai (ay _ (show mv.length+4<=12 by have:=D.n8;lia)) (by decide)⟩) (by decide) (by decide) (B4.same s5) ((u03.trans u4).same s5)
   ·exists ⟨b,3,rfl,B3,by decide,by decide,λv3 H4 v30 v31 B4 u4=>?_⟩;obtain ⟨v3,rfl⟩:=bX v30;have u04:=u03.trans u4;walk_at "w";rw[show ((6:Int)+(v3:Int))=((6+v3:Nat):Int) by lia];refine ⟨b,6+v3,rfl,B4,by lia,by lia,λr4 mv pt lk H5 P5 lm _ _ D fm fp fl B5 u5=>?_⟩;exists bU λt H6 s6 g6=>?_
    exact k t r4 4 0 4 mv pt lk H6 g6 ((P5.weak λq h=>u04.none B4 h).same s6) D (sf (by decide) cV (by decide) fm fp fl) (yM (n0:=8) (by decide) (by decide) D.n8 (by decide) fm fp (by decide)) (.inl ⟨by decide,by decide,by decide,by decide,by decide,(λxs hx x hx'=>(fm xs hx x hx').mono (by decide)),(λxs hx x hx'=>(fp xs hx x hx').mono (by decide)),ai (ay _ (show mv.length+4<=12 by have:=D.n8;lia)) (by decide)⟩) (by decide) (by decide) (B5.same s6) ((u04.trans u5).same s6)
  ·obtain ⟨c,hc,hc20,hcM⟩:∃c:Nat,max w 6<=2^c/\c<=20/\c*((n+i+o)*n)<=800/\(9 < w->c=20/\(n+i+o)*n<=20/\n<=2):=by
    have m1:(n+i+o)*n<=13*5:=aA (by lia) n5;rcases hw with rfl | rfl | ⟨rfl,n2⟩
    ·exact ⟨4,by decide,by decide,by lia,λz=>by lia⟩
    ·exact ⟨4,by decide,by decide,by lia,λz=>by lia⟩
    ·have m2:(n+i+o)*n<=10*2:=aA (by lia) n2;exact ⟨20,by decide,by decide,by lia,λ_=>⟨rfl,by lia,n2⟩⟩
   obtain ⟨hcM,hbig⟩:=hcM;exists ⟨b,n,i,o,w,c,rfl,B2,by lia,i4,o4,by lia,by lia,hc,hc20,hcM,λr4 mv pt lk H4 P4 lm lp ll D PF B4 u4=>?_⟩;have hmin:(if (1000:Int) < (w:Int) then (1000:Int) else (w:Int))=((min w 1000:Nat):Int):=by split <;> lia
   have PG:=PF;obtain ⟨M,V1,M0,fm,fp,fl,hcs⟩:=PF.n
   obtain ⟨a',c',KF,SF⟩:∃a' c',rE mv pt a' c'/\Ji mv pt lk:=by
    rcases hcs with ⟨w9,rfl,rfl⟩ | ⟨w9,M1,rfl⟩
    ·exact ⟨12,16,yM (n0:=5) (by decide) (by decide) (by lia) (by decide) fm fp (by decide),sf (by decide) (ai (show 2520<=2^12 by decide) (au (by decide) (by decide))) (by decide) fm fp fl⟩
    ·obtain ⟨rfl,e1,e2⟩:=hbig w9;have M4:M<=2^400:=ai M1 (au (by decide) (by lia));exact ⟨400,32,yM (n0:=2) M0 M4 (by lia) (by decide) fm fp (by decide),sf M0 M4 (by decide) fm fp fl⟩
   have RG:Rg mv pt (min w 1000):=by
    obtain ⟨M1,M2,M3,V1,a1,a2,a3,f1,f2,f3,hc'⟩:=PG;rcases hc' with ⟨w9,rfl,rfl,_,rfl⟩ | ⟨w9,b1,b2,_,rfl⟩
    ·exact .inr (.inl ⟨by lia,by lia,by decide,by decide,by decide,by decide,f1,f2,ai (ay _ (show mv.length+4<=9 by lia)) (by decide)⟩)
    ·obtain ⟨rfl,e1,e2⟩:=hbig w9;have q1:n*n<=2*2:=aA e2 e2;have q2:i*n<=4*2:=aA i4 e2;have w6:w=1000000:=by lia
     exact .inr (.inr ⟨by lia,by lia,M1,M2,a1,a2,ai b1 (au (by decide) (by lia)),ai b2 (au (by decide) (by lia)),f1,f2,ai (ay _ (show mv.length+4<=6 by lia)) (by decide)⟩)
   exists bU λt H5 s5 g5=>?_
   rw[hmin] at g5;exact k t r4 (min w 1000) a' c' mv pt lk H5 g5 ((P4.weak λq h=>u02.none B2 h).same s5) D SF KF RG (by lia) (by lia) (B4.same s5) ((u02.trans u4).same s5)
theorem CI:bg ["thing","at","most"] ["thing","at","most"] (aN qh):=by walk_at "d"
theorem oN (T:Txt K mg Z):cI P w K mg base fM 1 Z.xR Z.xx ["thing","at","most"] Gi:=by
 refine T.jx.F.ok CI (λvs H Q E h=>?_) (λcdv A outer s H vs Q E hr h=>?_)
 ·obtain ⟨p,xs,a,m,rfl,_⟩:=h;rfl
 ·obtain ⟨p,xs,a,m,rfl,gx,hm,k⟩:=h
  refine ⟨_,(av (cP (jv (gN (wM rfl T.isinstance PyProof.Rows.boot_list T.list (pv 0)))) (az J0) bO)
   (az (cP (bx pM (bA aX (by rfl) T.len aR (ae (pv 0) ag)) (pv 2) (bD _)) (az J0) bO))),?_⟩
  refine aV (σ:=[some (.ref p),some (.int a),some (.int m)]) rfl ?_;exists ⟨_,_,.lst gx,rfl,?_⟩;exists ⟨_,_,rfl,.inl (bN.of gx),?_⟩;walk_at "w";rw[decide_eq_false (show ¬m < (xs.length:Int) by lia)];exists k
theorem Ek:bg ["thing"] ["thing"] (aN tR):=by walk_at "d"
theorem xo (T:Txt K mg Z):cI P w K mg base fM 1 Z.Au Z.Ai ["thing"] Ie:=by
 refine T.mj.F.ok Ek (λvs H Q E h=>?_) (λcdv A outer s H vs Q E hr h=>?_)
 ·obtain ⟨i,rfl,_⟩:=h;rfl
 ·obtain ⟨i,rfl,k⟩:=h;refine ⟨_,(az (a7 (wN (wM rfl T.isinstance PyProof.Rows.boot_int T.int (pv 0)) (wL (OH (wM rfl T.isinstance PyProof.Rows.boot_bool T.bool (pv 0))))))),?_⟩;refine aV (σ:=[some (.int i)]) rfl ?_;exists ⟨_,_,.int i,rfl,?_⟩;exists ⟨_,_,.int i,rfl,?_⟩;exists k
theorem hJ:bg ["one","other","rest"] ["one","other"] (aN jN):=by walk_at "d"
theorem jw (T:Txt K mg Z):cI P w K mg base fM 1 Z.nU Z.nO ["one","other"] PU:=by
 refine T.fq.F.ok hJ (λvs H Q E h=>?_) (λcdv A outer s H vs Q E hr h=>?_)
 ·obtain ⟨a,b,rfl,_⟩:=h;rfl
 ·obtain ⟨a,b,rfl,k⟩:=h
  refine ⟨_,(av (zJ PassesOwn.never (bx uM (pv 1) ao (bD _))
    (av (a8 (i:=2) hJ.nd rfl (Or.inl rfl) (bH Mw (pv 0) (pv 1)))
   (av (a8 (i:=0) hJ.nd rfl (Or.inl rfl) (pv 1))
   (az (a8 (i:=1) hJ.nd rfl (Or.inl rfl) (pv 2))))))
   (az (a7 (bA vC (by rfl) T.abs PyProof.Rows.boot_abs (ae (pv 0) ag))))),?_⟩
  refine aV (σ:=[some (.int a),some (.int b),none]) rfl ?_;exists Cu (λσ' H'=>∃(u v:Int) (r:Option V),σ'=[some (.int u),some (.int v),r]/\H'=H/\Int.gcd u v=Int.gcd a b) (λσ' _=>match σ' with | [_,some (.int v),_]=>v.natAbs | _=>0) ⟨a,b,none,rfl,rfl,rfl⟩ ?_;rintro σ' H' ⟨u,v,r,rfl,rfl,hg⟩;exists fX (λh=>?_) (λh=>?_)
  ·have hv:v≠0:=λz=>by subst z;simp at h
   exists fE (show v≠0 from hv) ?_;exists ⟨⟨v,u.fmod v,_,rfl,rfl,(KJ u v).trans hg⟩,MJ u v hv⟩
  ·have hv:v=0:=by
    by_cases z:v=0
    ·exact z
    ·exfalso;apply h;simp [z]
   subst hv;walk_at "w"
   have e:(if u < 0 then -u else u)=g a b:=by
    unfold g;rw[<- hg,Int.gcd_zero_right]
    split <;> lia
   rw[e];exact k
theorem CL:bg ["thing"] ["thing"] (aN qq):=by walk_at "d"
theorem C7 (T:Txt K mg Z):cI P w K mg base fM 2 Z.xU Z.xB ["thing"] (Ii K):=by
 refine T.oT.F.ok CL (λvs H Q E h=>?_) (λcdv A outer s H vs Q E hr h=>?_)
 ·obtain ⟨x,n,rfl,_⟩:=h;rfl
 ·obtain ⟨x,n,rfl,⟨p,rfl,hp⟩,hn,k⟩:=h
  refine ⟨_,(av (cP (PW.pt (nJ (jv (gN (mi rfl T.isinstance PyProof.Rows.boot_tuple T.tuple (pv 0)))) (kF (bx uM (bA aX (by rfl) T.len aR (ae (pv 0) ag)) ao (bD _))))) (az (a7 pL)) bO)
   (av (cP (PW.pt (nJ (jv (gN (cG (xo T) hr T.mj (ae (aY bM (pv 0) ao) ag)))) (kF (jv (gN (cG (xo T) hr T.mj (ae (aY bM (pv 0) ao) ag))))))) (az (a7 pL)) bO)
   (az (a7 (wN (gO By (aY bM (pv 0) ao) ao (bD _)) (wL (gO eJ (cG (jw T) hr T.fq (ae (aY bM (pv 0) ao) (ae (aY bM (pv 0) ao) ag))) ao (bD _)))))))),?_⟩
  refine aV (σ:=[some (.ref p)]) rfl ?_;obtain ⟨hb,hg,s1,s2⟩:=hn;exists .inr ⟨p,_,_,rfl,hp,rfl,?_⟩;exists ⟨_,_,rfl,.inr hp,?_⟩;walk_at "w"
  try refine Kv ?_
  exists ⟨n.1,rfl,?_⟩;exists ⟨n.2,rfl,?_⟩;walk_at "w";rw[decide_eq_true (show (1:Int)<=n.2 by lia)];exists ⟨n.1,n.2,rfl,?_⟩;walk_at "w";have e:g n.1 n.2=1:=by unfold g;rw[hg];rfl
  rw[e,decide_eq_true rfl];exact k _ (aG.refl _)
theorem Il:bg ["thing","many"] ["thing","many"] (aN zD):=by walk_at "d"
theorem ID (T:Txt K mg Z):cI P w K mg base fM 3 Z.E6 Z.EU ["thing","many"] (wd K):=by
 refine T.wO.F.ok Il (λvs H Q E h=>?_) (λcdv A outer s H vs Q E hr h=>?_)
 ·obtain ⟨p,ns,rfl,_⟩:=h;rfl
 ·obtain ⟨p,ns,rfl,hp,hl,hn,k⟩:=h
  refine ⟨_,(av (cP (PW.pt (nJ (jv (gN (wM rfl T.isinstance PyProof.Rows.boot_list T.list (pv 0)))) (kF (bx uM (bA aX (by rfl) T.len aR (ae (pv 0) ag)) (pv 1) (bD _))))) (az (a7 pL)) bO)
   (az (a7 (bA (Ar rfl) (by rfl) T.all PyProof.Rows.boot_all (ae (cA ["value"] [] [] (cE (pv 0)) (λ_=>(aT (i:=0) (show ND9 ["value"] by decide +kernel))) (λ_=>cC) (λ_=>(cG (C7 T) hr T.oT (ae (pv 0) ag)))) ag))))),?_⟩
  refine aV (σ:=[some (.ref p),some (.int ns.length)]) rfl ?_;obtain ⟨xs,gx,qx⟩:=id hp;have lx:=qx.length;exists ⟨_,_,.lst gx,rfl,?_⟩;exists ⟨_,_,rfl,.inl (bN.of gx),?_⟩;walk_at "w";rw[show ((xs.length:Nat):Int)=(ns.length:Nat) by rw[lx],decide_eq_true rfl];exists ⟨⟨_,bN.of gx⟩,?_⟩;refine fZ (K:=K) (xs:=xs) (λi ys H'=>aG H H'/\ys=List.replicate i (.bl true)) (aZ (bC (by lia))) ⟨aG.refl _,rfl⟩ (λi ys H' _ ⟨s,_⟩=>bN.of (s _ _ gx)) ?_ ?_
  ·rintro i x ys H' hx hlen ⟨s,rfl⟩;obtain ⟨n,en,z⟩:=cm qx hx;exists ⟨x,n,rfl,s.num z,hn n (ax en),λH2 s2=>⟨s.trans s2,by rw[Cp]⟩⟩
  ·rintro ys H' hy ⟨s,rfl⟩ l hl';exists ⟨l,List.replicate xs.length true,rfl,bN.of (by rw[aK];simp),?_⟩;have e4:(List.replicate xs.length true).all id=true:=by simp
   rw[e4];exact k _ (s.trans (aG.new hl'))
theorem lB:bg ["things","wide","place","thing"] ["things","wide"] (aN mP):=by walk_at "d"
theorem lF (T:Txt K mg Z):cI P w K mg base fM 4 Z.tw Z.sT ["things","wide"] (Gv K):=by
 refine T.ir.F.ok lB (λvs H Q E h=>?_) (λcdv A outer s H vs Q E hr h=>?_)
 ·obtain ⟨p,H0,rows,w,rfl,_⟩:=h;rfl
 ·obtain ⟨p,H0,rows,w,rfl,hp,hl,hw,hn,k⟩:=h
  refine ⟨_,(av (dO PassesOwn.never rfl (Ms rfl T.enumerate (ae (pv 0) ag)) (t8 rfl (cQ (aT (i:=2) lB.nd) (cQ (aT (i:=3) lB.nd) iU)))
    (az (cP (jv (gN (cG (ID T) hr T.wO (ae (pv 3) (ae (pv 1) ag))))) (az J0) bO)))
   (az (a7 (cA ["row"] [] [] (cE (pv 0)) (λ_=>(aT (i:=0) (show ND9 ["row"] by decide +kernel))) (λ_=>cC) (λ_=>(dI (eV K (by rfl)) (by rfl) T.list PyProof.Rows.boot_list (ae (pv 0) ag))))))),?_⟩
  refine aV (σ:=[some (.ref p),some (.int w),none,none]) rfl ?_;obtain ⟨xs,gx,qx,_⟩:=id hp;exists ⟨⟨_,bN.of gx⟩,?_⟩;refine KP (K:=K) (l:=p) (xs:=xs) (λi σ' H'=>aG H H'/\∃x y,σ'=[some (.ref p),some (.int w),x,y]) ⟨aG.refl _,none,none,rfl⟩ (λi σ' H' _ ⟨s,_⟩=>bN.of (s _ _ gx)) ?_ ?_
  ·rintro i x σ' H' t hx ⟨s,x1,y1,rfl⟩ ht;obtain ⟨qs,eq,q,rfl,_,Rq⟩:=cm qx hx;have hm:=ax eq;have st:aG H' (upd H' t (.tup [.int i,.ref q])):=aG.new ht;have gt:(upd H' t (.tup [.int i,.ref q])) t=some (.tup [.int i,.ref q]):=aK;have s2:=s.trans st;generalize upd H' t (.tup [.int i,.ref q])=H2 at st gt s2 ⊢;have lq:(qs.map nm).length=w:=by rw[ar];exact (hn qs hm).1
   exists ⟨q,_,by rw[lq],(Rq.same s2).rowK,by rw[lq];exact hw,λn hn'=>?_,λH3 s3=>?_⟩
   ·obtain ⟨y,hy,rfl⟩:=aD.mp hn';exact (hn qs hm).2 y hy
   exists ⟨s2.trans s3,_,_,rfl⟩
  ·rintro σ' H' ⟨s,x1,y1,rfl⟩;exists ⟨⟨_,bN.of (s _ _ gx)⟩,?_⟩;refine dJ (K:=K) (F:=c4 K H0) (c4 K H) id (s _ _ gx) (Paired.imp' (λ_ _ z=>z.same s) qx) hl (λa b=>a.same b) (λa b=>a.same b) ?_ ?_
   ·rintro i ns x H2 NY NN en s2 ⟨u,rfl,_,zs,gz,qz⟩ k1;exists ⟨u,zs,rfl,.inl (bN.of gz),λl1 hl1=>?_⟩;exact k1 _ _ (aG.new hl1) ⟨l1,rfl,s.none (s2.none hl1),zs,aK,Paired.imp' (λ_ _ z=>z.same (aG.new hl1)) qz⟩
   ·rintro ys' H2 r hr s2 g pr nx;rw[ia] at pr nx;exact k r H2 (s.none hr) (s.trans s2) ⟨ys',g,pr,je nx⟩
theorem tQ:bg ["self","move","put","look"] ["self","move","put","look"] (aN eC):=by walk_at "d"
theorem ug (T:Txt K mg Z):cI P w K mg base fM 5 Z.jG Z.jF ["self","move","put","look"] (Gn K Z.a_System):=by
 refine T.mF.ok tQ (λvs H Q E h=>?_) (λcdv A outer s H vs Q E hr h=>?_)
 ·obtain ⟨x,dx,p,q,r,Hb,H0,H1,H2,mv,pt,lk,rfl,_⟩:=h;rfl
 ·obtain ⟨x,dx,p,q,r,Hb,H0,H1,H2,mv,pt,lk,rfl,nx,ndx,nex,rfl,gp,gq,gr,D,om,op,ol,k⟩:=h
  refine ⟨_,(av (hZ (cG (oN T) hr T.jx (ae (pv 1) (ae ao (ae (uK (v:=.int 8) rfl T.mg_MOST_STATES ⟨_,rfl⟩) ag)))))
   (av (wI (pv 0) (cG (lF T) hr T.ir (ae (pv 1) (ae (bA aX (by rfl) T.len aR (ae (pv 1) ag)) ag))) rfl)
   (av (wI (pv 0) (bA aX (by rfl) T.len aR (ae (iZ (pv 0) rfl) ag)) rfl)
   (av (hZ (cG (oN T) hr T.jx (ae (pv 2) (ae ao (ae (uK (v:=.int 4) rfl T.mg_MOST_PUTS ⟨_,rfl⟩) ag)))))
   (av (wI (pv 0) (cG (lF T) hr T.ir (ae (pv 2) (ae (iZ (pv 0) rfl) ag))) rfl)
   (av (wI (pv 0) (bA aX (by rfl) T.len aR (ae (iZ (pv 0) rfl) ag)) rfl)
   (av (hZ (cG (oN T) hr T.jx (ae (pv 3) (ae ao (ae (uK (v:=.int 4) rfl T.mg_MOST_LOOKS ⟨_,rfl⟩) ag)))))
   (av (wI (pv 0) (cG (lF T) hr T.ir (ae (pv 3) (ae (iZ (pv 0) rfl) ag))) rfl)
   (az (wI (pv 0) (bA aX (by rfl) T.len aR (ae (iZ (pv 0) rfl) ag)) rfl)))))))))),?_⟩
  refine aV (σ:=[some (.ref x),some (.ref p),some (.ref q),some (.ref r)]) rfl ?_
  have s0:aG Hb (upd (upd Hb dx (.own x)) x (.ins Z.a_System dx [])):=λb o e=>by
   rw[bG (fG e nx),bG (fG e ndx)];exact e
  have hx:(upd (upd Hb dx (.own x)) x (.ins Z.a_System dx [])) x=some (.ins Z.a_System dx []):=aK;have back:∀{b},(upd (upd Hb dx (.own x)) x (.ins Z.a_System dx [])) b=none->Hb b=none:=λh=>s0.none h
  generalize upd (upd Hb dx (.own x)) x (.ins Z.a_System dx [])=Ha at s0 hx back ⊢;obtain ⟨xs,gx,qx,_⟩:=id gp;obtain ⟨ys,gy,qy,_⟩:=id gq;obtain ⟨zs,gz,qz,_⟩:=id gr;have lx:=qx.length;have ly:=qy.length;have lz:=qz.length;have d1:=D.n8;have d2:=D.i4;have d3:=D.o4;exists ⟨p,xs,0,8,rfl,s0 _ _ gx,by lia,?_⟩;exists ⟨_,_,rfl,.inl (bN.of (s0 _ _ gx)),?_⟩;exists ⟨p,H0,mv,mv.length,by rw[lx],gp.same s0,by lia,by lia,λws hw=>⟨D.mw ws hw,om ws hw⟩,λa H3 na s3 Ga=>?_⟩;have hx3:=s3 _ _ hx;exists ⟨x,Z.a_System,dx,_,rfl,hx3,T.cl_System,T.na_move,(by show 0 < 1000;decide),?_⟩;have e3:DR x H3 (upd H3 x (.ins Z.a_System dx (cx "move" (.ref a) []))):=DR.upd;have i3:tG H3 x:=⟨_,_,_,hx3⟩;have hx4:(upd H3 x (.ins Z.a_System dx (cx "move" (.ref a) []))) x=some (.ins Z.a_System dx (cx "move" (.ref a) [])):=aK;have Ga4:=Ga.exc e3 i3;have k4:aG Hb (upd H3 x (.ins Z.a_System dx (cx "move" (.ref a) []))):=(s0.trans s3).after nx;generalize upd H3 x (.ins Z.a_System dx (cx "move" (.ref a) []))=H4 at e3 hx4 Ga4 k4 ⊢;exists ⟨x,Z.a_System,dx,_,_,rfl,hx4,T.cl_System,T.na_move,(by rw[bL,if_pos rfl]),?_⟩;obtain ⟨as,ga,qa,_⟩:=id Ga4;have la:=qa.length;exists ⟨_,_,rfl,.inl (bN.of ga),?_⟩;exists ⟨x,Z.a_System,dx,_,rfl,hx4,T.cl_System,T.na_states,br eH (by show 1 < 1000;decide),?_⟩;rw[show ((as.length:Nat):Int)=((mv.length:Nat):Int) by rw[la]];have e4:DR x H4 (upd H4 x (.ins Z.a_System dx (cx "states" (.int mv.length) (cx "move" (.ref a) [])))):=DR.upd;have i4:tG H4 x:=⟨_,_,_,hx4⟩;have hx5:(upd H4 x (.ins Z.a_System dx (cx "states" (.int mv.length) (cx "move" (.ref a) [])))) x=some (.ins Z.a_System dx (cx "states" (.int mv.length) (cx "move" (.ref a) []))):=aK;have Ga5:=Ga4.exc e4 i4;have k5:aG Hb (upd H4 x (.ins Z.a_System dx (cx "states" (.int mv.length) (cx "move" (.ref a) [])))):=k4.after nx;generalize upd H4 x (.ins Z.a_System dx (cx "states" (.int mv.length) (cx "move" (.ref a) [])))=H5 at e4 hx5 Ga5 k5 ⊢;clear e3 e4 i3 i4 hx4 Ga4 ga qa;exists ⟨q,ys,1,4,rfl,k5 _ _ gy,by lia,?_⟩;exists ⟨x,Z.a_System,dx,_,_,rfl,hx5,T.cl_System,T.na_states,(by rw[bL,if_pos rfl]),?_⟩;exists ⟨q,H1,pt,mv.length,rfl,gq.same k5,by lia,by lia,λws hw=>⟨D.pw ws hw,op ws hw⟩,λb H6 nb s6 Gb=>?_⟩;have hx6:=s6 _ _ hx5;have i6:tG H6 x:=⟨_,_,_,hx6⟩;exists ⟨x,Z.a_System,dx,_,rfl,hx6,T.cl_System,T.na_put,br eH (br (dB eH) (by show 2 < 1000;decide)),?_⟩;have e6:DR x H6 (upd H6 x (.ins Z.a_System dx (cx "put" (.ref b) (cx "states" (.int mv.length) (cx "move" (.ref a) []))))):=DR.upd;have hx7:(upd H6 x (.ins Z.a_System dx (cx "put" (.ref b) (cx "states" (.int mv.length) (cx "move" (.ref a) []))))) x=some (.ins Z.a_System dx (cx "put" (.ref b) (cx "states" (.int mv.length) (cx "move" (.ref a) [])))):=aK;have Ga7:=(Ga5.same s6).exc e6 i6;have Gb7:=(Gb.weak k5).exc e6 i6;have k7:aG Hb (upd H6 x (.ins Z.a_System dx (cx "put" (.ref b) (cx "states" (.int mv.length) (cx "move" (.ref a) []))))):=(k5.trans s6).after nx;generalize upd H6 x (.ins Z.a_System dx (cx "put" (.ref b) (cx "states" (.int mv.length) (cx "move" (.ref a) []))))=H7 at e6 hx7 Ga7 Gb7 k7 ⊢;obtain ⟨bs,gb,qb,_⟩:=id Gb7;have lb:=qb.length;exists ⟨x,Z.a_System,dx,_,_,rfl,hx7,T.cl_System,T.na_put,(by rw[bL,if_pos rfl]),?_⟩;exists ⟨_,_,rfl,.inl (bN.of gb),?_⟩;exists ⟨x,Z.a_System,dx,_,rfl,hx7,T.cl_System,T.na_ins,br eH (br (dB (ai eH (dB eH))) (by show 3 < 1000;decide)),?_⟩;rw[show ((bs.length:Nat):Int)=((pt.length:Nat):Int) by rw[lb]];have i7:tG H7 x:=⟨_,_,_,hx7⟩;have e7:DR x H7 (upd H7 x (.ins Z.a_System dx (cx "ins" (.int pt.length) (cx "put" (.ref b) (cx "states" (.int mv.length) (cx "move" (.ref a) [])))))):=DR.upd;have hx8:(upd H7 x (.ins Z.a_System dx (cx "ins" (.int pt.length) (cx "put" (.ref b) (cx "states" (.int mv.length) (cx "move" (.ref a) [])))))) x=some (.ins Z.a_System dx (cx "ins" (.int pt.length) (cx "put" (.ref b) (cx "states" (.int mv.length) (cx "move" (.ref a) []))))):=aK;have Ga8:=Ga7.exc e7 i7;have Gb8:=Gb7.exc e7 i7;have k8:aG Hb (upd H7 x (.ins Z.a_System dx (cx "ins" (.int pt.length) (cx "put" (.ref b) (cx "states" (.int mv.length) (cx "move" (.ref a) [])))))):=k7.after nx;generalize upd H7 x (.ins Z.a_System dx (cx "ins" (.int pt.length) (cx "put" (.ref b) (cx "states" (.int mv.length) (cx "move" (.ref a) [])))))=H8 at e7 hx8 Ga8 Gb8 k8 ⊢;clear e6 e7 i6 i7 hx7 Ga7 Gb7 gb qb;exists ⟨r,zs,2,4,rfl,k8 _ _ gz,by lia,?_⟩;exists ⟨x,Z.a_System,dx,_,_,rfl,hx8,T.cl_System,T.na_states,(by rw[bL,if_neg (by decide +kernel),bL,if_neg (by decide +kernel),bL,if_pos rfl]),?_⟩;exists ⟨r,H2,lk,mv.length,rfl,gr.same k8,by lia,by lia,λws hw=>⟨D.lw ws hw,ol ws hw⟩,λc H9 nc s9 Gc=>?_⟩;have hx9:=s9 _ _ hx8;have i9:tG H9 x:=⟨_,_,_,hx9⟩;exists ⟨x,Z.a_System,dx,_,rfl,hx9,T.cl_System,T.na_look,br eH (br (dB (ai eH (dB (ai eH (dB eH))))) (by show 4 < 1000;decide)),?_⟩;have e9:DR x H9 (upd H9 x (.ins Z.a_System dx (cx "look" (.ref c) (cx "ins" (.int pt.length) (cx "put" (.ref b) (cx "states" (.int mv.length) (cx "move" (.ref a) []))))))):=DR.upd;have hxA:(upd H9 x (.ins Z.a_System dx (cx "look" (.ref c) (cx "ins" (.int pt.length) (cx "put" (.ref b) (cx "states" (.int mv.length) (cx "move" (.ref a) []))))))) x=some (.ins Z.a_System dx (cx "look" (.ref c) (cx "ins" (.int pt.length) (cx "put" (.ref b) (cx "states" (.int mv.length) (cx "move" (.ref a) [])))))):=aK;have GaA:=(Ga8.same s9).exc e9 i9;have GbA:=(Gb8.same s9).exc e9 i9;have GcA:=(Gc.weak k8).exc e9 i9;have kA:aG Hb (upd H9 x (.ins Z.a_System dx (cx "look" (.ref c) (cx "ins" (.int pt.length) (cx "put" (.ref b) (cx "states" (.int mv.length) (cx "move" (.ref a) []))))))):=(k8.trans s9).after nx;generalize upd H9 x (.ins Z.a_System dx (cx "look" (.ref c) (cx "ins" (.int pt.length) (cx "put" (.ref b) (cx "states" (.int mv.length) (cx "move" (.ref a) []))))))=HA at e9 hxA GaA GbA GcA kA ⊢;obtain ⟨cs,gc,qc,_⟩:=id GcA;have lc:=qc.length;exists ⟨x,Z.a_System,dx,_,_,rfl,hxA,T.cl_System,T.na_look,(by rw[bL,if_pos rfl]),?_⟩;exists ⟨_,_,rfl,.inl (bN.of gc),?_⟩;exists ⟨x,Z.a_System,dx,_,rfl,hxA,T.cl_System,T.na_outs,br eH (br (dB (ai eH (dB (ai eH (dB (ai eH (dB eH))))))) (by show 5 < 1000;decide)),?_⟩;rw[show ((cs.length:Nat):Int)=((lk.length:Nat):Int) by rw[lc]];have iA:tG HA x:=⟨_,_,_,hxA⟩;exact k _ (kA.after nx) ⟨dx,a,b,c,aK,back na,k5.none nb,k8.none nc,(GaA.exc DR.upd iA).weak s0,GbA.exc DR.upd iA,GcA.exc DR.upd iA⟩
theorem zA:bg ["_law_grid"] ["_law_grid"] (aN mU):=by walk_at "d"
theorem lG (T:Txt K mg Z):cI P w K mg base fM 1 Z.tF Z.sY ["_law_grid"] (zm K):=by
 refine T.iw.F.ok zA (λvs H Q E h=>?_) (λcdv A outer s H vs Q E hr h=>?_)
 ·obtain ⟨p,H0,rows,rfl,_⟩:=h;rfl
 ·obtain ⟨p,H0,rows,rfl,hp,hl,hm,k⟩:=h;refine ⟨_,(az (a7 (cA ["_law_row_here"] [] [] (cE (pv 0)) (λ_=>(aT (i:=0) (show ND9 ["_law_row_here"] by decide +kernel))) (λ_=>cC) (λ_=>(dI (eV K (by rfl)) (by rfl) T.list PyProof.Rows.boot_list (ae (pv 0) ag)))))),?_⟩;refine aV (σ:=[some (.ref p)]) rfl ?_;obtain ⟨xs,gx,qx,_⟩:=id hp;exists ⟨⟨_,bN.of gx⟩,?_⟩;refine dJ (K:=K) (F:=c4 K H0) (c4 K H) id gx qx hl (λa b=>a.same b) (λa b=>a.same b) ?_ ?_
  ·rintro i ns x H' NY NN en s ⟨u,rfl,_,zs,gz,qz⟩ k1;exists ⟨u,zs,rfl,.inl (bN.of gz),λl1 hl1=>?_⟩;exact k1 _ _ (aG.new hl1) ⟨l1,rfl,s.none hl1,zs,aK,Paired.imp' (λ_ _ z=>z.same (aG.new hl1)) qz⟩
  ·rintro ys' H' r hr s g pr nx;rw[ia] at pr nx;exact k r H' hr s ⟨ys',g,pr,je nx⟩
theorem CV:bg ["_law_parts_here"] ["_law_parts_here"] (aN qJ):=by walk_at "d"
theorem Dj (T:Txt K mg Z):cI P w K mg base fM 7 Z.ye Z.xK ["_law_parts_here"] (yZ K Z.a_System):=by
 refine T.oZ.F.ok CV (λvs H Q E h=>?_) (λcdv A outer s H vs Q E hr h=>?_)
 ·obtain ⟨r,H0,mv,pt,lk,rfl,_⟩:=h;rfl
 ·obtain ⟨r,H0,mv,pt,lk,rfl,PQ,D,F,k⟩:=h;refine ⟨_,(az (a7 (Mu T.mk_System (ug T) (hr.mono (by decide)) rfl T.mg_System T.mD .nil Bv (ae (cG (lG T) hr T.iw (ae (aY bM (pv 0) ao) ag)) (ae (cG (lG T) hr T.iw (ae (aY bM (pv 0) ao) ag)) (ae (cG (lG T) hr T.iw (ae (aY bM (pv 0) ao) ag)) ag)))))),?_⟩;refine aV (σ:=[some (.ref r)]) rfl ?_;obtain ⟨m,p,l,g,n1,n2,n3,Gm,Gp,Gl⟩:=id PQ;have d1:=D.n8;have d2:=D.i4;have d3:=D.o4;exists ⟨m,H0,mv,rfl,Gm,by lia,λxs hx=>by rw[D.mw xs hx];lia,λa H1 na s1 Ga=>?_⟩;have g1:=s1 _ _ g;exists ⟨p,H0,pt,rfl,Gp.same s1,by lia,λxs hx=>by rw[D.pw xs hx];lia,λb H2 nb s2 Gb=>?_⟩;have s12:=s1.trans s2;have g2:=s12 _ _ g;exists ⟨l,H0,lk,rfl,Gl.same s12,by lia,λxs hx=>by rw[D.lw xs hx];lia,λc H3 nc s3 Gc=>?_⟩;have s13:=s12.trans s3;walk_at "w";intro x dx nx ndx nex;exact ⟨x,dx,a,b,c,H3,H,H1,H2,mv,pt,lk,rfl,nx,ndx,nex,rfl,(Ga.same s2).same s3,Gb.same s3,Gc,D,F.ok.1,F.ok.2.1,F.ok.2.2,λH' s' S'=>⟨rfl,k x H' (s13.none nx) (s13.trans s') (S'.weak s13)⟩⟩
theorem jZ:bg ["_law_bag_here","_law_parts_here","_law_bottoms","_law_row_here"] ["_law_bag_here","_law_parts_here"] (aN oC):=by walk_at "d"
theorem AS (T:Txt K mg Z):cI P w K mg base fM 2 Z.vI Z.vn ["_law_bag_here","_law_parts_here"] (Be K):=by
 refine T.ni.F.ok jZ (λvs H Q E h=>?_) (λcdv A outer s H vs Q E hr h=>?_)
 ·obtain ⟨b,r,H0,mv,pt,lk,rfl,_⟩:=h;rfl
 ·obtain ⟨b,r,H0,mv,pt,lk,rfl,hB,nb,PQ,D,sz,k⟩:=h
  refine ⟨_,(av (a8 (i:=2) jZ.nd rfl (Or.inl rfl) (df (ae ao ag)))
   (av (dO PassesOwn.never rfl (cE (bH i8 (aY bM (pv 1) ao) (aY bM (pv 1) ao))) (aT (i:=3) jZ.nd)
    (az (a8 (i:=2) jZ.nd rfl (Or.inl rfl) (bH i8 (pv 2) (cA ["_law_one"] [] [] (cE (pv 3)) (λ_=>(aT (i:=0) (show ND9 ["_law_one"] by decide +kernel))) (λ_=>cC) (λ_=>(bH ff (aY (o7 K (by rfl)) (pv 0) ao) (bH cY (bH iQ (bA vC (by rfl) T.abs PyProof.Rows.boot_abs (ae (aY (o7 K (by rfl)) (pv 0) ao) ag)) ao) ao))))))))
   (av (cP (bx pM (bA (IZ rfl) (by rfl) T.max PyProof.Rows.boot_max (ae (pv 2) ag)) ao (bD _)) (az (a7 (cG (be T) hr T.aW (ae (pv 0) (ae ao ag))))) bO)
   (av (cP (bx pM (bA aX (by rfl) T.len aR (ae (aY bM (pv 1) ao) ag)) ao (bD _)) (az (a7 (aY bS (df (ae (cG (be T) hr T.aW (ae (pv 0) (ae ao ag))) (ae (bA aX (by rfl) T.len aR (ae (aY bM (pv 1) ao) ag)) ag))) (cG (be T) hr T.aW (ae (pv 0) (ae ao ag)))))) bO)
   (av (cP (PW.pt (iY (bx qU (bA aX (by rfl) T.len aR (ae (aY bM (pv 1) ao) ag)) ao (bD _)) (ju (bx eJ (cG (be T) hr T.aW (ae (pv 0) (ae ao ag))) ao (bD _))))) (az (a7 (cG (be T) hr T.aW (ae (pv 0) (ae ao ag))))) bO)
   (az (a7 (cG (be T) hr T.aW (ae (pv 0) (ae (bH ff ao (bA aX (by rfl) T.len aR (ae (aY bM (pv 1) ao) ag))) ag)))))))))),?_⟩
  refine aV (σ:=[some (.ref b),some (.ref r),none,none]) rfl ?_;have d8:=D.n8;have i4:=D.i4;obtain ⟨m,p,l,g,n1,n2,n3,Gm,Gp,Gl⟩:=id PQ;obtain ⟨um,gm,qm,_⟩:=id Gm;obtain ⟨up,gp,qp,_⟩:=id Gp;have lum:=qm.length;have lup:=qp.length;exists cW λbl0 H1 s1 nbl g1=>?_
  have g':=s1 _ _ g;exists iX (s1 _ _ gm) (s1 _ _ gp) (aZ (bC (by lia))) λcc H2 s2 nc gc=>?_
  have s02:=s1.trans s2;have qc:Paired (c4 K H0 H2) (mv++pt) (um++up):=Paired.imp' (λ_ _ z=>c4.same z s02) (bP qm qp)
  have wc:∀xs∈mv++pt,xs.length=mv.length:=λxs hx=>by
   rcases aw.mp hx with hx | hx
   ·exact D.mw xs hx
   ·exact D.pw xs hx
  have lc:(mv++pt).length=(um++up).length:=qc.length;rw[ak,ak] at lc;exists ⟨⟨_,bN.of gc⟩,?_⟩;refine fY (K:=K) (a:=cc) (xs:=um++up) (λi σ' H'=>aG H2 H'/\∃bl ns y,σ'=[some (.ref b),some (.ref r),some (.ref bl),y]/\H' bl=some (.lst (ns.map V.int))/\1<=ns.length/\ns.length<=1+i*8/\∀j xs,j < i->(mv++pt)[j]?=some xs->∀x∈xs,Pj x∈ns) ⟨aG.refl _,bl0,[1],_,rfl,s2 _ _ g1,by decide,by decide,λj xs h=>absurd h (fD _)⟩ (λi σ' H' _ ⟨e,_⟩=>bN.of (e _ _ gc)) ?_ ?_
  ·rintro i v σ' H' hv ⟨e,bl,ns,y,rfl,gb,b1,b2,hn⟩;obtain ⟨xs,exs,u,rfl,_,zs,gz,qz⟩:=cm qc hv;have mx:=ax exs;have wx:=wc xs mx;have hi:i < (um++up).length:=(aE.mp hv).1;rw[ak] at hi;exists ⟨⟨_,bN.of (e _ _ gz)⟩,?_⟩;refine dJ (K:=K) (F:=ck K) (λ_ c x=>x=V.int (Pj c)) id (e _ _ gz) (Paired.imp' (λ_ _ z=>z.same e) qz) (by lia) (λa b=>a.same b) (λa _=>a) ?_ ?_
   ·rintro j c x Ha NY NN ec sa ⟨pp,rfl,hp⟩ k1;have mc:=ax ec;have szc:=sz xs mx c mc;walk_at "w"
    have e1:(if (nm c).1 < 0 then -(nm c).1 else (nm c).1)=(c.num.natAbs:Int):=by
     show (if c.num < 0 then -c.num else c.num)=_
     split <;> lia
    have e2:(c.num.natAbs:Int).fdiv 1000=(c.num.natAbs:Int) / 1000:=cz _ (by decide);rw[e1];refine fE (show nZ _ _ from ⟨by decide,bI (show (1000:Int).natAbs < 2^20 by decide) (au (by decide) (by decide))⟩) ?_;rw[e2];exists k1 _ _ (aG.refl _) rfl
   rintro ys Hb cl hcl sb gcl prl _
   have ey:ys=(xs.map Pj).map V.int:=by
    rw[ia] at prl;rw[mI];exact Bw prl
   have ly:=prl.length;rw[ar] at ly;have gbb:=sb _ _ gb;rw[ey] at gcl;exists iX gbb gcl (aZ (bC (by rw[ar,ar,ar];lia))) λc2 Hc sc nc2 gc2=>?_
   rw[<- cJ] at gc2;refine ⟨(e.trans sb).trans sc,c2,ns++xs.map Pj,_,rfl,gc2,by rw[ak];lia,by rw[ak,ar];lia,λj ys' hj ej x hx=>?_⟩;rcases cb j i with z | z
   ·exact dX _ (hn j ys' z ej x hx)
   ·have:j=i:=by lia
    subst this;rw[exs] at ej;cases ej;exact bF _ (aD.mpr ⟨x,hx,rfl⟩)
  ·rintro σ' H' ⟨e,bl,ns,y,rfl,gb,b1,b2,hn⟩;have e0:=s02.trans e;have B':=hB.same e0;have PQ':=PQ.same e0;obtain ⟨m',p',l',g2,_,_,_,Gm',_,_⟩:=id PQ'
   have em:m'=m:=by
    have:=e0 _ _ g;rw[this] at g2;cases g2;rfl
   subst em;obtain ⟨um',gm',qm',_⟩:=id Gm';have lum':=qm'.length;have u0:cT b H H':=e0.upto;exists ⟨bl,ns,rfl,bN.of gb,by lia,λM hM hmax=>?_⟩;exists fX (λh=>?_) (λh=>?_)
   ·exists ⟨b,4,rfl,B',by decide,by decide,λv H3 v0 v1 B3 u3=>?_⟩;obtain ⟨v,rfl⟩:=bX v0;exact k v H3 ⟨by lia,.inl (by lia)⟩ B3 (u0.trans u3)
   ·have M9:M<=9:=by rw[decide_eq_true_eq] at h;lia
    have sm:∀xs∈mv++pt,∀x∈xs,x.den<=9/\x.num.natAbs < 1000:=λxs hx x hx'=>by
     obtain ⟨j,hj,rfl⟩:=bK hx;have:=hn j _ (by rw[ak,<- lum,<- lup];rw[ak] at hj;exact hj) (af hj) x hx';exact MQ (Int.le_trans (hmax _ this) M9)
    exists ⟨_,_,rfl,.inl (bN.of gm'),?_⟩;rw[<- lum'];exists fX (λh1=>?_) (λh1=>?_)
    ·have n5:5 < mv.length:=by have:=of_decide_eq_true h1;lia
     exists ⟨b,4,rfl,B',by decide,by decide,λv H3 v0 v1 B3 u3=>?_⟩;obtain ⟨v,rfl⟩:=bX v0;obtain ⟨m3,p3,l3,g3,_,_,_,Gm3,_,_⟩:=PQ'.upto u3 B' nb;obtain ⟨um3,gm3,qm3,_⟩:=id Gm3;have lum3:=qm3.length;exists ⟨_,_,rfl,.inl (bN.of gm3),?_⟩;rw[<- lum3];exists cW λl4 H4 s4 n4 g4=>?_
     exists ⟨b,2,rfl,B3.same s4,by decide,by decide,λv2 H5 v20 v21 B5 u5=>?_⟩;have g5:=u5.other (λz=>B3.at (by rw[<- z];exact n4)) g4;obtain ⟨x,ex,mx,_⟩:=ky (xs:=[V.int (v:Int),V.int (mv.length:Int)]) v20 (by simpa using v21);exists cB (bN.of g5) ex ?_;have u05:=(u0.trans (u3.same s4)).trans u5;simp only[aB,aU,or_false] at mx;rcases mx with rfl | rfl
     ·exact k v H5 ⟨by lia,.inl (by lia)⟩ B5 u05
     ·exact k mv.length H5 ⟨by lia,.inr ⟨sm,λ_=>aj _,λ_ _=>lW _⟩⟩ B5 u05
    ·have n5:mv.length<=5:=by rw[decide_eq_true_eq] at h1;lia
     exists ⟨_,_,rfl,.inl (bN.of gm'),?_⟩;rw[<- lum'];have last:∀(Hx:Hp),ig Hx b->cT b H Hx->∀(v:Nat),v < 2+mv.length->Q (.int v) Hx:=λHx Bx ux v hv=>k v Hx ⟨by lia,.inr ⟨sm,λz=>by lia,λ_ _=>by lia⟩⟩ Bx ux
     exists fX (λh2=>?_) (λh2=>?_)
     ·have n3':mv.length < 3:=by have:=of_decide_eq_true h2;lia
      exists ⟨b,8,rfl,B',by decide,by decide,λv H3 v0 v1 B3 u3=>?_⟩;exists fX (λh3=>?_) (λh3=>?_)
      ·exists ⟨b,13,rfl,B3,by decide,by decide,λv4 H4 v40 v41 B4 u4=>?_⟩;obtain ⟨v4,rfl⟩:=bX v40;exact k v4 H4 ⟨by lia,.inr ⟨sm,λz=>by lia,λz _=>by lia⟩⟩ B4 ((u0.trans u3).trans u4)
      ·obtain ⟨m3,p3,l3,g3,_,_,_,Gm3,_,_⟩:=PQ'.upto u3 B' nb;obtain ⟨um3,gm3,qm3,_⟩:=id Gm3;have lum3:=qm3.length;exists ⟨_,_,rfl,.inl (bN.of gm3),?_⟩;rw[<- lum3];walk_at "w";rw[show ((2:Int)+(mv.length:Int))=((2+mv.length:Nat):Int) by lia];refine ⟨b,2+mv.length,rfl,B3,by lia,by lia,λv4 H4 v40 v41 B4 u4=>?_⟩;obtain ⟨v4,rfl⟩:=bX v40;exact last H4 B4 ((u0.trans u3).trans u4) v4 (by lia)
     ·exists ⟨_,_,rfl,.inl (bN.of gm'),?_⟩;rw[<- lum'];walk_at "w";rw[show ((2:Int)+(mv.length:Int))=((2+mv.length:Nat):Int) by lia];refine ⟨b,2+mv.length,rfl,B',by lia,by lia,λv4 H4 v40 v41 B4 u4=>?_⟩;obtain ⟨v4,rfl⟩:=bX v40;exact last H4 B4 (u0.trans u4) v4 (by lia)
theorem mh:bg ["_law_one","_law_other","_law_total","_law_k"] ["_law_one","_law_other"] (aN tW):=by walk_at "d"
theorem qY (T:Txt K mg Z):cI P w K mg base fM 3 Z.Az Z.An ["_law_one","_law_other"] (CD K):=by
 refine T.kv.F.ok mh (λvs H Q E h=>?_) (λcdv A outer s H vs Q E hr h=>?_)
 ·obtain ⟨p,q,xs,ys,rfl,_⟩:=h;rfl
 ·obtain ⟨p,q,xs,ys,rfl,hp,hq,hl,hz,⟨k1,j1,k2,j2,h1,h2,hkj⟩,kk⟩:=h
  refine ⟨_,(av (a8 (i:=2) mh.nd rfl (Or.inl rfl) (cN (ae ao (ae ao ag))))
   (av (dO PassesOwn.never rfl (cw rfl T.range (ae (bA aX (by rfl) T.len aR (ae (pv 0) ag)) ag)) (aT (i:=3) mh.nd)
    (az (a8 (i:=2) mh.nd rfl (Or.inl rfl) (cG (kr T) hr T.iu (ae (pv 2) (ae (cG (kO T) hr T.iH (ae (aY bS (pv 0) (pv 3)) (ae (aY bS (pv 1) (pv 3)) ag))) ag))))))
   (az (a7 (pv 2))))),?_⟩
  refine aV (σ:=[some (.ref p),some (.ref q),none,none]) rfl ?_;obtain ⟨us,gu,qu⟩:=id hp;obtain ⟨ws,gw,qw⟩:=id hq;have lu:=qu.length;have lw:=qw.length;exists bU λr0 H0 s0 g0=>?_
  exists ⟨_,_,rfl,.inl (bN.of (s0 _ _ gu)),?_⟩;exists ⟨by lia,by lia,?_⟩;refine eG (n:=us.length) (λi σ' H'=>aG H H'/\∃(r:V) (v:Option V),σ'=[some (.ref p),some (.ref q),some r,v]/\ck K H' (dR (xs.take i) (ys.take i)) r) ⟨s0,_,none,rfl,ck.mk g0 rfl⟩ ?_ ?_
  ·rintro i σ' H' hi ⟨s,r,v,rfl,hr⟩;have ix:i < xs.length:=by lia
   have iy:i < ys.length:=by lia
   obtain ⟨vx,ex,nx⟩:=EL (Paired.imp' (λ_ _ z=>z.same s) qu) ix;obtain ⟨vy,ey,ny⟩:=EL (Paired.imp' (λ_ _ z=>z.same s) qw) iy;exists cB (bN.of (s _ _ gu)) ex ?_;exists cB (bN.of (s _ _ gw)) ey ?_;exists ⟨_,_,_,_,rfl,nx,ny,h1.szn (getD_mem ix) (by lia),h2.szn (getD_mem iy) (by lia),λr3 H3 s3 n3=>?_⟩;exists ⟨_,_,_,_,rfl,hr.same s3,n3,KZ h1 h2 hz i hkj,Kf (h1.one (getD_mem ix)) (h2.one (getD_mem iy)) hkj,λr4 H4 s4 n4=>?_⟩;exists ⟨(s.trans s3).trans s4,_,_,rfl,by rw[BK ix iy];exact n4⟩
  ·rintro σ' H' ⟨s,r,v,rfl,hr⟩;rw[aI (by lia),aI (by lia)] at hr;obtain ⟨t,rfl,ht⟩:=hr;exists kk _ H' s ⟨t,rfl,ht⟩
theorem Fq:bg ["_law_grid","_law_row_here"] ["_law_grid","_law_row_here"] (aN wG):=by walk_at "d"
theorem uf (T:Txt K mg Z):cI P w K mg base fM 4 Z.Cj Z.BQ ["_law_grid","_law_row_here"] (CC K):=by
 refine T.lO.F.ok Fq (λvs H Q E h=>?_) (λcdv A outer s H vs Q E hr h=>?_)
 ·obtain ⟨p,q,H0,rows,ys,rfl,_⟩:=h;rfl
 ·obtain ⟨p,q,H0,rows,ys,rfl,hp,hq,hz,hl,hr1,kk⟩:=h;refine ⟨_,(az (a7 (cA ["_law_one"] ["_law_row_here"] [1] (cE (pv 0)) (λ_=>(aT (i:=0) (show ND9 ["_law_one","_law_row_here"] by decide +kernel))) (λ_=>cC) (λ_=>(cG (qY T) hr T.kv (ae (pv 0) (ae (pv 1) ag))))))),?_⟩;refine aV (σ:=[some (.ref p),some (.ref q)]) rfl ?_;obtain ⟨xs,gx,qx,_⟩:=id hp;exists ⟨⟨_,bN.of gx⟩,?_⟩;refine dJ (K:=K) (F:=c4 K H0) (ck K) (λxs=>dR xs ys) gx qx hz (λa b=>a.same b) (λa b=>a.same b) ?_ ?_
  ·rintro i ns x H' NY NN en s ⟨u,rfl,_,hu⟩ k;obtain ⟨e1,e2⟩:=hr1 ns (ax en);exists ⟨u,q,ns,ys,rfl,hu,hq.same s,e1.symm,by lia,e2,λr H2 s2 h2'=>k _ _ s2 h2'⟩
  ·rintro ys' H' r hr s g pr nx;exact kk r H' hr s ⟨ys',g,pr⟩
theorem gM:bg ["_law_parts_here","_law_state","_law_puts_here","_law_move_here","_law_put","_law_look","_law_found","_law_k"] ["_law_parts_here","_law_state","_law_puts_here"] (aN qH):=by walk_at "d"
theorem Dg (T:Txt K mg Z):cI P w K mg base fM 5 Z.yc Z.xI ["_law_parts_here","_law_state","_law_puts_here"] (Ea K):=by
 refine T.oX.F.ok gM (λvs H Q E h=>?_) (λcdv A outer s H vs Q E hr h=>?_)
 ·obtain ⟨r,s0,u0,H0,mv,pt,lk,st,pu,rfl,_⟩:=h;rfl
 ·obtain ⟨r,s0,u0,H0,mv,pt,lk,st,pu,rfl,PQ,D,hs,hu,l1,l2,NX,k⟩:=h
  refine ⟨_,(av (fF (pv 0) (t8 rfl (cQ (aT (i:=3) gM.nd) (cQ (aT (i:=4) gM.nd) (cQ (aT (i:=5) gM.nd) iU)))))
   (av (a8 (i:=6) gM.nd rfl (Or.inl rfl) (cG (uf T) hr T.lO (ae (pv 3) (ae (pv 1) ag))))
   (av (dO PassesOwn.never rfl (cw rfl T.range (ae (bA aX (by rfl) T.len aR (ae (pv 4) ag)) ag)) (aT (i:=7) gM.nd)
    (az (a8 (i:=6) gM.nd rfl (Or.inl rfl) (cG (uP T) hr T.kR (ae (pv 6) (ae (cG (lH T) hr T.jb (ae (aY bS (pv 2) (pv 7)) (ae (aY bS (pv 4) (pv 7)) ag))) ag))))))
   (az (a7 (pv 6)))))),?_⟩
  refine aV (σ:=[some (.ref r),some (.ref s0),some (.ref u0),none,none,none,none,none]) rfl ?_;obtain ⟨m,p,l,g,n1,n2,n3,Gm,Gp,Gl⟩:=id PQ;have d1:=D.n8;have d2:=D.i4;exists ⟨m,s0,H0,mv,st,rfl,Gm,hs,by lia,by lia,λxs hx=>⟨by rw[D.mw xs hx,l1],NX.f2 xs hx⟩,λf H1 nf s1 R1=>?_⟩;obtain ⟨ps,gp,qp,_⟩:=Gp.same s1;have lp:=qp.length;exists ⟨_,_,rfl,.inl (bN.of gp),?_⟩;exists ⟨by lia,by lia,?_⟩;refine eG (n:=ps.length) (λkk σ' H'=>∃(f:Addr) (x:Option V),σ'=[some (.ref r),some (.ref s0),some (.ref u0),some (.ref m),some (.ref p),some (.ref l),some (.ref f),x]/\H f=none/\aG H1 H'/\cv K H' f (nextK mv pt st pu kk)) ⟨f,none,rfl,nf,aG.refl _,by rw[FJ];exact R1⟩ ?_ ?_
  ·rintro kk σ' H' hk ⟨f',x,rfl,nf',s',R'⟩;have kp:kk < pt.length:=by lia
   have ku:kk < pu.length:=by lia
   obtain ⟨zs,gz,qz⟩:=(hu.same s1).same s';have lz:=qz.length;obtain ⟨vu,eu,nu⟩:=EL qz ku;obtain ⟨row,vr,er,ev,mr,q,rfl,_,Rq⟩:=il qp kp
   have er':pt[kk]=row:=by
    rw[af kp] at er;exact b6 er
   have eu':pu.getD kk 0=pu[kk]:=by rw[aa,af ku];rfl
   have mu:pu.getD kk 0∈pu:=getD_mem ku;exists cB (bN.of gz) eu ?_;exists cB (bN.of (s' _ _ gp)) (fL ev) ?_;exists ⟨vu,q,_,row,rfl,nu,NX.su _ mu,Rq.same s',by rw[D.pw row mr];lia,NX.sp row mr,λr1 H2 n1' s2 R2=>?_⟩;exists ⟨f',r1,_,_,rfl,R'.same s2,R2,by rw[ar,jf,D.pw row mr],by rw[jf];lia,NX.part kk,λy hy=>?_,λr2 H3 n2' s3 R3=>?_⟩
   ·obtain ⟨y',hy',rfl⟩:=aD.mp hy;exact NX.mul _ mu row mr y' hy'
   ·exists ⟨s1.none (s'.none (s2.none n2')),(s'.trans s2).trans s3,?_⟩;have e:=FK (st:=st) (pu:=pu) (λxs hx=>by rw[D.mw xs hx,l1]) kp ku (by rw[er'];exact D.pw row mr);rw[er',<- eu'] at e;rw[<- e];exact R3
  ·rintro σ' H' ⟨f',x,rfl,nf',s',R'⟩;rw[rM (by lia) (by lia)] at R';exists k f' H' nf' (s1.trans s') R'
theorem md:bg ["_law_parts_here","_law_start","_law_rows","_law_state","_law_puts_here"] ["_law_parts_here","_law_start","_law_rows"] (aN tV):=by walk_at "d"
theorem xp (T:Txt K mg Z):cI P w K mg base fM 6 Z.Ay Z.Am ["_law_parts_here","_law_start","_law_rows"] (Gr K):=by
 refine T.mo.F.ok md (λvs H Q E h=>?_) (λcdv A outer s H vs Q E hr h=>?_)
 ·obtain ⟨r,s,p,H0,H1,mv,pt,lk,pus,st,rfl,_⟩:=h;rfl
 ·obtain ⟨r,s,p,H0,H1,mv,pt,lk,pus,st,rfl,PQ,D,Rs,ls,Gp,lp,wp,EF,k⟩:=h
  refine ⟨_,(av (a8 (i:=3) md.nd rfl (Or.inl rfl) (dI (eV K (by rfl)) (by rfl) T.list PyProof.Rows.boot_list (ae (pv 1) ag)))
   (av (dO PassesOwn.never rfl (cE (pv 2)) (aT (i:=4) md.nd)
    (az (a8 (i:=3) md.nd rfl (Or.inl rfl) (cG (Dg T) hr T.oX (ae (pv 0) (ae (pv 3) (ae (pv 4) ag)))))))
   (az (a7 (pv 3))))),?_⟩
  refine aV (σ:=[some (.ref r),some (.ref s),some (.ref p),none,none]) rfl ?_;have d1:=D.n8;obtain ⟨ss,gs,qs⟩:=id Rs;obtain ⟨ps,gp,qp,_⟩:=id Gp;have lps:=qp.length;exists ⟨s,ss,rfl,.inl (bN.of gs),λc hc=>?_⟩;have sc:aG H (upd H c (.lst ss)):=aG.new hc;have Rc:cv K (upd H c (.lst ss)) c st:=⟨ss,aK,Paired.imp' (λ_ _ z=>z.same sc) qs⟩;generalize upd H c (.lst ss)=Hc at sc Rc ⊢;exists ⟨⟨_,bN.of (sc _ _ gp)⟩,?_⟩;refine fY (K:=K) (a:=p) (xs:=ps) (λi σ' H'=>aG H H'/\∃q y,σ'=[some (.ref r),some (.ref s),some (.ref p),some (.ref q),y]/\H q=none/\cv K H' q (oh mv pt st pus i)) ⟨sc,c,_,rfl,hc,Rc⟩ (λi σ' H' _ ⟨e,_⟩=>bN.of (e _ _ gp)) ?_ ?_
  ·rintro i v σ' H' hv ⟨e,q,y,rfl,nq,Rq⟩;obtain ⟨pu,epu,u,rfl,_,Ru⟩:=cm qp hv;have hi:i < pus.length:=(aE.mp epu).1;have mp:=ax epu;exists ⟨r,q,u,H0,mv,pt,lk,_,pu,rfl,PQ.same e,D,Rq,cv.same Ru e,oo ls (by lia),wp pu mp,EF.nx D ls wp (by lia) epu,λq2 H2 n2 s2 R2=>?_⟩;rw[<- p7 epu] at R2;exact ⟨e.trans s2,q2,_,rfl,e.none n2,R2⟩
  ·rintro σ' H' ⟨e,q,y,rfl,nq,Rq⟩;rw[<- lps] at Rq;exists k q H' nq e Rq
theorem CO:bg ["_law_bag_here","_law_parts_here","_law_steps_here","_law_wide"] ["_law_bag_here","_law_parts_here","_law_steps_here","_law_wide"] (aN qE):=by walk_at "d"
theorem De (T:Txt K mg Z):cI P w K mg base fM 4 Z.xY Z.xF ["_law_bag_here","_law_parts_here","_law_steps_here","_law_wide"] (D7 K):=by
 refine T.oW.F.ok CO (λvs H Q E h=>?_) (λcdv A outer s H vs Q E hr h=>?_)
 ·obtain ⟨b,r,tt,w,H0,mv,pt,lk,rfl,_⟩:=h;rfl
 ·obtain ⟨b,r,tt,w,H0,mv,pt,lk,rfl,hT,w1,w2,hB,nb,PQ,D,k⟩:=h;refine ⟨_,(az (a7 (cA ["_law_turn"] ["_law_bag_here","_law_parts_here","_law_wide"] [0,1,3] (cw rfl T.range (ae (pv 2) ag)) (λ_=>(aT (i:=0) (show ND9 ["_law_turn","_law_bag_here","_law_parts_here","_law_wide"] by decide +kernel))) (λ_=>cC) (λ_=>(cG (ks T) hr T.gH (ae (pv 1) (ae (bA (A1 K (by rfl)) (by rfl) T.len aR (ae (aY (o7 K (by rfl)) (pv 2) ao) ag)) (ae (pv 3) ag)))))))),?_⟩;refine aV (σ:=[some (.ref b),some (.ref r),some (.int tt),some (.int w)]) rfl ?_;have i4:=D.i4;exists ⟨by lia,by lia,?_⟩
  refine w5 (n:=tt) (b:=b) (c4 K H) (λxs=>xs.length=pt.length/\∀x∈xs,Dr (max w 6) x) hB (by lia) (λ{H' H'' c x} a u B=>by
   obtain ⟨q,e,nq,R⟩:=a;exact ⟨q,e,nq,R.upto u B (λz=>hB.at (by rw[<- z];exact nq))⟩) ?_ ?_
  ·rintro i Ha NY NN hi ua Ba k1;obtain ⟨m,p,l,g,n1,n2,n3,Gm,Gp,Gl⟩:=PQ.upto ua hB nb;obtain ⟨up,gp,qp,_⟩:=id Gp;have lup:=qp.length;exists ⟨_,_,rfl,.inl (bN.of gp),?_⟩;rw[<- lup];exists ⟨b,pt.length,w,rfl,Ba,by lia,w1,by lia,λq xs Hb nq R lx dx Bb ub=>?_⟩;exact k1 _ xs _ ub Bb ⟨lx,dx⟩ ⟨q,rfl,ua.none Ba nq,R⟩
  ·rintro ys cs Hz t ht uz Bz gz lc hc prz nx;exact k t cs Hz ht ⟨ys,gz,prz,je nx⟩ lc hc Bz uz
theorem ox:bg ["_law_bag_here","_law_parts_here","_law_start","_law_steps_here","_law_wide","_law_goal_here","_law_at"] ["_law_bag_here","_law_parts_here","_law_start","_law_steps_here","_law_wide"] (aN qO):=by walk_at "d"
theorem uS (T:Txt K mg Z):cI P w K mg base fM 7 Z.yj Z.xP ["_law_bag_here","_law_parts_here","_law_start","_law_steps_here","_law_wide"] (Ef K):=by
 refine T.kT.F.ok ox (λvs H Q E h=>?_) (λcdv A outer s H vs Q E hr h=>?_)
 ·obtain ⟨b,r,s,tt,w,H0,mv,pt,lk,st,rfl,_⟩:=h;rfl
 ·obtain ⟨b,r,s,tt,w,H0,mv,pt,lk,st,rfl,hT,w1,w2,hB,nb,PQ,D,Rs,sb,ls,EN,k⟩:=h
  refine ⟨_,(av (cP (bx eJ (cG (be T) hr T.aW (ae (pv 0) (ae ao ag))) ao (bD _)) (az (a7 (cG (ks T) hr T.gH (ae (pv 0) (ae (bA aX (by rfl) T.len aR (ae (pv 2) ag)) (ae (pv 4) ag)))))) bO)
   (av (a8 (i:=5) ox.nd rfl (Or.inl rfl) (cG (xp T) hr T.mo (ae (pv 1) (ae (pv 2) (ae (cG (De T) hr T.oW (ae (pv 0) (ae (pv 1) (ae (pv 3) (ae (pv 4) ag))))) ag)))))
   (av (cP (PW.pt (iY (bx pM (bA aX (by rfl) T.len aR (ae (pv 5) ag)) ao (bD _)) (ju (bx eJ (cG (be T) hr T.aW (ae (pv 0) (ae ao ag))) ao (bD _))))) (av (a8 (i:=6) ox.nd rfl (Or.inl rfl) (cG (be T) hr T.aW (ae (pv 0) (ae (bA aX (by rfl) T.len aR (ae (pv 5) ag)) ag))))
   (az (fF (cG (kr T) hr T.iu (ae (aY bS (pv 5) (pv 6)) (ae (cN (ae ao (ae (bH ff ao (cG (be T) hr T.aW (ae (pv 0) (ae ao ag)))) ag))) ag))) (gX (pv 5) (pv 6) set_list)))) bO)
   (az (a7 (pv 5)))))),?_⟩
  refine aV (σ:=[some (.ref b),some (.ref r),some (.ref s),some (.int tt),some (.int w),none,none]) rfl ?_;have d8:=D.n8;exists ⟨b,2,rfl,hB,by decide,by decide,λv H1 v0 v1 B1 u1=>?_⟩;have Rs1:=Rs.upto u1 hB sb;obtain ⟨zs,gz,qz⟩:=id Rs1;have lz:=qz.length;exists fX (λh=>?_) (λh=>?_)
  ·exists ⟨_,_,rfl,.inl (bN.of gz),?_⟩;rw[<- lz];exists ⟨b,st.length,w,rfl,B1,by lia,w1,by lia,λq xs H2 nq R2 l2 d2 B2 u2=>?_⟩;exact k q xs H2 (u1.none B1 nq) R2 (by lia) (.inl d2) B2 (u1.trans u2)
  ·have PQ1:=PQ.upto u1 hB nb;exists ⟨b,r,tt,w,H0,mv,pt,lk,rfl,hT,w1,w2,B1,nb,PQ1,D,λp pus H2 np Gp lp dp B2 u2=>?_⟩;have DP:Q6 pt tt w pus:=⟨lp,dp⟩;have EF:=EN pus DP;have wp:∀xs∈pus,xs.length=pt.length:=λxs hx=>(dp xs hx).1
   have u02:=u1.trans u2;exists ⟨r,s,p,H0,H1,mv,pt,lk,pus,st,rfl,PQ1.upto u2 B1 nb,D,Rs1.upto u2 B1 sb,ls,Gp,by lia,wp,EF,λg H3 ng s3 Rg=>?_⟩;rw[lp] at Rg;have B3:=B2.same s3;have u03:cT b H H3:=u02.same s3;have ng0:H g=none:=u02.none B2 ng;have gb:g≠b:=λz=>B2.at (by rw[<- z];exact ng)
   have lst:(oh mv pt st pus tt).length=mv.length:=oo ls (by lia);have fin0:∀H':Hp,cT b H3 H'->ig H' b->Q (.ref g) H':=λH' u B=>k g _ H' ng0 (Rg.upto u B3 gb) lst (.inr ⟨pus,DP,.inl rfl⟩) B (u03.trans u)
   obtain ⟨ys,gy,qy⟩:=id Rg;have ly:=qy.length;rw[lst] at ly;exists ⟨_,_,rfl,.inl (bN.of gy),?_⟩;rw[<- ly];exists fX (λh1=>?_) (λh1=>?_)
   ·have np0:0 < mv.length:=by have:=of_decide_eq_true h1;lia
    exists ⟨b,4,rfl,B3,by decide,by decide,λv4 H4 v40 v41 B4 u4=>?_⟩;exists fX (λh2=>?_) (λh2=>?_)
    ·obtain ⟨ys4,gy4,qy4⟩:=Rg.upto u4 B3 gb;have ly4:=qy4.length;rw[lst] at ly4;exists ⟨_,_,rfl,.inl (bN.of gy4),?_⟩;rw[<- ly4];exists ⟨b,mv.length,rfl,B4,by lia,by lia,λat' H5 a0 a1 B5 u5=>?_⟩;obtain ⟨at',rfl⟩:=bX a0;have u35:=u4.trans u5;obtain ⟨ys5,gy5,qy5⟩:=Rg.upto u35 B3 gb;have ly5:=qy5.length;rw[lst] at ly5;obtain ⟨vx,ex,nx⟩:=EL qy5 (j:=at') (by rw[lst];lia);exists cB (bN.of gy5) ex ?_;exists ⟨b,3,rfl,B5,by decide,by decide,λv6 H6 v60 v61 B6 u6=>?_⟩;obtain ⟨v6,rfl⟩:=bX v60;exists bU λt7 H7 s7 g7=>?_
     rw[show ((1:Int)+(v6:Int))=((v6+1:Nat):Int) by lia] at g7;have u37:cT b H3 H7:=(u35.trans u6).same s7;obtain ⟨ys7,gy7,qy7⟩:=Rg.upto u37 B3 gb;have ly7:=qy7.length;rw[lst] at ly7
     have e57:ys7=ys5:=by
      have:=(u6.same s7).other gb gy5;rw[gy7] at this;cases this;rfl
     have szst:=EF.szn D ls wp (k:=tt) (by lia);have mx:(oh mv pt st pus tt).getD at' 0∈oh mv pt st pus tt:=getD_in (by rw[lst];lia);have szu:kK (Ly v6):=o8 (by decide) (show 6<=2^3 by decide) (show 1<=2^0 by decide) (by decide) (MZ (by lia));exists ⟨_,_,(oh mv pt st pus tt).getD at' 0,Ly v6,rfl,(nx.upto (u6.same s7) B5),ck.mk (q:=Ly v6) g7 rfl,szst _ mx,szu,λr8 H8 s8 N8=>?_⟩;have gy8:=s8 _ _ gy7;have B8:=(B6.same s7).same s8;have u38:=u37.same s8;obtain ⟨q0,I0,xq0,gq0⟩:=hB.inner;have gq:g≠q0:=λz=>by rw[<- z,ng0] at gq0;cases gq0
     have u08:cT b H H8:=u03.trans u38;have I8:=u08.2 _ I0;exists fj gy8 (fv (by lia)) rfl ?_;exists k g _ _ ng0 ⟨_,aK,t9 (N8.updL gy8) at' (Paired.imp' (λ_ _ z=>(z.same s8).updL gy8) qy7)⟩ (by rw[dQ];exact lst) (.inr ⟨pus,DP,.inr ⟨at',v6,by lia,rfl⟩⟩) (B8.upd I8 gb gq) (u08.after ng0)
    ·exists fin0 H4 u4 B4
   ·exists fin0 H3 (aG.refl _).upto B3
theorem CJ:bg ["row","bottom"] ["row","bottom"] (aN qi):=by walk_at "d"
theorem uN (T:Txt K mg Z):cI P w K mg base fM 1 Z.xS Z.xy ["row","bottom"] (D6 K):=by
 refine T.jy.F.ok CJ (λvs H Q E h=>?_) (λcdv A outer s H vs Q E hr h=>?_)
 ·obtain ⟨p,ns,M,B,rfl,_⟩:=h;rfl
 ·obtain ⟨p,ns,M,B,rfl,hp,hl,hz,hB,sB,q⟩:=h;refine ⟨_,(az (a7 (cA ["value"] ["bottom"] [1] (cE (pv 0)) (λ_=>(aT (i:=0) (show ND9 ["value","bottom"] by decide +kernel))) (λ_=>cC) (λ_=>(bH cY (aY (o7 K (by rfl)) (pv 0) ao) (bH iQ (pv 1) (aY (o7 K (by rfl)) (pv 0) ao))))))),?_⟩;refine aV (σ:=[some (.ref p),some (.int B)]) rfl ?_;obtain ⟨xs,gx,qx⟩:=id hp;have lx:=qx.length;exists ⟨⟨_,bN.of gx⟩,?_⟩;refine fZ (K:=K) (xs:=xs) (λi ys H'=>H'=H/\ys=(fJ (ns.take i) B).map V.int) (aZ (bC (by lia))) ⟨rfl,rfl⟩ (λi ys H' _ ⟨e,_⟩=>by subst e;exact bN.of gx) ?_ ?_
  ·rintro i x ys H' hx hlen ⟨rfl,rfl⟩;obtain ⟨n,en,r,rfl,hr1⟩:=cm qx hx;have nz:=hz.2.2 n (ax en);have sn:Sz 4400 n.2:=DA hz.1 nz.2.1 hz.2.1;exists fE (show nZ _ _ from ⟨by lia,sn.mono (by decide)⟩) ?_;rw[cz _ (by lia)]
   have sq:Sz 4400 (B / n.2):=sB.le (by
    rw[Ph (by lia)];exact Nat.div_le_self ..)
   exists fE (show gI _ _ from .inr ⟨_,_,nz.2.2,sq,by decide⟩) ?_;exact ⟨rfl,by rw[take_snoc en];simp [fJ]⟩
  ·rintro ys H' hy ⟨rfl,rfl⟩ l hl';exact q l _ hl' (aG.new hl') (by rw[aK,aI (by lia)])
theorem gK:bg ["wholes","multiple","whole"] ["wholes"] (aN jt):=by walk_at "d"
theorem ue (T:Txt K mg Z):cI P w K mg base fM 2 Z.mE Z.mB ["wholes"] (JC K):=by
 refine T.ja.F.ok gK (λvs H Q E h=>?_) (λcdv A outer s H vs Q E hr h=>?_)
 ·obtain ⟨p,bs,M,rfl,_⟩:=h;rfl
 ·obtain ⟨p,bs,M,rfl,hp,hM,sM,hb,q⟩:=h
  refine ⟨_,(av (a8 (i:=1) gK.nd rfl (Or.inl rfl) ao)
   (av (dO PassesOwn.never rfl (cE (pv 0)) (aT (i:=2) gK.nd)
    (az (a8 (i:=1) gK.nd rfl (Or.inl rfl) (bH cY (pv 1) (bH iQ (pv 2) (cG (jw T) hr T.fq (ae (pv 1) (ae (pv 2) ag))))))))
   (az (a7 (pv 1))))),?_⟩
  refine aV (σ:=[some (.ref p),none,none]) rfl ?_;exists ⟨⟨_,hp⟩,?_⟩;refine fY (K:=K) (a:=p) (xs:=bs.map V.int) (λi σ' H'=>H'=H/\∃x,σ'=[some (.ref p),some (.int (wU (bs.take i) 1)),x]) ⟨rfl,none,rfl⟩ (λi σ' H' _ ⟨e,_⟩=>by subst e;exact hp) ?_ ?_
  ·rintro i x σ' H' hx ⟨rfl,y,rfl⟩;rw[aL] at hx
   obtain ⟨b,eb,rfl⟩:∃b,bs[i]?=some b/\x=.int b:=by
    cases e:bs[i]? with
    | none=>rw[e] at hx;cases hx
    | some b=>rw[e] at hx;cases hx;exact ⟨b,rfl,rfl⟩
   have b1:=hb b (ax eb);have sb:Sz 4400 b:=DA hM b1.2 sM;have ht:∀c∈bs.take i,0 < c/\c∣M:=λc hc=>hb c (b7 hc)
   have msz:Sz 4400 (wU (bs.take i) 1):=DA hM (yL (by decide) (Int.one_dvd _) ht) sM;generalize hm:wU (bs.take i) 1=m at msz ⊢;have gp:0 < g m b:=Ae (by lia);exists ⟨m,b,rfl,?_⟩;exists fE (show nZ _ _ from ⟨by lia,(Ro b1.1 sb).mono (by decide)⟩) ?_;rw[cz _ (by lia)];exists fE (show gI _ _ from .inr ⟨_,_,msz,sb.hi (t:=m) (by lia),by decide⟩) ?_;exists ⟨rfl,_,by rw[take_snoc eb,BH,hm];rfl⟩
  ·rintro σ' H' ⟨rfl,y,rfl⟩;walk_at "w";rw[aI (by simp)];exact q
theorem wo:bg ["row"] ["row"] (aN kE):=by walk_at "d"
theorem nK (T:Txt K mg Z):cI P w K mg base fM 3 Z.pP Z.pO ["row"] (JD K):=by
 refine T.fV.F.ok wo (λvs H Q E h=>?_) (λcdv A outer s H vs Q E hr h=>?_)
 ·obtain ⟨p,ns,M,rfl,_⟩:=h;rfl
 ·obtain ⟨p,ns,M,rfl,hp,hl,hz,q⟩:=h;refine ⟨_,(az (a7 (cG (ue T) hr T.ja (ae (cA ["value"] [] [] (cE (pv 0)) (λ_=>(aT (i:=0) (show ND9 ["value"] by decide +kernel))) (λ_=>cC) (λ_=>(aY (o7 K (by rfl)) (pv 0) ao))) ag)))),?_⟩;refine aV (σ:=[some (.ref p)]) rfl ?_;obtain ⟨xs,gx,qx⟩:=id hp;have lx:=qx.length;exists ⟨⟨_,bN.of gx⟩,?_⟩;refine fZ (K:=K) (xs:=xs) (λi ys H'=>H'=H/\ys=((ns.take i).map (·.2)).map V.int) (aZ (bC (by lia))) ⟨rfl,rfl⟩ (λi ys H' _ ⟨e,_⟩=>by subst e;exact bN.of gx) ?_ ?_
  ·rintro i x ys H' hx hlen ⟨rfl,rfl⟩;obtain ⟨n,en,r,rfl,hr1⟩:=cm qx hx;exists ⟨rfl,by rw[take_snoc en];simp⟩
  ·rintro ys H' hy ⟨rfl,rfl⟩ l hl';exists ⟨l,ns.map (·.2),M,rfl,bN.of (by rw[aK,aI (by lia)]),hz.1,hz.2.1,λb hb=>?_,?_⟩
   ·obtain ⟨n,hn,rfl⟩:=aD.mp hb;exact ⟨(hz.2.2 n hn).1,(hz.2.2 n hn).2.1⟩
   ·exact q _ (aG.new hl')
theorem so:bg ["lines","begin","place","at"] ["lines","begin","place"] (aN oA):=by walk_at "d"
theorem AQ (T:Txt K mg Z):cI P w K mg base fM 1 Z.vG Z.vh ["lines","begin","place"] Bp:=by
 refine T.mZ.F.ok so (λvs H Q E h=>?_) (λcdv A outer s H vs Q E hr h=>?_)
 ·obtain ⟨l,p,ls,b,c,rfl,_⟩:=h;rfl
 ·obtain ⟨l,p,ls,b,c,rfl,G,l1000,b1000,hc,k1,k2⟩:=h
  refine ⟨_,(av (dO PassesOwn.never rfl (IA rfl T.range (ae (pv 1) (ae (bA aX (by rfl) T.len aR (ae (pv 0) ag)) ag))) (aT (i:=3) so.nd)
    (az (cP (bx uM (aY bS (aY bS (pv 0) (pv 3)) (pv 2)) ao (bD _)) (az (a7 (pv 3))) bO)))
   (az (a7 C3))),?_⟩
  refine aV (σ:=[some (.ref p),some (.int b),some (.int c),none]) rfl ?_;obtain ⟨_,xs,gx,qx⟩:=id G;have lx:=qx.length;exists ⟨_,_,rfl,.inl (bN.of gx),?_⟩;rw[<- lx];exists ⟨⟨by lia,by lia,by lia,by lia⟩,?_⟩;refine BJ (lo:=(b:Int)) (n:=((ls.length:Int) - (b:Int)).toNat) (λi σ' H'=>H'=H/\(∃y,σ'=[some (.ref p),some (.int b),some (.int c),y])/\∀s,b<=s->s < b+i->d7 ls s c=0) ⟨rfl,⟨_,rfl⟩,λs h1 h2=>absurd h2 (by lia)⟩ ?_ ?_
  ·rintro i σ' H' hi ⟨rfl,⟨y,rfl⟩,hz⟩;rw[show ((b:Int)+(i:Int))=((b+i:Nat):Int) by lia];obtain ⟨zs,v,ez,ev,mz,q,rfl,_,gq⟩:=il qx (i:=b+i) (by lia);exists cB (bN.of gx) (fL ev) ?_;exists cB (bN.of gq) (yU (hc zs mz)) ?_;walk_at "w";have ef:=Js (c:=c) ez;by_cases e:zs.getD c 0=0
   ·rw[decide_eq_true e];exists ⟨rfl,⟨_,rfl⟩,λs h1 h2=>?_⟩;by_cases e2:s=b+i
    ·rw[e2,ef,e];rfl
    ·exact hz s h1 (by lia)
   ·rw[decide_eq_false e];exists k1 (b+i) (by lia) (by lia) (by rw[ef];exact Q7.mpr e)
  ·rintro σ' H' ⟨rfl,⟨y,rfl⟩,hz⟩;exists k2 λt h1 h2=>hz t h1 (by lia)
theorem ow:bg ["lines","at","place","before","used","by","swept"] ["lines","at","place","before"] (aN wF):=by walk_at "d"
theorem FI (T:Txt K mg Z):cI P w K mg base fM 1 Z.Ci Z.BP ["lines","at","place","before"] Br:=by
 refine T.uo.F.ok ow (λvs H Q E h=>?_) (λcdv A outer s H vs Q E hr h=>?_)
 ·obtain ⟨l,p,ls,kk,c,n,b,rfl,_⟩:=h;rfl
 ·obtain ⟨l,p,ls,kk,c,n,b,rfl,hl,G,l1000,hk,hw,n1000,hc,b0,sb,hs,k⟩:=h
  refine ⟨_,(av (a8 (i:=4) ow.nd rfl (Or.inr rfl) (aY bS (pv 0) (pv 1)))
   (av (a8 (i:=5) ow.nd rfl (Or.inr rfl) (aY bS (pv 4) (pv 2)))
   (av (kN 6 ["line"] ["used","by","place","before"] [4,5,2,3] ow.nd rfl rfl (cE (pv 0)) (λ_=>(aT (i:=0) (show ND9 ["line","used","by","place","before"] by decide +kernel) rfl (Or.inr rfl) (Or.inl rfl))) (λ_=>cC) (λ_=>(cA ["mine","yours"] ["by","line","place","before"] [2,0,3,4] (J6 K rfl T.zip (ae (pv 0) (ae (pv 1) ag))) (λ_=>(rK K 2 (cQ (aT (i:=0) (show ND9 ["mine","yours","by","line","place","before"] by decide +kernel)) (cQ (aT (i:=1) (show ND9 ["mine","yours","by","line","place","before"] by decide +kernel)) iU)))) (λ_=>cC) (λ_=>(bH iQ (bH i5 (bH cY (pv 2) (pv 0)) (bH cY (aY (fW K (by rfl)) (pv 3) (pv 4)) (pv 1))) (pv 5))))))
   (av (fF (pv 4) (gX (pv 6) (pv 1) set_list))
   (az (a7 (pv 6))))))),?_⟩
  refine aV (σ:=[some (.ref p),some (.int kk),some (.int c),some (.int b),none,none,none]) rfl ?_;obtain ⟨pl,xs,gx,qx⟩:=id G;have lx:=qx.length;obtain ⟨zk,vk,ek,evk,mk,qk,rfl,qkl,gk⟩:=il qx hk;have wk:=hw zk mk;have ek':ls.getD kk []=zk:=by rw[aa,ek];rfl
  exists cB (bN.of gx) (fL evk) ?_;exists cB (bN.of gk) (yU (by lia)) ?_;exists ⟨⟨_,bN.of gx⟩,?_⟩;refine fZ (K:=K) (xs:=xs) (λi ys H'=>aG H H'/\Paired (HR l H') ((ls.take i).map λzs=>List.zipWith (λx y=>(zk.getD c 0*x - zs.getD c 0*y).fdiv b) zs zk) ys) (aZ (bC (by lia))) ⟨aG.refl _,.nil⟩ (λi ys H' _ ⟨s,_⟩=>bN.of (s _ _ gx)) ?_ ?_
  ·rintro i v ys0 H' hx hlen ⟨s',pr⟩;obtain ⟨zs,ec,q,rfl,ql,gq⟩:=cm qx hx;have mz:=ax ec;have wz:=hw zs mz;have gq':=s' _ _ gq;have gk':=s' _ _ gk;exists ⟨⟨_,bN.of gq'⟩,⟨_,bN.of gk'⟩,?_⟩;refine rA (K:=K) (xs:=zs.map V.int) (ws:=zk.map V.int) (λj ys H2=>aG H' H2/\ys=((List.zipWith (λx y=>(zk.getD c 0*x - zs.getD c 0*y).fdiv b) zs zk).take j).map V.int) (aZ (bC (by rw[ar];lia))) (by rw[ar,ar];lia) ⟨aG.refl _,rfl⟩ (λj ys H2 _ ⟨s2,_⟩=>⟨bN.of (s2 _ _ gq'),bN.of (s2 _ _ gk')⟩) ?_ ?_
   ·rintro j v1 v2 ys H2 r h1 h2 hy ⟨s2,rfl⟩ hr
    obtain ⟨x,ex,rfl⟩:∃x,zs[j]?=some x/\V.int x=v1:=by
     rw[aL] at h1;cases e:zs[j]? with
     | none=>rw[e] at h1;cases h1
     | some x=>rw[e] at h1;exact ⟨x,rfl,b6 h1⟩
    obtain ⟨y,ey,rfl⟩:∃y,zk[j]?=some y/\V.int y=v2:=by
     rw[aL] at h2;cases e:zk[j]? with
     | none=>rw[e] at h2;cases h2
     | some x=>rw[e] at h2;exact ⟨x,rfl,b6 h2⟩
    have sr:aG H2 (upd H2 r (.tup [.int x,.int y])):=aG.new hr;have gr:(upd H2 r (.tup [.int x,.int y])) r=some (.tup [.int x,.int y]):=aK;generalize upd H2 r (.tup [.int x,.int y])=H3 at sr gr ⊢;have gq3:=sr _ _ (s2 _ _ gq');have sx:=hs zs mz x (ax ex);have sy:=hs zk mk y (ax ey);have s1:=hs zk mk _ (getD_in (e:=0) (show c < zk.length by lia));have s3:=hs zs mz _ (getD_in (e:=0) (show c < zs.length by lia));exists fE (show gI _ _ from .inr ⟨_,_,s1,sx,by decide⟩) ?_;exists cB (bN.of gq3) (yU (by lia)) ?_;exists fE (show gI _ _ from .inr ⟨_,_,s3,sy,by decide⟩) ?_;exists fE (show nZ _ _ from ⟨b0,sb⟩) ?_;have ez:(List.zipWith (λx y=>(zk.getD c 0*x - zs.getD c 0*y).fdiv b) zs zk)[j]?=some ((zk.getD c 0*x - zs.getD c 0*y).fdiv b):=by rw[bT,ex,ey]
    exact ⟨s2.trans sr,by rw[take_snoc ez];simp⟩
   ·rintro ys H2 hy ⟨s2,rfl⟩ r hr;have sn:aG H2 (upd H2 r (.lst (((List.zipWith (λx y=>(zk.getD c 0*x - zs.getD c 0*y).fdiv b) zs zk).take (zs.map V.int).length).map V.int))):=aG.new hr;refine ⟨(s'.trans s2).trans sn,?_⟩;rw[take_snoc ec,cJ];refine bP (Paired.imp' (λ_ _ z=>(HR.same z s2).same sn) pr) (.cons ⟨r,rfl,ne_old (λz=>hl (s'.none (s2.none z))) hr,?_⟩ .nil);rw[aK,aI (by rw[cD,ar];lia)]
  ·rintro ys H1 hy ⟨s1,pr⟩ r hr;have sn:aG H1 (upd H1 r (.lst ys)):=aG.new hr;have gn:(upd H1 r (.lst ys)) r=some (.lst ys):=aK;have ly:=pr.length;rw[ar,cH] at ly;generalize upd H1 r (.lst ys)=H2 at sn gn ⊢;exists fj gn (fv (by lia)) rfl ?_;have s2:aG H1 (upd H2 r (.lst (ys.set kk (.ref qk)))):=sn.after hr;exists k r _ (s1.none hr) (s1.trans s2) ⟨ne_old (λz=>hl (s1.none z)) hr,_,aK,?_⟩;unfold EX;rw[ek'];rw[aI (by lia)] at pr;exact jR (Paired.imp' (λ_ _ z=>HR.same z s2) pr) kk ⟨qk,rfl,qkl,(s1.trans s2) _ _ gk⟩
theorem sv:bg ["lines","at","to","swapped"] ["lines","at","to"] (aN oB):=by walk_at "d"
theorem AR (T:Txt K mg Z):cI P w K mg base fM 1 Z.vH Z.vm ["lines","at","to"] xl:=by
 refine T.nh.F.ok sv (λvs H Q E h=>?_) (λcdv A outer s H vs Q E hr h=>?_)
 ·obtain ⟨l,p,ls,t,kk,rfl,_⟩:=h;rfl
 ·obtain ⟨l,p,ls,t,kk,rfl,hl,G,l1000,ht,hk,k⟩:=h
  refine ⟨_,(av (a8 (i:=3) sv.nd rfl (Or.inl rfl) (dI pC (by rfl) T.list PyProof.Rows.boot_list (ae (pv 0) ag)))
   (av (fF (aY bS (pv 0) (pv 1)) (gX (pv 3) (pv 2) set_list))
   (av (fF (aY bS (pv 0) (pv 2)) (gX (pv 3) (pv 1) set_list))
   (az (a7 (pv 3)))))),?_⟩
  refine aV (σ:=[some (.ref p),some (.int t),some (.int kk),none]) rfl ?_;obtain ⟨pl,xs,gx,qx⟩:=id G;have lx:=qx.length;obtain ⟨zt,vt,et,evt,_,Ft⟩:=il qx ht;obtain ⟨zk,vk,ek,evk,_,Fk⟩:=il qx hk;exists ⟨p,xs,rfl,.inl (bN.of gx),λc hc=>?_⟩;have sc:aG H (upd H c (.lst xs)):=aG.new hc;have gc:(upd H c (.lst xs)) c=some (.lst xs):=aK;generalize upd H c (.lst xs)=Hc at sc gc ⊢;exists cB (bN.of (sc _ _ gx)) (fL evt) ?_;exists fj gc (fv (by lia)) rfl ?_;have s1:aG H (upd Hc c (.lst (xs.set kk vt))):=sc.after hc;have g1:(upd Hc c (.lst (xs.set kk vt))) c=some (.lst (xs.set kk vt)):=aK;generalize upd Hc c (.lst (xs.set kk vt))=H1 at s1 g1 ⊢;exists cB (bN.of (s1 _ _ gx)) (fL evk) ?_;exists fj g1 (fv (by rw[dQ];lia)) rfl ?_;have s2:aG H (upd H1 c (.lst ((xs.set kk vt).set t vk))):=s1.after hc;exists k c _ hc s2 ⟨ne_old hl hc,_,aK,?_⟩;have et':ls.getD t []=zt:=by rw[aa,et];rfl
  have ek':ls.getD kk []=zk:=by rw[aa,ek];rfl
  unfold oj;rw[et',ek'];exact jR (jR (Paired.imp' (λ_ _ z=>HR.same z s2) qx) kk (HR.same Ft s2)) t (HR.same Fk s2)
theorem jo:bg ["rows","wide","lines","leads","before","place","many","at"] ["rows","wide"] (aN CY):=by walk_at "d"
theorem EA (T:Txt K mg Z):cI P w K mg base fM 4 Z.HN Z.HH ["rows","wide"] (Bc K):=by
 refine T.uU.F.ok jo (λvs H Q E h=>?_) (λcdv A outer s H vs Q E hr h=>?_)
 ·obtain ⟨p,n,w,H0,rows,rfl,_⟩:=h;rfl
 ·obtain ⟨p,n,w,H0,rows,rfl,G,r100,n100,hw,F,k⟩:=h
  refine ⟨_,(av (kN 2 ["row"] [] [] jo.nd rfl rfl (cE (pv 0)) (λ_=>(aT (i:=0) (show ND9 ["row"] by decide +kernel))) (λ_=>cC) (λ_=>(cG (uN T) hr T.jy (ae (pv 0) (ae (cG (nK T) hr T.fV (ae (pv 0) ag)) ag)))))
   (av (a8 (i:=3) jo.nd rfl (Or.inl rfl) (df ag))
   (av (a8 (i:=4) jo.nd rfl (Or.inl rfl) ao)
   (av (dO PassesOwn.never rfl (cw rfl T.range (ae (pv 1) ag)) (aT (i:=5) jo.nd)
    (av (a8 (i:=6) jo.nd rfl (Or.inl rfl) (bA aX (by rfl) T.len aR (ae (pv 3) ag)))
   (av (a8 (i:=7) jo.nd rfl (Or.inl rfl) (cG (AQ T) hr T.mZ (ae (pv 2) (ae (pv 6) (ae (pv 5) ag)))))
   (az (cP (bx GI (pv 7) C3 (bD _)) (av (a8 (i:=2) jo.nd rfl (Or.inl rfl) (cG (FI T) hr T.uo (ae (cG (AR T) hr T.nh (ae (pv 2) (ae (pv 7) (ae (pv 6) ag)))) (ae (pv 6) (ae (pv 5) (ae (pv 4) ag))))))
   (av (a8 (i:=4) jo.nd rfl (Or.inl rfl) (aY bS (aY bS (pv 2) (pv 6)) (pv 5)))
   (az (hZ (sG cM c6 c5 jg (pv 3) (ae (pv 5) ag)))))) bO)))))
   (az (a7 (cN (ae (zM CH (pv 2) GG (yI (bA aX (by rfl) T.len aR (ae (pv 3) ag)))) (ae (pv 3) ag))))))))),?_⟩
  refine aV (σ:=[some (.ref p),some (.int n),none,none,none,none,none,none]) rfl ?_;obtain ⟨xs,gx,qx,_⟩:=id G;obtain ⟨W,hW,W2,ent⟩:=F.ent;obtain ⟨_,_,_,_,_,_,_,_,r15,r89⟩:=id F;exists ⟨⟨_,bN.of gx⟩,?_⟩;refine dJ (K:=K) (as:=rows) (F:=c4 K H0) (λ(H:Hp) (zs:List Int) (v:V)=>∃q,v=V.ref q/\H q=some (.lst (zs.map V.int))) gE gx qx (by lia) (λa b=>a.same b) (λ⟨q,a,b⟩ s=>⟨q,a,s _ _ b⟩) ?_ ?_
  ·rintro i qs v H' NY NN ec s' ⟨u,rfl,_,R⟩ k1;have mx:=ax ec;obtain ⟨M,hM⟩:=F.rowM mx;obtain ⟨b1,sb⟩:=hM.bot;have lq:(qs.map nm).length<=1000:=by rw[ar,hw qs mx];lia
   exists ⟨u,_,M,rfl,R.rowK,lq,hM,λH2 s2=>?_⟩;exists ⟨u,_,M,_,rfl,(R.same s2).rowK,lq,hM,b1,sb,λr H3 n3 s3 g3=>k1 _ _ (s2.trans s3) ⟨r,rfl,g3⟩⟩
  rintro ys H1 lp0 hlp s1 g1 pr1 nx1;exists cW λqp H2 s2 nq gq=>?_
  have G2:rG qp H2 lp0 (rows.map gE):=⟨(λz=>by rw[z,nq] at g1;cases g1),ys,s2 _ _ g1,Paired.imp' (λ_ _ ⟨q,a,b⟩=>⟨q,a,(λz=>by rw[z,nq] at b;cases b),s2 _ _ b⟩) pr1⟩;have hq0:H qp=none:=s1.none nq;have s02:=s1.trans s2;have hm:(rows.map gE).length=rows.length:=ar ..;clear g1 pr1 nx1;exists ⟨by lia,by lia,?_⟩;refine eG (n:=n) (λP σ' H'=>aG H H'/\∃lp ls ps d y1 y2 y3,σ'=[some (.ref p),some (.int n),some (.ref lp),some (.ref qp),some (.int d),y1,y2,y3]/\H' qp=some (.lst (fU ps))/\rG qp H' lp ls/\Cm (rows.map gE) n P ls ps d) ⟨s02,lp0,rows.map gE,[],1,_,_,_,rfl,gq,G2,Cm.start λzs hz=>by obtain ⟨x,hx,rfl⟩:=aD.mp hz;rw[pY];exact hw x hx⟩ ?_ ?_
  ·rintro P σ' H' hP ⟨s',lp,ls,ps,d,y1,y2,y3,rfl,gq',G',I⟩;have hl:=I.len;have kP:=I.el.kP;have km:=I.el.km;have lps:(fU ps).length=ps.length:=ar ..;have hqp:H' qp≠none:=by rw[gq'];exact λz=>nomatch z
   obtain ⟨z1,z2⟩:=I.sz (r:=min rows.length n) hW ent (by lia) (by rw[hm];exact aj _) r15;have big:(16*W)^min rows.length n < 2^8999:=br (tZ W2) (dS (by decide) (by lia));exists ⟨_,_,rfl,.inl (bN.of gq'),?_⟩;rw[lps];exists ⟨qp,lp,ls,ps.length,P,rfl,G',by lia,by lia,λzs hz=>by rw[I.wide zs hz];exact hP,λt h1 h2 h3=>?_,λhz=>?_⟩
   ·exists ⟨rfl,_,rfl,?_⟩;rw[show decide (V.int (t:Int)=V.non)=false from decide_eq_false (λz=>nomatch z)];exists ⟨qp,lp,ls,t,ps.length,rfl,hqp,G',by lia,h2,by lia,λl1 Ha na sa Ga=>?_⟩;exists ⟨qp,l1,_,ps.length,P,n,d,rfl,λz=>hqp (sa.none z),Ga,by rw[v5];lia,by rw[v5];lia,Gh I.wide (by lia) h2,by lia,hP,I.d0,br z1 big,λzs hz z hz'=>?_,λl2 Hb nb sb Gb=>?_⟩
    ·unfold oj at hz;have key:∀ys,ys∈ls->∀z∈ys,Sz 8999 z:=λys hy z hz=>br (z2 ys hy z hz) big
     rcases cg hz with h | h
     ·rcases cg h with h | h
      ·exact key zs h z hz'
      ·rw[h] at hz';exact key _ (getD_in h2) z hz'
     ·rw[h] at hz';exact key _ (getD_in (by lia)) z hz'
    have sab:=sa.trans sb;have I2:=I.step hW ent h1 h2 h3;have hk2:ps.length < (EX (oj ls ps.length t) ps.length P d).length:=by rw[La,v5];lia
    obtain ⟨n2,xs2,gx2,qx2⟩:=id Gb;obtain ⟨zk,vk,ek,evk,mk,qk,rfl,_,gk⟩:=il qx2 hk2;have wk:=I2.wide zk mk;exists cB (bN.of gx2) (fL evk) ?_;exists cB (bN.of gk) (yU (by lia)) ?_;have gqb:=sab _ _ gq';exists ⟨.inl ⟨rfl,_,bN.of gqb⟩,?_⟩;exists iD gqb (bC (by lia)) ?_;refine ⟨(s'.trans sab).after hq0,l2,_,ps++[P],_,_,_,_,rfl,?_,Gb.upd,?_⟩
    ·rw[aK];unfold fU;rw[cJ];rfl
    ·have e:(EX (oj ls ps.length t) ps.length P d).getD ps.length []=zk:=by rw[aa,ek];rfl
     rw[e] at I2;exact I2
   ·exists ⟨rfl,_,rfl,?_⟩;rw[show decide (V.non=V.non)=true from decide_eq_true rfl];exists ⟨s',lp,ls,ps,d,_,_,_,rfl,gq',G',I.skip hz⟩
  rintro σ' H' ⟨s',lp,ls,ps,d,y1,y2,y3,rfl,gq',G',I⟩;obtain ⟨R,hR⟩:=I.done hw F;have lps:(fU ps).length=ps.length:=ar ..;obtain ⟨nl,xs',gx',qx'⟩:=id G';exists ⟨_,_,rfl,.inl (bN.of gq'),?_⟩;rw[lps];exists Oe (bN.of gx') λsl H3 s3 n3 g3=>?_
  rw[K7] at g3;exists bU λt H4 s4 g4=>?_
  have s34:=s3.trans s4;exact k t sl qp R ps d _ H4 g4 (s34 _ _ gq') ⟨(λz=>by rw[z,gq'] at n3;cases n3),_,s4 _ _ g3,Paired.imp' (λ_ _ z=>HR.same z s34) (qR qx' ps.length)⟩ (s'.trans s34) hR
theorem we:bg ["top","bottom","divisor"] ["top","bottom"] (aN zC):=by walk_at "d"
theorem rL (T:Txt K mg Z):cI P w K mg base fM 2 Z.E5 Z.ET ["top","bottom"] Ih:=by
 refine T.k9.F.ok we (λvs H Q E h=>?_) (λcdv A outer s H vs Q E hr h=>?_)
 ·obtain ⟨t,b,rfl,_⟩:=h;rfl
 ·obtain ⟨t,b,rfl,hb,hs,k⟩:=h
  refine ⟨_,(av (a8 (i:=2) we.nd rfl (Or.inl rfl) (cG (jw T) hr T.fq (ae (pv 0) (ae (pv 1) ag))))
   (av (cP (bx qU (pv 1) ao (bD _)) (az (a8 (i:=2) we.nd rfl (Or.inl rfl) (xm pW (pv 2)))) bO)
   (az (a7 (cN (ae (bH iQ (pv 0) (pv 2)) (ae (bH iQ (pv 1) (pv 2)) ag))))))),?_⟩
  refine aV (σ:=[some (.int t),some (.int b),none]) rfl ?_;exists ⟨t,b,rfl,?_⟩;have hg:=Ae (t:=t) hb
  have hgs:Sz 8999 (g t b):=hs.le (by
   have h1:(g t b).natAbs=Int.gcd t b:=by unfold g;simp
   rw[h1];exact fo (by lia) (by have:=fB (a:=t) (b:=b);exact dM.mpr this |> λz=>by simpa using z))
  have hgn:g (-t) (-b)=g t b:=by unfold g;rw[Int.gcd_neg,Int.neg_gcd]
  exists fX (λh=>?_) (λh=>?_)
  ·have hb0:b < 0:=of_decide_eq_true h;exists fE (show nZ _ _ from ⟨by lia,hgs.neg⟩) ?_;exists fE (show nZ _ _ from ⟨by lia,hgs.neg⟩) ?_;exists bU λr H' s' h'=>?_
   have e1:t.fdiv (-g t b)=lo (-t) (-b):=by
    unfold Nm.lo;rw[hgn,<- cz _ (by lia),<- Int.neg_fdiv_neg (-t),Int.neg_neg]
   have e2:b.fdiv (-g t b)=hi (-t) (-b):=by
    unfold Nm.hi;rw[hgn,<- cz _ (by lia),<- Int.neg_fdiv_neg (-b),Int.neg_neg]
   exact k r H' s' (by rw[if_pos hb0,if_pos hb0,<- e1,<- e2];exact h')
  ·have hb0:¬b < 0:=λz=>h (decide_eq_true z)
   exists fE (show nZ _ _ from ⟨by lia,hgs⟩) ?_;exists fE (show nZ _ _ from ⟨by lia,hgs⟩) ?_;exists bU λr H' s' h'=>?_
   rw[cz _ (by lia),cz _ (by lia)] at h';exact k r H' s' (by rw[if_neg hb0,if_neg hb0];exact h')
theorem zv:bg ["rows","wide","found"] ["rows","wide"] (aN wB):=by walk_at "d"
theorem FF (T:Txt K mg Z):cI P w K mg base fM 5 Z.Ce Z.BM ["rows","wide"] (xk K):=by
 refine T.uh.F.ok zv (λvs H Q E h=>?_) (λcdv A outer s H vs Q E hr h=>?_)
 ·obtain ⟨p,n,w,H0,rows,rfl,_⟩:=h;rfl
 ·obtain ⟨p,n,w,H0,rows,rfl,G,r100,n100,hw,F,k⟩:=h
  refine ⟨_,(av (a8 (i:=2) zv.nd rfl (Or.inl rfl) (cG (EA T) hr T.uU (ae (pv 0) (ae (pv 1) ag))))
   (az (a7 (cA ["line","lead"] [] [] (rJ rfl T.zip (ae (aY bM (pv 2) ao) (ae (aY bM (pv 2) ao) ag))) (λ_=>(rK K 2 (cQ (aT (i:=0) (show ND9 ["line","lead"] by decide +kernel) rfl (Or.inr rfl) (Or.inl rfl)) (cQ (aT (i:=1) (show ND9 ["line","lead"] by decide +kernel) rfl (Or.inr rfl) (Or.inl rfl)) iU)))) (λ_=>cC) (λ_=>(cA ["top"] ["line","lead"] [0,1] (Ey K (pv 0)) (λ_=>(aT (i:=0) (show ND9 ["top","line","lead"] by decide +kernel))) (λ_=>cC) (λ_=>(cG (rL T) hr T.k9 (ae (pv 0) (ae (aY (fW K (by rfl)) (pv 1) (pv 2)) ag)))))))))),?_⟩
  refine aV (σ:=[some (.ref p),some (.int n),none]) rfl ?_;obtain ⟨_,_,_,_,_,_,_,_,r15,r89⟩:=id F;exists ⟨p,n,w,H0,rows,rfl,G,r100,n100,hw,F,λt lp qp R ps d ls H1 gt gq G1 s1 S=>?_⟩;obtain ⟨lR,wR,RR⟩:=id S.rr;have hl:=S.len;obtain ⟨_,xs,gx,qx⟩:=id G1;have lx:=qx.length;have lps:(fU ps).length=ps.length:=ar ..;have d0:(d:Rat)≠0:=λz=>S.d0 (kJ z)
  have dsz:Sz 8999 d:=br S.dsz (dS (by decide) (by lia))
  have km:ps.length<=n:=by
   rcases cb n ps.length with z | z
   ·have inc:∀j,j < ps.length->j<=ps.getD j 0:=by
     intro j
     induction j with
     | zero=>intro _;exact bf _
     | succ j ih =>
      intro hj;have:=ih (by lia);have:=RR.inc j (j+1) (by lia) hj
      lia
    have h1:=inc (ps.length - 1) (by lia);have h2:=RR.low (ps.length - 1) (by lia)
    lia
   ·exact z
  exists ⟨⟨_,bN.of gx⟩,⟨_,bN.of gq⟩,?_⟩;refine rA (K:=K) (xs:=xs) (ws:=fU ps) (λi ys H'=>aG H1 H'/\Paired (c4 K H1 H') (R.take i) ys) (aZ (bC (by lia))) (by lia) ⟨aG.refl _,.nil⟩ (λi ys H' _ ⟨s,_⟩=>⟨bN.of (s _ _ gx),bN.of (s _ _ gq)⟩) ?_ ?_
  ·rintro i v1 v2 ys H' r h1 h2 hy ⟨s,pr⟩ hr;obtain ⟨zs,ez,q,rfl,_,gq1⟩:=cm qx h1;have hi:i < ls.length:=(aE.mp ez).1;have mz:=ax ez;have wz:=S.wide zs mz
   obtain ⟨j,ej,rfl⟩:∃j:Nat,ps[i]?=some j/\V.int (j:Int)=v2:=by
    unfold fU at h2;rw[aL] at h2;cases e:ps[i]? with
    | none=>rw[e] at h2;cases h2
    | some x=>rw[e] at h2;exact ⟨x,rfl,b6 h2⟩
   have ej':ps.getD i 0=j:=by rw[aa,ej];rfl
   have jn:j < n:=by have:=RR.low i (by lia);rw[ej'] at this;exact this
   have sr:aG H' (upd H' r (.tup [.ref q,.int j])):=aG.new hr;have gr:(upd H' r (.tup [.ref q,.int j])) r=some (.tup [.ref q,.int j]):=aK;generalize upd H' r (.tup [.ref q,.int j])=H2 at sr gr ⊢;have s2:=s.trans sr;have iR:i < R.length:=by lia
   have eR:=af iR;have wRi:=wR _ (aP iR)
   have ed:zs.getD j 0=d:=by
    have h:=S.val i j;rw[Js ez] at h;have u:=RR.unit i (by lia) i (by lia);rw[if_pos rfl,ej'] at u;rw[u,Co] at h;exact dn.mp h
   have val:∀c,((zs.getD c 0:Int):Rat)=(d:Rat)*(R[i]).getD c 0:=λc=>by
    have h:=S.val i c;rw[Js ez] at h;rw[h];unfold cu;rw[aa (l:=R),eR];rfl
   exists ⟨⟨_,bN.of (s2 _ _ gq1)⟩,?_⟩;refine fZ (K:=K) (xs:=zs.map V.int) (λc ys' H3=>aG H2 H3/\Paired (ck K H3) ((R[i]).take c) ys') (aZ (bC (by rw[ar];lia))) ⟨aG.refl _,.nil⟩ (λc ys' H3 _ ⟨s3,_⟩=>bN.of ((s2.trans s3) _ _ gq1)) ?_ ?_
   ·rintro c x ys' H3 hx hlen ⟨s3,pr3⟩
    obtain ⟨z,ec,rfl⟩:∃z,zs[c]?=some z/\V.int z=x:=by
     rw[aL] at hx;cases e:zs[c]? with
     | none=>rw[e] at hx;cases hx
     | some x=>rw[e] at hx;exact ⟨x,rfl,b6 hx⟩
    have hc:c < zs.length:=(aE.mp ec).1;have vc:=val c;have e1:zs.getD c 0=z:=by rw[aa,ec];rfl
    rw[e1] at vc;exists cB (bN.of ((s2.trans s3) _ _ gq1)) (yU (by lia)) ?_;rw[ed];exists ⟨z,d,rfl,S.d0,dsz,λr4 H4 s4 g4=>?_⟩;have ec':(R[i])[c]?=some ((R[i]).getD c 0):=by rw[aa,af (show c < (R[i]).length by lia)];rfl
    refine ⟨s3.trans s4,?_⟩;rw[take_snoc ec'];refine bP (Paired.imp' (λ_ _ z=>ck.same z s4) pr3) (.cons (ck.mk g4 ?_) .nil);rcases Int.lt_or_lt_of_ne S.d0 with hd | hd
    ·rw[if_pos hd,if_pos hd];refine kU (by lia) ?_;rw[cR,cR,vc];grind
    ·rw[if_neg (by lia),if_neg (by lia)];refine kU hd ?_;rw[vc];grind
   ·rintro ys' H3 hy' ⟨s3,pr3⟩ l4 hl4;have sn:aG H3 (upd H3 l4 (.lst ys')):=aG.new hl4;refine ⟨(s2.trans s3).trans sn,?_⟩;rw[take_snoc eR];rw[aI (by rw[ar];lia)] at pr3;exact bP (Paired.imp' (λ_ _ z=>c4.same z ((sr.trans s3).trans sn)) pr) (.cons ⟨l4,rfl,(s2.trans s3).none hl4,ys',aK,Paired.imp' (λ_ _ z=>ck.same z sn) pr3⟩ .nil)
  ·rintro ys H' hy ⟨s,pr⟩ r hr;have sn:aG H' (upd H' r (.lst ys)):=aG.new hr;rw[aI (by lia)] at pr;refine k r R ps d.natAbs _ (s1.none (s.none hr)) ((s1.trans s).trans sn) ⟨ys,aK,Paired.imp' (λ_ _ z=>(c4.weak z s1).same sn) pr,je (H0:=H1) (rows:=R) ⟨H',hr,pr⟩⟩ S.rr S.km ?_ S.dsz S.tp;have:=S.d0
   lia
theorem ou:bg ["one","other","one_bottom","other_bottom","pairs"] ["one","other"] (aN wA):=by walk_at "d"
theorem zR (T : Txt K mg Z) : cI P w K mg base fM 4 Z.Cd Z.BL ["one", "other"] (CD K) := by
  have pQ := nK (P := P) (w := w) (base := base) T;have yn := uN (P := P) (w := w) (base := base) T;have Lf := rL (P := P) (w := w) (base := base) T;refine T.oS.F.ok ou (λvs H Q E h => ?_) (λcdv A outer s H vs Q E hr h => ?_)
  · obtain ⟨p, q, xs, ys, rfl, _⟩ := h;rfl
  · obtain ⟨p, q, xs, ys, rfl, hp, hq, hl, hz, ⟨k1, j1, k2, j2, h1, h2, hkj⟩, kk⟩ := h
    refine ⟨_, (av (a8 (i := 2) ou.nd rfl (Or.inl rfl) (cG pQ hr T.fV (ae (pv 0) ag)))
      (av (a8 (i := 3) ou.nd rfl (Or.inl rfl) (cG pQ hr T.fV (ae (pv 1) ag)))
      (av (a8 (i := 4) ou.nd rfl (Or.inl rfl) (FC rfl T.list rfl T.zip (ae (cG yn hr T.jy (ae (pv 0) (ae (pv 2) ag))) (ae (cG yn hr T.jy (ae (pv 1) (ae (pv 3) ag))) ag))))
      (az (a7 (cG Lf hr T.k9 (ae (bA (Lb rfl) (by rfl) T.sum PyProof.Rows.boot_sum (ae (cA ["mine", "yours"] [] [] (cE (pv 4)) (λ_ => (rK K 2 (cQ (aT (i := 0) (show List.Nodup (α := PySem.Str) ["mine", "yours"] by decide +kernel)) (cQ (aT (i := 1) (show List.Nodup (α := PySem.Str) ["mine", "yours"] by decide +kernel)) iU)))) (λ_ => cC) (λ_ => (bH cY (pv 0) (pv 1)))) ag)) (ae (bH cY (pv 2) (pv 3)) ag)))))))), ?_⟩
    refine aV (σ := [some (.ref p), some (.ref q), none, none, none]) rfl ?_;obtain ⟨M, h1⟩ := h1.rowM (by lia);obtain ⟨N, h2⟩ := h2.rowM (by lia);replace hp := hp.rowK;replace hq := hq.rowK;replace hl : (ys.map nm).length = (xs.map nm).length := by simpa using hl
    replace hz : (xs.map nm).length ≤ 1000 := by simpa using hz
    obtain ⟨b1, s1⟩ := h1.bot;obtain ⟨b2, s2⟩ := h2.bot;have k2 : ∀ r H', aG H H' → H' r = some (.tup [.int (lo (K2 (xs.map nm) (ys.map nm)) (gZ (xs.map nm) * gZ (ys.map nm))), .int (hi (K2 (xs.map nm) (ys.map nm)) (gZ (xs.map nm) * gZ (ys.map nm)))]) → Q (.ref r) H' := λr H' s g => kk r H' s (ck.mk g (MO b1 b2))
    clear kk;generalize xs.map nm = ns at hp hq hl hz h1 h2 b1 b2 s1 s2 k2;generalize ys.map nm = ms at hp hq hl hz h1 h2 b1 b2 s1 s2 k2;have hb : 0 < gZ ns * gZ ms := iT b1 b2;exists ⟨p, ns, M, rfl, hp, hz, h1, λH1 t1 => ?_⟩;exists ⟨q, ms, N, rfl, hq.same t1, by lia, h2, λH2 t2 => ?_⟩;have u2 := t1.trans t2;exists ⟨p, ns, M, _, rfl, hp.same u2, hz, h1, b1, s1, λr1 H3 n3 t3 g3 => ?_⟩;exists ⟨q, ms, N, _, rfl, (hq.same u2).same t3, by lia, h2, b2, s2, λr2 H4 n4 t4 g4 => ?_⟩;exists ⟨r1, r2, _, _, rfl, bN.of (t4 _ _ g3), bN.of g4, by simp [fJ, hl], λL ts H5 t5 n5 g5 pr => ?_⟩;have lt := pr.length;have ll : (fJ ns (gZ ns)).length = ns.length := by simp [fJ]
    have lm : (fJ ms (gZ ms)).length = ns.length := by simp [fJ, hl]
    rw [AI, ar, ar, ll, lm] at lt;exists ⟨⟨_, bN.of g5⟩, ?_⟩;refine fZ (K := K) (xs := ts) (λi ys H' => H' = H5 /\ ys = ((List.zipWith (· * ·) (fJ ns (gZ ns)) (fJ ms (gZ ms))).take i).map V.int) (aZ (bC (by lia))) ⟨rfl, rfl⟩ (λi ys H' _ ⟨e, _⟩ => by subst e; exact bN.of g5) ?_ ?_
    · rintro i x ys H' hx hlen ⟨rfl, rfl⟩;obtain ⟨pq, epq, T, rfl, gT⟩ := cm pr hx;obtain ⟨t, u, et, eu, rfl⟩ := Lv epq;exists fE (show gI _ _ from .inr ⟨_, _, DX h1 b1 s1 (ax et), DX h2 b2 s2 (ax eu), by decide⟩) ?_;have ez : (List.zipWith (· * ·) (fJ ns (gZ ns)) (fJ ms (gZ ms)))[i]? = some (t * u) := by rw [bT, et, eu]
      exact ⟨rfl, by rw [take_snoc ez]; simp⟩
    · rintro ys H' hy ⟨rfl, rfl⟩ l hl';exists ⟨l, List.zipWith (· * ·) (fJ ns (gZ ns)) (fJ ms (gZ ms)), rfl, bN.of (by rw [aK, aI (by rw [cD]; lia)]), ?_⟩;exists fE (show gI _ _ from .inr ⟨_, _, s1, s2, by decide⟩) ?_;exists ⟨_, _, rfl, by lia, (s1.mul s2).mono (by decide), λr H6 t6 g6 => ?_⟩;rw [if_neg (by lia), if_neg (by lia)] at g6;exact k2 r H6 ((((u2.trans t3).trans t4).trans t5).trans ((aG.new hl').trans t6)) g6
theorem Fp:bg ["grid","row"] ["grid","row"] (aN wD):=by walk_at "d"
theorem FH (T:Txt K mg Z):cI P w K mg base fM 5 Z.Cg Z.BO ["grid","row"] (CC K):=by
 refine T.uj.F.ok Fp (λvs H Q E h=>?_) (λcdv A outer s H vs Q E hr h=>?_)
 ·obtain ⟨p,q,H0,rows,ys,rfl,_⟩:=h;rfl
 ·obtain ⟨p,q,H0,rows,ys,rfl,hp,hq,hz,hl,hr1,kk⟩:=h;refine ⟨_,(az (a7 (cA ["line"] ["row"] [1] (cE (pv 0)) (λ_=>(aT (i:=0) (show ND9 ["line","row"] by decide +kernel))) (λ_=>cC) (λ_=>(cG (zR T) hr T.oS (ae (pv 0) (ae (pv 1) ag))))))),?_⟩;refine aV (σ:=[some (.ref p),some (.ref q)]) rfl ?_;obtain ⟨xs,gx,qx,_⟩:=id hp;exists ⟨⟨_,bN.of gx⟩,?_⟩;refine dJ (K:=K) (F:=c4 K H0) (ck K) (λxs=>dR xs ys) gx qx hz (λa b=>a.same b) (λa b=>a.same b) ?_ ?_
  ·rintro i ns x H' NY NN en s ⟨u,rfl,_,hu⟩ k;obtain ⟨e1,e2⟩:=hr1 ns (ax en);exists ⟨u,q,ns,ys,rfl,hu,hq.same s,e1.symm,by lia,e2,λr H2 s2 h2'=>k _ _ s2 h2'⟩
  ·rintro ys' H' r hr s g pr nx;exact kk r H' hr s ⟨ys',g,pr⟩
theorem AM:bg ["system","rows"] ["system","rows"] (aN oz):=by walk_at "d"
theorem sJ (T:Txt K mg Z):cI P w K mg base fM 6 Z.vF Z.vg ["system","rows"] (Bj K Z.a_System):=by
 refine T.j7.F.ok AM (λvs H Q E h=>?_) (λcdv A outer s H vs Q E hr h=>?_)
 ·obtain ⟨x,p,H0,H1,mv,pt,lk,R,rfl,_⟩:=h;rfl
 ·obtain ⟨x,p,H0,H1,mv,pt,lk,R,rfl,S,D,G,l100,wR,hf,k⟩:=h;refine ⟨_,(az (a7 (cA ["row"] ["system"] [0] (cE (pv 1)) (λ_=>(aT (i:=0) (show ND9 ["row","system"] by decide +kernel))) (λ_=>cC) (λ_=>(cG (FH T) hr T.uj (ae (GH K (pv 1) rfl) (ae (pv 0) ag))))))),?_⟩;refine aV (σ:=[some (.ref x),some (.ref p)]) rfl ?_;obtain ⟨dx,a',b',c',gx,_,_,_,Ga,Gb,Gc⟩:=id S;have d8:=D.n8;obtain ⟨xs,gxs,qx,_⟩:=id G;exists ⟨⟨_,bN.of gxs⟩,?_⟩;refine dJ (K:=K) (F:=c4 K H1) (c4 K H) (pT mv) gxs qx (by lia) (λa b=>a.same b) (λa b=>a.same b) ?_ ?_
  ·rintro i ns v H' NY NN en s ⟨u,rfl,_,hu⟩ k1;have mn:=ax en;exists ⟨x,Z.a_System,dx,_,_,rfl,s _ _ gx,T.cl_System,T.na_move,D4,?_⟩;exists ⟨a',u,H0,mv,ns,rfl,Ga.same s,hu,by lia,by rw[wR ns mn];lia,λxs hx=>⟨by rw[D.mw xs hx,wR ns mn],hf xs hx ns mn⟩,λr H2 nr s2 R2=>k1 _ _ s2 ⟨r,rfl,s.none nr,R2⟩⟩
  ·rintro ys H' r hr s g pr nx;exact k r H' hr s ⟨ys,g,pr,je nx⟩
theorem lA:bg ["system","steps","lists","rows"] ["system","steps"] (aN mM):=by walk_at "d"
theorem zS (T:Txt K mg Z):cI P w K mg base fM 7 Z.td Z.sQ ["system","steps"] (Bo K Z.a_System):=by
 refine T.lK.F.ok lA (λvs H Q E h=>?_) (λcdv A outer s H vs Q E hr h=>?_)
 ·obtain ⟨x,a,c,st,H0,mv,pt,lk,rfl,_⟩:=h;rfl
 ·obtain ⟨x,a,c,st,H0,mv,pt,lk,rfl,s1000,S,D,F,k⟩:=h
  refine ⟨_,(av (a8 (i:=2) lA.nd rfl (Or.inl rfl) (df (ae (df ag) ag)))
   (av (zJ PassesOwn.never (bx Qn (bA aX (by rfl) T.len aR (ae (pv 2) ag)) (pv 1) (bD _))
    (av (a8 (i:=3) lA.nd rfl (Or.inl rfl) (cG (FF T) hr T.uh (ae (bH i8 (iZ (pv 0) rfl) (cG (sJ T) hr T.j7 (ae (pv 0) (ae (aY bS (pv 2) (xm pW ao)) ag)))) (ae (iZ (pv 0) rfl) ag))))
   (av (cP (bx eJ (bA aX (by rfl) T.len aR (ae (pv 3) ag)) (bA aX (by rfl) T.len aR (ae (aY bS (pv 2) (xm pW ao)) ag)) (bD _)) (az (a7 (pv 2))) bO)
   (az (hZ (sG cM c6 c5 jg (pv 2) (ae (pv 3) ag)))))))
   (az (a7 (pv 2))))),?_⟩
  refine aV (σ:=[some (.ref x),some (.int st),none,none]) rfl ?_;obtain ⟨dx,a',b',c',gx,_,_,_,Ga,Gb,Gc⟩:=id S;have d8:=D.n8;have i4:=D.i4;have lP:=fh (mv:=mv) (pt:=pt) rfl D.pw;exists cW λq0 H1 s1 nq0 g1=>?_
  exists cW λl H2 s2 nl g2=>?_
  have s02:=s1.trans s2;have nl0:H l=none:=s1.none nl;obtain ⟨Hz,eHz⟩:∃Hz,Hz=upd H l (.lst []):=⟨_,rfl⟩;have zl:Hz l≠none:=by rw[eHz,aK];exact λz=>nomatch z
  have zn:∀q,Hz q=none->H q=none/\q≠l:=λq h=>by
   have ne:q≠l:=λz=>zl (by rw[<- z];exact h)
   rw[eHz,bG ne] at h;exact ⟨h,ne⟩
  have nz:∀q,H q=none->q≠l->Hz q=none:=λq h ne=>by rw[eHz,bG ne];exact h
  clear eHz;have q0l:q0≠l:=λz=>by rw[z,nl] at g1;cases g1
  have G0:bJ K Hz H2 q0 []:=⟨[],s2 _ _ g1,.nil,λz=>nomatch z⟩;exists Cu (λσ' H'=>aG H H'/\∃Rs R us y,σ'=[some (.ref x),some (.int st),some (.ref l),y]/\H' l=some (.lst us)/\Paired (λR v=>∃q,v=V.ref q/\Hz q=none/\bJ K Hz H' q R) (Rs++[R]) us/\rF mv pt (Rs++[R])/\Rs.length<=st) (λ_ H'=>match H' l with | some (.lst us)=>st+1 - us.length | _=>0) ⟨s02,[],[],_,_,rfl,g2,.cons ⟨q0,rfl,nz q0 nq0 q0l,G0⟩ .nil,⟨by simp,λt R e=>?_,λt R R' e e'=>?_⟩,bf _⟩ ?_
  ·have ht:=(aE.mp e).1;have:t=0:=by simpa using ht
   subst this;cases e;exact ⟨[],Oa⟩
  ·have ht:=(aE.mp e').1;simp at ht
  rintro σ' Ha ⟨sa,Rs,R,us,y,rfl,gu,pa,Gw,hst⟩;have lu:=pa.length;rw[ak,bo] at lu;have eR:(Rs++[R])[Rs.length]?=some R:=by rw[a9 (aj _),fk];rfl
  obtain ⟨ps,RR⟩:=Gw.rr _ _ eR;have tn:Rs.length<=mv.length:=by have:=Gw.len _ _ eR;have:=RR.le;have:=RR.1;lia
  have fin:∀(Hx:Hp) (sx:aG Ha Hx) (hh:∀s,(Rs.length=st/\s=st\/Rs.length < st/\Rs.length<=s)->∃ps,bY (kry mv pt s) mv.length R ps),Q (.ref l) Hx:=λHx sx hh=>by
   refine k l (Rs++[R]) Hx nl0 (sa.trans sx) ⟨us,sx _ _ gu,Paired.imp' (λ_ _ ⟨q,e1,e2,e3⟩=>⟨q,e1,(zn q e2).1,(zn q e2).2,bJ.weakN (bJ.same e3 sx) λq h=>(zn q h).1⟩) pa⟩ Gw (by rw[ak,bo];lia) λR2 e2 s hs=>?_
   rw[List.getLast?_concat] at e2;cases e2;rw[ak,bo,Nat.add_sub_cancel] at hs;exact hh s hs
  exists ⟨_,_,rfl,.inl (bN.of gu),?_⟩;exists fX (λh0=>?_) (λh0=>?_)
  ·have h0:=of_decide_eq_true h0;refine Nj ?_
   obtain ⟨zs,gS⟩:∃zs q,us=zs++[V.ref q]/\Hz q=none/\bJ K Hz Ha q R:=by
    obtain ⟨v,ev,q,rfl,e2,e3⟩:∃v,us[Rs.length]?=some v/\∃q,v=V.ref q/\Hz q=none/\bJ K Hz Ha q R:=by
     have ev:=af (show Rs.length < us.length by lia);obtain ⟨R2,e2,w⟩:=cm pa ev;rw[eR] at e2;cases e2;exact ⟨_,ev,w⟩
    refine ⟨us.take Rs.length,q,?_,e2,e3⟩;rw[<- take_snoc ev,aI (by lia)]
   obtain ⟨q,rfl,zq,Gq⟩:=gS;have gxa:=sa _ _ gx;exists ⟨x,Z.a_System,dx,_,_,rfl,gxa,T.cl_System,T.na_put,uy,?_⟩;exists cB (bN.of gu) (vD _ _) ?_;have wR:=RR.2.1;have lR:=RR.1;have pn:=RR.le;exists ⟨x,q,H0,Hz,mv,pt,lk,R,rfl,S.same sa,D,Gq,by lia,wR,F.fit d8 D.mw D.pw tn RR,λmr Hb nmr sb Gm=>?_⟩;obtain ⟨pv,gpv,qpv,_⟩:=Gb.same (sa.trans sb);obtain ⟨mvs,gmv,qmv,_⟩:=id Gm;have lpv:=qpv.length;have lmv:=qmv.length;rw[ar] at lmv;exists iX gpv gmv (aZ (bC (by lia))) λcr Hc sc nc gc=>?_
   have sab:=sa.trans (sb.trans sc);have Gc':bJ K (λ_=>none) Hc cr (pt++R.map (pT mv)):=wX (H:=Hb) (bP (Paired.imp' (λ_ _ ⟨q,e1,e2,e3⟩=>⟨q,e1,rfl,e3⟩) qpv) (Paired.imp' (λ_ _ ⟨q,e1,e2,e3⟩=>⟨q,e1,rfl,e3⟩) qmv)) sc nc gc;exists ⟨x,Z.a_System,dx,_,_,rfl,sab _ _ gx,T.cl_System,T.na_states,tO,?_⟩;exists ⟨cr,mv.length,_,_,_,rfl,Gc',by rw[ak,ar];lia,by lia,λxs hx=>?_,F.step d8 D.mw D.pw tn RR,λrr R' ps' M' Hd nrr sd G' RR' pm' _ _ _=>?_⟩
   ·rcases aw.mp hx with hx | hx
    ·exact D.pw xs hx
    ·obtain ⟨y,_,rfl⟩:=aD.mp hx;exact C5
   have sbd:=sb.trans (sc.trans sd);have sad:=sa.trans sbd;have K1:=Ac rfl D.mw D.pw RR RR';have gud:=sbd _ _ gu;obtain ⟨rv,grv,qrv,_⟩:=id G';have lrv:=qrv.length;have lR':=RR'.1;have pn':=RR'.le;exists ⟨_,_,rfl,.inl (bN.of grv),?_⟩;exists cB (bN.of gud) (vD _ _) ?_;obtain ⟨ov,gov,qov,_⟩:=Gq.same sbd;have lov:=qov.length;exists ⟨_,_,rfl,.inl (bN.of gov),?_⟩;exists fX (λh1=>?_) (λh1=>?_)
   ·have h1:=of_decide_eq_true h1;exists fin Hd sbd λs hs=>⟨ps,?_⟩
    obtain ⟨s',rfl⟩:∃s',s=Rs.length+s':=⟨s - Rs.length,by lia⟩;exact IQ rfl D.mw D.pw RR RR' (by lia) s'
   ·have h1:¬((rv.length:Int)=ov.length):=λz=>h1 (decide_eq_true z)
    have gr:=Ks rfl D.mw D.pw RR K1;have rl:rr≠l:=λz=>by rw[z,(sb.trans sc) _ _ gu] at nrr;cases nrr
    have zc:∀q,Hc q=none->Hz q=none:=λq h=>nz q (sab.none h) (λz=>by rw[z,(sb.trans sc) _ _ gu] at h;cases h)
    exists ⟨.inl ⟨rfl,_,bN.of gud⟩,?_⟩;exists iD gud (bC (by lia)) ?_;refine ⟨⟨sad.after nl0,Rs++[R],R',_,_,rfl,aK,bP (Paired.imp' (λ_ _ ⟨q,e1,e2,e3⟩=>⟨q,e1,e2,bJ.updL (bJ.same e3 sbd) gud zl (zn q e2).2⟩) pa) (.cons ⟨rr,rfl,zc rr nrr,bJ.updL (G'.weakN zc) gud zl rl⟩ .nil),Gw.snoc K1 (by lia),by rw[ak,bo];lia⟩,?_⟩;simp only[gu,aK,ak,bo] at lu h0 ⊢
    lia
  ·have h0:¬((us.length:Int)<=st):=λz=>h0 (decide_eq_true z)
   walk_at "w"
   exact fin Ha (aG.refl _) λs hs=>⟨ps,by
    have:s=Rs.length:=by lia
    rw[this];exact RR⟩
theorem CM:bg ["lists","joined","each"] ["lists"] (aN Fu):=by walk_at "d"
theorem My (T:Txt K mg Z):cI P w K mg base fM 1 Z.Ld Z.K4 ["lists"] (Eg K):=by
 refine T.Dn.F.ok CM (λvs H Q E h=>?_) (λcdv A outer s H vs Q E hr h=>?_)
 ·obtain ⟨p,xs,Rs,rfl,_⟩:=h;rfl
 ·obtain ⟨p,xs,Rs,rfl,gx,qx,hl,k⟩:=h
  refine ⟨_,(av (a8 (i:=1) CM.nd rfl (Or.inl rfl) (df ag))
   (av (dO PassesOwn.never rfl (cE (pv 0)) (aT (i:=2) CM.nd)
    (az (hZ (sG cM PySem.F.slot_list_extend PySem.F.type_list_extend IK (pv 1) (ae (pv 2) ag)))))
   (az (a7 (pv 1))))),?_⟩
  refine aV (σ:=[some (.ref p),none,none]) rfl ?_;have lx:=qx.length;exists cW λj H1 s1 n1 g1=>?_
  exists ⟨⟨_,bN.of (s1 _ _ gx)⟩,?_⟩;refine fY (K:=K) (a:=p) (xs:=xs) (λi σ' H'=>aG H H'/\∃(us:List V) (x:Option V),σ'=[some (.ref p),some (.ref j),x]/\H' j=some (.lst us)/\Paired (c4 K (AZ j) H') (Rs.take i).flatten us) ⟨s1,[],none,rfl,g1,.nil⟩ (λi σ' H' _ ⟨s,_⟩=>bN.of (s _ _ gx)) ?_ ?_
  ·rintro i x σ' H' hx ⟨s,us,y,rfl,gj,pr⟩;obtain ⟨qs,eq,q,rfl,_,Gq⟩:=cm qx hx;obtain ⟨qj,zs,gz,qz,_⟩:=Gq.off n1;have lz:=qz.length;have lu:=pr.length;have tl:(Rs.take (i+1)).flatten=(Rs.take i).flatten++qs:=by rw[take_snoc eq,iK];simp
   have bl:(Rs.take i).flatten.length+qs.length<=1000:=by
    have e:Rs.flatten=(Rs.take (i+1)).flatten++(Rs.drop (i+1)).flatten:=by rw[<- iK,List.take_append_drop]
    rw[e,tl,ak,ak] at hl
    lia
   exists ⟨.inl ⟨rfl,_,bN.of gj⟩,?_⟩;exists ⟨j,q,us,zs,rfl,rfl,gj,s _ _ gz,aZ (bC (by lia)),?_⟩;refine ⟨s.after n1,_,_,rfl,aK,?_⟩;rw[tl];exact bP (Paired.imp' (λ_ _ z=>c4.updL z gj off_ne) pr) (Paired.imp' (λ_ _ z=>c4.updL (c4.same z s) gj off_ne) qz)
  ·rintro σ' H' ⟨s,us,y,rfl,gj,pr⟩;rw[aI (by lia)] at pr;exists k j (AZ j) H' n1 s ⟨us,gj,pr,λz=>?_⟩;obtain ⟨_,_,q,e,h,_⟩:=cL pr z;cases e;exact off_ne h
theorem jr:bg ["system","steps","lists","rows","step"] ["system","steps"] (aN qB):=by walk_at "d"
theorem C9 (T:Txt K mg Z):cI P w K mg base fM 7 Z.xV Z.xC ["system","steps"] (Ei K Z.a_System):=by
 refine T.oU.F.ok jr (λvs H Q E h=>?_) (λcdv A outer s H vs Q E hr h=>?_)
 ·obtain ⟨x,u,a,c,H0,mv,pt,lk,rfl,_⟩:=h;rfl
 ·obtain ⟨x,u,a,c,H0,mv,pt,lk,rfl,hu,S,D,F,k⟩:=h
  refine ⟨_,(av (a8 (i:=2) jr.nd rfl (Or.inl rfl) (df ag))
   (av (a8 (i:=3) jr.nd rfl (Or.inl rfl) (iZ (pv 0) rfl))
   (av (dO PassesOwn.never rfl (cw rfl T.range (ae (pv 1) ag)) (aT (i:=4) jr.nd)
    (av (hZ (sG cM c6 c5 jg (pv 2) (ae (pv 3) ag)))
   (az (a8 (i:=3) jr.nd rfl (Or.inl rfl) (cG (sJ T) hr T.j7 (ae (pv 0) (ae (pv 3) ag)))))))
   (az (a7 (pv 2)))))),?_⟩
  refine aV (σ:=[some (.ref x),some (.int u),none,none,none]) rfl ?_;obtain ⟨dx,a',b',c',gx,_,_,_,Ga,Gb,Gc⟩:=id S;have d8:=D.n8;have i4:=D.i4;exists cW λl H1 s1 n1 g1=>?_
  exists ⟨x,Z.a_System,dx,_,_,rfl,s1 _ _ gx,T.cl_System,T.na_put,uy,?_⟩;walk_at "w";obtain ⟨bl,G0⟩:=Gb.off n1;have G1:=G0.same s1;refine ⟨by lia,by lia,?_⟩;refine eG (n:=u) (λi σ' H'=>aG H H'/\∃q us y,σ'=[some (.ref x),some (.int u),some (.ref l),some (.ref q),y]/\q≠l/\H' l=some (.lst us)/\Paired (Jj K l H') (Jc mv pt i) us/\bJ K (AZ l) H' q (pt.map (iG mv i))) ⟨s1,b',[],_,rfl,bl,g1,.nil,by rw[show pt.map (iG mv 0)=pt from ia pt];exact G1⟩ ?_ ?_
  ·rintro i σ' H' hi ⟨s',q,us,y,rfl,ql,gu,pu,Gq⟩;have lu:=pu.length;have la:(Jc mv pt i).length=i:=by unfold Jc;rw[ar,cK]
   exists ⟨.inl ⟨rfl,_,bN.of gu⟩,?_⟩;exists iD gu (bC (by lia)) ?_;have s2:aG H (upd H' l (.lst (us++[V.ref q]))):=s'.after n1;have g2:(upd H' l (.lst (us++[V.ref q]))) l=some (.lst (us++[V.ref q])):=aK
   have p2:Paired (Jj K l (upd H' l (.lst (us++[V.ref q])))) (Jc mv pt (i+1)) (us++[V.ref q]):=by
    rw[DL];exact bP (Paired.imp' (λ_ _ z=>Jj.upd z gu) pu) (.cons ⟨q,rfl,ql,Gq.updL gu off_ne ql⟩ .nil)
   have Gq2:=Gq.updL (o:=.lst (us++[V.ref q])) gu off_ne ql;generalize upd H' l (.lst (us++[V.ref q]))=H2 at s2 g2 p2 Gq2 ⊢;exists ⟨x,q,H0,AZ l,mv,pt,lk,_,rfl,S.same s2,D,Gq2,by rw[ar];lia,λr hr=>?_,F.fitP D.mw D.pw (by lia),λr H3 nr s3 G3=>?_⟩
   ·obtain ⟨y,hy,rfl⟩:=aD.mp hr;exact iF (D.pw y hy) i
   ·have e:(pt.map (iG mv i)).map (pT mv)=pt.map (iG mv (i+1)):=by rw[mI];rfl
    rw[e] at G3;exact ⟨s2.trans s3,r,_,_,rfl,λz=>(by rw[z,g2] at nr;cases nr),s3 _ _ g2,Paired.imp' (λ_ _ z=>Jj.same z s3) p2,G3.weakN λq h=>Kd λz=>by rw[z,g2] at h;cases h⟩
  ·rintro σ' H' ⟨s',q,us,y,rfl,ql,gu,pu,Gq⟩;exists k l us H' n1 s' gu pu
theorem AL:bg ["many"] ["many"] (aN oy):=by walk_at "d"
theorem mX (T:Txt K mg Z):cI P w K mg base fM 1 Z.vE Z.vf ["many"] (N2 K):=by
 refine T.iS.F.ok AL (λvs H Q E h=>?_) (λcdv A outer s H vs Q E hr h=>?_)
 ·obtain ⟨m,rfl,_⟩:=h;rfl
 ·obtain ⟨m,rfl,hm,k⟩:=h;refine ⟨_,(az (a7 (cA ["place"] [] [] (cw rfl T.range (ae (pv 0) ag)) (λ_=>(aT (i:=0) (show ND9 ["place"] by decide +kernel))) (λ_=>cC) (λ_=>(uK (v:=.ref Z.a_NOUGHT) rfl T.mg_NOUGHT rfl))))),?_⟩;refine aV (σ:=[some (.int m)]) rfl ?_;exists ⟨by lia,by lia,?_⟩;refine gW (n:=m) (ck K) (λ_=>0) (by lia) (λa b=>a.same b) ?_ ?_
  ·rintro i Ha NY NN hi sa k1;exists k1 _ _ (aG.refl _) ⟨_,rfl,T.sq_NOUGHT _⟩
  ·rintro ys H1 t ht s1 g1 pr _;exact k t H1 ht s1 ⟨ys,g1,by rw[<- Kk];exact pr⟩
theorem nH:bg ["rows","wide","due","found","answer","line","lead"] ["rows","wide","due"] (aN zB):=by walk_at "d"
theorem BB (T:Txt K mg Z):cI P w K mg base fM 5 Z.E4 Z.ES ["rows","wide","due"] (y7 K):=by
 refine T.rN.F.ok nH (λvs H Q E h=>?_) (λcdv A outer s H vs Q E hr h=>?_)
 ·obtain ⟨p,q,n,w,H0,rows,due,rfl,_⟩:=h;rfl
 ·obtain ⟨p,q,n,w,H0,rows,due,rfl,G,Rd,hd,m99,n99,hw,F,k1,k2⟩:=h
  refine ⟨_,(av (a8 (i:=3) nH.nd rfl (Or.inl rfl) (cG (EA T) hr T.uU (ae (cA ["row","wanted"] [] [] (rJ rfl T.zip (ae (pv 0) (ae (pv 2) ag))) (λ_=>(rK K 2 (cQ (aT (i:=0) (show ND9 ["row","wanted"] by decide +kernel)) (cQ (aT (i:=1) (show ND9 ["row","wanted"] by decide +kernel)) iU)))) (λ_=>cC) (λ_=>(bH i8 (pv 0) (df (ae (pv 1) ag))))) (ae (bH ff (pv 1) ao) ag))))
   (av (cP (bx IC (pv 1) (aY bM (pv 3) ao) (by with_unfolding_all rfl)) (az (a7 C3)) bO)
   (av (a8 (i:=4) nH.nd rfl (Or.inl rfl) (cG (mX T) hr T.iS (ae (pv 1) ag)))
   (av (dO PassesOwn.never rfl (rJ rfl T.zip (ae (aY bM (pv 3) ao) (ae (aY bM (pv 3) ao) ag))) (t8 rfl (cQ (aT (i:=5) nH.nd) (cQ (aT (i:=6) nH.nd) iU)))
    (az (fF (cG (rL T) hr T.k9 (ae (aY bS (pv 5) (pv 1)) (ae (aY bS (pv 5) (pv 6)) ag))) (gX (pv 4) (pv 6) set_list))))
   (az (a7 (pv 4))))))),?_⟩
  refine aV (σ:=[some (.ref p),some (.int n),some (.ref q),none,none,none,none]) rfl ?_;obtain ⟨xs,gx,qx,_⟩:=id G;obtain ⟨ds,gd,qd⟩:=id Rd;have lx:=qx.length;have ld:=qd.length;have lj:=nE hd;exists ⟨⟨_,bN.of gx⟩,⟨_,bN.of gd⟩,?_⟩;refine rA (K:=K) (xs:=xs) (ws:=ds) (λi ys H'=>aG H H'/\Paired (c4 K H H') ((cX rows due).take i) ys) (aZ (bC (by lia))) (by lia) ⟨aG.refl _,.nil⟩ (λi ys H' _ ⟨s,_⟩=>⟨bN.of (s _ _ gx),bN.of (s _ _ gd)⟩) ?_ ?_
  ·rintro i v1 v2 ys H' r h1 h2 hy ⟨s,pr⟩ hr;obtain ⟨row,er,u,rfl,_,Ru⟩:=cm qx h1;obtain ⟨d,ed,nd⟩:=cm qd h2;have wr:=hw row (ax er);have sr:aG H' (upd H' r (.tup [.ref u,v2])):=aG.new hr;have gr:(upd H' r (.tup [.ref u,v2])) r=some (.tup [.ref u,v2]):=aK;generalize upd H' r (.tup [.ref u,v2])=H2 at sr gr ⊢;have s2:=s.trans sr;exists cW λl1 H3 s3 n3 g3=>?_
   have s23:=s2.trans s3;obtain ⟨zs,gz,qz⟩:=Ru.same s23;have lz:=qz.length;exists iX gz g3 (aZ (bC (by rw[bo];lia))) λl2 H4 s4 n4 g4=>?_
   refine ⟨s23.trans s4,?_⟩;rw[take_snoc (Nt er ed)];exact bP (Paired.imp' (λ_ _ z=>c4.same z ((sr.trans s3).trans s4)) pr) (.cons ⟨l2,rfl,s23.none n4,_,g4,Paired.imp' (λ_ _ z=>ck.same z s4) (bP qz (.cons (nd.same s23) .nil))⟩ .nil)
  rintro ys H1 hy ⟨s1,pr⟩ l hl;have sn:aG H1 (upd H1 l (.lst ys)):=aG.new hl;have gn:(upd H1 l (.lst ys)) l=some (.lst ys):=aK;rw[aI (by lia)] at pr;generalize upd H1 l (.lst ys)=H2 at sn gn ⊢;have GJ:bJ K H H2 l (cX rows due):=wX pr sn hl gn;have s02:=s1.trans sn;walk_at "w";rw[show ((n:Int)+1)=((n+1:Nat):Int) by lia];refine ⟨l,n+1,w,H,_,rfl,GJ,by lia,by lia,uX hw,F,λt lp qp R ps d ls H3 gt gq GZ s3 S=>?_⟩;have s03:=s02.trans s3;have pn:=S.rr.le;exists ⟨qp,fU ps,rfl,.inl (bN.of gq),rfl,IJ,?_⟩;rw[Ky];by_cases hn:n∈ps
  ·rw[decide_eq_true hn,show (if false=true then !true else true)=true from rfl];exists k2 R ps H3 S.rr hn s03
  ·rw[decide_eq_false hn,show (if false=true then !false else false)=false from rfl];obtain ⟨lR,wR,rr⟩:=id S.rr;obtain ⟨_,zs,gz,qz⟩:=id GZ;have lz:=qz.length;have hl':=S.len
   have low:∀j,j < ps.length->ps.getD j 0 < n:=λj hj=>by
    have:=rr.low j hj;have:ps.getD j 0≠n:=λz=>hn (by rw[<- z];exact getD_in hj)
    lia
   obtain ⟨_,_,_,_,_,_,_,_,_,e89⟩:=id F;rw[lj] at e89;have dsz:Sz 8999 d:=br S.dsz (dS (by decide) (by rw[lj];lia));have lps:=Ke (ps:=ps);exists ⟨n,rfl,by lia,λan H4 na s4 R4=>?_⟩;rw[<- LM (R:=R) (ps:=ps)] at R4;obtain ⟨vs0,g0,q0⟩:=id R4;have gt4:=s4 _ _ gt;exists ⟨⟨_,bN.of (s4 _ _ gz)⟩,⟨_,bN.of (s4 _ _ gq)⟩,?_⟩;refine MI (K:=K) (xs:=zs) (ws:=fU ps) (λj σ' H'=>aG H3 H'/\∃y1 y2 vs,σ'=[some (.ref p),some (.int n),some (.ref q),some (.ref t),some (.ref an),y1,y2]/\H' an=some (.lst vs)/\Paired (ck K H') (uC R ps n j) vs) (by lia) ⟨s4,_,_,vs0,rfl,g0,q0⟩ (λj σ' H' _ ⟨e,_⟩=>⟨bN.of (e _ _ gz),bN.of (e _ _ gq)⟩) ?_ ?_
   ·rintro j v1 v2 σ' H' r h1 h2 ⟨s',y1,y2,vs,rfl,ga,qa⟩ hr;obtain ⟨line,el,u,rfl,_,gu⟩:=cm qz h1;have wl:=S.wide line (ax el);obtain ⟨pj,ej,rfl⟩:=MC h2;have hj:j < ps.length:=(aE.mp ej).1;have ejD:ps.getD j 0=pj:=by rw[aa,ej];rfl
    have pjn:=low j hj;rw[ejD] at pjn;have v0:=S.val j n;rw[Js el] at v0
    have ed:line.getD pj 0=d:=by
     have h:=S.val j pj;rw[Js el] at h;have u:=rr.unit j hj j hj;rw[if_pos rfl,ejD] at u;rw[u,Co] at h;exact dn.mp h
    have sr:aG H' (upd H' r (.tup [.ref u,.int pj])):=aG.new hr;have gr:(upd H' r (.tup [.ref u,.int pj])) r=some (.tup [.ref u,.int pj]):=aK;generalize upd H' r (.tup [.ref u,.int pj])=H5 at sr gr ⊢;have gu5:=(s'.trans sr) _ _ gu;exists cB (bN.of gu5) (yU (by lia)) ?_;exists cB (bN.of gu5) (yU (by lia)) ?_;rw[ed];exists ⟨_,d,rfl,S.d0,dsz,λr6 H6 s6 g6=>?_⟩;have d0:(d:Rat)≠0:=λz=>S.d0 (kJ z)
    have n6:ck K H6 (cu R j n) (.ref r6):=by
     refine ck.mk g6 ?_;rcases Int.lt_or_lt_of_ne S.d0 with hd' | hd'
     ·rw[if_pos hd',if_pos hd'];refine kU (by lia) ?_;rw[cR,cR,v0];grind
     ·rw[if_neg (by lia),if_neg (by lia)];refine kU hd' ?_;rw[v0];grind
    have ga6:=(sr.trans s6) _ _ ga;have la:=qa.length;rw[jM] at la;exists fj ga6 (fv (by lia)) rfl ?_;refine ⟨((s'.trans sr).trans s6).after na,_,_,_,rfl,aK,?_⟩;rw[<- LN S.rr hj,ejD];exact jR (Paired.imp' (λ_ _ z=>(ck.same z (sr.trans s6)).updL ga6) qa) pj (n6.updL ga6)
   ·rintro σ' H' ⟨s',y1,y2,vs,rfl,ga,qa⟩;rw[show zs.length=ps.length by lia] at qa;exists k1 an R ps d.natAbs H' S.rr hn (s03.none na) (s03.trans s') ⟨vs,ga,qa⟩ (by have:=S.d0;lia) (by rw[<- lj];exact S.dsz) ?_;rw[<- lj];exact PV (by have:=S.d0;lia) S.tp S.rr
theorem zy:bg ["grid","wide"] ["grid","wide"] (aN mO):=by walk_at "d"
theorem lE (T:Txt K mg Z):cI P w K mg base fM 1 Z.tu Z.sS ["grid","wide"] (D5 K):=by
 refine T.iq.F.ok zy (λvs H Q E h=>?_) (λcdv A outer s H vs Q E hr h=>?_)
 ·obtain ⟨p,w,H0,rows,rfl,_⟩:=h;rfl
 ·obtain ⟨p,w,H0,rows,rfl,hp,hz,hw,hl,kk⟩:=h;refine ⟨_,(az (a7 (cA ["place"] ["grid"] [0] (cw rfl T.range (ae (pv 1) ag)) (λ_=>(aT (i:=0) (show ND9 ["place","grid"] by decide +kernel) rfl (Or.inr rfl) (Or.inl rfl))) (λ_=>cC) (λ_=>(cA ["line"] ["place"] [0] (Ey K (pv 1)) (λ_=>(aT (i:=0) (show ND9 ["line","place"] by decide +kernel))) (λ_=>cC) (λ_=>(aY (fW K (by rfl)) (pv 0) (pv 1)))))))),?_⟩;refine aV (σ:=[some (.ref p),some (.int w)]) rfl ?_;exists ⟨by lia,by lia,?_⟩;refine gW (n:=w) (c4 K H) (λj=>rows.map λxs=>xs.getD j 0) hw (λa b=>a.same b) ?_ ?_
  ·rintro j H1 NY NN hj s1 k1;obtain ⟨xs,gx,qx,_⟩:=hp.same s1;exists ⟨⟨_,bN.of gx⟩,?_⟩;refine dJ (K:=K) (F:=c4 K H0) (ck K) (λxs=>xs.getD j 0) gx qx hz (λa b=>a.same b) (λa b=>a.same b) ?_ ?_
   ·rintro i ns x H2 NY2 NN2 en s2 ⟨u,rfl,_,zs,gz,qz⟩ k2;obtain ⟨v,ev,hv⟩:=EL qz (j:=j) (by rw[hl ns (ax en)];exact hj);exists cB (bN.of gz) ev ?_;exact k2 _ _ (aG.refl _) hv
   ·rintro ys' H2 r hr s2 g pr nx;exact k1 _ _ s2 ⟨r,rfl,s1.none hr,ys',g,pr⟩
  ·rintro ys' H1 r hr s1 g pr nx;exact kk r H1 hr s1 ⟨ys',g,pr,je nx⟩
theorem zo:bg ["rows","wide","due","answer","columns"] ["rows","wide","due"] (aN CZ):=by walk_at "d"
theorem Kb (T:Txt K mg Z):cI P w K mg base fM 6 Z.HP Z.HI ["rows","wide","due"] (Bh K):=by
 refine T.zX.F.ok zo (λvs H Q E h=>?_) (λcdv A outer s H vs Q E hr h=>?_)
 ·obtain ⟨p,q,n,w,w1,H0,rows,due,rfl,_⟩:=h;rfl
 ·obtain ⟨p,q,n,w,w1,H0,rows,due,rfl,G,Rd,hd,m90,n90,hw,F,F1,k1,k2⟩:=h
  refine ⟨_,(av (a8 (i:=3) zo.nd rfl (Or.inl rfl) (cG (BB T) hr T.rN (ae (pv 0) (ae (pv 1) (ae (pv 2) ag)))))
   (av (cP (bx GI (pv 3) C3 (bD _)) (az (a7 (cN (ae mV (ae (pv 3) ag))))) bO)
   (av (a8 (i:=4) zo.nd rfl (Or.inl rfl) (cG (lE T) hr T.iq (ae (pv 0) (ae (pv 1) ag))))
   (az (a7 (cN (ae mV (ae (cG (BB T) hr T.rN (ae (bH i8 (pv 4) (df (ae (pv 2) ag))) (ae (bA aX (by rfl) T.len aR (ae (pv 0) ag)) (ae (bH i8 (cG (mX T) hr T.iS (ae (pv 1) ag)) (df (ae (uK (v:=.ref Z.a_ONE) rfl T.mg_ONE rfl) ag))) ag)))) ag)))))))),?_⟩
  refine aV (σ:=[some (.ref p),some (.int n),some (.ref q),none,none]) rfl ?_;exists ⟨p,q,n,w,H0,rows,due,rfl,G,Rd,hd,by lia,by lia,hw,F,λx R ps M H1 RR hn nx s1 Rx M0 M1 tM=>?_,λR ps H1 RR hn s1=>?_⟩
  ·exists ⟨rfl,_,rfl,?_⟩;rw[show decide (V.ref x=V.non)=false from decide_eq_false (λz=>nomatch z)];exists bU λt H2 s2 g2=>?_
   exact k1 t x R ps M H2 RR hn g2 nx (s1.trans s2) (Rx.same s2) M0 M1 tM
  ·exists ⟨rfl,_,rfl,?_⟩;rw[show decide (V.non=V.non)=true from decide_eq_true rfl];exists ⟨p,n,H0,rows,rfl,G.same s1,by lia,by lia,hw,λco H2 nc s2 G2=>?_⟩;have s02:=s1.trans s2;exists cW λl3 H3 s3 n3 g3=>?_
   obtain ⟨cs,gc,qc,_⟩:=G2.same s3;have lc:=qc.length;rw[c9] at lc;exists iX gc g3 (aZ (bC (by rw[bo];lia))) λl4 H4 s4 n4 g4=>?_
   have s03:=s02.trans s3;have s04:=s03.trans s4;have G4:bJ K (λ_=>none) H4 l4 (cU rows n++[due]):=wX (H:=H3) (bP (Paired.imp' (λ_ _ ⟨q',a,_,c⟩=>⟨q',a,rfl,c⟩) qc) (.cons ⟨q,rfl,rfl,Rd.same s03⟩ .nil)) s4 n4 g4;obtain ⟨xs,gx,qx,_⟩:=G.same s04;have lx:=qx.length;exists ⟨_,_,rfl,.inl (bN.of gx),?_⟩;rw[<- lx];exists ⟨n,rfl,by lia,λl5 H5 n5 s5 R5=>?_⟩;exists cW λl6 H6 s6 n6 g6=>?_
   obtain ⟨zs,gz,qz⟩:=R5.same s6;have lz:=qz.length;rw[aO] at lz;exists iX gz g6 (aZ (bC (by rw[bo];lia))) λl7 H7 s7 n7 g7=>?_
   have s47:=(s5.trans s6).trans s7;have s07:=s04.trans s47;have R7:cv K H7 l7 (List.replicate n 0++[1]):=⟨_,g7,Paired.imp' (λ_ _ z=>ck.same z s7) (bP qz (.cons ⟨_,rfl,T.sq_ONE _⟩ .nil))⟩;have l1:(cU rows n++[due]).length=n+1:=by rw[ak,c9];rfl
   have w1':∀xs∈cU rows n++[due],xs.length=rows.length:=λxs hx=>by
    rcases aw.mp hx with hx | hx
    ·exact jL xs hx
    ·rw[bB.mp hx];exact hd
   exists ⟨l4,l7,rows.length,w1,_,_,_,rfl,G4.same s47,R7,by rw[l1,ak,aO];rfl,by lia,by lia,w1',F1,λx R1 p1 M H8 RR1 hn1 nx s8 Rx M0 M1 tM=>?_,λR1 p1 H8 RR1 hn1 s8=>?_⟩
   ·exists bU λt H9 s9 g9=>?_
    rw[l1] at M1 tM;exact k2 t x R ps R1 p1 M H9 RR hn RR1 hn1 g9 (s07.none nx) ((s07.trans s8).trans s9) (Rx.same s9) M0 M1 tM
   ·exact absurd hn1 (Iw hd hw RR hn RR1)
theorem p9:bg ["rows","wide","row","answer"] ["rows","wide","row"] (aN mL):=by walk_at "d"
theorem zQ (T:Txt K mg Z):cI P w K mg base fM 7 Z.sZ Z.sP ["rows","wide","row"] (xj K):=by
 refine T.lJ.F.ok p9 (λvs H Q E h=>?_) (λcdv A outer s H vs Q E hr h=>?_)
 ·obtain ⟨p,q,n,w,w1,H0,rows,row,rfl,_⟩:=h;rfl
 ·obtain ⟨p,q,n,w,w1,H0,rows,row,rfl,G,Rr,hl,m90,n90,hw,F,F1,k1,k2⟩:=h
  refine ⟨_,(av (a8 (i:=3) p9.nd rfl (Or.inl rfl) (cG (Kb T) hr T.zX (ae (cG (lE T) hr T.iq (ae (pv 0) (ae (pv 1) ag))) (ae (bA aX (by rfl) T.len aR (ae (pv 0) ag)) (ae (pv 2) ag)))))
   (az (a7 (cN (ae (J8 (bx eJ (aY bM (pv 3) ao) mV (bD _)) mV mV) (ae (aY bM (pv 3) ao) ag)))))),?_⟩
  refine aV (σ:=[some (.ref p),some (.int n),some (.ref q),none]) rfl ?_;exists ⟨p,n,H0,rows,rfl,G,by lia,by lia,hw,λco H1 nc s1 G1=>?_⟩;obtain ⟨xs,gx,qx,_⟩:=G.same s1;have lx:=qx.length;exists ⟨_,_,rfl,.inl (bN.of gx),?_⟩;rw[<- lx];have lT:(cU rows n).length=n:=c9;have eS:Jz (cU rows n) rows.length row=cX (rows++[row]) (List.replicate rows.length 0++[1]):=by unfold Jz;rw[HZ hw]
  exists ⟨co,q,rows.length,w,w1,_,cU rows n,row,rfl,G1,Rr.same s1,by lia,by lia,by lia,λxs hx=>jL xs hx,F,by rw[eS,lT];exact F1,λt x R ps M H2 RR hn g2 nx s2 Rx M0 M1 tM=>?_,λt x R ps R1 p1 M H2 RR hn RR1 hn1 g2 nx s2 Rx M0 M1 tM=>?_⟩
  ·rw[lT] at M1 tM;walk_at "w";rw[decide_eq_true rfl];exists bU λt2 H3 s3 g3=>?_
   exact k1 t2 x R ps M H3 RR hn g3 (s1.none nx) ((s1.trans s2).trans s3) (Rx.same s3) M0 M1 tM
  ·rw[lT] at M1 tM RR1 hn1 Rx;rw[eS] at RR1;walk_at "w";rw[decide_eq_false (show ¬(Str.ofString "no"=Str.ofString "yes") by decide)];exists bU λt2 H3 s3 g3=>?_
   exact k2 t2 x R ps R1 p1 M H3 RR hn RR1 hn1 g3 (s1.none nx) ((s1.trans s2).trans s3) (Rx.same s3) M0 M1 tM
theorem JJ:bg ["one","other"] ["one","other"] (aN C0):=by walk_at "d"
theorem Kc (T:Txt K mg Z):cI P w K mg base fM 3 Z.HQ Z.HJ ["one","other"] (oq K (λx y=>x - y)):=by
 refine T.zY.F.ok JJ (λvs H Q E h=>?_) (λcdv A outer s H vs Q E hr h=>?_)
 ·obtain ⟨p,q,a,b,c,d,rfl,hp,hq,hb,hd,sa,sb,sc,sd,k⟩:=yG h;rfl
 ·obtain ⟨p,q,a,b,c,d,rfl,hp,hq,hb,hd,sa,sb,sc,sd,k⟩:=yG h;refine ⟨_,(az (a7 (cG (rL T) hr T.k9 (ae (bH i5 (bH cY (aY bM (pv 0) ao) (aY bM (pv 1) ao)) (bH cY (aY bM (pv 1) ao) (aY bM (pv 0) ao))) (ae (bH cY (aY bM (pv 0) ao) (aY bM (pv 1) ao)) ag))))),?_⟩;refine aV (σ:=[some (.ref p),some (.ref q)]) rfl ?_;have hbd:0 < b*d:=iT hb hd;have sbd:Sz 8999 (b*d):=(sb.mul sd).mono (by decide);exists fE (show gI _ _ from .inr ⟨_,_,sa,sd,by decide⟩) ?_;exists fE (show gI _ _ from .inr ⟨_,_,sc,sb,by decide⟩) ?_;exists fE (show gI _ _ from .inr ⟨_,_,sb,sd,by decide⟩) ?_;walk_at "w";exists ⟨_,_,rfl,by lia,sbd,λr H' s' h'=>?_⟩;rw[if_neg (by lia),if_neg (by lia)] at h';exact k r H' s' h'
theorem CK:bg ["one","other"] ["one","other"] (aN qo):=by walk_at "d"
theorem C6 (T:Txt K mg Z):cI P w K mg base fM 4 Z.xT Z.xA ["one","other"] (v9 K):=by
 refine T.oR.F.ok CK (λvs H Q E h=>?_) (λcdv A outer s H vs Q E hr h=>?_)
 ·obtain ⟨p,q,xq,yq,rfl,_⟩:=h;rfl
 ·obtain ⟨p,q,xq,yq,rfl,hp,hq,hl,hz,hn,hm,k⟩:=h;refine ⟨_,(az (a7 (cA ["mine","yours"] [] [] (rJ rfl T.zip (ae (pv 0) (ae (pv 1) ag))) (λ_=>(rK K 2 (cQ (aT (i:=0) (show ND9 ["mine","yours"] by decide +kernel)) (cQ (aT (i:=1) (show ND9 ["mine","yours"] by decide +kernel)) iU)))) (λ_=>cC) (λ_=>(cG (Kc T) hr T.zY (ae (pv 0) (ae (pv 1) ag))))))),?_⟩;refine aV (σ:=[some (.ref p),some (.ref q)]) rfl ?_;obtain ⟨xs,gx,qx⟩:=id hp;obtain ⟨ys,gy,qy⟩:=id hq;have lx:=qx.length;have ly:=qy.length;exists ⟨⟨_,bN.of gx⟩,⟨_,bN.of gy⟩,?_⟩;refine rA (K:=K) (xs:=xs) (ws:=ys) (λi zs H'=>aG H H'/\Paired (ck K H') ((List.zipWith (λx y=>x - y) xq yq).take i) zs) (aZ (bC (by lia))) (by lia) ⟨aG.refl _,.nil⟩ (λi zs H' _ ⟨s,_⟩=>⟨bN.of (s _ _ gx),bN.of (s _ _ gy)⟩) ?_ ?_
  ·rintro i x y zs H' r hx hy hlen ⟨s,hP⟩ hr;obtain ⟨n,en,hn1⟩:=cm qx hx;obtain ⟨m,em,hm1⟩:=cm qy hy;have s1:=aG.new (o:=.tup [x,y]) hr;have s01:=s.trans s1;have gr:(upd H' r (.tup [x,y])) r=some (.tup [x,y]):=aK;generalize upd H' r (.tup [x,y])=Hr at s1 s01 gr ⊢;exists ⟨_,_,n,m,rfl,hn1.same s01,hm1.same s01,hn n (ax en),hm m (ax em),λr3 H3 s3 h3=>?_⟩;refine ⟨s01.trans s3,?_⟩;have ez:(List.zipWith (λx y=>x - y) xq yq)[i]?=some (n - m):=by rw[bT,en,em]
   rw[take_snoc ez];exact bP (Paired.imp' (λ_ _ z=>z.same (s1.trans s3)) hP) (.cons h3 .nil)
  ·rintro zs H' hy ⟨s,hP⟩ l hl';rw[aI (by rw[cD];lia)] at hP;exact k l _ (s.none hl') (s.trans (aG.new hl')) ⟨zs,aK,Paired.imp' (λ_ _ z=>z.same (aG.new hl')) hP⟩
theorem pJ:bg ["self","state","puts","columns"] ["self","state","puts"] (aN fQ):=by walk_at "d"
theorem yz (T:Txt K mg Z):cI P w K mg base fM 5 Z.lV Z.lS ["self","state","puts"] (Bl K Z.a_System):=by
 refine T.rH.ok pJ (λvs H Q E h=>?_) (λcdv A outer s H vs Q E hr h=>?_)
 ·obtain ⟨x,p,q,H0,mv,pt,lk,st,pu,rfl,_⟩:=h;rfl
 ·obtain ⟨x,p,q,H0,mv,pt,lk,st,pu,rfl,S,D,F,hp,hq,l1,l2,fs,k⟩:=h
  refine ⟨_,(av (a8 (i:=3) pJ.nd rfl (Or.inl rfl) (cG (lE T) hr T.iq (ae (iZ (pv 0) rfl) (ae (iZ (pv 0) rfl) ag))))
   (az (a7 (cA ["line","column"] ["state","puts"] [1,2] (rJ rfl T.zip (ae (iZ (pv 0) rfl) (ae (pv 3) ag))) (λ_=>(rK K 2 (cQ (aT (i:=0) (show ND9 ["line","column","state","puts"] by decide +kernel)) (cQ (aT (i:=1) (show ND9 ["line","column","state","puts"] by decide +kernel)) iU)))) (λ_=>cC) (λ_=>(cG (zR T) hr T.oS (ae (bH i8 (pv 0) (pv 1)) (ae (bH i8 (pv 2) (pv 3)) ag)))))))),?_⟩
  refine aV (σ:=[some (.ref x),some (.ref p),some (.ref q),none]) rfl ?_;obtain ⟨dx,a,b,c,gx,n1,n2,n3,Ga,Gb,Gc⟩:=id S;have d1:=D.n8;have d2:=D.i4;exists ⟨x,Z.a_System,dx,_,_,rfl,gx,T.cl_System,T.na_put,uy,?_⟩;exists ⟨x,Z.a_System,dx,_,_,rfl,gx,T.cl_System,T.na_states,tO,?_⟩;exists ⟨b,mv.length,H0,pt,rfl,Gb,by lia,by lia,D.pw,λt H1 nt s1 Gt=>?_⟩;obtain ⟨as,ga,qa,_⟩:=Ga.same s1;obtain ⟨ts,gt,qt,_⟩:=id Gt;have la:=qa.length;have lt:=qt.length;rw[c9] at lt;have gx1:=s1 _ _ gx;exists ⟨x,Z.a_System,dx,_,_,rfl,gx1,T.cl_System,T.na_move,D4,?_⟩;exists ⟨⟨_,bN.of ga⟩,⟨_,bN.of gt⟩,?_⟩;refine rA (K:=K) (xs:=as) (ws:=ts) (λi ys H'=>aG H1 H'/\Paired (ck K H') ((gY mv pt st pu).take i) ys) (aZ (bC (by lia))) (by lia) ⟨aG.refl _,.nil⟩ (λi ys H' _ ⟨s,_⟩=>⟨bN.of (s _ _ ga),bN.of (s _ _ gt)⟩) ?_ ?_
  ·rintro i v1 v2 ys H' r h1 h2 hy ⟨s,pr⟩ hr;obtain ⟨line,el,u1,rfl,_,R1⟩:=cm qa h1;obtain ⟨col,ec,u2,rfl,_,R2⟩:=cm qt h2;have ml:=ax el;have mc:=ax ec;have sr:aG H' (upd H' r (.tup [.ref u1,.ref u2])):=aG.new hr;have gr:(upd H' r (.tup [.ref u1,.ref u2])) r=some (.tup [.ref u1,.ref u2]):=aK;have s2:=s.trans sr;generalize upd H' r (.tup [.ref u1,.ref u2])=H2 at sr gr s2 ⊢;have lc:col.length=pt.length:=jL col mc;have ll:line.length=mv.length:=D.mw line ml;obtain ⟨z1,g1,q1⟩:=R1.same s2;obtain ⟨z2,g2,q2⟩:=R2.same s2;have y1:=q1.length;have y2:=q2.length;exists iX g1 g2 (aZ (bC (by lia))) λc1 H3 s3 n3' g3=>?_
   have s13:=s2.trans s3;obtain ⟨z3,g4,q3⟩:=(hp.same s1).same s13;obtain ⟨z4,g5,q4⟩:=(hq.same s1).same s13;have y3:=q3.length;have y4:=q4.length;exists iX g4 g5 (aZ (bC (by lia))) λc2 H4 s4 n4 g6=>?_
   have s34:=s3.trans s4;exists ⟨c1,c2,line++col,st++pu,rfl,⟨_,s4 _ _ g3,Paired.imp' (λ_ _ z=>z.same s34) (bP q1 q2)⟩,⟨_,g6,Paired.imp' (λ_ _ z=>z.same s4) (bP q3 q4)⟩,by rw[ak,ak];lia,by rw[ak];lia,.sys ?_ fs,λr2 H5 s5 h5=>?_⟩
   ·refine F.fits λy hy=>?_
    rcases aw.mp hy with hy | hy
    ·exact .inl ⟨line,ml,hy⟩
    ·obtain ⟨j,_,rfl⟩:=aD.mp mc;obtain ⟨xs,hx,rfl⟩:=aD.mp hy;by_cases hj:j < xs.length
     ·refine .inr (.inl ⟨xs,hx,?_⟩);rw[aa,af hj];exact aP hj
     ·exact .inr (.inr (.inr (by rw[aa,aM (by lia)];rfl)))
   ·have em:(gY mv pt st pu)[i]?=some (dR (line++col) (st++pu)):=by
     unfold gY;rw[bT,el,ec]
    refine ⟨((s2.trans s34).trans s5),?_⟩;rw[take_snoc em];exact bP (Paired.imp' (λ_ _ z=>(z.same (sr.trans s34)).same s5) pr) (.cons h5 .nil)
  ·rintro ys H' hy ⟨s,pr⟩ l hl;have lm:(gY mv pt st pu).length=mv.length:=by unfold gY;rw[cD,c9];lia
   rw[aI (by lia)] at pr;exact k l _ (s1.none (s.none hl)) ((s1.trans s).trans (aG.new hl)) ⟨ys,aK,Paired.imp' (λ_ _ z=>z.same (aG.new hl)) pr⟩
theorem wg:bg ["system","start","puts","states","row"] ["system","start","puts"] (aN zE):=by walk_at "d"
theorem IE (T:Txt K mg Z):cI P w K mg base fM 6 Z.E7 Z.EV ["system","start","puts"] (zj K Z.a_System):=by
 refine T.wQ.F.ok wg (λvs H Q E h=>?_) (λcdv A outer s H vs Q E hr h=>?_)
 ·obtain ⟨x,s,p,H0,H1,mv,pt,lk,pus,st,rfl,_⟩:=h;rfl
 ·obtain ⟨x,s,p,H0,H1,mv,pt,lk,pus,st,rfl,S,D,F,Rs,ls,Gp,lp,wp,cf,k⟩:=h
  refine ⟨_,(av (a8 (i:=3) wg.nd rfl (Or.inl rfl) (df (ae (dI pC (by rfl) T.list PyProof.Rows.boot_list (ae (pv 1) ag)) ag)))
   (av (dO PassesOwn.never rfl (cE (pv 2)) (aT (i:=4) wg.nd)
    (az (hZ (sG cM c6 c5 jg (pv 3) (ae (Mt (pv 0) T.cl_System T.pN (yz T) (hr.mono (by decide)) T.rB .nil Bv (ae (aY bS (pv 3) (xm pW ao)) (ae (pv 4) ag))) ag)))))
   (az (a7 (pv 3))))),?_⟩
  refine aV (σ:=[some (.ref x),some (.ref s),some (.ref p),none,none]) rfl ?_;have d1:=D.n8;obtain ⟨ss,gs,qs⟩:=id Rs;obtain ⟨ps,gp,qp,_⟩:=id Gp;have lps:=qp.length;exists ⟨s,ss,rfl,.inl (bN.of gs),λc hc=>?_⟩;have sc:aG H (upd H c (.lst ss)):=aG.new hc;have Rc:cv K (upd H c (.lst ss)) c st:=⟨ss,aK,Paired.imp' (λ_ _ z=>z.same sc) qs⟩;generalize upd H c (.lst ss)=Hc at sc Rc ⊢;exists cW λl Hl sl nl gl=>?_
  have hl0:=sc.none nl;have s0:=sc.trans sl;have cl:c≠l:=λz=>by obtain ⟨_,g,_⟩:=Rc;rw[z,nl] at g;cases g
  have pr0:Paired (xc K H l Hl) ((mC mv pt st pus).take 1) [V.ref c]:=by
   have:(mC mv pt st pus).take 1=[st]:=by
    have e:=take_snoc (rR (mv:=mv) (pt:=pt) (st:=st) (pus:=pus) (k:=0) (bf _));rw[e];rfl
   rw[this];exact .cons ⟨c,rfl,hc,cl,Rc.same sl⟩ .nil
  exists ⟨⟨_,bN.of (s0 _ _ gp)⟩,?_⟩;refine fY (K:=K) (a:=p) (xs:=ps) (λi σ' H'=>aG H H'/\(∃y ys,σ'=[some (.ref x),some (.ref s),some (.ref p),some (.ref l),y]/\H' l=some (.lst ys)/\Paired (xc K H l H') ((mC mv pt st pus).take (i+1)) ys)) ⟨s0,_,_,rfl,gl,pr0⟩ (λi σ' H' _ ⟨e,_⟩=>bN.of (e _ _ gp)) ?_ ?_
  ·rintro i v σ' H' hv ⟨e,y,ys,rfl,g,pr⟩;obtain ⟨pu,epu,u,rfl,_,Ru⟩:=cm qp hv;have hi:i < pus.length:=(aE.mp epu).1;have mp:=ax epu;have ly:=pr.length;rw[cH,uq] at ly;have ec:=rR (mv:=mv) (pt:=pt) (st:=st) (pus:=pus) (k:=i) (by lia);have el:ys[i]?=some (ys[i]'(by lia)):=af (by lia)
   obtain ⟨vl,evl,q,hq1,hq2,hq3,Rq⟩:∃vl,ys[i]?=some vl/\∃q,vl=V.ref q/\H q=none/\q≠l/\cv K H' q (oh mv pt st pus i):=by
    obtain ⟨xs,ex,w⟩:=cm pr el;rw[kL (by lia),ec] at ex;cases ex;exact ⟨_,el,w⟩
   subst hq1
   have ey:∃zs,ys=zs++[V.ref q]:=by
    refine ⟨ys.take i,?_⟩;rw[<- take_snoc evl,aI (by lia)]
   obtain ⟨zs,rfl⟩:=ey;exists ⟨.inl ⟨rfl,_,bN.of g⟩,?_⟩;walk_at "w";obtain ⟨dx,_,_,_,gx,_⟩:=S.same e;refine ⟨x,dx,_,rfl,gx,Ic,?_⟩;exists cB (bN.of g) (vD _ _) ?_;exists ⟨x,q,u,H0,mv,pt,lk,_,pu,rfl,S.same e,D,F,Rq,Ru.same e,oo ls (by lia),wp pu mp,cf.both (by lia) mp,λr1 H2 n2 s2 R2=>?_⟩;have gn:=s2 _ _ g;exists iD gn (bC (by lia)) ?_;refine ⟨Im (e.trans s2) hl0,_,_,rfl,aK,?_⟩;rw[take_snoc (rR (by lia)),p7 epu];have rl:r1≠l:=λz=>by rw[z,g] at n2;cases n2
   exact bP (Paired.imp' (λ_ _ z=>(xc.same z s2).upd gn) pr) (.cons ⟨r1,rfl,e.none n2,rl,R2.updL gn rl⟩ .nil)
  ·rintro σ' H' ⟨e,y,ys,rfl,g,pr⟩;walk_at "w";rw[aI (by rw[uq];lia)] at pr;exact k l H' hl0 e ⟨ys,g,Paired.imp' (λ_ _ z=>xc.rowF z) pr,zG pr⟩
theorem zx:bg ["system","steps"] ["system","steps"] (aN mN):=by walk_at "d"
theorem qW (T:Txt K mg Z):cI P w K mg base fM 2 Z.tm Z.sR ["system","steps"] (D9 K Z.a_System):=by
 refine T.jz.F.ok zx (λvs H Q E h=>?_) (λcdv A outer s H vs Q E hr h=>?_)
 ·obtain ⟨x,tt,H0,mv,pt,lk,rfl,_⟩:=h;rfl
 ·obtain ⟨x,tt,H0,mv,pt,lk,rfl,hT,S,D,k⟩:=h;refine ⟨_,(az (a7 (cA ["step"] ["system"] [0] (cw rfl T.range (ae (pv 1) ag)) (λ_=>(aT (i:=0) (show ND9 ["step","system"] by decide +kernel))) (λ_=>cC) (λ_=>(cG (mX T) hr T.iS (ae (GH K (pv 1) rfl) ag)))))),?_⟩;refine aV (σ:=[some (.ref x),some (.int tt)]) rfl ?_;obtain ⟨dx,a',b',c',gx,_,_,_,Ga,Gb,Gc⟩:=id S;have i4:=D.i4;exists ⟨by lia,by lia,?_⟩;refine gW (n:=tt) (c4 K H) (λ(_:Nat)=>List.replicate pt.length (0:Rat)) (by lia) (λa b=>a.same b) ?_ ?_
  ·rintro i Hb NY NN hi sa k1;exists ⟨x,Z.a_System,dx,_,_,rfl,sa _ _ gx,T.cl_System,T.na_ins,Gg,?_⟩;exists ⟨pt.length,rfl,by lia,λr H2 nr s2 R2=>k1 _ _ s2 ⟨r,rfl,sa.none nr,R2⟩⟩
  rintro ys Hz t ht sz g pr nx;have e:(List.range tt).map (λ(_:Nat)=>List.replicate pt.length (0:Rat))=List.replicate tt (List.replicate pt.length 0):=by rw[Lp,cK]
  rw[e] at pr nx;exact k t Hz ht sz ⟨ys,g,pr,je nx⟩
theorem Fo:bg ["system","start","goal","steps"] ["system","start","goal","steps"] (aN wC):=by walk_at "d"
theorem FG (T:Txt K mg Z):cI P w K mg base fM 7 Z.Cf Z.BN ["system","start","goal","steps"] (Ee K Z.a_System):=by
 refine T.ui.F.ok Fo (λvs H Q E h=>?_) (λcdv A outer s H vs Q E hr h=>?_)
 ·obtain ⟨x,s,g,tt,H0,mv,pt,lk,st,go,rfl,_⟩:=h;rfl
 ·obtain ⟨x,s,g,tt,H0,mv,pt,lk,st,go,rfl,hT,S,D,F,Rs,ls,Rg,lg,cf,sg,k⟩:=h;refine ⟨_,(az (a7 (cG (C6 T) hr T.oR (ae (pv 2) (ae (aY bS (cG (IE T) hr T.wQ (ae (pv 0) (ae (pv 1) (ae (cG (qW T) hr T.jz (ae (pv 0) (ae (pv 3) ag))) ag)))) (xm pW ao)) ag))))),?_⟩;refine aV (σ:=[some (.ref x),some (.ref s),some (.ref g),some (.int tt)]) rfl ?_;have d8:=D.n8;have i4:=D.i4;exists ⟨x,tt,H0,mv,pt,lk,rfl,by lia,S,D,λp1 H1 n1 s1 G1=>?_⟩;exists ⟨x,s,p1,H0,H,mv,pt,lk,_,st,rfl,S.same s1,D,F,Rs.same s1,ls,G1,by rw[aO];lia,λxs hx=>by rw[(di.mp hx).2,aO],cf,λp2 H2 n2 s2 G2=>?_⟩;obtain ⟨us,gu,qu,_⟩:=id G2;have lu:=qu.length;rw[uq,aO] at lu;have ec:=rR (mv:=mv) (pt:=pt) (st:=st) (pus:=List.replicate tt (List.replicate pt.length 0)) (k:=tt) (by rw[aO];exact aj _);have el:us[tt]?=some (us[tt]'(by lia)):=af (by lia)
  obtain ⟨q,eq,Rq⟩:∃q,us[tt]?=some (V.ref q)/\cv K H2 q (iG mv tt st):=by
   obtain ⟨xs,ex,q,e,_,w⟩:=cm qu el;rw[ec] at ex;cases ex;rw[JA D ls] at w;exact ⟨q,by rw[el,e],w⟩
  have ey:∃zs,us=zs++[V.ref q]:=by
   refine ⟨us.take tt,?_⟩;rw[<- take_snoc eq,aI (by lia)]
  obtain ⟨zs,rfl⟩:=ey
  have szp:∀y∈iG mv tt st,kK y:=λy hy=>by
   have:=(cf.state (k:=tt) (by rw[aO];exact aj _)).szn (x:=y);rw[JA D ls] at this;exact this hy
  exists cB (bN.of gu) (vD _ _) ?_;exists ⟨g,q,go,_,rfl,(Rg.same s1).same s2,Rq,by rw[lg,iF ls],by lia,sg,szp,λr H3 n3 s3 R3=>k r H3 ((s1.trans s2).none n3) ((s1.trans s2).trans s3) R3⟩
theorem N9:bg ["row","many","wide"] ["row","many","wide"] (aN JL):=by walk_at "d"
theorem OJ (T:Txt K mg Z):cI P w K mg base fM 1 Z.NF Z.NC ["row","many","wide"] (Gu K):=by
 refine T.FL.F.ok N9 (λvs H Q E h=>?_) (λcdv A outer s H vs Q E hr h=>?_)
 ·obtain ⟨p,u,kk,w,rfl,_⟩:=h;rfl
 ·obtain ⟨p,u,kk,w,rfl,Rw,lw,uk,u1,k1,k⟩:=h;refine ⟨_,(az (a7 (cA ["turn"] ["row","wide"] [0,2] (cw rfl T.range (ae (pv 1) ag)) (λ_=>(aT (i:=0) (show ND9 ["turn","row","wide"] by decide +kernel))) (λ_=>cC) (λ_=>(zM (JH K (by rfl)) (pv 1) (yI (bH cY (pv 0) (pv 2))) (yI (bH cY (bH ff (pv 0) ao) (pv 2)))))))),?_⟩;refine aV (σ:=[some (.ref p),some (.int u),some (.int kk)]) rfl ?_;obtain ⟨xs,gx,qx⟩:=id Rw;have lx:=qx.length;exists ⟨by lia,by lia,?_⟩;refine gW (n:=u) (c4 K H) (λt=>(w.drop (t*kk)).take kk) (by lia) (λa b=>a.same b) ?_ ?_
  ·rintro i Hb NY NN hi sa k2;have b1:i*kk+kk<=u*kk:=by rw[<- dA];exact ay _ hi
   exists fE (DG (by lia) (by lia)) ?_;exists fE (HK (by lia) (by lia)) ?_;walk_at "w";rw[show ((i:Int)*(kk:Int))=((i*kk:Nat):Int) by lia,show (((i:Int)+1)*(kk:Int))=((i*kk:Nat):Int)+(kk:Int) by rw[Int.add_mul,Int.one_mul];lia];refine ⟨p,xs,rfl,bN.of (sa _ _ gx),λr hr=>?_⟩;rw[MP (by lia)];have sn:=aG.new (o:=.lst ((xs.drop (i*kk)).take kk)) hr;exact k2 _ _ sn ⟨r,rfl,sa.none hr,_,aK,Paired.imp' (λ_ _ z=>(z.same sa).same sn) (qR (sH qx _) _)⟩
  rintro ys Hz t ht sz g pr nx;exact k t Hz ht sz ⟨ys,g,pr,je nx⟩
theorem uE:bg ["system","start","goal","steps","used","rows","answer","latest_first"] ["system","start","goal","steps"] (aN Fv):=by walk_at "d"
theorem C8 (T:Txt K mg Z):cI P w K mg base fM 8 Z.Le Z.K5 ["system","start","goal","steps"] (Bq K Z.a_System):=by
 refine T.uV.F.ok uE (λvs H Q E h=>?_) (λcdv A outer s H vs Q E hr h=>?_)
 ·obtain ⟨x,s,g,tt,a,c,H0,mv,pt,lk,st,go,rfl,_⟩:=h;rfl
 ·obtain ⟨x,s,g,tt,a,c,H0,mv,pt,lk,st,go,rfl,hT,S,D,SF,F,Rs,ls,Rg,lg,⟨D0,W0,E0,W1,CT,hA,hB⟩,k⟩:=h;have cf:=CT.cf;have sg:=CT.sg;have CF:=CT.co;have k1:∀t p pus q H',H' t=some (.tup [.str (Str.ofString "puts"),.ref p])->H p=none->aG H H'->bJ K H H' p pus->pus.length=tt->(∀xs∈pus,xs.length=pt.length)->oh mv pt st pus tt=go->MY mv pt tt (eF mv tt st go) pus->0 < q->q<=(16*W0)^mv.length->(∀xs∈pus,∀x∈xs,Tp (E0*q) (D0*(mv.length*(W1*(16*W0)^mv.length))) x)->Q (.ref t) H':=λt p pus q H' g n s' G l w e cp q0 q1 q2=>k t p _ (.grid pus) H' g n s' ⟨p,rfl,n,G⟩ (.inl ⟨rfl,pus,rfl,hA pus q l w e cp q0 q1 q2⟩)
  have k2:∀t p pr q H',H' t=some (.tup [.str (Str.ofString "never"),.ref p])->H p=none->aG H H'->cv K H' p pr->pr.length=mv.length->(∀xs∈kry mv pt tt,dR xs pr=0)->dR pr (eF mv tt st go)=1->Pd mv pt tt (eF mv tt st go) pr->0 < q->q<=(16*W0)^mv.length*(16*(W1+E0))->(∀y∈pr,Tp q ((16*W0)^mv.length*(16*(W1+E0))) y)->Q (.ref t) H':=λt p pr q H' g n s' R l w e cn q0 q1 q2=>k t p _ (.row pr) H' g n s' ⟨p,rfl,n,R⟩ (.inr ⟨rfl,pr,rfl,hB pr q l w e cn q0 q1 q2⟩)
  clear k hA hB
  refine ⟨_,(av (a8 (i:=4) uE.nd rfl (Or.inl rfl) (bH i5 (bA aX (by rfl) T.len aR (ae (cG (zS T) hr T.lK (ae (pv 0) (ae (pv 3) ag))) ag)) ao))
   (av (a8 (i:=5) uE.nd rfl (Or.inl rfl) (cG (My T) hr T.Dn (ae (cG (C9 T) hr T.oU (ae (pv 0) (ae (pv 4) ag))) ag)))
   (av (a8 (i:=6) uE.nd rfl (Or.inl rfl) (cG (zQ T) hr T.lJ (ae (pv 5) (ae (iZ (pv 0) rfl) (ae (cG (FG T) hr T.ui (ae (pv 0) (ae (pv 1) (ae (pv 2) (ae (pv 3) ag))))) ag)))))
   (av (cP (bx eJ (aY bM (pv 6) ao) mV (bD _)) (az (a7 (cN (ae mV (ae (aY bM (pv 6) ao) ag))))) bO)
   (av (a8 (i:=7) uE.nd rfl (Or.inl rfl) (cG (OJ T) hr T.FL (ae (aY bM (pv 6) ao) (ae (pv 4) (ae (iZ (pv 0) rfl) ag)))))
   (az (a7 (cN (ae mV (ae (bH i8 (cG (qW T) hr T.jz (ae (pv 0) (ae (bH i5 (pv 3) (pv 4)) ag))) (FD K rfl T.list rfl T.reversed (ae (pv 7) ag))) ag)))))))))),?_⟩
  refine aV (σ:=[some (.ref x),some (.ref s),some (.ref g),some (.int tt),none,none,none,none]) rfl ?_;have d8:=D.n8;have i4:=D.i4;obtain ⟨dx,a',b',c',gx,_⟩:=id S;exists ⟨x,a,c,tt,H0,mv,pt,lk,rfl,by lia,S,D,F,λr1 Rs1 H1 n1 s1 GL Gw ln hlast=>?_⟩;obtain ⟨us,gus,pus1⟩:=id GL;have lus:=pus1.length;have rne:=Gw.ne;have lpos:0 < Rs1.length:=List.length_pos_iff.mpr rne;exists ⟨_,_,rfl,.inl (bN.of gus),?_⟩;rw[<- lus];obtain ⟨u,eu⟩:∃u,Rs1.length=u+1:=⟨Rs1.length - 1,by lia⟩;rw[eu];have eL:Rs1[u]?=some (Rs1[u]'(by lia)):=af (by lia);obtain ⟨R,eR⟩:∃R,Rs1[u]?=some R:=⟨_,eL⟩;obtain ⟨ps,RRu⟩:=Gw.rr u R eR;have ul:=Gw.len u R eR;have un:u<=mv.length:=by have:=RRu.le;have:=RRu.1;lia
  have uT:u<=tt:=by lia
  obtain ⟨psT,RRT⟩:∃ps,bY (kry mv pt tt) mv.length R ps:=by
   refine hlast R ?_ tt (by lia);rw[List.getLast?_eq_getElem?,eu];exact eR
  have CU:=Gw.cmu eR RRT;walk_at "w";rw[show ((((u+1:Nat):Int)) - 1)=(u:Int) by lia];refine ⟨x,u,a,c,H0,mv,pt,lk,rfl,un,S.same s1,D,F,λr2 us2 H2 n2 s2 g2 p2=>?_⟩;have s02:=s1.trans s2;have kl:=rO (mv:=mv) (pt:=pt) u;have kl2:u*pt.length<=8*4:=aA (by lia) i4;exists ⟨r2,us2,Jc mv pt u,rfl,g2,p2,by rw[rV];lia,λr3 H9 H3 n3 s3 G3=>?_⟩;rw[rV] at G3;have s03:=s02.trans s3;exists ⟨x,Z.a_System,dx,_,_,rfl,s03 _ _ gx,T.cl_System,T.na_states,tO,?_⟩;exists ⟨x,s,g,tt,H0,mv,pt,lk,st,go,rfl,hT,S.same s03,D,SF,Rs.same s03,ls,Rg.same s03,lg,cf,sg,λr4 H4 n4 s4 R4=>?_⟩;have s04:=s03.trans s4;have lL:=rf (T:=tt) ls lg;have wk:=fh (mv:=mv) (pt:=pt) rfl D.pw u;have tk:=CF.tk u un;have up0:∀y,Tp D0 W0 y->Tp (D0*E0) (W0*E0+W1*D0+D0*E0) y:=λy h=>h.up E0 (by lia)
  have up1:∀y,Tp E0 W1 y->Tp (D0*E0) (W0*E0+W1*D0+D0*E0) y:=λy h=>by
   rw[bQ D0 E0];exact h.up D0 (by lia)
  have up2:∀y,y=0\/y=1->Tp (D0*E0) (W0*E0+W1*D0+D0*E0) y:=λy h=>by
   rcases h with rfl | rfl
   ·exact Tp.zero
   ·exact ⟨((D0*E0:Nat):Int),by rw[Rat.one_mul,aH],by rw[bw];lia⟩
  obtain ⟨wa,sw1⟩:=CF.join (rows:=cU (kry mv pt u) mv.length) (due:=eF mv tt st go) (n':=(kry mv pt u).length+1) (by rw[c9];exact lL) (λys hy y hy'=>by
   obtain ⟨j,_,rfl⟩:=aD.mp hy;obtain ⟨zs,hz,rfl⟩:=aD.mp hy';exact up0 _ (jY (tk zs hz) j)) (λy hy=>up1 y (CF.tl y hy)) d8 (by rw[c9];lia)
  obtain ⟨wb,sw2⟩:=CF.join (rows:=kry mv pt u++[eF mv tt st go]) (due:=List.replicate (kry mv pt u).length 0++[1]) (n':=mv.length+1) (by simp) (λys hy y hy'=>by
   rcases aw.mp hy with hy | hy
   ·exact up0 _ (tk ys hy y hy')
   ·rw[bB.mp hy] at hy';exact up1 _ (CF.tl y hy')) (λy hy=>by
   rcases aw.mp hy with hy | hy
   ·exact up2 _ (.inl (di.mp hy).2)
   ·exact up2 _ (.inr (bB.mp hy))) d8 (yt _ _)
  exists ⟨r3,r4,mv.length,wa,wb,H9,kry mv pt u,eF mv tt st go,rfl,G3.same s4,R4,lL,by lia,by lia,wk,sw1,sw2,⟨λt5 x5 R5 ps5 M5 H5 RR5 hn5 g5 n5 s5 R5' M50 M51 tp5=>?_,λt5 x5 R5 ps5 R6 ps6 M5 H5 RR5 hn5 RR6 hn6 g5 n5 s5 R5' M50 M51 tp5=>?_⟩⟩
  ·have s05:=s04.trans s5;have x50:=s04.none n5;have ew:=HY lL RR5 hn5;have CP:MY mv pt tt (eF mv tt st go) (zI (fP R5 ps5 (kry mv pt u).length) tt u pt.length):=⟨u,R5,ps5,CU,RR5,hn5,rfl⟩;have lw:(fP R5 ps5 (kry mv pt u).length).length=(kry mv pt u).length:=jM;obtain ⟨q,q0,q1,q2⟩:=N5 wk lL (by lia) CF.d0 CF.e0 CF.w0 CF.w1 tk CF.tl RR5 hn5;generalize fP R5 ps5 (kry mv pt u).length=ws at ew lw q2 R5' tp5 CP;have lead:=FZ D ls lg uT lw ew;have lw2:ws.length=u*pt.length:=by rw[lw,kl]
   walk_at "w";rw[decide_eq_false (show ¬(Str.ofString "in"=Str.ofString "out") by decide)];exists ⟨x,Z.a_System,dx,_,_,rfl,s05 _ _ gx,T.cl_System,T.na_ins,Gg,?_⟩;exists ⟨x5,u,pt.length,ws,rfl,R5',lw2,by lia,by lia,by lia,λr6 H6 n6 s6 G6=>?_⟩;have s06:=s05.trans s6;walk_at "w";rw[show ((tt:Int) - (u:Int))=((tt - u:Nat):Int) by lia];refine ⟨x,tt - u,H0,mv,pt,lk,rfl,by lia,S.same s06,D,λr7 H7 n7 s7 G7=>?_⟩;obtain ⟨vs,gv,qv,_⟩:=id (G6.same s7);have lv:=qv.length;have lc:(yB ws u pt.length).length=u:=by unfold yB;rw[ar,cK]
   unfold DZ;exists ⟨r6,vs,rfl,bN.of gv,by lia,λr8 H8 s8 n8 g8=>?_⟩;have s67:=s7.trans s8;obtain ⟨zs,gz,qz,_⟩:=id (G7.same s8);have lz:=qz.length;rw[aO] at lz;exists iX gz g8 (aZ (bC (by rw[kD];lia))) λr9 H9 s9 n9 g9=>?_
   have s09:=(s06.trans s67).trans s9;have qz0:Paired (c4 K H H8) (List.replicate (tt - u) (List.replicate pt.length 0)) zs:=Paired.imp' (λ_ _ ⟨q,a,b,c⟩=>⟨q,a,s06.none b,c⟩) qz;have qv0:Paired (c4 K H H8) (yB ws u pt.length).reverse vs.reverse:=zN (Paired.imp' (λ_ _ ⟨q,a,b,c⟩=>⟨q,a,s05.none b,cv.same c s8⟩) qv);have G9:bJ K H H9 r9 (zI ws tt u pt.length):=⟨_,g9,Paired.imp' (λ_ _ z=>c4.same z s9) (bP qz0 qv0),je ⟨H8,n9,bP qz0 qv0⟩⟩;exists bU λt10 H10 s10 g10=>?_
   exact k1 t10 r9 _ q H10 g10 ((s06.trans s67).none n9) (s09.trans s10) (G9.same s10) (GA uT) (Nn lw2) lead CP q0 q1 (Mp Tp.zero q2)
  ·have s05:=s04.trans s5;have x50:=s04.none n5;have lw:(fP R6 ps6 mv.length).length=mv.length:=jM;obtain ⟨pr1,pr2⟩:=Iv wk lL RR6 hn6;obtain ⟨q,q0,q1,q2⟩:=J5 wk lL (by lia) CF.d0 CF.e0 CF.w0 tk CF.tl RR6 hn6;walk_at "w";rw[decide_eq_true rfl];exists bU λt10 H10 s10 g10=>?_
   exact k2 t10 x5 _ q H10 g10 x50 (s05.trans s10) (R5'.same s10) lw (Iy D.pw RRu RRT lw pr2) pr1 ⟨u,R5,ps5,R6,ps6,CU,RR5,hn5,RR6,rfl⟩ q0 q1 q2
theorem uF:bg ["_law_thing"] ["_law_thing"] (aN qN):=by walk_at "d"
theorem sI (T:Txt K mg Z):∀i:Nat,cI P w K mg base fM (0+i+1) Z.rC Z.rn ["_law_thing"] (Gj K i)
| 0=>T.d6.F.ok uF (λvs H Q E h=>(show False from h).elim) (λcdv A outer s H vs Q E hr h=>(show False from h).elim)
| i+1=>by
 have yo:=sI T i;refine T.d6.F.ok uF (λvs H Q E h=>?_) (λcdv A outer s H vs Q E hr h=>?_)
 ·obtain ⟨x,rfl,_⟩:=h;rfl
 ·obtain ⟨x,rfl,h⟩:=h
  refine ⟨_,(av (cP (gN (mi rfl T.isinstance PyProof.Rows.boot_list T.list (pv 0))) (az (a7 (cA ["_law_one"] [] [] (cE (pv 0)) (λ_=>(aT (i:=0) (show ND9 ["_law_one"] by decide +kernel))) (λ_=>cC) (λ_=>(yJ yo (hr.mono (by lia)) rfl T.d6.m T.d6.F.kp T.d6.b .nil Bv (ae (pv 0) ag)))))) bO)
   (av (cP (gN (mi rfl T.isinstance PyProof.Rows.boot_tuple T.tuple (pv 0))) (az (a7 (dI A0 (by rfl) T.tuple PyProof.Rows.boot_tuple (ae (cA ["_law_one"] [] [] (J7 (pv 0)) (λ_=>(aT (i:=0) (show ND9 ["_law_one"] by decide +kernel))) (λ_=>cC) (λ_=>(yJ yo (hr.mono (by lia)) rfl T.d6.m T.d6.F.kp T.d6.b .nil Bv (ae (pv 0) ag)))) ag)))) bO)
   (az (a7 (pv 0))))),?_⟩
  refine aV (σ:=[some x]) rfl ?_;rcases h with ⟨fx,k⟩ | ⟨hi,q,nq,k⟩ | ⟨hi,p,qs,rfl,Rp,l100,k⟩ | ⟨hi,p,H0,rs,rfl,Gp,l100,w100,k⟩ | ⟨hi,t,xs,H0,ds,rfl,st,pd,l10,hok,k⟩
  ·walk_at "w";cases x with
   | non =>
    refine .inl ⟨_,false,.non,rfl,?_⟩;exists .inl ⟨_,false,.non,rfl,?_⟩;exists k _ (aG.refl _)
   | bl v =>
    refine .inl ⟨_,false,.bl v,rfl,?_⟩;exists .inl ⟨_,false,.bl v,rfl,?_⟩;exists k _ (aG.refl _)
   | int v =>
    refine .inl ⟨_,false,.int v,rfl,?_⟩;exists .inl ⟨_,false,.int v,rfl,?_⟩;exists k _ (aG.refl _)
   | str v =>
    refine .inl ⟨_,false,.str v,rfl,?_⟩;exists .inl ⟨_,false,.str v,rfl,?_⟩;exists k _ (aG.refl _)
   | _=>exact absurd (show false=true from fx) bc
  ·obtain ⟨j,rfl⟩:∃j,i=j+1:=⟨i - 1,by lia⟩;obtain ⟨p,rfl,sq⟩:=id nq;exists .inr ⟨p,_,false,rfl,sq,rfl,?_⟩;exists .inr ⟨p,_,true,rfl,sq,rfl,?_⟩;exists ⟨⟨_,sq⟩,?_⟩;refine BU (K:=K) (as:=[(nm q).1,(nm q).2]) (F:=λ_ c x=>x=V.int c) (λ_ c x=>x=V.int c) id sq (.cons rfl (.cons rfl .nil)) (by simp) (λh _=>h) (λh _=>h) ?_ ?_
   ·rintro i2 c x H' NY NN ec s' rfl k1;exists ⟨_,rfl,.inl ⟨rfl,λH2 s2=>k1 _ _ s2 rfl⟩⟩
   rintro ys H2 l hl s2 g2 pr _
   obtain rfl:ys=[V.int (nm q).1,V.int (nm q).2]:=by
    cases pr with
    | cons h1 t=>cases t with
     | cons h2 t'=>cases t';rw[h1,h2];rfl
   exists ⟨l,_,rfl,.inl ⟨bN.of g2,λr hr=>?_⟩⟩;exact k r _ (s2.trans (aG.new hr)) ⟨r,rfl,jl.of aK⟩
  ·obtain ⟨j,rfl⟩:∃j,i=j+1:=⟨i - 1,by lia⟩;obtain ⟨xs,g,qx⟩:=id Rp;have lx:=qx.length;exists .inl ⟨_,true,.lst g,rfl,?_⟩;exists ⟨⟨_,bN.of g⟩,?_⟩;refine dJ (K:=K) (as:=qs) (F:=ck K) (ck K) id g qx (by lia) (λh s=>h.same s) (λh s=>h.same s) ?_ ?_
   ·rintro i2 c x H' NY NN ec s' nc k1;exists ⟨_,rfl,.inr (.inl ⟨by lia,c,nc,λr H2 s2 n2=>k1 _ _ s2 n2⟩)⟩
   rintro ys H2 l hl s2 g2 pr _;rw[ia] at pr;exact k l H2 hl s2 ⟨ys,g2,pr⟩
  ·obtain ⟨j,rfl⟩:∃j,i=j+1:=⟨i - 1,by lia⟩;obtain ⟨xs,g,qx,_⟩:=id Gp;have lx:=qx.length;exists .inl ⟨_,true,.lst g,rfl,?_⟩;exists ⟨⟨_,bN.of g⟩,?_⟩;refine dJ (K:=K) (as:=rs) (F:=c4 K H0) (c4 K H) id g qx (by lia) (λh s=>h.same s) (λh s=>h.same s) ?_ ?_
   ·rintro i2 c x H' NY NN ec s' ⟨q,rfl,nq,Rq⟩ k1;exists ⟨_,rfl,.inr (.inr (.inl ⟨by lia,q,c,rfl,Rq,w100 c (ax ec),λr H2 nr s2 R2=>k1 _ _ s2 ⟨r,rfl,s'.none nr,R2⟩⟩))⟩
   rintro ys H2 l hl s2 g2 pr nx;rw[ia] at pr nx;exact k l H2 hl s2 ⟨ys,g2,pr,je nx⟩
  ·obtain ⟨j,rfl⟩:∃j,i=j+1:=⟨i - 1,by lia⟩;exists .inr ⟨t,_,false,rfl,st,rfl,?_⟩;exists .inr ⟨t,_,true,rfl,st,rfl,?_⟩;exists ⟨⟨_,st⟩,?_⟩;refine BU (K:=K) (as:=ds) (F:=yP K H0) (yP K H) id st pd (by lia) (λh s=>h.same s) (λh s=>h.same s) ?_ ?_
   ·rintro i2 c x H' NY NN ec s' ec' k1;have ok:=hok c (ax ec);walk_at "w";cases c with
    | fl v =>
     obtain rfl:x=v:=ec';exact ⟨_,rfl,.inl ⟨ok,λH2 s2=>k1 _ _ s2 rfl⟩⟩
    | row qs =>
     obtain ⟨p,rfl,np,Rp⟩:=ec';exact ⟨_,rfl,.inr (.inr (.inl ⟨by lia,p,qs,rfl,Rp,ok,λr H2 nr s2 R2=>k1 _ _ s2 ⟨r,rfl,s'.none nr,R2⟩⟩))⟩
    | grid rs =>
     obtain ⟨p,rfl,np,Gp⟩:=ec';exact ⟨_,rfl,.inr (.inr (.inr (.inl ⟨by lia,p,H0,rs,rfl,Gp,ok.1,ok.2,λr H2 nr s2 G2=>k1 _ _ s2 ⟨r,rfl,s'.none nr,G2.weak s'⟩⟩)))⟩
   rintro ys H2 l hl s2 g2 pr _;rw[ia] at pr;have ly:=pr.length;exists ⟨l,_,rfl,.inl ⟨bN.of g2,λr hr=>?_⟩⟩;exact k r ys _ (s2.trans (aG.new hr)) aK (Paired.imp' (λ_ _ z=>yP.same z (aG.new hr)) pr)
theorem Dl (T:Txt K mg Z):cI P w K mg base fM 6 Z.rC Z.rn ["_law_thing"] (Gj K 5):=sI T 5
theorem mK:bg ["_law_thing","_law_one"] ["_law_thing"] (aN oE):=by walk_at "d"
theorem qV (T:Txt K mg Z):∀i:Nat,cI P w K mg base fM (0+i+1) Z.pE Z.pe ["_law_thing"] (Bg K i)
| 0=>T.fH.F.ok mK (λvs H Q E h=>(show False from h).elim) (λcdv A outer s H vs Q E hr h=>(show False from h).elim)
| i+1=>by
 have DO:=qV T i;refine T.fH.F.ok mK (λvs H Q E h=>?_) (λcdv A outer s H vs Q E hr h=>?_)
 ·obtain ⟨x,rfl,_⟩:=h;rfl
 ·obtain ⟨x,rfl,h⟩:=h
  refine ⟨_,(av (cP (gN (bA Ja (by rfl) T.isinstance PyProof.Rows.boot_isinstance (ae (pv 0) (ae (cN (ae (yK (v:=.ty "list") rfl T.list PyProof.Rows.boot_list rfl) (ae (yK (v:=.ty "tuple") rfl T.tuple PyProof.Rows.boot_tuple rfl) ag))) ag)))) (az (dO PassesOwn.never rfl (OE (pv 0)) (aT (i:=1) mK.nd)
    (az (hZ (yJ DO (hr.mono (by lia)) rfl T.fH.m T.fH.F.kp T.fH.b .nil Bv (ae (pv 1) ag)))))) bO)
   (az (cP (gN (mi rfl T.isinstance PyProof.Rows.boot_list T.list (pv 0))) (az (hZ (sG cM c6 c5 jg (pv 0) (ae (cN (ae ao (ae ao ag))) ag)))) bO))),?_⟩
  refine aV (σ:=[some x,none]) rfl ?_;exists bU λtp H1 s1 g1=>?_
  rcases h with ⟨fx,k⟩ | ⟨hi,n,nq,k⟩ | ⟨hi,p,zs,rfl,gp,l500,hz,k⟩ | ⟨hi,p,us,rfl,gp,l100,pu,hu,k⟩ | ⟨hi,t,xs,ews,rfl,st,pd,l10,hok,dj,k⟩
  ·walk_at "w";cases x with
   | non =>
    refine ⟨_,tp,rfl,g1,.inl ⟨_,false,.non,rfl,?_⟩⟩;exists .inl ⟨_,false,.non,rfl,?_⟩;exists k _ s1
   | bl v =>
    refine ⟨_,tp,rfl,g1,.inl ⟨_,false,.bl v,rfl,?_⟩⟩;exists .inl ⟨_,false,.bl v,rfl,?_⟩;exists k _ s1
   | int v =>
    refine ⟨_,tp,rfl,g1,.inl ⟨_,false,.int v,rfl,?_⟩⟩;exists .inl ⟨_,false,.int v,rfl,?_⟩;exists k _ s1
   | str v =>
    refine ⟨_,tp,rfl,g1,.inl ⟨_,false,.str v,rfl,?_⟩⟩;exists .inl ⟨_,false,.str v,rfl,?_⟩;exists k _ s1
   | _=>exact absurd (show false=true from fx) bc
  ·obtain ⟨j,rfl⟩:∃j,i=j+1:=⟨i - 1,by lia⟩;obtain ⟨p,rfl,sq⟩:=id nq;have sq1:=s1.sqt sq;exists ⟨_,tp,rfl,g1,.inr ⟨p,_,rfl,sq1,?_⟩⟩;walk_at "w";unfold Kz;exists .inr ⟨⟨_,sq1⟩,?_⟩;refine Dz (K:=K) (a:=p) (xs:=[V.int n.1,V.int n.2]) (λi σ' H'=>aG H1 H'/\∃y,σ'=[some (.ref p),y]) ⟨aG.refl _,_,rfl⟩ (λi σ' H' _ ⟨s,_⟩=>s.sqt sq1) ?_ ?_
   ·rintro i2 x σ' H2 hx ⟨s2,y,rfl⟩;have hm:=ax hx
    have fx:nN x=true:=by
     simp only[aB,aU,or_false] at hm;rcases hm with rfl | rfl <;> rfl
    exists ⟨_,rfl,.inl ⟨fx,λH3 s3=>⟨s2.trans s3,_,rfl⟩⟩⟩
   rintro σ' H2 ⟨s2,y,rfl⟩;exists .inr ⟨p,_,false,rfl,s2.sqt sq1,rfl,?_⟩;exists k _ (s1.trans s2)
  ·obtain ⟨j,rfl⟩:∃j,i=j+1:=⟨i - 1,by lia⟩;have gp1:=s1 _ _ gp;exists ⟨_,tp,rfl,g1,.inl ⟨_,true,.lst gp1,rfl,?_⟩⟩;walk_at "w";unfold Kz;exists .inl ⟨⟨_,bN.of gp1⟩,?_⟩;refine fY (K:=K) (a:=p) (xs:=zs) (λi σ' H'=>aG H1 H'/\∃y,σ'=[some (.ref p),y]) ⟨aG.refl _,_,rfl⟩ (λi σ' H' _ ⟨s,_⟩=>bN.of (s _ _ gp1)) ?_ ?_
   ·rintro i2 x σ' H2 hx ⟨s2,y,rfl⟩;obtain ⟨n,nx⟩:=hz x (ax hx);exists ⟨_,rfl,.inr (.inl ⟨by lia,n,(s1.trans s2).num nx,λH3 s3=>⟨s2.trans s3,_,rfl⟩⟩)⟩
   rintro σ' H2 ⟨s2,y,rfl⟩;have gp2:=s2 _ _ gp1;exists .inl ⟨_,true,.lst gp2,rfl,?_⟩;exists ⟨.inl ⟨rfl,_,bN.of gp2⟩,?_⟩;exists bU λt7 H3 s3 g3=>?_
   walk_at "w";have gp3:=s3 _ _ gp2;refine iD gp3 (bC (by lia)) ?_;exists k t7 _ ((Kp.of ((s1.trans s2).trans s3)).trans (Kp.upd gp3 rfl)) (by rw[bG λz=>by rw[z,gp3] at g3;cases g3];exact g3) aK
  ·obtain ⟨j,rfl⟩:∃j,i=j+1:=⟨i - 1,by lia⟩;have gp1:=s1 _ _ gp;exists ⟨_,tp,rfl,g1,.inl ⟨_,true,.lst gp1,rfl,?_⟩⟩;walk_at "w";unfold Kz;exists .inl ⟨⟨_,bN.of gp1⟩,?_⟩;refine fY (K:=K) (a:=p) (xs:=us) (λi σ' H'=>Kp (λa=>V.ref a∈us) H H'/\H' p=some (.lst us)/\(∀y∈us,∃q zs,y=.ref q/\H' q=some (.lst zs)/\zs.length<=100+i/\∀z∈zs,∃n,vR K H' z n)/\∃y,σ'=[some (.ref p),y]) ⟨.of s1,gp1,λy hy=>?_,_,rfl⟩ (λi σ' H' _ ⟨_,g,_⟩=>bN.of g) ?_ ?_
   ·obtain ⟨q,zs,a1,a2,a3,a4⟩:=hu y hy;exact ⟨q,zs,a1,s1 _ _ a2,a3,λz hz=>by obtain ⟨n,hn⟩:=a4 z hz;exact ⟨n,s1.num hn⟩⟩
   ·rintro i2 x σ' H2 hx ⟨k2,g2,hu2,y,rfl⟩;have mx:=ax hx;have hi2:i2 < us.length:=(aE.mp hx).1;obtain ⟨q,zs,rfl,gq,lz,hz⟩:=hu2 x mx;have qp:p≠q:=λz=>pu (by rw[z];exact mx)
    exists ⟨_,rfl,.inr (.inr (.inl ⟨by lia,q,zs,rfl,gq,by lia,hz,λt7 H3 k3 g7 gq3=>?_⟩))⟩;refine ⟨k2.trans (k3.mono λa e=>by rw[e];exact mx),k3 _ _ g2 (.inl qp),λy' hy'=>?_,_,rfl⟩;obtain ⟨q',zs',rfl,gq',lz',hz'⟩:=hu2 y' hy';by_cases e:q'=q
    ·subst e;refine ⟨q',_,rfl,gq3,by rw[ak,bo];rw[gq] at gq';cases gq';lia,λz mz=>?_⟩;rcases aw.mp mz with mz | mz
     ·obtain ⟨n,hn⟩:=hz z mz;exact ⟨n,k3.numR hn⟩
     ·rw[bB.mp mz];exact ⟨(7,1),t7,rfl,jl.of g7⟩
    ·exact ⟨q',zs',rfl,k3 _ _ gq' (.inl e),by lia,λz mz=>by obtain ⟨n,hn⟩:=hz' z mz;exact ⟨n,k3.numR hn⟩⟩
   rintro σ' H2 ⟨k2,gp2,_,y,rfl⟩;exists .inl ⟨_,true,.lst gp2,rfl,?_⟩;exists ⟨.inl ⟨rfl,_,bN.of gp2⟩,?_⟩;exists bU λt7 H3 s3 g3=>?_
   walk_at "w";have gp3:=s3 _ _ gp2;refine iD gp3 (bC (by lia)) ?_;exists k _ (((k2.mono λa e=>.inr e).trans (Kp.of s3)).trans (Kp.upd gp3 (.inl rfl)))
  ·obtain ⟨j,rfl⟩:∃j,i=j+1:=⟨i - 1,by lia⟩;have st1:=s1.sqt st;have lx:=pd.length;exists ⟨_,tp,rfl,g1,.inr ⟨t,_,rfl,st1,?_⟩⟩;walk_at "w";unfold Kz;exists .inr ⟨⟨_,st1⟩,?_⟩;refine Dz (K:=K) (a:=t) (xs:=xs) (λi σ' H'=>Kp (λa=>∃e∈ews,e.2 a) H H'/\(∀m e v,i<=m->ews[m]?=some e->xs[m]?=some v->Pc K e.2 H' e.1 v)/\∃y,σ'=[some (.ref t),y]) ⟨.of s1,λm e v _ he hv=>?_,_,rfl⟩ (λi σ' H' _ ⟨k2,_⟩=>k2.sqt st) ?_ ?_
   ·obtain ⟨e',he',el⟩:=cm pd hv;rw[he] at he';cases he';exact el.kp (S:=λ_=>False) (.of s1) (λ_ _ z=>z)
   ·rintro i2 x σ' H2 hx ⟨k2,hel,y,rfl⟩;obtain ⟨e,he,_⟩:=cm pd hx;have el:=hel i2 e x (aj _) he hx;have me:=ax he;have ok:=hok e me;have nxt:∀H3,Kp e.2 H2 H3->∀m e' v,i2+1<=m->ews[m]?=some e'->xs[m]?=some v->Pc K e'.2 H3 e'.1 v:=λH3 k3 m e' v hm he' hv=>(hel m e' v (by lia) he' hv).kp k3 λa h1 h2=>dj i2 m e e' (by lia) he he' a h1 h2
    have upk:∀H3,Kp e.2 H2 H3->Kp (λa=>∃e∈ews,e.2 a) H H3:=λH3 k3=>k2.trans (k3.mono λa h=>⟨e,me,h⟩)
    walk_at "w";obtain ⟨d,W⟩:=e;cases d with
    | fl v =>
     obtain rfl:x=v:=el;exact ⟨_,rfl,.inl ⟨ok,λH3 s3=>⟨upk H3 (.of s3),nxt H3 (.of s3),_,rfl⟩⟩⟩
    | row qs =>
     obtain ⟨p,rfl,wp,zs,gz,qz⟩:=el;have lz:=qz.length;have ok:qs.length<=100:=ok;refine ⟨_,rfl,.inr (.inr (.inl ⟨by lia,p,zs,rfl,gz,by lia,λz mz=>?_,λt7 H3 k3 _ _=>?_⟩))⟩
     ·obtain ⟨c,_,nc⟩:=cL qz mz;exact ⟨_,nc⟩
     ·have k3':Kp W H2 H3:=k3.mono λa e=>by rw[e];exact wp
      exact ⟨upk H3 k3',nxt H3 k3',_,rfl⟩
    | grid rs =>
     obtain ⟨p,us,rfl,wp,gu,nu,qu⟩:=el;have lu:=qu.length;have ok1:rs.length<=100:=ok.1;refine ⟨_,rfl,.inr (.inr (.inr (.inl ⟨by lia,p,us,rfl,gu,by lia,nu,λy my=>?_,λH3 k3=>?_⟩)))⟩
     ·obtain ⟨qs,mq,q,rfl,_,zs,gz,qz⟩:=cL qu my;have lz:=qz.length;have:=ok.2 qs mq;exact ⟨q,zs,rfl,gz,by lia,λz mz=>by obtain ⟨c,_,nc⟩:=cL qz mz;exact ⟨_,nc⟩⟩
     ·have k3':Kp W H2 H3:=k3.mono λa e=>by
       rcases e with e | e
       ·rw[e];exact wp
       ·obtain ⟨qs,_,q,eq,wq,_⟩:=cL qu e;cases eq;exact wq
      exact ⟨upk H3 k3',nxt H3 k3',_,rfl⟩
   rintro σ' H2 ⟨k2,_,y,rfl⟩;exists .inr ⟨t,_,false,rfl,k2.sqt st,rfl,?_⟩;exists k _ k2
theorem AU (T:Txt K mg Z):cI P w K mg base fM 6 Z.pE Z.pe ["_law_thing"] (Bg K 5):=qV T 5
theorem gU:bg ["_law_parts_here","_law_steps_here","_law_rows","_law_some","_law_turn"] ["_law_parts_here","_law_steps_here"] (aN oM):=by walk_at "d"
theorem sO (T:Txt K mg Z):cI P w K mg base fM 5 Z.vQ Z.vB ["_law_parts_here","_law_steps_here"] (Bt K):=by
 refine T.ke.F.ok gU (λvs H Q E h=>?_) (λcdv A outer s H vs Q E hr h=>?_)
 ·obtain ⟨r,tt,H0,mv,pt,lk,rfl,_⟩:=h;rfl
 ·obtain ⟨r,tt,H0,mv,pt,lk,rfl,hT,PQ,D,AF,k⟩:=h
  refine ⟨_,(av (kN 2 ["_law_row_here"] [] [] gU.nd rfl rfl (cE (aY bM (pv 0) ao)) (λ_=>(aT (i:=0) (show ND9 ["_law_row_here"] by decide +kernel))) (λ_=>cC) (λ_=>(dI (eV K (by rfl)) (by rfl) T.list PyProof.Rows.boot_list (ae (pv 0) ag))))
   (av (a8 (i:=3) gU.nd rfl (Or.inl rfl) (df ag))
   (av (dO PassesOwn.never rfl (cw rfl T.range (ae (pv 1) ag)) (aT (i:=4) gU.nd)
    (av (a8 (i:=3) gU.nd rfl (Or.inl rfl) (bH i8 (pv 3) (pv 2)))
   (az (kN 2 ["_law_row_here"] ["_law_parts_here"] [0] gU.nd rfl rfl (cE (pv 2)) (λ_=>(aT (i:=0) (show ND9 ["_law_row_here","_law_parts_here"] by decide +kernel))) (λ_=>cC) (λ_=>(cG (uf T) hr T.lO (ae (aY (o7 K (by rfl)) (pv 1) ao) (ae (pv 0) ag))))))))
   (az (a7 (pv 3)))))),?_⟩
  refine aV (σ:=[some (.ref r),some (.int tt),none,none,none]) rfl ?_;have d1:=D.n8;have i4:=D.i4;obtain ⟨m,p,l,g,n1,n2,n3,Gm,Gp,Gl⟩:=id PQ;obtain ⟨up,gp,qp,_⟩:=id Gp;have lup:=qp.length;exists ⟨⟨_,bN.of gp⟩,?_⟩;refine dJ (K:=K) (F:=c4 K H0) (c4 K H) id gp qp (by lia) (λa b=>a.same b) (λa b=>a.same b) ?_ ?_
  ·rintro i ns x H' NY NN en s ⟨u,rfl,_,zs,gz,qz⟩ k1;exists ⟨u,zs,rfl,.inl (bN.of gz),λl1 hl1=>?_⟩;exact k1 _ _ (aG.new hl1) ⟨l1,rfl,s.none hl1,zs,aK,Paired.imp' (λ_ _ z=>z.same (aG.new hl1)) qz⟩
  rintro ys1 H1 rq1 hr1 s1 g1 pr1 nx1;rw[ia] at pr1 nx1;have G1:bJ K H H1 rq1 pt:=⟨ys1,g1,pr1,je nx1⟩;exists cW λsm0 H2 s2 nf gf=>?_
  have s02:=s1.trans s2;exists ⟨by lia,by lia,?_⟩;refine eG (n:=tt) (λt σ' H'=>aG H H'/\∃rq sm y,σ'=[some (.ref r),some (.int tt),some (.ref rq),some (.ref sm),y]/\H sm=none/\bJ K H H' sm (kry mv pt t)/\bJ K H H' rq (pt.map (iG mv t))) ⟨s02,rq1,sm0,_,rfl,s1.none nf,⟨[],gf,.nil,λz=>nomatch z⟩,by rw[show pt.map (iG mv 0)=pt from ia pt];exact G1.same s2⟩ ?_ ?_
  ·rintro t σ' H' ht ⟨s',rq,sm,y,rfl,nsm,Gs,Gq⟩;obtain ⟨us,gu,pu,_⟩:=id Gs;obtain ⟨zs,gz,qz,_⟩:=id Gq;have lz:=qz.length;rw[ar] at lz;have lu:=pu.length;rw[rO] at lu;have lb:t*pt.length<=20*4:=aA (by lia) i4;exists iX gu gz (aZ (bC (by lia))) λcc H3 s3 nc gc=>?_
   have ek:kry mv pt (t+1)=kry mv pt t++pt.map (iG mv t):=by
    rw[<- rV,DL,iK,rV];simp
   have Gc:bJ K H H3 cc (kry mv pt (t+1)):=by
    rw[ek];exact ⟨_,gc,Paired.imp' (λ_ _ z=>c4.same z s3) (bP pu qz),je ⟨H',nc,bP pu qz⟩⟩
   have s03:=s'.trans s3;have g3:=s03 _ _ g;exists ⟨⟨_,bN.of (s3 _ _ gz)⟩,?_⟩;refine dJ (K:=K) (F:=c4 K H) (c4 K H) (pT mv) (s3 _ _ gz) (Paired.imp' (λ_ _ z=>c4.same z s3) qz) (by rw[ar];lia) (λa b=>a.same b) (λa b=>a.same b) ?_ ?_
   ·rintro i ns v Ha NY NN en sa ⟨u,rfl,_,Ru⟩ k1;have mn:=ax en;obtain ⟨y0,hy0,rfl⟩:=aD.mp mn;have wy:=D.pw y0 hy0;have ga:=sa _ _ g3;exists ⟨m,u,H0,mv,_,rfl,(Gm.same s03).same sa,Ru,by lia,by rw[iF wy];lia,λxs hx=>⟨by rw[D.mw xs hx,iF wy],((AF.row D.mw D.pw y0 hy0).fit D.mw wy (show t<=tt by lia)).1 xs hx⟩,λz Hj nz sj Rz=>k1 _ _ sj ⟨z,rfl,s03.none (sa.none nz),Rz⟩⟩
   ·rintro ys Hb rr hrr sb gb prb nxb;have e:(pt.map (iG mv t)).map (pT mv)=pt.map (iG mv (t+1)):=by rw[mI];rfl
    rw[e] at prb nxb;exact ⟨s03.trans sb,rr,cc,_,rfl,s'.none nc,Gc.same sb,ys,gb,prb,je nxb⟩
  ·rintro σ' H' ⟨s',rq,sm,y,rfl,nsm,Gs,Gq⟩;exists k sm H' nsm s' Gs
theorem CW:bg ["_law_one","_law_other"] ["_law_one","_law_other"] (aN qL):=by walk_at "d"
theorem Dk (T:Txt K mg Z):cI P w K mg base fM 2 Z.yh Z.xN ["_law_one","_law_other"] (oq K (λx y=>x - y)):=by
 refine T.o5.F.ok CW (λvs H Q E h=>?_) (λcdv A outer s H vs Q E hr h=>?_)
 ·obtain ⟨p,q,a,b,c,d,rfl,hp,hq,hb,hd,sa,sb,sc,sd,k⟩:=yG h;rfl
 ·obtain ⟨p,q,a,b,c,d,rfl,hp,hq,hb,hd,sa,sb,sc,sd,k⟩:=yG h;refine ⟨_,(az (a7 (cG (gG T) hr T.eU (ae (bH i5 (bH cY (aY bM (pv 0) ao) (aY bM (pv 1) ao)) (bH cY (aY bM (pv 1) ao) (aY bM (pv 0) ao))) (ae (bH cY (aY bM (pv 0) ao) (aY bM (pv 1) ao)) ag))))),?_⟩;refine aV (σ:=[some (.ref p),some (.ref q)]) rfl ?_;have hbd:0 < b*d:=iT hb hd;have sbd:Sz 8999 (b*d):=(sb.mul sd).mono (by decide);exists fE (show gI _ _ from .inr ⟨_,_,sa,sd,by decide⟩) ?_;exists fE (show gI _ _ from .inr ⟨_,_,sc,sb,by decide⟩) ?_;exists fE (show gI _ _ from .inr ⟨_,_,sb,sd,by decide⟩) ?_;walk_at "w";exists ⟨_,_,rfl,hbd,sbd,k⟩
theorem AN:bg ["_law_one","_law_other"] ["_law_one","_law_other"] (aN oI):=by walk_at "d"
theorem j6 (T:Txt K mg Z):cI P w K mg base fM 3 Z.vN Z.vw ["_law_one","_law_other"] (v9 K):=by
 refine T.gV.F.ok AN (λvs H Q E h=>?_) (λcdv A outer s H vs Q E hr h=>?_)
 ·obtain ⟨p,q,xs,ys,rfl,_⟩:=h;rfl
 ·obtain ⟨p,q,xs,ys,rfl,hp,hq,hl,hz,h1,h2,kk⟩:=h;refine ⟨_,(az (a7 (cA ["_law_k"] ["_law_one","_law_other"] [0,1] (cw rfl T.range (ae (bA aX (by rfl) T.len aR (ae (pv 0) ag)) ag)) (λ_=>(aT (i:=0) (show ND9 ["_law_k","_law_one","_law_other"] by decide +kernel))) (λ_=>cC) (λ_=>(cG (Dk T) hr T.o5 (ae (aY (fW K (by rfl)) (pv 1) (pv 0)) (ae (aY (fW K (by rfl)) (pv 2) (pv 0)) ag))))))),?_⟩;refine aV (σ:=[some (.ref p),some (.ref q)]) rfl ?_;obtain ⟨us,gu,qu⟩:=id hp;obtain ⟨ws,gw,qw⟩:=id hq;have lu:=qu.length;exists ⟨_,_,rfl,.inl (bN.of gu),?_⟩;exists ⟨by lia,by lia,?_⟩;refine gW (n:=us.length) (ck K) (λi=>xs.getD i 0 - ys.getD i 0) (by lia) (λa b=>a.same b) ?_ ?_
  ·rintro i H' NY NN hi s k1;have ix:i < xs.length:=by lia
   have iy:i < ys.length:=by lia
   obtain ⟨vx,ex,nx⟩:=EL (Paired.imp' (λ_ _ z=>z.same s) qu) ix;obtain ⟨vy,ey,ny⟩:=EL (Paired.imp' (λ_ _ z=>z.same s) qw) iy;exists cB (bN.of (s _ _ gu)) ex ?_;exists cB (bN.of (s _ _ gw)) ey ?_;exists ⟨_,_,_,_,rfl,nx,ny,h1 _ (getD_mem ix),h2 _ (getD_mem iy),λr3 H3 s3 n3=>k1 _ _ s3 n3⟩
  ·rintro ys' H' l hl' s g pr nx;exact kk l H' hl' s ⟨ys',g,by rw[Fh (by lia)];rw[<- lu] at pr;exact pr⟩
theorem j4:bg ["_law_parts_here","_law_start","_law_steps_here","_law_state","_law_turn"] ["_law_parts_here","_law_start","_law_steps_here"] (aN oK):=by walk_at "d"
theorem sN (T:Txt K mg Z):cI P w K mg base fM 5 Z.vP Z.vA ["_law_parts_here","_law_start","_law_steps_here"] (Bs K):=by
 refine T.j9.F.ok j4 (λvs H Q E h=>?_) (λcdv A outer s H vs Q E hr h=>?_)
 ·obtain ⟨r,s,tt,H0,mv,pt,lk,st,rfl,_⟩:=h;rfl
 ·obtain ⟨r,s,tt,H0,mv,pt,lk,st,rfl,hT,PQ,D,Rs,ls,AF,k⟩:=h
  refine ⟨_,(av (a8 (i:=3) j4.nd rfl (Or.inl rfl) (dI (eV K (by rfl)) (by rfl) T.list PyProof.Rows.boot_list (ae (pv 1) ag)))
   (av (dO PassesOwn.never rfl (cw rfl T.range (ae (pv 2) ag)) (aT (i:=4) j4.nd)
    (az (a8 (i:=3) j4.nd rfl (Or.inl rfl) (cG (uf T) hr T.lO (ae (aY bM (pv 0) ao) (ae (pv 3) ag))))))
   (az (a7 (pv 3))))),?_⟩
  refine aV (σ:=[some (.ref r),some (.ref s),some (.int tt),none,none]) rfl ?_;have d1:=D.n8;obtain ⟨m,p,l,g,n1,n2,n3,Gm,Gp,Gl⟩:=id PQ;obtain ⟨ss,gs,qs⟩:=id Rs;exists ⟨s,ss,rfl,.inl (bN.of gs),λc hc=>?_⟩;have sc:aG H (upd H c (.lst ss)):=aG.new hc;have Rc:cv K (upd H c (.lst ss)) c st:=⟨ss,aK,Paired.imp' (λ_ _ z=>z.same sc) qs⟩;generalize upd H c (.lst ss)=Hc at sc Rc ⊢;exists ⟨by lia,by lia,?_⟩;refine eG (n:=tt) (λi σ' H'=>aG H H'/\∃q y,σ'=[some (.ref r),some (.ref s),some (.int tt),some (.ref q),y]/\H q=none/\cv K H' q (iG mv i st)) ⟨sc,c,_,rfl,hc,Rc⟩ ?_ ?_
  ·rintro i σ' H' hi ⟨e,q,y,rfl,nq,Rq⟩;have ge:=e _ _ g;exists ⟨m,q,H0,mv,_,rfl,Gm.same e,Rq,by lia,by rw[iF ls];lia,λxs hx=>⟨by rw[D.mw xs hx,iF ls],(AF.fit D.mw ls (show i<=tt by lia)).1 xs hx⟩,λq2 H2 n2 s2 R2=>?_⟩;exact ⟨e.trans s2,q2,_,rfl,e.none n2,R2⟩
  ·rintro σ' H' ⟨e,q,y,rfl,nq,Rq⟩;exists k q H' nq e Rq
theorem CN:bg ["_law_one","_law_other"] ["_law_one","_law_other"] (aN qD):=by walk_at "d"
theorem Dc (T:Txt K mg Z):cI P w K mg base fM 2 Z.xX Z.xE ["_law_one","_law_other"] (y9 K):=by
 refine T.oV.F.ok CN (λvs H Q E h=>?_) (λcdv A outer s H vs Q E hr h=>?_)
 ·obtain ⟨p,q,a,b,c,d,rfl,hp,hq,hb,hd,hc,sa,sb,sc,sd,k⟩:=Ex h;rfl
 ·obtain ⟨p,q,a,b,c,d,rfl,hp,hq,hb,hd,hc,sa,sb,sc,sd,k⟩:=Ex h
  refine ⟨_,(av (cP (bx qU (aY bM (pv 1) ao) ao (bD _)) (az (a7 (cG (gG T) hr T.eU (ae (bH i5 ao (bH cY (aY bM (pv 0) ao) (aY bM (pv 1) ao))) (ae (bH i5 ao (bH cY (aY bM (pv 0) ao) (aY bM (pv 1) ao))) ag))))) bO)
   (az (a7 (cG (gG T) hr T.eU (ae (bH cY (aY bM (pv 0) ao) (aY bM (pv 1) ao)) (ae (bH cY (aY bM (pv 0) ao) (aY bM (pv 1) ao)) ag)))))),?_⟩
  refine aV (σ:=[some (.ref p),some (.ref q)]) rfl ?_;have sbc:Sz 8999 (b*c):=(sb.mul sc).mono (by decide);exists fX (λh=>?_) (λh=>?_)
  ·have h0:c < 0:=of_decide_eq_true h;have hbc:b*c < 0:=uw hb h0;exists fE (show gI _ _ from .inr ⟨_,_,sa,sd,by decide⟩) ?_;exists fE (show gI _ _ from .inr ⟨_,_,sb,sc,by decide⟩) ?_;exists ⟨_,_,rfl,by lia,by rw[Int.zero_sub];exact sbc.neg,λr H' s' h'=>?_⟩;exact k r H' s' (by rw[if_pos h0,if_pos h0];exact h')
  ·have h0:¬c < 0:=λz=>h (decide_eq_true z)
   have hbc:0 < b*c:=iT hb (by lia);exists fE (show gI _ _ from .inr ⟨_,_,sa,sd,by decide⟩) ?_;exists fE (show gI _ _ from .inr ⟨_,_,sb,sc,by decide⟩) ?_;exists ⟨_,_,rfl,hbc,sbc,λr H' s' h'=>?_⟩;exact k r H' s' (by rw[if_neg h0,if_neg h0];exact h')
theorem eP:bg ["_law_rows","_law_wide","_law_left","_law_found","_law_place","_law_heads","_law_head"] ["_law_rows","_law_wide"] (aN qM):=by walk_at "d"
theorem uQ (T:Txt K mg Z):cI P w K mg base fM 4 Z.yi Z.xO ["_law_rows","_law_wide"] (zg K):=by
 refine T.kS.F.ok eP (λvs H Q E h=>?_) (λcdv A outer s H vs Q E hr h=>?_)
 ·obtain ⟨p,n,S,H0,rows,rfl,_⟩:=h;rfl
 ·obtain ⟨p,n,S,H0,rows,rfl,G,r100,n100,hw,⟨e39,J,j0,jskip,jlean,jlw,jsz⟩,k⟩:=h
  refine ⟨_,(av (a8 (i:=2) eP.nd rfl (Or.inr rfl) (cA ["_law_row_here"] [] [] (cE (pv 0)) (λ_=>(aT (i:=0) (show ND9 ["_law_row_here"] by decide +kernel))) (λ_=>cC) (λ_=>(dI (eV K (by rfl)) (by rfl) T.list PyProof.Rows.boot_list (ae (pv 0) ag)))))
   (av (a8 (i:=3) eP.nd rfl (Or.inl rfl) (df ag))
   (av (dO PassesOwn.never rfl (cw rfl T.range (ae (pv 1) ag)) (aT (i:=4) eP.nd rfl (Or.inr rfl) (Or.inl rfl))
    (av (kN 5 ["_law_k"] ["_law_left","_law_place"] [2,4] eP.nd rfl rfl (cw rfl T.range (ae (bA aX (by rfl) T.len aR (ae (pv 2) ag)) ag)) (λ_=>(aT (i:=0) (show ND9 ["_law_k","_law_left","_law_place"] by decide +kernel))) (λ_=>OF (bx (Mv K (by rfl) (Dv hr)) (aY (fW K (by rfl)) (aY (fW K (by rfl)) (pv 1) (pv 0)) (pv 2)) (cN (ae ao (ae ao ag))) (bD _))) (λ_=>(pv 0)))
   (az (cP (bx (C4 (Dv hr)) (pv 5) (df ag) (bD _)) (av (a8 (i:=6) eP.nd rfl (Or.inr rfl) (sG cM PySem.F.slot_list_pop PySem.F.type_list_pop Kh (pv 2) (ae (aY bS (pv 5) ao) ag)))
   (av (a8 (i:=6) eP.nd rfl (Or.inr rfl) (cG (lH T) hr T.jb (ae (cG (Dc T) hr T.oV (ae (cN (ae ao (ae ao ag))) (ae (aY bS (pv 6) (pv 4)) ag))) (ae (pv 6) ag))))
   (av (a8 (i:=2) eP.nd rfl (Or.inr rfl) (cA ["_law_row_here"] ["_law_place","_law_head"] [4,6] (cE (pv 2)) (λ_=>(aT (i:=0) (show ND9 ["_law_row_here","_law_place","_law_head"] by decide +kernel))) (λ_=>cC) (λ_=>(cG (j6 T) hr T.gV (ae (pv 0) (ae (cG (lH T) hr T.jb (ae (aY (fW K (by rfl)) (pv 0) (pv 1)) (ae (pv 2) ag))) ag))))))
   (av (kN 3 ["_law_row_here"] ["_law_place","_law_head"] [4,6] eP.nd rfl rfl (cE (pv 3)) (λ_=>(aT (i:=0) (show ND9 ["_law_row_here","_law_place","_law_head"] by decide +kernel))) (λ_=>cC) (λ_=>(cG (j6 T) hr T.gV (ae (pv 0) (ae (cG (lH T) hr T.jb (ae (aY (fW K (by rfl)) (pv 0) (pv 1)) (ae (pv 2) ag))) ag)))))
   (az (hZ (sG cM c6 c5 jg (pv 3) (ae (pv 6) ag)))))))) bO))))
   (az (a7 (pv 3)))))),?_⟩
  refine aV (σ:=[some (.ref p),some (.int n),none,none,none,none,none]) rfl ?_;obtain ⟨xs,gx,qx,_⟩:=id G;have szT:∀{D:Nat} {x:Rat},0 < D->D<=2^S->Tp D (2^S) x->kK x:=λh0 h1 t=>Cy t h0 (ai h1 (au (by decide) (by lia))) (au (by decide) (by lia))
  have szP:∀{D D':Nat} {x y:Rat},0 < D->0 < D'->D<=2^S->D'<=2^S->Tp D (2^S) x->Tp D' (2^S) y->kK (x*y):=λh0 h0' h1 h1' t t'=>Cy (t.mul t') (bE h0 h0') (ai (aA h1 h1') (by rw[<- aS];exact au (by decide) (by lia))) (by rw[<- aS];exact au (by decide) (by lia))
  exists ⟨⟨_,bN.of gx⟩,?_⟩;refine dJ (K:=K) (F:=c4 K H0) (c4 K H) id gx qx (by lia) (λa b=>a.same b) (λa b=>a.same b) ?_ ?_
  ·rintro i ns x H' NY NN en s ⟨u,rfl,_,zs,gz,qz⟩ k1;exists ⟨u,zs,rfl,.inl (bN.of gz),λl1 hl1=>?_⟩;exact k1 _ _ (aG.new hl1) ⟨l1,rfl,s.none hl1,zs,aK,Paired.imp' (λ_ _ z=>z.same (aG.new hl1)) qz⟩
  rintro ys1 H1 L hL s1 g1 pr1 nx1;rw[ia] at pr1 nx1;have GL1:bJ K H H1 L rows:=⟨ys1,g1,pr1,je nx1⟩;exists cW λfd H2 s2 nf gf=>?_
  have fdL:fd≠L:=λz=>by rw[z,g1] at nf;cases nf
  clear g1 pr1 nx1;exists ⟨by lia,by lia,?_⟩;refine eG (n:=n) (λP σ' H'=>aG H H'/\∃lp fp ls fs ps vs y1 y2 y3,σ'=[some (.ref p),some (.int n),some (.ref lp),some (.ref fp),y1,y2,y3]/\H lp=none/\H fp=none/\fp≠lp/\bJ K H H' lp ls/\H' fp=some (.lst vs)/\Paired (nG K (λq=>(H q=none/\q≠fp)/\q≠lp) H') fs vs/\fs.length=ps.length/\J P (fs++ls) ps) ⟨s1.trans s2,L,fd,rows,[],[],[],_,_,_,rfl,hL,s1.none nf,fdL,GL1.same s2,gf,.nil,rfl,j0⟩ ?_ ?_
  ·rintro P σ' H' hP ⟨s',lp,fp,ls,fs,ps,vs,y1,y2,y3,rfl,nlp,nfp,fl,GL,gv,pv,hf,JI⟩;have I:=jlw _ _ _ JI;have len:=I.len;rw[ak] at len;have wide:=I.wide;obtain ⟨us,gu,qu,nu⟩:=id GL;have lu:=qu.length;have lv:=pv.length
   have szI:∀{i:Nat},i < rows.length->∀c,kK (cu (fs++ls) i c):=λhi c=>by
    obtain ⟨D,D0,D1,D2⟩:=jsz _ _ _ JI (by lia) _ hi;exact szT D0 D1 (D2 c)
   have ez:∀i,(ls.map λr=>r.getD P 0).getD i 0=cu ls i P:=λi=>Kl
   exists ⟨_,_,rfl,.inl (bN.of gu),?_⟩;rw[<- lu];exists ⟨by lia,by lia,?_⟩;refine ph (n:=ls.length) (λi ys H''=>aG H' H''/\ys=fU (MB (ls.map λr=>r.getD P 0) i)) (aZ (bC (by lia))) ⟨aG.refl _,rfl⟩ ?_ ?_
   ·rintro i ys Hb hi hlen ⟨sb,rfl⟩;rw[yT];obtain ⟨xt,vt,et,evt,mt,qt,rfl,nqt,Rt⟩:=il (Paired.imp' (λ_ _ z=>c4.same z sb) qu) hi;have wt:=wide xt (aw.mpr (.inr mt));obtain ⟨zs,gz,qz⟩:=id Rt;obtain ⟨vx,ex,nx⟩:=EL qz (j:=P) (by lia);have fx:(ls.map λr=>r.getD P 0).getD i 0=xt.getD P 0:=by rw[ez];unfold cu;rw[aa (l:=ls),et];rfl
    exists cB (bN.of (sb _ _ gu)) (fL evt) ?_;exists cB (bN.of gz) ex ?_;exists bU λt0 Hc sc gc=>?_
    exists ⟨_,_,GW,xt.getD P 0,0,by decide,nx.same sc,ck.mk (q:=0) gc rfl,?_⟩;by_cases e:xt.getD P 0=0
    ·rw[decide_eq_true e];exists ⟨sb.trans sc,?_⟩;rw[GK,fx,if_neg (by simpa using e)]
    ·rw[decide_eq_false e];exists ⟨sb.trans sc,?_⟩;rw[GK,fx,if_pos e];unfold fU;rw[cJ];rfl
   rintro ys Hb hy ⟨sb,rfl⟩ hd hhd;have nzm:∀c,c∈MB (ls.map λr=>r.getD P 0) ls.length↔c < ls.length/\cu ls c P≠0:=λc=>by rw[OK,ez]
   generalize MB (ls.map λr=>r.getD P 0) ls.length=hs at hy hhd nzm;have sn:aG Hb (upd Hb hd (.lst (fU hs))):=aG.new hhd;have gh:(upd Hb hd (.lst (fU hs))) hd=some (.lst (fU hs)):=aK;generalize upd Hb hd (.lst (fU hs))=Hc at sn gh ⊢;have sbc:=sb.trans sn;exists cW λem Hd sd nd gd=>?_
   exists ⟨_,_,Ku MF,Ad hs,Ad [],by decide,BF (sd _ _ gh),BF gd,?_⟩;have sbd:=sbc.trans sd;by_cases e0:hs=[]
   ·subst e0;rw[decide_eq_true rfl];exists ⟨s'.trans sbd,lp,fp,ls,fs,ps,vs,_,_,_,rfl,nlp,nfp,fl,GL.same sbd,sbd _ _ gv,Paired.imp' (λ_ _ z=>nG.same z sbd) pv,hf,jskip _ _ _ JI λi h1 h2=>?_⟩;rw[ak] at h2;obtain ⟨j,rfl⟩:∃j,i=fs.length+j:=⟨i - fs.length,by lia⟩;rw[uu];by_cases z:cu ls j P=0
    ·exact z
    ·exact absurd ((nzm j).mpr ⟨by lia,z⟩) (by simp)
   ·rw[decide_eq_false (λz=>e0 (Kw z))]
    obtain ⟨t,hs',rfl⟩:∃t hs',hs=t :: hs':=by cases hs with
     | nil=>exact absurd rfl e0
     | cons t r=>exact ⟨t,r,rfl⟩
    obtain ⟨tl,hne⟩:=(nzm t).mp (.head _);have gud:=sbd _ _ gu;obtain ⟨xt,vt,et,evt,mt,qt,rfl,nqt,Rt⟩:=il (Paired.imp' (λ_ _ z=>c4.same z sbd) qu) tl;have ext:ls.getD t []=xt:=by rw[aa,et];rfl
    have hne':xt.getD P 0≠0:=by unfold cu at hne;rw[ext] at hne;exact hne
    have wt:=wide xt (aw.mpr (.inr mt));have qtl:qt≠lp:=λz=>nu (by rw[<- z];exact ax evt)
    exists ⟨.inl ⟨rfl,_,bN.of gud⟩,?_⟩;exists cB (bN.of (sd _ _ gh)) (fL (j:=0) rfl) ?_;exists ⟨lp,us,t,t,_,rfl,rfl,gud,by lia,by lia,PySem.StrLaws.seqIndex_nonneg (by lia) (by lia),evt,?_⟩;have s0e:aG H (upd Hd lp (.lst (us.eraseIdx t))):=(s'.trans sbd).after nlp;obtain ⟨us',gu',pu'⟩:=(GL.same sbd).toE;have eus:us'=us:=by rw[gud] at gu';cases gu';rfl
    subst eus;have ple:Paired (nG K (λq=>H q=none/\q≠lp) (upd Hd lp (.lst (us'.eraseIdx t)))) (ls.eraseIdx t) (us'.eraseIdx t):=uL (Paired.imp' (λ_ _ z=>nG.updL z gud (λq h=>h.2)) pu') t;have gle:(upd Hd lp (.lst (us'.eraseIdx t))) lp=some (.lst (us'.eraseIdx t)):=aK;have gve:(upd Hd lp (.lst (us'.eraseIdx t))) fp=some (.lst vs):=by rw[bG fl];exact sbd _ _ gv
    have pve:Paired (nG K (λq=>(H q=none/\q≠fp)/\q≠lp) (upd Hd lp (.lst (us'.eraseIdx t)))) fs vs:=Paired.imp' (λ_ _ z=>nG.updL (nG.same z sbd) gud (λq h=>h.2)) pv;have Re:cv K (upd Hd lp (.lst (us'.eraseIdx t))) qt xt:=Rt.updL gud qtl;generalize upd Hd lp (.lst (us'.eraseIdx t))=He at s0e ple gle gve pve Re ⊢;clear pu' gu' gud Rt;have I2:=jlean _ _ _ _ _ JI hf tl hP (by rw[ext];exact hne');rw[ext] at I2
    have rowD:∀r∈fs++ls,∃D:Nat,0 < D/\D<=2^S/\∀c,Tp D (2^S) (r.getD c 0):=λr hr=>by
     obtain ⟨i,hi,rfl⟩:=bK hr;obtain ⟨D,D0,D1,D2⟩:=jsz _ _ _ JI (by lia) i (by rw[ak] at hi;lia);refine ⟨D,D0,D1,λc=>?_⟩;have:=D2 c;unfold cu at this;rw[aa (l:=fs++ls),af hi] at this;exact this
    have szr:∀r∈fs++ls,∀y∈r,kK y:=λr hr y hy=>by
     obtain ⟨D,D0,D1,D2⟩:=rowD r hr;obtain ⟨c,hc,rfl⟩:=bK hy;have:=D2 c;rw[aa,af hc] at this;exact szT D0 D1 this
    have mxt:xt∈fs++ls:=aw.mpr (.inr mt);have lu2:(nM P xt).length=n:=by unfold nM;rw[ar];exact wt
    obtain ⟨Du,Du0,Du1,Du2⟩:∃D:Nat,0 < D/\D<=2^S/\∀y∈nM P xt,Tp D (2^S) y:=by
     obtain ⟨D,D0,D1,D2⟩:=jsz _ _ _ I2 (by lia) ps.length (by lia);refine ⟨D,D0,D1,λy hy=>?_⟩;obtain ⟨c,hc,rfl⟩:=bK hy;have:=D2 c;rw[bV,show ps.length=(fs.map (z5 P (nM P xt))).length+0 by rw[ar];lia,uu] at this
     have e:cu ([nM P xt]++(ls.eraseIdx t).map (z5 P (nM P xt))) 0 c=(nM P xt)[c]:=by
      show (nM P xt).getD c 0=_
      rw[aa,af hc];rfl
     rw[e] at this;exact this
    have szu:∀y∈nM P xt,kK y:=λy hy=>szT Du0 Du1 (Du2 y hy)
    have szp:∀r∈fs++ls,∀y∈nM P xt,kK (r.getD P 0*y):=λr hr y hy=>by
     obtain ⟨D,D0,D1,D2⟩:=rowD r hr;exact szP D0 Du0 D1 Du1 (D2 P) (Du2 y hy)
    obtain ⟨zs,gz,qz⟩:=id Re;obtain ⟨vx,ex,nx⟩:=EL qz (j:=P) (by lia);have szx:kK (xt.getD P 0):=szr xt mxt _ (getD_in (by lia));exists bU λtq Hf sf gf=>?_
    exists cB (bN.of (sf _ _ gz)) ex ?_;exists ⟨_,_,1,xt.getD P 0,rfl,ck.mk (q:=1) gf rfl,nx.same sf,LD,szx,hne',λqr Hg sg nq=>?_⟩;have sfg:=sf.trans sg;exists ⟨_,qt,1 / xt.getD P 0,xt,rfl,nq,LF szx hne',Re.same sfg,by lia,szr xt mxt,λur Hh nur sh Rur=>?_⟩;have Rur:cv K Hh ur (nM P xt):=Rur;have seh:=sfg.trans sh;have s0h:=s0e.trans seh;have nur0:H ur=none:=(s0e.trans sfg).none nur;exists ⟨⟨_,bN.of (seh _ _ gle)⟩,?_⟩;refine dJ (K:=K) (F:=nG K (λq=>H q=none/\q≠lp)) (c4 K H) (z5 P (nM P xt)) (seh _ _ gle) (Paired.imp' (λ_ _ z=>nG.same z seh) ple) (by rw[NM tl];lia) (λa b=>a.same b) (λa b=>a.same b) ?_ ?_
    ·rintro i ns x Hi NY NN en si ⟨q,rfl,nq0,Rq⟩ k1;have mn:ns∈fs++ls:=aw.mpr (.inr (Pq (ax en)));have wn:=wide ns mn;obtain ⟨zs2,gz2,qz2⟩:=id Rq;obtain ⟨vx2,ex2,nx2⟩:=EL qz2 (j:=P) (by lia);exists cB (bN.of gz2) ex2 ?_;exists ⟨_,ur,ns.getD P 0,nM P xt,rfl,nx2,szr ns mn _ (getD_in (by lia)),Rur.same si,by lia,szu,λb1 Hj nb1 sj Rb=>?_⟩;exists ⟨q,b1,ns,_,rfl,Rq.same sj,Rb,by rw[ar];lia,by lia,szr ns mn,λy hy=>?_,λr2 Hk nr2 sk Rk=>?_⟩
     ·obtain ⟨y',hy',rfl⟩:=aD.mp hy;exact szp ns mn y' hy'
     ·exact k1 _ _ (sj.trans sk) ⟨r2,rfl,s0h.none (si.none (sj.none nr2)),Rk⟩
    rintro yl Hk lp2 hlp2 sk gk prk nxk;have s0k:=s0h.trans sk;have Gk:bJ K H Hk lp2 ((ls.eraseIdx t).map (z5 P (nM P xt))):=⟨yl,gk,prk,je nxk⟩;have Ruk:=Rur.same sk;exists ⟨⟨_,bN.of (sk _ _ (seh _ _ gve))⟩,?_⟩;refine dJ (K:=K) (F:=nG K (λq=>(H q=none/\q≠fp)/\q≠lp)) (c4 K Hk) (z5 P (nM P xt)) (sk _ _ (seh _ _ gve)) (Paired.imp' (λ_ _ z=>nG.same (nG.same z seh) sk) pve) (by lia) (λa b=>a.same b) (λa b=>a.same b) ?_ ?_
    ·rintro i ns x Hi NY NN en si ⟨q,rfl,nq0,Rq⟩ k1;have mn:ns∈fs++ls:=aw.mpr (.inl (ax en));have wn:=wide ns mn;obtain ⟨zs2,gz2,qz2⟩:=id Rq;obtain ⟨vx2,ex2,nx2⟩:=EL qz2 (j:=P) (by lia);exists cB (bN.of gz2) ex2 ?_;exists ⟨_,ur,ns.getD P 0,nM P xt,rfl,nx2,szr ns mn _ (getD_in (by lia)),Ruk.same si,by lia,szu,λb1 Hj nb1 sj Rb=>?_⟩;exists ⟨q,b1,ns,_,rfl,Rq.same sj,Rb,by rw[ar];lia,by lia,szr ns mn,λy hy=>?_,λr2 Hl nr2 sl Rl=>?_⟩
     ·obtain ⟨y',hy',rfl⟩:=aD.mp hy;exact szp ns mn y' hy'
     ·exact k1 _ _ (sj.trans sl) ⟨r2,rfl,si.none (sj.none nr2),Rl⟩
    rintro yf Hl fp2 hfp2 sl gl prl nxl;have lyf:=prl.length;rw[ar] at lyf;have nfp2:H fp2=none:=s0k.none hfp2;have nlp2:H lp2=none:=s0h.none hlp2;have fl2:fp2≠lp2:=λz=>by rw[z,gk] at hfp2;cases hfp2
    have urk:Hk ur≠none:=by obtain ⟨_,gg,_⟩:=Ruk;rw[gg];exact λz=>nomatch z
    have urf:ur≠fp2:=λz=>urk (by rw[z];exact hfp2)
    have url:ur≠lp2:=λz=>by obtain ⟨_,gg,_⟩:=Rur;rw[z,hlp2] at gg;cases gg
    exists ⟨.inl ⟨rfl,_,bN.of gl⟩,?_⟩;exists iD gl (bC (by lia)) ?_;refine ⟨(s0k.trans sl).after nfp2,lp2,fp2,_,_,ps++[P],_,_,_,_,rfl,nlp2,nfp2,fl2,?_,aK,?_,by rw[ak,ak,ar];show fs.length+1=ps.length+1;lia,I2⟩
    ·obtain ⟨ul,gul,pul⟩:=Gk.toE;refine bJ.ofE (P:=λq=>(H q=none/\q≠lp2)/\q≠fp2) (by rw[bG (Ne.symm fl2)];exact sl _ _ gul) (Paired.imp' (λ_ _ ⟨q,e1,e2,e3⟩=>?_) pul) (λq h=>h.1.1) (λq h=>h.1.2);have qf:q≠fp2:=λz=>by obtain ⟨_,gg,_⟩:=e3;rw[z,hfp2] at gg;cases gg
     exact ⟨q,e1,⟨e2,qf⟩,(cv.same e3 sl).updL gl qf⟩
    ·have nn:=je nxl;refine bP (qT (λxs v hv ⟨q,e1,e2,e3⟩=>?_) prl) (.cons ⟨ur,rfl,⟨⟨nur0,urf⟩,url⟩,(Ruk.same sl).updL gl urf⟩ .nil);have qf:q≠fp2:=λz=>nn (by rw[<- z,<- e1];exact hv)
     exact ⟨q,e1,⟨⟨s0k.none e2,qf⟩,λz=>by rw[z,gk] at e2;cases e2⟩,cv.updL e3 gl qf⟩
  ·rintro σ' H' ⟨s',lp,fp,ls,fs,ps,vs,y1,y2,y3,rfl,nlp,nfp,fl,GL,gv,pv,hf,JI⟩;have I:=jlw _ _ _ JI;have D:=I.done hw;rw[List.take_left' hf] at D;obtain ⟨km,_⟩:=I.km;exists k fp fs ps H' nfp s' (bJ.ofE gv pv (λq h=>h.1.1) (λq h=>h.1.2)) D km
theorem ma:bg ["_law_thing","_law_part"] ["_law_thing"] (aN jP):=by walk_at "d"
theorem uR (T:Txt K mg Z):cI P w K mg base fM 2 Z.nX Z.nQ ["_law_thing"] (Ij K):=by
 refine T.jD.F.ok ma (λvs H Q E h=>?_) (λcdv A outer s H vs Q E hr h=>?_)
 ·obtain ⟨x,n,rfl,_⟩:=h;rfl
 ·obtain ⟨x,n,rfl,⟨p,rfl,hp⟩,hn,k⟩:=h
  refine ⟨_,(av (cP (PW.pt (nJ (jv (gN (mi rfl T.isinstance PyProof.Rows.boot_tuple T.tuple (pv 0)))) (kF (bx uM (bA aX (by rfl) T.len aR (ae (pv 0) ag)) ao (bD _))))) (az (a7 pL)) bO)
   (av (dO PassesOwn.never rfl (J7 (pv 0)) (aT (i:=1) ma.nd)
    (az (cP (PW.pt (nJ (jv (gN (mi rfl T.isinstance PyProof.Rows.boot_int T.int (pv 1)))) (kF (gN (mi rfl T.isinstance PyProof.Rows.boot_bool T.bool (pv 1)))))) (az (a7 pL)) bO)))
   (az (a7 (wN (gO pM (aY bM (pv 0) ao) ao (bD _)) (wL (gO (zP (Dv hr)) (cG (gG T) hr T.eU (ae (aY bM (pv 0) ao) (ae (aY bM (pv 0) ao) ag))) (pv 0) (bD _)))))))),?_⟩
  refine aV (σ:=[some (.ref p),none]) rfl ?_;obtain ⟨hb,hg,_,hs⟩:=hn;exists .inr ⟨p,_,_,rfl,hp,rfl,?_⟩;exists ⟨_,_,rfl,.inr hp,?_⟩;walk_at "w"
  try refine Kv ?_
  exists ⟨⟨_,hp⟩,?_⟩;refine Dz (K:=K) (a:=p) (xs:=[.int n.1,.int n.2]) (λi σ' H'=>H'=H/\∃x,σ'=[some (.ref p),x]) ⟨rfl,none,rfl⟩ (λi σ' H' _ ⟨e,_⟩=>by subst e;exact hp) ?_ ?_
  ·rintro i x σ' H' hx ⟨rfl,y,rfl⟩
   obtain ⟨z,rfl⟩:∃z,x=V.int z:=by
    have hm:x∈[V.int n.1,V.int n.2]:=ax hx;simp only[aB,aU,or_false] at hm;rcases hm with e | e
    ·exact ⟨_,e⟩
    ·exact ⟨_,e⟩
   exists .inl ⟨_,_,.int z,rfl,?_⟩;exists .inl ⟨_,_,.int z,rfl,?_⟩;exists ⟨rfl,_,rfl⟩
  ·rintro σ' H' ⟨rfl,x,rfl⟩;walk_at "w";rw[decide_eq_true hb];exists ⟨n.1,n.2,rfl,hb,hs.mono (by decide),λr H' s1 h'=>?_⟩;obtain ⟨e1,e2⟩:=OO hb hg;exists ⟨_,_,Qs,(lo n.1 n.2,hi n.1 n.2),n,by decide,⟨r,rfl,jl.of h'⟩,⟨p,rfl,s1.sqt hp⟩,?_⟩;rw[e1,e2,decide_eq_true rfl];exact k _ s1
theorem zz:bg ["_law_thing","_law_many"] ["_law_thing","_law_many"] (aN mT):=by walk_at "d"
theorem qX (T:Txt K mg Z):cI P w K mg base fM 3 Z.tE Z.sX ["_law_thing","_law_many"] (wd K):=by
 refine T.jC.F.ok zz (λvs H Q E h=>?_) (λcdv A outer s H vs Q E hr h=>?_)
 ·obtain ⟨p,ns,rfl,_⟩:=h;rfl
 ·obtain ⟨p,ns,rfl,hp,hl,hn,k⟩:=h
  refine ⟨_,(av (cP (PW.pt (nJ (jv (gN (wM rfl T.isinstance PyProof.Rows.boot_list T.list (pv 0)))) (kF (bx uM (bA aX (by rfl) T.len aR (ae (pv 0) ag)) (pv 1) (bD _))))) (az (a7 pL)) bO)
   (az (a7 (bA (Ar rfl) (by rfl) T.all PyProof.Rows.boot_all (ae (cA ["_law_one"] [] [] (cE (pv 0)) (λ_=>(aT (i:=0) (show ND9 ["_law_one"] by decide +kernel))) (λ_=>cC) (λ_=>(cG (uR T) hr T.jD (ae (pv 0) ag)))) ag))))),?_⟩
  refine aV (σ:=[some (.ref p),some (.int ns.length)]) rfl ?_;obtain ⟨xs,gx,qx⟩:=id hp;have lx:=qx.length;exists ⟨_,_,.lst gx,rfl,?_⟩;exists ⟨_,_,rfl,.inl (bN.of gx),?_⟩;walk_at "w";rw[show ((xs.length:Nat):Int)=(ns.length:Nat) by rw[lx],decide_eq_true rfl];exists ⟨⟨_,bN.of gx⟩,?_⟩;refine fZ (K:=K) (xs:=xs) (λi ys H'=>aG H H'/\ys=List.replicate i (.bl true)) (aZ (bC (by lia))) ⟨aG.refl _,rfl⟩ (λi ys H' _ ⟨s,_⟩=>bN.of (s _ _ gx)) ?_ ?_
  ·rintro i x ys H' hx hlen ⟨s,rfl⟩;obtain ⟨n,en,z⟩:=cm qx hx;exists ⟨x,n,rfl,s.num z,hn n (ax en),λH2 s2=>⟨s.trans s2,by rw[Cp]⟩⟩
  ·rintro ys H' hy ⟨s,rfl⟩ l hl';exists ⟨l,List.replicate xs.length true,rfl,bN.of (by rw[aK];simp),?_⟩;have e4:(List.replicate xs.length true).all id=true:=by simp
   rw[e4];exact k _ (s.trans (aG.new hl'))
theorem qe:bg ["_law_parts_here","_law_start","_law_goal_here","_law_steps_here","_law_price","_law_row_here"] ["_law_parts_here","_law_start","_law_goal_here","_law_steps_here","_law_price"] (aN mR):=by walk_at "d"
theorem zU (T:Txt K mg Z):cI P w K mg base fM 6 Z.tz Z.sV ["_law_parts_here","_law_start","_law_goal_here","_law_steps_here","_law_price"] (zb K):=by
 refine T.lN.F.ok qe (λvs H Q E h=>?_) (λcdv A outer s H vs Q E hr h=>?_)
 ·obtain ⟨r,s,g0,p0,tt,H0,mv,pt,lk,st,go,pr,rfl,_⟩:=h;rfl
 ·obtain ⟨r,s,g0,p0,tt,H0,mv,pt,lk,st,go,pr,rfl,hT,PQ,D,Rs,ls,Rg,lg,Rp,lpr,PF,hz,h1,k⟩:=h
  refine ⟨_,(av (cP (jv (gN (cG (qX T) hr T.jC (ae (pv 4) (ae (bA aX (by rfl) T.len aR (ae (aY bM (pv 0) ao) ag)) ag))))) (az (a7 pL)) bO)
   (av (dO PassesOwn.never rfl (cE (cG (sO T) hr T.ke (ae (pv 0) (ae (pv 3) ag)))) (aT (i:=5) qe.nd)
    (az (cP (bx (C4 (Dv hr)) (cG (qY T) hr T.kv (ae (pv 4) (ae (pv 5) ag))) (cN (ae ao (ae ao ag))) (bD _)) (az (a7 pL)) bO)))
   (az (a7 (gO (zP (Dv hr)) (cG (qY T) hr T.kv (ae (pv 4) (ae (cG (j6 T) hr T.gV (ae (pv 2) (ae (cG (sN T) hr T.j9 (ae (pv 0) (ae (pv 1) (ae (pv 3) ag)))) ag))) ag))) (cN (ae ao (ae ao ag))) (bD _)))))),?_⟩
  refine aV (σ:=[some (.ref r),some (.ref s),some (.ref g0),some (.int tt),some (.ref p0),none]) rfl ?_;have d8:=D.n8;have i4:=D.i4;obtain ⟨m,p,l,g,n1,n2,n3,Gm,Gpt,Gl⟩:=id PQ;obtain ⟨um,gm,qm,_⟩:=id Gm;have lum:=qm.length;exists ⟨_,_,rfl,.inl (bN.of gm),?_⟩;rw[<- lum];exists ⟨p0,pr.map nm,by rw[ar,lpr],Rp.rowK,by rw[ar];lia,λv hv=>?_,λH2 s2=>?_⟩
  ·obtain ⟨v,mv',rfl⟩:=aD.mp hv;exact Jx (PF.sr v mv')
  exists ⟨r,tt,H0,mv,pt,lk,rfl,hT,PQ.same s2,D,PF.ad,λq H3 nq s3 Gq=>?_⟩;obtain ⟨us,gu,qu,_⟩:=id Gq;have wk:=fh (mv:=mv) (pt:=pt) rfl D.pw tt;have s03:=s2.trans s3;exists ⟨⟨_,bN.of gu⟩,?_⟩;refine fY (K:=K) (a:=q) (xs:=us) (λi σ' H'=>aG H3 H'/\∃x1,σ'=[some (.ref r),some (.ref s),some (.ref g0),some (.int tt),some (.ref p0),x1]) ⟨aG.refl _,_,rfl⟩ (λi σ' H' _ ⟨e,_⟩=>bN.of (e _ _ gu)) ?_ ?_
  ·rintro i v σ' H' hv ⟨e,x1,rfl⟩;obtain ⟨row,er,u,rfl,_,Ru⟩:=cm qu hv;have mr:=ax er;have wr:=wk row mr;have e3:=s03.trans e;have dz:dR pr row=0:=by rw[EO (by lia)];exact hz row mr
   exists ⟨p0,u,pr,row,rfl,Rp.same e3,cv.same Ru e,by lia,by lia,PF.f1 row mr,λd1 H4 s4 N4=>?_⟩;rw[dz] at N4;exists bU λt5 H5 s5 g5=>?_
   exists ⟨_,_,GW,0,0,by decide,N4.same s5,ck.mk (q:=0) g5 rfl,?_⟩;rw[decide_eq_true rfl];exists ⟨(e.trans s4).trans s5,_,rfl⟩
  ·rintro σ' H' ⟨e,x1,rfl⟩;have e3:=s03.trans e;exists ⟨r,s,tt,H0,mv,pt,lk,st,rfl,by lia,PQ.same e3,D,Rs.same e3,ls,PF.al,λal H4 n4 s4 R4=>?_⟩;have lpw:=iF (mv:=mv) ls tt;exists ⟨g0,al,go,_,rfl,(Rg.same e3).same s4,R4,by rw[lpw,lg],by lia,PF.sg,(PF.al.fit D.mw ls (aj _)).2,λlq H5 n5 s5 R5=>?_⟩;have R5:cv K H5 lq (eF mv tt st go):=R5;have ll:=rf (T:=tt) ls lg;have e5:=(e3.trans s4).trans s5;exists ⟨p0,lq,pr,_,rfl,Rp.same e5,R5,by lia,by lia,PF.f2,λd1 H6 s6 N6=>?_⟩;rw[h1] at N6;exists bU λt7 H7 s7 g7=>?_
   exists ⟨_,_,GW,1,1,by decide,N6.same s7,ck.mk (q:=1) g7 rfl,?_⟩;rw[decide_eq_true rfl];exact k _ ((e5.trans s6).trans s7)
theorem yx:bg ["_law_thing","_law_many","_law_wide"] ["_law_thing","_law_many","_law_wide"] (aN lC):=by walk_at "d"
theorem yy (T:Txt K mg Z):cI P w K mg base fM 4 Z.rD Z.rz ["_law_thing","_law_many","_law_wide"] (zi K):=by
 refine T.kG.F.ok yx (λvs H Q E h=>?_) (λcdv A outer s H vs Q E hr h=>?_)
 ·obtain ⟨p,rows,m,rfl,_⟩:=h;rfl
 ·obtain ⟨p,rows,m,rfl,hp,hl,hm,hn,k⟩:=h
  refine ⟨_,(av (cP (PW.pt (nJ (jv (gN (wM rfl T.isinstance PyProof.Rows.boot_list T.list (pv 0)))) (kF (bx uM (bA aX (by rfl) T.len aR (ae (pv 0) ag)) (pv 1) (bD _))))) (az (a7 pL)) bO)
   (az (a7 (bA (Ar rfl) (by rfl) T.all PyProof.Rows.boot_all (ae (cA ["_law_row_here"] ["_law_wide"] [2] (cE (pv 0)) (λ_=>(aT (i:=0) (show ND9 ["_law_row_here","_law_wide"] by decide +kernel))) (λ_=>cC) (λ_=>(cG (qX T) hr T.jC (ae (pv 0) (ae (pv 1) ag))))) ag))))),?_⟩
  refine aV (σ:=[some (.ref p),some (.int rows.length),some (.int m)]) rfl ?_;obtain ⟨xs,gx,qx⟩:=id hp;have lx:=qx.length;exists ⟨_,_,.lst gx,rfl,?_⟩;exists ⟨_,_,rfl,.inl (bN.of gx),?_⟩;walk_at "w";rw[show ((xs.length:Nat):Int)=(rows.length:Nat) by rw[lx],decide_eq_true rfl];exists ⟨⟨_,bN.of gx⟩,?_⟩;refine fZ (K:=K) (xs:=xs) (λi ys H'=>aG H H'/\ys=List.replicate i (.bl true)) (aZ (bC (by lia))) ⟨aG.refl _,rfl⟩ (λi ys H' _ ⟨s,_⟩=>bN.of (s _ _ gx)) ?_ ?_
  ·rintro i x ys H' hx hlen ⟨s,rfl⟩;obtain ⟨ns,en,q,rfl,z⟩:=cm qx hx;obtain ⟨e1,e2⟩:=hn ns (ax en);exists ⟨q,ns,by rw[e1],z.same s,by lia,e2,λH2 s2=>⟨s.trans s2,by rw[Cp]⟩⟩
  ·rintro ys H' hy ⟨s,rfl⟩ l hl';exists ⟨l,List.replicate xs.length true,rfl,bN.of (by rw[aK];simp),?_⟩;have e4:(List.replicate xs.length true).all id=true:=by simp
   rw[e4];exact k _ (s.trans (aG.new hl'))
theorem AO:bg ["_law_parts_here","_law_start","_law_goal_here","_law_steps_here","_law_puts_here"] ["_law_parts_here","_law_start","_law_goal_here","_law_steps_here","_law_puts_here"] (aN oJ):=by walk_at "d"
theorem AY (T:Txt K mg Z):cI P w K mg base fM 7 Z.vO Z.vz ["_law_parts_here","_law_start","_law_goal_here","_law_steps_here","_law_puts_here"] (Bn K):=by
 refine T.nD.F.ok AO (λvs H Q E h=>?_) (λcdv A outer s H vs Q E hr h=>?_)
 ·obtain ⟨r,s,g0,p0,tt,H0,H1,mv,pt,lk,pus,st,go,rfl,_⟩:=h;rfl
 ·obtain ⟨r,s,g0,p0,tt,H0,H1,mv,pt,lk,pus,st,go,rfl,hT,PQ,D,Rs,ls,Rg,Gp,lp,wp,EF,est,k⟩:=h
  refine ⟨_,(av (cP (jv (gN (cG (yy T) hr T.kG (ae (pv 4) (ae (pv 3) (ae (bA aX (by rfl) T.len aR (ae (aY bM (pv 0) ao) ag)) ag)))))) (az (a7 pL)) bO)
   (az (a7 (gO (zP (Dv hr)) (cG (xp T) hr T.mo (ae (pv 0) (ae (pv 1) (ae (pv 4) ag)))) (pv 2) (bD _))))),?_⟩
  refine aV (σ:=[some (.ref r),some (.ref s),some (.ref g0),some (.int tt),some (.ref p0)]) rfl ?_;have i4:=D.i4;obtain ⟨m,p,l,g,n1,n2,n3,Gm,Gpt,Gl⟩:=id PQ;obtain ⟨up,gp,qp,_⟩:=id Gpt;have lup:=qp.length;have lm1:(pus.map (List.map nm)).length=tt:=by rw[ar];exact lp
  exists ⟨_,_,rfl,.inl (bN.of gp),?_⟩;rw[<- lup];exists ⟨p0,_,pt.length,by rw[lm1],Gp.gridK,by rw[lm1];lia,by lia,λns' hx=>?_,λH2 s2=>?_⟩
  ·obtain ⟨xs,mx,rfl⟩:=aD.mp hx;refine ⟨by rw[ar];exact wp xs mx,λv hv=>?_⟩;obtain ⟨v,mv',rfl⟩:=aD.mp hv;exact Jx (EF.sznP xs mx v mv')
  exists ⟨r,s,p0,H0,H1,mv,pt,lk,pus,st,rfl,PQ.same s2,D,Rs.same s2,ls,Gp.same s2,by lia,wp,EF,λt3 H3 n3' s3 R3=>?_⟩;rw[lp,est] at R3;exists ⟨_,_,EK,go,go,by decide,R3.kind,((Rg.same s2).same s3).kind,?_⟩;rw[decide_eq_true rfl];exact k _ (s2.trans s3)
theorem gR:bg ["_law_system_here","_law_parts_here","_law_start","_law_goal_here","_law_steps_here","_law_handed","_law_found","_law_rows","_law_lack","_law_n"] ["_law_system_here","_law_parts_here","_law_start","_law_goal_here","_law_steps_here"] (aN oF):=by walk_at "d"
theorem AW (T:Txt K mg Z):cI P w K mg base fM 9 Z.vK Z.vp ["_law_system_here","_law_parts_here","_law_start","_law_goal_here","_law_steps_here"] (y8 K Z.a_System):=by
 refine T.nv.F.ok gR (λvs H Q E h=>?_) (λcdv A outer s H vs Q E hr h=>?_)
 ·obtain ⟨x,r,s,g,tt,a,c,H0,H1,mv,pt,lk,st,go,rfl,_⟩:=h;rfl
 ·obtain ⟨x,r,s,g,tt,a,c,H0,H1,mv,pt,lk,st,go,rfl,hT,S,PQ,D,SF,F,Rs,ls,Rg,lg,SO,X,k⟩:=h
  refine ⟨_,(av (a8 (i:=5) gR.nd rfl (Or.inl rfl) (df (ae (dI (eV K (by rfl)) (by rfl) T.list PyProof.Rows.boot_list (ae (pv 2) ag)) (ae (dI (eV K (by rfl)) (by rfl) T.list PyProof.Rows.boot_list (ae (pv 3) ag)) ag))))
   (av (a8 (i:=6) gR.nd rfl (Or.inl rfl) (cG (C8 T) hr T.uV (ae (pv 0) (ae (aY (fW K (by rfl)) (pv 5) ao) (ae (aY (fW K (by rfl)) (pv 5) ao) (ae (pv 4) ag))))))
   (av (cP (PW.pt (nJ (jv (gN (mi rfl T.isinstance PyProof.Rows.boot_tuple T.tuple (pv 6)))) (nJ (bx uM (bA aX (by rfl) T.len aR (ae (pv 6) ag)) ao (bD _)) (kF (bx (C4 (Dv hr)) (pv 5) (df (ae (pv 2) (ae (pv 3) ag))) (bD _)))))) (az (a7 pL)) bO)
   (av (a8 (i:=7) gR.nd rfl (Or.inl rfl) (cG (sO T) hr T.ke (ae (pv 1) (ae (pv 4) ag))))
   (av (a8 (i:=8) gR.nd rfl (Or.inl rfl) (cG (j6 T) hr T.gV (ae (pv 3) (ae (cG (sN T) hr T.j9 (ae (pv 1) (ae (pv 2) (ae (pv 4) ag)))) ag))))
   (av (a8 (i:=9) gR.nd rfl (Or.inl rfl) (bA aX (by rfl) T.len aR (ae (aY bM (pv 1) ao) ag)))
   (av (cP (bx pM (bA aX (by rfl) T.len aR (ae (cG (uQ T) hr T.kS (ae (bH i8 (pv 7) (df (ae (pv 8) ag))) (ae (pv 9) ag))) ag)) (bA aX (by rfl) T.len aR (ae (cG (uQ T) hr T.kS (ae (pv 7) (ae (pv 9) ag))) ag)) (bD _)) (az (a7 (wN (gO eJ (aY bM (pv 6) ao) mV (bD _)) (wL (cG (zU T) hr T.lN (ae (pv 1) (ae (pv 2) (ae (pv 3) (ae (pv 4) (ae (aY bM (pv 6) ao) ag)))))))))) bO)
   (az (a7 (wN (gO eJ (aY bM (pv 6) ao) mV (bD _)) (wL (cG (AY T) hr T.nD (ae (pv 1) (ae (pv 2) (ae (pv 3) (ae (pv 4) (ae (aY bM (pv 6) ao) ag))))))))))))))))),?_⟩
  refine aV (σ:=[some (.ref x),some (.ref r),some (.ref s),some (.ref g),some (.int tt),none,none,none,none,none]) rfl ?_;have d8:=D.n8;have i4:=D.i4;obtain ⟨zs,gz,qz⟩:=id Rs;obtain ⟨ys,gy,qy⟩:=id Rg;exists ⟨s,zs,rfl,.inl (bN.of gz),λc1 hc1=>?_⟩;have s1:aG H (upd H c1 (.lst zs)):=aG.new hc1;have R1:cv K (upd H c1 (.lst zs)) c1 st:=⟨zs,aK,Paired.imp' (λ_ _ z=>z.same s1) qz⟩;generalize upd H c1 (.lst zs)=H2 at s1 R1 ⊢;exists ⟨g,ys,rfl,.inl (bN.of (s1 _ _ gy)),λc2 hc2=>?_⟩;have s2:aG H2 (upd H2 c2 (.lst ys)):=aG.new hc2;have R2:cv K (upd H2 c2 (.lst ys)) c2 go:=⟨ys,aK,Paired.imp' (λ_ _ z=>z.same (s1.trans s2)) qy⟩;generalize upd H2 c2 (.lst ys)=H3 at s2 R2 ⊢;have s03:=s1.trans s2;exists cW λhd H4 s4 n4 g4=>?_
  have s04:=s03.trans s4;walk_at "w";obtain ⟨D0,W0,E0,W1,CT,_,_⟩:=id SO;refine ⟨x,c1,c2,tt,a,c,H0,mv,pt,lk,st,go,rfl,by lia,S.same s04,D,SF,F,(R1.same s2).same s4,ls,R2.same s4,lg,SO,λt5 p5 kd ed H5 g5 n5 s5 el CR=>?_⟩;have s05:=s04.trans s5;exists .inr ⟨t5,_,_,rfl,jl.of g5,rfl,?_⟩;exists ⟨_,_,rfl,.inr (jl.of g5),?_⟩;walk_at "w"
  try refine Kv ?_
  exists cW λsl H6 s6 n6 g6=>?_
  have s06:=s05.trans s6;exists ⟨_,_,Ku EK,[st,go],[st,go],by decide,⟨hd,_,rfl,bN.of ((s5.trans s6) _ _ g4),.cons (((R1.same s2).same s4).same (s5.trans s6)).kind (.cons ((R2.same s4).same (s5.trans s6)).kind .nil)⟩,⟨sl,_,rfl,bN.of g6,.cons (Rs.same s06).kind (.cons (Rg.same s06).kind .nil)⟩,?_⟩;rw[decide_eq_true rfl];have g56:=s6 _ _ g5;have el6:=el.same s6;exists ⟨r,tt,H1,mv,pt,lk,rfl,by lia,PQ.same s06,D,X.ad,λka H7 nka s7 G7=>?_⟩;have s07:=s06.trans s7;exists ⟨r,s,tt,H1,mv,pt,lk,st,rfl,by lia,PQ.same s07,D,Rs.same s07,ls,X.al,λal H8 nal s8 R8=>?_⟩;have s08:=s07.trans s8;have lw:=iF (mv:=mv) (t:=tt) ls;exists ⟨g,al,go,iG mv tt st,rfl,Rg.same s08,R8,by rw[lw,lg],by lia,CT.sg,(X.al.fit D.mw ls (aj _)).2,λlr H9 nlr s9 R9=>?_⟩;have s09:=s08.trans s9;have P9:=PQ.same s09;obtain ⟨m,p,l,gt,mn,pn,ln,Gm,Gp,Gl⟩:=id P9;obtain ⟨um,gm,qm,_⟩:=id Gm;have lum:=qm.length;exists ⟨_,_,rfl,.inl (bN.of gm),?_⟩;rw[<- lum];exists cW λl1 HA sA nA gA=>?_
  have s7A:=(s8.trans s9).trans sA;obtain ⟨us,gu,pu,_⟩:=G7.same s7A;have lu:=pu.length;have kl:=rO (mv:=mv) (pt:=pt) tt;have kb:tt*pt.length<=12*4:=aA hT i4;exists iX gu gA (aZ (bC (by rw[bo];lia))) λcc HB sB nB gB=>?_
  have qA:Paired (c4 K H6 HA) [eF mv tt st go] [V.ref lr]:=.cons ⟨lr,rfl,(s7.trans s8).none nlr,R9.same sA⟩ .nil;have GB:bJ K H6 HB cc (kry mv pt tt++[eF mv tt st go]):=⟨_,gB,Paired.imp' (λ_ _ z=>c4.same z sB) (bP pu qA),je ⟨HA,nB,bP pu qA⟩⟩;have wk:=fh (mv:=mv) rfl D.pw tt;have ll:=rf (T:=tt) ls lg;obtain ⟨SA,LA⟩:=X.lo;obtain ⟨SB,LB⟩:=X.lw;exists ⟨cc,mv.length,SA,H6,_,rfl,GB,by rw[ak,bo];lia,by lia,λxs hx=>?_,LA,λra RA pa HC nra sC GC RRA _=>?_⟩
  ·rcases aw.mp hx with hx | hx
   ·exact wk xs hx
   ·rw[bB.mp hx];exact ll
  obtain ⟨va,ga,qa,_⟩:=id GC;have lva:=qa.length;exists ⟨_,_,rfl,.inl (bN.of ga),?_⟩;rw[<- lva];have s7C:=(s7A.trans sB).trans sC;exists ⟨ka,mv.length,SB,H6,_,rfl,G7.same s7C,by lia,by lia,wk,LB,λrb RB pb HD nrb sD GD RRB _=>?_⟩;obtain ⟨vb,gb,qb,_⟩:=id GD;have lvb:=qb.length;exists ⟨_,_,rfl,.inl (bN.of gb),?_⟩;rw[<- lvb];have s7D:=s7C.trans sD;have s0D:=s07.trans s7D;have g5D:=(s7.trans s7D) _ _ g56;have elD:=el6.same (s7.trans s7D);have eA:=RRA.1;have eB:=RRB.1;rcases CR with ⟨rfl,pus,rfl,SA⟩ | ⟨rfl,pr,rfl,SB⟩
  ·obtain ⟨_,e5,_,Gp5⟩:=elD;cases e5;have e:=Ml RRB RRA (ME D ls lg SA.1 SA.2.1 SA.2.2.1);subst e;exists fX (λh0=>?_) (λh0=>?_)
   ·exfalso
    have:=of_decide_eq_true h0
    lia
   walk_at "w";rw[decide_eq_true rfl];exists ⟨r,s,g,p5,tt,H1,_,mv,pt,lk,pus,st,go,rfl,by lia,PQ.same s0D,D,Rs.same s0D,ls,Rg.same s0D,Gp5,SA.1,SA.2.1,SA.2.2.2.2,SA.2.2.1,λHE sE=>k HE (s0D.trans sE)⟩
  ·obtain ⟨_,e5,_,Rp5⟩:=elD;cases e5;have e:=JY RRB RRA wk ll SB.1 SB.2.1 SB.2.2.1;exists fX (λh0=>?_) (λh0=>?_)
   rotate_left
   ·exact absurd (decide_eq_true (show ((RB.length:Nat):Int) < (RA.length:Nat) by lia)) h0
   walk_at "w";rw[decide_eq_true rfl];exists ⟨r,s,g,p5,tt,H1,mv,pt,lk,st,go,pr,rfl,by lia,PQ.same s0D,D,Rs.same s0D,ls,Rg.same s0D,lg,Rp5,SB.1,SB.2.2.2.2,SB.2.1,SB.2.2.1,λHE sE=>k HE (s0D.trans sE)⟩
theorem jq:bg ["_law_script","_law_bag_here","_law_parts_here","_law_wide","_law_system_here","_law_steps_here","_law_start","_law_goal_here","_law_other","_law_found","_law_kept_here","_law_one","_law_count"] ["_law_script"] (aN JK):=by walk_at "d"
theorem OI (T:Txt K mg Z):cI P w K mg base fM 10 Z.ND Z.NB ["_law_script"] (zh K):=by
 refine T.NL.ok jq (λvs H Q E h=>?_) (λcdv A outer s H vs Q E hr h=>?_)
 ·obtain ⟨a,ns,rfl,_⟩:=h;rfl
 ·obtain ⟨a,ns,rfl,hS,hlen,k⟩:=h
  refine ⟨_,(av (a8 (i:=1) jq.nd rfl (Or.inl rfl) (cG (EB T) hr T.qZ (ae (pv 0) ag)))
   (av (fF (cG (zT T) hr T.lM (ae (pv 1) ag)) (t8 rfl (cQ (aT (i:=2) jq.nd) (cQ (aT (i:=3) jq.nd) iU))))
   (av (a8 (i:=4) jq.nd rfl (Or.inl rfl) (cG (Dj T) hr T.oZ (ae (pv 2) ag)))
   (av (a8 (i:=5) jq.nd rfl (Or.inl rfl) (cG (AS T) hr T.ni (ae (pv 1) (ae (pv 2) ag))))
   (iE (cP (PW.pt (iY (bx pM (bA aX (by rfl) T.len aR (ae (aY bM (pv 2) ao) ag)) ao (bD _)) (ju (bx eJ (cG (be T) hr T.aW (ae (pv 1) (ae ao ag))) ao (bD _))))) (az (a8 (i:=5) jq.nd rfl (Or.inl rfl) ao)) bO)
   (av (a8 (i:=6) jq.nd rfl (Or.inl rfl) (cG (ks T) hr T.gH (ae (pv 1) (ae (bA aX (by rfl) T.len aR (ae (aY bM (pv 2) ao) ag)) (ae (pv 3) ag)))))
   (av (a8 (i:=7) jq.nd rfl (Or.inl rfl) (cG (uS T) hr T.kT (ae (pv 1) (ae (pv 2) (ae (pv 6) (ae (pv 5) (ae (pv 3) ag)))))))
   (av (a8 (i:=8) jq.nd rfl (Or.inl rfl) (cG (uS T) hr T.kT (ae (pv 1) (ae (pv 2) (ae (pv 6) (ae (pv 5) (ae (pv 3) ag)))))))
   (av (a8 (i:=9) jq.nd rfl (Or.inl rfl) (cG (C8 T) hr T.uV (ae (pv 4) (ae (pv 6) (ae (pv 7) (ae (pv 5) ag))))))
   (av (a8 (i:=10) jq.nd rfl (Or.inl rfl) (cG (Dl T) hr T.d6 (ae (pv 9) ag)))
   (av (hZ (cG (AU T) hr T.fH (ae (pv 9) ag)))
   (av (dO PassesOwn.never rfl (cE (df (ae (cN (ae (pv 7) (ae (pv 5) ag))) (ae (cN (ae (pv 8) (ae (pv 5) ag))) (ae (cN (ae (pv 7) (ae (cG (be T) hr T.aW (ae (pv 1) (ae (bH ff (pv 5) ao) ag))) ag))) ag))))) (t8 rfl (cQ (aT (i:=11) jq.nd) (cQ (aT (i:=12) jq.nd) iU)))
    (az (cP (jv (gN (cG (AW T) hr T.nv (ae (pv 4) (ae (pv 2) (ae (pv 6) (ae (pv 11) (ae (pv 12) ag)))))))) (az (a7 pL)) bO)))
   (az (a7 (wN (gO (zP (Dv hr)) (cG (C8 T) hr T.uV (ae (pv 4) (ae (pv 6) (ae (pv 7) (ae (pv 5) ag))))) (pv 10) (bD _)) (wL (gO (zP (Dv hr)) (iZ (pv 4) rfl) (aY bM (pv 2) ao) (bD _)))))))))))))))))),?_⟩
  refine aV (σ:=[some (.ref a),none,none,none,none,none,none,none,none,none,none,none,none]) rfl ?_;exists ⟨a,ns,rfl,hS,hlen,λb H0 hb0 B0 s0=>?_⟩;exists ⟨b,rfl,B0,λt r w a' c mv pt lk H1 g1 P1 D F KF RG w1 w2 B1 u1=>?_⟩;have d8:=D.n8;have d4:=D.i4;exists ⟨r,H0,mv,pt,lk,rfl,P1,D,F.sf,λx H2 nx s2 S2=>?_⟩;replace S2:kX K H0 H2 Z.a_System x mv pt lk:=S2.weakN λq h=>u1.none B1 h
  replace P1:=P1.same s2;have B2:=B1.same s2
  have szE:∀xs∈mv++pt,∀x∈xs,kK x:=λxs hx y hy=>by
   obtain ⟨M,V,h0,h1,h2,f1,f2,_⟩:=F;refine MH h0 (ai h1 (au (by decide) (by decide))) (ai h2 (au (by decide) (by decide))) ?_;rcases aw.mp hx with hx | hx
   ·exact f1 xs hx y hy
   ·exact f2 xs hx y hy
  exists ⟨b,r,H0,mv,pt,lk,rfl,B2,B0.at,P1,D,szE,λtt H3 hT B3 u3=>?_⟩;clear szE;replace P1:=P1.upto u3 B2 B0.at;replace S2:=S2.upto u3 B2 B0.at
  have lenP:∀H',eh K H0 H' r mv pt lk->∃m p l um,H' r=some (.tup [.ref m,.ref p,.ref l])/\H' m=some (.lst um)/\um.length=mv.length:=λH' P=>by
   obtain ⟨m,p,l,gt,_,_,_,Gm,_,_⟩:=P;obtain ⟨um,gm,qm,_⟩:=Gm;exact ⟨m,p,l,um,gt,gm,qm.length.symm⟩
  exists ⟨λσ' H'=>ig H' b/\cT b H3 H'/\∃tt,QI mv pt tt/\σ'=[some (.ref a),some (.ref b),some (.ref r),some (.int w),some (.ref x),some (.int ((tt:Nat):Int)),none,none,none,none,none,none,none],?_,?_⟩
  ·obtain ⟨m3,p3,l3,um3,gt3,gm3,lum3⟩:=lenP _ P1;exists ⟨_,_,rfl,.inl (bN.of gm3),?_⟩;rw[lum3];exists fX (λh0=>?_) (λh0=>?_)
   ·have n6:5 < mv.length:=by have:=of_decide_eq_true h0;lia
    exists ⟨b,4,rfl,B3,by decide,by decide,λv H4 v0 v1 B4 u4=>?_⟩;exists fX (λh1=>?_) (λh1=>?_)
    ·exists ⟨B4,u4,12,⟨by decide,.inr n6⟩,rfl⟩
    ·exists ⟨B4,u4,tt,⟨hT.1,.inl hT⟩,rfl⟩
   ·exists ⟨B3,cT.refl _,tt,⟨hT.1,.inl hT⟩,rfl⟩
  clear hT tt;rintro σ' H4 ⟨B4,u4,tt,hT,rfl⟩;have t12:=hT.1;obtain ⟨M1,M2,Vx,a1,a2,cc,b1,b2,U,Z42'⟩:=P8 RG D hT;replace P1:=P1.upto u4 B3 B0.at;replace S2:=S2.upto u4 B3 B0.at;obtain ⟨m4,p4,l4,um4,gt4,gm4,lum4⟩:=lenP _ P1;exists ⟨_,_,rfl,.inl (bN.of gm4),?_⟩;rw[lum4];clear gt4 gm4 lum4;exists ⟨b,mv.length,w,rfl,B4,by lia,w1,by lia,λsa st H5 nsa Ra la da B5 u5=>?_⟩;have sab:sa≠b:=λz=>B4.at (by rw[<- z];exact nsa)
  replace P1:=P1.upto u5 B4 B0.at;replace S2:=S2.upto u5 B4 B0.at;exists ⟨b,r,sa,tt,w,H0,mv,pt,lk,st,rfl,by lia,w1,w2,B5,B0.at,P1,D,Ra,sab,la,λpus dp=>U.enf D la da (aj _) dp,λg go H6 ng Rg lg GP B6 u6=>?_⟩;have gb:g≠b:=λz=>B5.at (by rw[<- z];exact ng)
  replace P1:=P1.upto u6 B5 B0.at;replace S2:=S2.upto u6 B5 B0.at;replace Ra:=Ra.upto u6 B5 sab;exists ⟨b,r,sa,tt,w,H0,mv,pt,lk,st,rfl,by lia,w1,w2,B6,B0.at,P1,D,Ra,sab,la,λpus dp=>U.enf D la da (aj _) dp,λot to H7 nt Rt lt GPt B7 u7=>?_⟩;have otb:ot≠b:=λz=>B6.at (by rw[<- z];exact nt)
  replace P1:=P1.upto u7 B6 B0.at;replace S2:=S2.upto u7 B6 B0.at;replace Ra:=Ra.upto u7 B6 sab;replace Rg:=Rg.upto u7 B6 gb;have GB:=U.gob D la lg da (aj _) GP;have GT:=U.gob D la lt da (aj _) GPt;have SG:∀u,u<=tt->O6 mv pt st go u (NH mv pt st go u) (NG mv pt st go u):=λu hu=>GB.soo U D la hu
  have ST:∀u,u<=tt->O6 mv pt st to u (NH mv pt st to u) (NG mv pt st to u):=λu hu=>GT.soo U D la hu
  have XG:∀u,u<=tt->QF mv pt st go u:=λu hu=>GB.x42 U Z42' D la lg hu
  have XT:∀u,u<=tt->QF mv pt st to u:=λu hu=>GT.x42 U Z42' D la lt hu
  exists ⟨x,sa,g,tt,a',c,H0,mv,pt,lk,st,go,rfl,by lia,S2,D,F,KF,Ra,la,Rg,lg,SG tt (aj _),λft fp kd ed H8 gft nfp s8 el CR=>?_⟩;have oke:=CR.ok d8 d4 t12;exists ⟨_,rfl,.inr (.inr (.inr (.inr ⟨by decide,ft,_,H7,[.fl (.str kd),ed],rfl,jl.of gft,.cons rfl (.cons el .nil),by simp,λd hd=>?_,λkt yk H9 s9 gkt pk=>?_⟩)))⟩
  ·simp only[aB,aU,or_false] at hd;rcases hd with rfl | rfl
   ·rfl
   ·exact oke
  exists ⟨_,rfl,.inr (.inr (.inr (.inr ⟨by decide,ft,_,[(.fl (.str kd),λ_=>False),(ed,λa=>H7 a=none/\H8 a≠none)],rfl,jl.of (s9 _ _ gft),.cons rfl (.cons (yP.elW el s9) .nil),by simp,λe he=>?_,λi j e e' hij hi hj a h1 h2=>?_,λHA kA=>?_⟩)))⟩
  ·simp only[aB,aU,or_false] at he;rcases he with rfl | rfl
   ·rfl
   ·exact oke
  ·have j3:j < 2:=(aE.mp hj).1;obtain ⟨rfl,rfl⟩:i=0/\j=1:=by lia
   cases hi;exact h2
  have nW:∀a,H7 a≠none->¬∃e∈([(.fl (.str kd),λ_=>False),(ed,λa=>H7 a=none/\H8 a≠none)]:List (Ed×(Addr->Prop))),e.2 a:=λa ha ⟨e,he,z⟩=>by
   simp only[aB,aU,or_false] at he;rcases he with rfl | rfl
   ·exact z
   ·exact ha z.1
  have nW3:∀a,H8 a=none->¬∃e∈([(.fl (.str kd),λ_=>False),(ed,λa=>H7 a=none/\H8 a≠none)]:List (Ed×(Addr->Prop))),e.2 a:=λa ha ⟨e,he,z⟩=>by
   simp only[aB,aU,or_false] at he;rcases he with rfl | rfl
   ·exact z
   ·exact z.2 ha
  have s79:=s8.trans s9;have s7A:aG H7 HA:=λa o h=>kA a o (s79 a o h) (.inl (nW a (by rw[h];exact λz=>nomatch z)))
  have gktA:HA kt=some (.tup yk):=kA _ _ gkt (.inr λ_ z=>nomatch z);have pkA:Paired (yP K H8 HA) [.fl (.str kd),ed] yk:=Paired.imp' (λ_ _ z=>yP.kp z kA nW3) pk;clear kA nW nW3 pk gkt gft el;replace P1:=P1.same s7A;replace S2:=S2.same s7A;replace Ra:=Ra.same s7A;replace Rg:=Rg.same s7A;replace Rt:=Rt.same s7A;have BA:=B7.same s7A;have b8:H8 b≠none:=λz=>B7.at (s8.none z)
  exists bU λtA HB sB gA=>?_
  exists bU λtB HC sC gB=>?_
  have sAC:=sB.trans sC;have BC:=BA.same sAC;exists ⟨b,(tt:Int)+1,rfl,BC,by lia,by lia,λv18 HD v180 v181 BD uD=>?_⟩;obtain ⟨t18,rfl⟩:=bX v180;exists bU λtC HE sE gC=>?_
  exists cW λll HF sF nF gF=>?_
  have sDF:=sE.trans sF;have uAF:cT b HA HF:=(sAC.upto.trans uD).same sDF;have gA20:=sDF _ _ (uD.tup BC (sC _ _ gA));have gB20:=sDF _ _ (uD.tup BC gB);have gC20:=sF _ _ gC;replace P1:=P1.upto uAF BA B0.at;replace S2:=S2.upto uAF BA B0.at;replace Ra:=Ra.upto uAF BA sab;replace Rg:=Rg.upto uAF BA gb;replace Rt:=Rt.upto uAF BA otb;have gktF:=uAF.tup BA gktA;have pkF:Paired (yP K H8 HF) [.fl (.str kd),ed] yk:=Paired.imp' (λ_ _ z=>yP.upto z uAF BA b8) pkA;clear gA gB gC pkA gktA;have t18T:t18<=tt:=by lia
  exists ⟨⟨_,bN.of gF⟩,?_⟩;refine fY (K:=K) (a:=ll) (xs:=[V.ref tA,V.ref tB,V.ref tC]) (λi σ' H'=>aG HF H'/\∃y1 y2,σ'=[some (.ref a),some (.ref b),some (.ref r),some (.int w),some (.ref x),some (.int ((tt:Nat):Int)),some (.ref sa),some (.ref g),some (.ref ot),some (.ref ft),some (.ref kt),y1,y2]) ⟨aG.refl _,_,_,rfl⟩ (λi σ' H' _ ⟨s',_⟩=>bN.of (s' _ _ gF)) ?_ ?_
  ·rintro i v σ' Hi hv ⟨si,y1,y2,rfl⟩;have hm:=ax hv;simp only[aB,aU,or_false] at hm
   obtain ⟨tv,q,u,rfl,gT,h⟩:∃tv q u,v=V.ref tv/\HF tv=some (.tup [.ref q,.int ((u:Nat):Int)])/\u<=tt/\∃gg,cv K HF q gg/\gg.length=mv.length/\O6 mv pt st gg u (NH mv pt st gg u) (NG mv pt st gg u)/\QF mv pt st gg u:=by
    rcases hm with e | e | e
    ·exact ⟨tA,g,tt,e,gA20,aj _,go,Rg,lg,SG _ (aj _),XG _ (aj _)⟩
    ·exact ⟨tB,ot,tt,e,gB20,aj _,to,Rt,lt,ST _ (aj _),XT _ (aj _)⟩
    ·exact ⟨tC,g,t18,e,gC20,t18T,go,Rg,lg,SG _ t18T,XG _ t18T⟩
   obtain ⟨hu,gg,Rq,lq,Sq,Xq⟩:=h;have gTi:=si _ _ gT;exists ⟨x,r,sa,q,u,a',c,H0,H0,mv,pt,lk,st,gg,rfl,by lia,S2.same si,P1.same si,D,F,KF,Ra.same si,la,Rq.same si,lq,Sq,Xq,λHj sj=>?_⟩;exists ⟨si.trans sj,_,_,rfl⟩
  rintro σ' Hi ⟨si,y1,y2,rfl⟩;have pki:=Paired.imp' (λ_ _ z=>yP.same z si) pkF;have gki:=si _ _ gktF;exists ⟨x,sa,g,tt,a',c,H0,mv,pt,lk,st,go,rfl,by lia,S2.same si,D,F,KF,Ra.same si,la,Rg.same si,lg,SG tt (aj _),λft2 fp2 kd2 ed2 Hj gft2 nfp2 sj el2 CR2=>?_⟩;obtain ⟨rfl,rfl⟩:=CR2.uniq CR;have sij:=si.trans sj
  obtain ⟨kp,rfl,ekp⟩:∃kp,yk=[V.str kd2,kp]/\yP K H8 Hj ed2 kp:=by
   cases pki with
   | cons h1 t=>cases t with
    | cons h2 t' =>
     cases t';obtain rfl:=h1;exact ⟨_,rfl,h2.same sj⟩
  have gkj:=sj _ _ gki;have fin:∀Hk,aG Hj Hk->True:=λ_ _=>trivial
  obtain ⟨dx,am,ap,al,gx,_,_,_,_,Gpx,_⟩:=S2.same sij;obtain ⟨mz,pz,lz,gtz,_,_,_,_,Gpz,_⟩:=P1.same sij;walk_at "w";rcases CR with ⟨rfl,pus,rfl,_⟩ | ⟨rfl,pr,rfl,_⟩
  ·obtain ⟨_,e2,_,G2⟩:=el2;cases e2;obtain ⟨kq,rfl,_,Gk⟩:=ekp;refine ⟨_,_,Nr Qr Dt,(_,pus),(_,pus),by decide,⟨ft2,_,_,rfl,jl.of gft2,rfl,G2.kind⟩,⟨kt,_,_,rfl,jl.of gkj,rfl,Gk.kind⟩,?_⟩;rw[decide_eq_true rfl];exists ⟨x,Z.a_System,dx,_,_,rfl,gx,T.cl_System,T.na_put,uy,?_⟩;exists ⟨_,_,Dt,_,_,by decide,Gpx.kind,Gpz.kind,?_⟩;rw[decide_eq_true rfl];exact k _
  ·obtain ⟨_,e2,_,R2⟩:=el2;cases e2;obtain ⟨kq,rfl,_,Rk⟩:=ekp;refine ⟨_,_,Nr Qr EK,(_,pr),(_,pr),by decide,⟨ft2,_,_,rfl,jl.of gft2,rfl,R2.kind⟩,⟨kt,_,_,rfl,jl.of gkj,rfl,Rk.kind⟩,?_⟩;rw[decide_eq_true rfl];exists ⟨x,Z.a_System,dx,_,_,rfl,gx,T.cl_System,T.na_put,uy,?_⟩;exists ⟨_,_,Dt,_,_,by decide,Gpx.kind,Gpz.kind,?_⟩;rw[decide_eq_true rfl];exact k _
end
theorem ln1 {P:List Value->Prop} (h:∀x0,P [x0]):∀us:List Value,us.length=1->P us
 | [x0],_=>h x0
theorem ln2 {P:List Value->Prop} (h:∀x0 x1,P [x0,x1]):∀us:List Value,us.length=2->P us
 | [x0,x1],_=>h x0 x1
theorem ln3 {P:List Value->Prop} (h:∀x0 x1 x2,P [x0,x1,x2]):∀us:List Value,us.length=3->P us
 | [x0,x1,x2],_=>h x0 x1 x2
theorem ln4 {P:List Value->Prop} (h:∀x0 x1 x2 x3,P [x0,x1,x2,x3]):∀us:List Value,us.length=4->P us
 | [x0,x1,x2,x3],_=>h x0 x1 x2 x3
theorem ln5 {P:List Value->Prop} (h:∀x0 x1 x2 x3 x4,P [x0,x1,x2,x3,x4]):∀us:List Value,us.length=5->P us
 | [x0,x1,x2,x3,x4],_=>h x0 x1 x2 x3 x4
local macro_rules | `(tactic| walk_at "b") => `(tactic| (intro _ _ _ _ _ _; first | (refine ln1 ?_; intros; rfl) | (refine ln2 ?_; intros; rfl) | (refine ln3 ?_; intros; rfl) | (refine ln4 ?_; intros; rfl) | (refine ln5 ?_; intros; rfl)))
theorem all_mk {l:W.OpenLaw} {w:World} {K:W.Frag} {h:Heap} {mg:Str->Option Value} {fa:Addr} {f0 f1 f2 f3 f4 f5 f6 f7 f8 f9 f10 f11 f12 f13 f14 f15 f16 f17 f18 f19 f20 f21 f23 f24 f25 f26 f27 f28 f29 f30 f31 f32 f33 f34 f35 f36 f37 f38 f39 f40 f41 f42 f43 f44 f45 f46 f47 f48 f49 f50 f51 f52 f53 f55 f56 f57 f58 f59 f60 f61 f62 f63 f64 f65 f66 f67 f68 f69 f70 f71 f72 f73 f74:Addr} {e0 e1 e2 e3 e4 e5 e6 e7 e8 e9 e10 e11 e12 e13 e14 e15 e16 e17 e18 e19 e20 e21 e23 e24 e25 e26 e27 e28 e29 e30 e31 e32 e33 e34 e35 e36 e37 e38 e39 e40 e41 e42 e43 e44 e45 e46 e47 e48 e49 e50 e51 e52 e53 e55 e56 e57 e58 e59 e60 e61 e62 e63 e64 e65 e66 e67 e68 e69 e70 e71 e72 e73 e74:FuncData}
  {f22 f54:Addr} {od22 od54 an22 an54:Option Addr} {sl22 sl54:Array (Option Value)} {oc22 oc54 kV22 kV54 dc22 dc54 pm22 pm54 cd22 cd54 ct22 ct54:Value}
  (X:K.In h) (G:h.Ns mainGlobals mg) (hfa:mg "law"=some (.ref fa))
  {C:Addr} (aC:W.nsIn K mainGlobals "System"=some (some (.ref C)))
  (h0:Dh K "_law_bag" tY f0 e0)
  (h1:Dh K "_law_take" qC f1 e1)
  (h2:Dh K "_law_sizes" kM f2 e2)
  (h3:Dh K "_law_line" qK f3 e3)
  (h4:Dh K "_law_low" tU f4 e4)
  (h5:Dh K "_law_sum" tS f5 e5)
  (h6:Dh K "_law_plus" qG f6 e6)
  (h7:Dh K "_law_prod" qF f7 e7)
  (h8:Dh K "_law_by" wH f8 e8)
  (h9:Dh K "_law_mixed" oH f9 e9)
  (h10:Dh K "_law_two_lines" jO f10 e10)
  (h11:Dh K "_law_number" mS f11 e11)
  (h12:Dh K "_law_row" tT f12 e12)
  (h13:Dh K "_law_move" qI f13 e13)
  (h14:Dh K "_law_parts" oG f14 e14)
  (h15:Dh K "_law_system" mQ f15 e15)
  (h16:Dh K "want_list" qh f16 e16)
  (h17:Dh K "is_whole" tR f17 e17)
  (h18:Dh K "common_divisor" jN f18 e18)
  (h19:Dh K "is_number" qq f19 e19)
  (h20:Dh K "is_row" zD f20 e20)
  (h21:Dh K "copied_rows" mP f21 e21)
  (a22:W.findIn K (.ref C) "__init__"=some (some (.ref f22))) (i22:W.isFn K (.ref f22)=true) (l22:K.lookup f22=some ⟨oc22,od22,.func (W.fnOf "__init__" "System.__init__" (kW eC) (jE eC) (aN eC) .none kV22 dc22 pm22 an22 cd22 ct22),sl22⟩) (c22:W.codeIn K cd22 "System.__init__"=true) (k22:W.keepIn K (.ref f22)=true)
  (h23:Dh K "_law_copied" mU f23 e23)
  (h24:Dh K "_law_made" qJ f24 e24)
  (h25:Dh K "_law_steps" oC f25 e25)
  (h26:Dh K "_law_dot" tW f26 e26)
  (h27:Dh K "_law_on" wG f27 e27)
  (h28:Dh K "_law_next" qH f28 e28)
  (h29:Dh K "_law_end" tV f29 e29)
  (h30:Dh K "_law_puts" qE f30 e30)
  (h31:Dh K "_law_goal" qO f31 e31)
  (h32:Dh K "tops_over" qi f32 e32)
  (h33:Dh K "common_multiple" jt f33 e33)
  (h34:Dh K "common_bottom" kE f34 e34)
  (h35:Dh K "first_with" oA f35 e35)
  (h36:Dh K "cleared" wF f36 e36)
  (h37:Dh K "brought_up" oB f37 e37)
  (h38:Dh K "swept" CY f38 e38)
  (h39:Dh K "lowest" zC f39 e39)
  (h40:Dh K "reduced" wB f40 e40)
  (h41:Dh K "row_dot" wA f41 e41)
  (h42:Dh K "grid_on" wD f42 e42)
  (h43:Dh K "moved_rows" oz f43 e43)
  (h44:Dh K "reach_grown" mM f44 e44)
  (h45:Dh K "flat" Fu f45 e45)
  (h46:Dh K "additions" qB f46 e46)
  (h47:Dh K "nought_row" oy f47 e47)
  (h48:Dh K "solved" zB f48 e48)
  (h49:Dh K "grid_turned" mO f49 e49)
  (h50:Dh K "solve" CZ f50 e50)
  (h51:Dh K "weights_for" mL f51 e51)
  (h52:Dh K "minus" C0 f52 e52)
  (h53:Dh K "row_minus" qo f53 e53)
  (a54:W.findIn K (.ref C) "moved"=some (some (.ref f54))) (i54:W.isFn K (.ref f54)=true) (l54:K.lookup f54=some ⟨oc54,od54,.func (W.fnOf "moved" "System.moved" (kW fQ) (jE fQ) (aN fQ) .none kV54 dc54 pm54 an54 cd54 ct54),sl54⟩) (c54:W.codeIn K cd54 "System.moved"=true) (k54:W.keepIn K (.ref f54)=true)
  (h55:Dh K "course" zE f55 e55)
  (h56:Dh K "nothing_for" mN f56 e56)
  (h57:Dh K "lacking" wC f57 e57)
  (h58:Dh K "cut" JL f58 e58)
  (h59:Dh K "come" Fv f59 e59)
  (h60:Dh K "_law_kept" qN f60 e60)
  (h61:Dh K "_law_spoil" oE f61 e61)
  (h62:Dh K "_law_added" oM f62 e62)
  (h63:Dh K "_law_less" qL f63 e63)
  (h64:Dh K "_law_minus" oI f64 e64)
  (h65:Dh K "_law_alone" oK f65 e65)
  (h66:Dh K "_law_quot" qD f66 e66)
  (h67:Dh K "_law_lean" qM f67 e67)
  (h68:Dh K "_law_is_number" jP f68 e68)
  (h69:Dh K "_law_is_row" mT f69 e69)
  (h70:Dh K "_law_priced" mR f70 e70)
  (h71:Dh K "_law_is_grid" lC f71 e71)
  (h72:Dh K "_law_leads" oJ f72 e72)
  (h73:Dh K "_law_right" oF f73 e73)
  (h74:Dh K "law" JK f74 e74)
  {m0:Addr} {mo0:Option Addr} {mn0:Nat} {ms0:Array (Option Value)} {mt0_0 mt0_1:Tok} (ca0:W.nsIn K mainGlobals "NOUGHT"=some (some (.ref m0))) (cl0:K.lookup m0=some ⟨.type "tuple",mo0,.seq #[.int 0 mt0_0,.int 1 mt0_1] mn0,ms0⟩)
  {m1:Addr} {mo1:Option Addr} {mn1:Nat} {ms1:Array (Option Value)} {mt1_0 mt1_1:Tok} (ca1:W.nsIn K mainGlobals "ONE"=some (some (.ref m1))) (cl1:K.lookup m1=some ⟨.type "tuple",mo1,.seq #[.int 1 mt1_0,.int 1 mt1_1] mn1,ms1⟩)
  {it0:Tok} (ci0:W.nsIn K mainGlobals "MOST_STATES"=some (some (.int 8 it0)))
  {it1:Tok} (ci1:W.nsIn K mainGlobals "MOST_PUTS"=some (some (.int 4 it1)))
  {it2:Tok} (ci2:W.nsIn K mainGlobals "MOST_LOOKS"=some (some (.int 4 it2)))
  (pg:W.plainGet K C Str.empty=true) (hd:W.hasDictIn K C=true) (po:W.plainOver K C=true) (sa:W.findIn K (.ref C) "__setattr__"=some (some (.builtin "object.__setattr__"))) (mk:W.makesIn K C=true) (kc:W.keepIn K (.ref C)=true)
  (n_move:W.findIn K (.ref C) "move"=some none)
  (n_states:W.findIn K (.ref C) "states"=some none)
  (n_put:W.findIn K (.ref C) "put"=some none)
  (n_ins:W.findIn K (.ref C) "ins"=some none)
  (n_look:W.findIn K (.ref C) "look"=some none)
  (n_outs:W.findIn K (.ref C) "outs"=some none)
  (z_abs:W.nsIn K mainGlobals "abs"=some none)
  (z_len:W.nsIn K mainGlobals "len"=some none)
  (z_min:W.nsIn K mainGlobals "min"=some none)
  (z_int:W.nsIn K mainGlobals "int"=some none)
  (z_range:W.nsIn K mainGlobals "range"=some none)
  (z_isinstance:W.nsIn K mainGlobals "isinstance"=some none)
  (z_list:W.nsIn K mainGlobals "list"=some none)
  (z_bool:W.nsIn K mainGlobals "bool"=some none)
  (z_tuple:W.nsIn K mainGlobals "tuple"=some none)
  (z_all:W.nsIn K mainGlobals "all"=some none)
  (z_enumerate:W.nsIn K mainGlobals "enumerate"=some none)
  (z_max:W.nsIn K mainGlobals "max"=some none)
  (z_zip:W.nsIn K mainGlobals "zip"=some none)
  (z_sum:W.nsIn K mainGlobals "sum"=some none)
  (z_reversed:W.nsIn K mainGlobals "reversed"=some none)
  : ∃fd:FuncData,(∀(s:Shared) (v:Value),BindsTo s fd ⟨[v],[]⟩ [("_law_script",v)])/\∀base:Heap,K.In base->base.Ns mainGlobals mg->cI l.prog w K mg base fM 10 fa fd ["_law_script"] (zh K):=by
 have e:=hfa.symm.trans (W.mg_of X G h74.a);cases e;obtain ⟨_,_,_,_,_,_,_,_,_,rfl,_,_⟩:=h74.F.ex;have F22:=FW (st:=eC) l22 c22 k22;have F54:=FW (st:=fQ) l54 c54 k54
 have T:Txt K mg ⟨f0,_,f1,_,f2,_,f3,_,f4,_,f5,_,f6,_,f7,_,f8,_,f9,_,f10,_,f11,_,f12,_,f13,_,f14,_,f15,_,f16,_,f17,_,f18,_,f19,_,f20,_,f21,_,f22,_,f23,_,f24,_,f25,_,f26,_,f27,_,f28,_,f29,_,f30,_,f31,_,f32,_,f33,_,f34,_,f35,_,f36,_,f37,_,f38,_,f39,_,f40,_,f41,_,f42,_,f43,_,f44,_,f45,_,f46,_,f47,_,f48,_,f49,_,f50,_,f51,_,f52,_,f53,_,f54,_,f55,_,f56,_,f57,_,f58,_,f59,_,f60,_,f61,_,f62,_,f63,_,f64,_,f65,_,f66,_,f67,_,f68,_,f69,_,f70,_,f71,_,f72,_,f73,_,fa,_,m0,m1,it0,it1,it2,C⟩:={
  qZ:=h0.D X G
  aW:=h1.D X G
  nk:=h2.D X G
  jB:=h3.D X G
  eU:=h4.D X G
  iu:=h5.D X G
  kR:=h6.D X G
  iH:=h7.D X G
  jb:=h8.D X G
  j8:=h9.D X G
  jA:=h10.D X G
  lQ:=h11.D X G
  gH:=h12.D X G
  oY:=h13.D X G
  nC:=h14.D X G
  lM:=h15.D X G
  jx:=h16.D X G
  mj:=h17.D X G
  fq:=h18.D X G
  oT:=h19.D X G
  wO:=h20.D X G
  ir:=h21.D X G
  mD:=F22.binds (ps:=["self","move","put","look"]) λ_ _ _ _ _ _=>by refine ln4 ?_;intros;rfl
  mF:=F22
  iw:=h23.D X G
  oZ:=h24.D X G
  ni:=h25.D X G
  kv:=h26.D X G
  lO:=h27.D X G
  oX:=h28.D X G
  mo:=h29.D X G
  oW:=h30.D X G
  kT:=h31.D X G
  jy:=h32.D X G
  ja:=h33.D X G
  fV:=h34.D X G
  mZ:=h35.D X G
  uo:=h36.D X G
  nh:=h37.D X G
  uU:=h38.D X G
  k9:=h39.D X G
  uh:=h40.D X G
  oS:=h41.D X G
  uj:=h42.D X G
  j7:=h43.D X G
  lK:=h44.D X G
  Dn:=h45.D X G
  oU:=h46.D X G
  iS:=h47.D X G
  rN:=h48.D X G
  iq:=h49.D X G
  zX:=h50.D X G
  lJ:=h51.D X G
  zY:=h52.D X G
  oR:=h53.D X G
  pN:=⟨a54,i54,k54⟩
  rB:=F54.binds (ps:=["self","state","puts"]) λ_ _ _ _ _ _=>by refine ln3 ?_;intros;rfl
  rH:=F54
  wQ:=h55.D X G
  jz:=h56.D X G
  ui:=h57.D X G
  FL:=h58.D X G
  uV:=h59.D X G
  d6:=h60.D X G
  fH:=h61.D X G
  ke:=h62.D X G
  o5:=h63.D X G
  gV:=h64.D X G
  j9:=h65.D X G
  oV:=h66.D X G
  kS:=h67.D X G
  jD:=h68.D X G
  jC:=h69.D X G
  lN:=h70.D X G
  kG:=h71.D X G
  nD:=h72.D X G
  nv:=h73.D X G
  NL:=h74.F
  abs:=W.mg_none_of X G z_abs
  len:=W.mg_none_of X G z_len
  min:=W.mg_none_of X G z_min
  int:=W.mg_none_of X G z_int
  range:=W.mg_none_of X G z_range
  isinstance:=W.mg_none_of X G z_isinstance
  list:=W.mg_none_of X G z_list
  bool:=W.mg_none_of X G z_bool
  tuple:=W.mg_none_of X G z_tuple
  all:=W.mg_none_of X G z_all
  enumerate:=W.mg_none_of X G z_enumerate
  max:=W.mg_none_of X G z_max
  zip:=W.mg_none_of X G z_zip
  sum:=W.mg_none_of X G z_sum
  reversed:=W.mg_none_of X G z_reversed
  mg_NOUGHT:=W.mg_of X G ca0
  sq_NOUGHT:=λH=>.inr ⟨_,_,_,cl0,rfl,rfl,jm rfl,.cons ⟨_,rfl⟩ (.cons ⟨_,rfl⟩ (.nil))⟩
  mg_ONE:=W.mg_of X G ca1
  sq_ONE:=λH=>.inr ⟨_,_,_,cl1,rfl,rfl,jm rfl,.cons ⟨_,rfl⟩ (.cons ⟨_,rfl⟩ (.nil))⟩
  mg_MOST_STATES:=W.mg_of X G ci0
  mg_MOST_PUTS:=W.mg_of X G ci1
  mg_MOST_LOOKS:=W.mg_of X G ci2
  mg_System:=W.mg_of X G aC
  cl_System:=⟨pg,hd,po,sa⟩
  na_move:=n_move
  na_states:=n_states
  na_put:=n_put
  na_ins:=n_ins
  na_look:=n_look
  na_outs:=n_outs
  mk_System:=⟨mk,a22,i22,kc⟩ }
 exact ⟨_,λs v=>.of_eq rfl,λbase _ _=>OI T⟩
theorem walk {l:W.OpenLaw} {q:Program} {loose:List Str} {XP:(Str->Option Value)->Heap->Prop} {YP:World->Heap->Prop} {d:DefRec} {K:Params->W.Frag} (hn:l.most=some 63) (hdf:d.params.defaults=[])
  (hY:∀(w:World) (h:Heap),YP w h->(K w.params).In h)
  (F:∀(w:World) (mg:Str->Option Value) (fa:Addr) (h:Heap),(K w.params).In h->h.Ns mainGlobals mg->mg d.name=some (.ref fa) →
   ∃fd:FuncData,(∀(s:Shared) (u:Value),BindsTo s fd ⟨[u],[]⟩ [("_law_script",u)])/\∀base:Heap,(K w.params).In base->base.Ns mainGlobals mg->cI l.prog w (K w.params) mg base fM 10 fa fd ["_law_script"] (zh (K w.params))) :
  W.WalkO q loose XP YP l.row.toRowW d [] (λf vs=>PySem.call f vs) :=
 L2.Lx (n:=63) (k:=10) (x:="_law_script") (CX:=λ_=>fM) (sp:=λw=>zh (K w.params)) hn (by decide) hdf ⟨rfl,by decide,by decide⟩ hY F (λ_ _ a ns hl _ hS=>⟨a,ns,rfl,hS,hl,λ_=>rfl⟩) λ_ _ _ _ _ z=>z
end Lw
namespace PySem.W.Fast
def tw16104169450572910086:=()
def tw13320210020990175731:=()
def tw13599589049640481337:=()
def tw15152759556875800907:=()
def tw7744212495632139150:=()
def tw15453800963945072506:=()
def tw14978409816982484786:=()
def tw3639543355661052786:=()
def tw11267613087757354907:=()
def tw714368027603506468:=()
def tw10899261162938429118:=()
def tw8589891067918494166:=()
def tw6293808934404392513:=()
def tw13040852106177739672:=()
def tw14146378080487898293:=()
def tw13555920682550453600:=()
def tw11904302755933070398:=()
def tw12086229075800637856:=()
def tw319576302410124677:=()
def tw8232465649868768327:=()
def tw9374853805383984263:=()
def tw12808839643593989460:=()
def tw14850070910105736121:=()
def tw4202277582023521974:=()
def tw16967031817251683231:=()
def tw10173194231410136173:=()
def tw1306159629705603298:=()
def tw17166469341860939165:=()
def tw15198387844266383954:=()
def tw12677494702741314137:=()
def tw13383524301247915214:=()
def tw7689798472678600051:=()
def tw7380300838759807022:=()
def tw9547688105098354328:=()
def tw4479593776934006316:=()
def tw17682445511301537343:=()
def tw9102972493121485814:=()
def tw13665792815004228794:=()
def tw9008370794730488944:=()
def tw7764272543843583384:=()
def tw8170766319771034574:=()
def tw3261848761513736786:=()
def tw6600718405653147399:=()
def tw10331361017890622261:=()
def tw8129208098988476592:=()
def tw8160040103422153629:=()
def tw1432573023535003961:=()
def tw3913939759799108690:=()
def tw318626826552214471:=()
def tw13151724793957431835:=()
def tw7987569276344404077:=()
def tw16489919965338907404:=()
def tw74799628671563795:=()
def tw1168892823975219273:=()
def tw16539331626356618631:=()
def tw15826291479272663792:=()
def tw8360771641273020499:=()
def tw4046430909754321915:=()
def tw18409022572817753126:=()
def tw8754174823661262538:=()
def tw15179170680420394788:=()
def tw6179942266885159914:=()
def tw11320926138241679720:=()
def tw12209185079721353463:=()
def tw278567532811544215:=()
def tw17248824140141397014:=()
def tw13318049819916825680:=()
def tw3385803086550179736:=()
def tw14698765995692007336:=()
def tw14310607798604662972:=()
def tw6160614916790577480:=()
def tw17442853200498484716:=()
def tw18280303170833265462:=()
def tw5989882359201001726:=()
def tw4365674442766545273:=()
def tw2943746332469304514:=()
def tw995523124099507168:=()
def tw6677549147101153396:=()
def tw10595415453499743621:=()
def tw971960910515512236:=()
def tw4470480644267244955:=()
def tw3806825235619131783:=()
def tw11817432790836787739:=()
def tw6632214175924021908:=()
def tw14686105657004656593:=()
def tw3007137453982678195:=()
def tw12125015714543862979:=()
def tw17576374643428436542:=()
def tw4532909370865132188:=()
def tw13591798215430451096:=()
def tw11201112257099642839:=()
def tw1084634246291585931:=()
def tw15345162004244672012:=()
def tw356995244165625150:=()
def tw3862885074830850813:=()
def tw4419545769749361042:=()
def tw3748973278866971442:=()
def tw7093945324303058735:=()
def tw5422792347245576572:=()
def tw7136497454041912506:=()
def tw434567310981337863:=()
def tw16207081758478067327:=()
def tw10013262887212576735:=()
def tw13699618646145396230:=()
def tw3502225449809202183:=()
def tw4500484039313754667:=()
def tw11872866302318711540:=()
def tw1455055906654630699:=()
def tw9621678135212948898:=()
def tw14635520819200897176:=()
def tw4013989135647496851:=()
def tw13491553798899332026:=()
def tw15754484120730070182:=()
def tw18010046754309414247:=()
def tw2719014344961688148:=()
def tw1204340151824907970:=()
def tw11171717994489323801:=()
def tw6628283687001149382:=()
def tw17511127697945220154:=()
def tw1031049908091052498:=()
def tw1051639292572713441:=()
def tw13674937834686551085:=()
def tw5771799332836430462:=()
def tw4799935761140818075:=()
def tw17565432162169210629:=()
def tw12739279344940322760:=()
def tw16540934162356211046:=()
def tw3666665098369180802:=()
def tw11204762307058292667:=()
def tw10680069730262230484:=()
def tw5726091768140739088:=()
def tw15140646550330731625:=()
def tw18163496627305791145:=()
def tw5332911151326280175:=()
def tw13316783131984831232:=()
def tw9069816233371773873:=()
def tw1118240936663698320:=()
def tw7909290114818219155:=()
def tw8485853289460858886:=()
def tw18125504697378205854:=()
def tw4228146522731016850:=()
def tw12366856902296544340:=()
def tw2852858547564814019:=()
def tw14542258345578722771:=()
def tw17765393052104847533:=()
def tw5743907194285706156:=()
def tw870226756555919629:=()
def tw16765404255420935591:=()
def tw18208324667920669809:=()
def tw4262690424468854693:=()
def tw9791693575829489477:=()
def tw4837047023325468643:=()
def tw12357083357112406658:=()
def tw13927341622255110557:=()
def tw250078918942555609:=()
def tw10112485106309925583:=()
def tw14032885600315634905:=()
def tw14372590549754386587:=()
def tw18378483009106706907:=()
def tw11718560980689087190:=()
def tw6232374360747938542:=()
def tw3287217233965159285:=()
def tw2297168968639025639:=()
def tw12341715230990876736:=()
def tw1425581107617423428:=()
def tw1895605451118364357:=()
def tw17896775628821645870:=()
def tw4414961820908965627:=()
def tw17338704872394376635:=()
def tw11429732033917264056:=()
def tw10218037536183247983:=()
def tw12203946136148319782:=()
def tw10567271468168428296:=()
def tw6536490956917223839:=()
def tw4360420681869319222:=()
def tw1056374288709217053:=()
def tw2626744473160934198:=()
def tw13131646218504148807:=()
def tw5896697746587151803:=()
def tw13662058666835137234:=()
def tw2515904275243880679:=()
def tw11851238429110208534:=()
def tw1061418609976572164:=()
def tw14637429499440910372:=()
def tw1578533747223939745:=()
def tw17778476596697443317:=()
def tw13059174535650748079:=()
def tw2027634423961071379:=()
def tw11391260357198278756:=()
def tw6868709619122629538:=()
def tw4435047834213499115:=()
def tw9618768074848658925:=()
def tw2973576624487133920:=()
def tw16710089578199462986:=()
def tw3749306073920441751:=()
def tw17194415580827131596:=()
def tw17175576899075914843:=()
def tw15949212923192909306:=()
def tw10519346810143897697:=()
def tw3628287127932253929:=()
def tw15737417978832771585:=()
def tw4712824772643152675:=()
def tw3525241124394667624:=()
def tw7790663533186591709:=()
def tw7384406511221711897:=()
def tw2919295038922051340:=()
def tw14410828416026080876:=()
def tw4372252052144106468:=()
def tw6487444233229765481:=()
def tw8401484731697686904:=()
def tw5326886170447864291:=()
def tw8758199942052417992:=()
def tw1616799025051461178:=()
def tw17398999398931485374:=()
def tw15661770297635646922:=()
def tw16542856978824990871:=()
def tw24036792316975483:=()
def tw11614964231238715815:=()
def tw3007866760919617721:=()
def tw15736755710405658171:=()
def tw2613504707098830203:=()
def tw15058656298217157362:=()
def tw11703801681763734548:=()
def tw9157634806589534034:=()
def tw200760833163869402:=()
def tw18169217055922379101:=()
def tw7001876992639104856:=()
def tw2665769608995649189:=()
def tw17032674133182044930:=()
def tw14406858632505666891:=()
def tw6973203490926486242:=()
theorem te16104169450572910086:True:=trivial
end PySem.W.Fast
open PySem PySem.W PyProof.Rows
set_option maxRecDepth 100000 in
set_option maxHeartbeats 0 in
theorem PySem.Challenge.cw_helmsum_k42_come_or_price_holds : PySem.Challenge.rw_helmsum_k42_come_or_price.Holds := by
 w_on;o_law;k_head;(case hw=>w_witness2)
 k_fill
 refine Lw.walk (l:=PySem.Challenge.rw_helmsum_k42_come_or_price) rfl rfl (λw h Y=>PySem.W.kIn_of Y) ?F
 case F =>
  intro w mg fa h KX G hmg;refine' Lw.all_mk KX G hmg ?aC ?_ ?_ ?_ ?_ ?_ ?_ ?_ ?_ ?_ ?_ ?_ ?_ ?_ ?_ ?_ ?_ ?_ ?_ ?_ ?_ ?_ ?_ ?a22 ?i22 ?l22 ?c22 ?k22 ?_ ?_ ?_ ?_ ?_ ?_ ?_ ?_ ?_ ?_ ?_ ?_ ?_ ?_ ?_ ?_ ?_ ?_ ?_ ?_ ?_ ?_ ?_ ?_ ?_ ?_ ?_ ?_ ?_ ?_ ?_ ?a54 ?i54 ?l54 ?c54 ?k54 ?_ ?_ ?_ ?_ ?_ ?_ ?_ ?_ ?_ ?_ ?_ ?_ ?_ ?_ ?_ ?_ ?_ ?_ ?_ ?_ ?ca0 ?cl0 ?ca1 ?cl1 ?ci0 ?ci1 ?ci2 ?pg ?hd ?po ?sa ?mk ?kc ?n_move ?n_states ?n_put ?n_ins ?n_look ?n_outs ?z_abs ?z_len ?z_min ?z_int ?z_range ?z_isinstance ?z_list ?z_bool ?z_tuple ?z_all ?z_enumerate ?z_max ?z_zip ?z_sum ?z_reversed
  all_goals try refine' QD ?_ ?_ ?_ ?_
  all_goals try k_is