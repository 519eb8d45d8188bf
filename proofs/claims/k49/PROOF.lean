import PyProof.Rows.All
import Wide.All
import OpenK.AllK
import Wide.FinOn
import Lean
import PyProof.EqAt
import PyProof.EqKinds
import PyProof.TupleCall
import PyProof.NeKinds
import PySem.Challenge.RW_helmsum_k49_own_way
set_option Elab.async false
set_option linter.all false
set_option maxRecDepth 100000
abbrev aa:=@List.getD_eq_getElem?_getD
abbrev af:=@List.getElem?_eq_getElem
abbrev ag:=@List.length_map
abbrev ai:=@Nat.le_trans
abbrev ak:=@Nat.pow_le_pow_right
abbrev ar:=@List.mem_of_getElem?
abbrev au:=@Nat.le_refl
abbrev av:=@List.length_append
abbrev ax:=@List.mem_append
abbrev az:=@List.mem_map
abbrev aB:=@Nat.mul_le_mul_right
abbrev aD:=@List.getElem?_eq_some_iff
abbrev aE:=@List.mem_cons
abbrev aF:=@List.getElem?_map
abbrev aJ:=@List.size_toArray
abbrev aL:=@List.take_of_length_le
abbrev aM:=@List.not_mem_nil
abbrev aN:=@Nat.mul_le_mul
abbrev aO:=@PySem.boot_len
abbrev aQ:=@Rat.intCast_mul
abbrev aS:=@List.getElem_mem
abbrev aU:=@Bool.false_ne_true
abbrev aW:=@List.getElem?_eq_none
abbrev be:=@List.length_singleton
abbrev bg:=@Nat.le_of_lt
abbrev bo:=@Nat.zero_le
abbrev bw:=@Rat.intCast_natCast
abbrev bx:=@Nat.mul_le_mul_left
abbrev bB:=@Nat.lt_of_le_of_lt
abbrev bC:=@Nat.pow_add
abbrev bD:=@List.length_cons
abbrev bH:=@Nat.lt_of_lt_of_le
abbrev bP:=@List.mem_append_right
abbrev bQ:=@Nat.one_le_two_pow
abbrev bR:=@List.getElem_of_mem
abbrev bT:=@List.mem_cons_of_mem
abbrev bV:=@Nat.mul_comm
abbrev bY:=@Option.some.inj
abbrev b8:=@List.getElem?_append_right
abbrev cb:=@Nat.lt_or_ge
abbrev ck:=@List.append_assoc
abbrev cm:=@List.map_append
abbrev cp:=@Nat.mul_pos
abbrev cu:=@Int.fdiv_eq_ediv_of_nonneg
abbrev cw:=@List.mem_singleton
abbrev cx:=@List.mem_or_eq_of_mem_set
abbrev cC:=@List.getElem?_zipWith
abbrev cD:=@Int.eq_ofNat_of_zero_le
abbrev cE:=@Nat.mul_assoc
abbrev cG:=@Nat.ne_of_lt
abbrev cH:=@Nat.le_mul_of_pos_left
abbrev cI:=@List.mem_of_mem_take
abbrev cR:=@List.getElem?_append_left
abbrev cT:=@List.mem_cons_self
abbrev cU:=@Int.natAbs_natCast
abbrev cW:=@List.nil_append
abbrev de:=@Nat.le_mul_of_pos_right
abbrev di:=@Rat.intCast_neg
abbrev dk:=@PySem.W.kia_tup
abbrev dm:=@PySem.W.kia_one
abbrev dn:=@Nat.succ_le_succ
abbrev dq:=@List.length_take
abbrev dA:=@Nat.mul_add
abbrev dB:=@List.nodup_append
abbrev dC:=@Int.mul_assoc
abbrev dD:=@Rat.intCast_inj
abbrev dE:=@PySem.F.plainAttrs_list
abbrev dF:=@Bool.and_eq_true
abbrev dP:=@Nat.lt_irrefl
abbrev dS:=@Rat.mul_comm
abbrev dU:=@Nat.lt_trichotomy
abbrev dX:=@List.length_zipWith
abbrev d6:=@List.nodup_cons
abbrev d7:=@List.length_set
abbrev eh:=@List.drop_eq_getElem_cons
abbrev eB:=@Int.natAbs_dvd_natAbs
abbrev eI:=@Nat.lt_succ_self
abbrev eJ:=@List.cons_append
abbrev eK:=@Int.gcd_dvd_left
abbrev eN:=@PySem.F.type_list_append
abbrev eO:=@PySem.F.slot_list_append
abbrev eP:=@Nat.pow_lt_pow_right
abbrev eQ:=@Int.natAbs_mul
abbrev ff:=@Int.gcd_dvd_right
abbrev fg:=@Nat.not_lt_zero
abbrev fA:=@Int.mul_comm
abbrev fX:=@List.length_replicate
abbrev gY:=@Rat.mul_zero
abbrev gZ:=@Nat.pow_succ
abbrev hJ:=@List.mem_append_left
abbrev hZ:=@List.length_range
abbrev h6:=@List.flatten_cons
abbrev ia:=@Nat.le_of_dvd
abbrev ib:=@List.map_cons
abbrev iW:=@List.getElem?_range
abbrev iY:=@Nat.dvd_mul_left
abbrev jc:=@List.map_id
abbrev jd:=@Int.mul_pos
abbrev jk:=@Int.emod_lt_of_pos
abbrev jl:=@Bool.false_eq_true
abbrev kx:=@List.ext_getElem?
abbrev kz:=@Nat.pow_pos
abbrev mo:=@PySem.IsL.update
abbrev mB:=@Nat.succ_mul
abbrev mC:=@Nat.sub_self
abbrev mD:=@Nat.add_comm
abbrev mE:=@List.lookup_cons
abbrev mF:=@List.ext_getElem
abbrev mG:=@Int.gcd_comm
abbrev mR:=@PySem.F.plain_extend_loop
abbrev mS:=@PySem.mem_of_lookup
abbrev mT:=@List.replicate_succ
abbrev og:=@List.mem_filter
abbrev oh:=@Int.emod_nonneg
abbrev oi:=@Bool.eq_iff_iff
abbrev oB:=@Nat.eq_zero_or_pos
abbrev oW:=@Nat.mul_one
abbrev oX:=@Int.natCast_dvd_natCast
abbrev oY:=@Int.dvd_mul_of_dvd_left
abbrev qF:=@List.nodup_nil
abbrev qG:=@Int.natAbs_neg
abbrev rL:=@PySem.F.slot_zip_next
abbrev rM:=@List.getElem_map
abbrev rN:=@List.all_eq_true
abbrev tW:=@Nat.one_mul
abbrev tX:=@Nat.le_succ
abbrev vf:=@Nat.pow_le_pow_left
abbrev vg:=@List.map_congr_left
abbrev vT:=@Rat.add_zero
abbrev vU:=@List.map_map
abbrev vV:=@Int.zero_add
abbrev wL:=@PySem.W.kitx_tuple
abbrev wM:=@List.mem_range
abbrev wO:=@Int.eq_of_mul_eq_mul_right
abbrev xu:=@List.pairwise_iff_getElem
abbrev xv:=@Int.mul_neg_of_pos_of_neg
abbrev yF:=@PySem.W.kitx_list
abbrev yG:=@PySem.W.kitx_dict
abbrev yH:=@Nat.add_mul
abbrev yK:=@List.getElem?_take_of_lt
abbrev zV:=@Rat.intCast_eq_zero_iff
abbrev zW:=@List.mem_flatten
abbrev Aq:=@PySem.W.cellsFrom_some
abbrev Ar:=@Nat.zero_add
abbrev As:=@Nat.mul_zero
abbrev Cc:=@Rat.natCast_mul
abbrev Cd:=@Rat.intCast_sub
abbrev Ce:=@Rat.intCast_add
abbrev Cf:=@List.range_succ
abbrev Cg:=@List.length_zip
abbrev Ci:=@List.append_nil
abbrev Cm:=@Bool.beq_eq_decide_eq
abbrev DR:=@Nat.pow_mul
abbrev DS:=@List.replicate_succ'
abbrev DT:=@List.forIn_nil
abbrev E4:=@List.filter_sublist
abbrev E5:=@List.filterMap_cons
abbrev GA:=@Nat.dvd_trans
abbrev GB:=@Int.natAbs_eq
abbrev GG:=@List.append_of_mem
abbrev GH:=@List.Nodup.sublist
abbrev Jl:=@Nat.ne_of_gt
abbrev Jm:=@Nat.dvd_refl
abbrev Jn:=@Int.dvd_refl
abbrev J9:=@Nat.min_le_right
abbrev Ka:=@List.nodup_range
abbrev LS:=@Int.dvd_gcd
abbrev LZ:=@Rat.mul_eq_zero
abbrev L0:=@Nat.le_antisymm
abbrev L4:=@List.of_mem_zip
abbrev L5:=@List.forIn_cons
abbrev L6:=@Int.gcd_pos_of_ne_zero_right
abbrev N9:=@List.length_eraseIdx_of_lt
abbrev Pn:=@PySem.F.entry_extend_loop
abbrev Po:=@List.getElem?_zip_eq_some
abbrev Pp:=@Int.natAbs_ediv_of_nonneg
abbrev Pu:=@Option.isSome_iff_exists
abbrev Pw:=@List.mem_of_mem_eraseIdx
abbrev Px:=@List.all_cons
abbrev QT:=@PySem.F.args_zip_next_1
abbrev QU:=@List.getElem?_replicate
abbrev QV:=@List.filter_cons_of_pos
abbrev QW:=@List.filter_cons_of_neg
abbrev LR9:=List (List Rat)
abbrev FG9:=PySem.W.Frag
namespace L2
open PySem PySem.Spec PyProof.Rows
abbrev Key:=Sum Int Str
def NP:Key->Value->Bool
 | .inl k,v=>Value.isInt k v
 | .inr x,v=>Value.isStrOf x v
def Rx (w:World):Key->Int
 | .inl k=>hashInt k
 | .inr x=>hashStr w x
theorem fb:∀{k:Key} {v:Value},NP k v=true->(∃i t,k=Sum.inl i/\v=Value.int i t)\/(∃x t,k=Sum.inr x/\v=Value.str x t)
 | .inl i,v,h=>by
  obtain ⟨t,e⟩:=Value.isInt_shape (k:=i) (v:=v) h;exact .inl ⟨i,t,rfl,e⟩
 | .inr x,v,h=>by
  obtain ⟨t,e⟩:=Value.isStrOf_shape (x:=x) (v:=v) h;exact .inr ⟨x,t,rfl,e⟩
theorem OY (a b:Int):decide ((Sum.inl a:Key)=Sum.inl b)=(a == b):=by
 by_cases e:a=b
 ·subst e;simp
 ·have h:¬(Sum.inl a:Key)=Sum.inl b:=λq=>e (Sum.inl.inj q)
  rw[decide_eq_false h];exact (beq_eq_false_iff_ne.mpr e).symm
theorem OV (a b:Str):decide ((Sum.inr a:Key)=Sum.inr b)=decide (a=b):=by
 by_cases e:a=b
 ·subst e;simp
 ·have h:¬(Sum.inr a:Key)=Sum.inr b:=λq=>e (Sum.inr.inj q)
  rw[decide_eq_false h,decide_eq_false e]
theorem OX (a:Int) (b:Str):decide ((Sum.inl a:Key)=Sum.inr b)=false:=decide_eq_false (λq=>nomatch q)
theorem OW (a:Str) (b:Int):decide ((Sum.inr a:Key)=Sum.inl b)=false:=decide_eq_false (λq=>nomatch q)
def IL (prog:Program) (w:World):PySem.KeyKind prog w Key where
 is:=NP
 hash:=Rx w
 inj:=λv a b ha hb=>by
  rcases fb ha with ⟨i,t,rfl,rfl⟩ | ⟨x,t,rfl,rfl⟩
  ·rcases fb hb with ⟨j,u,rfl,e⟩ | ⟨y,u,rfl,e⟩
   ·injection e with e1 _;rw[e1]
   ·exact nomatch e
  ·rcases fb hb with ⟨j,u,rfl,e⟩ | ⟨y,u,rfl,e⟩
   ·exact nomatch e
   ·injection e with e1 _;rw[e1]
 byValue:=λk v h=>by
  rcases fb h with ⟨i,t,rfl,rfl⟩ | ⟨x,t,rfl,rfl⟩ <;> rfl
 pyHash:=λhv h=>by
  rcases fb hv with ⟨i,t,rfl,rfl⟩ | ⟨x,t,rfl,rfl⟩
  ·exact wpAny_pyHash_int h
  ·exact wpAny_pyHash_str h
 eqBool:=λhu hv h=>by
  rcases fb hu with ⟨i,t,rfl,rfl⟩ | ⟨x,t,rfl,rfl⟩
  ·rcases fb hv with ⟨j,u,rfl,rfl⟩ | ⟨y,u,rfl,rfl⟩
   ·rw[OY] at h;exact wpAny_eqBool_int h
   ·rw[OX] at h;exact SeqAt.EqAt.int_str i t y u _ _ _ _ h
  ·rcases fb hv with ⟨j,u,rfl,rfl⟩ | ⟨y,u,rfl,rfl⟩
   ·rw[OW] at h;exact SeqAt.EqAt.str_int x t j u _ _ _ _ h
   ·rw[OV] at h;exact wpAny_eqBool_str h
 «strs»:=λk x t v h=>by
  rcases fb h with ⟨i,u,rfl,e⟩ | ⟨y,u,rfl,e⟩
  ·exact nomatch e
  ·injection e with e1 _
   subst e1;cases v <;> rfl
inductive V where
  | non | bl (b : Bool) | int (i : Int) | str (x : Str) | byt (b : Array UInt8) | flt (b : UInt64) | ref (a : Addr) | ty (n : String)
  deriving DecidableEq

def RelV:V->Value->Prop
 | .non,u=>u=Value.none
 | .bl b,u=>u=Value.bool b
 | .int i,u=>∃t,u=Value.int i t
 | .str x,u=>∃t,u=Value.str x t
 | .byt b,u=>∃t,u=Value.bytes b t
 | .flt b,u=>∃t,u=Value.float b t
 | .ref a,u=>u=Value.ref a
 | .ty n,u=>u=Value.type n
abbrev cK:List V->List Value->Prop:=Paired RelV
theorem cK.length {xs:List V} {us:List Value} (r:cK xs us):xs.length=us.length:=Paired.length r
theorem cK.get:∀{xs:List V} {us:List Value} {i:Nat} {x:V},cK xs us->xs[i]?=some x->∃u,us[i]?=some u/\RelV x u
 | _,_,_,_,.nil,e=>by simp at e
 | _,_,0,_,.cons r _,e=>by simp at e;subst e;exact ⟨_,rfl,r⟩
 | _,_,i+1,x,.cons _ t,e=>by
  obtain ⟨u,h1,h2⟩:=cK.get (i:=i) (x:=x) t (by simpa using e);exact ⟨u,by simpa using h1,h2⟩
theorem cK.set {x:V} {u:Value} (r:RelV x u):∀{xs:List V} {us:List Value} (i:Nat),cK xs us->cK (xs.set i x) (us.set i u)
 | _,_,_,.nil=>.nil
 | _,_,0,.cons _ t=>.cons r t
 | _,_,i+1,.cons q t=>.cons q (cK.set r i t)
theorem cK.append:∀{xs ys:List V} {us ws:List Value},cK xs us->cK ys ws->cK (xs++ys) (us++ws)
 | _,_,_,_,.nil,s=>s
 | _,_,_,_,.cons r t,s=>.cons r (cK.append t s)
theorem cK.take:∀{xs:List V} {us:List Value} (n:Nat),cK xs us->cK (xs.take n) (us.take n)
 | _,_,0,_=>.nil
 | _,_,_+1,.nil=>.nil
 | _,_,n+1,.cons r t=>.cons r (cK.take n t)
theorem cK.drop:∀{xs:List V} {us:List Value} (n:Nat),cK xs us->cK (xs.drop n) (us.drop n)
 | _,_,0,r=>r
 | _,_,_+1,.nil=>.nil
 | _,_,n+1,.cons _ t=>cK.drop n t
def Ii:Option V->Option Value->Prop
 | some v,some u=>RelV v u
 | none,none=>True
 | _,_=>False
def KV {κ:Type}:List (κ×V)->List (κ×Value)->Prop:=Paired λ(p:κ×V) (q:κ×Value)=>p.1=q.1/\RelV p.2 q.2
def kV:Key->V
 | .inl i=>.int i
 | .inr x=>.str x
inductive HO where
 | lst (xs:List V)
 | tup (xs:List V)
 | dK (kvs:List (Key×V)) | dT (kvs:List (List Key×V))
 | set (S:Int->Bool) (n:Nat)
 | ins (C dx:Addr) (fs:List (Str×V))
 | own (x:Addr)
 | xd (fs:List (Str×V))
 | met (f x:Addr)
 | rng (lo hi:Int)
 | frz (o:Obj) (u:HO)
 | tbl (ps:Array Value)
 | ext (φ:Heap->Prop)
abbrev Hp:=Addr->Option HO
def upd (H:Hp) (a:Addr) (o:HO):Hp:=λb=>if b=a then some o else H b
theorem aI {H:Hp} {a:Addr} {o:HO}:upd H a o a=some o:=by unfold upd;rw[if_pos rfl]
theorem bF {H:Hp} {a b:Addr} {o:HO} (h:b≠a):upd H a o b=H b:=by unfold upd;rw[if_neg h]
theorem fj {H:Hp} {a b:Addr} {o:HO} (h:H a=some o) (h':H b=none):a≠b:=by
 intro e;subst e;rw[h] at h';cases h'
section
variable (P:Program) (w:World)
def fI (H:Hp) (h:Heap) (a:Addr):HO->Prop
 | .lst xs=>xs.length<=sizeLine/\∃(its:List Value) (n:Nat),cK xs its/\h.get? a=some { cls:=.type "list",data:=.seq its.toArray n }
 | .tup xs=>xs.length<=sizeLine/\∃its:List Value,cK xs its/\IsTup h a its.toArray
 | .dK kvs=>kvs.length<=sizeLine/\(a == sysModules)=false/\∃vs,KV kvs vs/\h.DictOf (IL P w) a vs
 | .dT kvs=>kvs.length<=sizeLine/\(a == sysModules)=false/\∃xs:List (List Key×Addr×Value),
   Paired (λ(p:List Key×V) (q:List Key×Addr×Value)=>p.1=q.1/\H q.2.1=some (.tup (p.1.map kV))/\RelV p.2 q.2.2) kvs xs /\
   ∃o es ep,h.get? a=some o/\o.ExactDict/\o.data=.dict es ep/\es.toList=xs.map (entryOfKey (tupleKind (IL P w)))/\(xs.map (·.1)).Nodup
 | .set S n=>h.SetOf (intKind P w) a S n
 | .ins C dx fs=>H dx=some (.own a)/\fs.length<=1000/\dx≠a/\h.get? a=some (PySem.W.instObj C dx) /\
   ∃mA,h.Ns1 dx mA/\(∀f,Ii (fs.lookup f) (mA f))/\PySem.Within mA (fs.map (·.1))
 | .own _=>∃o,h.get? a=some o
 | .xd fs=>∃mA,h.Ns1 a mA/\∀f,Ii (fs.lookup f) (mA f)
 | .rng lo hi=>∃t u v,h.get? a=some { cls:=.type "range",data:=.fields #[.int lo t,.int hi u,.int 1 v] }
 | .frz o u=>h.get? a=some o/\fI H h a u
 | .tbl ps=>h.get? a=some { cls:=.none,data:=.fields ps }
 | .met f x=>h.get? a=some (PySem.W.methodObj (.ref f) (.ref x))
 | .ext φ=>φ h/\(∃o,h.get? a=some o)/\∀h1 h2:Heap,φ h1->(∀o,h1.get? a=some o->h2.get? a=some o)->φ h2
def Ao (H:Hp) (h:Heap):Prop:=∀a o,H a=some o->fI P w H h a o
end
section
variable {P:Program} {w:World} {H H':Hp} {h h':Heap} {a:Addr} {o:HO}
theorem fI.lt (x:fI P w H h a o):a < h.objs.size:=by
 cases o with
 | lst xs=>obtain ⟨_,_,_,_,e⟩:=x;exact Heap.lt_size e
 | tup xs=>obtain ⟨_,_,_,p⟩:=x;exact p.lt
 | dK kvs=>obtain ⟨_,_,_,_,o,_,_,e,_⟩:=x;exact Heap.lt_size e
 | dT kvs=>obtain ⟨_,_,_,_,o,_,_,e,_⟩:=x;exact Heap.lt_size e
 | set S n=>obtain ⟨o,_,_,_,e,_⟩:=x;exact Heap.lt_size e
 | ins C dx fs=>obtain ⟨_,_,_,e,_⟩:=x;exact Heap.lt_size e
 | own y=>obtain ⟨_,e⟩:=x;exact Heap.lt_size e
 | xd fs=>obtain ⟨_,⟨_,_,_,e,_⟩,_⟩:=x;exact Heap.lt_size e
 | rng lo hi=>obtain ⟨_,_,_,e⟩:=x;exact Heap.lt_size e
 | frz ob u=>obtain ⟨e,_⟩:=x;exact Heap.lt_size e
 | tbl ps=>exact Heap.lt_size (show h.get? a=some _ from x)
 | met f y=>exact Heap.lt_size (show h.get? a=some _ from x)
 | ext φ=>obtain ⟨_,⟨_,e⟩,_⟩:=x;exact Heap.lt_size e
theorem Paired.mapP {α β:Type} {F G:α->β->Prop}:∀{l₁:List α} {l₂:List β},Paired F l₁ l₂->(∀a b,F a b->G a b)->Paired G l₁ l₂
 | _,_,.nil,_=>.nil
 | _,_,.cons r t,f=>.cons (f _ _ r) (Paired.mapP t f)
theorem Paired.imp' {α β:Type} {F G:α->β->Prop} (f:∀a b,F a b->G a b) {l₁:List α} {l₂:List β} (r:Paired F l₁ l₂):Paired G l₁ l₂:=Paired.mapP r f
theorem fI.stay (x:fI P w H h a o) (k:∀b u,(b=a\/H b=some (.own a))->h.get? b=some u->h'.get? b=some u)
  (ho:∀b,H b=some (.own a)->H' b=some (.own a)) (ht:∀b xs,H b=some (.tup xs)->H' b=some (.tup xs)):fI P w H' h' a o:=by
 induction o with
 | lst xs=>obtain ⟨z,its,n,r,e⟩:=x;exact ⟨z,its,n,r,k _ _ (.inl rfl) e⟩
 | tup xs=>obtain ⟨z,its,r,ob,e,c⟩:=x;exact ⟨z,its,r,ob,k _ _ (.inl rfl) e,c⟩
 | dK kvs=>obtain ⟨z,y,vs,r,ob,es,ep,e,c⟩:=x;exact ⟨z,y,vs,r,ob,es,ep,k _ _ (.inl rfl) e,c⟩
 | dT kvs =>
  obtain ⟨z,y,xs,r,ob,es,ep,e,c⟩:=x;exact ⟨z,y,xs,Paired.mapP r λp q z=>⟨z.1,ht _ _ z.2.1,z.2.2⟩,ob,es,ep,k _ _ (.inl rfl) e,c⟩
 | set S n=>obtain ⟨ob,es,ep,t,e,c⟩:=x;exact ⟨ob,es,ep,t,k _ _ (.inl rfl) e,c⟩
 | ins C dx fs =>
  obtain ⟨d,z,ne,e,mA,⟨od,es,ep,e2,c⟩,r⟩:=x;exact ⟨ho _ d,z,ne,k _ _ (.inl rfl) e,mA,⟨od,es,ep,k _ _ (.inr d) e2,c⟩,r⟩
 | own y=>obtain ⟨ob,e⟩:=x;exact ⟨ob,k _ _ (.inl rfl) e⟩
 | xd fs=>obtain ⟨mA,⟨od,es,ep,e,c⟩,r⟩:=x;exact ⟨mA,⟨od,es,ep,k _ _ (.inl rfl) e,c⟩,r⟩
 | rng lo hi=>obtain ⟨t,u,v,e⟩:=x;exact ⟨t,u,v,k _ _ (.inl rfl) e⟩
 | frz ob u ih=>obtain ⟨e,q⟩:=x;exact ⟨k _ _ (.inl rfl) e,ih q⟩
 | tbl ps =>
  have e:h.get? a=some { cls:=.none,data:=.fields ps }:=x;show h'.get? a=some { cls:=.none,data:=.fields ps }
  exact k a _ (.inl rfl) e
 | met f y =>
  have e:h.get? a=some (PySem.W.methodObj (.ref f) (.ref y)):=x;show h'.get? a=some (PySem.W.methodObj (.ref f) (.ref y))
  exact k a _ (.inl rfl) e
 | ext φ=>obtain ⟨p,⟨o,e⟩,st⟩:=x;exact ⟨st _ _ p λo q=>k _ _ (.inl rfl) q,⟨o,k _ _ (.inl rfl) e⟩,st⟩
theorem Ao.lt (x:Ao P w H h) (e:H a=some o):a < h.objs.size:=(x a o e).lt
theorem Ao.fresh (x:Ao P w H h) (e:h.objs.size<=a):H a=none:=by
 cases q:H a with
 | none=>rfl
 | some u=>exact absurd (bH (x.lt q) e) (dP _)
theorem Ao.kept (x:Ao P w H h) (k:∀b u,h.get? b=some u->h'.get? b=some u):Ao P w H h':=λa o e =>
 (x a o e).stay (λb u _ q=>k b u q) (λ_ q=>q) λ_ _ q=>q
theorem Ao.laid (x:Ao P w H h) (k:∀b u,h.get? b=some u->h'.get? b=some u) (hp:h.objs.size<=a) (new:fI P w (upd H a o) h' a o):Ao P w (upd H a o) h':=λb u e=>by
 have hn:=x.fresh hp;by_cases hb:b=a
 ·subst hb;rw[aI] at e;cases e;exact new
 ·rw[bF hb] at e;exact (x b u e).stay (λc v _ q=>k c v q) (λc q=>by rw[bF (fj q hn)];exact q) λc xs q=>by rw[bF (fj q hn)];exact q
end
def Rd (H:Hp) (a:Addr) (u:HO):Prop:=H a=some u\/∃o,H a=some (.frz o u)
theorem Rd.ok {P:Program} {w:World} {H:Hp} {h:Heap} {a:Addr} {u:HO} (r:Rd H a u) (x:Ao P w H h):fI P w H h a u:=by
 rcases r with r | ⟨o,r⟩
 ·exact x a u r
 ·obtain ⟨_,q⟩:=x a _ r;exact q
def Q4:Option HO->Prop
 | some (.lst _)=>True
 | some (.dK _)=>True
 | some (.dT _)=>True
 | some (.set _ _)=>True
 | some (.ins _ _ _)=>True
 | some (.ext _)=>True
 | _=>False
section
variable {P:Program} {w:World} {H:Hp} {h h':Heap} {x e:Addr} {o':HO}
theorem Ao.write (ok:Ao P w H h) (mu:Q4 (H x)) (he:e=x\/H e=some (.own x)) (k:∀b u,b≠e->h.get? b=some u->h'.get? b=some u) (heo:∃u,h'.get? e=some u)
  (new:fI P w (upd H x o') h' x o'):Ao P w (upd H x o') h':=λb u q=>by
 have nown:∀c y,H c=some (.own y)->c≠x:=λc y r z=>by subst z;rw[r] at mu;exact mu
 have ntup:∀c xs,H c=some (.tup xs)->c≠x:=λc xs r z=>by subst z;rw[r] at mu;exact mu
 by_cases hb:b=x
 ·subst hb;rw[aI] at q;cases q;exact new
 ·rw[bF hb] at q;by_cases hbe:b=e
  ·have q':H b=some (.own x):=by
    rcases he with z | z
    ·exact absurd (hbe.trans z) hb
    ·rw[hbe];exact z
   rw[q] at q';cases q';obtain ⟨v,hv⟩:=heo;exact ⟨v,by rw[hbe];exact hv⟩
  ·refine (ok b u q).stay (λc v hc r=>k c v ?_ r) (λc r=>by rw[bF (nown c b r)];exact r) λc xs r=>by rw[bF (ntup c xs r)];exact r
   rcases hc with rfl | hc
   ·exact hbe
   ·rintro rfl;rcases he with z | z
    ·exact nown c b hc z
    ·rw[hc] at z;cases z;exact hb rfl
end
structure Un (fs ex:List Addr) (H H':Hp) (h h':Heap):Prop where
 keep:∀b o,h.get? b=some o->H b=none->b∉fs->b∉ex->h'.get? b=some o
 slot:∀b o,h.get? b=some o->H b=none->b∈fs->b∉ex->∃sl,h'.get? b=some { o with slots:=sl }
 free:∀b o,h.get? b=some o->H b=none->b∉ex->H' b=none
 there:∀b o,h.get? b=some o->b∉ex->∃o',h'.get? b=some o'
 tups:∀b xs,H b=some (.tup xs)->H' b=some (.tup xs)
 frzs:∀b o u,H b=some (.frz o u)->H' b=some (.frz o u)
 tbls:∀b ps,H b=some (.tbl ps)->∃more,H' b=some (.tbl (ps++more))
section
variable {fs fs' ex ex':List Addr} {H H1 H2:Hp} {h h1 h2 h':Heap} {a x e:Addr} {o:HO}
theorem Un.any (u:Un fs ex H H1 h h1) {b:Addr} {ob:Obj} (q:h.get? b=some ob) (n:H b=none) (hx:b∉ex):∃sl,h1.get? b=some { ob with slots:=sl }:=by
 by_cases hb:b∈fs
 ·exact u.slot b ob q n hb hx
 ·exact ⟨ob.slots,u.keep b ob q n hb hx⟩
theorem Un.kept (k:∀b u,h.get? b=some u->h'.get? b=some u):Un fs ex H H h h' :=
 ⟨λb ob q _ _ _=>k b ob q,λb ob q _ _ _=>⟨ob.slots,k b ob q⟩,λ_ _ _ n _=>n,λb ob q _=>⟨ob,k b ob q⟩,λ_ _ q=>q,λ_ _ _ q=>q,λ_ ps q=>⟨#[],by rw[q];simp⟩⟩
theorem Un.refl:Un fs ex H H h h:=Un.kept λ_ _ q=>q
theorem Un.laid (k:∀b u,h.get? b=some u->h'.get? b=some u) (hp:h.objs.size<=a) (hn:H a=none):Un fs ex H (upd H a o) h h' where
 keep:=λb u q _ _ _=>k b u q
 slot:=λb u q _ _ _=>⟨u.slots,k b u q⟩
 free:=λb u q n _=>by rw[bF (cG (bH (Heap.lt_size q) hp))];exact n
 there:=λb u q _=>⟨u,k b u q⟩
 tups:=λb xs q=>by rw[bF (fj q hn)];exact q
 frzs:=λb u xs q=>by rw[bF (fj q hn)];exact q
 tbls:=λb ps q=>⟨#[],by rw[bF (fj q hn),q];simp⟩
theorem Un.write (mu:Q4 (H x)) (he:e=x\/H e=some (.own x)) (k:∀b u,b≠e->h.get? b=some u->h'.get? b=some u) (heo:∃u,h'.get? e=some u):Un fs ex H (upd H x o) h h':=by
 have hx:∀b,H b=none->b≠x:=λb n z=>by subst z;rw[n] at mu;exact mu
 have hb:∀b,H b=none->b≠e:=λb n z=>by
  subst z;rcases he with r | r
  ·exact hx b n r
  ·rw[n] at r;cases r
 have hm:∀b u,H b=some u->¬Q4 (some u)->b≠x:=λb u q nm z=>by subst z;rw[q] at mu;exact nm mu
 refine ⟨λb u q n _ _=>k b u (hb b n) q,λb u q n _ _=>⟨u.slots,k b u (hb b n) q⟩,λb u q n _=>by rw[bF (hx b n)];exact n,λb u q _=>?_,
  λb xs q=>by rw[bF (hm b _ q λz=>z)];exact q,λb u xs q=>by rw[bF (hm b _ q λz=>z)];exact q,λb ps q=>⟨#[],by rw[bF (hm b _ q λz=>z),q];simp⟩⟩
 by_cases hbe:b=e
 ·subst hbe;exact heo
 ·exact ⟨u,k b u hbe q⟩
end
def QX (h:Heap) (H:Hp):List Addr:=(List.range h.objs.size).filter λa=>(H a).isSome
def ED (h:Heap) (H:Hp):Heap:=PySem.W.hideAll h (QX h H)
theorem JP (h:Heap) (H:Hp):(ED h H).objs.size=h.objs.size:=PySem.W.hideAll_size _ _
theorem Ll {h:Heap} {H:Hp} {b:Addr} {o:Obj} (e:h.get? b=some o) (n:H b=none):(ED h H).get? b=some o :=
 PySem.W.hideAll_get _ e λhm=>by
  have q:(H b).isSome=true:=(og.mp hm).2;rw[n] at q;simp at q
theorem MU {h:Heap} {H:Hp} {b:Addr} {o:Obj} (e:(ED h H).get? b=some o):h.get? b=some o/\H b=none:=by
 have e':h.get? b=some o:=PySem.W.of_hideAll (QX h H) e;refine ⟨e',?_⟩;cases q:H b with
 | none=>rfl
 | some x =>
  have hm:b∈QX h H:=og.mpr ⟨wM.mpr (Heap.lt_size e'),by simp [q]⟩;have z:(ED h H).get? b=none:=PySem.W.hideAll_none (QX h H) hm;rw[z] at e;cases e
structure Mod (K:FG9) (mg:Str->Option Value) (base:Heap):Prop where
 kin:K.In base
 glob:base.Ns mainGlobals mg
 blt:∃mb,base.Ns builtinsNs mb/\∀x:Str,x≠"__name__"->mb x=bootBuiltins x
 nolimit:base.NoLimit
structure Cx where
 prog:Program
 w:World
 K:FG9
 mg:Str->Option Value
 base:Heap
 A:Around
 N:List Str
 s₀:Shared
 H₀:Hp
 env:Env
 outer:List Env
 stack:List Env
 ex:List Addr
 fn:Str->Bool
 calm:Bool
 pn:List (Addr×Obj)
 xe:Value->Shared->Prop
def J7 (l:List Env):List Addr:=l.filterMap (·.frame)
abbrev Cx.fs (X:Cx):List Addr:=J7 X.outer
def RC (sc:Scope) (x:Str):Prop:=sc.names.lookup x=some .local\/sc.names.lookup x=some .cell\/sc.names.lookup x=some .free
def Loc (sc:Scope) (x:Str):Prop:=sc.names.lookup x=some .local\/sc.names.lookup x=some .cell
def Look (env:Env) (h:Heap) (m:Str->Option Value) (x:Str) (u:Value):Prop :=
 (env.kindOf x=some .local/\m x=some u)\/((env.kindOf x=some .cell\/env.kindOf x=some .free)/\∃c,env.cells.lookup x=some c/\h.IsCell c (some u))
structure Cx.Ok (X:Cx):Prop where
 mod:Mod X.K X.mg X.base
 kind:X.env.scope.kind=.function
 glob:X.env.globals=mainGlobals
 blt:X.env.builtins=builtinsNs
 above:X.s₀.heap.objs.size<=X.env.locals
 inj:∀x y c,X.env.cells.lookup x=some c->X.env.cells.lookup y=some c->x=y
 has:∀x,(X.env.kindOf x=some .cell\/X.env.kindOf x=some .free)->∃c,X.env.cells.lookup x=some c
 cab:∀x c,X.fn x=true->X.env.cells.lookup x=some c->X.s₀.heap.objs.size<=c
 hd:X.calm=true->X.A.handled=none
 frames:X.A.frames=some X.stack
 stk:X.stack=X.outer\/(X.stack=X.env :: X.outer/\X.env.frame=some X.env.locals)
 exf:∀b∈X.ex,b≠X.env.locals/\∀x c,X.env.cells.lookup x=some c->c≠b
 bs:∀b o,X.base.get? b=some o->X.s₀.heap.get? b=some o/\X.H₀ b=none
 bsz:X.base.objs.size<=X.s₀.heap.objs.size
 noex:∀b o,X.base.get? b=some o->b∉X.ex
 exfs:∀b∈X.ex,b∉X.fs
 funs:X.s₀.heap.FunFrames X.base X.outer
 frf:∀b∈X.fs,X.H₀ b=none
structure Inv (X:Cx) (pins:List (Addr×Obj)) (σ:List (Option V)) (H:Hp) (s:Shared):Prop where
 ok:X.Ok
 os:s.os=X.s₀.os
 bare:AllBare s.gens
 base:Un X.fs X.ex X.H₀ H X.s₀.heap s.heap
 loc:∃m,s.heap.Ns X.env.locals m/\∀(i:Nat) (x:Str) (v:V),X.N[i]?=some x->σ[i]?=some (some v)->RC X.env.scope x->∃u,RelV v u/\Look X.env s.heap m x u
 cell:∀x c,X.env.cells.lookup x=some c->∃v,s.heap.IsCell c v
 free:H X.env.locals=none
 freeC:∀x c,X.env.cells.lookup x=some c->H c=none
 pin:∀p∈X.pn++pins,s.heap.get? p.1=some p.2/\H p.1=none/\p.1≠X.env.locals/\p.1∉X.fs/\∀v,p.2.data≠.cell v
 hok:Ao X.prog X.w H s.heap
 len:σ.length=X.N.length
section
variable {X:Cx} {pins:List (Addr×Obj)} {σ:List (Option V)} {H H':Hp} {s:Shared} {h':Heap}
theorem Cx.Ok.nofr (ok:X.Ok) {b:Addr} {o:Obj} (e:X.base.get? b=some o):b∉X.fs:=λhb=>by
 have:=(ok.funs.mem hb).1;rw[e] at this;cases this
theorem Inv.bs (I:Inv X pins σ H s):∀b o,X.base.get? b=some o->s.heap.get? b=some o/\H b=none:=λb o e =>
 ⟨I.base.keep b o (I.ok.bs b o e).1 (I.ok.bs b o e).2 (I.ok.nofr e) (I.ok.noex b o e),I.base.free b o (I.ok.bs b o e).1 (I.ok.bs b o e).2 (I.ok.noex b o e)⟩
theorem Inv.bk (I:Inv X pins σ H s):∀b o,X.base.get? b=some o->s.heap.get? b=some o:=λb o e=>(I.bs b o e).1
theorem Inv.mod (I:Inv X pins σ H s):Mod X.K X.mg X.base:=I.ok.mod
theorem Inv.kIn (I:Inv X pins σ H s):X.K.In s.heap:=I.ok.mod.kin.keeps I.bk
theorem Inv.lt (I:Inv X pins σ H s):X.env.locals < s.heap.objs.size:=let ⟨_,hn,_⟩:=I.loc;hn.lt
theorem Inv.sz (I:Inv X pins σ H s):X.s₀.heap.objs.size<=s.heap.objs.size:=ai I.ok.above (bg I.lt)
theorem Inv.nofs (I:Inv X pins σ H s) {a:Addr} (h:s.heap.objs.size<=a):a∉X.fs:=λhb=>by
 obtain ⟨_,o,ho,_⟩:=I.ok.funs.mem hb;exact absurd (bH (Heap.lt_size ho) (ai I.sz h)) (dP _)
theorem Inv.cne (I:Inv X pins σ H s):∀x c,X.env.cells.lookup x=some c->c≠X.env.locals:=λx c e z=>by
 obtain ⟨v,o,ho,hd⟩:=I.cell x c e;obtain ⟨m,⟨o',es,ep,ho',hd',_⟩,_⟩:=I.loc;rw[z,ho'] at ho;cases ho;rw[hd'] at hd;cases hd
theorem Inv.funs (I:Inv X pins σ H s):s.heap.FunFrames X.base X.outer:=by
 have all:∀(l:List Env),(∀b∈J7 l,b∈X.fs)->X.s₀.heap.FunFrames X.base l->s.heap.FunFrames X.base l:=by
  intro l
  induction l with
  | nil=>intro _ _;trivial
  | cons env r ih =>
   intro hs hl;obtain ⟨hk,⟨L,o,hf,hn,ho,hd⟩,hr⟩:=hl;have hL:L∈X.fs:=hs L (by unfold J7;rw[E5,hf];exact cT);obtain ⟨sl,e⟩:=I.base.slot L o ho (I.ok.frf L hL) hL λz=>I.ok.exfs L z hL
   exact ⟨hk,⟨L,_,hf,hn,e,hd⟩,ih (λb hb=>hs b (by unfold J7;rw[E5,hf];exact bT _ hb)) hr⟩
 exact all X.outer (λ_ hb=>hb) I.ok.funs
theorem Inv.stack (I:Inv X pins σ H s):s.heap.FunFrames X.base X.stack:=by
 rcases I.ok.stk with e | ⟨e,hf⟩
 ·rw[e];exact I.funs
 ·rw[e];obtain ⟨m,hn,_⟩:=I.loc;refine .cons (by rw[I.ok.kind];decide) hf hn ?_ I.funs;exact Heap.get?_none_of_le (ai I.ok.bsz I.ok.above)
theorem Inv.stkSub (I:Inv X pins σ H s):∀b∈J7 X.stack,b∈X.env.locals :: X.fs:=λb hb=>by
 rcases I.ok.stk with e | ⟨e,hf⟩
 ·rw[e] at hb;exact bT _ hb
 ·rw[e] at hb;unfold J7 at hb;rw[E5,hf] at hb;exact hb
theorem Inv.stkFree (I:Inv X pins σ H s):∀b∈J7 X.stack,H b=none:=λb hb=>by
 rcases aE.mp (I.stkSub b hb) with e | hb
 ·rw[e];exact I.free
 ·obtain ⟨_,o,ho,_⟩:=I.ok.funs.mem hb;exact I.base.free b o ho (I.ok.frf b hb) λz=>I.ok.exfs b z hb
theorem Inv.step {g':Array GenState} {t':Nat} {d':Drawn} {ch:List Addr} (I:Inv X pins σ H s)
  (hch:∀b∈ch,(b∈X.ex\/X.s₀.heap.objs.size<=b)/\b≠X.env.locals/\(∀x c,X.env.cells.lookup x=some c->c≠b)/\∀p∈X.pn++pins,p.1≠b)
  (keep:∀b o,b≠X.env.locals->b∉X.fs->b∉ch->s.heap.get? b=some o->H b=none->h'.get? b=some o)
  (slot:∀b o,b≠X.env.locals->b∈X.fs->b∉ch->s.heap.get? b=some o->H b=none->∃sl,h'.get? b=some { o with slots:=sl }) (free:∀b o,b∉ch->s.heap.get? b=some o->H b=none->H' b=none)
  (there:∀b o,b∉ch->s.heap.get? b=some o->∃o',h'.get? b=some o')
  (tups:∀b xs,H b=some (.tup xs)->H' b=some (.tup xs)) (frzs:∀b o u,H b=some (.frz o u)->H' b=some (.frz o u)) (tbls:∀b ps,H b=some (.tbl ps)->∃more,H' b=some (.tbl (ps++more)))
  (ns:∀m,s.heap.Ns X.env.locals m->h'.Ns X.env.locals m) (hok:Ao X.prog X.w H' h') (hg:AllBare g') :
  Inv X pins σ H' { s with heap:=h',gens:=g',drawn:=d',toks:=t' }:=by
 have neL:∀b o,X.s₀.heap.get? b=some o->b≠X.env.locals:=λb o e=>cG (bH (Heap.lt_size e) I.ok.above)
 have neC:∀b o,X.s₀.heap.get? b=some o->b∉X.ex->b∉ch:=λb o e hx hb=>by
  rcases (hch b hb).1 with z | z
  ·exact hx z
  ·exact absurd (bH (Heap.lt_size e) z) (dP _)
 have cellK:∀x c,X.env.cells.lookup x=some c->∀v,s.heap.IsCell c v->h'.IsCell c v:=λx c e v ⟨o,ho,hd⟩=>by
  have nch:c∉ch:=λz=>(hch c z).2.2.1 x c e rfl
  by_cases hc:c∈X.fs
  ·obtain ⟨sl,q⟩:=slot c o (I.cne x c e) hc nch ho (I.freeC x c e);exact ⟨_,q,hd⟩
  ·exact ⟨o,keep c o (I.cne x c e) hc nch ho (I.freeC x c e),hd⟩
 refine ⟨I.ok,I.os,hg,⟨λb o e n hb hx=>?_,λb o e n hb hx=>?_,λb o e n hx=>?_,λb o e hx=>?_,λb xs e=>tups b xs (I.base.tups b xs e),λb o xs e=>frzs b o xs (I.base.frzs b o xs e),λb ps e=>?_⟩,?_,λx c e=>?_,?_,λx c e=>?_,λp hp=>?_,hok,I.len⟩
 ·exact keep b o (neL b o e) hb (neC b o e hx) (I.base.keep b o e n hb hx) (I.base.free b o e n hx)
 ·obtain ⟨sl,e1⟩:=I.base.slot b o e n hb hx;obtain ⟨sl',e2⟩:=slot b _ (neL b o e) hb (neC b o e hx) e1 (I.base.free b o e n hx);exact ⟨sl',e2⟩
 ·obtain ⟨o',e1⟩:=I.base.there b o e hx;exact free b o' (neC b o e hx) e1 (I.base.free b o e n hx)
 ·obtain ⟨o',e1⟩:=I.base.there b o e hx;exact there b o' (neC b o e hx) e1
 ·obtain ⟨m1,e1⟩:=I.base.tbls b ps e;obtain ⟨m2,e2⟩:=tbls b _ e1;exact ⟨m1++m2,by rw[e2,Array.append_assoc]⟩
 ·obtain ⟨m,hn,hl⟩:=I.loc;refine ⟨m,ns m hn,λi x v e1 e2 e3=>?_⟩;obtain ⟨u,r,l⟩:=hl i x v e1 e2 e3;refine ⟨u,r,?_⟩;rcases l with l | ⟨k,c,e,z⟩
  ·exact .inl l
  ·exact .inr ⟨k,c,e,cellK x c e _ z⟩
 ·obtain ⟨v,z⟩:=I.cell x c e;exact ⟨v,cellK x c e v z⟩
 ·obtain ⟨m,⟨o,_,_,ho,_⟩,_⟩:=I.loc;exact free _ o (λz=>(hch _ z).2.1 rfl) ho I.free
 ·obtain ⟨v,o,ho,hd⟩:=I.cell x c e;exact free c o (λz=>(hch c z).2.2.1 x c e rfl) ho (I.freeC x c e)
 ·obtain ⟨e,n,ne,nf,d⟩:=I.pin p hp;have nch:p.1∉ch:=λz=>(hch p.1 z).2.2.2 p hp rfl
  exact ⟨keep p.1 p.2 ne nf nch e n,free p.1 p.2 nch e n,ne,nf,d⟩
theorem Inv.un {t':Nat} (I:Inv X pins σ H s) (u:Un X.fs [] H H' s.heap h') (hok:Ao X.prog X.w H' h'):Inv X pins σ H' { s with heap:=h',toks:=t' }:=by
 obtain ⟨m,⟨o,es,ep,ho,r⟩,_⟩:=id I.loc;obtain ⟨sl,hL⟩:=u.any ho I.free (by simp)
 exact I.step (g':=s.gens) (d':=s.drawn) (ch:=[]) (λ_ z=>nomatch z) (λb o _ hb _ e n=>u.keep b o e n hb (by simp)) (λb o _ hb _ e n=>u.slot b o e n hb (by simp)) (λb o _ e n=>u.free b o e n (by simp)) (λb o _ e=>u.there b o e (by simp)) u.tups u.frzs u.tbls (λm' hm=>by
  obtain ⟨o',es',ep',ho',r'⟩:=hm;rw[ho] at ho';cases ho';exact ⟨_,es',ep',hL,r'⟩) hok I.bare
theorem Inv.call {g':Array GenState} {t':Nat} {d':Drawn} {ch:List Addr} (I:Inv X pins σ H s) (u:Un (J7 X.stack) ch H H' s.heap h') (hok:Ao X.prog X.w H' h') (hg:AllBare g')
  (hch:∀b∈ch,(b∈X.ex\/X.s₀.heap.objs.size<=b)/\b≠X.env.locals/\(∀x c,X.env.cells.lookup x=some c->c≠b)/\∀p∈X.pn++pins,p.1≠b) :
  Inv X pins σ H' { s with heap:=h',gens:=g',drawn:=d',toks:=t' }:=by
 obtain ⟨m,⟨o,es,ep,ho,r⟩,_⟩:=id I.loc;obtain ⟨sl,hL⟩:=u.any ho I.free λz=>(hch _ z).2.1 rfl
 exact I.step (ch:=ch) hch (λb o hL hb hc e n=>u.keep b o e n (λz=>(aE.mp (I.stkSub b z)).elim hL hb) hc) (λb o _ _ hc e n=>u.any e n hc) (λb o hc e n=>u.free b o e n hc) (λb o hc e=>u.there b o e hc) u.tups u.frzs u.tbls (λm' hm=>by
  obtain ⟨o',es',ep',ho',r'⟩:=hm;rw[ho] at ho';cases ho';exact ⟨_,es',ep',hL,r'⟩) hok hg
theorem Inv.turned {t':Nat} {it:Addr} (I:Inv X pins σ H s) (k:∀b o,b≠it->s.heap.get? b=some o->h'.get? b=some o) (hn:H it=none) (hL:it≠X.env.locals)
  (h1:it∈X.ex\/X.s₀.heap.objs.size<=it) (h2:∀x c,X.env.cells.lookup x=some c->c≠it) (h3:∀p∈X.pn++pins,p.1≠it):Inv X pins σ H { s with heap:=h',toks:=t' }:=by
 have nit:∀b u,H b=some u->b≠it:=λb u e z=>by rw[z,hn] at e;cases e
 refine I.step (g':=s.gens) (d':=s.drawn) (ch:=[it]) (λb hb=>?_) (λb o _ _ hc e _=>k b o (λz=>hc (by simp [z])) e) (λb o _ _ hc e _=>⟨o.slots,k b o (λz=>hc (by simp [z])) e⟩) (λ_ _ _ _ n=>n)
  (λb o hc e=>⟨o,k b o (λz=>hc (by simp [z])) e⟩) (λ_ _ e=>e) (λ_ _ _ e=>e) (λb ps e=>⟨#[],by rw[e];simp⟩) (λm hm=>?_) (λb u e=>?_) I.bare
 ·have e:b=it:=by simpa using hb
  subst e;exact ⟨h1,hL,h2,h3⟩
 ·obtain ⟨o,es,ep,ho,r⟩:=hm;exact ⟨o,es,ep,k _ o (Ne.symm hL) ho,r⟩
 ·refine (I.hok b u e).stay (λc v hc q=>k c v ?_ q) (λ_ q=>q) λ_ _ q=>q
  rcases hc with z | z
  ·rw[z];exact nit b u e
  ·exact nit c _ z
theorem Inv.tok (I:Inv X pins σ H s) (t:Nat):Inv X pins σ H { s with toks:=t }:=I.un (h':=s.heap) (t':=t) Un.refl I.hok
theorem Inv.kept {t':Nat} (I:Inv X pins σ H s) (k:∀b u,s.heap.get? b=some u->h'.get? b=some u):Inv X pins σ H { s with heap:=h',toks:=t' }:=I.un (Un.kept k) (I.hok.kept k)
theorem Inv.laid {a:Addr} {o:HO} {t':Nat} (I:Inv X pins σ H s) (k:∀b u,s.heap.get? b=some u->h'.get? b=some u) (hp:s.heap.objs.size<=a) (new:fI X.prog X.w (upd H a o) h' a o) :
  Inv X pins σ (upd H a o) { s with heap:=h',toks:=t' }:=I.un (Un.laid k hp (I.hok.fresh hp)) (I.hok.laid k hp new)
theorem Inv.write {x e:Addr} {o:HO} {t':Nat} (I:Inv X pins σ H s) (mu:Q4 (H x)) (he:e=x\/H e=some (.own x)) (k:∀b u,b≠e->s.heap.get? b=some u->h'.get? b=some u) (heo:∃u,h'.get? e=some u)
  (new:fI X.prog X.w (upd H x o) h' x o):Inv X pins σ (upd H x o) { s with heap:=h',toks:=t' }:=I.un (Un.write mu he k heo) (I.hok.write mu he k heo new)
theorem Inv.pins_of {pins':List (Addr×Obj)} (I:Inv X pins σ H s) (h:∀p∈pins',s.heap.get? p.1=some p.2/\H p.1=none/\p.1≠X.env.locals/\p.1∉X.fs/\∀v,p.2.data≠.cell v):Inv X pins' σ H s :=
 ⟨I.ok,I.os,I.bare,I.base,I.loc,I.cell,I.free,I.freeC,λp hp=>(ax.mp hp).elim (λz=>I.pin p (hJ _ z)) (h p),I.hok,I.len⟩
theorem FR {N:List Str} (hN:N.Nodup) {i j:Nat} {x:Str} (a:N[i]?=some x) (b:N[j]?=some x):i=j:=by
 obtain ⟨h1,e1⟩:=aD.mp a;obtain ⟨h2,e2⟩:=aD.mp b;exact (List.getElem_inj hN).mp (e1.trans e2.symm)
theorem CN {M:Model} {A:Around} {E:Value->Shared->Prop} {i:Nat} {x:Str} {v:V} {u:Value} {Q:Unit->Shared->Prop} (I:Inv X pins σ H s) (hN:X.N.Nodup) (hi:X.N[i]?=some x) (hx:Loc X.env.scope x) (r:RelV v u)
  (h:∀s',Inv X pins (σ.set i (some v)) H s'->(∃a,Heap.SameBut a s.heap s'.heap/\(a=X.env.locals\/X.env.cells.lookup x=some a))->Q () s') (hf:X.fn x=true\/X.env.scope.names.lookup x=some .local:=by first | exact .inl rfl | exact .inr rfl | assumption):wpAny M A (storeName X.env x u) Q E s:=by
 obtain ⟨m,hn,hl⟩:=id I.loc;have hcls:(X.env.scope.kind == .class || (X.env.scope.kind == .module && X.env.locals != X.env.globals))=false:=by rw[I.ok.kind];rfl
 have hiσ:i < σ.length:=by rw[I.len];exact (aD.mp hi).1
 have cne:=I.cne
 have tracked:∀{a:Addr} {h':Heap},(∃o,s.heap.get? a=some o/\H a=none)->Heap.SameBut a s.heap h'->Ao X.prog X.w H h':=λ{a h'} ha hs b ob e=>by
  obtain ⟨_,_,hfree⟩:=ha;refine (I.hok b ob e).stay (λc w' hc q=>(hs.2 c ?_).trans q) (λ_ q=>q) λ_ _ q=>q
  rintro rfl;rcases hc with rfl | hc
  ·rw[hfree] at e;cases e
  ·rw[hfree] at hc;cases hc
 rcases hx with hk | hk
 ·refine wpAny_storeName_local hk hn (λh' hn' hs=>?_) hcls;obtain ⟨oL,_,_,hoL,_⟩:=id hn;refine h _ ⟨I.ok,I.os,I.bare,⟨λb o e n hb hx=>?_,λb o e n hb hx=>?_,I.base.free,λb o e hx=>?_,I.base.tups,I.base.frzs,I.base.tbls⟩,⟨_,hn',λj y v' e1 e2 e3=>?_⟩,λy c e=>?_,I.free,I.freeC,λp hp=>?_,tracked ⟨oL,hoL,I.free⟩ hs,by simpa using I.len⟩ ⟨_,hs,.inl rfl⟩
  ·exact (hs.2 b (cG (bH (Heap.lt_size e) I.ok.above))).trans (I.base.keep b o e n hb hx)
  ·obtain ⟨sl,e1⟩:=I.base.slot b o e n hb hx;exact ⟨sl,(hs.2 b (cG (bH (Heap.lt_size e) I.ok.above))).trans e1⟩
  ·obtain ⟨o',e1⟩:=I.base.there b o e hx;exact ⟨o',(hs.2 b (cG (bH (Heap.lt_size e) I.ok.above))).trans e1⟩
  ·by_cases hj:j=i
   ·subst hj;rw[hi] at e1;cases e1;rw[List.getElem?_set_self hiσ] at e2;cases e2;exact ⟨u,r,.inl ⟨hk,by simp⟩⟩
   ·rw[List.getElem?_set_ne (Ne.symm hj)] at e2;obtain ⟨u',r',q⟩:=hl j y v' e1 e2 e3;refine ⟨u',r',?_⟩;rcases q with ⟨k,e⟩ | ⟨k,c,e,z⟩
    ·refine .inl ⟨k,?_⟩;have:y≠x:=λe=>hj (FR hN e1 (e ▸ hi))
     simp [this,e]
    ·exact .inr ⟨k,c,e,z.sameBut hs (cne y c e)⟩
  ·obtain ⟨w',z⟩:=I.cell y c e;exact ⟨w',z.sameBut hs (cne y c e)⟩
  ·obtain ⟨e,n,ne,nf,d⟩:=I.pin p hp;exact ⟨(hs.2 p.1 ne).trans e,n,ne,nf,d⟩
 ·have hfn:X.fn x=true:=by
   rcases hf with z | z
   ·exact z
   ·rw[z] at hk;cases hk
  obtain ⟨c,hc⟩:=I.ok.has x (.inl hk);obtain ⟨w',z⟩:=I.cell x c hc;refine wpAny_storeName_cell I.ok.kind hk hc z (λh' hc' hs=>?_);obtain ⟨oc,hoc,hocd⟩:=id z;refine h { s with heap:=h' } ⟨I.ok,I.os,I.bare,⟨λb o e n hb hx=>?_,λb o e n hb hx=>?_,I.base.free,λb o e hx=>?_,I.base.tups,I.base.frzs,I.base.tbls⟩,⟨m,hn.sameBut hs (Ne.symm (cne x c hc)),λj y v' e1 e2 e3=>?_⟩,λy c' e=>?_,I.free,I.freeC,λp hp=>?_,tracked ⟨oc,hoc,I.freeC x c hc⟩ hs,by simpa using I.len⟩ ⟨c,hs,.inr hc⟩
  ·exact (hs.2 b (cG (bH (Heap.lt_size e) (I.ok.cab x c hfn hc)))).trans (I.base.keep b o e n hb hx)
  ·obtain ⟨sl,e1⟩:=I.base.slot b o e n hb hx;exact ⟨sl,(hs.2 b (cG (bH (Heap.lt_size e) (I.ok.cab x c hfn hc)))).trans e1⟩
  ·obtain ⟨o',e1⟩:=I.base.there b o e hx;exact ⟨o',(hs.2 b (cG (bH (Heap.lt_size e) (I.ok.cab x c hfn hc)))).trans e1⟩
  ·by_cases hj:j=i
   ·subst hj;rw[hi] at e1;cases e1;rw[List.getElem?_set_self hiσ] at e2;cases e2;exact ⟨u,r,.inr ⟨.inl hk,c,hc,hc'⟩⟩
   ·rw[List.getElem?_set_ne (Ne.symm hj)] at e2;obtain ⟨u',r',q⟩:=hl j y v' e1 e2 e3;refine ⟨u',r',?_⟩;rcases q with q | ⟨k,c',e,z'⟩
    ·exact .inl q
    ·refine .inr ⟨k,c',e,z'.sameBut hs ?_⟩;rintro rfl;exact hj (FR hN e1 (I.ok.inj _ _ _ e hc ▸ hi))
  ·by_cases hcc:c'=c
   ·subst hcc;exact ⟨_,hc'⟩
   ·obtain ⟨w2,z2⟩:=I.cell y c' e;exact ⟨w2,z2.sameBut hs hcc⟩
  ·obtain ⟨e,n,ne,nf,d⟩:=I.pin p hp;refine ⟨(hs.2 p.1 ?_).trans e,n,ne,nf,d⟩;intro q;rw[q,hoc] at e;have q':oc=p.2:=bY e;exact d w' (by rw[<- q'];exact hocd)
theorem xy {M:Model} {A:Around} {E:Value->Shared->Prop} {i:Nat} {x:Str} {v:V} {u:Value} {Q:Unit->Shared->Prop} (I:Inv X pins σ H s) (hN:X.N.Nodup) (hi:X.N[i]?=some x) (hx:Loc X.env.scope x) (r:RelV v u)
  (h:∀s',Inv X pins (σ.set i (some v)) H s'->Q () s') (hf:X.fn x=true\/X.env.scope.names.lookup x=some .local:=by first | exact .inl rfl | exact .inr rfl | assumption):wpAny M A (storeName X.env x u) Q E s :=
 CN I hN hi hx r (λs' I' _=>h s' I') hf
theorem Inv.call' {s':Shared} {ch:List Addr} (I:Inv X pins σ H s) (ho:s'.os=s.os) (u:Un (J7 X.stack) ch H H' s.heap s'.heap) (hok:Ao X.prog X.w H' s'.heap) (hg:AllBare s'.gens)
  (hch:∀b∈ch,(b∈X.ex\/X.s₀.heap.objs.size<=b)/\b≠X.env.locals/\(∀x c,X.env.cells.lookup x=some c->c≠b)/\∀p∈X.pn++pins,p.1≠b):Inv X pins σ H' s':=by
 obtain ⟨h',g',d',t',o'⟩:=s';have e:o'=s.os:=ho;subst e;exact I.call (g':=g') (t':=t') (d':=d') u hok hg hch
end
abbrev XK:=Value->Option Addr->Hp->Prop
abbrev St:=List (Option V)
abbrev VK:=V->Hp->Prop
abbrev TE:=St->Hp->VK->Prop
abbrev TT:=St->Hp->(Bool->Hp->Prop)->Prop
abbrev TA:=St->Hp->(List V->Hp->Prop)->Prop
structure Ends where
 nx:St->Hp->Prop
 rt:VK
 bk:St->Hp->Prop:=λ_ _=>False
 ct:St->Hp->Prop:=λ_ _=>False
abbrev TS:=Ends->St->Hp->Prop
def EP (X:Cx) (pins:List (Addr×Obj)) (σ:St) (Q:VK) (u:Value) (s':Shared):Prop:=∃v H',Inv X pins σ H' s'/\RelV v u/\Q v H'
def TP (X:Cx) (pins:List (Addr×Obj)) (σ:St) (Q:Bool->Hp->Prop) (b:Bool) (s':Shared):Prop:=∃H',Inv X pins σ H' s'/\Q b H'
def AP (X:Cx) (pins:List (Addr×Obj)) (σ:St) (Q:List V->Hp->Prop) (us:List Value) (s':Shared):Prop:=∃vs H',Inv X pins σ H' s'/\cK vs us/\Q vs H'
def SP (X:Cx) (pins:List (Addr×Obj)) (D:Ends) (f:Flow) (s':Shared):Prop :=
 match f with
 | .next=>∃σ' H',Inv X pins σ' H' s'/\D.nx σ' H'
 | .brk=>∃σ' H',Inv X pins σ' H' s'/\D.bk σ' H'
 | .cont=>∃σ' H',Inv X pins σ' H' s'/\D.ct σ' H'
 | .ret u=>∃v σ' H',Inv X pins σ' H' s'/\RelV v u/\D.rt v H'
def PE (X:Cx) (e:Expr) (t:TE):Prop :=
 ∀(pins:List (Addr×Obj)) (s:Shared) (σ:St) (H:Hp) (Q:VK),Inv X pins σ H s->t σ H Q->wpAny (model X.prog X.w) X.A (eval e X.env) (EP X pins σ Q) X.xe s
def PT (X:Cx) (e:Expr) (t:TT):Prop :=
 ∀(pins:List (Addr×Obj)) (s:Shared) (σ:St) (H:Hp) (Q:Bool->Hp->Prop),Inv X pins σ H s->t σ H Q->wpAny (model X.prog X.w) X.A (isTrue e X.env (eval e X.env)) (TP X pins σ Q) X.xe s
def PW (X:Cx) (e:Expr) (t:TT):Prop :=
 ∀(whole:Sem Value) (pins:List (Addr×Obj)) (s:Shared) (σ:St) (H:Hp) (Q:Bool->Hp->Prop),Inv X pins σ H s->t σ H Q->wpAny (model X.prog X.w) X.A (isTrue e X.env whole) (TP X pins σ Q) X.xe s
theorem PW.pt {X:Cx} {e:Expr} {t:TT} (h:PW X e t):PT X e t:=h _
def PA (X:Cx) (es:List Expr) (t:TA):Prop :=
 ∀(pos:Pos) (pins:List (Addr×Obj)) (s:Shared) (σ:St) (H:Hp) (Q:List V->Hp->Prop),Inv X pins σ H s->t σ H Q->wpAny (model X.prog X.w) X.A (spliced (backTo pos (starEach es X.env))) (AP X pins σ Q) X.xe s
def PS (X:Cx) (st:Stmt) (t:TS):Prop :=
 ∀(pins:List (Addr×Obj)) (s:Shared) (σ:St) (H:Hp) (D:Ends),Inv X pins σ H s->t D σ H->wpAny (model X.prog X.w) X.A (exec st X.env) (SP X pins D) X.xe s
def Ik (X:Cx) (st:List Stmt) (t:TS):Prop :=
 ∀(pins:List (Addr×Obj)) (s:Shared) (σ:St) (H:Hp) (D:Ends),Inv X pins σ H s->t D σ H->wpAny (model X.prog X.w) X.A (execs st X.env) (SP X pins D) X.xe s
theorem gO {α:Type} {t:Sem α} {Q Q':α->Shared->Prop} {M:Model} {A:Around} {E:Value->Shared->Prop} {s:Shared} (h:wpAny M A t Q E s) (hQ:∀a s,Q a s->Q' a s):wpAny M A t Q' E s:=wpAny_mono h hQ λ_ _ x=>x
section
variable {X:Cx}
def Og (i:Nat):TE:=λσ H Q=>∃v,σ[i]?=some (some v)/\Q v H
def tC (v:V):TE:=λ_ H Q=>Q v H
theorem OO {i:Nat} {x:Str} {pos:Pos} (hN:X.N[i]?=some x) (hv:RC X.env.scope x) (hd:(x == ("__debug__":Str))=false:=by decide) (hcd:(x == ("__classdict__":Str))=false:=by decide):PE X (.Name x pos) (Og i):=by
 intro pins s σ H Q I h;obtain ⟨v,e,h⟩:=h;obtain ⟨m,hn,hl⟩:=I.loc;obtain ⟨u,r,l⟩:=hl i x v hN e hv;have fin:EP X pins σ Q u s:=⟨v,H,I,r,h⟩;rcases l with ⟨hk,hm⟩ | ⟨hk,c,hc,hcell⟩
 ·exact wpAny_Name (wpAny_loadName_local I.ok.kind hk hn hm fin) hd
 ·rcases hk with hk | hk
  ·exact wpAny_Name (wpAny_loadName_cell I.ok.kind hk hc hcell fin) hd
  ·exact wpAny_Name (wpAny_loadName_free I.ok.kind hk hc hcell fin hcd) hd
theorem ao {i j pos}:PE X (.Constant (.int i) j pos) (tC (.int i)):=λ_ _ _ H _ I h=>wpAny_Constant_int ⟨.int i,H,I.tok _,⟨_,rfl⟩,h⟩
theorem oJ {b j pos}:PE X (.Constant (.bool b) j pos) (tC (.bl b)):=λ_ _ _ H _ I h=>Constant_bool ⟨.bl b,H,I,rfl,h⟩
theorem KN {j pos}:PE X (.Constant .none j pos) (tC .non):=λ_ _ _ H _ I h=>Constant_none ⟨.non,H,I,rfl,h⟩
def Gl (X:Cx) (x:Str):Prop:=X.env.kindOf x=some .globalImplicit
theorem Ez {E:Value->Shared->Prop} {pins:List (Addr×Obj)} {s:Shared} {σ:St} {H:Hp} {x:Str} {u:Value} {pos:Pos} {Q:Value->Shared->Prop} (I:Inv X pins σ H s) (hg:Gl X x) (hm:X.mg x=some u) (h:Q u s)
  (hd:(x == ("__debug__":Str))=false:=by decide):wpAny (model X.prog X.w) X.A (eval (.Name x pos) X.env) Q E s :=
 Calls.Name_function_global I.ok.kind hg (Calls.loadGlobal_global (by rw[I.ok.glob];exact I.mod.glob.keeps I.bk) hm h) hd
theorem oR {E:Value->Shared->Prop} {pins:List (Addr×Obj)} {s:Shared} {σ:St} {H:Hp} {x:Str} {u:Value} {pos:Pos} {Q:Value->Shared->Prop} (I:Inv X pins σ H s) (hg:Gl X x) (hm:X.mg x=none) (hv:bootBuiltins x=some u) (h:Q u s)
  (hn:x≠"__name__":=by decide) (hd:(x == ("__debug__":Str))=false:=by decide):wpAny (model X.prog X.w) X.A (eval (.Name x pos) X.env) Q E s:=by
 obtain ⟨mb,h1,h2⟩:=I.mod.blt;exact Calls.Name_function_global I.ok.kind hg (Calls.loadGlobal_builtin (by rw[I.ok.glob];exact I.mod.glob.keeps I.bk) hm (by rw[I.ok.blt];exact h1.keeps I.bk) ((h2 x hn).trans hv) h) hd
theorem rV {x:Str} {v:V} {u:Value} {pos:Pos} (hg:Gl X x) (hm:X.mg x=some u) (r:RelV v u) (hd:(x == ("__debug__":Str))=false:=by decide):PE X (.Name x pos) (tC v) :=
 λ_ _ _ H _ I h=>Ez I hg hm ⟨v,H,I,r,h⟩ hd
theorem Ac {x:Str} {v:V} {u:Value} {pos:Pos} (hg:Gl X x) (hm:X.mg x=none) (hv:bootBuiltins x=some u) (r:RelV v u) (hn:x≠"__name__":=by decide) (hd:(x == ("__debug__":Str))=false:=by decide):PE X (.Name x pos) (tC v) :=
 λ_ _ _ H _ I h=>oR I hg hm hv ⟨v,H,I,r,h⟩ hn hd
variable {a b:Expr} {ta tb:TE} {pos:Pos}
def tB (t:TE):TT:=λσ H Q=>t σ H λx H1=>∃c,x=.bl c/\Q c H1
theorem fE {e : Expr} {t : TE} (h : PE X e t) (he : ∀ whole, isTrue e X.env whole = (do let v <- whole; standAt e.pos; holding [v] (truthy v)) := by intro _; rfl) : PT X e (tB t) := by
  intro pins s σ H Q I hw;refine isTrue_plain (gO (h pins s σ H _ I hw) λv s1 ⟨x, H1, I1, r1, q1⟩ => ?_) (he _);obtain ⟨d, rfl, q⟩ := q1;cases r1;exact wpAny_truthy_bool ⟨H1, I1, q⟩

variable {tA tB':TT} {rest:List Expr}
def PY (t u:TT):TT:=λσ H Q=>t σ H λc H1=>if c=true then u σ H1 Q else Q false H1
def tOr (t u:TT):TT:=λσ H Q=>t σ H λc H1=>if c=true then Q true H1 else u σ H1 Q
def PR (t:TT):TT:=λσ H Q=>t σ H λc H1=>Q (!c) H1
theorem mZ (ha:PT X a tA):PW X (.BoolOp .And [a] pos) tA:=by
 intro wh pins s σ H Q I h;refine isTrue_and (gO (ha pins s σ H Q I h) λc s1 e=>?_);cases c with
 | true=>exact isTrue_and_nil e
 | false=>exact e
theorem jX (ha:PT X a tA):PW X (.BoolOp .Or [a] pos) tA:=by
 intro wh pins s σ H Q I h;refine isTrue_or (gO (ha pins s σ H Q I h) λc s1 e=>?_);cases c with
 | false=>exact isTrue_or_nil e
 | true=>exact e
theorem kK (ha:PT X a tA) (hb:PW X (.BoolOp .And (b :: rest) pos) tB'):PW X (.BoolOp .And (a :: b :: rest) pos) (PY tA tB'):=by
 intro wh pins s σ H Q I h;refine isTrue_and (gO (ha pins s σ H _ I h) λc s1 ⟨H1,I1,q1⟩=>?_);cases c with
 | true=>exact hb wh pins s1 σ H1 Q I1 q1
 | false=>exact ⟨H1,I1,q1⟩
theorem oI (ha:PT X a tA) (hb:PW X (.BoolOp .Or (b :: rest) pos) tB'):PW X (.BoolOp .Or (a :: b :: rest) pos) (tOr tA tB'):=by
 intro wh pins s σ H Q I h;refine isTrue_or (gO (ha pins s σ H _ I h) λc s1 ⟨H1,I1,q1⟩=>?_);cases c with
 | true=>exact ⟨H1,I1,q1⟩
 | false=>exact hb wh pins s1 σ H1 Q I1 q1
theorem jm (ha:PT X a tA):PT X (.UnaryOp .Not a pos) (PR tA):=by
 intro pins s σ H Q I h;exact isTrue_not (ha pins s σ H (λc H1=>Q (!c) H1) I h)
def ND (ta tb:TE):TE:=λσ H Q=>ta σ H λx H1=>∃c,x=.bl c/\if c=true then tb σ H1 Q else Q (.bl false) H1
def Nx (ta:TE):TE:=λσ H Q=>ta σ H λx H1=>∃c,x=.bl c/\Q (.bl (!c)) H1
theorem Ej {op} {t:TE} (h:PE X a t):PE X (.BoolOp op [a] pos) t:=λpins s σ H Q I hw=>BoolOp_one (h pins s σ H Q I hw)
theorem Ek (ha:PE X a ta) (hb:PE X (.BoolOp .And (b :: rest) pos) tb):PE X (.BoolOp .And (a :: b :: rest) pos) (ND ta tb):=by
 intro pins s σ H Q I h;refine BoolOp_and (gO (ha pins s σ H _ I h) λv s1 ⟨x,H1,I1,r1,q1⟩=>?_);obtain ⟨c,rfl,q1⟩:=q1;cases r1;refine wpAny_truthy_bool ?_;cases c with
 | true=>exact hb pins s1 σ H1 Q I1 q1
 | false=>exact ⟨.bl false,H1,I1,rfl,q1⟩
theorem OP (ha:PE X a ta):PE X (.UnaryOp .Not a pos) (Nx ta):=by
 intro pins s σ H Q I h;refine UnaryOp_ (gO (ha pins s σ H _ I h) λv s1 ⟨x,H1,I1,r1,q1⟩=>?_);obtain ⟨c,rfl,q1⟩:=q1;cases r1;exact not_of (wpAny_truthy_bool ⟨.bl (!c),H1,I1,rfl,q1⟩)
def tIf (t:TT) (ta tb:TE):TE:=λσ H Q=>t σ H λc H1=>if c=true then ta σ H1 Q else tb σ H1 Q
theorem KO {c:Expr} (hc:PT X c tA) (ha:PE X a ta) (hb:PE X b tb):PE X (.IfExp c a b pos) (tIf tA ta tb):=by
 intro pins s σ H Q I h;refine wpAny_IfExp (gO (hc pins s σ H _ I h) λd s1 ⟨H1,I1,q1⟩=>?_);cases d with
 | true=>exact ha pins s1 σ H1 Q I1 q1
 | false=>exact hb pins s1 σ H1 Q I1 q1
end
def bO (K:FG9) (H:Hp) (a:Addr) (xs:List V):Prop :=
 Rd H a (.lst xs) \/
  ∃(o:Obj) (its:Array Value) (n:Nat),K.lookup a=some o/\o.cls=.type "list"/\o.dict=none/\o.data=.seq its n/\its.size<=sizeLine/\cK xs its.toList
def kj (K:FG9) (H:Hp) (a:Addr) (xs:List V):Prop :=
 Rd H a (.tup xs) \/
  ∃(o:Obj) (its:Array Value) (n:Nat),K.lookup a=some o/\o.cls=.type "tuple"/\o.data=.seq its n/\its.size<=sizeLine/\cK xs its.toList
def RB:Value->Option V
 | .none=>some .non
 | .bool b=>some (.bl b)
 | .int i _=>some (.int i)
 | .str x _=>some (.str x)
 | .bytes b _=>some (.byt b)
 | .float b _=>some (.flt b)
 | .ref a=>some (.ref a)
 | .type n=>some (.ty n)
 | _=>none
theorem RelV.abs {x:V} {u:Value} (r:RelV x u):RB u=some x:=by
 cases x with
 | non=>cases r;rfl
 | bl _=>cases r;rfl
 | int _=>obtain ⟨t,rfl⟩:=r;rfl
 | str _=>obtain ⟨t,rfl⟩:=r;rfl
 | byt _=>obtain ⟨t,rfl⟩:=r;rfl
 | flt _=>obtain ⟨t,rfl⟩:=r;rfl
 | ref _=>cases r;rfl
 | ty _=>cases r;rfl
theorem RelV.inj {x y:V} {u:Value} (r:RelV x u) (q:RelV y u):x=y:=bY (r.abs.symm.trans q.abs)
theorem cK.inj:∀{xs ys:List V} {us:List Value},cK xs us->cK ys us->xs=ys
 | _,_,_,.nil,.nil=>rfl
 | _,_,_,.cons r t,.cons r' t'=>by rw[r.inj r',cK.inj t t']
section
variable {X:Cx} {pins:List (Addr×Obj)} {σ:St} {H:Hp} {s:Shared} {a:Addr} {xs ys:List V}
theorem bO.of {K:FG9} (h:H a=some (.lst xs)):bO K H a xs:=.inl (.inl h)
theorem kj.of {K:FG9} (h:H a=some (.tup xs)):kj K H a xs:=.inl (.inl h)
theorem Inv.list (I:Inv X pins σ H s) (h:bO X.K H a xs):∃its:List Value,cK xs its/\PlainL s.heap a its.toArray/\xs.length<=sizeLine:=by
 rcases h with h | ⟨o,its,n,hk,hc,hd,hs,hz,r⟩
 ·obtain ⟨z,its,n,r,e⟩:=h.ok I.hok;exact ⟨its,r,⟨_,n,e,rfl,rfl,rfl⟩,z⟩
 ·refine ⟨its.toList,r,⟨o,n,I.kIn a o hk,hc,hd,by simpa using hs⟩,?_⟩;have e:=r.length;simp only[Array.length_toList] at e
  lia
theorem Inv.tuple (I:Inv X pins σ H s) (h:kj X.K H a xs):∃its:List Value,cK xs its/\IsTup s.heap a its.toArray/\xs.length<=sizeLine:=by
 rcases h with h | ⟨o,its,n,hk,hc,hs,hz,r⟩
 ·obtain ⟨z,its,r,p⟩:=h.ok I.hok;exact ⟨its,r,p,z⟩
 ·refine ⟨its.toList,r,⟨o,I.kIn a o hk,hc,n,by simpa using hs⟩,?_⟩;have e:=r.length;simp only[Array.length_toList] at e
  lia
theorem Inv.list_inj (I:Inv X pins σ H s) (h:bO X.K H a xs) (h':bO X.K H a ys):xs=ys:=by
 obtain ⟨its,r,⟨o,n,e,_,_,d⟩,_⟩:=I.list h;obtain ⟨its',r',⟨o',n',e',_,_,d'⟩,_⟩:=I.list h';rw[e] at e';cases e';rw[d] at d';injection d' with d1 _
 have:its=its':=by simpa using congrArg Array.toList d1
 subst this;exact r.inj r'
theorem Inv.tuple_inj (I:Inv X pins σ H s) (h:kj X.K H a xs) (h':kj X.K H a ys):xs=ys:=by
 obtain ⟨its,r,⟨o,e,_,n,d⟩,_⟩:=I.tuple h;obtain ⟨its',r',⟨o',e',_,n',d'⟩,_⟩:=I.tuple h';rw[e] at e';cases e';rw[d] at d';injection d' with d1 _
 have:its=its':=by simpa using congrArg Array.toList d1
 subst this;exact r.inj r'
end
abbrev Cx.wish (X:Cx) (E:Value->Shared->Prop):Cx:={ X with xe:=E }
abbrev Cx.nox (X:Cx):Cx:=X.wish λ_ _=>False
theorem Cx.Ok.wish {X:Cx} (ok:X.Ok) (E:Value->Shared->Prop):(X.wish E).Ok :=
 ⟨ok.mod,ok.kind,ok.glob,ok.blt,ok.above,ok.inj,ok.has,ok.cab,ok.hd,ok.frames,ok.stk,ok.exf,ok.bs,ok.bsz,ok.noex,ok.exfs,ok.funs,ok.frf⟩
theorem Cx.Ok.unwish {X:Cx} {E:Value->Shared->Prop} (ok:(X.wish E).Ok):X.Ok :=
 ⟨ok.mod,ok.kind,ok.glob,ok.blt,ok.above,ok.inj,ok.has,ok.cab,ok.hd,ok.frames,ok.stk,ok.exf,ok.bs,ok.bsz,ok.noex,ok.exfs,ok.funs,ok.frf⟩
section
variable {X:Cx} {pins:List (Addr×Obj)} {σ:St} {H:Hp} {s:Shared} {E:Value->Shared->Prop}
theorem Inv.wish (I:Inv X pins σ H s) (E:Value->Shared->Prop):Inv (X.wish E) pins σ H s:=⟨I.ok.wish E,I.os,I.bare,I.base,I.loc,I.cell,I.free,I.freeC,I.pin,I.hok,I.len⟩
theorem Inv.unwish (I:Inv (X.wish E) pins σ H s):Inv X pins σ H s:=⟨I.ok.unwish,I.os,I.bare,I.base,I.loc,I.cell,I.free,I.freeC,I.pin,I.hok,I.len⟩
theorem SP.unwish {D:Ends} {f:Flow} {s':Shared} (h:SP (X.wish E) pins D f s'):SP X pins D f s':=by
 cases f with
 | next=>obtain ⟨σ',H',I,q⟩:=h;exact ⟨σ',H',I.unwish,q⟩
 | brk=>obtain ⟨σ',H',I,q⟩:=h;exact ⟨σ',H',I.unwish,q⟩
 | cont=>obtain ⟨σ',H',I,q⟩:=h;exact ⟨σ',H',I.unwish,q⟩
 | ret u=>obtain ⟨v,σ',H',I,r,q⟩:=h;exact ⟨v,σ',H',I.unwish,r,q⟩
theorem Ik.nox {st:List Stmt} {t:TS} (h:Ik X.nox st t):Ik X st t:=λpins s σ H D I hw =>
 wpAny_mono (h pins s σ H D (I.wish _) hw) (λ_ _ q=>q.unwish) λ_ _ z=>False.elim z
end
section
variable {X:Cx} {st:Stmt} {rest:List Stmt} {t u:TS} {e:Expr} {te:TE} {pos:Pos}
def Ny:TS:=λD σ H=>D.nx σ H
def PK (t u:TS):TS:=λD σ H=>t { D with nx:=u D } σ H
theorem bS:Ik X [] Ny:=λ_ _ σ H _ I h=>wpAny_execs_nil ⟨σ,H,I,h⟩
theorem aw (h1:PS X st t) (h2:Ik X rest u):Ik X (st :: rest) (PK t u):=by
 intro pins s σ H D I h;refine wpAny_execs_cons (gO (h1 pins s σ H { D with nx:=u D } I h) λf s1 q=>?_);cases f with
 | next =>
  obtain ⟨σ',H',I',q⟩:=q;exact h2 pins s1 σ' H' D I' q
 | ret v=>exact q
 | brk=>exact q
 | cont=>exact q
theorem aA (h1:PS X st t):Ik X [st] t:=by
 intro pins s σ H D I h;refine wpAny_execs_cons (gO (h1 pins s σ H D I h) λf s1 q=>?_);cases f with
 | next=>exact wpAny_execs_nil q
 | ret v=>exact q
 | brk=>exact q
 | cont=>exact q
theorem Inv.quiet {pins:List (Addr×Obj)} {σ:St} {H:Hp} {s:Shared} (I:Inv X pins σ H s):interactive X.env=false:=by simp [interactive,I.ok.kind]
def NA (te:TE):TS:=λD σ H=>te σ H λ_ H1=>D.nx σ H1
theorem jY (he:PE X e te) (hs:swapsWith e none pos.line X.env=pure false:=by rfl):PS X (.Expr e pos) (NA te):=by
 intro pins s σ H D I h;exact wpAny_Expr_any (gO (he pins s σ H _ I h) λv s1 ⟨x,H1,I1,r1,q1⟩=>⟨σ,H1,I1,q1⟩) I.quiet hs
def PL (te:TE):TS:=λD σ H=>te σ H D.rt
theorem aV (he:PE X e te):PS X (.Return (some e) pos) (PL te):=by
 intro pins s σ H D I h;exact wpAny_Return_some (gO (he pins s σ H _ I h) λv s1 ⟨x,H1,I1,r1,q1⟩=>⟨x,σ,H1,I1,r1,q1⟩)
def PV (c:TT) (t u:TS):TS:=λD σ H=>c σ H λb H1=>if b=true then t D σ H1 else u D σ H1
theorem cQ {c:Expr} {a b:List Stmt} {tc:TT} (hc:PT X c tc) (ha:Ik X a t) (hb:Ik X b u):PS X (.If c a b pos) (PV tc t u):=by
 intro pins s σ H D I h;refine wpAny_If (gO (hc pins s σ H _ I h) λd s1 ⟨H1,I1,q1⟩=>?_);cases d with
 | true=>exact ha pins s1 σ H1 D I1 q1
 | false=>exact hb pins s1 σ H1 D I1 q1
end
abbrev TG:=V->St->Hp->(St->Hp->Prop)->Prop
abbrev LU:=List V->St->Hp->(St->Hp->Prop)->Prop
def PG (X:Cx) (target:Expr) (t:TG):Prop :=
 ∀(pins:List (Addr×Obj)) (s:Shared) (σ:St) (H:Hp) (v:V) (u:Value) (Q:St->Hp->Prop),Inv X pins σ H s->RelV v u->t v σ H Q →
  wpAny (model X.prog X.w) X.A (assign target X.env u) (λ_ s'=>∃σ' H',Inv X pins σ' H' s'/\Q σ' H') X.xe s
def QJ (X:Cx) (ts:List Expr) (t:LU):Prop :=
 ∀(pins:List (Addr×Obj)) (s:Shared) (σ:St) (H:Hp) (vs:List V) (us:List Value) (Q:St->Hp->Prop),Inv X pins σ H s->cK vs us->t vs σ H Q →
  wpAny (model X.prog X.w) X.A (assignInOrder ((assignEach ts X.env).map (·.2)) us) (λ_ s'=>∃σ' H',Inv X pins σ' H' s'/\Q σ' H') X.xe s
abbrev Ie:=V->V->V->Hp->(Hp->Prop)->Prop
def Pe (X:Cx) (t:Ie):Prop :=
 ∀(pins:List (Addr×Obj)) (s:Shared) (σ:St) (H:Hp) (o i v:V) (ov iv u:Value) (Q:Hp->Prop),Inv X pins σ H s->RelV o ov->RelV i iv->RelV v u->t o i v H Q →
  wpAny (model X.prog X.w) X.A (setItem ov iv u) (λ_ s'=>∃H',Inv X pins σ H' s'/\Q H') X.xe s
abbrev QG:=V->V->Hp->VK->Prop
def PIp (X:Cx) (op:Operator) (t:QG):Prop :=
 ∀(pins:List (Addr×Obj)) (s:Shared) (σ:St) (H:Hp) (x y:V) (v u:Value) (Q:VK),Inv X pins σ H s->RelV x v->RelV y u->t x y H Q →
  wpAny (model X.prog X.w) X.A (inplaceOp op v u) (EP X pins σ Q) X.xe s
section
variable {X:Cx} {pos:Pos}
def IW (i:Nat):TG:=λv σ H Q=>Q (σ.set i (some v)) H
theorem aK {i:Nat} {x:Str} (hN:X.N.Nodup) (hi:X.N[i]?=some x:=by exact rfl) (hx:Loc X.env.scope x:=by exact Or.inl rfl) (hf:X.fn x=true\/X.env.scope.names.lookup x=some .local:=by first | exact .inl rfl | exact .inr rfl | assumption):PG X (.Name x pos) (IW i):=by
 intro pins s σ H v u Q I r h;exact wpAny_assign_Name (xy I hN hi hx r (λs' I'=>⟨_,H,I',h⟩) hf)
def QD:LU:=λvs σ H Q=>vs=[]/\Q σ H
def NV (t:TG) (u:LU):LU:=λvs σ H Q=>∃v r,vs=v :: r/\t v σ H λσ' H'=>u r σ' H' Q
theorem lC:QJ X [] QD:=by
 intro pins s σ H vs us Q I r h;obtain ⟨e,h⟩:=h;subst e;cases r;exact assignInOrder_nil ⟨σ,H,I,h⟩
theorem cV {e:Expr} {es:List Expr} {t:TG} {u:LU} (h1:PG X e t) (h2:QJ X es u)
  (hs:(assignEach (e :: es) X.env).map (·.2)=assign e X.env :: (assignEach es X.env).map (·.2):=by rfl):QJ X (e :: es) (NV t u):=by
 intro pins s σ H vs us Q I r h;obtain ⟨v,vr,e1,h⟩:=h;subst e1;cases r with
 | cons r rr =>
  rw[hs];refine assignInOrder_cons (gO (h1 pins s σ H _ _ _ I r h) λ_ s1 ⟨σ1,H1,I1,q1⟩=>?_);exact h2 pins s1 σ1 H1 _ _ Q I1 rr q1
def O4 (K:FG9) (n:Nat) (t:LU):TG:=λv σ H Q=>∃a xs,v=.ref a/\kj K H a xs/\xs.length=n/\t xs σ H Q
theorem w5 {es:List Expr} {k:Nat} {t:LU} {n:Nat} (hc:X.calm=true) (h:QJ X es t)
  (hn:(assignEach es X.env).length=n:=by rfl) (hst:(assignEach es X.env).findIdx? (·.1)=none:=by rfl):PG X (.Tuple es k pos) (O4 X.K n t):=by
 intro pins s σ H v u Q I r hw;obtain ⟨a,xs,e1,hq,hl,hw⟩:=hw;subst e1;cases r;obtain ⟨its,rv,ht,hz⟩:=I.tuple hq;refine assign_Tuple_tuple (I.ok.hd hc) ht (by simp [hn,<- hl,rv.length]) hst λh' hx=>?_
 have I1:Inv X pins σ H { s with heap:=h' }:=I.kept (t':=s.toks) λb o e=>hx b o (cG (Heap.lt_size e)) e
 exact h pins _ σ H xs _ Q I1 (by simpa using rv) hw
def QC (to ti:TE) (t:Ie):TG:=λv σ H Q=>to σ H λo H1=>ti σ H1 λi H2=>t o i v H2 λH3=>Q σ H3
theorem ie {o i : Expr} {to ti : TE} {t : Ie} (ho : PE X o to) (hi : PE X i ti) (hs : Pe X t)
    (ha : ∀ v, assign (.Subscript o i pos) X.env v = (do
      let ov <- holding [v] (eval o X.env)
      let iv <- holding [v, ov] (eval i X.env)
      standAt pos
      holding [v, ov, iv] (setItem ov iv v)
      release [v, ov, iv] []) := by intro _; rfl) : PG X (.Subscript o i pos) (QC to ti t) := by
  intro pins s σ H v u Q I r h;rw [ha];refine wpAny_bind (wpAny_holding (gO (ho pins s σ H _ I h) λov s1 ⟨x, H1, I1, r1, q1⟩ => ?_));refine wpAny_bind (wpAny_holding (gO (hi pins s1 σ H1 _ I1 q1) λiv s2 ⟨y, H2, I2, r2, q2⟩ => ?_));refine wpAny_bind (wpAny_standAt (wpAny_bind (wpAny_holding (gO (hs pins s2 σ H2 x y v ov iv u _ I2 r1 r2 r q2) λ_ s3 ⟨H3, I3, q3⟩ => ?_))));exact wpAny_release ⟨σ, H3, I3, q3⟩
def Mb (te:TE) (g:TG):TS:=λD σ H=>te σ H λx H1=>g x σ H1 D.nx
theorem fh {tg e:Expr} {te:TE} {g:TG} (he:PE X e te) (hg:PG X tg g) (hs:swapsWithSole [tg] e pos.line X.env=pure false:=by rfl) (hw:swappedStores [tg] e X.env=pure none:=by rfl)
  (h1:(assignEach [tg] X.env).map (·.2)=[assign tg X.env]:=by rfl):PS X (.Assign [tg] e pos) (Mb te g):=by
 intro pins s σ H D I h;refine wpAny_Assign_stores (gO (he pins s σ H _ I h) λv s1 ⟨x,H1,I1,r1,q1⟩=>?_) hs hw;rw[h1];exact gO (hg pins s1 σ H1 x v _ I1 r1 q1) λ_ s2 q=>q
theorem br {i:Nat} {x:Str} {e:Expr} {te:TE} {pos':Pos} (hN:X.N.Nodup) (hi:X.N[i]?=some x) (hx:Loc X.env.scope x) (he:PE X e te) (hs:swapsWith e (some (.Name x pos')) pos.line X.env=pure false:=by rfl) (hf:X.fn x=true\/X.env.scope.names.lookup x=some .local:=by first | exact .inl rfl | exact .inr rfl | assumption) :
  PS X (.Assign [.Name x pos'] e pos) (Mb te (IW i)):=by
 intro pins s σ H D I h;refine wpAny_Assign_Name (gO (he pins s σ H _ I h) λv s1 ⟨y,H1,I1,r1,q1⟩=>?_) hs;exact xy I1 hN hi hx r1 (λs2 I2=>⟨_,H1,I2,q1⟩) hf
def PM (i j:Nat) (ta:TA):TS:=λD σ H=>ta σ H λvs H1=>∃v w,vs=[v,w]/\D.nx ((σ.set i (some v)).set j (some w)) H1
theorem KH {i j : Nat} {x y : Str} {a b : Expr} {ta : TA} {px py pt : Pos} {kt k2 pt2} (hc : X.calm = true) (hN : X.N.Nodup) (hi : X.N[i]? = some x) (hj : X.N[j]? = some y) (hij : i ≠ j)
    (hx : X.env.scope.names.lookup x = some .local) (hy : X.env.scope.names.lookup y = some .local) (ha : PA X [a, b] ta)
    (hw : swappedStores [.Tuple [.Name x px, .Name y py] kt pt] (.Tuple [a, b] k2 pt2) X.env = pure (some [x, y]))
    (hs : swapsWithSole [.Tuple [.Name x px, .Name y py] kt pt] (.Tuple [a, b] k2 pt2) pos.line X.env = pure false := by rfl) :
    PS X (.Assign [.Tuple [.Name x px, .Name y py] kt pt] (.Tuple [a, b] k2 pt2) pos) (PM i j ta) := by
  intro pins s σ H D I h;rw [exec_Assign_arm];refine wpAny_bind (wpAny_standAt ?_);rw [hs];refine wpAny_bind (wpAny_pure ?_);rw [if_neg (by decide)];refine wpAny_bind (Tuple_ (gO (ha _ pins s σ H _ I h) λus s1 ⟨vs, H1, I1, r1, q1⟩ => ?_));obtain ⟨v, w, e1, q1⟩ := q1;subst e1
  obtain ⟨u1, u2, rfl, rv, rw'⟩ : ∃ u1 u2, us = [u1, u2] /\ RelV v u1 /\ RelV w u2 := by
    cases r1 with
    | cons p q =>
      cases q with
      | cons p' q' =>
        cases q';exact ⟨_, _, rfl, p, p'⟩
  refine wpAny_newObj_type ?_ (by show 2 ≤ sizeLine; decide);have I2 : Inv X pins σ H1 { s1 with heap := s1.heap.push { cls := .type "tuple", data := .seq [u1, u2].toArray } } := I1.kept (t' := s1.toks) λb o e => Heap.get?_push_of_some _ e
  rw [hw];refine wpAny_bind (wpAny_pure ?_);show wpAny (model X.prog X.w) X.A (do rule "assign.swapped-stores"; let items <- unpackItems (.ref s1.heap.objs.size) 2 none; assignInOrder [λv => bindName X.env y v, λv => bindName X.env x v] items.reverse; pure Flow.next) _ _ _
  refine wpAny_bind (wpAny_rule (wpAny_bind (unpackItems_tuple (items := #[u1, u2]) (I.ok.hd hc) (IsTup.new s1.heap _) λh' hx' => ?_)));have I3 := I2.kept (h' := h') (t' := s1.toks) λb o e => hx' b o (cG (Heap.lt_size e)) e
  show wpAny _ _ (assignInOrder [λv => bindName X.env y v, λv => bindName X.env x v] [u2, u1] >>= λ_ => pure Flow.next) _ _ _
  refine wpAny_bind (assignInOrder_cons (wpAny_bindName (xy I3 hN hj (.inl hy) rw' (λs2 I4 => ?_) (.inr hy))));refine assignInOrder_cons (wpAny_bindName (xy I4 hN hi (.inl hx) rv (λs3 I5 => assignInOrder_nil (wpAny_pure ?_)) (.inr hx)));rw [List.set_comm _ _ (Ne.symm hij)] at I5;exact ⟨_, H1, I5, q1⟩
def NB (to ti te:TE) (tget:V->V->Hp->VK->Prop) (tip:QG) (tset:Ie):TS:=λD σ H=>to σ H λo H1=>ti σ H1 λi H2=>tget o i H2 λx H3=>te σ H3 λy H4=>tip x y H4 λz H5=>tset o i z H5 λH6=>D.nx σ H6
def QK (X:Cx) (t:V->V->Hp->VK->Prop):Prop :=
 ∀(pins:List (Addr×Obj)) (s:Shared) (σ:St) (H:Hp) (o i:V) (ov iv:Value) (Q:VK),Inv X pins σ H s->RelV o ov->RelV i iv->t o i H Q →
  wpAny (model X.prog X.w) X.A (getItem ov iv) (EP X pins σ Q) X.xe s
theorem ML {o i e : Expr} {to ti te : TE} {tget : V → V → Hp → VK → Prop} {tip : QG} {tset : Ie} {op : Operator} {tpos : Pos} (ho : PE X o to) (hi : PE X i ti) (hg : QK X tget) (he : PE X e te) (hp : PIp X op tip) (hs : Pe X tset)
    (ha : ∀ ov iv new, augStore i ov iv new = (do holding [new, ov, iv] (setItem ov iv new); release [new, ov, iv] []; pure .next) := by intros; rfl) : PS X (.AugAssign (.Subscript o i tpos) op e pos) (NB to ti te tget tip tset) := by
  intro pins s σ H D I h;refine wpAny_AugAssign_SubscriptAny (gO (ho pins s σ H _ I h) λov s1 ⟨x1, H1, I1, r1, q1⟩ => ?_) ha;refine gO (hi pins s1 σ H1 _ I1 q1) λiv s2 ⟨x2, H2, I2, r2, q2⟩ => ?_
  refine gO (hg pins s2 σ H2 x1 x2 ov iv _ I2 r1 r2 q2) λold s3 ⟨x3, H3, I3, r3, q3⟩ => ?_
  refine gO (he pins s3 σ H3 _ I3 q3) λv s4 ⟨x4, H4, I4, r4, q4⟩ => ?_
  refine gO (hp pins s4 σ H4 x3 x4 old v _ I4 r3 r4 q4) λnew s5 ⟨x5, H5, I5, r5, q5⟩ => ?_
  exact gO (hs pins s5 σ H5 x1 x2 x5 ov iv new _ I5 r1 r2 r5 q5) λ_ s6 ⟨H6, I6, q6⟩ => ⟨σ, H6, I6, q6⟩
def ipI (f:Int->Int->Int):QG:=λx y H Q=>∃i j,x=.int i/\y=.int j/\Q (.int (f i j)) H
theorem OZ:PIp X .Add (ipI λi j=>i+j):=by
 intro pins s σ H x y v u Q I r1 r2 h;obtain ⟨i,j,e1,e2,q⟩:=h;subst e1;subst e2;obtain ⟨t,rfl⟩:=r1;obtain ⟨t',rfl⟩:=r2;exact iadd_int ⟨.int _,H,I.tok _,⟨_,rfl⟩,q⟩
end
section
variable {X:Cx} {pos:Pos}
def Kh (c:TT) (tb:TS):TS:=λD σ H=>∃W:Nat->St->Hp->Prop,(∃m,W m σ H)/\∀m σ H,W m σ H →
 c σ H λb H1=>if b=true then ∃N:St->Hp->Prop,(∀σ' H',N σ' H'->∃m',m' < m/\W m' σ' H')/\tb { D with nx:=N,ct:=N,bk:=D.nx } σ H1 else D.nx σ H1
theorem AR {c:Expr} {body:List Stmt} {tc:TT} {tb:TS} (hp:PassesOwn (model X.prog X.w) X.A X.env X.xe) (hc:PT X c tc) (hb:Ik X body tb):PS X (.While c body [] pos) (Kh tc tb):=by
 intro pins s σ H D I h;obtain ⟨W,⟨m0,w0⟩,turn⟩:=h;refine wpAny_While (codeAny_whileLoop (λn s'=>∃σ' H',Inv X pins σ' H' s'/\W n σ' H') ?_ m0 ⟨σ,H,I,w0⟩);rintro n s1 ⟨σ1,H1,I1,w1⟩;refine wpAny_passesOwn hp (gO (hc pins s1 σ1 H1 _ I1 (turn n σ1 H1 w1)) λb s2 ⟨H2,I2,q2⟩=>?_);cases b with
 | true =>
  obtain ⟨N,hN,q2⟩:=q2;rw[if_pos rfl];refine wpAny_passesOwn hp (gO (hb pins s2 σ1 H2 _ I2 q2) λf s3 q3=>?_);cases f with
  | next =>
   obtain ⟨σ3,H3,I3,n3⟩:=q3;obtain ⟨m',hm,w3⟩:=hN σ3 H3 n3;exact ⟨m',hm,σ3,H3,I3,w3⟩
  | cont =>
   obtain ⟨σ3,H3,I3,n3⟩:=q3;obtain ⟨m',hm,w3⟩:=hN σ3 H3 n3;exact ⟨m',hm,σ3,H3,I3,w3⟩
  | brk=>exact q3
  | ret v=>exact q3
 | false =>
  rw[if_neg aU];exact wpAny_execs_nil ⟨σ1,H2,I2,q2⟩
end
structure It where
 go:Nat->Hp->Prop
 yld:Nat->Hp->V->Hp->Prop
 stop:Nat->Hp->Prop
def kU (X:Cx) (pins:List (Addr×Obj)) (H:Hp) (b:Addr):Prop :=
 H b=none/\b≠X.env.locals/\b∉X.fs/\(b∈X.ex\/X.s₀.heap.objs.size<=b)/\(∀x c,X.env.cells.lookup x=some c->c≠b)/\∀p∈X.pn++pins,p.1≠b
theorem Inv.fpOk {X:Cx} {pins:List (Addr×Obj)} {σ:St} {H H':Hp} {s:Shared} {b:Addr} (I:Inv X pins σ H s) (hb:s.heap.objs.size<=b) (hn:H' b=none):kU X pins H' b:=by
 refine ⟨hn,Jl (bH I.lt hb),I.nofs hb,.inr (ai I.sz hb),λx c e z=>?_,λp hp z=>?_⟩
 ·obtain ⟨v,q⟩:=I.cell x c e;exact absurd (bH q.lt (by rw[z];exact hb)) (dP _)
 ·exact absurd (bH (Heap.lt_size (I.pin p hp).1) (by rw[z];exact hb)) (dP _)
structure Turn (P:Program) (w:World) (K:FG9) (tg:Expr) (J:It) (fp:List Addr) (it:Addr) (tn:Nat->Heap->Prop):Prop where
 mem:it∈fp
 obj:∀i h,tn i h->∀b∈fp,∃o,h.get? b=some o/\∀v,o.data≠.cell v
 keep:∀i h h',tn i h->(∀b∈fp,∀o,h.get? b=some o->h'.get? b=some o)->tn i h'
 item:∀(X:Cx),X.prog=P->X.w=w->X.K=K->X.calm=true->∀(i:Nat) (pins:List (Addr×Obj)) (s:Shared) (σ:St) (H:Hp) (E:Value->Shared->Prop),Inv X pins σ H s->(∀b∈fp,kU X pins H b)->tn i s.heap->J.go i H →
  wpAny (model P w) X.A (pyNext (.ref it)) (λr s1=>∃u,r=some u /\
   wpAny (model P w) X.A (letOwnedTupleGo tg (.ref it) u) (λ_ s2=>∃x H',Inv X pins σ H' s2/\RelV x u/\J.yld i H x H'/\tn (i+1) s2.heap/\∀b∈fp,H' b=none) E s1) E s
 done:∀(X:Cx),X.prog=P->X.w=w->X.K=K->X.calm=true->∀(i:Nat) (pins:List (Addr×Obj)) (s:Shared) (σ:St) (H:Hp) (E:Value->Shared->Prop),Inv X pins σ H s->(∀b∈fp,kU X pins H b)->tn i s.heap->J.stop i H →
  wpAny (model P w) X.A (pyNext (.ref it)) (λr s1=>r=none/\Inv X pins σ H s1) E s
 self:∀(A:Around) (i:Nat) (s:Shared) (Q:Value->Shared->Prop) (E:Value->Shared->Prop),tn i s.heap->Q (.ref it) s->wpAny (model P w) A (pyIter (.ref it)) Q E s
abbrev TI:=St->Hp->(It->Hp->Prop)->Prop
def PIE (X:Cx) (pins:List (Addr×Obj)) (σ:St) (tg:Expr) (R:It->Hp->Prop) (itv:Value) (s2:Shared):Prop :=
 ∃(it:Addr) (fp:List Addr) (tn:Nat->Heap->Prop) (J:It) (H':Hp),itv=.ref it/\Inv X pins σ H' s2/\Turn X.prog X.w X.K tg J fp it tn/\tn 0 s2.heap/\(∀b∈fp,kU X pins H' b)/\R J H'
def PI (X:Cx) (tg iter:Expr) (wi:TI):Prop :=
 ∀(pins:List (Addr×Obj)) (s:Shared) (σ:St) (H:Hp) (R:It->Hp->Prop),Inv X pins σ H s->wi σ H R →
  wpAny (model X.prog X.w) X.A (eval iter X.env) (λv s1=>wpAny (model X.prog X.w) X.A (pyIter v) (PIE X pins σ tg R) X.xe s1) X.xe s
theorem Lm {M : Model} {A : Around} {E : Value → Shared → Prop} {s : Shared} {tg : Expr} {it : Addr} {u : Value} {o : Obj} {n : String} {vs : Array Value} {Q : Unit → Shared → Prop} (ho : s.heap.get? it = some o) (hc : o.cls = .type n) (hd : o.data = .fields vs)
    (hn : ["enumerate", "zip", "dict_itemiterator", "dict_reverseitemiterator", "odict_iterator", "itertools.zip_longest", "itertools.pairwise"].contains n = false) (hQ : Q () s) : wpAny M A (letOwnedTupleGo tg (.ref it) u) Q E s := by
  unfold letOwnedTupleGo
  cases tg <;> first
    | exact wpAny_pure hQ
    | (cases u <;> first
        | exact wpAny_pure hQ
        | (refine wpAny_bind (wpAny_load ho ?_)
           rw [hc, hd];show wpAny M A (if (["enumerate", "zip", "dict_itemiterator", "dict_reverseitemiterator", "odict_iterator", "itertools.zip_longest", "itertools.pairwise"].contains n && vs[0]? == some (rawInt _)) = true then _ else _) Q E s
           rw [if_neg (by intro h; rw [hn, Bool.false_and] at h; cases h)];exact wpAny_pure hQ))

def LW (K:FG9) (a:Addr):It :=
 ⟨λi H=>∃xs x,bO K H a xs/\xs[i]?=some x,λi H x H'=>H'=H/\∀xs,bO K H a xs->xs[i]?=some x,λi H=>∃xs,bO K H a xs/\xs.length<=i⟩
def Nu (K:FG9) (a:Addr):It :=
 ⟨λi H=>∃xs x,kj K H a xs/\xs[i]?=some x,λi H x H'=>H'=H/\∀xs,kj K H a xs->xs[i]?=some x,λi H=>∃xs,kj K H a xs/\xs.length<=i⟩
def GD (lo:Int) (n:Nat):It:=⟨λi _=>i < n,λi H x H'=>H'=H/\x=.int (lo+i),λi _=>n<=i⟩
theorem CL {P:Program} {w:World} {K:FG9} {tg:Expr} (a it:Addr):Turn P w K tg (LW K a) [it] it (λi h=>h.IsListIter it a i) where
 mem:=by simp
 obj:=λi h st b hb=>by
  have e:b=it:=by simpa using hb
  subst e;obtain ⟨o,e,c,d⟩:=st;exact ⟨o,e,λv z=>by rw[d] at z;cases z⟩
 keep:=λi h h' st k=>st.at λo e=>k it (by simp) o e
 item:=by
  intro X hP hw hK hc i pins s σ H E I hf st hg;subst hP hw hK;obtain ⟨xs,x,hq,hx⟩:=hg;obtain ⟨its,rv,p,hz⟩:=I.list hq;obtain ⟨u,hu,ru⟩:=rv.get hx;obtain ⟨f0,f1,f2,f3,f4,f5⟩:=hf it (by simp);refine wpAny_pyNext_list_item st p.isList (x:=u) (by simpa using hu) λh' st' sb=>?_
  have I1:Inv X pins σ H { s with heap:=h' }:=I.turned (t':=s.toks) (λb o hb e=>(sb.2 b hb).trans e) f0 f1 f3 f4 f5;obtain ⟨o,e,c,d⟩:=id st';exact ⟨u,rfl,Lm (s:={ s with heap:=h' }) e c d (by decide) ⟨x,H,I1,ru,⟨rfl,λys hy=>by rw[I.list_inj hy hq];exact hx⟩,st',λb hb=>(hf b hb).1⟩⟩
 done:=by
  intro X hP hw hK hc i pins s σ H E I hf st hg;subst hP hw hK;obtain ⟨xs,hq,hx⟩:=hg;obtain ⟨its,rv,p,hz⟩:=I.list hq;obtain ⟨f0,f1,f2,f3,f4,f5⟩:=hf it (by simp);have hl:=rv.length;exact wpAny_pyNext_list_end (I.ok.hd hc) st p.isList (by simp;lia) λh' eb=>⟨rfl,I.turned (t':=s.toks) (λb o hb e=>eb b o hb e) f0 f1 f3 f4 f5⟩
 self:=λ_ _ _ _ _ st h=>wpAny_pyIter_listiter st h
theorem Au {P:Program} {w:World} {K:FG9} {tg:Expr} (a it:Addr):Turn P w K tg (Nu K a) [it] it (λi h=>h.IsTupleIter it a i) where
 mem:=by simp
 obj:=λi h st b hb=>by
  have e:b=it:=by simpa using hb
  subst e;obtain ⟨o,e,c,d⟩:=st;exact ⟨o,e,λv z=>by rw[d] at z;cases z⟩
 keep:=λi h h' st k=>st.at λo e=>k it (by simp) o e
 item:=by
  intro X hP hw hK hc i pins s σ H E I hf st hg;subst hP hw hK;obtain ⟨xs,x,hq,hx⟩:=hg;obtain ⟨its,rv,p,hz⟩:=I.tuple hq;obtain ⟨u,hu,ru⟩:=rv.get hx;obtain ⟨f0,f1,f2,f3,f4,f5⟩:=hf it (by simp);refine wpAny_pyNext_tuple_item st (show s.heap.IsTuple a its.toArray from p) (x:=u) (by simpa using hu) λh' st' sb=>?_
  have I1:Inv X pins σ H { s with heap:=h' }:=I.turned (t':=s.toks) (λb o hb e=>(sb.2 b hb).trans e) f0 f1 f3 f4 f5;obtain ⟨o,e,c,d⟩:=id st';exact ⟨u,rfl,Lm (s:={ s with heap:=h' }) e c d (by decide) ⟨x,H,I1,ru,⟨rfl,λys hy=>by rw[I.tuple_inj hy hq];exact hx⟩,st',λb hb=>(hf b hb).1⟩⟩
 done:=by
  intro X hP hw hK hc i pins s σ H E I hf st hg;subst hP hw hK;obtain ⟨xs,hq,hx⟩:=hg;obtain ⟨its,rv,p,hz⟩:=I.tuple hq;obtain ⟨f0,f1,f2,f3,f4,f5⟩:=hf it (by simp);have hl:=rv.length;exact wpAny_pyNext_tuple_end (I.ok.hd hc) st (show s.heap.IsTuple a its.toArray from p) (by simp;lia) λh' eb=>⟨rfl,I.turned (t':=s.toks) (λb o hb e=>eb b o hb e) f0 f1 f3 f4 f5⟩
 self:=λ_ _ _ _ _ st h=>wpAny_pyIter_tupleiter st h
theorem GK {P:Program} {w:World} {K:FG9} {tg:Expr} (it:Addr) (lo:Int) (n:Nat):Turn P w K tg (GD lo n) [it] it (λi h=>IsRangeIter h it (lo+(i:Nat)*1) ((n:Int) - (i:Nat)) 1) where
 mem:=by simp
 obj:=λi h st b hb=>by
  have e:b=it:=by simpa using hb
  subst e
  exact ⟨_,st,λv z=>by
   have z':Data.fields _=Data.cell v:=z;cases z'⟩
 keep:=λi h h' st k=>k it (by simp) _ st
 item:=by
  intro X hP hw hK hc i pins s σ H E I hf st hg;subst hP hw hK;obtain ⟨f0,f1,f2,f3,f4,f5⟩:=hf it (by simp);have W:=Walks.range (prog:=X.prog) (w:=X.w) (I.ok.hd hc) it lo 1 n;refine W.item i s _ _ hg st λv h' tk hv st' kk=>?_
  obtain ⟨t,rfl⟩:=hv;have I1:Inv X pins σ H { s with heap:=h',toks:=tk }:=I.turned (λb o hb e=>kk b o (by simpa using hb) e) f0 f1 f3 f4 f5;refine ⟨_,rfl,Lm (s:={ s with heap:=h',toks:=tk }) (n:="range_iterator") st' rfl rfl (by decide) ⟨.int (lo+i),H,I1,⟨t,?_⟩,⟨rfl,rfl⟩,st',λb hb=>(hf b hb).1⟩⟩;rw[Int.mul_one]
 done:=by
  intro X hP hw hK hc i pins s σ H E I hf st hg;subst hP hw hK;obtain ⟨f0,f1,f2,f3,f4,f5⟩:=hf it (by simp);exact wpAny_pyNext_range_end (I.ok.hd hc) st (by have:n<=i:=hg;lia) λh' eb=>⟨rfl,I.turned (t':=s.toks) (λb o hb e=>eb b o hb e) f0 f1 f3 f4 f5⟩
 self:=λ_ _ _ _ _ st h=>wpAny_pyIter_rangeiter st h
section
variable {X:Cx} {tg:Expr}
def Lk (K:FG9) (tl:TE):TI:=λσ H R=>tl σ H λx H1=>∃a,x=.ref a/\(∃xs,bO K H1 a xs)/\R (LW K a) H1
def Qy (K:FG9) (tl:TE):TI:=λσ H R=>tl σ H λx H1=>∃a,x=.ref a/\(∃xs,kj K H1 a xs)/\R (Nu K a) H1
theorem b9 {l:Expr} {tl:TE} (hl:PE X l tl):PI X tg l (Lk X.K tl):=by
 intro pins s σ H R I h;refine gO (hl pins s σ H _ I h) λv s1 ⟨x,H1,I1,r1,q1⟩=>?_
 obtain ⟨a,e,⟨xs,hq⟩,q⟩:=q1;subst e;cases r1;obtain ⟨its,rv,p,hz⟩:=I1.list hq;refine wpAny_pyIter_list p.isList ?_;refine ⟨s1.heap.objs.size,[s1.heap.objs.size],_,_,H1,rfl,I1.kept (t':=s1.toks) λb o e=>Heap.get?_push_of_some _ e,CL a _,⟨_,Heap.get?_push_size _ rfl,rfl,rfl⟩,λb hb=>?_,q⟩;have e:b=s1.heap.objs.size:=by simpa using hb
 subst e;exact I1.fpOk (au _) (I1.hok.fresh (au _))
theorem KL {l:Expr} {tl:TE} (hl:PE X l tl):PI X tg l (Qy X.K tl):=by
 intro pins s σ H R I h;refine gO (hl pins s σ H _ I h) λv s1 ⟨x,H1,I1,r1,q1⟩=>?_
 obtain ⟨a,e,⟨xs,hq⟩,q⟩:=q1;subst e;cases r1;obtain ⟨its,rv,p,hz⟩:=I1.tuple hq;refine wpAny_pyIter_tuple (show s1.heap.IsTuple a its.toArray from p) ?_;refine ⟨s1.heap.objs.size,[s1.heap.objs.size],_,_,H1,rfl,I1.kept (t':=s1.toks) λb o e=>Heap.get?_push_of_some _ e,Au a _,⟨_,Heap.get?_push_size _ rfl,rfl,rfl⟩,λb hb=>?_,q⟩;have e:b=s1.heap.objs.size:=by simpa using hb
 subst e;exact I1.fpOk (au _) (I1.hok.fresh (au _))
theorem FG {pins:List (Addr×Obj)} {σ:St} {H:Hp} {s:Shared} {R:It->Hp->Prop} {E:Value->Shared->Prop} {lo hi:Int} {t u v:Tok} {tk:Nat} (I:Inv X pins σ H s) (h1:-(2^62)<=lo) (h2:lo < 2^62) (h3:-(2^62)<=hi) (h4:hi < 2^62)
  (q:R (GD lo (hi - lo).toNat) H):wpAny (model X.prog X.w) X.A (pyIter (.ref s.heap.objs.size)) (PIE X pins σ tg R) E { s with heap:=s.heap.push { cls:=.type "range",data:=.fields #[.int lo t,.int hi u,.int 1 v] },toks:=tk }:=by
 refine wpAny_pyIter_range (IsRange.new ..) (small_one h1 h2 h3 h4) ?_;have I1:Inv X pins σ H { s with heap:=s.heap.push { cls:=.type "range",data:=.fields #[.int lo t,.int hi u,.int 1 v] },toks:=tk }:=I.kept λb o e=>Heap.get?_push_of_some _ e
 refine ⟨(s.heap.push { cls:=.type "range",data:=.fields #[.int lo t,.int hi u,.int 1 v] }).objs.size,[(s.heap.push { cls:=.type "range",data:=.fields #[.int lo t,.int hi u,.int 1 v] }).objs.size],_,_,H,rfl,
  I1.kept (t':=tk) λb o e=>Heap.get?_push_of_some _ e,GK _ lo (hi - lo).toNat,?_,λb hb=>?_,q⟩
 ·have e1:lo+((0:Nat):Int)*1=lo:=by simp
  have e2:(((hi - lo).toNat:Nat):Int) - ((0:Nat):Int)=Builtin.Range.rangeSize lo hi 1:=by rw[rangeSize_one];split <;> lia
  show IsRangeIter _ _ (lo+((0:Nat):Int)*1) ((((hi - lo).toNat:Nat):Int) - ((0:Nat):Int)) 1
  rw[e1,e2];exact Heap.get?_push_size _ rfl
 ·have e:b=(s.heap.push { cls:=.type "range",data:=.fields #[.int lo t,.int hi u,.int 1 v] }).objs.size:=by simpa using hb
  subst e;exact I1.fpOk (au _) (I1.hok.fresh (au _))
def NR (ta:TA):TI:=λσ H R=>ta σ H λvs H1=>∃j:Int,vs=[.int j]/\-(2^62)<=j/\j < 2^62/\R (GD 0 j.toNat) H1
def NQ (ta:TA):TI:=λσ H R=>ta σ H λvs H1=>∃i j:Int,vs=[.int i,.int j]/\(-(2^62)<=i/\i < 2^62/\-(2^62)<=j/\j < 2^62)/\R (GD i (j - i).toNat) H1
theorem cy {a:Expr} {ta:TA} {p pos:Pos} (hg:Gl X "range") (hm:X.mg "range"=none) (ha:PA X [a] ta) (hs:starEach [a] X.env=[(false,eval a X.env)]:=by rfl):PI X tg (.Call (.Name "range" p) [a] [] pos) (NR ta):=by
 intro pins s σ H R I h;refine Call_ (oR I hg hm boot_range (PyProof.Rows.callWith_type1 (gO (ha pos pins s σ H _ I h) λus s1 ⟨vs,H1,I1,r1,q1⟩=>?_) hs rfl));obtain ⟨j,e,q1,q2,q⟩:=q1;subst e;cases r1 with
 | cons r rr =>
  cases rr;obtain ⟨t,rfl⟩:=r;exact call_range_1 (FG I1 (by lia) (by lia) q1 q2 (by simpa using q))
theorem JC {a b:Expr} {ta:TA} {p pos:Pos} (hg:Gl X "range") (hm:X.mg "range"=none) (ha:PA X [a,b] ta) (hs:starEach [a,b] X.env=[(false,eval a X.env),(false,eval b X.env)]:=by rfl) (hs2:starEach [b] X.env=[(false,eval b X.env)]:=by rfl) :
  PI X tg (.Call (.Name "range" p) [a,b] [] pos) (NQ ta):=by
 intro pins s σ H R I h;refine Call_ (oR I hg hm boot_range (PyProof.Rows.callWith_type1 (gO (ha pos pins s σ H _ I h) λus s1 ⟨vs,H1,I1,r1,q1⟩=>?_) (by rw[hs,hs2]) (by rw[hs2];rfl)));obtain ⟨i,j,e,⟨q1,q2,q3,q4⟩,q⟩:=q1;subst e;cases r1 with
 | cons r rr =>
  cases rr with
  | cons r' rr =>
   cases rr;obtain ⟨t,rfl⟩:=r;obtain ⟨t',rfl⟩:=r';exact call_range_2 (FG I1 q1 q2 q3 q4 q)
def PX (wi:TI) (g:TG) (tb:TS):TS:=λD σ H=>wi σ H λJ H1=>∃W:Nat->Nat->St->Hp->Prop,(∃m,W 0 m σ H1)/\∀i m σ H,W i m σ H →
 (J.stop i H/\D.nx σ H)\/(J.go i H/\∃N:St->Hp->Prop,(∀σ' H',N σ' H'->∃m',m' < m/\W (i+1) m' σ' H')/\∀x H',J.yld i H x H'->g x σ H' λσ2 H2=>tb { D with nx:=N,ct:=N,bk:=D.nx } σ2 H2)
def AU (fp:List Addr) (h:Heap):List (Addr×Obj):=fp.filterMap λb=>(h.get? b).map λo=>(b,o)
theorem sE {fp:List Addr} {h:Heap} {b:Addr} {o:Obj} (hb:b∈fp) (e:h.get? b=some o):(b,o)∈AU fp h:=List.mem_filterMap.mpr ⟨b,hb,by rw[e];rfl⟩
theorem JF {fp:List Addr} {h:Heap} {p:Addr×Obj} (hp:p∈AU fp h):p.1∈fp/\h.get? p.1=some p.2:=by
 obtain ⟨b,hb,e⟩:=List.mem_filterMap.mp hp;cases q:h.get? b with
 | none=>rw[q] at e;cases e
 | some o =>
  rw[q] at e;have e':(b,o)=p:=bY e;subst e';exact ⟨hb,q⟩
theorem Inv.pinned {pins:List (Addr×Obj)} {σ:St} {H:Hp} {s:Shared} {fp:List Addr} (I:Inv X pins σ H s) (hf:∀b∈fp,kU X pins H b) (ho:∀b∈fp,∃o,s.heap.get? b=some o/\∀v,o.data≠.cell v):Inv X (pins++AU fp s.heap) σ H s :=
 I.pins_of λp hp=>(ax.mp hp).elim (λz=>I.pin p (bP _ z)) λz=>by
  obtain ⟨hb,e⟩:=JF z;obtain ⟨f0,f1,f2,_⟩:=hf p.1 hb;obtain ⟨o,e',d⟩:=ho p.1 hb;rw[e] at e';cases e';exact ⟨e,f0,f1,f2,d⟩
theorem Inv.unpinned {pins pl:List (Addr×Obj)} {σ:St} {H:Hp} {s:Shared} (I:Inv X (pins++pl) σ H s):Inv X pins σ H s:=I.pins_of λp hp=>I.pin p (bP _ (hJ _ hp))
theorem ee {iter : Expr} {body : List Stmt} {wi : TI} {g : TG} {tb : TS} {pos : Pos} (hp : PassesOwn (model X.prog X.w) X.A X.env X.xe) (hc : X.calm = true) (hi : PI X tg iter wi) (hg : PG X tg g) (hb : Ik X body tb)
    (hs : ∀ x, foldedSetIterable iter X.env x = pure x := by intro _; rfl) : PS X (.For tg iter body [] pos) (PX wi g tb) := by
  intro pins s σ H D I h;refine wpAny_For (gO (hi pins s σ H _ I h) λv s1 h1 => gO h1 λitv s2 h2 => ?_) hs;obtain ⟨it, fp, tn, J, H2, e, I2, T, st2, f2, W, ⟨m0, w0⟩, turn⟩ := h2;subst e;have stat : ∀ {H' : Hp}, (∀ b ∈ fp, H' b = none) → ∀ b ∈ fp, kU X pins H' b := λhn b hb => ⟨hn b hb, (f2 b hb).2⟩
  refine codeAny_forLoop_any (λn s' => ∃ i σ' H', Inv X pins σ' H' s' /\ tn i s'.heap /\ (∀ b ∈ fp, H' b = none) /\ W i n σ' H') ?_ m0 ⟨0, σ, H2, I2, st2, λb hb => (f2 b hb).1, w0⟩;rintro n s3 ⟨i, σ3, H3, I3, st3, fr3, w3⟩;rcases turn i n σ3 H3 w3 with ⟨stop, qn⟩ | ⟨go, N, hN, step⟩
  · refine wpAny_passesOwn hp (gO (T.done X rfl rfl rfl hc i pins s3 σ3 H3 X.xe I3 (stat fr3) st3 stop) λr s4 ⟨hr, I4⟩ => ?_);subst hr;exact wpAny_execs_nil ⟨σ3, H3, I4, qn⟩
  · refine wpAny_passesOwn hp (gO (T.item X rfl rfl rfl hc i pins s3 σ3 H3 X.xe I3 (stat fr3) st3 go) λr s4 ⟨u, hr, h4⟩ => ?_);subst hr;refine wpAny_passesOwn hp (gO h4 λ_ s5 ⟨x, H5, I5, r5, y5, st5, fr5⟩ => ?_);have I5' := I5.pinned (stat fr5) (T.obj _ _ st5);refine wpAny_passesOwn hp (gO (hg _ s5 σ3 H5 x u _ I5' r5 (step x H5 y5)) λ_ s6 ⟨σ6, H6, I6, q6⟩ => ?_);refine wpAny_passesOwn hp (gO (hb _ s6 σ6 H6 _ I6 q6) λf s7 q7 => ?_)
    have again : ∀ {σ7 : St} {H7 : Hp}, Inv X (pins ++ AU fp s5.heap) σ7 H7 s7 → N σ7 H7 → ∃ m, m < n /\ ∃ i σ' H', Inv X pins σ' H' s7 /\ tn i s7.heap /\ (∀ b ∈ fp, H' b = none) /\ W i m σ' H' := λ{σ7 H7} I7 n7 => by
      obtain ⟨m', hm, w7⟩ := hN σ7 H7 n7;refine ⟨m', hm, i + 1, σ7, H7, I7.unpinned, T.keep _ _ _ st5 λb hb o e => (I7.pin (b, o) (bP _ (bP _ (sE hb e)))).1, λb hb => ?_, w7⟩;obtain ⟨o, e, d⟩ := T.obj _ _ st5 b hb;exact (I7.pin (b, o) (bP _ (bP _ (sE hb e)))).2.1
    cases f with
    | next => obtain ⟨σ7, H7, I7, n7⟩ := q7; exact again I7 n7
    | cont => obtain ⟨σ7, H7, I7, n7⟩ := q7; exact again I7 n7
    | brk => obtain ⟨σ7, H7, I7, q7⟩ := q7; exact ⟨σ7, H7, I7.unpinned, q7⟩
    | ret v => obtain ⟨x7, σ7, H7, I7, r7, q7⟩ := q7; exact ⟨x7, σ7, H7, I7.unpinned, r7, q7⟩
end
theorem i5 {K:FG9} {a:Addr} {xs:List V} {g:TG} {tb:TS} {D:Ends} {σ:St} {H:Hp} (Pv:Nat->St->Hp->Prop) (h0:Pv 0 σ H) (hl:∀i σ H,i<=xs.length->Pv i σ H->bO K H a xs)
  (hs:∀i x σ H,xs[i]?=some x->Pv i σ H->g x σ H λσ2 H2=>tb { D with nx:=Pv (i+1),ct:=Pv (i+1),bk:=D.nx } σ2 H2) (hd:∀σ H,Pv xs.length σ H->D.nx σ H) :
  ∃W:Nat->Nat->St->Hp->Prop,(∃m,W 0 m σ H)/\∀i m σ H,W i m σ H →
   ((LW K a).stop i H/\D.nx σ H)\/((LW K a).go i H/\∃N:St->Hp->Prop,(∀σ' H',N σ' H'->∃m',m' < m/\W (i+1) m' σ' H')/\∀x H',(LW K a).yld i H x H'->g x σ H' λσ2 H2=>tb { D with nx:=N,ct:=N,bk:=D.nx } σ2 H2):=by
 refine ⟨λi m σ H=>m=xs.length - i/\i<=xs.length/\Pv i σ H,⟨xs.length,by simp,bo _,h0⟩,?_⟩;rintro i m σ H ⟨rfl,hi,p⟩;have q:=hl i σ H hi p;by_cases hlt:i < xs.length
 ·refine .inr ⟨⟨xs,xs[i],q,by simp [hlt]⟩,Pv (i+1),λσ' H' p'=>⟨xs.length - (i+1),by lia,rfl,hlt,p'⟩,λx H' y=>?_⟩;obtain ⟨e,y⟩:=y;subst e;exact hs i x σ _ (y xs q) p
 ·have e:i=xs.length:=by lia
  subst e;exact .inl ⟨⟨xs,q,au _⟩,hd σ H p⟩
theorem EG {K:FG9} {a:Addr} {xs:List V} {g:TG} {tb:TS} {D:Ends} {σ:St} {H:Hp} (Pv:Nat->St->Hp->Prop) (h0:Pv 0 σ H) (hl:∀i σ H,i<=xs.length->Pv i σ H->kj K H a xs)
  (hs:∀i x σ H,xs[i]?=some x->Pv i σ H->g x σ H λσ2 H2=>tb { D with nx:=Pv (i+1),ct:=Pv (i+1),bk:=D.nx } σ2 H2) (hd:∀σ H,Pv xs.length σ H->D.nx σ H) :
  ∃W:Nat->Nat->St->Hp->Prop,(∃m,W 0 m σ H)/\∀i m σ H,W i m σ H →
   ((Nu K a).stop i H/\D.nx σ H)\/((Nu K a).go i H/\∃N:St->Hp->Prop,(∀σ' H',N σ' H'->∃m',m' < m/\W (i+1) m' σ' H')/\∀x H',(Nu K a).yld i H x H'->g x σ H' λσ2 H2=>tb { D with nx:=N,ct:=N,bk:=D.nx } σ2 H2):=by
 refine ⟨λi m σ H=>m=xs.length - i/\i<=xs.length/\Pv i σ H,⟨xs.length,by simp,bo _,h0⟩,?_⟩;rintro i m σ H ⟨rfl,hi,p⟩;have q:=hl i σ H hi p;by_cases hlt:i < xs.length
 ·refine .inr ⟨⟨xs,xs[i],q,by simp [hlt]⟩,Pv (i+1),λσ' H' p'=>⟨xs.length - (i+1),by lia,rfl,hlt,p'⟩,λx H' y=>?_⟩;obtain ⟨e,y⟩:=y;subst e;exact hs i x σ _ (y xs q) p
 ·have e:i=xs.length:=by lia
  subst e;exact .inl ⟨⟨xs,q,au _⟩,hd σ H p⟩
theorem Dy {lo:Int} {n:Nat} {g:TG} {tb:TS} {D:Ends} {σ:St} {H:Hp} (Pv:Nat->St->Hp->Prop) (h0:Pv 0 σ H)
  (hs:∀i σ H,i < n->Pv i σ H->g (.int (lo+i)) σ H λσ2 H2=>tb { D with nx:=Pv (i+1),ct:=Pv (i+1),bk:=D.nx } σ2 H2) (hd:∀σ H,Pv n σ H->D.nx σ H) :
  ∃W:Nat->Nat->St->Hp->Prop,(∃m,W 0 m σ H)/\∀i m σ H,W i m σ H →
   ((GD lo n).stop i H/\D.nx σ H)\/((GD lo n).go i H/\∃N:St->Hp->Prop,(∀σ' H',N σ' H'->∃m',m' < m/\W (i+1) m' σ' H')/\∀x H',(GD lo n).yld i H x H'->g x σ H' λσ2 H2=>tb { D with nx:=N,ct:=N,bk:=D.nx } σ2 H2):=by
 refine ⟨λi m σ H=>m=n - i/\i<=n/\Pv i σ H,⟨n,by simp,bo _,h0⟩,?_⟩;rintro i m σ H ⟨rfl,hi,p⟩;by_cases hlt:i < n
 ·refine .inr ⟨hlt,Pv (i+1),λσ' H' p'=>⟨n - (i+1),by lia,rfl,hlt,p'⟩,λx H' y=>?_⟩;obtain ⟨e,y⟩:=y;subst e y;exact hs i σ _ hlt p
 ·have e:i=n:=by lia
  subst e;exact .inl ⟨au _,hd σ H p⟩
abbrev R2:=V->V->Hp->VK->Prop
def zQ (X:Cx) (f:Value->Value->Sem Value) (r:R2):Prop :=
 ∀(pins:List (Addr×Obj)) (s:Shared) (σ:St) (H:Hp) (x y:V) (v u:Value) (Q:VK),Inv X pins σ H s->RelV x v->RelV y u->r x y H Q →
  wpAny (model X.prog X.w) X.A (f v u) (EP X pins σ Q) X.xe s
def RD (X:Cx) (f:Value->Sem Value) (r:V->Hp->VK->Prop):Prop :=
 ∀(pins:List (Addr×Obj)) (s:Shared) (σ:St) (H:Hp) (x:V) (v:Value) (Q:VK),Inv X pins σ H s->RelV x v->r x H Q →
  wpAny (model X.prog X.w) X.A (f v) (EP X pins σ Q) X.xe s
def oV (X:Cx) (f:Value) (r:List V->Hp->VK->Prop):Prop :=
 ∀(pins:List (Addr×Obj)) (s:Shared) (σ:St) (H:Hp) (xs:List V) (us:List Value) (Q:VK),Inv X pins σ H s->cK xs us->r xs H Q →
  wpAny (model X.prog X.w) X.A (call f us) (EP X pins σ Q) X.xe s
def PN (r:R2) (ta tb:TE):TE:=λσ H Q=>ta σ H λx H1=>tb σ H1 λy H2=>r x y H2 Q
def QY (r:V->Hp->VK->Prop) (ta:TE):TE:=λσ H Q=>ta σ H λx H1=>r x H1 Q
def rI (C:Int->Int->Prop) (g:Int->Int->V):R2:=λx y H Q=>∃i j,x=.int i/\y=.int j/\C i j/\Q (g i j) H
def MK (g:Int->Int->V):R2:=λx y H Q=>∃i j,x=.int i/\y=.int j/\Q (g i j) H
def rU (g:Int->V):V->Hp->VK->Prop:=λx H Q=>∃i,x=.int i/\Q (g i) H
section
variable {X:Cx} {a b c:Expr} {ta tb tc:TE} {pos:Pos}
theorem Pc (ha:PE X a ta) (hb:PE X b tb) {pins:List (Addr×Obj)} {s:Shared} {σ:St} {H:Hp} {R:V->V->Hp->Prop} (I:Inv X pins σ H s)
  (h:ta σ H λx H1=>tb σ H1 λy H2=>R x y H2) {Q:Value->Shared->Prop} {f:Value->Value->Sem Value}
  (hf:∀v u s2 x y H2,Inv X pins σ H2 s2->RelV x v->RelV y u->R x y H2->wpAny (model X.prog X.w) X.A (f v u) Q X.xe s2) :
  wpAny (model X.prog X.w) X.A (eval a X.env) (λv s₁=>wpAny (model X.prog X.w) X.A (eval b X.env) (λu s₂=>wpAny (model X.prog X.w) X.A (f v u) Q X.xe s₂) X.xe s₁) X.xe s:=by
 refine gO (ha pins s σ H _ I h) λv s1 ⟨x,H1,I1,r1,q1⟩=>?_
 refine gO (hb pins s1 σ H1 _ I1 q1) λu s2 ⟨y,H2,I2,r2,q2⟩=>?_
 exact hf v u s2 x y H2 I2 r1 r2 q2
theorem bK {op:Operator} {r:R2} (ho:zQ X (binaryOp op) r) (ha:PE X a ta) (hb:PE X b tb):PE X (.BinOp a op b pos) (PN r ta tb):=by
 intro pins s σ H Q I h;exact wpAny_BinOp (Pc ha hb I h λv u s2 x y H2 I2 rx ry q=>ho pins s2 σ H2 x y v u Q I2 rx ry q)
theorem AW {op:UnaryOp} {r:V->Hp->VK->Prop} (ho:RD X (unaryOp op) r) (ha:PE X a ta):PE X (.UnaryOp op a pos) (QY r ta):=by
 intro pins s σ H Q I h;exact UnaryOp_ (gO (ha pins s σ H _ I h) λv s1 ⟨x,H1,I1,r1,q1⟩=>ho pins s1 σ H1 x v Q I1 r1 q1)
theorem QZ {f:Value->Value->Sem Value} {C:Int->Int->Prop} {g:Int->Int->Int}
  (rule:∀(i j:Int) (t u:Tok) (s:Shared) (Q:Value->Shared->Prop) (E:Value->Shared->Prop),C i j->Q (.int (g i j) s.toks) { s with toks:=s.toks+1 }->wpAny (model X.prog X.w) X.A (f (.int i t) (.int j u)) Q E s) :
  zQ X f (rI C λi j=>.int (g i j)):=by
 intro pins s σ H x y v u Q I rx ry h;obtain ⟨i,j,rfl,rfl,hc,q⟩:=h;obtain ⟨t,rfl⟩:=rx;obtain ⟨t',rfl⟩:=ry;exact rule i j t t' s _ _ hc ⟨.int (g i j),H,I.tok _,⟨_,rfl⟩,q⟩
theorem Qr {f:Value->Value->Sem Value} {g:Int->Int->Int}
  (rule:∀(i j:Int) (t u:Tok) (s:Shared) (Q:Value->Shared->Prop) (E:Value->Shared->Prop),Q (.int (g i j) s.toks) { s with toks:=s.toks+1 }->wpAny (model X.prog X.w) X.A (f (.int i t) (.int j u)) Q E s) :
  zQ X f (MK λi j=>.int (g i j)):=by
 intro pins s σ H x y v u Q I rx ry h;obtain ⟨i,j,rfl,rfl,q⟩:=h;obtain ⟨t,rfl⟩:=rx;obtain ⟨t',rfl⟩:=ry;exact rule i j t t' s _ _ ⟨.int (g i j),H,I.tok _,⟨_,rfl⟩,q⟩
theorem MT {f:Value->Value->Sem Value} {g:Int->Int->Bool}
  (rule:∀(i j:Int) (t u:Tok) (s:Shared) (Q:Value->Shared->Prop) (E:Value->Shared->Prop),Q (.bool (g i j)) s->wpAny (model X.prog X.w) X.A (f (.int i t) (.int j u)) Q E s) :
  zQ X f (MK λi j=>.bl (g i j)):=by
 intro pins s σ H x y v u Q I rx ry h;obtain ⟨i,j,rfl,rfl,q⟩:=h;obtain ⟨t,rfl⟩:=rx;obtain ⟨t',rfl⟩:=ry;exact rule i j t t' s _ _ ⟨.bl (g i j),H,I,rfl,q⟩
def Pl (i j:Int):Prop:=(-(2^64) < i/\i < 2^64)\/(-(2^64) < j/\j < 2^64)
theorem Pl.ok {i j:Int} (h:Pl i j):IntMulOk i j:=by
 rcases h with ⟨h1,h2⟩ | ⟨h1,h2⟩
 ·exact .of_left (intBits_le_64 h1 h2)
 ·exact .of_right (intBits_le_64 h1 h2)
theorem fG:zQ X (binaryOp .Add) (MK λi j=>.int (i+j)):=Qr λ_ _ _ _ _ _ _ q=>add_int q
theorem j4:zQ X (binaryOp .Sub) (MK λi j=>.int (i - j)):=Qr λ_ _ _ _ _ _ _ q=>sub_int q
theorem qJ:zQ X (binaryOp .Mod) (rI (λ_ j=>0 < j) λi j=>.int (i % j)):=QZ λi j _ _ _ _ _ hc q=>by
 have h1:(0:Int) < j:=hc;exact mod_int' (by lia) (by rw[Int.fmod_eq_emod_of_nonneg i (by lia)];exact q)
theorem MS:zQ X (binaryOp .Mod) (rI (λ_ j=>j≠0) λi j=>.int (i.fmod j)):=QZ λ_ _ _ _ _ _ _ hc q=>mod_int' hc q
theorem unI {f:Value->Sem Value} {g:Int->Int}
  (rule:∀(i:Int) (t:Tok) (s:Shared) (Q:Value->Shared->Prop) (E:Value->Shared->Prop),Q (.int (g i) s.toks) { s with toks:=s.toks+1 }->wpAny (model X.prog X.w) X.A (f (.int i t)) Q E s) :
  RD X f (rU λi=>.int (g i)):=by
 intro pins s σ H x v Q I rx h;obtain ⟨i,rfl,q⟩:=h;obtain ⟨t,rfl⟩:=rx;exact rule i t s _ _ ⟨.int (g i),H,I.tok _,⟨_,rfl⟩,q⟩
theorem wQ:RD X (unaryOp .USub) (rU λi=>.int (-i)):=unI λ_ _ _ _ _ q=>neg_int q
end
def P7:V->V->Bool
 | .non,.non=>true | .non,.int _=>true | .int _,.non=>true | .non,.bl _=>true | .bl _,.non=>true | .non,.str _=>true | .str _,.non=>true
 | .int _,.int _=>true | .bl _,.bl _=>true | .str _,.str _=>true | .byt _,.byt _=>true
 | .int _,.str _=>true | .str _,.int _=>true | .bl _,.str _=>true | .str _,.bl _=>true
 | _,_=>false
def rEq:R2:=λx y H Q=>P7 x y=true/\Q (.bl (decide (x=y))) H
def rNe:R2:=λx y H Q=>P7 x y=true/\Q (.bl (!decide (x=y))) H
theorem Jc {i j:Int}:decide (V.int i=V.int j)=(i == j):=by
 rw[oi];simp
theorem LF {i j:Bool}:decide (V.bl i=V.bl j)=(i == j):=by
 rw[oi];simp
theorem Jb {i j:Str}:decide (V.str i=V.str j)=(i == j):=by
 rw[oi];simp
theorem Jd {i j:Array UInt8}:decide (V.byt i=V.byt j)=(i.toList == j.toList):=by
 rw[oi];cases i;cases j;simp
section
variable {X:Cx} {a b c:Expr} {ta tb tc:TE} {pos:Pos}
theorem dg {pins:List (Addr×Obj)} {σ:St} {H:Hp} {s:Shared} {Q:VK} {k k':Bool} (I:Inv X pins σ H s) (q:Q (.bl k) H) (e:k=k'):EP X pins σ Q (.bool k') s:=by
 subst e;exact ⟨.bl k,H,I,rfl,q⟩
theorem fF:zQ X (compareOp .Eq) rEq:=by
 intro pins s σ H x y v u Q I rx ry h;obtain ⟨hs,q⟩:=h;cases x with
 | non =>
  cases rx;cases y with
  | non=>cases ry;exact PySem.EqNone.eq_none_none (dg I q (by simp))
  | bl j=>cases ry;exact PySem.EqNone.eq_none_bool (dg I q (by simp))
  | int j=>obtain ⟨t',rfl⟩:=ry;exact PySem.EqNone.eq_none_int (dg I q (by simp))
  | str j=>obtain ⟨t',rfl⟩:=ry;exact PySem.EqNone.eq_none_str (dg I q (by simp))
  | _=>exact absurd (show false=true from hs) aU
 | bl i =>
  cases rx;cases y with
  | non=>cases ry;exact PySem.EqNone.eq_bool_none (dg I q (by simp))
  | bl j=>cases ry;exact eq_bool (dg I q LF)
  | str j=>obtain ⟨t',rfl⟩:=ry;exact PySem.EqMixed.eq_bool_str (dg I q (by simp))
  | _=>exact absurd (show false=true from hs) aU
 | int i =>
  obtain ⟨t,rfl⟩:=rx;cases y with
  | non=>cases ry;exact PySem.EqNone.eq_int_none (dg I q (by simp))
  | int j=>obtain ⟨t',rfl⟩:=ry;exact eq_int (dg I q Jc)
  | str j=>obtain ⟨t',rfl⟩:=ry;exact PySem.EqMixed.eq_int_str (dg I q (by simp))
  | _=>exact absurd (show false=true from hs) aU
 | str i =>
  obtain ⟨t,rfl⟩:=rx;cases y with
  | non=>cases ry;exact PySem.EqNone.eq_str_none (dg I q (by simp))
  | bl j=>cases ry;exact PySem.EqMixed.eq_str_bool (dg I q (by simp))
  | int j=>obtain ⟨t',rfl⟩:=ry;exact PySem.EqMixed.eq_str_int (dg I q (by simp))
  | str j=>obtain ⟨t',rfl⟩:=ry;exact eq_str (dg I q Jb)
  | _=>exact absurd (show false=true from hs) aU
 | byt i =>
  obtain ⟨t,rfl⟩:=rx;cases y with
  | byt j=>obtain ⟨t',rfl⟩:=ry;exact PySem.W.eq_bytes (dg I q Jd)
  | _=>exact absurd (show false=true from hs) aU
 | _=>cases y <;> exact absurd (show false=true from hs) aU
theorem uo:zQ X (compareOp .NotEq) rNe:=by
 intro pins s σ H x y v u Q I rx ry h;obtain ⟨hs,q⟩:=h;cases x with
 | non =>
  cases rx;cases y with
  | non=>cases ry;exact PySem.EqNone.ne_none_none (dg I q (by simp))
  | bl j=>cases ry;exact PySem.EqNone.ne_none_bool (dg I q (by simp))
  | int j=>obtain ⟨t',rfl⟩:=ry;exact PySem.EqNone.ne_none_int (dg I q (by simp))
  | str j=>obtain ⟨t',rfl⟩:=ry;exact PySem.EqNone.ne_none_str (dg I q (by simp))
  | _=>exact absurd (show false=true from hs) aU
 | bl i =>
  cases rx;cases y with
  | non=>cases ry;exact PySem.EqNone.ne_bool_none (dg I q (by simp))
  | bl j=>cases ry;exact ne_bool (dg I q (congrArg not LF))
  | str j=>obtain ⟨t',rfl⟩:=ry;exact PySem.EqMixed.ne_bool_str (dg I q (by simp))
  | _=>exact absurd (show false=true from hs) aU
 | int i =>
  obtain ⟨t,rfl⟩:=rx;cases y with
  | non=>cases ry;exact PySem.EqNone.ne_int_none (dg I q (by simp))
  | int j=>obtain ⟨t',rfl⟩:=ry;exact ne_int (dg I q (congrArg not Jc))
  | str j=>obtain ⟨t',rfl⟩:=ry;exact PySem.EqMixed.ne_int_str (dg I q (by simp))
  | _=>exact absurd (show false=true from hs) aU
 | str i =>
  obtain ⟨t,rfl⟩:=rx;cases y with
  | non=>cases ry;exact PySem.EqNone.ne_str_none (dg I q (by simp))
  | bl j=>cases ry;exact PySem.EqMixed.ne_str_bool (dg I q (by simp))
  | int j=>obtain ⟨t',rfl⟩:=ry;exact PySem.EqMixed.ne_str_int (dg I q (by simp))
  | str j=>obtain ⟨t',rfl⟩:=ry;exact ne_str (dg I q (congrArg not Jb))
  | _=>exact absurd (show false=true from hs) aU
 | byt i =>
  obtain ⟨t,rfl⟩:=rx;cases y with
  | byt j=>obtain ⟨t',rfl⟩:=ry;exact PySem.W.ne_bytes (dg I q (congrArg not Jd))
  | _=>exact absurd (show false=true from hs) aU
 | _=>cases y <;> exact absurd (show false=true from hs) aU
theorem uq:zQ X (compareOp .Lt) (MK λi j=>.bl (decide (i < j))):=MT λ_ _ _ _ _ _ _ q=>lt_int q
theorem Qq:zQ X (compareOp .LtE) (MK λi j=>.bl (decide (i<=j))):=MT λ_ _ _ _ _ _ _ q=>le_int q
theorem xK:zQ X (compareOp .Gt) (MK λi j=>.bl (decide (j < i))):=MT λ_ _ _ _ _ _ _ q=>gt_int q
theorem Dm:zQ X (compareOp .GtE) (MK λi j=>.bl (decide (j<=i))):=MT λ_ _ _ _ _ _ _ q=>ge_int q
theorem MR:zQ X (compareOp .IsNot) (λx y H Q=>y=.non/\Q (.bl (!decide (x=.non))) H):=by
 intro pins s σ H x y v u Q I rx ry h;obtain ⟨rfl,q⟩:=h;cases ry;refine isnot_none_gen (dg I q ?_)
 cases x <;> first
  | (cases rx;rfl)
  | (obtain ⟨t,rfl⟩:=rx;rfl)
theorem bJ (b:Expr) {op:CmpOp} (h:op≠.In:=by decide) (h2:op≠.NotIn:=by decide):behindInMarks op b=false:=by
 have e1:(op == CmpOp.In)=false:=by cases op <;> first | rfl | exact absurd rfl h
 have e2:(op == CmpOp.NotIn)=false:=by cases op <;> first | rfl | exact absurd rfl h2
 cases b <;> simp [behindInMarks,e1,e2]
theorem lD {op:CmpOp} {r:R2} (ho:zQ X (compareOp op) r) (ha:PE X a ta) (hb:PE X b tb) (hm:behindInMarks op b=false):PE X (.Compare a [op] [b] pos) (PN r ta tb):=by
 intro pins s σ H Q I h;exact wpAny_Compare1 (Pc ha hb I h λv u s2 x y H2 I2 rx ry q=>ho pins s2 σ H2 x y v u Q I2 rx ry q) hm
def Nv (t:TE):TT:=λσ H Q=>t σ H λx H'=>∃k,x=.bl k/\Q k H'
theorem bE {op:CmpOp} {r:R2} (ho:zQ X (compareOp op) r) (ha:PE X a ta) (hb:PE X b tb) (hm:behindInMarks op b=false):PT X (.Compare a [op] [b] pos) (Nv (PN r ta tb)):=by
 intro pins s σ H Q I h
 refine wpAny_isTrue_Compare1 (gO (ha pins s σ H _ I h) λv s1 ⟨x,H1,I1,r1,q1⟩=>gO (hb pins s1 σ H1 _ I1 q1) λu s2 ⟨y,H2,I2,r2,q2⟩ =>
  gO (ho pins s2 σ H2 x y v u _ I2 r1 r2 q2) λc s3 ⟨z,H3,I3,r3,k,e,q3⟩=>?_) hm
 subst e;cases r3;exact wpAny_truthy_bool ⟨H3,I3,q3⟩
theorem BG:(sizeLine:Nat) < 2^63:=by rw[sizeLine_eq];decide
theorem vals1 {x:V} {us:List Value} (r:cK [x] us):∃u,us=[u]/\RelV x u:=by
 cases r with
 | cons r1 r2=>cases r2;exact ⟨_,rfl,r1⟩
theorem vals2 {x y:V} {us:List Value} (r:cK [x,y] us):∃u w',us=[u,w']/\RelV x u/\RelV y w':=by
 cases r with
 | cons r1 r2 =>
  cases r2 with
  | cons r3 r4=>cases r4;exact ⟨_,_,rfl,r1,r3⟩
theorem yp:oV X (.builtin "abs") (λxs H Q=>∃i,xs=[.int i]/\Q (.int (if i < 0 then -i else i)) H):=by
 intro pins s σ H xs us Q I r h;obtain ⟨i,rfl,q⟩:=h;obtain ⟨u,rfl,t,rfl⟩:=vals1 r;exact call_abs_int λu tk=>⟨.int (if i < 0 then -i else i),H,I.tok _,⟨_,rfl⟩,q⟩
theorem vF (hc:X.calm=true):oV X (.builtin "min") (λxs H Q=>∃i j,xs=[.int i,.int j]/\Q (.int (if j < i then j else i)) H):=by
 intro pins s σ H xs us Q I r h;obtain ⟨i,j,rfl,q⟩:=h;obtain ⟨u,w',rfl,⟨t,rfl⟩,⟨t',rfl⟩⟩:=vals2 r;refine min_two_ints (I.ok.hd hc) λh' tk k=>⟨_,H,I.kept k,?_,q⟩
 by_cases hj:j < i
 ·rw[if_pos hj,if_pos hj];exact ⟨_,rfl⟩
 ·rw[if_neg hj,if_neg hj];exact ⟨_,rfl⟩
end
structure J0 (h:Heap) (x dx C:Addr) (mA:Str->Option Value):Prop where
 obj:h.get? x=some (PySem.W.instObj C dx)
 ns:h.Ns1 dx mA
 ne:dx≠x
theorem JM {h:Heap} {dx:Addr} {mA:Str->Option Value} (n:h.Ns1 dx mA):∃od,h.get? dx=some od/\∀name,PySem.W.lookIn name od=some (mA name):=by
 obtain ⟨o,es,ep,ho,hd,hk,_,hm⟩:=n;refine ⟨o,ho,λname=>?_⟩;have e:=hm name;unfold nsFind findBy at e;rw[<- Array.find?_toList] at e;unfold PySem.W.lookIn;rw[hd]
 dsimp only
 split
 ·rename_i y q
  rw[q] at e;exact congrArg some e
 ·rename_i q
  rw[q] at e
  have a:es.toList.any (·.refKey)=false:=by
   rw[List.any_eq_false];intro y hy;obtain ⟨z,t,hkey⟩:=hk y (Array.mem_toList_iff.mp hy);simp [DictEntry.refKey,hkey]
  have a':¬es.toList.any (·.refKey)=true:=by rw[a];exact aU
  rw[if_neg a'];exact congrArg some e
theorem J0.look {h:Heap} {x dx C:Addr} {mA:Str->Option Value} (I:J0 h x dx C mA):∃od,PySem.W.InstAt h x (PySem.W.instObj C dx) C (some od)/\∀name,PySem.W.lookIn name od=some (mA name) :=
 let ⟨od,ho,hl⟩:=JM I.ns
 ⟨od,⟨I.obj,rfl,rfl,ho⟩,hl⟩
section
variable {prog:Program} {w:World} {A:Around} {E:Value->Shared->Prop} {s:Shared} {K:FG9} {x dx C f:Addr} {mA:Str->Option Value} {name:Str} {v:Value}
theorem get_map {expr:Bool} {Q:Value->Shared->Prop} (X:K.In s.heap) (I:J0 s.heap x dx C mA) (hg:PySem.W.plainGet K C name=true) (hh:PySem.W.hasDictIn K C=true)
  (ha:PySem.W.findIn K (.ref C) name=some none) (hv:mA name=some v) (hv':PySem.W.handedIn v=true) (h:Q v { s with toks:=s.toks+1 }) :
  wpAny (model prog w) A (getAttr (.ref x) name expr) Q E s:=by
 obtain ⟨od,J,hl⟩:=I.look;exact PySem.W.get_value X J (PySem.W.plainGet_of hg).1 (PySem.W.findObj_own hh ha rfl (by rw[hl,hv])) hv' h
theorem Ml {ns:List Str} {Q:Unit->Shared->Prop} (X:K.In s.heap) (I:J0 s.heap x dx C mA)
  (hs:PySem.W.findIn K (.ref C) "__setattr__"=some (some (.builtin "object.__setattr__"))) (hp:PySem.W.plainOver K C=true) (ht:PySem.W.takerIn K C name=some none) (hh:PySem.W.hasDictIn K C=true)
  (hw:PySem.Within mA ns) (hsz:ns.length<=sizeLine)
  (h:∀h',J0 h' x dx C (λy=>if y=name then some v else mA y)->Heap.SameBut dx s.heap h'->Q () { s with heap:=h',toks:=s.toks+2 }) :
  wpAny (model prog w) A (setAttr (.ref x) name v) Q E s:=by
 obtain ⟨od,J,hl⟩:=I.look;refine PySem.W.set_plain X J hs (PySem.W.osa_open (s:={ s with toks:=s.toks+1 }) (r:=none) X J hp ht λb=>?_);obtain ⟨cd,hc,hd'⟩:=PySem.W.any_some hh;have hx:s.heap.get? x=some ⟨.ref C,some dx,.plain,#[]⟩:=I.obj;refine wpAny_bind (wpAny_pure (wpAny_bind (wpAny_bind (wpAny_loadPart hx (wpAny_bind (PySem.W.Looks.here (s:={ s with toks:=s.toks+1 }) (PySem.W.looks_clsIn X hc) ?_))))));rw[hd'];refine wpAny_pure (a:=some dx) (wpAny_bind (wpAny_pure (wpAny_bind ?_)));refine wpAny_nsSet1 (s:={ s with toks:=s.toks+1 }) I.ns λh' hn2 hs2=>?_
 obtain ⟨oD,esD,epD,hoD,hdD,hcD⟩:=hn2.count (PySem.Within.cons name v hw);refine wpAny_bind (wpAny_lookBehind hoD (by rw[hdD];exact pastItsLine_dict (ai hcD (by rw[bD];lia))) ?_);exact wpAny_pure (h _ ⟨(hs2.2 _ (Ne.symm I.ne)).trans I.obj,hn2,I.ne⟩ hs2)
theorem K8 {R:Result->Shared->Prop} {vs:List Value} {kw:List (Str×Value)} (X:K.In s.heap) (hm:PySem.W.makesIn K C=true)
  (hi:PySem.W.findIn K (.ref C) "__init__"=some (some (.ref f))) (hf:PySem.W.typeIn K (.ref f)=some (.type "function"))
  (h:codeAny (model prog w) (A.under (.builtin "type.__call__" ⟨.ref C :: vs,kw⟩)) (.call (.ref f) ⟨.ref (s.heap.objs.size+1) :: vs,kw⟩) (PySem.W.InitBack (s.heap.objs.size+1) R)
   { s with heap:=(s.heap.push PySem.W.emptyDict).push (PySem.W.instObj C s.heap.objs.size) }) :
  codeAny (model prog w) A (.call (.ref C) ⟨vs,kw⟩) R s:=by
 obtain ⟨hh,g,d,t,os⟩:=s;exact PySem.W.make_core (PySem.W.makes_of X hm) (PySem.W.looks_findIn X hi) (λself=>PySem.W.bind_fn X self hf) (.inl rfl) h
end
def cn (f:Str) (v:V):List (Str×V)->List (Str×V)
 | []=>[(f,v)]
 | (g,x) :: r=>if g=f then (g,v) :: r else (g,x) :: cn f v r
theorem b7 (f g:Str) (v:V):∀fs:List (Str×V),(cn f v fs).lookup g=if g=f then some v else fs.lookup g
 | []=>by
  show List.lookup g [(f,v)]=_
  by_cases h:g=f
  ·have hb:(g == f)=true:=beq_iff_eq.mpr h;simp only[List.lookup,hb,if_pos h]
  ·have hb:(g == f)=false:=beq_eq_false_iff_ne.mpr h;simp only[List.lookup,hb,if_neg h]
 | (k,x) :: r=>by
  have ih:=b7 f g v r;rw[show cn f v ((k,x) :: r)=(if k=f then (k,v) :: r else (k,x) :: cn f v r) from rfl];by_cases hk:k=f
  ·rw[if_pos hk];by_cases h:g=k
   ·have hb:(g == k)=true:=beq_iff_eq.mpr h;simp only[List.lookup,hb,if_pos (h.trans hk)]
   ·have hb:(g == k)=false:=beq_eq_false_iff_ne.mpr h;simp only[List.lookup,hb,if_neg (λe:g=f=>h (e.trans hk.symm))]
  ·rw[if_neg hk];by_cases h:g=k
   ·have hb:(g == k)=true:=beq_iff_eq.mpr h;simp only[List.lookup,hb,if_neg (λe:g=f=>hk (h.symm.trans e))]
   ·have hb:(g == k)=false:=beq_eq_false_iff_ne.mpr h;simp only[List.lookup,hb];exact ih
theorem y9 (f:Str) (v:V):∀fs:List (Str×V),f∈(cn f v fs).map (·.1)/\∀g,g∈fs.map (·.1)->g∈(cn f v fs).map (·.1)
 | []=>⟨by simp [cn],λg h=>by simp at h⟩
 | (k,x) :: r=>by
  obtain ⟨i1,i2⟩:=y9 f v r;rw[show cn f v ((k,x) :: r)=(if k=f then (k,v) :: r else (k,x) :: cn f v r) from rfl];by_cases hk:k=f
  ·rw[if_pos hk];subst hk;exact ⟨by simp,λg h=>by simpa using h⟩
  ·rw[if_neg hk];refine ⟨?_,λg h=>?_⟩
   ·rw[ib];exact bT _ i1
   ·rw[ib] at h ⊢;rcases aE.mp h with e | e
    ·exact aE.mpr (.inl e)
    ·exact bT _ (i2 g e)
theorem zG (f:Str) (v:V):∀fs:List (Str×V),(cn f v fs).length<=fs.length+1
 | []=>by simp [cn]
 | (k,x) :: r=>by
  have ih:=zG f v r;rw[show cn f v ((k,x) :: r)=(if k=f then (k,v) :: r else (k,x) :: cn f v r) from rfl];by_cases hk:k=f
  ·rw[if_pos hk,bD,bD];lia
  ·rw[if_neg hk,bD,bD];lia
theorem Ii.some_of {v:V} {o:Option Value} (r:Ii (some v) o):∃u,o=some u/\RelV v u:=by
 cases o with
 | none=>exact (show False from r).elim
 | some u=>exact ⟨u,rfl,r⟩
theorem JQ {v:V} {u:Value} (r:RelV v u):PySem.W.handedIn u=true:=by
 cases v with
 | non=>cases (show u=Value.none from r);rfl
 | bl b=>cases (show u=Value.bool b from r);rfl
 | int i=>obtain ⟨t,e⟩:=(show ∃t,u=Value.int i t from r);cases e;rfl
 | str x=>obtain ⟨t,e⟩:=(show ∃t,u=Value.str x t from r);cases e;rfl
 | byt b=>obtain ⟨t,e⟩:=(show ∃t,u=Value.bytes b t from r);cases e;rfl
 | flt b=>obtain ⟨t,e⟩:=(show ∃t,u=Value.float b t from r);cases e;rfl
 | ref a=>cases (show u=Value.ref a from r);rfl
 | ty n=>cases (show u=Value.type n from r);rfl
section
variable {P:Program} {w:World} {H H':Hp} {h h':Heap} {a C dx:Addr} {fs fs':List (Str×V)}
theorem Ag (hok:Ao P w H h) (e:H a=some (.ins C dx fs)):∃mA,J0 h a dx C mA/\(∀f,Ii (fs.lookup f) (mA f))/\PySem.Within mA (fs.map (·.1))/\fs.length<=1000/\H dx=some (.own a):=by
 obtain ⟨d,z,ne,ob,mA,n,r,q⟩:=(show fI P w H h a (.ins C dx fs) from hok a _ e);exact ⟨mA,⟨ob,n,ne⟩,r,q,z,d⟩
end
structure LX (K:FG9) (C:Addr):Prop where
 pg:PySem.W.plainGet K C Str.empty=true
 hd:PySem.W.hasDictIn K C=true
 po:PySem.W.plainOver K C=true
 sa:PySem.W.findIn K (.ref C) "__setattr__"=some (some (.builtin "object.__setattr__"))
theorem LX.get {K:FG9} {C:Addr} (c:LX K C) (f:Str):PySem.W.plainGet K C f=true:=c.pg
def kn (K:FG9) (C:Addr) (f:Str):Prop:=PySem.W.findIn K (.ref C) f=some none
theorem kn.taker {K:FG9} {C:Addr} {f:Str} (n:kn K C f):PySem.W.takerIn K C f=some none:=by
 unfold PySem.W.takerIn;rw[show PySem.W.findIn K (.ref C) f=some none from n];rfl
section
variable {X:Cx} {pins:List (Addr×Obj)} {σ:St} {H:Hp} {s:Shared} {a C dx:Addr} {fs:List (Str×V)} {f:Str} {v:V} {A:Around} {E:Value->Shared->Prop}
theorem HV {b:Bool} {Q:Value->Shared->Prop} (I:Inv X pins σ H s) (e:H a=some (.ins C dx fs)) (c:LX X.K C) (n:kn X.K C f) (l:fs.lookup f=some v)
  (h:∀u s',Inv X pins σ H s'->RelV v u->Q u s'):wpAny (model X.prog X.w) A (getAttr (.ref a) f b) Q E s:=by
 obtain ⟨mA,O,r,_,_,_⟩:=Ag I.hok e;obtain ⟨u,hu,ru⟩:=Ii.some_of (v:=v) (o:=mA f) (by rw[<- l];exact r f);exact get_map I.kIn O (c.get f) c.hd n hu (JQ ru) (h u _ (I.tok _) ru)
theorem GQ {y:V} {u:Value} {Q:Unit->Shared->Prop} (I:Inv X pins σ H s) (e:H a=some (.ins C dx fs)) (c:LX X.K C) (n:kn X.K C f) (hl:fs.length < 1000) (ry:RelV y u)
  (h:∀s',Inv X pins σ (upd H a (.ins C dx (cn f y fs))) s'->Q () s'):wpAny (model X.prog X.w) A (setAttr (.ref a) f u) Q E s:=by
 obtain ⟨mA,O,r,wi,_,ho⟩:=Ag I.hok e;have hz:(fs.map (·.1)).length<=sizeLine:=by rw[ag,sizeLine_eq];lia
 refine Ml I.kIn O c.sa c.po n.taker c.hd wi hz λh' O' sb=>h _ ?_
 have hd:∃o,h'.get? dx=some o:=let ⟨o,_,_,e',_⟩:=O'.ns;⟨o,e'⟩
 refine I.write (x:=a) (e:=dx) (by rw[e];exact True.intro) (.inr ho) (λb q hb z=>(sb.2 b hb).trans z) hd ?_;refine ⟨by rw[bF O.ne];exact ho,?_,O.ne,O'.obj,_,O'.ns,λg=>?_,λg hg=>?_⟩
 ·have:=zG f y fs;lia
 ·show Ii ((cn f y fs).lookup g) (if g=f then some u else mA g)
  rw[b7];by_cases q:g=f
  ·rw[if_pos q,if_pos q];exact ry
  ·rw[if_neg q,if_neg q];exact r g
 ·by_cases q:g=f
  ·rw[q];exact (y9 f y fs).1
  ·refine (y9 f y fs).2 g (wi g λz=>hg ?_);show (if g=f then some u else mA g)=none
   rw[if_neg q];exact z
theorem Inv.made (I:Inv X pins σ H s):Inv X pins σ (upd (upd H s.heap.objs.size (.own (s.heap.objs.size+1))) (s.heap.objs.size+1) (.ins C s.heap.objs.size []))
  { s with heap:=(s.heap.push PySem.W.emptyDict).push (PySem.W.instObj C s.heap.objs.size) }:=by
 have e1:(s.heap.push PySem.W.emptyDict).get? s.heap.objs.size=some PySem.W.emptyDict:=Heap.get?_push_size s.heap rfl
 have e2:((s.heap.push PySem.W.emptyDict).push (PySem.W.instObj C s.heap.objs.size)).get? (s.heap.objs.size+1)=some (PySem.W.instObj C s.heap.objs.size):=by
  have:=Heap.get?_push_size (s.heap.push PySem.W.emptyDict) (o:=PySem.W.instObj C s.heap.objs.size) rfl;rwa [Heap.size_push] at this
 have e3:(s.heap.push PySem.W.emptyDict).Ns s.heap.objs.size (λ_=>none):=⟨PySem.W.emptyDict,#[],_,e1,rfl,(λe he=>absurd he (by simp)),λ_=>rfl⟩;have I1:=I.laid (a:=s.heap.objs.size) (o:=.own (s.heap.objs.size+1)) (h':=s.heap.push PySem.W.emptyDict) (t':=s.toks) (λb u q=>Heap.get?_push_of_some _ q) (au _) ⟨_,e1⟩;refine I1.laid (a:=s.heap.objs.size+1) (o:=.ins C s.heap.objs.size []) (t':=s.toks) (λb u q=>Heap.get?_push_of_some _ q) (Nat.le_of_eq (Heap.size_push _ _)) ?_;have ne:s.heap.objs.size≠s.heap.objs.size+1:=cG (eI _);refine ⟨by rw[bF ne,aI],bo _,ne,e2,λ_=>none,(Heap.Ns1.of_empty e3).at λo q=>Heap.get?_push_of_some _ q,λ_=>True.intro,λy hy=>absurd rfl hy⟩
theorem Nn {prog:Program} {w:World} {env:Env} {e:Expr} {f:Str} {pos:Pos} {s:Shared} {Q:Value->Shared->Prop} (hb:attributeBase e f env (eval e env)=eval e env)
  (h:wpAny (model prog w) A (eval e env) (λo s₁=>wpAny (model prog w) A (getAttr o f true) Q E s₁) E s):wpAny (model prog w) A (eval (.Attribute e f pos) env) Q E s :=
 Attribute_any_ h (by rw[arm_eval_Attribute,hb])
end
def Oh (K:FG9) (ta:TE) (f:Str):TE:=λσ H Q=>ta σ H λx H1=>∃a C dx fs v,x=.ref a/\H1 a=some (.ins C dx fs)/\LX K C/\kn K C f/\fs.lookup f=some v/\Q v H1
def P8 (K:FG9) (ta tv:TE) (f:Str):TS:=λD σ H=>tv σ H λy H1=>ta σ H1 λx H2=>∃a C dx fs,x=.ref a/\H2 a=some (.ins C dx fs)/\LX K C/\kn K C f/\fs.length < 1000 /\
 D.nx σ (upd H2 a (.ins C dx (cn f y fs)))
section
variable {X:Cx} {o e value:Expr} {f:Str} {pos pos' tpos:Pos} {ta tv:TE}
theorem kL (he:PE X e ta) (hb:attributeBase e f X.env (eval e X.env)=eval e X.env):PE X (.Attribute e f pos) (Oh X.K ta f):=by
 intro pins s σ H Q I h;refine Nn hb (gO (he pins s σ H _ I h) λu s1 ⟨x,H1,I1,rx,a,C,dx,fs,v,ex,ea,c,n,l,q⟩=>?_);subst ex;obtain rfl:u=Value.ref a:=rx;exact HV I1 ea c n l λu' s2 I2 ru=>⟨v,H1,I2,ru,q⟩
theorem yU (ha:PE X o ta) (hv:PE X value tv) (hs:swapsWith value (some (.Attribute o f pos')) pos.line X.env=pure false):PS X (.Assign [.Attribute o f pos'] value pos) (P8 X.K ta tv f):=by
 intro pins s σ H D I h;refine plainObj_wpAny_Assign_Attribute (gO (hv pins s σ H _ I h) λu s1 ⟨y,H1,I1,ry,q⟩=>gO (ha pins s1 σ H1 _ I1 q) λov s2 ⟨x,H2,I2,rx,a,C,dx,fs,ex,ea,c,n,l,q2⟩=>?_) hs;subst ex;obtain rfl:ov=Value.ref a:=rx;exact GQ I2 ea c n l ry λs3 I3=>⟨σ,_,I3,q2⟩
end
section
variable {X:Cx} {pins:List (Addr×Obj)} {σ:St} {H:Hp} {s:Shared} {A:Around} {E:Value->Shared->Prop} {Q:Value->Shared->Prop} {c:Value} {b:Bool}
inductive xo (K:FG9) (H:Hp):V->Value->Prop where
 | non:xo K H .non (.type "NoneType")
 | bl (x:Bool):xo K H (.bl x) (.type "bool")
 | int (i:Int):xo K H (.int i) (.type "int")
 | str (x:Str):xo K H (.str x) (.type "str")
 | flt (x:UInt64):xo K H (.flt x) (.type "float")
 | lst {a:Addr} {xs:List V} (e:H a=some (.lst xs)):xo K H (.ref a) (.type "list")
 | frz {a:Addr} {o:Obj} {xs:List V} (e:H a=some (.frz o (.lst xs))):xo K H (.ref a) (.type "list")
 | tup {a:Addr} {xs:List V} (e:H a=some (.tup xs)):xo K H (.ref a) (.type "tuple")
 | dK {a:Addr} {kvs:List (Key×V)} (e:H a=some (.dK kvs)):xo K H (.ref a) (.type "dict")
 | dT {a:Addr} {kvs:List (List Key×V)} (e:H a=some (.dT kvs)):xo K H (.ref a) (.type "dict")
 | ins {a C dx:Addr} {fs:List (Str×V)} (e:H a=some (.ins C dx fs)) (cl:LX K C) (ha:PySem.W.findIn K (.ref C) "__class__"=some (some (.builtin "object.__class__")))
   (hn:PySem.W.specialIn K (.builtin "object.__class__") "__get__"=some (some (.builtin "getset_descriptor.__get__"))) (htk:PySem.W.takesIn K (.builtin "object.__class__")=some true)
   (hm:PySem.W.mroIn K C (.type "object")=some true):xo K H (.ref a) (.ref C)
theorem Dx {x:V} {u t:Value} (I:Inv X pins σ H s) (rx:RelV x u) (ty:xo X.K H x t) (e:PySem.W.kitOne X.K t c=some b) (h:∀tk,Q (.bool b) { s with toks:=tk }) :
  wpAny (model X.prog X.w) A (call (.builtin "isinstance") [u,c]) Q E s:=by
 cases ty with
 | non=>cases (show u=Value.none from rx);exact dm PySem.W.kitx_none I.kIn True.intro e (λz=>nomatch z) h
 | bl y=>cases (show u=Value.bool y from rx);exact dm PySem.W.kitx_bool I.kIn True.intro e (λz=>nomatch z) h
 | int i=>obtain ⟨t,q⟩:=(show ∃t,u=Value.int i t from rx);cases q;exact dm PySem.W.kitx_int I.kIn True.intro e (λz=>nomatch z) h
 | str y=>obtain ⟨t,q⟩:=(show ∃t,u=Value.str y t from rx);cases q;exact dm PySem.W.kitx_str I.kIn True.intro e (λz=>nomatch z) h
 | flt y=>obtain ⟨t,q⟩:=(show ∃t,u=Value.float y t from rx);cases q;exact dm PySem.W.kitx_float I.kIn True.intro e (λz=>nomatch z) h
 | @lst a xs ea =>
  cases (show u=Value.ref a from rx);obtain ⟨_,_,n,_,h1⟩:=(show fI X.prog X.w H s.heap a (.lst xs) from I.hok a _ ea);exact dm yF I.kIn ⟨_,h1,rfl⟩ e (λz=>nomatch z) h
 | @frz a ob xs ea =>
  cases (show u=Value.ref a from rx);obtain ⟨_,_,_,n,_,h1⟩:=(show fI X.prog X.w H s.heap a (.frz ob (.lst xs)) from I.hok a _ ea);exact dm yF I.kIn ⟨_,h1,rfl⟩ e (λz=>nomatch z) h
 | @tup a xs ea =>
  cases (show u=Value.ref a from rx);obtain ⟨_,_,_,p⟩:=(show fI X.prog X.w H s.heap a (.tup xs) from I.hok a _ ea);obtain ⟨o,h1,h2,_⟩:=p;exact dm wL I.kIn ⟨o,h1,h2⟩ e (λz=>nomatch z) h
 | @dK a kvs ea =>
  cases (show u=Value.ref a from rx);obtain ⟨_,_,vs,_,p⟩:=(show fI X.prog X.w H s.heap a (.dK kvs) from I.hok a _ ea);obtain ⟨o,es,ep,h1,h2,_⟩:=p;exact dm yG I.kIn ⟨o,h1,h2.1⟩ e (λz=>nomatch z) h
 | @dT a kvs ea =>
  cases (show u=Value.ref a from rx);obtain ⟨_,_,xs,_,o,es,ep,h1,h2,_⟩:=(show fI X.prog X.w H s.heap a (.dT kvs) from I.hok a _ ea);exact dm yG I.kIn ⟨o,h1,h2.1⟩ e (λz=>nomatch z) h
 | @ins a C dx fs ea cl ha hn htk hm =>
  cases (show u=Value.ref a from rx);obtain ⟨mA,O,_⟩:=Ag I.hok ea;obtain ⟨od,J,_⟩:=O.look;exact dm (PySem.W.kitx_own (cl.get _) cl.hd ha hn htk hm) I.kIn J e (λz=>nomatch z) h
end
structure nX (k:Nat) (A:Around):Prop where
 hd:A.handled=none
 dp:A.depth+3*k+5 < recursionLimit
 un:A.units+16*k+200 < cLine
theorem nX.mono {j k:Nat} {A:Around} (r:nX k A) (h:j<=k):nX j A:=⟨r.hd,by have:=r.dp;lia,by have:=r.un;lia⟩
theorem nX.deeper {k:Nat} {A:Around} (r:nX (k+1) A) (env:Env):nX k (A.deeper env) :=
 ⟨r.hd,by have:=r.dp;show A.depth+1+3*k+5 < _;lia,by have:=r.un;show A.units+3+16*k+200 < _;lia⟩
theorem HQ {A:Around} {C:Addr} {us:List Value} {kw:List (Str×Value)}:(A.under (.builtin "type.__call__" ⟨.ref C :: us,kw⟩)).depth=A.depth+1:=by
 first | rfl | simp [Around.under,Code.weight,Code.isCreation,Code.isGuard,Code.isCaller,Code.frames,Code.isFrame,guardIds]
theorem HP {A:Around} {C:Addr} {us:List Value} {kw:List (Str×Value)}:(A.under (.builtin "type.__call__" ⟨.ref C :: us,kw⟩)).units=A.units+1:=by
 first | rfl | simp [Around.under,Code.cUnits,Code.frames,Code.isFrame]
theorem nX.make {k:Nat} {A:Around} (r:nX (k+1) A) (C:Addr) (us:List Value) (kw:List (Str×Value)):nX k (A.under (.builtin "type.__call__" ⟨.ref C :: us,kw⟩)) :=
 ⟨r.hd,by have:=r.dp;rw[HQ];lia,by have:=r.un;rw[HP];lia⟩
theorem nX.depth {k:Nat} {A:Around} (r:nX k A):A.depth < recursionLimit:=by have:=r.dp;lia
theorem nX.units {k:Nat} {A:Around} (r:nX k A):A.units+64 < cLine:=by have:=r.un;lia
def Jp:TA:=λ_ H Q=>Q [] H
def t8 (ta:TE) (tr:TA):TA:=λσ H Q=>ta σ H λx H1=>tr σ H1 λxs H2=>Q (x :: xs) H2
section
variable {X:Cx} {e:Expr} {es:List Expr} {te:TE} {t:TA} {pos:Pos}
theorem aj:PA X [] Jp:=λ_ _ _ _ H Q I h=>Calls.spliced_nil ⟨[],H,I,.nil,h⟩
theorem ae (ha:PE X e te) (hr:PA X es t) (hs:starEach (e :: es) X.env=(false,eval e X.env) :: starEach es X.env:=by rfl):PA X (e :: es) (t8 te t):=by
 intro pos pins s σ H Q I h;rw[hs];show wpAny _ _ (spliced ((false,eval e X.env) :: backTo pos (starEach es X.env))) _ _ s
 refine Calls.spliced_cons (gO (ha pins s σ H _ I h) λu s1 ⟨x,H1,I1,r1,q1⟩=>?_);exact gO (hr pos pins s1 σ H1 _ I1 q1) λus s2 ⟨xs,H2,I2,r2,q2⟩=>⟨x :: xs,H2,I2,.cons r1 r2,q2⟩
def PH (t:TA):TE:=λσ H Q=>t σ H λxs H1=>xs.length<=sizeLine/\∀p,H1 p=none->Q (.ref p) (upd H1 p (.tup xs))
def PU (t:TA):TE:=λσ H Q=>t σ H λxs H1=>xs.length<=sizeLine/\∀p,H1 p=none->Q (.ref p) (upd H1 p (.lst xs))
theorem cY {x1} (h:PA X es t):PE X (.Tuple es x1 pos) (PH t):=by
 intro pins s σ H Q I hq;refine wpAny_Tuple_spliced (gO (h pos pins s σ H _ I hq) λus s1 ⟨xs,H1,I1,r,z,q⟩=>⟨by rw[<- r.length];exact z,?_⟩);have hf:H1 s1.heap.objs.size=none:=I1.hok.fresh (au _);refine ⟨.ref s1.heap.objs.size,upd H1 s1.heap.objs.size (.tup xs),I1.laid (t':=s1.toks) (λb u e=>Heap.get?_push_of_some _ e) (au _) ?_,rfl,q _ hf⟩;exact ⟨z,us,r,⟨_,Heap.get?_push_size _ rfl,rfl,_,rfl⟩⟩
theorem eS (h:PA X es t):PE X (.List es pos) (PU t):=by
 intro pins s σ H Q I hq;refine wpAny_List_spliced (gO (h pos pins s σ H _ I hq) λus s1 ⟨xs,H1,I1,r,z,q⟩=>⟨by rw[<- r.length];exact z,?_⟩);have hf:H1 s1.heap.objs.size=none:=I1.hok.fresh (au _);refine ⟨.ref s1.heap.objs.size,upd H1 s1.heap.objs.size (.lst xs),I1.laid (t':=s1.toks) (λb u e=>Heap.get?_push_of_some _ e) (au _) ?_,rfl,q _ hf⟩;exact ⟨z,us,0,r,Heap.get?_push_size _ rfl⟩
end
abbrev Sp:=List V->Hp->VK->XK->Prop
abbrev LY:=List Env->Hp->Shared->XK->Value->Shared->Prop
structure Il (P:Program) (w:World) (K:FG9) (mg:Str->Option Value) (base:Heap) (A:Around) (outer:List Env) (s:Shared) (H:Hp):Prop where
 frames:A.frames=some outer
 mod:Mod K mg base
 bs:∀b o,base.get? b=some o->s.heap.get? b=some o/\H b=none
 bsz:base.objs.size<=s.heap.objs.size
 funs:s.heap.FunFrames base outer
 frf:∀b∈J7 outer,H b=none
 hok:Ao P w H s.heap
 bare:AllBare s.gens
def CE (outer:List Env) (P:Program) (w:World) (H:Hp) (s:Shared) (Q:VK) (u:Value) (s':Shared):Prop :=
 ∃v H',s'.os=s.os/\AllBare s'.gens/\Un (J7 outer) [] H H' s.heap s'.heap/\Ao P w H' s'.heap/\RelV v u/\Q v H'
def CR (CX:LY) (outer:List Env) (P:Program) (w:World) (H:Hp) (s:Shared) (Q:VK) (E:XK) (r:Result) (s':Shared):Prop :=
 match r with
 | .ok (.ret u)=>CE outer P w H s Q u s'
 | .ok _=>False
 | .error e=>CX outer H s E e s'
structure cJ (P:Program) (w:World) (K:FG9) (mg:Str->Option Value) (base:Heap) (CX:LY) (k:Nat) (f:Addr) (fd:FuncData) (ps:List Str) (sp:Sp):Prop where
 len:∀vs H Q E,sp vs H Q E->vs.length=ps.length
 run:∀(A:Around) (outer:List Env) (s:Shared) (H:Hp) (args:Args) (us:List Value) (vs:List V) (Q:VK) (E:XK),nX k A->Il P w K mg base A outer s H->BindsTo s fd args (ps.zip us)->cK vs us->sp vs H Q E →
  codeAny (model P w) A (.call (.ref f) args) (CR CX outer P w H s Q E) s
theorem Il.make {P:Program} {w:World} {K:FG9} {mg:Str->Option Value} {base:Heap} {A:Around} {outer:List Env} {s:Shared} {H:Hp} (e:Il P w K mg base A outer s H) (C:Addr) (us:List Value) (kw:List (Str×Value)) :
  Il P w K mg base (A.under (.builtin "type.__call__" ⟨.ref C :: us,kw⟩)) outer s H:=⟨by first | exact e.frames | (simpa [Around.under,Code.envs,Code.isFrame,pushEnvs] using e.frames),e.mod,e.bs,e.bsz,e.funs,e.frf,e.hok,e.bare⟩
section
variable {X:Cx} {pins:List (Addr×Obj)} {σ:St} {H:Hp} {s s':Shared}
theorem Inv.env0 (I:Inv X pins σ H s):Il X.prog X.w X.K X.mg X.base X.A X.stack s H :=
 ⟨I.ok.frames,I.ok.mod,I.bs,ai I.ok.bsz I.sz,I.stack,I.stkFree,I.hok,I.bare⟩
theorem Inv.after {Q:VK} {u:Value} (I:Inv X pins σ H s) (h:CE X.stack X.prog X.w H s Q u s'):EP X pins σ Q u s':=by
 obtain ⟨v,H',os,bare,un,hok,r,q⟩:=h;obtain ⟨hh,g,d,t,os'⟩:=s';obtain rfl:os'=s.os:=os;exact ⟨v,H',I.call (h':=hh) (g':=g) (d':=d) (t':=t) (ch:=[]) un hok bare (λb z=>absurd z (by simp)),r,q⟩
end
def Ki (sp:Sp) (dvs:List V) (E:XK) (t:TA):TE:=λσ H Q=>t σ H λvs H1=>sp (vs++dvs) H1 Q E
def Nz (C:Addr) (sp:Sp) (dvs:List V) (E:XK) (t:TA):TE:=λσ H Q=>t σ H λvs H1=>∀x dx,H1 x=none->H1 dx=none->dx≠x →
 sp (.ref x :: (vs++dvs)) (upd (upd H1 dx (.own x)) x (.ins C dx [])) (λv H2=>v=.non/\Q (.ref x) H2) E
def Binds (K:FG9) (fd:FuncData) (ps:List Str) (ds:List Value):Prop :=
 ∀(s:Shared) (us:List Value),K.In s.heap->(us++ds).length=ps.length->BindsTo s fd ⟨us,[]⟩ (ps.zip (us++ds))
theorem Binds.all {K:FG9} {fd:FuncData} {ps:List Str} (h:∀us:List Value,us.length=ps.length->bindArgs fd ⟨us,[]⟩=pure (ps.zip us)):Binds K fd ps []:=λs us _ hl=>by
 rw[Ci] at hl ⊢;exact .of_eq (h us hl)
def BX (CX:LY) (X:Cx) (E:XK):Prop:=∀(pins:List (Addr×Obj)) (σ:St) (H:Hp) (s:Shared) (e:Value) (s':Shared),Inv X pins σ H s->CX X.stack H s E e s'->X.xe e s'
section
variable {X:Cx} {CX:LY} {k:Nat} {f C:Addr} {fd:FuncData} {ps:List Str} {sp:Sp} {dvs:List V} {ds:List Value} {E:XK} {x m:Str} {p pos apos:Pos} {e o:Expr} {es:List Expr} {ta:TE} {t:TA}
theorem Ol {pins:List (Addr×Obj)} {σ:St} {H:Hp} {s:Shared} {Q:VK} {us:List Value} {vs:List V} (F:cJ X.prog X.w X.K X.mg X.base CX k f fd ps sp) (hr:nX k X.A) (hb:Binds X.K fd ps ds) (hd:cK dvs ds) (hx:BX CX X E)
  (I:Inv X pins σ H s) (r:cK vs us) (h:sp (vs++dvs) H Q E):wpAny (model X.prog X.w) X.A (call (.ref f) us) (EP X pins σ Q) X.xe s:=by
 have r2:cK (vs++dvs) (us++ds):=r.append hd;have hl:(us++ds).length=ps.length:=by rw[<- r2.length];exact F.len _ _ _ _ h
 refine wpAny_call (codeAny_mono (F.run X.A X.stack s H ⟨us,[]⟩ (us++ds) (vs++dvs) Q E hr I.env0 (hb s us I.kIn hl) r2 h) λr s' hq=>?_);cases r with
 | error e=>exact hx pins σ H s e s' I hq
 | ok fl =>
  cases fl with
  | ret u=>exact I.after hq
  | next=>exact False.elim hq
  | brk=>exact False.elim hq
  | cont=>exact False.elim hq
theorem Ab (F:cJ X.prog X.w X.K X.mg X.base CX k f fd ps sp) (hr:nX k X.A) (hg:Gl X x) (hm:X.mg x=some (.ref f)) (hk:PySem.W.keepIn X.K (.ref f)=true) (hb:Binds X.K fd ps ds) (hd:cK dvs ds) (hx:BX CX X E)
  (ha:PA X (e :: es) t) (hdb:(x == ("__debug__":Str))=false:=by decide) (he:starEach (e :: es) X.env=(false,eval e X.env) :: starEach es X.env:=by rfl) (hpl:(backTo pos (starEach es X.env)).any (·.1)=false:=by rfl) :
  PE X (.Call (.Name x p) (e :: es) [] pos) (Ki sp dvs E t):=by
 intro pins s σ H Q I h;refine wpAny_Call_Name_kw (Ez I hg hm ?_ hdb);refine PySem.W.callWith_K (h₀:=X.base) I.ok.mod.kin hk (gO (ha pos pins s σ H _ I h) λus s1 ⟨vs,H1,I1,r,q⟩=>⟨I1.kIn,?_⟩) he hpl;exact Ol F hr hb hd hx I1 r q
structure Mk (K:FG9) (C f:Addr):Prop where
 makes:PySem.W.makesIn K C=true
 init:PySem.W.findIn K (.ref C) "__init__"=some (some (.ref f))
 fn:PySem.W.isFn K (.ref f)=true
 kp:PySem.W.keepIn K (.ref C)=true
theorem Ku {pins:List (Addr×Obj)} {σ:St} {H:Hp} {s:Shared} {Q:VK} {us:List Value} {vs:List V} (M:Mk X.K C f) (F:cJ X.prog X.w X.K X.mg X.base CX k f fd ps sp) (hr:nX (k+1) X.A) (hb:Binds X.K fd ps ds) (hd:cK dvs ds)
  (hx:BX CX X E) (I:Inv X pins σ H s) (r:cK vs us)
  (h:∀x dx,H x=none->H dx=none->dx≠x->sp (.ref x :: (vs++dvs)) (upd (upd H dx (.own x)) x (.ins C dx [])) (λv H2=>v=.non/\Q (.ref x) H2) E) :
  wpAny (model X.prog X.w) X.A (call (.ref C) us) (EP X pins σ Q) X.xe s:=by
 have hq:=h (s.heap.objs.size+1) s.heap.objs.size (I.hok.fresh (tX _)) (I.hok.fresh (au _)) (cG (eI _));have I2:=Inv.made (C:=C) I;have r2:cK (V.ref (s.heap.objs.size+1) :: (vs++dvs)) (Value.ref (s.heap.objs.size+1) :: (us++ds)):=.cons rfl (r.append hd)
 have hl:(Value.ref (s.heap.objs.size+1) :: us++ds).length=ps.length:=by
  have e:=r2.length;rw[F.len _ _ _ _ hq] at e;exact e.symm
 refine wpAny_call (K8 (f:=f) I.kIn M.makes M.init (beq_iff_eq.mp M.fn) (codeAny_mono (F.run _ X.stack _ _ ⟨Value.ref (s.heap.objs.size+1) :: us,[]⟩ (Value.ref (s.heap.objs.size+1) :: (us++ds)) _ _ E (hr.make C us [])
  (I2.env0.make C us []) (hb _ (Value.ref (s.heap.objs.size+1) :: us) I2.kIn hl) r2 hq) λr s' hq'=>?_))
 cases r with
 | error e=>exact hx pins σ _ _ e s' I2 hq'
 | ok fl =>
  cases fl with
  | ret u =>
   obtain ⟨v,H',I3,rv,ev,q3⟩:=I2.after hq';subst ev;exact ⟨rv,⟨V.ref (s.heap.objs.size+1),H',I3,rfl,q3⟩⟩
  | next=>exact False.elim hq'
  | brk=>exact False.elim hq'
  | cont=>exact False.elim hq'
theorem MO (M:Mk X.K C f) (F:cJ X.prog X.w X.K X.mg X.base CX k f fd ps sp) (hr:nX (k+1) X.A) (hg:Gl X x) (hm:X.mg x=some (.ref C)) (hb:Binds X.K fd ps ds) (hd:cK dvs ds) (hx:BX CX X E)
  (ha:PA X (e :: es) t) (hdb:(x == ("__debug__":Str))=false:=by decide) (he:starEach (e :: es) X.env=(false,eval e X.env) :: starEach es X.env:=by rfl) (hpl:(backTo pos (starEach es X.env)).any (·.1)=false:=by rfl) :
  PE X (.Call (.Name x p) (e :: es) [] pos) (Nz C sp dvs E t):=by
 intro pins s σ H Q I h;refine wpAny_Call_Name_kw (Ez I hg hm ?_ hdb);refine PySem.W.callWith_K (h₀:=X.base) I.ok.mod.kin M.kp (gO (ha pos pins s σ H _ I h) λus s1 ⟨vs,H1,I1,r,q⟩=>⟨I1.kIn,?_⟩) he hpl;exact Ku M F hr hb hd hx I1 r q
end
structure bf (N P:List Str) (sc:Scope):Prop where
 kind:sc.kind=.function
 co:sc.isCoroutine=false
 gen:sc.isGenerator=false
 nd:N.Nodup
 pre:N.take P.length=P
 par:∀x∈P,sc.names.lookup x=some .local\/sc.names.lookup x=some .cell
 nofree:∀y∈sc.names,y.2≠.free
theorem DH {kindOf:Str->Option NameKind} {x:Str}:∀{binds:List (Str×Value)} {m:Str->Option Value},(∀v,(x,v)∉binds)->bindL kindOf binds m x=m x
 | [],_,_=>rfl
 | (n,v) :: r,m,h=>by
  unfold bindL;rw[DH λw hw=>h w (bT _ hw)]
  split
  ·have:x≠n:=by rintro rfl;exact h v cT
   simp [this]
  ·rfl
theorem DJ {kindOf:Str->Option NameKind} {x:Str}:∀{binds:List (Str×Value)} {m:Str->Option Value},(∀v,(x,v)∉binds)->bindC kindOf binds m x=m x
 | [],_,_=>rfl
 | (n,v) :: r,m,h=>by
  unfold bindC;rw[DJ λw hw=>h w (bT _ hw)]
  split
  ·rfl
  ·have:x≠n:=by rintro rfl;exact h v cT
   simp [this]
theorem DI {kindOf:Str->Option NameKind} {x:Str} {v:Value}:∀{P:List Str} {vs:List Value} {i:Nat} {m:Str->Option Value},P.Nodup->P[i]?=some x->vs[i]?=some v->kindOf x=some .local →
  bindL kindOf (P.zip vs) m x=some v
 | [],_,_,_,_,h,_,_=>by simp at h
 | _ :: _,[],_,_,_,_,h,_=>by simp at h
 | p :: P,w :: vs,0,m,nd,h1,h2,hk=>by
  simp at h1 h2;subst h1;subst h2;show bindL kindOf ((p,w) :: P.zip vs) m p=_
  unfold bindL;rw[DH λv hv=>(d6.mp nd).1 (L4 hv).1,if_pos hk];simp
 | p :: P,w :: vs,i+1,m,nd,h1,h2,hk=>by
  show bindL kindOf ((p,w) :: P.zip vs) m x=_
  unfold bindL;exact DI (i:=i) (d6.mp nd).2 (by simpa using h1) (by simpa using h2) hk
theorem DK {kindOf:Str->Option NameKind} {x:Str} {v:Value}:∀{P:List Str} {vs:List Value} {i:Nat} {m:Str->Option Value},P.Nodup->P[i]?=some x->vs[i]?=some v->kindOf x≠some .local →
  bindC kindOf (P.zip vs) m x=some v
 | [],_,_,_,_,h,_,_=>by simp at h
 | _ :: _,[],_,_,_,_,h,_=>by simp at h
 | p :: P,w :: vs,0,m,nd,h1,h2,hk=>by
  simp at h1 h2;subst h1;subst h2;show bindC kindOf ((p,w) :: P.zip vs) m p=_
  unfold bindC;rw[DJ λv hv=>(d6.mp nd).1 (L4 hv).1,if_neg hk];simp
 | p :: P,w :: vs,i+1,m,nd,h1,h2,hk=>by
  show bindC kindOf ((p,w) :: P.zip vs) m x=_
  unfold bindC;exact DK (i:=i) (d6.mp nd).2 (by simpa using h1) (by simpa using h2) hk
def start (N:List Str) (vs:List V):St:=vs.map some++List.replicate (N.length - vs.length) none
def JU (CX:LY) (P:Program) (w:World) (K:FG9) (mg:Str->Option Value) (base:Heap) (N:List Str) (qual:Str) (scope:Scope) (f:Addr) (cd:Value) (A:Around) (outer:List Env) (s:Shared) (H:Hp) (E:XK):Cx where
 prog:=P
 w:=w
 K:=K
 mg:=mg
 base:=base
 A:=A.deeper (envOfC qual scope s.heap.objs.size f cd)
 N:=N
 s₀:=s
 H₀:=H
 env:=envOfC qual scope s.heap.objs.size f cd
 outer:=outer
 stack:=envOfC qual scope s.heap.objs.size f cd :: outer
 ex:=[]
 calm:=true
 fn:=λ_=>true
 pn:=[]
 xe:=λe s'=>wpAny (model P w) (A.deeper (envOfC qual scope s.heap.objs.size f cd)) (leaving (envOfC qual scope s.heap.objs.size f cd) e) (λ_ s''=>CX outer H s E e s'') (λe' s''=>CX outer H s E e' s'') s'
theorem Gj {sc:Scope} {n:Nat} {x:Str} (h:sc.names.lookup x=some .cell):∃c,(cellsFrom n sc.names []).lookup x=some c:=by
 have q:=Aq sc.names n [] (.inl h);exact Pu.mp q
theorem JN {CX:LY} {P:Program} {w:World} {K:FG9} {mg:Str->Option Value} {base:Heap} {N ps:List Str} {qual:Str} {scope:Scope} {f:Addr} {cd:Value} {A:Around} {outer:List Env} {s s1:Shared} {H:Hp} {E:XK} {us:List Value} {vs:List V}
  (S:bf N ps scope) (hd:A.handled=none) (e0:Il P w K mg base A outer s H) (hl:vs.length=ps.length) (r:cK vs us)
  (x:InCallC s s.heap.objs.size (bindL (envOfC qual scope s.heap.objs.size f cd).kindOf (ps.zip us) λ_=>none) (cellsFrom (s.heap.objs.size+1) scope.names []) (bindC (envOfC qual scope s.heap.objs.size f cd).kindOf (ps.zip us) λ_=>none) s1) :
  Inv (JU CX P w K mg base N qual scope f cd A outer s H E) [] (start N vs) H s1:=by
 have hpl:ps.length<=N.length:=by have:=congrArg List.length S.pre;rw[dq] at this;lia
 obtain ⟨h1,tk,rfl,hk⟩:=x.done;have noA:∀b:Addr,b∉(JU CX P w K mg base N qual scope f cd A outer s H E).ex:=λb z=>absurd (show b∈([]:List Addr) from z) (by simp)
 refine ⟨⟨e0.mod,S.kind,rfl,rfl,au _,λy z c h1 h2=>?_,λy hy=>?_,λy c _ h=>?_,λ_=>hd,Around.frames_deeper e0.frames,.inr ⟨rfl,rfl⟩,λb z=>absurd z (noA b),e0.bs,e0.bsz,λb _ _=>noA b,λb z=>absurd z (noA b),e0.funs,e0.frf⟩,
  rfl,e0.bare,Un.kept hk,⟨_,x.toInCall.ns,λi y v h1 h2 h3=>?_⟩,λy c h=>⟨_,x.cell y c h⟩,e0.hok.fresh (au _),λy c h=>?_,λp hp=>absurd (show p∈([]:List (Addr×Obj)) from hp) (by simp),e0.hok.kept hk,?_⟩
 ·exact name_of_addr x.apart (mS h1) (mS h2)
 ·have hy:scope.names.lookup y=some .cell\/scope.names.lookup y=some .free:=hy;rcases hy with hy | hy
  ·exact Gj hy
  ·exact absurd rfl (S.nofree _ (mS hy))
 ·exact bg (x.above y c (mS h))
 ·have hi:i < vs.length:=by
   unfold start at h2;by_cases hi:i < vs.length
   ·exact hi
   ·rw[b8 (by simpa using hi)] at h2;rw[QU] at h2
    split at h2 <;> cases h2
  have ha:vs[i]?=some v:=by
   unfold start at h2;rw[cR (by simpa using hi),aF] at h2;cases e:vs[i]? with
   | none=>rw[e] at h2;cases h2
   | some a=>rw[e] at h2;cases h2;rfl
  obtain ⟨u,hu,rv⟩:=r.get ha
  have hp:ps[i]?=some y:=by
   rw[<- S.pre,yK (by lia)];exact h1
  have ndP:ps.Nodup:=by rw[<- S.pre];exact S.nd.sublist (List.take_sublist _ _)
  refine ⟨u,rv,?_⟩;rcases S.par y (ar hp) with k | k
  ·exact .inl ⟨k,DI ndP hp hu k⟩
  ·obtain ⟨c,e⟩:=Gj (n:=s.heap.objs.size+1) k;refine .inr ⟨.inl k,c,e,?_⟩;have q:=x.cell y c e;rw[DK ndP hp hu (by show scope.names.lookup y≠_;rw[k];decide)] at q;exact q
 ·exact e0.hok.fresh (bg (x.above y c (mS h)))
 ·unfold start;show _=N.length
  rw[av,ag,fX]
  lia
theorem QF {CX:LY} {P:Program} {w:World} {K:FG9} {mg:Str->Option Value} {base:Heap} {k:Nat} {f:Addr} {name qual:Str} {params:Arguments} {body:List Stmt} {scope:Scope} {dV kV doc pm cdv ct oc:Value} {an od:Option Addr}
  {osl:Array (Option Value)} {N ps:List Str} {sp:Sp} (lk:K.lookup f=some ⟨oc,od,.func (PySem.W.fnOf name qual params body scope dV kV doc pm an cdv ct),osl⟩) (hcd:PySem.W.codeIn K cdv qual=true) (S:bf N ps scope)
  (len:∀vs H Q E,sp vs H Q E->vs.length=ps.length)
  (hbody:∀(A:Around) (outer:List Env) (s:Shared) (H:Hp) (vs:List V) (Q:VK) (E:XK),nX k (A.deeper (envOfC qual scope s.heap.objs.size f cdv))->sp vs H Q E →
   ∃t,Ik (JU CX P w K mg base N qual scope f cdv A outer s H E) body t/\t { nx:=λ_ H'=>Q .non H',rt:=Q } (start N vs) H) :
  cJ P w K mg base CX (k+1) f (PySem.W.fnOf name qual params body scope dV kV doc pm an cdv ct) ps sp:=by
 refine ⟨len,λA outer s H args us vs Q E hr e0 hb r hsp=>?_⟩;have hl:=len _ _ _ _ hsp;have KX:K.In s.heap:=e0.mod.kin.keeps λb o e=>(e0.bs b o e).1
 have lim:s.heap.NoLimit:=e0.mod.nolimit.keeps λb o e=>(e0.bs b o e).1
 have hkind:∀y∈ps.zip us,scope.names.lookup y.1=some .local\/(scope.names.lookup y.1=some .cell/\((cellsFrom (s.heap.objs.size+1) scope.names []).lookup y.1).isSome=true):=λ⟨n,v⟩ hy=>by
  rcases S.par n (L4 hy).1 with q | q
  ·exact .inl q
  ·exact .inr ⟨q,Aq _ _ _ (.inl q)⟩
 refine codeAny_call_function hr.depth (KX _ _ lk) rfl S.co S.gen rfl (PySem.W.codeRec_of KX hcd) (hb _ _ _ _ ?_);refine wpAny_newFunctionEnv_cells S.kind hkind λenv he s1 x=>?_
 subst he;refine ⟨lim.keeps x.toInCall.keep,codeAny_func ?_⟩;obtain ⟨t,ht,hq⟩:=hbody A outer s H vs Q E (hr.deeper _) hsp;have I:Inv (JU CX P w K mg base N qual scope f cdv A outer s H E) [] (start N vs) H s1:=JN S hr.hd e0 hl r x;refine wpAny_mono (ht [] s1 (start N vs) H _ I hq) (λfl s' hs=>?_) λe s' hs=>hs
 have fin:∀{σ':St} {H':Hp} {v:V} {u:Value},Inv (JU CX P w K mg base N qual scope f cdv A outer s H E) [] σ' H' s'->RelV v u->Q v H'->CE outer P w H s Q u s' :=
  λ{σ' H' v u} J rv q=>⟨v,H',J.os,J.bare,J.base,J.hok,rv,q⟩
 cases fl with
 | ret u =>
  obtain ⟨v,σ',H',J,rv,q⟩:=hs;exact fin J rv q
 | next =>
  obtain ⟨σ',H',J,q⟩:=hs;exact fin (v:=V.non) (u:=Value.none) J rfl q
 | brk =>
  obtain ⟨_,_,_,q⟩:=hs;exact False.elim q
 | cont =>
  obtain ⟨_,_,_,q⟩:=hs;exact False.elim q
section
variable {X:Cx} {x:Str} {p pos:Pos} {e:Expr} {es:List Expr} {t:TA} {id T:String} {r:List V->Hp->VK->Prop}
def Q9 (r:List V->Hp->VK->Prop) (t:TA):TE:=λσ H Q=>t σ H λvs H1=>r vs H1 Q
theorem bG (hc:oV X (.builtin id) r) (hg:Gl X x) (hm:X.mg x=none) (hv:bootBuiltins x=some (.builtin id)) (ha:PA X (e :: es) t) (hn:x≠"__name__":=by decide) (hdb:(x == ("__debug__":Str))=false:=by decide)
  (he:starEach (e :: es) X.env=(false,eval e X.env) :: starEach es X.env:=by rfl) (hpl:(backTo pos (starEach es X.env)).any (·.1)=false:=by rfl):PE X (.Call (.Name x p) (e :: es) [] pos) (Q9 r t):=by
 intro pins s σ H Q I h;refine wpAny_Call_Name_kw (oR I hg hm hv ?_ hn hdb);exact PyProof.Rows.callWith_builtin1 (gO (ha pos pins s σ H _ I h) λus s1 ⟨vs,H1,I1,r1,q1⟩=>hc pins s1 σ H1 vs us Q I1 r1 q1) he hpl
theorem eX (hc:oV X (.type T) r) (hg:Gl X x) (hm:X.mg x=none) (hv:bootBuiltins x=some (.type T)) (ha:PA X (e :: es) t) (hn:x≠"__name__":=by decide) (hdb:(x == ("__debug__":Str))=false:=by decide)
  (he:starEach (e :: es) X.env=(false,eval e X.env) :: starEach es X.env:=by rfl) (hpl:(backTo pos (starEach es X.env)).any (·.1)=false:=by rfl):PE X (.Call (.Name x p) (e :: es) [] pos) (Q9 r t):=by
 intro pins s σ H Q I h;refine wpAny_Call_Name_kw (oR I hg hm hv ?_ hn hdb);exact PyProof.Rows.callWith_type1 (gO (ha pos pins s σ H _ I h) λus s1 ⟨vs,H1,I1,r1,q1⟩=>hc pins s1 σ H1 vs us Q I1 r1 q1) he hpl
end
end L2
namespace HT
open PySem PyProof.Rows
section
open PySem.SeqAt
open PySem.AutoSeq1 (wpAny_loadPart')
open PySem.MeetsSeq PySem.MeetsSeq2 PySem.MeetsSeq3
end
section
variable {prog:Program} {w:World} {A:Around} {E:Value->Shared->Prop} {s:Shared}
def FD (n d:Nat):Option Int->Nat
 | none=>d
 | some v=>if v < 0 then (v+(n:Int)).toNat else min v.toNat n
theorem FC (n d:Nat):FD n d none=d:=rfl
theorem IB (n d k:Nat):FD n d (some (k:Int))=min k n:=by
 show (if (k:Int) < 0 then ((k:Int)+(n:Int)).toNat else min (k:Int).toNat n)=min k n
 rw[if_neg (by lia),Int.toNat_natCast]
end
end HT
namespace L2
open PySem PySem.Spec PyProof.Rows
abbrev TO:=St->Hp->(Option Int->Hp->Prop)->Prop
def PO (X:Cx) (e:Option Expr) (t:TO):Prop :=
 ∀(pins:List (Addr×Obj)) (s:Shared) (σ:St) (H:Hp) (Q:Option Int->Hp->Prop),Inv X pins σ H s->t σ H Q →
  wpAny (model X.prog X.w) X.A (evalPart e X.env) (λu s'=>∃o H',Inv X pins σ H' s'/\IsPart u o/\Q o H') X.xe s
def Ip:TO:=λ_ H Q=>Q none H
def Nw (t:TE):TO:=λσ H Q=>t σ H λx H1=>∃i,x=.int i/\Q (some i) H1
theorem intsAre_of {ns:List Int}:∀{us:List Value},cK (ns.map V.int) us->IntsAre us ns:=by
 induction ns with
 | nil=>intro us r;rw[List.map_nil] at r;cases r;exact .nil
 | cons n ns ih =>
  intro us r;rw[ib] at r;cases r with
  | cons r1 r2 =>
   obtain ⟨t,e⟩:=r1;subst e;exact .cons n t (ih r2)
section
variable {X:Cx} {e:Expr} {te:TE} {lo hi:Option Expr} {tl th:TO} {pos p2:Pos}
theorem IF:PO X none Ip:=by
 intro pins s σ H Q I h;rw[evalPart_none];exact wpAny_pure ⟨none,H,I,.none,h⟩
theorem IE (h:PE X e te):PO X (some e) (Nw te):=by
 intro pins s σ H Q I hw;rw[evalPart_some];refine gO (h pins s σ H _ I hw) λu s1 ⟨x,H1,I1,r1,q1⟩=>?_
 obtain ⟨i,rfl,q⟩:=q1;obtain ⟨t,rfl⟩:=r1;exact ⟨some i,H1,I1,.int i t,q⟩
def SlR (X:Cx) (r:V->Option Int->Option Int->Hp->VK->Prop):Prop :=
 ∀(pins:List (Addr×Obj)) (s:Shared) (σ:St) (H:Hp) (x:V) (v vl vu:Value) (lo hi:Option Int) (sl:Addr) (Q:VK),Inv X pins σ H s->RelV x v->s.heap.IsSliceOf sl vl vu .none->IsPart vl lo->IsPart vu hi->r x lo hi H Q →
  ∃T id,typeLookup (.type T) "__getitem__"=pure (some (.builtin id))/\s.TypeIs v T/\wpAny (model X.prog X.w) X.A (getItem v (.ref sl)) (EP X pins σ Q) X.xe s
def tSl (r:V->Option Int->Option Int->Hp->VK->Prop) (te:TE) (tl th:TO):TE:=λσ H Q=>te σ H λx H1=>tl σ H1 λl H2=>th σ H2 λu H3=>r x l u H3 Q
theorem FJ {r:V->Option Int->Option Int->Hp->VK->Prop} (hr:SlR X r) (he:PE X e te) (hl:PO X lo tl) (hu:PO X hi th):PE X (.Subscript e (.Slice lo hi none p2) pos) (tSl r te tl th):=by
 intro pins s σ H Q I h;refine Subscript_ (gO (he pins s σ H _ I h) λv s1 ⟨x,H1,I1,r1,q1⟩=>?_);refine wpAny_Slice (gO (hl pins s1 σ H1 _ I1 q1) λvl s2 ⟨l,H2,I2,pl,q2⟩=>gO (hu pins s2 σ H2 _ I2 q2) λvu s3 ⟨u,H3,I3,pu,q3⟩=>?_);rw[evalPart_none];refine wpAny_pure ?_;have I4:Inv X pins σ H3 { s3 with heap:=s3.heap.push { cls:=.type "slice",data:=.fields #[vl,vu,.none] } }:=I3.kept (t':=s3.toks) λb ob q=>Heap.get?_push_of_some _ q
 obtain ⟨T,id,hT,ht,hg⟩:=hr pins { s3 with heap:=s3.heap.push { cls:=.type "slice",data:=.fields #[vl,vu,.none] } } σ H3 x v vl vu l u s3.heap.objs.size Q I4 r1 (Heap.IsSliceOf.new ..) pl pu q3;show wpAny (model X.prog X.w) X.A (subscriptTail e (.Slice lo hi none p2) v (.ref s3.heap.objs.size)) (EP X pins σ Q) X.xe { s3 with heap:=s3.heap.push { cls:=.type "slice",data:=.fields #[vl,vu,.none] } }
 exact tail_any (ops:=[.ref s3.heap.objs.size,v]) ht hT hg (by with_unfolding_all rfl)
def yn (xs:List V) (lo hi:Option Int):List V:=(xs.drop (HT.FD xs.length 0 lo)).take (HT.FD xs.length xs.length hi - HT.FD xs.length 0 lo)
theorem zH (xs:List V) (lo hi:Option Int):(yn xs lo hi).length<=xs.length:=by
 unfold yn;rw[dq,List.length_drop]
 lia
end
def J6 (n:Nat) (i:Int):Option Nat:=if 0<=i then (if i < n then some i.toNat else none) else if -(n:Int)<=i then some (i+n).toNat else none
def Ia {α:Type} (xs:List α) (i:Int):Option α:=(J6 xs.length i).bind λj=>xs[j]?
theorem IU {n:Nat} {i:Int} {j:Nat} (h:J6 n i=some j):seqIndex? i n=some j/\j < n/\-(n:Int)<=i/\i < n:=by
 unfold J6 at h;by_cases h0:0<=i
 ·rw[if_pos h0] at h;by_cases h1:i < n
  ·rw[if_pos h1] at h;have e:i.toNat=j:=bY h;exact ⟨by rw[seqIndex_of h0 h1,e],by lia,by lia,h1⟩
  ·rw[if_neg h1] at h;cases h
 ·rw[if_neg h0] at h;by_cases h1:-(n:Int)<=i
  ·rw[if_pos h1] at h;have e:(i+n).toNat=j:=bY h;exact ⟨by rw[seqIndex_neg (by lia) h1,e],by lia,h1,by lia⟩
  ·rw[if_neg h1] at h;cases h
theorem EO {α:Type} {xs:List α} {i:Int} {v:α} (h:Ia xs i=some v):∃j,seqIndex? i xs.length=some j/\xs[j]?=some v/\j < xs.length/\-(xs.length:Int)<=i/\i < xs.length:=by
 unfold Ia at h;cases e:J6 xs.length i with
 | none=>rw[e] at h;cases h
 | some j =>
  rw[e] at h;obtain ⟨h1,h2,h3,h4⟩:=IU e;exact ⟨j,h1,h,h2,h3,h4⟩
theorem fz {α:Type} {xs:List α} {j:Nat} {v:α} (h:xs[j]?=some v):Ia xs (j:Int)=some v:=by
 have hj:j < xs.length:=(aD.mp h).1
 have e:J6 xs.length (j:Int)=some j:=by
  unfold J6;rw[if_pos (by lia),if_pos (by lia)];simp
 unfold Ia;rw[e];exact h
theorem BV {α:Type} (xs:List α) (v:α):Ia (xs++[v]) (-1)=some v:=by
 have hl:(xs++[v]).length=xs.length+1:=by simp
 have e:J6 (xs++[v]).length (-1)=some xs.length:=by
  unfold J6;rw[hl,if_neg (by decide),if_pos (by lia)];congr 1
  lia
 unfold Ia;rw[e];show (xs++[v])[xs.length]?=some v
 simp
def Nr (b:Expr):Prop:=∀o i,subscripted b false o i=operate [o,i] (getItem o i)
def QP (X:Cx) (r:R2):Prop :=
 ∀(value slice:Expr) (pins:List (Addr×Obj)) (s:Shared) (σ:St) (H:Hp) (x y:V) (v u:Value) (Q:VK),Inv X pins σ H s->RelV x v->RelV y u->r x y H Q →
  subscripted slice false v u=operate [v,u] (getItem v u)->wpAny (model X.prog X.w) X.A (subscriptTail value slice v u) (EP X pins σ Q) X.xe s
def MtR (X:Cx) (id:String) (r:V->List V->Hp->VK->Prop):Prop :=
 ∀(pins:List (Addr×Obj)) (s:Shared) (σ:St) (H:Hp) (x:V) (xs:List V) (v:Value) (us:List Value) (Q:VK),Inv X pins σ H s->RelV x v->cK xs us->r x xs H Q →
  wpAny (model X.prog X.w) X.A (call (.builtin id) (v :: us)) (EP X pins σ Q) X.xe s
section
variable {X:Cx} {a b:Expr} {ta tb:TE} {pos:Pos}
theorem aY {r:R2} (hr:QP X r) (ha:PE X a ta) (hb:PE X b tb) (hs:Nr b:=by intro _ _;rfl):PE X (.Subscript a b pos) (PN r ta tb):=by
 intro pins s σ H Q I h;exact Subscript_ (Pc ha hb I h λv u s2 x y H2 I2 rx ry q=>hr a b pins s2 σ H2 x y v u Q I2 rx ry q (hs _ _))
def OL (K:FG9):R2:=λx y H Q=>∃p xs i v,x=.ref p/\y=.int i/\bO K H p xs/\Ia xs i=some v/\Q v H
def OK (K:FG9):R2:=λx y H Q=>∃p xs i v,x=.ref p/\y=.int i/\kj K H p xs/\Ia xs i=some v/\Q v H
theorem bW:QP X (OL X.K):=by
 intro value slice pins s σ H x y v u Q I rx ry h hs;obtain ⟨p,xs,i,z,rfl,rfl,hq,he,q⟩:=h;cases rx;obtain ⟨t,rfl⟩:=ry;obtain ⟨its,r,pl,hz⟩:=I.list hq;obtain ⟨j,h1,h2,h3,h4,h5⟩:=EO he;obtain ⟨w,ew,rw'⟩:=r.get h2;have hl:=r.length;have hn:=BG;have fin:EP X pins σ Q w s:=⟨z,H,I,rw',q⟩;by_cases h0:0<=i
 ·have hj:i.toNat=j:=by
   rw[seqIndex_of h0 h5] at h1;exact bY h1
  exact item_listR pl.isList h0 (by lia) (by rw[hj];simpa using ew) fin hs
 ·have hj:(i+(its.toArray.size:Int)).toNat=j:=by
   rw[seqIndex_neg (by lia) h4] at h1;rw[aJ,<- hl];exact bY h1
  exact subscriptTail_builtinR (x:=w) pl.isList.typeIs slot_list_getitem.lookup
   (wpAny_getItem_list_neg (Q:=λr s'=>r=w/\EP X pins σ Q r s') pl.isList (by lia) (by rw[aJ] <;> lia) (by lia) (by rw[hj];simpa using ew) ⟨rfl,fin⟩) hs
theorem bU:QP X (OK X.K):=by
 intro value slice pins s σ H x y v u Q I rx ry h hs;obtain ⟨p,xs,i,z,rfl,rfl,hq,he,q⟩:=h;cases rx;obtain ⟨t,rfl⟩:=ry;obtain ⟨its,r,pl,hz⟩:=I.tuple hq;obtain ⟨j,h1,h2,h3,h4,h5⟩:=EO he;obtain ⟨w,ew,rw'⟩:=r.get h2;have hl:=r.length;have hn:=BG;have fin:EP X pins σ Q w s:=⟨z,H,I,rw',q⟩
 exact subscriptTail_builtinR (x:=w) pl.typeIs slot_tuple_getitem.lookup
  (getItem_tuple (j:=j) (Q:=λr s'=>r=w/\EP X pins σ Q r s') pl (by lia) (by lia) (by rw[aJ,<- hl];exact h1) (by simpa using ew) ⟨rfl,fin⟩) hs
theorem HN (its:List Value) (n j:Nat) (u:Value):Obj.mapSeq (·.setIfInBounds j u) { cls:=.type "list",data:=.seq its.toArray n }={ cls:=.type "list",data:=.seq (its.set j u).toArray n }:=by
 simp [Obj.mapSeq]
theorem Inv.lst {pins:List (Addr×Obj)} {σ:St} {H:Hp} {s:Shared} {p:Addr} {xs:List V} (I:Inv X pins σ H s) (h:H p=some (.lst xs)) :
  ∃(its:List Value) (n:Nat),cK xs its/\s.heap.get? p=some { cls:=.type "list",data:=.seq its.toArray n }/\xs.length<=sizeLine:=by
 obtain ⟨z,its,n,r,e⟩:=I.hok p _ h;exact ⟨its,n,r,e,z⟩
theorem Inv.lstUpd {pins:List (Addr×Obj)} {σ:St} {H:Hp} {s:Shared} {p:Addr} {xs ys:List V} {its its':List Value} {n n':Nat} {f:Obj->Obj} (I:Inv X pins σ H s) (h:H p=some (.lst xs))
  (ho:s.heap.get? p=some { cls:=.type "list",data:=.seq its.toArray n }) (hf:f { cls:=.type "list",data:=.seq its.toArray n }={ cls:=.type "list",data:=.seq its'.toArray n' }) (r:cK ys its') (hz:ys.length<=sizeLine) (t:Nat) :
  Inv X pins σ (upd H p (.lst ys)) { s with heap:=s.heap.update p f,toks:=t }:=by
 have e:(s.heap.update p f).get? p=some { cls:=.type "list",data:=.seq its'.toArray n' }:=by
  rw[Heap.get?_update_self f ho (by rw[hf] <;> rfl),hf]
 refine I.write (x:=p) (e:=p) (by rw[h];trivial) (.inl rfl) (λb u hb q=>(Heap.get?_update_other _ _ (Ne.symm hb)).trans q) ⟨_,e⟩ ?_;exact ⟨hz,its',n',r,e⟩
def NI:V->V->V->Hp->(Hp->Prop)->Prop:=λo i v H Q=>∃p xs k j,o=.ref p/\i=.int k/\H p=some (.lst xs)/\J6 xs.length k=some j/\Q (upd H p (.lst (xs.set j v)))
theorem set_list:Pe X NI:=by
 intro pins s σ H o i v ov iv u Q I ro ri rv h;obtain ⟨p,xs,k,j,rfl,rfl,hp,hj,q⟩:=h;cases ro;obtain ⟨t,rfl⟩:=ri;obtain ⟨its,n,r,ho,hz⟩:=I.lst hp;obtain ⟨h1,h2,h3,h4⟩:=IU hj;have hl:=r.length;have hn:=BG
 have I':Inv X pins σ (upd H p (.lst (xs.set j v))) { s with heap:=s.heap.update p (Obj.mapSeq (·.setIfInBounds j u)) } :=
  I.lstUpd hp ho (HN its n j u) (r.set rv j) (by rw[d7];exact hz) s.toks
 by_cases h0:0<=k
 ·have hk:k.toNat=j:=by
   rw[seqIndex_of h0 h4] at h1;exact bY h1
  exact PySem.W.ki_setAt ho h0 (by lia) (by rw[aJ,<- hl];exact h4) (by rw[hk];exact ⟨_,I',q⟩)
 ·have hk:(k+(its.toArray.size:Int)).toNat=j:=by
   rw[seqIndex_neg (by lia) h3] at h1;rw[aJ,<- hl];exact bY h1
  exact PySem.W.ki_setBack ho (by lia) (by rw[aJ,<- hl];exact h3) (by lia) (by rw[hk];exact ⟨_,I',q⟩)
theorem D6 (lo hi:Option Int) (n:Nat):(sliceBounds lo hi none n).1=((HT.FD n 0 lo:Nat):Int)/\(sliceBounds lo hi none n).2.1=((HT.FD n n hi:Nat):Int)/\(sliceBounds lo hi none n).2.2=1:=by
 refine ⟨?_,?_,rfl⟩
 ·cases lo with
  | none=>simp [sliceBounds,HT.FD]
  | some i =>
   simp only[sliceBounds,HT.FD,Option.getD_none,show (1:Int) > 0 by decide,if_true];by_cases h:i < 0
   ·simp only[h,if_true] <;> lia
   ·simp only[h,if_false] <;> lia
 ·cases hi with
  | none=>simp [sliceBounds,HT.FD]
  | some i =>
   simp only[sliceBounds,HT.FD,Option.getD_none,show (1:Int) > 0 by decide,if_true];by_cases h:i < 0
   ·simp only[h,if_true] <;> lia
   ·simp only[h,if_false] <;> lia
theorem Cn (its:List Value) (lo hi:Option Int):slicePick its.toArray lo hi none=((its.drop (HT.FD its.length 0 lo)).take (HT.FD its.length its.length hi - HT.FD its.length 0 lo)).toArray:=by
 obtain ⟨h1,h2,h3⟩:=D6 lo hi its.toArray.size;unfold slicePick;rw[h1,h2,h3];simp only[sliceRange_one,pick_run,aJ] <;> rfl
def Ql (K:FG9):V->Option Int->Option Int->Hp->VK->Prop:=λx lo hi H Q=>∃a xs,x=.ref a/\bO K H a xs/\∀p,H p=none->Q (.ref p) (upd H p (.lst (yn xs lo hi)))
theorem IA:SlR X (Ql X.K):=by
 intro pins s σ H x v vl vu lo hi sl Q I rx hs pl pu h;obtain ⟨a,xs,rfl,hx,q⟩:=h;cases rx;obtain ⟨its,r,ht,hz⟩:=I.list hx;have hlen:=r.length;refine ⟨"list",_,slot_list_getitem.lookup,ht.isList.typeIs,?_⟩;refine wpAny_getItem_list_slice ht.isList hs pl pu .none (by simp) ?_ (by rw[aJ] <;> lia);rw[Cn,<- hlen];refine ⟨.ref s.heap.objs.size,_,I.laid (t':=s.toks) (o:=.lst (yn xs lo hi)) (λb ob q=>Heap.get?_push_of_some _ q) (au _) ?_,rfl,q _ (I.hok.fresh (au _))⟩;exact ⟨ai (zH xs lo hi) hz,_,0,(r.drop (HT.FD xs.length 0 lo)).take (HT.FD xs.length xs.length hi - HT.FD xs.length 0 lo),Heap.get?_push_size _ rfl⟩
def rA:V->Bool
 | .non=>true
 | .bl _=>true
 | .int _=>true
 | .str _=>true
 | _=>false
def NZ:V->V->Bool
 | .non,.non=>true
 | .bl a,.bl b=>a == b
 | .bl a,.int b=>(if a then 1 else 0) == b
 | .int a,.bl b=>a == (if b then 1 else 0)
 | .int a,.int b=>a == b
 | .str a,.str b=>a == b
 | _,_=>false
theorem O7 {A:Around} {s:Shared} {y x:V} {u v:Value} (ry:RelV y u) (rx:RelV x v) (fy:rA y=true) (fx:rA x=true):SeqAt.EqAt A s u v (NZ y x):=by
 cases y with
 | non =>
  cases ry;cases x with
  | non=>cases rx;exact SeqAt.EqAt.same _
  | bl b=>cases rx;exact SeqAt.EqAt.none_bool b
  | int b=>obtain ⟨t,rfl⟩:=rx;exact SeqAt.EqAt.none_int b t
  | str b=>obtain ⟨t,rfl⟩:=rx;exact SeqAt.EqAt.none_str b t
  | _=>exact absurd (show false=true from fx) aU
 | bl a =>
  cases ry;cases x with
  | non=>cases rx;exact SeqAt.EqAt.bool_none a
  | bl b=>cases rx;exact SeqAt.EqAt.bool_bool a b
  | int b=>obtain ⟨t,rfl⟩:=rx;exact SeqAt.EqAt.bool_int a b t
  | str b=>obtain ⟨t,rfl⟩:=rx;exact SeqAt.EqAt.bool_str a b t
  | _=>exact absurd (show false=true from fx) aU
 | int a =>
  obtain ⟨t',rfl⟩:=ry;cases x with
  | non=>cases rx;exact SeqAt.EqAt.int_none a t'
  | bl b=>cases rx;exact SeqAt.EqAt.int_bool a t' b
  | int b=>obtain ⟨t,rfl⟩:=rx;exact SeqAt.EqAt.int_int a t' b t
  | str b=>obtain ⟨t,rfl⟩:=rx;exact SeqAt.EqAt.int_str a t' b t
  | _=>exact absurd (show false=true from fx) aU
 | str a =>
  obtain ⟨t',rfl⟩:=ry;cases x with
  | non=>cases rx;exact SeqAt.EqAt.str_none a t'
  | bl b=>cases rx;exact SeqAt.EqAt.str_bool a t' b
  | int b=>obtain ⟨t,rfl⟩:=rx;exact SeqAt.EqAt.str_int a t' b t
  | str b=>obtain ⟨t,rfl⟩:=rx;exact SeqAt.EqAt.str_str a t' b t
  | _=>exact absurd (show false=true from fx) aU
 | _=>exact absurd (show false=true from fy) aU
def Nc (x:V) (u:Value):Bool:=match u with
 | .none=>NZ .non x
 | .bool b=>NZ (.bl b) x
 | .int i _=>NZ (.int i) x
 | .str z _=>NZ (.str z) x
 | _=>false
theorem Lz {x y:V} {u:Value} (r:RelV y u) (f:rA y=true):Nc x u=NZ y x:=by
 cases y with
 | non=>cases r;rfl
 | bl b=>cases r;rfl
 | int i=>obtain ⟨t,rfl⟩:=r;rfl
 | str z=>obtain ⟨t,rfl⟩:=r;rfl
 | _=>exact absurd (show false=true from f) aU
theorem ES {x:V}:∀{xs:List V} {us:List Value},cK xs us->xs.all rA=true->us.any (Nc x)=xs.any λy=>NZ y x
 | _,_,.nil,_=>rfl
 | y :: xs,u :: us,.cons r t,f=>by
  rw[Px,dF] at f;rw[List.any_cons,List.any_cons,Lz r f.1,ES t f.2]
theorem Bu {A:Around} {s:Shared} {x:V} {v:Value} (rx:RelV x v) (fx:rA x=true):∀{xs:List V} {us:List Value},cK xs us->xs.all rA=true->∀u∈us,SeqAt.EqAt A s u v (Nc x u)
 | _,_,.nil,_=>λu hu=>by cases hu
 | y :: xs,u :: us,.cons r t,f=>λu' hu=>by
  rw[Px,dF] at f;rcases aE.mp hu with rfl | hu
  ·rw[Lz r f.1];exact O7 r rx f.1 fx
  ·exact Bu rx fx t f.2 u' hu
def Q1 (x:V) (xs:List V):Bool:=xs.any λy=>NZ y x
def rIn (K:FG9) (neg:Bool):R2:=λx y H Q=>∃p xs,y=.ref p/\(bO K H p xs\/kj K H p xs)/\rA x=true/\xs.all rA=true/\Q (.bl (if neg then !Q1 x xs else Q1 x xs)) H
theorem El:zQ X (compareOp .NotIn) (rIn X.K true):=by
 intro pins s σ H x y v u Q I rx ry h;obtain ⟨p,xs,rfl,hq,fx,fs,q⟩:=h;cases ry;rcases hq with hq | hq
 ·obtain ⟨its,r,pl,hz⟩:=I.list hq;refine SeqAt.notIn_listAt (Nc x) pl.isList (λw hw=>Bu rx fx r fs w (by simpa using hw)) ⟨.bl _,H,I,rfl,?_⟩;rw[show its.toArray.any (Nc x)=its.any (Nc x) by simp,ES r fs];exact q
 ·obtain ⟨its,r,pl,hz⟩:=I.tuple hq;refine SeqAt.notIn_tupleAt (Nc x) pl (λw hw=>Bu rx fx r fs w (by simpa using hw)) ⟨.bl _,H,I,rfl,?_⟩;rw[show its.toArray.any (Nc x)=its.any (Nc x) by simp,ES r fs];exact q
theorem aT:oV X (.builtin "len") (λxs H Q=>∃p ys,xs=[.ref p]/\(bO X.K H p ys\/kj X.K H p ys)/\Q (.int ys.length) H):=by
 intro pins s σ H xs us Q I r h;obtain ⟨p,ys,rfl,hq,q⟩:=h;obtain ⟨u,rfl,rx⟩:=vals1 r;cases rx;have hn:=BG;rcases hq with hq | hq
 ·obtain ⟨its,r',pl,hz⟩:=I.list hq;have hlen:=r'.length;exact Calls.call_len_list pl.isList (by simp only[aJ] <;> lia) ⟨.int ys.length,H,I.tok _,⟨s.toks+1,by rw[aJ,hlen]⟩,q⟩
 ·obtain ⟨its,r',pl,hz⟩:=I.tuple hq;have hlen:=r'.length;exact len_tuple pl (by simp only[aJ] <;> lia) ⟨.int ys.length,H,I.tok _,⟨s.toks+1,by rw[aJ,hlen]⟩,q⟩
theorem yo:oV X (.type "list") (λxs H Q=>∃p ys,xs=[.ref p]/\(bO X.K H p ys\/kj X.K H p ys)/\∀l,H l=none->Q (.ref l) (upd H l (.lst ys))):=by
 intro pins s σ H xs us Q I r h;obtain ⟨p,ys,rfl,hq,q⟩:=h;obtain ⟨u,rfl,rx⟩:=vals1 r;cases rx
 have fin:∀(its:List Value),cK ys its->ys.length<=sizeLine->∀(h':Heap) (c':Nat),(∀b o',s.heap.get? b=some o'->h'.get? b=some o') →
   h'.get? s.heap.objs.size=some { cls:=.type "list",dict:=none,data:=.seq its.toArray c',slots:=#[] }->EP X pins σ Q (.ref s.heap.objs.size) { s with heap:=h' }:=λits r' hz h' c' kp e =>
  ⟨.ref s.heap.objs.size,_,I.laid (t':=s.toks) kp (au _) (show fI X.prog X.w _ h' _ (.lst ys) from ⟨hz,its,c',r',e⟩),rfl,q _ (I.hok.fresh (au _))⟩
 rcases hq with hq | hq
 ·obtain ⟨its,r',pl,hz⟩:=I.list hq;have hlen:=r'.length;obtain ⟨o,ho,hc,n,hd⟩:=pl.isList;exact call_list_seq p (.inl rfl) ho hc hd (λh' c' kp e=>fin its r' hz h' c' kp e) (by simp only[aJ] <;> lia)
 ·obtain ⟨its,r',pl,hz⟩:=I.tuple hq;have hlen:=r'.length;obtain ⟨o,ho,hc,n,hd⟩:=pl;exact call_list_seq p (.inr rfl) ho hc hd (λh' c' kp e=>fin its r' hz h' c' kp e) (by simp only[aJ] <;> lia)
theorem CF:oV X (.type "tuple") (λxs H Q=>∃p ys,xs=[.ref p]/\((bO X.K H p ys/\∀l,H l=none->Q (.ref l) (upd H l (.tup ys)))\/(kj X.K H p ys/\Q (.ref p) H))):=by
 intro pins s σ H xs us Q I r h;obtain ⟨p,ys,rfl,h⟩:=h;obtain ⟨u,rfl,rx⟩:=vals1 r;cases rx;rcases h with ⟨hq,q⟩ | ⟨hq,q⟩
 ·obtain ⟨its,r',pl,hz⟩:=I.list hq;have hlen:=r'.length;refine call_tuple_list pl.isList (λh' kp=>?_) (by simp only[aJ] <;> lia);have I1:Inv X pins σ H { s with heap:=h' }:=I.kept (t':=s.toks) kp
  have I2:Inv X pins σ (upd H h'.objs.size (.tup ys)) { s with heap:=h'.push { cls:=.type "tuple",data:=.seq its.toArray } } :=
   I1.laid (t':=s.toks) (λb o e=>Heap.get?_push_of_some _ e) (au _) (show fI X.prog X.w _ _ _ (.tup ys) from ⟨hz,its,r',IsTup.new _ _⟩)
  exact ⟨.ref h'.objs.size,_,I2,rfl,q _ (I1.hok.fresh (au _))⟩
 ·obtain ⟨its,r',pl,hz⟩:=I.tuple hq;exact call_tuple_same pl ⟨.ref p,H,I,rfl,q⟩
def Q8 (K:FG9) (T:String) (x:V) (H:Hp):Prop:=match x with
 | .str _=>T="str"
 | .int _=>T="int"
 | .ref p=>(T="list"/\∃xs,bO K H p xs)\/(T="tuple"/\∃o,K.lookup p=some o/\o.cls=.type "tuple"/\o.dict=none) \/
   (T="dict"/\((∃kvs,H p=some (.dK kvs))\/∃kvs,H p=some (.dT kvs)))\/(T="set"/\∃S n,H p=some (.set S n))
 | _=>False
theorem Od {pins:List (Addr×Obj)} {σ:St} {H:Hp} {s:Shared} {T:String} {x:V} {v:Value} (I:Inv X pins σ H s) (r:RelV x v) (ty:Q8 X.K T x H) :
  s.TypeIs v T/\∀a,v=.ref a->∃ob,s.heap.get? a=some ob/\ob.dict=none:=by
 cases x with
 | str z =>
  obtain ⟨t,rfl⟩:=r;cases (show T="str" from ty);exact ⟨typeIs_str s z t,λ_ e=>nomatch e⟩
 | int i =>
  obtain ⟨t,rfl⟩:=r;cases (show T="int" from ty);exact ⟨typeIs_int s i t,λ_ e=>nomatch e⟩
 | ref p =>
  cases r;rcases ty with ⟨rfl,xs,hq⟩ | ⟨rfl,o,hk,hc,hd⟩ | ⟨rfl,hk⟩ | ⟨rfl,S,n,hk⟩
  ·obtain ⟨its,_,pl,_⟩:=I.list hq;refine ⟨pl.isList.typeIs,λa e=>?_⟩;cases e;obtain ⟨o,n,e,c,hd,_⟩:=pl;exact ⟨o,e,hd⟩
  ·refine ⟨⟨o,I.kIn p o hk,hc⟩,λa e=>?_⟩;cases e;exact ⟨o,I.kIn _ o hk,hd⟩
  ·have z:∃o,s.heap.get? p=some o/\o.ExactDict:=by
    rcases hk with ⟨kvs,hk⟩ | ⟨kvs,hk⟩
    ·obtain ⟨_,_,_,_,o,_,_,e,ex,_⟩:=I.hok p _ hk;exact ⟨o,e,ex⟩
    ·obtain ⟨_,_,_,_,o,_,_,e,ex,_⟩:=I.hok p _ hk;exact ⟨o,e,ex⟩
   obtain ⟨o,e,ex⟩:=z;refine ⟨⟨o,e,ex.1⟩,λa e2=>?_⟩;cases e2;exact ⟨o,e,ex.2.1⟩
  ·obtain ⟨o,_,_,_,e,ex,_⟩:=I.hok p _ hk;refine ⟨⟨o,e,ex.1⟩,λa e2=>?_⟩;cases e2;exact ⟨o,e,ex.2.1⟩
 | _=>exact False.elim ty
def tBM (K:FG9) (T:String) (r:V->List V->Hp->VK->Prop) (to:TE) (t:TA):TE:=λσ H Q=>to σ H λx H1=>Q8 K T x H1/\t σ H1 λxs H2=>r x xs H2 Q
variable {o e:Expr} {es:List Expr} {to:TE} {t:TA} {name:Str} {apos cpos:Pos} {T id:String} {r:V->List V->Hp->VK->Prop}
theorem AX (pa:PlainAttrs T) (slot:Slot T name id) (hty:typeOf (.builtin id)=pure (.type "method_descriptor")) (hm:MtR X id r) (ho:PE X o to) (ha:PA X (e :: es) t)
  (hbase:attributeBase o name X.env (eval o X.env)=eval o X.env:=by rfl)
  (hfew:((backTo cpos (starEach (e :: es) X.env)).all (λx=>!x.1) && (backToKw cpos (keywordEach [] X.env)).all (λx=>x.1.isSome)
   && decide ((e :: es).length+([]:List Keyword).length+(if ([]:List Keyword).isEmpty then 0 else 1) < 30))=true:=by rfl)
  (hline:(apos.endLine == cpos.line)=true:=by rfl) (hs:starEach (e :: es) X.env=(false,eval e X.env) :: starEach es X.env:=by rfl) (hplain:(backTo cpos (starEach es X.env)).any (·.1)=false:=by rfl) :
  PE X (.Call (.Attribute o name apos) (e :: es) [] cpos) (tBM X.K T r to t):=by
 intro pins s σ H Q I h;refine wpAny_Call_method_late hbase hfew hline rfl (gO (ho pins s σ H _ I h) λv s1 ⟨x,H1,I1,r1,ty,q1⟩=>?_);obtain ⟨h1,h2⟩:=Od I1 r1 ty;refine ⟨T,id,pa,slot,hty,h1,h2,?_⟩;have hA:=ha cpos pins s1 σ H1 _ I1 q1;rw[hs] at hA ⊢;refine Calls.callWith_builtin (by show (false || (backTo cpos (starEach es X.env)).any (·.1))=false;rw[hplain] <;> rfl) (Calls.evalArgs_plain ?_);exact gO hA λus s2 ⟨vs,H2,I2,r2,q2⟩=>hm pins s2 σ H2 x vs v us Q I2 r1 r2 q2
end
def MtM (X:Cx) (id:String) (r:V->List V->Hp->VK->Prop):Prop :=
 ∀(pins:List (Addr×Obj)) (s:Shared) (σ:St) (H:Hp) (x:V) (xs:List V) (v:Value) (us:List Value) (Q:VK),Inv X pins σ H s->RelV x v->cK xs us->r x xs H Q →
  wpAny (model X.prog X.w) X.A (call (.builtin id) (v :: us)) (EP X pins σ Q) X.xe s
theorem cK.one:∀{x:V} {us:List Value},cK [x] us->∃u,us=[u]/\RelV x u
 | _,_,.cons r .nil=>⟨_,rfl,r⟩
theorem cK.eraseIdx:∀{xs:List V} {us:List Value} (i:Nat),cK xs us->cK (xs.eraseIdx i) (us.eraseIdx i)
 | _,_,_,.nil=>.nil
 | _,_,0,.cons _ t=>t
 | _,_,i+1,.cons r t=>.cons r (cK.eraseIdx i t)
theorem cK.rep {xs:List V} {us:List Value} (h:cK xs us):∀k:Nat,cK (List.replicate k xs).flatten (List.replicate k us).flatten
 | 0=>.nil
 | k+1=>by
  rw[mT,mT,h6,h6];exact cK.append h (cK.rep h k)
theorem Dt {α:Type}:∀(l:List α) (i:Nat),(l.eraseIdx i).length<=l.length
 | [],_=>au _
 | _ :: _,0=>tX _
 | _ :: r,i+1=>dn (Dt r i)
theorem foldl_rep (its:List Value):∀(k:Nat) (acc:List Value),
  List.foldl (λx1 x2=>x1++x2) acc.toArray (List.replicate k its.toArray)=(acc++(List.replicate k its).flatten).toArray
 | 0,acc=>by simp
 | k+1,acc=>by
  have e:acc.toArray++its.toArray=(acc++its).toArray:=by simp
  have e2:(acc++its)++(List.replicate k its).flatten=acc++(List.replicate (k+1) its).flatten:=by
   rw[mT,h6,ck]
  rw[<- e2,<- foldl_rep its k (acc++its),<- e,mT,List.foldl_cons]
section
variable {X:Cx} {pins:List (Addr×Obj)} {σ:St} {H:Hp} {s:Shared} {l b:Addr} {xs ys zs:List V}
theorem Inv.lset {its its':List Value} {n:Nat} {f:Array Value->Array Value} {t':Nat} (I:Inv X pins σ H s) (hH:H l=some (.lst xs))
  (e:s.heap.get? l=some { cls:=.type "list",data:=.seq its.toArray n }) (hf:f its.toArray=its'.toArray) (hv:cK ys its') (hz:ys.length<=sizeLine) :
  Inv X pins σ (upd H l (.lst ys)) { s with heap:=s.heap.update l (Obj.mapSeq f),toks:=t' }:=by
 have q:=mo e f;rw[hf] at q;refine I.write (x:=l) (e:=l) (by rw[hH];exact trivial) (.inl rfl) (λb' u hb hu=>(Heap.get?_update_other s.heap (Obj.mapSeq f) (Ne.symm hb)).trans hu) ⟨_,q⟩ ?_;exact ⟨hz,its',_,hv,q⟩
theorem Inv.lnew {its:List Value} {t':Nat} (I:Inv X pins σ H s) (hv:cK ys its) (hz:ys.length<=sizeLine) :
  Inv X pins σ (upd H s.heap.objs.size (.lst ys)) { s with heap:=s.heap.push { cls:=.type "list",data:=.seq its.toArray },toks:=t' } :=
 I.laid (λ_ _ q=>Heap.get?_push_of_some _ q) (au _) ⟨hz,its,0,hv,Heap.get?_push_size _ rfl⟩
theorem Inv.fresh (I:Inv X pins σ H s):H s.heap.objs.size=none:=I.hok.fresh (au _)
theorem Inv.lstM (I:Inv X pins σ H s) (hH:H l=some (.lst xs)):xs.length<=sizeLine/\∃(its:List Value) (n:Nat),cK xs its/\xs.length=its.length/\s.heap.get? l=some { cls:=.type "list",data:=.seq its.toArray n }:=by
 obtain ⟨z,its,n,r,e⟩:=I.hok l _ hH;exact ⟨z,its,n,r,r.length,e⟩
theorem KZ {n:Nat} (h:n<=sizeLine):Builtin.List.listTooLong n=false:=by
 unfold Builtin.List.listTooLong;exact decide_eq_false (by lia)
end
section
variable {X:Cx}
def IC:V->List V->Hp->VK->Prop:=λx vs H Q=>∃l xs y,x=.ref l/\vs=[y]/\H l=some (.lst xs)/\xs.length < sizeLine/\Q .non (upd H l (.lst (xs++[y])))
theorem oz:MtM X "list.append" IC:=by
 intro pins s σ H x vs v us Q I rx rv h;obtain ⟨l,xs,y,rfl,rfl,hH,hz,q⟩:=h;cases rx;obtain ⟨u,rfl,ru⟩:=rv.one;obtain ⟨z,its,n,r,hl,e⟩:=I.lstM hH;refine call_meets F.slot_list_append ⟨_,e,rfl⟩ F.entry_list_append (F.args_list_append_2 _ _) (PySem.list_append l its.toArray n u (by rw[aJ];lia)) ⟨e,?_⟩;refine ⟨.non,_,I.lset (its':=its++[u]) hH e (by simp) (r.append (.cons ru .nil)) ?_,rfl,q⟩;rw[av,be]
 lia
def OJ:V->List V->Hp->VK->Prop:=λx vs H Q=>∃l xs i k y,x=.ref l/\vs=[.int i]/\H l=some (.lst xs)/\-(2^63)<=i/\i < 2^63/\seqIndex? i xs.length=some k/\xs[k]?=some y/\Q y (upd H l (.lst (xs.eraseIdx k)))
theorem K4:MtM X "list.pop" OJ:=by
 intro pins s σ H x vs v us Q I rx rv h;obtain ⟨l,xs,i,k,y,rfl,rfl,hH,h1,h2,hk,hy,q⟩:=h;cases rx;obtain ⟨u,rfl,ru⟩:=rv.one;obtain ⟨t,rfl⟩:=ru;obtain ⟨z,its,n,r,hl,e⟩:=I.lstM hH;obtain ⟨w,hw,rw'⟩:=r.get hy
 refine call_meets F.slot_list_pop ⟨_,e,rfl⟩ F.entry_list_pop (F.args_list_pop_2 _ _)
  (MeetsSeq.list_pop_at l its.toArray n i t k w (fitsIndex_both h1 h2) (by rw[aJ,<- hl];exact hk) (by rw[<- Array.getElem?_toList];exact hw) (by rw[aJ];lia)) ⟨e,?_⟩
 refine ⟨y,_,I.lset (its':=its.eraseIdx k) hH e ?_ (r.eraseIdx k) ?_,rw',q⟩
 ·show its.toArray.eraseIdxIfInBounds k=(its.eraseIdx k).toArray
  rw[List.eraseIdxIfInBounds_toArray]
 ·have:=Dt xs k
  lia
def Qp:R2:=λx y H Q=>∃l b xs zs,x=.ref l/\y=.ref b/\H l=some (.lst xs)/\H b=some (.lst zs)/\xs.length+zs.length<=sizeLine/\∀p,H p=none->Q (.ref p) (upd H p (.lst (xs++zs)))
theorem uu:zQ X (binaryOp .Add) Qp:=by
 intro pins s σ H x y v u Q I rx ry h;obtain ⟨l,b,xs,zs,rfl,rfl,hH,hB,hz,q⟩:=h;cases rx;cases ry;obtain ⟨z,its,n,r,hl,e⟩:=I.lstM hH;obtain ⟨z2,its2,n2,r2,hl2,e2⟩:=I.lstM hB;refine PySem.P.add_list e e2 ?_ (by rw[aJ,aJ];lia);have ea:its.toArray++its2.toArray=(its++its2).toArray:=by simp
 rw[ea];exact ⟨.ref _,_,I.lnew (t':=s.toks) (r.append r2) (by rw[av];lia),rfl,q _ I.fresh⟩
def Qm:R2:=λx y H Q=>∃l k xs,x=.ref l/\y=.int k/\H l=some (.lst xs)/\-(2^63)<=k/\k < 2^63/\xs.length*k.toNat<=sizeLine /\
 ∀p,H p=none->Q (.ref p) (upd H p (.lst (List.replicate k.toNat xs).flatten))
theorem len_rep {α:Type} (xs:List α) (k:Nat):(List.replicate k xs).flatten.length=k*xs.length:=by
 induction k with
 | zero=>simp
 | succ k ih=>rw[mT,h6,av,ih,mB,mD]
theorem KP:zQ X (binaryOp .Mult) Qm:=by
 intro pins s σ H x y v u Q I rx ry h;obtain ⟨l,k,xs,rfl,rfl,hH,h1,h2,hz,q⟩:=h;cases rx;obtain ⟨t,rfl⟩:=ry;obtain ⟨z,its,n,r,hl,e⟩:=I.lstM hH;have hlen:its.toArray.size*k.toNat<=sizeLine:=by rw[aJ,<- hl];exact hz
 have hcap:¬its.toArray.size*k.toNat > (2^63 - 1) / 8:=by
  have:(sizeLine:Nat)<=(2^63 - 1) / 8:=by decide
  lia
 have hfit:¬(!Builtin.List.listFitsIndex k)=true:=by
  rw[fitsIndex_both h1 h2];exact aU
 have hlong:¬Builtin.List.listTooLong (its.toArray.size*k.toNat)=true:=by
  rw[KZ hlen];exact aU
 have hnew:List.foldl (λx1 x2=>x1++x2) #[] (List.replicate (if its.toArray.isEmpty=true then 0 else k.toNat) its.toArray)=(List.replicate k.toNat its).flatten.toArray:=by
  have f0:∀m:Nat,List.foldl (λx1 x2=>x1++x2) #[] (List.replicate m its.toArray)=(List.replicate m its).flatten.toArray:=λm=>by
   have:=foldl_rep its m [];rw[cW] at this;exact this
  rw[f0];cases its with
  | nil=>simp
  | cons a r'=>rw[if_neg (by simp)]
 refine wpAny_binaryOp_repeat_ref (T:="list") (U:="int") (by decide) ⟨_,e,rfl⟩ (λs'=>typeIs_int s' k t) noFill_list_mul F.fills_int_mul F.slot_int_rmul repeat_list F.slot_int_index.lookup
  (call_meets F.slot_int_rmul (typeIs_int s k t) F.entry_int_rmul (F.args_int_rmul_2 _ _) (int___rmul___int_list k t l its.toArray n)
   ⟨e,rfl,⟨_,e,rfl⟩,call_meets F.slot_list_mul ⟨_,e,rfl⟩ F.entry_list_mul (F.args_list_mul_2 _ _) (AutoListH.list___mul___list_int_3 l its.toArray n k t hfit hcap hlong) ⟨e,?_⟩⟩)
 rw[hnew];exact ⟨.ref _,_,I.lnew (t':=s.toks) (r.rep k.toNat) (by rw[len_rep,bV];exact hz),rfl,q _ I.fresh⟩
end
end L2
namespace Att
open PySem PySem.W PySem.Calls PyProof.Rows
theorem zY {P:Params} {h:Heap}:∀(ns:List Int) (vs:List Value),WellAll P h vs (ns.map WData.int)->IntsAre vs ns:=by
 intro ns
 induction ns with
 | nil =>
  intro vs w;rw[List.map_nil] at w;cases w;exact .nil
 | cons n ns ih =>
  intro vs w;rw[ib] at w;cases w with
  | cons a b =>
   cases a;exact .cons _ _ (ih _ b)
theorem Jv {l:OpenLaw} {n:Nat} (hn:l.most=some n) {P:Params} {h:Heap} {args:List WData} {vals:List Value}
  (hpre:l.row.toRowW.claim.pre args=true) (hwl:WellAll P h vals args) :
  ∃a vs ns,vals=[Value.ref a]/\args=[WData.list (ns.map WData.int)]/\h.get? a=some { cls:=.type "list",data:=.seq vs.toArray }/\IntsAre vs ns/\ns.length<=n:=by
 have hsh:WShape.hasAll [] args [.list .int]=true:=(pre_splitW hpre).1;have hc:l.pre.holds [] { args:=args }=true:=(pre_splitW hpre).2;obtain ⟨d,r,rfl,h1,h2⟩:=hasAllW_cons hsh;obtain rfl:=hasAllW_nil h2;obtain ⟨xs,rfl,h3⟩:=hasW_list h1;obtain ⟨ns,rfl⟩:=items_int h3
 have hlen:ns.length<=n:=by
  unfold OpenLaw.pre at hc
  have h4:(WTm.not (.lt (.lit (.int (n:Int))) (.len (.arg 0)))).holds [] { args:=[.list (ns.map .int)] }=true:=by
   have h4:=(holds_andW hc).1;rw[hn] at h4;exact h4
  have h5:=condW_of h4 (w_not (w_lt w_lit (w_len_list (w_arg rfl))));rw[ag] at h5;refine Nat.le_of_not_lt λq=>?_
  have q':(n:Int) < ((ns.length:Nat):Int):=by lia
  first
   | (rw[decide_eq_true q'] at h5;exact absurd h5 (by decide))
   | (simp at h5;lia)
 cases hwl with
 | cons w1 w2 =>
  cases w2;cases w1 with
  | list ho hall=>exact ⟨_,_,ns,rfl,rfl,ho,zY ns _ hall,hlen⟩
theorem JB (l:OpenLaw) (args:List WData):l.row.toRowW.claim.post args (.bool true) args=true :=
 postW_of (r:=l.row.toRowW) (X:=(true == true))
  (show WShape.has [] (.bool true) .bool=true by first | rfl | decide | simp [WShape.has,WShape.arms,WShape.armsAll])
  (show (WTm.eq .res (.lit (.bool true))).value [] { args:=args,res:=some (.bool true),after:=args }=some (.bool (true == true)) from w_eq_bool (w_res rfl) w_lit) rfl
theorem Gv {l:OpenLaw} {n:Nat} {q:Program} {loose:List Str} {XP:(Str->Option Value)->Heap->Prop} {YP:World->Heap->Prop} {d:DefRec}
  (hn:l.most=some n) (hdf:d.params.defaults=[])
  (call:∀(w:World) (s₀ s₁:Shared) (mg mb:Str->Option Value) (fa:Addr) (o:Obj) (pm cd doc:Value) (a:Addr) (vs:List Value) (ns:List Int),
   Ground q loose [] XP w s₀ mg mb s₁.heap->YP w s₁.heap →
   s₁.heap.get? fa=some o->o.data=.func (docDef d.name d.params d.body d.scope pm cd doc)->s₁.heap.CodeRec cd d.name->mg d.name=some (.ref fa) →
   s₁.heap.get? a=some { cls:=.type "list",data:=.seq vs.toArray }->IntsAre vs ns->ns.length<=n->s₁.gens=#[] →
   codeAny (model l.prog w) callerA (.call (.ref fa) ⟨[.ref a],[]⟩) (λr s'=>r=.ok (.ret (.bool true))/\OldK s₁.heap s'.heap/\s'.os=s₁.os/\AllBare s'.gens) s₁) :
  WalkO q loose XP YP l.row.toRowW d [] (λf vs=>PySem.call f vs):=by
 intro w s₀ s₁ mg mb G Y fa o pm cd doc dV kV ho hd hcd hD hmg hg args vals as hpre hlay hrd hwl hlo;obtain rfl:dV=.none:=Dflts.none hD hdf;obtain rfl:kV=.none:=Dflts.noKw hD;obtain ⟨a,vs,ns,rfl,rfl,hobj,hints,hlen⟩:=Jv hn hpre hwl;refine enter_call (codeAny_mono (call w s₀ s₁ mg mb fa o pm cd doc a vs ns G Y ho (fd_plain hd) hcd hmg hobj hints hlen hg) λr s' hq=>?_);obtain ⟨rfl,h2,h3,h4⟩:=hq;exact ⟨.inl ⟨.bool true,.bool true,[],rfl,λ_=>rfl,.bool true,JB l _,λ_=>⟨List.Pairwise.nil,λ_ hm=>(nomatch hm)⟩⟩,h2,h3,h4⟩
section
variable {prog:Program} {w:World} {A:Around} {E:Value->Shared->Prop} {s:Shared} {K:Frag}
end
end Att
namespace L2
open PySem PySem.Spec PyProof.Rows
theorem CK:∀{vs:List Value} {ns:List Int},IntsAre vs ns->cK (ns.map V.int) vs
 | _,_,.nil=>.nil
 | _,_,.cons n t h=>.cons ⟨t,rfl⟩ (CK h)
def Pf (H:Hp):Prop:=∀b,H b=none\/∃o xs,H b=some (.frz o (.lst xs))
theorem Lb {P : Program} {w : World} {K : FG9} {mg mb : Str → Option Value} {CX : LY} {k : Nat} {fa a : Addr} {fd : FuncData} {x : Str} {sp : Sp} {s₁ : Shared} {vs : List Value} {ns : List Int}
    (KX : K.In s₁.heap) (hns : s₁.heap.Ns mainGlobals mg) (hb : s₁.heap.Ns builtinsNs mb) (hbb : ∀ x : Str, x ≠ "__name__" → mb x = bootBuiltins x) (hlim : s₁.heap.NoLimit) (hg : s₁.gens = #[])
    (ha : s₁.heap.get? a = some { cls := .type "list", data := .seq vs.toArray }) (hi : IntsAre vs ns) (hl : ns.length ≤ sizeLine) (hr : nX k callerA)
    (F : ∀ base : Heap, K.In base → base.Ns mainGlobals mg → cJ P w K mg base CX k fa fd [x] sp) (hbind : ∀ (s : Shared) (u : Value), BindsTo s fd ⟨[u], []⟩ [(x, u)])
    (hsp : ∀ H : Hp, Pf H → bO K H a (ns.map V.int) → sp [.ref a] H (λv _ => v = .bl true) λ_ _ _ => False)
    (hCX : ∀ H e s', CX [] H s₁ (λ_ _ _ => False) e s' → False) :
    codeAny (model P w) callerA (.call (.ref fa) ⟨[.ref a], []⟩) (λr s' => r = .ok (.ret (.bool true)) /\ OldK s₁.heap s'.heap /\ s'.os = s₁.os /\ AllBare s'.gens) s₁ := by
  have rv := CK hi;have lenV := hi.length
  have core : ∀ H : Hp, Pf H → bO K H a (ns.map V.int) → Ao P w H s₁.heap → (∀ b, H b ≠ none → b = a) → (H a ≠ none → K.lookup a = none) →
      codeAny (model P w) callerA (.call (.ref fa) ⟨[.ref a], []⟩) (λr s' => r = .ok (.ret (.bool true)) /\ OldK s₁.heap s'.heap /\ s'.os = s₁.os /\ AllBare s'.gens) s₁ := by
    intro H hO hS hok hA hK;have base_of : ∀ {b : Addr} {o : Obj}, s₁.heap.get? b = some o → H b = none → (ED s₁.heap H).get? b = some o := λe n => Ll e n
    have noA : ∀ {b : Addr} {o : Obj} {es : Array DictEntry} {ep : Nat}, s₁.heap.get? b = some o → o.data = .dict es ep → H b = none := λ{b o es ep} e d => by
      cases q : H b with
      | none => rfl
      | some u =>
        have e' : b = a := hA b (by rw [q]; simp);subst e';rw [ha] at e; cases e;have d' : Data.seq vs.toArray _ = Data.dict es ep := d;cases d'
    have nsK : ∀ {b : Addr} {m : Str → Option Value}, s₁.heap.Ns b m → (ED s₁.heap H).Ns b m := λ{b m} ⟨o, es, ep, e, d, r⟩ => ⟨o, es, ep, base_of e (noA e d), d, r⟩
    have hKb : K.In (ED s₁.heap H) := λb o e => base_of (KX b o e) (by
      cases q : H b with
      | none => rfl
      | some u =>
        have e' : b = a := hA b (by rw [q]; simp);subst e';rw [hK (by rw [q]; simp)] at e; cases e)
    have hM : Mod K mg (ED s₁.heap H) := ⟨hKb, nsK hns, ⟨mb, nsK hb, hbb⟩, let ⟨mc, h1, h2⟩ := hlim; ⟨mc, nsK h1, h2⟩⟩;have e0 : Il P w K mg (ED s₁.heap H) callerA [] s₁ H := ⟨rfl, hM, λb o e => MU e, Nat.le_of_eq (JP _ _), trivial, λb hb => absurd (show b ∈ ([] : List Addr) from hb) (by simp), hok, .of_eq hg⟩;refine codeAny_mono ((F _ hKb (nsK hns)).run callerA [] s₁ H ⟨[.ref a], []⟩ [.ref a] [.ref a] _ _ hr e0 (hbind s₁ (.ref a)) (.cons rfl .nil) (hsp H hO hS)) λr s' h => ?_
    cases r with
    | error e => exact (hCX H e s' h).elim
    | ok fl =>
      cases fl with
      | next => exact False.elim h
      | brk => exact False.elim h
      | cont => exact False.elim h
      | ret u =>
        obtain ⟨v, H', os, bare, un, hok', r', q⟩ := h;have q' : v = .bl true := q;subst q';obtain rfl : u = Value.bool true := r';refine ⟨rfl, OldK.of_keep λb o e => ?_, os, bare⟩;cases q : H b with
        | none => exact un.keep b o e q (by intro z; exact absurd (show b ∈ ([] : List Addr) from z) (by simp)) (by simp)
        | some u =>
          rcases hO b with z | ⟨ob, xs, z⟩
          · rw [q] at z; cases z
          · have z2 := un.frzs b ob _ z;obtain ⟨e1, _⟩ := hok b _ z;obtain ⟨e2, _⟩ := hok' b _ z2;rw [e] at e1; cases e1;exact e2
  cases hk : K.lookup a with
  | some o =>
    have e := KX a o hk;rw [ha] at e;cases e;refine core (λ_ => none) (λ_ => .inl rfl) (.inr ⟨_, vs.toArray, _, hk, rfl, rfl, rfl, by rw [aJ, lenV]; exact hl, by simpa using rv⟩) (λb u z => by have z' : (none : Option HO) = some u := z; cases z') (λb z => absurd rfl z) λz => absurd rfl z
  | none =>
    refine core (λb => if b = a then some (.frz { cls := .type "list", data := .seq vs.toArray } (.lst (ns.map V.int))) else none) (λb => ?_) (.inl (.inr ⟨{ cls := .type "list", data := .seq vs.toArray }, if_pos rfl⟩)) (λb u z => ?_) (λb z => ?_) λ_ => hk
    · by_cases hb : b = a
      · exact .inr ⟨_, _, if_pos hb⟩
      · exact .inl (if_neg hb)
    · by_cases hb : b = a
      · have z' := (if_pos hb).symm.trans z;cases z';subst hb;exact ⟨ha, by rw [ag]; exact hl, vs, _, rv, ha⟩
      · have z' := (if_neg hb).symm.trans z;cases z'
    · by_cases hb : b = a
      · exact hb
      · exact absurd (if_neg hb) z
theorem L8 {l:PySem.W.OpenLaw} {n k:Nat} {q:Program} {loose:List Str} {XP:(Str->Option Value)->Heap->Prop} {YP:World->Heap->Prop} {d:DefRec} {K:Params->FG9} {CX:World->LY} {sp:World->Sp} {x:Str}
  (hn:l.most=some n) (hn2:n<=sizeLine) (hdf:d.params.defaults=[]) (hr:nX k callerA)
  (hY:∀(w:World) (h:Heap),YP w h->(K w.params).In h)
  (F:∀(w:World) (mg:Str->Option Value) (fa:Addr) (h:Heap),(K w.params).In h->h.Ns mainGlobals mg->mg d.name=some (.ref fa) →
   ∃fd:FuncData,(∀(s:Shared) (u:Value),BindsTo s fd ⟨[u],[]⟩ [(x,u)]) /\
    ∀base:Heap,(K w.params).In base->base.Ns mainGlobals mg->cJ l.prog w (K w.params) mg base (CX w) k fa fd [x] (sp w))
  (hsp:∀(w:World) (H:Hp) (a:Addr) (ns:List Int),ns.length<=n->Pf H->bO (K w.params) H a (ns.map V.int)->sp w [.ref a] H (λv _=>v=.bl true) λ_ _ _=>False)
  (hCX:∀(w:World) (H:Hp) (s:Shared) (e:Value) (s':Shared),CX w [] H s (λ_ _ _=>False) e s'->False) :
  PySem.W.WalkO q loose XP YP l.row.toRowW d [] (λf vs=>PySem.call f vs):=by
 refine Att.Gv hn hdf λw s₀ s₁ mg mb fa o pm cd doc a vs ns G Y ho hd hcd hmg hobj hints hlen hg=>?_
 have KX:=hY w _ Y;obtain ⟨fd,hb,hF⟩:=F w mg fa _ KX G.T.g hmg;exact Lb KX G.T.g G.T.b G.T.builtins G.T.nolimit hg hobj hints (ai hlen hn2) hr hF hb (λH hO hS=>hsp w H a ns hlen hO hS) λH e s'=>hCX w H s₁ e s'
end L2


namespace L2
open PySem PySem.Spec PyProof.Rows
def inClass (s:Stmt) (j:Nat):Stmt:=match s with
 | .ClassDef _ _ _ body _ _ _ _ _ _ _=>body.getD j (.Pass ⟨0,0,0,0⟩)
 | _=>.Pass ⟨0,0,0,0⟩
def bc (s:Stmt):Arguments:=match s with
 | .FunctionDef _ a _ _ _ _ _ _ _ _=>a
 | _=>{ posonlyargs:=[],args:=[],vararg:=none,kwonlyargs:=[],kw_defaults:=[],kwarg:=none,defaults:=[] }
def aZ (s:Stmt):List Stmt:=match s with
 | .FunctionDef _ _ b _ _ _ _ _ _ _=>b
 | _=>[]
def ay (s:Stmt):Scope:=match s with
 | .FunctionDef _ _ _ _ _ _ sc _ _ _=>sc
 | _=>{ kind:=.function,names:=[],isGenerator:=false,isCoroutine:=false }
abbrev gE:LY:=λ_ _ _ _ _ _=>False
abbrev E0:XK:=λ_ _ _=>False
theorem FK {X:Cx}:BX gE X E0:=λ_ _ _ _ _ _ _ h=>h.elim
theorem cN {X:Cx} {k k':Nat} {f:Addr} {fd:FuncData} {ps:List Str} {sp:Sp} {x:Str} {p pos:Pos} {e:Expr} {es:List Expr} {t:TA} (F:cJ X.prog X.w X.K X.mg X.base gE k f fd ps sp) (hr:nX k' X.A) (hm:X.mg x=some (.ref f)) (hk:PySem.W.keepIn X.K (.ref f)=true) (hb:Binds X.K fd ps []) (ha:PA X (e::es) t) (hle:k<=k':=by decide) (hg:Gl X x:=by exact rfl) (hdb:(x==("__debug__":Str))=false:=by decide) (he:starEach (e::es) X.env=(false,eval e X.env)::starEach es X.env:=by rfl) (hpl:(backTo pos (starEach es X.env)).any (·.1)=false:=by rfl):PE X (.Call (.Name x p) (e::es) [] pos) (Ki sp [] E0 t):=Ab F (hr.mono hle) hg hm hk hb .nil FK ha hdb he hpl
structure h9 (K:FG9) (x qual:Str) (st:Stmt) (f:Addr) (fd:FuncData):Prop where
 ex:∃(oc:Value) (od:Option Addr) (kV doc pm:Value) (an:Option Addr) (cdv ct:Value) (osl:Array (Option Value)),
  fd=PySem.W.fnOf x qual (bc st) (aZ st) (ay st) .none kV doc pm an cdv ct/\K.lookup f=some ⟨oc,od,.func fd,osl⟩/\PySem.W.codeIn K cdv qual=true
 kp:PySem.W.keepIn K (.ref f)=true
section
variable {P:Program} {w:World} {K:FG9} {mg:Str->Option Value} {base:Heap}
theorem h9.ok {x qual:Str} {st:Stmt} {f:Addr} {fd:FuncData} {N ps:List Str} {k:Nat} {sp:Sp} (F:h9 K x qual st f fd) (S:bf N ps (ay st)) (len:∀vs H Q E,sp vs H Q E->vs.length=ps.length)
  (hbody:∀(cdv:Value) (A:Around) (outer:List Env) (s:Shared) (H:Hp) (vs:List V) (Q:VK) (E:XK),nX k (A.deeper (envOfC qual (ay st) s.heap.objs.size f cdv))->sp vs H Q E →
   ∃t,Ik (JU gE P w K mg base N qual (ay st) f cdv A outer s H E).nox (aZ st) t/\t { nx:=λ_ H'=>Q .non H',rt:=Q } (start N vs) H):cJ P w K mg base gE (k+1) f fd ps sp:=by
 obtain ⟨oc,od,kV,doc,pm,an,cdv,ct,osl,rfl,lk,hcd⟩:=F.ex;refine QF lk hcd S len λA outer s H vs Q E hr hsp=>?_
 obtain ⟨t,h,q⟩:=hbody cdv A outer s H vs Q E hr hsp;exact ⟨t,h.nox,q⟩
theorem h9.binds {x qual:Str} {st:Stmt} {f:Addr} {fd:FuncData} {ps:List Str} (F:h9 K x qual st f fd)
  (h:∀(kV doc pm:Value) (an:Option Addr) (cdv ct:Value) (us:List Value),us.length=ps.length->bindArgs (PySem.W.fnOf x qual (bc st) (aZ st) (ay st) .none kV doc pm an cdv ct) ⟨us,[]⟩=pure (ps.zip us)):Binds K fd ps []:=by
 obtain ⟨oc,od,kV,doc,pm,an,cdv,ct,osl,rfl,lk,hcd⟩:=F.ex;exact .all (h kV doc pm an cdv ct)
theorem bM {x qual:Str} {st:Stmt} {f:Addr} {oc:Value} {od an:Option Addr} {osl:Array (Option Value)} {kV doc pm cdv ct:Value} (l:K.lookup f=some ⟨oc,od,.func (PySem.W.fnOf x qual (bc st) (aZ st) (ay st) .none kV doc pm an cdv ct),osl⟩)
  (c:PySem.W.codeIn K cdv qual=true) (k:PySem.W.keepIn K (.ref f)=true):h9 K x qual st f (PySem.W.fnOf x qual (bc st) (aZ st) (ay st) .none kV doc pm an cdv ct):=⟨⟨oc,od,kV,doc,pm,an,cdv,ct,osl,rfl,l,c⟩,k⟩
end
theorem bN {n:Nat} (h:n<=1000):n < sizeLine:=bB h (by decide)
section
variable {X:Cx}
theorem pv (i:Nat) {x:Str} {pos:Pos} (hN:X.N[i]?=some x:=by rfl) (hv:RC X.env.scope x:=by first | exact Or.inl rfl | exact Or.inr (Or.inl rfl) | exact Or.inr (Or.inr rfl)) (hd:(x == ("__debug__":Str))=false:=by decide)
  (hcd:(x == ("__classdict__":Str))=false:=by decide):PE X (.Name x pos) (Og i):=OO hN hv hd hcd
end
theorem Lf {A B:Prop} (h:B):if false=true then A else B:=by
 rw[if_neg aU];exact h
theorem Qv {A B:Prop} (h:A):if true=true then A else B:=by
 rw[if_pos rfl];exact h
theorem il {c A B:Prop} [Decidable c] (h1:c->A) (h2:¬c->B):if c then A else B:=by
 by_cases h:c
 ·rw[if_pos h];exact h1 h
 ·rw[if_neg h];exact h2 h
def aG (H H':Hp):Prop:=∀b o,H b=some o->H' b=some o
theorem aG.refl (H:Hp):aG H H:=λ_ _ h=>h
theorem aG.trans {H H1 H2:Hp} (a:aG H H1) (b:aG H1 H2):aG H H2:=λc o h=>b c o (a c o h)
theorem aG.free {H H':Hp} (e:aG H H') {l:Addr} (h:H' l=Option.none):H l=Option.none:=by
 cases q:H l with
 | none=>rfl
 | some o =>
  rw[e l o q] at h;cases h
theorem aG.seq {K:FG9} {H H':Hp} {a:Addr} {xs:List V} (e:aG H H') (h:bO K H a xs):bO K H' a xs:=by
 rcases h with (h | ⟨o,h⟩) | h
 ·exact .inl (.inl (e _ _ h))
 ·exact .inl (.inr ⟨o,e _ _ h⟩)
 ·exact .inr h
end L2
namespace Nm
theorem Lq (a b:Int):Int.gcd b (a.fmod b)=Int.gcd a b:=by
 rw[Int.fmod_def,mG a b];apply Nat.dvd_antisymm
 ·apply LS
  ·exact eK ..
  ·have h1:=eK (a:=b) (b:=a - b*a.fdiv b);have h2:=ff (a:=b) (b:=a - b*a.fdiv b);have h3:=Int.dvd_add h2 (oY (c:=a.fdiv b) h1);rwa [Int.sub_add_cancel] at h3
 ·apply LS
  ·exact eK ..
  ·exact Int.dvd_sub (ff ..) (oY (eK ..))
theorem Lr (a b:Int):Int.gcd b (a % b)=Int.gcd a b:=by
 rw[Int.emod_def,mG a b];apply Nat.dvd_antisymm
 ·apply LS
  ·exact eK ..
  ·have h1:=eK (a:=b) (b:=a - b*(a / b));have h2:=ff (a:=b) (b:=a - b*(a / b));have h3:=Int.dvd_add h2 (oY (c:=a / b) h1);rwa [Int.sub_add_cancel] at h3
 ·apply LS
  ·exact eK ..
  ·exact Int.dvd_sub (ff ..) (oY (eK ..))
theorem Nb (a b:Int) (h:b≠0):(a.fmod b).natAbs < b.natAbs:=by
 rcases Int.lt_or_gt_of_ne h with h | h
 ·have e:a.fmod b=-((-a).fmod (-b)):=by
   have:=Int.neg_fmod_neg (-a) (-b);simp only[Int.neg_neg] at this;exact this
  have h1:=Int.fmod_nonneg_of_pos (-a) (b:=-b) (by lia);have h2:=Int.fmod_lt_of_pos (-a) (b:=-b) (by lia)
  lia
 ·have h1:=Int.fmod_nonneg_of_pos a h;have h2:=Int.fmod_lt_of_pos a h
  lia
def g (t b:Int):Int:=(Int.gcd t b:Int)
def lo (t b:Int):Int:=t / g t b
def hi (t b:Int):Int:=b / g t b
theorem BJ {t b:Int} (h:b≠0):0 < g t b:=by
 unfold g;have:0 < Int.gcd t b:=L6 _ h
 lia
theorem BF (t b:Int):lo t b*g t b=t:=Int.ediv_mul_cancel (eK ..)
theorem za (t b:Int):hi t b*g t b=b:=Int.ediv_mul_cancel (ff ..)
theorem EE {t b:Int} (h:0 < b):0 < hi t b:=by
 have h1:=BJ (t:=t) (b:=b) (by lia);have h2:=za t b;by_cases h3:0 < hi t b
 ·exact h3
 ·have:hi t b*g t b<=0:=Int.mul_nonpos_of_nonpos_of_nonneg (by lia) (by lia)
  lia
theorem Bw {t b:Int} (h:b≠0):Int.gcd (lo t b) (hi t b)=1:=by
 have h1:=BJ (t:=t) h;have e:=Int.gcd_mul_right (lo t b) (g t b) (hi t b);rw[BF,za] at e;have e2:(g t b).natAbs=Int.gcd t b:=by unfold g;simp
 rw[e2] at e;have h2:0 < Int.gcd t b:=L6 _ h;exact Nat.eq_of_mul_eq_mul_right h2 (by rw[<- e,tW])
theorem By (t b : Int) : lo t b * b = t * hi t b := by
  have h1 := BF t b;have h2 := za t b
  calc lo t b * b = lo t b * (hi t b * g t b) := by rw [h2]
    _ = (lo t b * g t b) * hi t b := by rw [fA (hi t b), <- dC]
    _ = t * hi t b := by rw [h1]
theorem sJ {a b c:Int} (h:Int.gcd a b=1) (hd:a∣b*c):a∣c:=by
 have h1:a.natAbs∣b.natAbs*c.natAbs:=by rw[<- eQ];exact eB.mpr hd
 have h2:Nat.Coprime a.natAbs b.natAbs:=h;exact eB.mp (h2.dvd_of_dvd_mul_left h1)
theorem uniq {a b c d:Int} (hb:0 < b) (hd:0 < d) (h1:Int.gcd a b=1) (h2:Int.gcd c d=1) (e:a*d=c*b):a=c/\b=d:=by
 have e1:b∣d:=by
  have:b∣a*d:=⟨c,by rw[e,fA]⟩;exact sJ (by rw[mG];exact h1) this
 have e2:d∣b:=by
  have:d∣c*b:=⟨a,by rw[<- e,fA]⟩;exact sJ (by rw[mG];exact h2) this
 have e3:b=d:=Int.dvd_antisymm (by lia) (by lia) e1 e2;subst e3;exact ⟨wO (by lia) e,rfl⟩
theorem OT {t b c d : Int} (hb : 0 < b) (hd : 0 < d) (h2 : Int.gcd c d = 1) (e : t * d = c * b) : lo t b = c /\ hi t b = d := by
  refine uniq (EE hb) hd (Bw (by lia)) h2 ?_;have h := By t b;have hb' : b ≠ 0 := by lia
  apply wO hb'
  calc lo t b * d * b = lo t b * b * d := by rw [dC, fA d b, <- dC]
    _ = t * hi t b * d := by rw [h]
    _ = t * d * hi t b := by rw [dC, fA (hi t b), <- dC]
    _ = c * b * hi t b := by rw [e]
    _ = c * hi t b * b := by rw [dC, fA b, <- dC]
theorem OU {a b:Int} (hb:0 < b) (h:Int.gcd a b=1):lo a b=a/\hi a b=b:=OT hb hb h rfl
theorem qL {a b:Int} (h:b≠0):a.natAbs<=(a*b).natAbs:=by
 rw[eQ];exact de _ (Int.natAbs_pos.mpr h)
theorem lo_le {t b:Int} (h:b≠0):(lo t b).natAbs<=t.natAbs:=by
 have:=qL (a:=lo t b) (b:=g t b) (by have:=BJ (t:=t) h;lia);rwa [BF] at this
theorem NT {t b:Int} (h:b≠0):(hi t b).natAbs<=b.natAbs:=by
 have:=qL (a:=hi t b) (b:=g t b) (by have:=BJ (t:=t) h;lia);rwa [za] at this
def Sz (k:Nat) (x:Int):Prop:=x.natAbs < 2^k
theorem Sz.mono {j k:Nat} {x:Int} (h:Sz j x) (l:j<=k):Sz k x:=bH h (ak (by decide) l)
theorem Sz.mul {j k:Nat} {x y:Int} (h1:Sz j x) (h2:Sz k y):Sz (j+k) (x*y):=by
 unfold Sz at *
 rw[eQ,bC];exact Nat.mul_lt_mul'' h1 h2
theorem Sz.neg {k:Nat} {x:Int} (h:Sz k x):Sz k (-x):=by unfold Sz at *;rw[qG];exact h
theorem Sz.le {k:Nat} {x y:Int} (h:Sz k y) (l:x.natAbs<=y.natAbs):Sz k x:=bB l h
theorem Sz.hi {k:Nat} {t b:Int} (h:Sz k b) (hb:b≠0):Sz k (hi t b):=h.le (NT hb)
end Nm
namespace L2
open PySem PySem.Spec PyProof.Rows
structure Bk (env:Env) (scope:Scope) (own capN:List Str):Prop where
 kind:scope.kind=.function
 locs:∀y∈scope.names,y.2=.local->scope.names.lookup y.1=some .local
 ownk:∀x∈own,scope.names.lookup x=some .local\/scope.names.lookup x=some .cell
 cells:∀y∈scope.names,y.2=.cell->y.1∈own/\y.1∉capN
 frees:∀y∈scope.names,y.2=.free->y.1∈capN/\y.1∉own
 capf:∀x∈capN,scope.names.lookup x=some .free
 caps:∀x∈capN,env.kindOf x=some .cell\/env.kindOf x=some .free
def Q2 (scope:Scope) (own capN:List Str):Bool :=
 decide (scope.kind=.function) && scope.names.all (λy=>decide (y.2=.local->scope.names.lookup y.1=some .local) && decide (y.2=.cell->y.1∈own/\y.1∉capN) && decide (y.2=.free->y.1∈capN/\y.1∉own)) &&
 own.all (λx=>decide (scope.names.lookup x=some .local\/scope.names.lookup x=some .cell)) && capN.all λx=>decide (scope.names.lookup x=some .free)
def DG (env:Env):List Str->Bool
 | []=>true
 | x :: r=>(match env.kindOf x with | some .cell=>true | some .free=>true | _=>false) && DG env r
theorem Gn {env:Env}:∀{capN:List Str},DG env capN=true->∀x∈capN,env.kindOf x=some .cell\/env.kindOf x=some .free
 | [],_,_,h=>nomatch h
 | y :: r,h,x,hx=>by
  unfold DG at h;rw[dF] at h;rcases aE.mp hx with e | hx
  ·subst e;have h1:=h.1
   split at h1
   ·rename_i e;exact .inl e
   ·rename_i e;exact .inr e
   ·cases h1
  ·exact Gn h.2 x hx
theorem Bk.of {env:Env} {scope:Scope} {own capN:List Str} (h1:Q2 scope own capN=true) (h2:DG env capN=true):Bk env scope own capN:=by
 unfold Q2 at h1;rw[dF,dF,dF,rN,rN,rN] at h1;obtain ⟨⟨⟨a1,a2⟩,a3⟩,a4⟩:=h1
 have a2':∀y∈scope.names,(y.2=.local->scope.names.lookup y.1=some .local)/\(y.2=.cell->y.1∈own/\y.1∉capN)/\(y.2=.free->y.1∈capN/\y.1∉own):=λy hy=>by
  have q:=a2 y hy;rw[dF,dF] at q;exact ⟨of_decide_eq_true q.1.1,of_decide_eq_true q.1.2,of_decide_eq_true q.2⟩
 exact ⟨of_decide_eq_true a1,λy hy=>(a2' y hy).1,λx hx=>of_decide_eq_true (a3 x hx),λy hy=>(a2' y hy).2.1,λy hy=>(a2' y hy).2.2,λx hx=>of_decide_eq_true (a4 x hx),Gn h2⟩
def dM (env:Env):List (Str×NameKind)->List (Str×Addr)->List (Str×Addr)
 | [],acc=>acc
 | (n,k) :: r,acc=>if k == .free then dM env r ((n,(env.cells.lookup n).getD 0) :: acc) else dM env r acc
theorem iO (env:Env):∀(names:List (Str×NameKind)) (acc:List (Str×Addr)),dM env names acc=dM env names []++acc
 | [],_=>rfl
 | (n,k) :: r,acc=>by
  unfold dM
  split
  ·rw[iO env r (_ :: acc),iO env r [_],ck];rfl
  ·exact iO env r acc
theorem sV (env:Env):∀(names:List (Str×NameKind)) {x:Str} {c:Addr},(x,c)∈dM env names []->(x,NameKind.free)∈names/\c=(env.cells.lookup x).getD 0
 | [],_,_,h=>nomatch h
 | (n,k) :: r,x,c,h=>by
  unfold dM at h
  split at h
  ·rename_i hk
   have ek:k=.free:=by simpa using hk
   subst ek;rw[iO] at h;rcases ax.mp h with h | h
   ·have q:=sV env r h;exact ⟨bT _ q.1,q.2⟩
   ·have e:(x,c)=(n,(env.cells.lookup n).getD 0):=by simpa using h
    cases e;exact ⟨cT,rfl⟩
  ·have q:=sV env r h;exact ⟨bT _ q.1,q.2⟩
theorem jo {α:Type}:∀{l:List (Str×α)} {x:Str} {c:α},(x,c)∈l->∃d,l.lookup x=some d
 | (k,v) :: r,x,c,h=>by
  rw[mE];cases hb:x == k with
  | true=>exact ⟨v,rfl⟩
  | false =>
   rcases aE.mp h with e | h
   ·cases e;simp at hb
   ·exact jo h
theorem sW (env:Env):∀(names:List (Str×NameKind)) {x:Str},(x,NameKind.free)∈names->∃c,(x,c)∈dM env names []
 | (n,k) :: r,x,h=>by
  unfold dM;rcases aE.mp h with e | h
  ·cases e;rw[if_pos (by decide),iO];exact ⟨_,bP _ cT⟩
  ·obtain ⟨c,q⟩:=sW env r h
   split
   ·rw[iO];exact ⟨c,hJ _ q⟩
   ·exact ⟨c,q⟩
theorem BP {scope : Scope} {env : Env} (h : ∀ y ∈ scope.names, y.2 = .free → ∃ c, env.cells.lookup y.1 = some c) : closureFor scope env = pure (dM env scope.names []) := by
  have gen : ∀ (names : List (Str × NameKind)) (acc : List (Str × Addr)) (f : Str × NameKind → List (Str × Addr) → Sem (ForInStep (List (Str × Addr)))),
      (∀ name kind cells, f (name, kind) cells = if kind == .free then (do let a <- cellOf env name; pure (.yield ((name, a) :: cells))) else pure (.yield cells)) →
      (∀ y ∈ names, y.2 = .free → ∃ c, env.cells.lookup y.1 = some c) → forIn names acc f = pure (dM env names acc) := by
    intro names
    induction names with
    | nil => intro acc f hf _; rw [DT]; rfl
    | cons y r ih =>
      intro acc f hf hh;obtain ⟨n, k⟩ := y;rw [L5, hf];unfold dM;by_cases hk : (k == NameKind.free) = true
      · obtain ⟨c, hc⟩ := hh (n, k) cT (by simpa using hk);have hc' : env.cells.lookup n = some c := hc;have e : cellOf env n = pure c := by unfold cellOf; rw [hc']
        rw [if_pos hk, if_pos hk, e, hc'];simp only [pure_bind, Option.getD_some];exact ih _ f hf λy hy => hh y (bT _ hy)
      · rw [if_neg hk, if_neg hk];simp only [pure_bind];exact ih _ f hf λy hy => hh y (bT _ hy)
  simp only [closureFor];rw [gen scope.names [] _ (λname kind cells => by cases hkc : kind == NameKind.free <;> simp [hkc]) h];rfl

theorem fk:∀(names:List (Str×NameKind)) (n:Nat) (acc:List (Str×Addr)),cellsFrom n names acc=cellsFrom n names []++acc
 | [],_,_=>rfl
 | (x,k) :: r,n,acc=>by
  unfold cellsFrom
  split
  ·rw[fk r (n+1) (_ :: acc),fk r (n+1) [_],ck];rfl
  ·exact fk r n acc
theorem lO:∀(names:List (Str×NameKind)) (n:Nat) {x:Str} {c:Addr},(x,c)∈cellsFrom n names []->(x,NameKind.cell)∈names
 | [],_,_,_,h=>nomatch h
 | (y,k) :: r,n,x,c,h=>by
  unfold cellsFrom at h
  split at h
  ·rename_i hk
   have ek:k=.cell:=by simpa using hk
   subst ek;rw[fk] at h;rcases ax.mp h with h | h
   ·exact bT _ (lO r _ h)
   ·have e:(x,c)=(y,n):=by simpa using h
    cases e;exact cT
  ·exact bT _ (lO r _ h)
def ze (env:Env) (scope:Scope) (C:Addr):Env :=
 { scope:=relabel scope env,locals:=C,globals:=env.globals,cells:=cellsFrom (C+1) scope.names (dM env scope.names []),qual:=env.qual,func:=none,code:=env.code,frame:=env.frame,builtins:=env.builtins }
theorem FT {M:Model} {A:Around} {E:Value->Shared->Prop} {s:Shared} {scope:Scope} {g:Addr} {cl:List (Str×Addr)} {qual:Str} {env:Env} {Q:Env->Shared->Prop}
  (h:Q (newEnv scope s.heap.objs.size g (cellsFrom (s.heap.objs.size+1) scope.names cl) qual none .none (some env) builtinsNs) { s with heap:=pushCells (s.heap.push { cls:=.type "dict",data:=.dict #[] }) scope.names }) :
  wpAny M A (newFunctionEnv scope g cl [] qual none .none (some env)) Q E s:=by
 simp only[newFunctionEnv,Option.isSome_some,if_true];refine wpAny_bind (wpAny_alloc ?_);refine wpAny_bind (wpAny_layCells _ (λname kind cells=>by cases hkc:kind == NameKind.cell <;> simp [hkc]) _ _ _ _ ?_);rw[show ({ s with heap:=s.heap.push { cls:=.type "dict",data:=.dict #[] } }:Shared).heap.objs.size=s.heap.objs.size+1 from Heap.size_push ..];rw[DT];exact wpAny_bind (wpAny_pure (wpAny_pure h))
theorem xH {scope:Scope} {env:Env} {x:Str}:∀{k:NameKind},(relabel scope env).names.lookup x=some k->∃k0,scope.names.lookup x=some k0/\(k=k0\/(k0=.free/\k=.cell)):=by
 unfold relabel;show ∀{k:NameKind},(scope.names.map λ(n,k)=>if (k == NameKind.free && env.scope.kind == .function && env.kindOf n == some .cell) then (n,NameKind.cell) else (n,k)).lookup x=some k->_
 induction scope.names with
 | nil=>intro k h;cases h
 | cons y r ih =>
  intro k h;obtain ⟨n,k1⟩:=y;rw[ib,mE] at h;rw[mE];by_cases hc:(k1 == NameKind.free && env.scope.kind == .function && env.kindOf n == some .cell)=true
  ·simp only[hc,if_true] at h;cases hb:x == n with
   | true =>
    simp only[hb] at h
    have e1:k1=.free:=by
     rw[dF,dF] at hc;simpa using hc.1.1
    cases h;exact ⟨k1,rfl,.inr ⟨e1,rfl⟩⟩
   | false=>simp only[hb] at h;exact ih h
  ·have hc':(k1 == NameKind.free && env.scope.kind == .function && env.kindOf n == some .cell)=false:=by simpa using hc
   simp only[hc',jl,if_false] at h;cases hb:x == n with
   | true=>simp only[hb] at h;cases h;exact ⟨_,rfl,.inl rfl⟩
   | false=>simp only[hb] at h;exact ih h
theorem FF {scope:Scope} {env:Env} {x:Str}:scope.names.lookup x=some .free->(relabel scope env).names.lookup x=some .cell\/(relabel scope env).names.lookup x=some .free:=by
 unfold relabel;show _->(scope.names.map λ(n,k)=>if (k == NameKind.free && env.scope.kind == .function && env.kindOf n == some .cell) then (n,NameKind.cell) else (n,k)).lookup x=some .cell\/(scope.names.map λ(n,k)=>if (k == NameKind.free && env.scope.kind == .function && env.kindOf n == some .cell) then (n,NameKind.cell) else (n,k)).lookup x=some .free
 induction scope.names with
 | nil=>intro h;cases h
 | cons y r ih =>
  intro h;obtain ⟨n,k1⟩:=y;rw[mE] at h;rw[ib];by_cases hc:(k1 == NameKind.free && env.scope.kind == .function && env.kindOf n == some .cell)=true
  ·simp only[hc,if_true,mE];cases hb:x == n with
   | true=>exact .inl rfl
   | false=>rw[hb] at h;exact ih h
  ·have hc':(k1 == NameKind.free && env.scope.kind == .function && env.kindOf n == some .cell)=false:=by simpa using hc
   simp only[hc',jl,if_false,mE];cases hb:x == n with
   | true=>rw[hb] at h;cases h;exact .inr rfl
   | false=>rw[hb] at h;exact ih h
structure Bz where
 s:Shared
 H:Hp
 fp:List Addr
 C:Addr
def z5 (X:Cx) (own capN:List Str) (scope:Scope) (Z:Bz):Cx where
 prog:=X.prog
 w:=X.w
 K:=X.K
 mg:=X.mg
 base:=X.base
 A:=X.A
 N:=own++capN
 s₀:=Z.s
 H₀:=Z.H
 env:=ze X.env scope Z.C
 outer:=X.stack
 stack:=X.stack
 ex:=Z.fp
 fn:=λx=>own.contains x
 calm:=true
 pn:=[]
 xe:=λ_ _=>False
section
variable {X:Cx} {pins:List (Addr×Obj)} {σ:St} {own capN:List Str} {scope:Scope} {Z:Bz}
theorem jP (B:Bk X.env scope own capN) (I:Inv X pins σ Z.H Z.s) {x:Str} {c:Addr} (h:(ze X.env scope Z.C).cells.lookup x=some c) :
  (x∈own/\(x,c)∈cellsFrom (Z.C+1) scope.names [])\/(x∈capN/\x∉own/\X.env.cells.lookup x=some c):=by
 have h':(cellsFrom (Z.C+1) scope.names (dM X.env scope.names [])).lookup x=some c:=h;rw[fk] at h';rcases ax.mp (mem_of_lookup h') with m | m
 ·exact .inl ⟨(B.cells _ (lO _ _ m) rfl).1,m⟩
 ·obtain ⟨m1,e⟩:=sV _ _ m;obtain ⟨q1,q2⟩:=B.frees _ m1 rfl;obtain ⟨d,hd⟩:=I.ok.has x (B.caps x q1);rw[hd] at e;exact .inr ⟨q1,q2,by rw[hd,e];rfl⟩
theorem Nl (B:Bk X.env scope own capN) (I:Inv X pins σ Z.H Z.s) {x:Str} {c:Addr} (hx:x∈capN) (h:X.env.cells.lookup x=some c):(ze X.env scope Z.C).cells.lookup x=some c:=by
 have hm:(x,NameKind.free)∈scope.names:=mem_of_lookup (B.capf x hx);obtain ⟨c1,m1⟩:=sW X.env scope.names hm
 have hs:∃d,(ze X.env scope Z.C).cells.lookup x=some d:=by
  show ∃d,(cellsFrom (Z.C+1) scope.names (dM X.env scope.names [])).lookup x=some d
  rw[fk];exact jo (bP _ m1)
 obtain ⟨d,hd⟩:=hs;rcases jP B I hd with ⟨q,m⟩ | ⟨_,_,q⟩
 ·exact absurd hx (B.cells _ (lO _ _ m) rfl).2
 ·rw[h] at q;cases q;exact hd
theorem JD (h:Heap) (C:Addr) (hC:h.objs.size=C+1) (names:List (Str×NameKind)):CellsOk (pushCells h names) (C+1) (cellsFrom (C+1) names []):=by
 have q:=cellsFrom_ok names h (C+1) [] ⟨λ_ _ hm=>(nomatch hm),List.Pairwise.nil⟩ (by rw[hC];exact au _);rwa [hC] at q
theorem EM (I:Inv X pins σ Z.H Z.s) {x:Str} {c:Addr} (h:X.env.cells.lookup x=some c):@LT.lt Nat instLTNat c Z.s.heap.objs.size:=by
 obtain ⟨v,q⟩:=I.cell x c h;exact q.lt
theorem Pb {h1:Heap} (I:Inv X pins σ Z.H Z.s) (hc:X.calm=true) (B:Bk X.env scope own capN) (hC:Z.s.heap.objs.size<=Z.C) (hcl:CellsOk h1 (Z.C+1) (cellsFrom (Z.C+1) scope.names []))
  (hf:∀b∈Z.fp,kU X pins Z.H b/\@LT.lt Nat instLTNat b Z.s.heap.objs.size):(z5 X own capN scope Z).Ok:=by
 refine ⟨I.ok.mod,B.kind,I.ok.glob,I.ok.blt,hC,λx y c h1 h2=>?_,λx hx=>?_,λx c hx h=>?_,λ_=>I.ok.hd hc,I.ok.frames,.inl rfl,λb hb=>⟨?_,λx c h=>?_⟩,I.bs,ai I.ok.bsz I.sz,λb o e hb=>?_,λb hb hz=>?_,I.stack,I.stkFree⟩
 ·rcases jP B I h1 with ⟨q1,m1⟩ | ⟨q1,n1,m1⟩ <;> rcases jP B I h2 with ⟨q2,m2⟩ | ⟨q2,n2,m2⟩
  ·exact name_of_addr hcl.apart m1 m2
  ·have l1:=(hcl.empty _ _ m1).2;have l2:=EM I m2
   lia
  ·have l1:=(hcl.empty _ _ m2).2;have l2:=EM I m1
   lia
  ·exact I.ok.inj x y c m1 m2
 ·have hx':(relabel scope X.env).names.lookup x=some .cell\/(relabel scope X.env).names.lookup x=some .free:=hx
  have hk:scope.names.lookup x=some .cell\/scope.names.lookup x=some .free:=by
   rcases hx' with h | h
   ·obtain ⟨k0,e,q | ⟨q,_⟩⟩:=xH h
    ·exact .inl (by rw[e,<- q])
    ·exact .inr (by rw[e,q])
   ·obtain ⟨k0,e,q | ⟨_,q⟩⟩:=xH h
    ·exact .inr (by rw[e,<- q])
    ·cases q
  show ∃c,(cellsFrom (Z.C+1) scope.names (dM X.env scope.names [])).lookup x=some c
  rcases hk with h | h
  ·exact Pu.mp (Aq scope.names (Z.C+1) _ (.inl h))
  ·obtain ⟨c,m⟩:=sW X.env scope.names (mem_of_lookup h);rw[fk];exact jo (bP _ m)
 ·have ho:x∈own:=by have hx':own.contains x=true:=hx;simpa using hx'
  rcases jP B I h with ⟨_,m⟩ | ⟨_,n,_⟩
  ·have:=(hcl.empty _ _ m).2;have hC':Z.s.heap.objs.size<=Z.C:=hC;show Z.s.heap.objs.size<=c
   lia
  ·exact absurd ho n
 ·intro e;have e':@Eq Nat b Z.C:=e;have:=(hf b hb).2
  lia
 ·have l:=(hf b hb).2;rcases jP B I h with ⟨_,m⟩ | ⟨_,_,m⟩
  ·intro e;have e':@Eq Nat c b:=e;have:=(hcl.empty _ _ m).2
   lia
  ·exact (hf b hb).1.2.2.2.2.1 x c m
 ·obtain ⟨_,_,_,f3,_⟩:=(hf b hb).1;rcases f3 with f3 | f3
  ·exact I.ok.noex b o e f3
  ·exact absurd (bH (Heap.lt_size e) (ai I.ok.bsz f3)) (dP _)
 ·obtain ⟨_,f1,f2,_⟩:=(hf b hb).1;rcases aE.mp (I.stkSub b hz) with e | e
  ·exact f1 e
  ·exact f2 e
def J5 (k:Nat) (cap:List Nat) (σ:St):St:=List.replicate k none++cap.map λj=>(σ[j]?).join
def zU (X:Cx) (capN:List Str) (cap:List Nat):Prop:=cap.map (λj=>X.N[j]?)=capN.map some
theorem zU.get {cap:List Nat} (h:zU X capN cap) {i:Nat} {x:Str} (e:capN[i]?=some x):∃j,cap[i]?=some j/\X.N[j]?=some x:=by
 have q:=congrArg (λl=>l[i]?) h;simp only[aF,e,Option.map_some] at q;cases hc:cap[i]? with
 | none=>rw[hc] at q;cases q
 | some j=>rw[hc] at q;exact ⟨j,rfl,by simpa using q⟩
theorem Gr {cap:List Nat} {h':Heap} {m:Str->Option Value} (I:Inv X pins σ Z.H Z.s) (B:Bk X.env scope own capN) (hcap:zU X capN cap)
  (kc:∀x c,X.env.cells.lookup x=some c->∀v,Z.s.heap.IsCell c v->h'.IsCell c v) {i:Nat} {x:Str} {v:V} (e1:(own++capN)[i]?=some x) (e2:(J5 own.length cap σ)[i]?=some (some v)) :
  ∃u,RelV v u/\Look (ze X.env scope Z.C) h' m x u:=by
 have hi:own.length<=i:=by
  by_cases hi:own.length<=i
  ·exact hi
  ·exfalso
   unfold J5 at e2;rw[cR (by simpa using hi),QU] at e2
   split at e2 <;> cases e2
 rw[b8 hi] at e1;unfold J5 at e2;rw[b8 (by simpa using hi),fX,aF] at e2;obtain ⟨j,hj,hN⟩:=hcap.get e1;rw[hj] at e2;have e3:(σ[j]?).join=some v:=by simpa using e2
 have e4:σ[j]?=some (some v):=by
  cases q:σ[j]? with
  | none=>rw[q] at e3;cases e3
  | some o=>rw[q] at e3;simp at e3;rw[e3]
 have hx:x∈capN:=ar e1;have hk:=B.caps x hx;obtain ⟨m0,_,hl⟩:=I.loc;obtain ⟨u,r,l⟩:=hl j x v hN e4 (.inr hk);refine ⟨u,r,.inr ⟨FF (B.capf x hx),?_⟩⟩;rcases l with ⟨hk2,_⟩ | ⟨_,c,hc,z⟩
 ·rcases hk with hk | hk
  ·rw[hk] at hk2;cases hk2
  ·rw[hk] at hk2;cases hk2
 ·exact ⟨c,Nl B I hx hc,kc x c hc _ z⟩
theorem QE (I:Inv X pins σ Z.H Z.s) {b:Addr} (h:b∈J7 X.stack):@LT.lt Nat instLTNat b Z.s.heap.objs.size:=by
 obtain ⟨_,o,ho,_⟩:=I.stack.mem h;exact Heap.lt_size ho
theorem Nj {cap:List Nat} {h1:Heap} {D:Addr} {oD:Obj} {t1:Nat} (I:Inv X pins σ Z.H Z.s) (hc:X.calm=true) (B:Bk X.env scope own capN) (hcap:zU X capN cap) (hC:Z.s.heap.objs.size<=Z.C)
  (hcl:CellsOk h1 (Z.C+1) (cellsFrom (Z.C+1) scope.names [])) (hf:∀b∈Z.fp,kU X pins Z.H b/\@LT.lt Nat instLTNat b Z.s.heap.objs.size)
  (hk:∀b o,Z.s.heap.get? b=some o->h1.get? b=some o) (hn:h1.Ns Z.C λ_=>none) (hD:Z.s.heap.objs.size<=D) (hDC:D≠Z.C) (hoD:h1.get? D=some oD) (hdD:∀v,oD.data≠.cell v) :
  Inv (z5 X own capN scope Z) [(D,oD)] (J5 own.length cap σ) Z.H { Z.s with heap:=h1,toks:=t1 }:=by
 refine ⟨Pb I hc B hC hcl hf,rfl,I.bare,Un.kept hk,⟨_,hn,λi x v e1 e2 _=>Gr I B hcap (λx c _ v z=>z.keeps hk) e1 e2⟩,λx c h=>?_,I.hok.fresh hC,λx c h=>?_,λp hp=>?_,I.hok.kept hk,?_⟩
 ·rcases jP B I h with ⟨_,m⟩ | ⟨_,_,m⟩
  ·exact ⟨none,(hcl.empty _ _ m).1⟩
  ·obtain ⟨v,q⟩:=I.cell x c m;exact ⟨v,q.keeps hk⟩
 ·rcases jP B I h with ⟨_,m⟩ | ⟨_,_,m⟩
  ·exact I.hok.fresh (by have:=(hcl.empty _ _ m).2;lia)
  ·exact I.freeC x c m
 ·have e:p=(D,oD):=by simpa [z5] using hp
  subst e;exact ⟨hoD,I.hok.fresh hD,hDC,λz=>dP _ (bH (QE I z) hD),hdD⟩
 ·show (J5 own.length cap σ).length=(own++capN).length
  have:=congrArg List.length hcap;simp only[ag] at this;unfold J5;simp [this]
theorem LO {cap:List Nat} {pins':List (Addr×Obj)} {σ':St} {H':Hp} {s':Shared} (I:Inv X pins σ Z.H Z.s) (B:Bk X.env scope own capN) (hcap:zU X capN cap) (hf:∀b∈Z.fp,kU X pins Z.H b/\@LT.lt Nat instLTNat b Z.s.heap.objs.size)
  (J:Inv (z5 X own capN scope Z) pins' σ' H' s'):Inv (z5 X own capN scope Z) pins' (J5 own.length cap σ) H' s':=by
 refine ⟨J.ok,J.os,J.bare,J.base,?_,J.cell,J.free,J.freeC,J.pin,J.hok,?_⟩
 ·obtain ⟨m,hn,_⟩:=J.loc;refine ⟨m,hn,λi x v e1 e2 _=>Gr I B hcap (λx c hx v z=>?_) e1 e2⟩;obtain ⟨o,ho,hd⟩:=z;obtain ⟨sl,e⟩:=J.base.any ho (I.freeC x c hx) λz=>(hf c z).1.2.2.2.2.1 x c hx rfl
  exact ⟨_,e,hd⟩
 ·show (J5 own.length cap σ).length=(own++capN).length
  have:=congrArg List.length hcap;simp only[ag] at this;unfold J5;simp [this]
theorem Nk {σ':St} {H':Hp} {s':Shared} {D:Addr} {its:List Value} {n:Nat} {ys:List V} (I:Inv X pins σ Z.H Z.s) (hf:∀b∈Z.fp,kU X pins Z.H b/\@LT.lt Nat instLTNat b Z.s.heap.objs.size) (hD:Z.s.heap.objs.size<=D)
  (J:Inv (z5 X own capN scope Z) [(D,{ cls:=.type "list",data:=.seq its.toArray n })] σ' H' s') (r:cK ys its) (hz:ys.length<=sizeLine) :
  Inv X pins σ (upd H' D (.lst ys)) s':=by
 have pD:=J.pin (D,{ cls:=.type "list",data:=.seq its.toArray n }) (by simp);have ne:∀{b:Addr} {o:Obj},Z.s.heap.get? b=some o->b≠D:=λe z=>by subst z;exact dP _ (bH (Heap.lt_size e) hD)
 have nt:∀{b:Addr} {u:HO},H' b=some u->b≠D:=λe z=>by rw[z,pD.2.1] at e;cases e
 refine I.call' (ch:=Z.fp) J.os ⟨J.base.keep,J.base.slot,λb o e h hx=>?_,J.base.there,λb xs e=>?_,λb o u e=>?_,λb ps e=>?_⟩ (λb u e=>?_) J.bare λb hb=>?_
 ·rw[bF (ne e)];exact J.base.free b o e h hx
 ·have q:=J.base.tups b xs e;rw[bF (nt q)];exact q
 ·have q:=J.base.frzs b o u e;rw[bF (nt q)];exact q
 ·obtain ⟨more,q⟩:=J.base.tbls b ps e;exact ⟨more,by rw[bF (nt q)];exact q⟩
 ·by_cases hb:b=D
  ·subst hb;rw[aI] at e;cases e;exact ⟨hz,its,n,r,pD.1⟩
  ·rw[bF hb] at e;exact (J.hok b u e).stay (λc v _ q=>q) (λc q=>by rw[bF (nt q)];exact q) λc xs q=>by rw[bF (nt q)];exact q
 ·obtain ⟨_,f1,_,f3,f4,f5⟩:=(hf b hb).1;exact ⟨f3,f1,f4,f5⟩
end
theorem Of {α:Type} {t:Sem α} {Q Q':α->Shared->Prop} {M:Model} {A:Around} {E:Value->Shared->Prop} {s:Shared} (h:wpAny M A t Q (λ_ _=>False) s) (hQ:∀a s,Q a s->Q' a s):wpAny M A t Q' E s :=
 wpAny_mono h hQ λ_ _ z=>False.elim z
theorem EL {prog : Program} {w : World} {A : Around} {R : Result → Shared → Prop} {s : Shared} {elt target iter : Expr} {ifs : List Expr} {scope : Scope} {pos : Pos} {it acc : Value} {env : Env} (I : Nat → Shared → Prop)
    (turn : ∀ (E : Value → Shared → Prop) n s, I n s → wpAny (model prog w) A (pyNext it) (λr s₁ => match r with
      | none => R (.ok .next) s₁
      | some v => wpAny (model prog w) A (letOwnedTupleGo target it v) (λ_ s₂ => wpAny (model prog w) A (assign target env v) (λ_ s₃ =>
          wpAny (model prog w) A (forIn ifs true λc r => if r = true then do let ok <- isTrue c env (eval c env); pure (ForInStep.yield ok) else pure (ForInStep.yield r)) (λok s₄ =>
            if ok = true then wpAny (model prog w) A (eval elt env) (λx s₅ => wpAny (model prog w) A (call (.builtin "list.append") [acc, x]) (λ_ s₆ => ∃ m, m < n /\ I m s₆) E s₅) E s₄
            else ∃ m, m < n /\ I m s₄) E s₃) E s₂) E s₁) E s)
    (n : Nat) (h : I n s) : codeAny (model prog w) A (.compLoop (.ListComp elt [⟨target, iter, ifs, 0⟩] scope pos) 0 it acc env) R s := by
  refine codeAny_loop rfl I (λn s hI => ?_) n h;show wpAny _ A ((compTurn (.ListComp elt [⟨target, iter, ifs, 0⟩] scope pos) 0 it acc env).onRaise (λx => do noteFrame x env; theTreesLotGoes x)) _ _ s
  refine wpAny_noted ?_;rw [compTurn_list];refine wpAny_bind (wpAny_standAt (wpAny_bind (wpAny_mono (turn _ n s hI) (λr s₁ h₁ => ?_) λ_ _ h' => h')));cases r with
  | none => exact wpAny_pure h₁
  | some v =>
    refine wpAny_bind (wpAny_mono h₁ (λ_ s₂ h₂ => wpAny_bind (wpAny_mono h₂ (λ_ s₃ h₃ => wpAny_bind (wpAny_mono h₃ (λok s₄ h₄ => ?_) λ_ _ h' => h')) λ_ _ h' => h')) λ_ _ h' => h');cases ok with
    | false => exact wpAny_pure ⟨rfl, h₄⟩
    | true =>
      exact wpAny_bind (wpAny_bind (wpAny_mono h₄ (λx s₅ h₅ => wpAny_bind (wpAny_mono h₅ (λ_ s₆ h₆ => wpAny_pure (wpAny_pure ⟨rfl, h₆⟩)) λ_ _ h' => h')) λ_ _ h' => h'))

def PF (X : Cx) (ifs : List Expr) (t : TT) : Prop :=
  ∀ (pins : List (Addr × Obj)) (s : Shared) (σ : St) (H : Hp) (Q : Bool → Hp → Prop), Inv X pins σ H s → t σ H Q →
    wpAny (model X.prog X.w) X.A (forIn ifs true λc r => if r = true then do let ok <- isTrue c X.env (eval c X.env); pure (ForInStep.yield ok) else pure (ForInStep.yield r)) (TP X pins σ Q) X.xe s
def PB:TT:=λ_ H Q=>Q true H
theorem cf {X:Cx}:PF X [] PB:=λ_ _ _ H _ I h=>wpAny_tests_nil ⟨H,I,h⟩
theorem Hq {X:Cx} {c:Expr} {t:TT} (h:PT X c t):PF X [c] t:=λpins s σ H Q I hw=>wpAny_tests_one (h pins s σ H Q I hw)
def qY (σ₀:St) (g:TG) (tf:TT) (te:TE) (x:V) (H:Hp) (NY:V->Hp->Prop) (NN:Hp->Prop):Prop :=
 g x σ₀ H λσ2 H2=>tf σ2 H2 λb H3=>if b=true then te σ2 H3 NY else NN H3
def rJ (J:It) (σ₀:St) (g:TG) (tf:TT) (te:TE) (Q:VK) (H1:Hp):Prop :=
 ∃W:Nat->Nat->List V->Hp->Prop,(∃m,W 0 m [] H1)/\∀i m ys H,W i m ys H →
  (J.stop i H/\ys.length<=sizeLine/\∀p,H p=none->Q (.ref p) (upd H p (.lst ys))) \/
  (J.go i H/\ys.length < sizeLine/\∃(NY:V->Hp->Prop) (NN:Hp->Prop),(∀y H',NY y H'->∃m',m' < m/\W (i+1) m' (ys++[y]) H')/\(∀H',NN H'->∃m',m' < m/\W (i+1) m' ys H') /\
   ∀x H',J.yld i H x H'->qY σ₀ g tf te x H' NY NN)
def Fe (wi:TI) (k:Nat) (cap:List Nat) (g:TG) (tf:TT) (te:TE):TE:=λσ H Q=>wi σ H λJ H1=>rJ J (J5 k cap σ) g tf te Q H1
abbrev lobj (its:List Value) (n:Nat):Obj:={ cls:=.type "list",data:=.seq its.toArray n }
section
variable {X:Cx} {own capN:List Str} {cap:List Nat} {scope:Scope} {elt tg iter:Expr} {ifs:List Expr} {pos:Pos} {wi:TI} {g:TG} {tf:TT} {te:TE}
theorem DE {use:Option (Value->Sem Unit)} {Qe:Value->Shared->Prop} {fpos:Pos} (hc:X.calm=true) (B:Bk X.env scope own capN) (hcap:zU X capN cap)
  (hi:PI X tg iter wi) (hg:∀Z,PG (z5 X own capN scope Z) tg g) (hf:∀Z,PF (z5 X own capN scope Z) ifs tf) (he:∀Z,PE (z5 X own capN scope Z) elt te)
  (hs:∀x,foldedSetIterable iter X.env x=pure x) {pins:List (Addr×Obj)} {s:Shared} {σ:St} {H:Hp} {Q:VK} (I:Inv X pins σ H s) (h:Fe wi own.length cap g tf te σ H Q)
  (fin:∀(D C:Addr) (s':Shared) (H':Hp),Inv X pins σ H' s'->kU X pins H' C->(∃m,s'.heap.Ns C m)->Q (.ref D) H'->compPost (model X.prog X.w) X.A X.xe use Qe (.ref D) C (.ok .next) s') :
  wpAny (model X.prog X.w) X.A (comprehension (.ListComp elt [⟨tg,iter,ifs,0⟩] scope pos) scope X.env fpos (newList []) false (eval iter X.env) use) Qe X.xe s:=by
 refine wpAny_comprehension_free (use:=use) rfl hs (BP λy hy hk=>I.ok.has y.1 (B.caps _ (B.frees y hy hk).1)) B.kind B.locs ?_;refine gO (hi pins s σ H _ I h) λv s1 h1=>gO h1 λitv s2 h2=>?_
 obtain ⟨it,fp,tn,J,H2,e,I2,T,st2,f2,W,⟨m0,w0⟩,turn⟩:=h2;subst e;have hfp:∀b∈fp,kU X pins H2 b/\@LT.lt Nat instLTNat b s2.heap.objs.size:=λb hb=>⟨f2 b hb,let ⟨_,e,_⟩:=T.obj _ _ st2 b hb;Heap.lt_size e⟩
 refine wpAny_newObj_type (FT ?_) (bo _);have es:(s2.heap.push { cls:=.type "list",data:=.seq ([]:List Value).toArray }).objs.size=s2.heap.objs.size+1:=Heap.size_push ..
 show codeAny _ _ (.compStart _ 0 (.ref it) (.ref s2.heap.objs.size) { newEnv scope (s2.heap.push { cls:=.type "list",data:=.seq ([]:List Value).toArray }).objs.size X.env.globals (cellsFrom ((s2.heap.push { cls:=.type "list",data:=.seq ([]:List Value).toArray }).objs.size+1) scope.names (dM X.env scope.names [])) X.env.qual none .none (some X.env) builtinsNs with scope:=relabel scope X.env })
  (compPost (model X.prog X.w) X.A X.xe use Qe (.ref s2.heap.objs.size) (s2.heap.push { cls:=.type "list",data:=.seq ([]:List Value).toArray }).objs.size)
  { s2 with heap:=pushCells ((s2.heap.push { cls:=.type "list",data:=.seq ([]:List Value).toArray }).push { cls:=.type "dict",data:=.dict #[] }) scope.names }
 have hk1:∀b o,(s2.heap.push { cls:=.type "list",data:=.seq ([]:List Value).toArray }).get? b=some o->(pushCells ((s2.heap.push { cls:=.type "list",data:=.seq ([]:List Value).toArray }).push { cls:=.type "dict",data:=.dict #[] }) scope.names).get? b=some o :=
  λb o e=>pushCells_keeps _ _ _ _ (Heap.get?_push_of_some _ e)
 have hk:∀b o,s2.heap.get? b=some o->(pushCells ((s2.heap.push { cls:=.type "list",data:=.seq ([]:List Value).toArray }).push { cls:=.type "dict",data:=.dict #[] }) scope.names).get? b=some o:=λb o e=>hk1 b o (Heap.get?_push_of_some _ e)
 have hoD:=hk1 s2.heap.objs.size _ (Heap.get?_push_size s2.heap (o:={ cls:=.type "list",data:=.seq ([]:List Value).toArray }) rfl);have hn:=(Heap.Ns.new (s2.heap.push { cls:=.type "list",data:=.seq ([]:List Value).toArray }) (.type "dict")).keeps (pushCells_keeps scope.names _);have hcl:=JD ((s2.heap.push { cls:=.type "list",data:=.seq ([]:List Value).toArray }).push { cls:=.type "dict",data:=.dict #[] }) (s2.heap.objs.size+1) (by rw[Heap.size_push,es]) scope.names;rw[es] at hn ⊢;generalize pushCells ((s2.heap.push { cls:=.type "list",data:=.seq ([]:List Value).toArray }).push { cls:=.type "dict",data:=.dict #[] }) scope.names=h3 at hk hoD hn hcl ⊢;have Z:Bz:=⟨s2,H2,fp,s2.heap.objs.size+1⟩
 have I3:Inv (z5 X own capN scope ⟨s2,H2,fp,s2.heap.objs.size+1⟩) [(s2.heap.objs.size,lobj [] 0)] (J5 own.length cap σ) H2 { s2 with heap:=h3 } :=
  Nj (Z:=⟨s2,H2,fp,s2.heap.objs.size+1⟩) (t1:=s2.toks) I2 hc B hcap (tX _) hcl hfp hk hn (au _) (cG (eI _)) hoD (λv z=>nomatch z)
 have st3:tn 0 h3:=T.keep _ _ _ st2 λb _ o e=>hk b o e
 have loop:codeAny (model X.prog X.w) X.A (.compLoop (.ListComp elt [⟨tg,iter,ifs,0⟩] scope pos) 0 (.ref it) (.ref s2.heap.objs.size) (ze X.env scope (s2.heap.objs.size+1))) (compPost (model X.prog X.w) X.A X.xe use Qe (.ref s2.heap.objs.size) (s2.heap.objs.size+1)) { s2 with heap:=h3 }:=by
  refine EL (λm s'=>∃i ys σ' H' its n,Inv (z5 X own capN scope ⟨s2,H2,fp,s2.heap.objs.size+1⟩) [(s2.heap.objs.size,lobj its n)] σ' H' s'/\tn i s'.heap/\(∀b∈fp,H' b=none)/\cK ys its/\W i m ys H') ?_ m0
   ⟨0,[],_,H2,[],0,I3,st3,λb hb=>(f2 b hb).1,.nil,w0⟩
  rintro E n s4 ⟨i,ys,σ4,H4,its,k,I4,st4,fr4,rv,w4⟩
  have fpo:∀{pp:List (Addr×Obj)} {H':Hp},(∀p∈pp,p.1=s2.heap.objs.size)->(∀b∈fp,H' b=none)->∀b∈fp,kU (z5 X own capN scope ⟨s2,H2,fp,s2.heap.objs.size+1⟩) pp H' b:=λ{pp H'} hpp hn b hb=>by
   obtain ⟨e1,e2⟩:=I4.ok.exf b hb;refine ⟨hn b hb,e1,I4.ok.exfs b hb,.inl hb,e2,λp hp=>?_⟩;have hp':p∈pp:=by simpa [z5] using hp
   have l:=(hfp b hb).2;rw[hpp p hp'];exact λz=>dP _ (by rw[<- z] at l;exact l)
  have pinD:∀{its:List Value} {n:Nat},∀p∈[(s2.heap.objs.size,lobj its n)],p.1=s2.heap.objs.size:=λp hp=>by simp at hp;rw[hp]
  rcases turn i n ys H4 w4 with ⟨stop,hz,q⟩ | ⟨go,hlt,NY,NN,hNY,hNN,step⟩
  ·refine gO (T.done (z5 X own capN scope ⟨s2,H2,fp,s2.heap.objs.size+1⟩) rfl rfl rfl rfl i _ s4 σ4 H4 E I4 (fpo pinD fr4) st4 stop) λr s5 ⟨hr,I5⟩=>?_
   subst hr;have pD:=I5.pin (s2.heap.objs.size,lobj its k) (by simp);have I6:=Nk (Z:=⟨s2,H2,fp,s2.heap.objs.size+1⟩) I2 hfp (au _) I5 rv hz
   have hC:upd H4 s2.heap.objs.size (.lst ys) (s2.heap.objs.size+1)=none:=by
    rw[bF (Jl (eI _))];exact I5.free
   obtain ⟨m,hm,_⟩:=I5.loc;exact fin _ _ s5 _ I6 (I2.fpOk (tX _) hC) ⟨m,hm⟩ (q _ pD.2.1)
  ·refine gO (T.item (z5 X own capN scope ⟨s2,H2,fp,s2.heap.objs.size+1⟩) rfl rfl rfl rfl i _ s4 σ4 H4 E I4 (fpo pinD fr4) st4 go) λr s5 ⟨u,hr,h5⟩=>?_
   subst hr;refine gO h5 λ_ s6 ⟨x,H6,I6,r6,y6,st6,fr6⟩=>?_
   have I6':=(LO (Z:=⟨s2,H2,fp,s2.heap.objs.size+1⟩) I2 B hcap hfp I6).pinned (fpo pinD fr6) (T.obj _ _ st6)
   have back:∀{σ7:St} {H7:Hp} {s7:Shared},Inv (z5 X own capN scope ⟨s2,H2,fp,s2.heap.objs.size+1⟩) ([(s2.heap.objs.size,lobj its k)]++AU fp s6.heap) σ7 H7 s7 →
     Inv (z5 X own capN scope ⟨s2,H2,fp,s2.heap.objs.size+1⟩) [(s2.heap.objs.size,lobj its k)] σ7 H7 s7/\tn (i+1) s7.heap/\∀b∈fp,H7 b=none:=λ{σ7 H7 s7} I7=>by
    refine ⟨I7.unpinned,T.keep _ _ _ st6 λb hb o e=>(I7.pin (b,o) (bP _ (bP _ (sE hb e)))).1,λb hb=>?_⟩;obtain ⟨o,e,d⟩:=T.obj _ _ st6 b hb;exact (I7.pin (b,o) (bP _ (bP _ (sE hb e)))).2.1
   refine Of (hg _ _ s6 _ H6 x u _ I6' r6 (step x H6 y6)) λ_ s7 ⟨σ7,H7,I7,q7⟩=>?_
   refine Of (hf _ _ s7 σ7 H7 _ I7 q7) λok s8 ⟨H8,I8,q8⟩=>?_
   cases ok with
   | false =>
    rw[if_neg aU] at q8 ⊢;obtain ⟨m',hm,w8⟩:=hNN H8 q8;obtain ⟨J1,J2,J3⟩:=back I8;exact ⟨m',hm,i+1,ys,σ7,H8,its,k,J1,J2,J3,rv,w8⟩
   | true =>
    rw[if_pos rfl] at q8 ⊢;refine Of (he _ _ s8 σ7 H8 _ I8 q8) λz s9 ⟨y,H9,I9,r9,q9⟩=>?_
    obtain ⟨J1,J2,J3⟩:=back I9;obtain ⟨m',hm,w9⟩:=hNY y H9 q9;have pD:=J1.pin (s2.heap.objs.size,lobj its k) (by simp);have hl:=rv.length;refine call_meets F.slot_list_append ⟨_,pD.1,rfl⟩ F.entry_list_append (F.args_list_append_2 _ _) (PySem.list_append s2.heap.objs.size its.toArray k z (by rw[aJ];lia)) ⟨pD.1,?_⟩;have e9:=mo pD.1 (λa=>a.push z);have e9':(its.toArray.push z)=(its++[z]).toArray:=by simp
    rw[e9'] at e9;obtain ⟨n',e9⟩:∃n',(s9.heap.update s2.heap.objs.size (Obj.mapSeq λa=>a.push z)).get? s2.heap.objs.size=some (lobj (its++[z]) n'):=⟨_,e9⟩
    have J4:Inv (z5 X own capN scope ⟨s2,H2,fp,s2.heap.objs.size+1⟩) [] σ7 H9 { s9 with heap:=s9.heap.update s2.heap.objs.size (Obj.mapSeq λa=>a.push z),toks:=s9.toks } :=
     (J1.pins_of (pins':=[]) λp hp=>nomatch hp).turned (λb o hb e=>(Heap.get?_update_other s9.heap _ (Ne.symm hb)).trans e) pD.2.1 pD.2.2.1 (.inr (au _)) (λx c hx z=>by
      rcases jP (Z:=⟨s2,H2,fp,s2.heap.objs.size+1⟩) B I2 hx with ⟨_,m⟩ | ⟨_,_,m⟩
      ·have:=(hcl.empty _ _ m).2;have z':@Eq Nat c s2.heap.objs.size:=z
       lia
      ·have:=EM (Z:=⟨s2,H2,fp,s2.heap.objs.size+1⟩) I2 m;rw[z] at this;exact dP _ this) λp hp=>by simp [z5] at hp
    have nfp:∀b∈fp,b≠s2.heap.objs.size:=λb hb z=>by have:=(hfp b hb).2;rw[z] at this;exact dP _ this
    refine ⟨m',hm,i+1,ys++[y],σ7,H9,its++[z],n',J4.pins_of λp hp=>?_,T.keep _ _ _ J2 λb hb o e=>(Heap.get?_update_other s9.heap _ (Ne.symm (nfp b hb))).trans e,J3,rv.append (.cons r9 .nil),w9⟩;have ep:p=(s2.heap.objs.size,lobj (its++[z]) n'):=by simpa using hp
    rw[ep];exact ⟨e9,pD.2.1,pD.2.2.1,pD.2.2.2.1,λv z=>nomatch z⟩
 exact codeAny_compStart_list loop (T.self _ _ _ _ _ st3 loop)
theorem bZ (own capN:List Str) (cap:List Nat) (hi:PI X tg iter wi) (hg:∀Z,PG (z5 X own capN scope Z) tg g) (hf:∀Z,PF (z5 X own capN scope Z) ifs tf) (he:∀Z,PE (z5 X own capN scope Z) elt te)
  (h1:Q2 scope own capN=true:=by decide +kernel) (h2:DG X.env capN=true:=by rfl) (hcap:zU X capN cap:=by rfl) (hc:X.calm=true:=by rfl) (hs:∀x,foldedSetIterable iter X.env x=pure x:=by intro _;rfl) :
  PE X (.ListComp elt [⟨tg,iter,ifs,0⟩] scope pos) (Fe wi own.length cap g tf te):=by
 intro pins s σ H Q I h;rw[eval_ListComp];refine DE (use:=none) hc (Bk.of h1 h2) hcap hi hg hf he hs I h λD C s' H' I' fC hm q=>?_
 obtain ⟨m,hm⟩:=hm;refine ⟨m,hm,λh' hs'=>?_⟩;obtain ⟨f0,f1,f2,f3,f4,f5⟩:=fC;exact ⟨.ref D,H',I'.turned (t':=s'.toks) (λb o hb e=>(hs'.2 b hb).trans e) f0 f1 f3 f4 f5,rfl,q⟩
theorem lB (i:Nat) (own capN:List Str) (cap:List Nat) {x:Str} {pos' spos:Pos} (hN:X.N.Nodup) (hi':X.N[i]?=some x) (hx:X.env.scope.names.lookup x=some .local) (hi:PI X tg iter wi) (hg:∀Z,PG (z5 X own capN scope Z) tg g) (hf:∀Z,PF (z5 X own capN scope Z) ifs tf) (he:∀Z,PE (z5 X own capN scope Z) elt te)
  (h1:Q2 scope own capN=true:=by decide +kernel) (h2:DG X.env capN=true:=by rfl) (hcap:zU X capN cap:=by rfl) (hc:X.calm=true:=by rfl) (hs:∀x,foldedSetIterable iter X.env x=pure x:=by intro _;rfl)
  (hsw:swapsWith (.ListComp elt [⟨tg,iter,ifs,0⟩] scope pos) (some (.Name x pos')) spos.line X.env=pure true:=by rfl) :
  PS X (.Assign [.Name x pos'] (.ListComp elt [⟨tg,iter,ifs,0⟩] scope pos) spos) (Mb (Fe wi own.length cap g tf te) (IW i)):=by
 intro pins s σ H D I h;rw[exec_Assign_Name_used _ _ _ _ hsw];refine wpAny_bind (wpAny_standAt (wpAny_bind ?_));rw[arm_evalThenUse_ListComp];refine wpAny_bind (DE (Q:=λv H1=>D.nx (σ.set i (some v)) H1) (use:=some _) hc (Bk.of h1 h2) hcap hi hg hf he hs I h λL C s' H' I' fC hm q=>?_);obtain ⟨m,hm⟩:=hm;obtain ⟨f0,f1,f2,f3,f4,f5⟩:=fC;refine wpAny_assign_Name (CN I' hN hi' (.inl hx) (v:=.ref L) rfl (λs'' I'' ⟨a,sb,ha⟩=>?_) (.inr hx))
 have hCa:C≠a:=by
  rcases ha with e | e
  ·rw[e];exact f1
  ·exact (f4 x a e).symm
 refine ⟨m,hm.at' λo e=>(sb.2 C hCa).trans e,λh' hs'=>?_⟩;have I3:=I''.turned (h':=h') (t':=s''.toks) (λb o hb e=>(hs'.2 b hb).trans e) f0 f1 f3 f4 f5;exact wpAny_pure (wpAny_pure ⟨_,H',I3,q⟩)
end
section
variable {K:FG9} {a:Addr} {xs:List V} {g:TG} {tf:TT} {te:TE} {Q:VK} {σ₀:St} {H:Hp}
theorem eH (Pv:Nat->List V->Hp->Prop) (hz:xs.length<=sizeLine) (h0:Pv 0 [] H) (hl:∀i ys H,i<=xs.length->Pv i ys H->bO K H a xs)
  (hs:∀i x ys H,xs[i]?=some x->ys.length<=i->Pv i ys H->qY σ₀ g tf te x H (λy H'=>Pv (i+1) (ys++[y]) H') (λH'=>Pv (i+1) ys H'))
  (hd:∀ys H,ys.length<=xs.length->Pv xs.length ys H->∀p,H p=none->Q (.ref p) (upd H p (.lst ys))):rJ (LW K a) σ₀ g tf te Q H:=by
 refine ⟨λi m ys H=>m=xs.length - i/\i<=xs.length/\ys.length<=i/\Pv i ys H,⟨xs.length,by simp,bo _,bo _,h0⟩,?_⟩;rintro i m ys H ⟨rfl,hi,hy,p⟩;have q:=hl i ys H hi p;by_cases hlt:i < xs.length
 ·refine .inr ⟨⟨xs,xs[i],q,by simp [hlt]⟩,by lia,λy H'=>Pv (i+1) (ys++[y]) H',λH'=>Pv (i+1) ys H',λy H' p'=>⟨xs.length - (i+1),by lia,rfl,hlt,by rw[av,be];lia,p'⟩,λH' p'=>⟨xs.length - (i+1),by lia,rfl,hlt,by lia,p'⟩,λx H' y=>?_⟩;obtain ⟨e,y⟩:=y;subst e;exact hs i x ys _ (y xs q) hy p
 ·have e:i=xs.length:=by lia
  subst e;exact .inl ⟨⟨xs,q,au _⟩,by lia,hd ys H hy p⟩
theorem LJ (Pv:Nat->List V->Hp->Prop) (hz:xs.length<=sizeLine) (h0:Pv 0 [] H) (hl:∀i ys H,i<=xs.length->Pv i ys H->kj K H a xs)
  (hs:∀i x ys H,xs[i]?=some x->ys.length<=i->Pv i ys H->qY σ₀ g tf te x H (λy H'=>Pv (i+1) (ys++[y]) H') (λH'=>Pv (i+1) ys H'))
  (hd:∀ys H,ys.length<=xs.length->Pv xs.length ys H->∀p,H p=none->Q (.ref p) (upd H p (.lst ys))):rJ (Nu K a) σ₀ g tf te Q H:=by
 refine ⟨λi m ys H=>m=xs.length - i/\i<=xs.length/\ys.length<=i/\Pv i ys H,⟨xs.length,by simp,bo _,bo _,h0⟩,?_⟩;rintro i m ys H ⟨rfl,hi,hy,p⟩;have q:=hl i ys H hi p;by_cases hlt:i < xs.length
 ·refine .inr ⟨⟨xs,xs[i],q,by simp [hlt]⟩,by lia,λy H'=>Pv (i+1) (ys++[y]) H',λH'=>Pv (i+1) ys H',λy H' p'=>⟨xs.length - (i+1),by lia,rfl,hlt,by rw[av,be];lia,p'⟩,λH' p'=>⟨xs.length - (i+1),by lia,rfl,hlt,by lia,p'⟩,λx H' y=>?_⟩;obtain ⟨e,y⟩:=y;subst e;exact hs i x ys _ (y xs q) hy p
 ·have e:i=xs.length:=by lia
  subst e;exact .inl ⟨⟨xs,q,au _⟩,by lia,hd ys H hy p⟩
theorem oS {lo:Int} {n:Nat} (Pv:Nat->List V->Hp->Prop) (hz:n<=sizeLine) (h0:Pv 0 [] H)
  (hs:∀i ys H,i < n->ys.length<=i->Pv i ys H->qY σ₀ g tf te (.int (lo+i)) H (λy H'=>Pv (i+1) (ys++[y]) H') (λH'=>Pv (i+1) ys H'))
  (hd:∀ys H,ys.length<=n->Pv n ys H->∀p,H p=none->Q (.ref p) (upd H p (.lst ys))):rJ (GD lo n) σ₀ g tf te Q H:=by
 refine ⟨λi m ys H=>m=n - i/\i<=n/\ys.length<=i/\Pv i ys H,⟨n,by simp,bo _,bo _,h0⟩,?_⟩;rintro i m ys H ⟨rfl,hi,hy,p⟩;by_cases hlt:i < n
 ·refine .inr ⟨hlt,by lia,λy H'=>Pv (i+1) (ys++[y]) H',λH'=>Pv (i+1) ys H',λy H' p'=>⟨n - (i+1),by lia,rfl,hlt,by rw[av,be];lia,p'⟩,λH' p'=>⟨n - (i+1),by lia,rfl,hlt,by lia,p'⟩,λx H' y=>?_⟩;obtain ⟨e,y⟩:=y;subst e y;exact hs i ys _ hlt hy p
 ·have e:i=n:=by lia
  subst e;exact .inl ⟨au _,by lia,hd ys H hy p⟩
end
open Nm
def fL (i j:Int):Prop:=Pl i j\/∃m n,Sz m i/\Sz n j/\m+n<=1000000
def rK (i j:Int):Prop:=j≠0/\Sz 8999 j
theorem BR {k:Nat} {i:Int} (h:Sz k i):Builtin.Int.intBits i<=k:=by
 unfold Builtin.Int.intBits;by_cases e:i=0
 ·subst e;simp
 ·have e':(i == 0)=false:=by simpa using e
  rw[e'];have hn:i.natAbs≠0:=by lia
  have:=(Nat.log2_lt hn).mpr h;simp only[jl,if_false]
  lia
theorem fL.ok {i j:Int} (h:fL i j):IntMulOk i j:=by
 rcases h with h | ⟨m,n,h1,h2,h3⟩
 ·exact h.ok
 ·have e:(2:Nat)^20=1048576:=by decide
  exact .of_bits (by have:=BR h1;lia) (by have:=BR h2;lia)
section
variable {X:Cx} {a b:Expr} {ta tb:TE} {pos:Pos}
theorem cS:zQ X (binaryOp .Mult) (rI fL λi j=>.int (i*j)):=QZ λ_ _ _ _ _ _ _ hc q=>mul_int q hc.ok
theorem iZ:zQ X (binaryOp .FloorDiv) (rI rK λi j=>.int (i.fdiv j)):=QZ λi j _ _ _ _ _ hc q=>by
 refine floordiv_int hc.1 q (.inl (PyProof.noPylong_of_log2 ?_));have hn:j.natAbs≠0:=by have:=hc.1;lia
 have:=(Nat.log2_lt hn).mpr hc.2
 lia
def PJ (t u:TS):TS:=λD σ H=>∃N:St->Hp->Prop,t { D with nx:=N } σ H/\∀σ' H',N σ' H'->u D σ' H'
theorem jK {st:Stmt} {rest:List Stmt} {t u:TS} (h1:PS X st t) (h2:Ik X rest u):Ik X (st :: rest) (PJ t u):=by
 intro pins s σ H D I h;obtain ⟨N,h,k⟩:=h;refine wpAny_execs_cons (gO (h1 pins s σ H { D with nx:=N } I h) λf s1 q=>?_);cases f with
 | next =>
  obtain ⟨σ',H',I',q⟩:=q;exact h2 pins s1 σ' H' D I' (k _ _ q)
 | ret v=>exact q
 | brk=>exact q
 | cont=>exact q
def NJ (K:FG9):V->V->Hp->VK->Prop:=λo i H Q=>∃p xs k v,o=.ref p/\i=.int k/\bO K H p xs/\Ia xs k=some v/\Q v H
theorem Ln:QK X (NJ X.K):=by
 intro pins s σ H o i ov iv Q I ro ri h;obtain ⟨p,xs,k,z,rfl,rfl,hq,he,q⟩:=h;cases ro;obtain ⟨t,rfl⟩:=ri;obtain ⟨its,r,pl,hz⟩:=I.list hq;obtain ⟨j,h1,h2,h3,h4,h5⟩:=EO he;obtain ⟨w,ew,rw'⟩:=r.get h2;have hl:=r.length;have hn:=BG;have fin:EP X pins σ Q w s:=⟨z,H,I,rw',q⟩;by_cases h0:0<=k
 ·have hj:k.toNat=j:=by
   rw[seqIndex_of h0 h5] at h1;exact bY h1
  exact wpAny_getItem_list pl.isList h0 (by lia) (by rw[hj];simpa using ew) fin
 ·have hj:(k+(its.toArray.size:Int)).toNat=j:=by
   rw[seqIndex_neg (by lia) h4] at h1;rw[aJ,<- hl];exact bY h1
  exact wpAny_getItem_list_neg pl.isList (by lia) (by rw[aJ] <;> lia) (by lia) (by rw[hj];simpa using ew) fin
def JA (K:FG9) (T:String):V->Hp->VK->Prop:=λx H Q=>∃t b,xo K H x t/\PySem.W.kitOne K t (.type T)=some b/\Q (.bl b) H
theorem ui {c:Str} {T:String} {p p2:Pos} (hg:Gl X "isinstance") (hm:X.mg "isinstance"=none) (hb:bootBuiltins c=some (.type T)) (hmc:X.mg c=none) (ha:PE X a ta) (hgc:Gl X c:=by rfl) (hn:c≠"__name__":=by decide)
  (hd:(c == ("__debug__":Str))=false:=by decide) (he:starEach [a,.Name c p2] X.env=[(false,eval a X.env),(false,eval (.Name c p2) X.env)]:=by rfl)
  (hpl:(backTo pos (starEach [.Name c p2] X.env)).any (·.1)=false:=by rfl) (he2:starEach [.Name c p2] X.env=[(false,eval (.Name c p2) X.env)]:=by rfl):PE X (.Call (.Name "isinstance" p) [a,.Name c p2] [] pos) (QY (JA X.K T) ta):=by
 intro pins s σ H Q I h;refine wpAny_Call_Name_kw (oR I hg hm PyProof.Rows.boot_isinstance ?_);have hA:PA X [a,.Name c p2] (t8 ta (t8 (tC (.ty T)) Jp)):=ae ha (ae (Ac hgc hmc hb rfl hn hd) aj he2) (by rw[he,he2])
 have hq:t8 ta (t8 (tC (.ty T)) Jp) σ H (λvs H1=>∃x,vs=[x,.ty T]/\JA X.K T x H1 Q):=by
  show ta σ H λx H1=>∃x',[x,V.ty T]=[x',V.ty T]/\JA X.K T x' H1 Q
  have e:(λx H1=>∃x',[x,V.ty T]=[x',V.ty T]/\JA X.K T x' H1 Q)=λx H1=>JA X.K T x H1 Q:=by
   funext x H1;apply propext;constructor
   ·rintro ⟨x',e,q⟩;cases e;exact q
   ·intro q;exact ⟨x,rfl,q⟩
  rw[e];exact h
 refine PyProof.Rows.callWith_builtin1 (gO (hA pos pins s σ H _ I hq) λus s1 ⟨vs,H1,I1,r1,x,e,q1⟩=>?_) (by rw[he,he2]) hpl;subst e;obtain ⟨u,w',rfl,ru,rt⟩:=vals2 r1;cases rt;obtain ⟨t,bb,ty,ek,q⟩:=q1;exact Dx I1 ru ty ek λtk=>⟨.bl bb,H1,I1.tok tk,rfl,q⟩
end
structure Kind (α:Type) [DecidableEq α] where
 R:FG9->Hp->V->α->Prop
 d:Nat
 inj:∀{X:Cx} {pins:List (Addr×Obj)} {σ:St} {H:Hp} {s:Shared} {x:V} {a b:α},Inv X pins σ H s->R X.K H x a->R X.K H x b->a=b
 rc:∀{X:Cx} {pins:List (Addr×Obj)} {σ:St} {H:Hp} {s:Shared} {x y:V} {v u:Value} {a b:α} {A:Around},Inv X pins σ H s->RelV x v->RelV y u->R X.K H x a->R X.K H y b->A.units+d < cLine->SeqAt.RcAt A s v u (decide (a=b))
 ne:∀{X:Cx} {pins:List (Addr×Obj)} {σ:St} {H:Hp} {s:Shared} {x y:V} {v u:Value} {a b:α} {A:Around},Inv X pins σ H s->RelV x v->RelV y u->R X.K H x a->R X.K H y b->A.units+d < cLine->SeqAt.RcNeAt A s v u (!decide (a=b))
 eq:∀{X:Cx} {pins:List (Addr×Obj)} {σ:St} {H:Hp} {s:Shared} {x y:V} {v u:Value} {a b:α} {A:Around},Inv X pins σ H s->RelV x v->RelV y u->R X.K H x a->R X.K H y b->A.units+d < cLine->SeqAt.EqAt A s v u (decide (a=b))
def M5:Kind Int where
 R:=λ_ _ x i=>x=.int i
 d:=0
 inj:=λ_ h1 h2=>by rw[h1] at h2;cases h2;rfl
 rc:=λ{X pins σ H s x y v u a b A} I rx ry h1 h2 _=>by
  subst h1 h2;obtain ⟨t,rfl⟩:=rx;obtain ⟨t',rfl⟩:=ry;have q:=SeqAt.RcAt.int_int (A:=A) (s:=s) a t b t';rwa [Cm] at q
 ne:=λ{X pins σ H s x y v u a b A} I rx ry h1 h2 _=>by
  subst h1 h2;obtain ⟨t,rfl⟩:=rx;obtain ⟨t',rfl⟩:=ry;have q:=SeqAt.RcNeAt.int_int (A:=A) (s:=s) a t b t';rwa [Cm] at q
 eq:=λ{X pins σ H s x y v u a b A} I rx ry h1 h2 _=>by
  subst h1 h2;obtain ⟨t,rfl⟩:=rx;obtain ⟨t',rfl⟩:=ry;have q:=SeqAt.EqAt.int_int (A:=A) (s:=s) a t b t';rwa [Cm] at q
theorem kO {α β:Type} {F:α->β->Prop}:∀{l1:List α} {l2:List β} {i:Nat} (_:Paired F l1 l2) (h1:i < l1.length) (h2:i < l2.length),F l1[i] l2[i]
 | _,_,_,.nil,h1,_=>absurd h1 (fg _)
 | _,_,0,.cons r _,_,_=>r
 | _,_,i+1,.cons _ t,h1,h2=>kO (i:=i) t (Nat.lt_of_succ_lt_succ h1) (Nat.lt_of_succ_lt_succ h2)
theorem oK {α β:Type} {F:α->β->Prop} (hF:∀a b x,F a x->F b x->a=b):∀{l1 l2:List α} {l:List β},Paired F l1 l->Paired F l2 l->l1=l2
 | _,_,_,.nil,.nil=>rfl
 | _,_,_,.cons r t,.cons r' t'=>by rw[hF _ _ _ r r',oK hF t t']
theorem yi {α:Type} [DecidableEq α] (as bs:List α) (h:as.length=bs.length):(List.range as.length).all (λj=>decide (as[j]?=bs[j]?))=decide (as=bs):=by
 rw[oi,rN,decide_eq_true_iff];constructor
 ·intro q;apply kx;intro i;by_cases hi:i < as.length
  ·exact of_decide_eq_true (q i (wM.mpr hi))
  ·rw[aW (by lia),aW (by lia)]
 ·rintro rfl i _;simp
section
variable {α:Type} [DecidableEq α] (k:Kind α)
theorem Kind.items {X:Cx} {pins:List (Addr×Obj)} {σ:St} {H:Hp} {s:Shared} {A:Around} (I:Inv X pins σ H s) (hA:A.units+k.d < cLine) {xs ys:List V} {us ws:List Value} {as bs:List α}
  (rx:cK xs us) (ry:cK ys ws) (ha:Paired (λa x=>k.R X.K H x a) as xs) (hb:Paired (λa x=>k.R X.K H x a) bs ys) :
  ∀j (h1:j < us.toArray.size) (h2:j < ws.toArray.size),SeqAt.EqAt A s us.toArray[j] ws.toArray[j] (decide (as[j]?=bs[j]?)):=λj h1 h2=>by
 have l1:j < us.length:=by simpa using h1
 have l2:j < ws.length:=by simpa using h2
 have e1:=rx.length;have e2:=ry.length;have e3:=ha.length;have e4:=hb.length;obtain ⟨u,hu,ru⟩:=rx.get (i:=j) (x:=xs[j]'(by lia)) (by simp);obtain ⟨w,hw,rw'⟩:=ry.get (i:=j) (x:=ys[j]'(by lia)) (by simp);have q:=k.eq (A:=A) I ru rw' (kO ha (by lia) (by lia)) (kO hb (by lia) (by lia)) hA
 have eu:us.toArray[j]=u:=by
  have:=hu;rw[af l1] at this;simpa using this
 have ew:ws.toArray[j]=w:=by
  have:=hw;rw[af l2] at this;simpa using this
 rw[eu,ew,af (show j < as.length by lia),af (show j < bs.length by lia)];have e5:decide (some as[j]=some bs[j])=decide (as[j]=bs[j]):=by simp
 rw[e5];exact q
theorem DX {α:Type} [DecidableEq α] (as bs:List α) {n m:Nat} (h1:as.length=n) (h2:bs.length=m):((List.range (min n m)).all (λj=>decide (as[j]?=bs[j]?)) && n == m)=decide (as=bs):=by
 subst h1 h2;by_cases e:as.length=bs.length
 ·rw[show min as.length bs.length=as.length by lia,yi as bs e];simp [e]
 ·have h1:(as.length == bs.length)=false:=by simpa using e
  rw[h1,Bool.and_false];exact (decide_eq_false λz=>e (by rw[z])).symm
def Ry:Kind (List α) where
 R:=λK H x as=>∃p xs,x=.ref p/\kj K H p xs/\Paired (λa x=>k.R K H x a) as xs
 d:=k.d+1
 inj:=λ{X pins σ H s x a b} I h1 h2=>by
  obtain ⟨p,xs,rfl,hp,pa⟩:=h1;obtain ⟨q,ys,e,hq,pb⟩:=h2;cases e;have e:=I.tuple_inj hp hq;subst e;exact oK (F:=λa x=>k.R X.K H x a) (λa b x=>k.inj I) pa pb
 rc:=λ{X pins σ H s x y v u a b A} I rx ry h1 h2 hA=>by
  obtain ⟨p,xs,rfl,hp,pa⟩:=h1;obtain ⟨q,ys,rfl,hq,pb⟩:=h2;cases rx;cases ry;obtain ⟨us,r1,t1,_⟩:=I.tuple hp;obtain ⟨ws,r2,t2,_⟩:=I.tuple hq;have z:=SeqAt.RcAt.tuples (A:=A) (e:=λj=>decide (a[j]?=b[j]?)) (show s.heap.IsTuple p us.toArray from t1) (show s.heap.IsTuple q ws.toArray from t2) (by lia) (k.items (A:=A.in1) I (by show A.units+1+k.d < cLine;lia) r1 r2 pa pb);rwa [DX a b (by rw[pa.length,r1.length];simp) (by rw[pb.length,r2.length];simp)] at z
 ne:=λ{X pins σ H s x y v u a b A} I rx ry h1 h2 hA=>by
  obtain ⟨p,xs,rfl,hp,pa⟩:=h1;obtain ⟨q,ys,rfl,hq,pb⟩:=h2;cases rx;cases ry;obtain ⟨us,r1,t1,_⟩:=I.tuple hp;obtain ⟨ws,r2,t2,_⟩:=I.tuple hq;have z:=SeqAt.RcNeAt.tuples (A:=A) (e:=λj=>decide (a[j]?=b[j]?)) (show s.heap.IsTuple p us.toArray from t1) (show s.heap.IsTuple q ws.toArray from t2) (by lia) (k.items (A:=A.in1) I (by show A.units+1+k.d < cLine;lia) r1 r2 pa pb);rwa [DX a b (by rw[pa.length,r1.length];simp) (by rw[pb.length,r2.length];simp)] at z
 eq:=λ{X pins σ H s x y v u a b A} I rx ry h1 h2 hA=>by
  obtain ⟨p,xs,rfl,hp,pa⟩:=h1;obtain ⟨q,ys,rfl,hq,pb⟩:=h2;cases rx;cases ry;by_cases e:p=q
  ·subst e;have e:=I.tuple_inj hp hq;subst e;rw[oK (F:=λa x=>k.R X.K H x a) (λa b x=>k.inj I) pa pb,decide_eq_true rfl];exact SeqAt.EqAt.same _
  ·obtain ⟨us,r1,t1,_⟩:=I.tuple hp;obtain ⟨ws,r2,t2,_⟩:=I.tuple hq;have z:=SeqAt.RcAt.tuples (A:=A) (e:=λj=>decide (a[j]?=b[j]?)) (show s.heap.IsTuple p us.toArray from t1) (show s.heap.IsTuple q ws.toArray from t2) (by lia) (k.items (A:=A.in1) I (by show A.units+1+k.d < cLine;lia) r1 r2 pa pb);rw[DX a b (by rw[pa.length,r1.length];simp) (by rw[pb.length,r2.length];simp)] at z;exact .of_refs e z
theorem HR {X:Cx} {pins:List (Addr×Obj)} {σ:St} {H:Hp} {s:Shared} {p q:Addr} {xs ys:List V} {a b:List α} {A:Around} (I:Inv X pins σ H s) (hp:bO X.K H p xs) (hq:bO X.K H q ys)
  (pa:Paired (λa x=>k.R X.K H x a) a xs) (pb:Paired (λa x=>k.R X.K H x a) b ys) (hA:A.units+(k.d+1) < cLine) :
  SeqAt.RcAt A s (.ref p) (.ref q) (decide (a=b))/\SeqAt.RcNeAt A s (.ref p) (.ref q) (!decide (a=b)):=by
 obtain ⟨us,r1,t1,_⟩:=I.list hp;obtain ⟨ws,r2,t2,_⟩:=I.list hq;have l1:=r1.length;have l2:=r2.length;have l3:=pa.length;have l4:=pb.length;by_cases e:us.length=ws.length
 ·have it:=k.items (A:=A.in1) I (by show A.units+1+k.d < cLine;lia) r1 r2 pa pb;have z:=SeqAt.RcAt.lists (A:=A) (e:=λj=>decide (a[j]?=b[j]?)) t1.isList t2.isList (by simpa using e) (by lia) it;have z2:=SeqAt.RcNeAt.lists (A:=A) (e:=λj=>decide (a[j]?=b[j]?)) t1.isList t2.isList (by simpa using e) (by lia) it;have e1:us.toArray.size=a.length:=by rw[aJ];lia
  rw[e1,yi a b (by lia)] at z z2;exact ⟨z,z2⟩
 ·have hne:¬a=b:=λz=>e (by have:=congrArg List.length z;lia)
  rw[decide_eq_false hne];exact ⟨SeqAt.RcAt.lists_lengths t1.isList t2.isList (by simpa using e) (by lia),SeqAt.RcNeAt.lists_lengths t1.isList t2.isList (by simpa using e) (by lia)⟩
def MZ:Kind (List α) where
 R:=λK H x as=>∃p xs,x=.ref p/\bO K H p xs/\Paired (λa x=>k.R K H x a) as xs
 d:=k.d+1
 inj:=λ{X pins σ H s x a b} I h1 h2=>by
  obtain ⟨p,xs,rfl,hp,pa⟩:=h1;obtain ⟨q,ys,e,hq,pb⟩:=h2;cases e;have e:=I.list_inj hp hq;subst e;exact oK (F:=λa x=>k.R X.K H x a) (λa b x=>k.inj I) pa pb
 rc:=λ{X pins σ H s x y v u a b A} I rx ry h1 h2 hA=>by
  obtain ⟨p,xs,rfl,hp,pa⟩:=h1;obtain ⟨q,ys,rfl,hq,pb⟩:=h2;cases rx;cases ry;exact (HR k I hp hq pa pb hA).1
 ne:=λ{X pins σ H s x y v u a b A} I rx ry h1 h2 hA=>by
  obtain ⟨p,xs,rfl,hp,pa⟩:=h1;obtain ⟨q,ys,rfl,hq,pb⟩:=h2;cases rx;cases ry;exact (HR k I hp hq pa pb hA).2
 eq:=λ{X pins σ H s x y v u a b A} I rx ry h1 h2 hA=>by
  obtain ⟨p,xs,rfl,hp,pa⟩:=h1;obtain ⟨q,ys,rfl,hq,pb⟩:=h2;cases rx;cases ry;by_cases e:p=q
  ·subst e;have e:=I.list_inj hp hq;subst e;rw[oK (F:=λa x=>k.R X.K H x a) (λa b x=>k.inj I) pa pb,decide_eq_true rfl];exact SeqAt.EqAt.same _
  ·exact .of_refs e (HR k I hp hq pa pb hA).1
def Kind.via {β:Type} [DecidableEq β] (f:β->α) (fi:∀a b,f a=f b->a=b) (R':FG9->Hp->V->β->Prop) (im:∀{K H x b},R' K H x b->k.R K H x (f b)):Kind β where
 R:=R'
 d:=k.d
 inj:=λI h1 h2=>fi _ _ (k.inj I (im h1) (im h2))
 rc:=λ{X pins σ H s x y v u a b A} I rx ry h1 h2 hA=>by
  have z:=k.rc (A:=A) I rx ry (im h1) (im h2) hA;rwa [decide_eq_decide.mpr (show f a=f b↔a=b from ⟨fi a b,λe=>by rw[e]⟩)] at z
 ne:=λ{X pins σ H s x y v u a b A} I rx ry h1 h2 hA=>by
  have z:=k.ne (A:=A) I rx ry (im h1) (im h2) hA;rwa [decide_eq_decide.mpr (show f a=f b↔a=b from ⟨fi a b,λe=>by rw[e]⟩)] at z
 eq:=λ{X pins σ H s x y v u a b A} I rx ry h1 h2 hA=>by
  have z:=k.eq (A:=A) I rx ry (im h1) (im h2) hA;rwa [decide_eq_decide.mpr (show f a=f b↔a=b from ⟨fi a b,λe=>by rw[e]⟩)] at z
end
def yE (K:FG9) (H:Hp) (x:V) (n:Int×Int):Prop:=∃p,x=.ref p/\kj K H p [.int n.1,.int n.2]
def Qu:Kind (Int×Int):=(Ry M5).via (λn=>[n.1,n.2]) (λa b e=>by cases a;cases b;simp at e;rw[e.1,e.2]) yE λ⟨p,e,h⟩=>⟨p,_,e,h,.cons rfl (.cons rfl .nil)⟩
def Rj (K:FG9):R2:=λx y H Q=>∃(α:Type) (_:DecidableEq α) (k:Kind α) (a b:α),k.d<=50/\k.R K H x a/\k.R K H y b/\Q (.bl (decide (a=b))) H
def Qn (K:FG9):R2:=λx y H Q=>∃(α:Type) (_:DecidableEq α) (k:Kind α) (a b:α),k.d<=50/\k.R K H x a/\k.R K H y b/\Q (.bl (!decide (a=b))) H
theorem KQ {X:Cx} (hu:X.A.units+50 < cLine):zQ X (compareOp .Eq) (Rj X.K):=by
 intro pins s σ H x y v u Q I rx ry h;obtain ⟨α,_,k,a,b,hd,ha,hb,q⟩:=h;exact k.rc (A:=X.A) I rx ry ha hb (by lia) _ _ _ _ ⟨.bl (decide (a=b)),H,I,rfl,q⟩
theorem A0 {X:Cx} (hu:X.A.units+50 < cLine):zQ X (compareOp .NotEq) (Qn X.K):=by
 intro pins s σ H x y v u Q I rx ry h;obtain ⟨α,_,k,a,b,hd,ha,hb,q⟩:=h;exact k.ne (A:=X.A) I rx ry ha hb (by lia) _ _ _ _ ⟨.bl (!decide (a=b)),H,I,rfl,q⟩
theorem Ge {A:Around} {k:Nat} (hr:nX k A):A.units+50 < cLine:=by have:=hr.units;lia
def Inner (H:Hp) (p q:Addr):Prop:=∃a b c:Int,H p=some (.lst [.int a,.int b,.int c,.ref q])
def cO (p:Addr) (H H':Hp):Prop:=(∀b o,H b=some o->b≠p->H' b=some o)/\∀q,Inner H p q->Inner H' p q
theorem cO.refl {p:Addr} (H:Hp):cO p H H:=⟨λ_ _ h _=>h,λ_ h=>h⟩
theorem cO.trans {p:Addr} {H H1 H2:Hp} (a:cO p H H1) (b:cO p H1 H2):cO p H H2:=⟨λc o h n=>b.1 c o (a.1 c o h n) n,λq h=>b.2 q (a.2 q h)⟩
theorem Inner.inj {H:Hp} {p q q':Addr} (h:Inner H p q) (h':Inner H p q'):q=q':=by
 obtain ⟨a,b,c,e⟩:=h;obtain ⟨a',b',c',e'⟩:=h';rw[e] at e';have:=HO.lst.inj (bY e');simp at this;exact this.2.2.2
theorem cO.set {p q:Addr} {H:Hp} {a b c a' b' c':Int} (h:H p=some (.lst [.int a,.int b,.int c,.ref q])):cO p H (upd H p (.lst [.int a',.int b',.int c',.ref q])) :=
 ⟨λb u h n=>by rw[bF n];exact h,λq' h'=>by
  rw[(Inner.inj ⟨a,b,c,h⟩ h').symm];exact ⟨a',b',c',aI⟩⟩
theorem aG.upto {p:Addr} {H H':Hp} (h:aG H H'):cO p H H':=⟨λb o e _=>h b o e,λq ⟨a,b,c,e⟩=>⟨a,b,c,h _ _ e⟩⟩
theorem aG.new {H:Hp} {p:Addr} {o:HO} (h:H p=Option.none):aG H (upd H p o):=λb u e=>by rw[bF (fj e h)];exact e
theorem aG.sqt {K:FG9} {H H':Hp} {a:Addr} {xs:List V} (e:aG H H') (h:kj K H a xs):kj K H' a xs:=by
 rcases h with (h | ⟨o,h⟩) | h
 ·exact .inl (.inl (e _ _ h))
 ·exact .inl (.inr ⟨o,e _ _ h⟩)
 ·exact .inr h
theorem aG.num {K:FG9} {H H':Hp} {x:V} {n:Int×Int} (e:aG H H') (h:yE K H x n):yE K H' x n:=by obtain ⟨p,q,r⟩:=h;exact ⟨p,q,e.sqt r⟩
section
variable {σ:St} {H:Hp} {D:Ends}
theorem aP {t:TS} {σ0 σ:St} {D:Ends} {H:Hp} (e:σ0=σ) (h:t D σ H):t D σ0 H:=by rw[e];exact h
theorem Ou {t u:TS} (h:t { D with nx:=u D } σ H):PK t u D σ H:=h
theorem Mu (h:D.nx σ H):Ny D σ H:=h
theorem OH {te:TE} {g:TG} (h:te σ H λx H1=>g x σ H1 D.nx):Mb te g D σ H:=h
theorem KE {i:Nat} {v:V} {Q:St->Hp->Prop} (h:Q (σ.set i (some v)) H):IW i v σ H Q:=h
theorem Ov {te:TE} (h:te σ H D.rt):PL te D σ H:=h
theorem OC {c:TT} {t u:TS} (h:c σ H λb H1=>if b=true then t D σ H1 else u D σ H1):PV c t u D σ H:=h
theorem MD {te:TE} (h:te σ H λ_ H1=>D.nx σ H1):NA te D σ H:=h
theorem Ow {i j:Nat} {ta:TA} (h:ta σ H λvs H1=>∃v w,vs=[v,w]/\D.nx ((σ.set i (some v)).set j (some w)) H1):PM i j ta D σ H:=h
theorem MH {to ti te:TE} {tget:V->V->Hp->VK->Prop} {tip:QG} {tset:Ie}
  (h:to σ H λo H1=>ti σ H1 λi H2=>tget o i H2 λx H3=>te σ H3 λy H4=>tip x y H4 λz H5=>tset o i z H5 λH6=>D.nx σ H6):NB to ti te tget tip tset D σ H:=h
theorem OB {f:Int->Int->Int} {i j:Int} {Q:VK} (h:Q (.int (f i j)) H):ipI f (.int i) (.int j) H Q:=⟨i,j,rfl,rfl,h⟩
theorem OE {wi:TI} {g:TG} {tb:TS} (h:wi σ H λJ H1=>∃W:Nat->Nat->St->Hp->Prop,(∃m,W 0 m σ H1)/\∀i m σ H,W i m σ H →
  (J.stop i H/\D.nx σ H)\/(J.go i H/\∃N:St->Hp->Prop,(∀σ' H',N σ' H'->∃m',m' < m/\W (i+1) m' σ' H')/\∀x H',J.yld i H x H'->g x σ H' λσ2 H2=>tb { D with nx:=N,ct:=N,bk:=D.nx } σ2 H2)):PX wi g tb D σ H:=h
variable {Q:VK} {QA:List V->Hp->Prop} {QB:Bool->Hp->Prop}
theorem Oo {i:Nat} {v:V} (e:σ[i]?=some (some v)) (h:Q v H):Og i σ H Q:=⟨v,e,h⟩
theorem Rh {v:V} (h:Q v H):tC v σ H Q:=h
theorem Qh {r:R2} {ta tb:TE} (h:ta σ H λx H1=>tb σ H1 λy H2=>r x y H2 Q):PN r ta tb σ H Q:=h
theorem Qc {r:V->Hp->VK->Prop} {ta:TE} (h:ta σ H λx H1=>r x H1 Q):QY r ta σ H Q:=h
theorem Qk {g:Int->Int->V} {i j:Int} (h:Q (g i j) H):MK g (.int i) (.int j) H Q:=⟨i,j,rfl,rfl,h⟩
theorem fD {C:Int->Int->Prop} {g:Int->Int->V} {i j:Int} (hc:C i j) (h:Q (g i j) H):rI C g (.int i) (.int j) H Q:=⟨i,j,rfl,rfl,hc,h⟩
theorem Ri {g:Int->V} {i:Int} (h:Q (g i) H):rU g (.int i) H Q:=⟨i,rfl,h⟩
theorem OG {i j:Int} (h:Q (.bl (decide (i=j))) H):rEq (.int i) (.int j) H Q:=⟨rfl,by
 have e:decide (V.int i=V.int j)=decide (i=j):=by simp
 rw[e];exact h⟩
theorem Oz {i j:Int} (h:Q (.bl (!decide (i=j))) H):rNe (.int i) (.int j) H Q:=⟨rfl,by
 have e:decide (V.int i=V.int j)=decide (i=j):=by simp
 rw[e];exact h⟩
theorem Mp {t:TE} (h:t σ H λx H'=>∃k,x=.bl k/\QB k H'):Nv t σ H QB:=h
theorem Qd {t:TE} (h:t σ H λx H'=>∃k,x=.bl k/\QB k H'):tB t σ H QB:=h
theorem OI {t u:TT} (h:t σ H λc H1=>if c=true then u σ H1 QB else QB false H1):PY t u σ H QB:=h
theorem Qg {t u:TT} (h:t σ H λc H1=>if c=true then QB true H1 else u σ H1 QB):tOr t u σ H QB:=h
theorem Ox {t:TT} (h:t σ H λc H1=>QB (!c) H1):PR t σ H QB:=h
theorem MI {t u:TE} (h:t σ H λx H1=>∃c,x=.bl c/\if c=true then u σ H1 Q else Q (.bl false) H1):ND t u σ H Q:=h
theorem Mt {t:TE} (h:t σ H λx H1=>∃c,x=.bl c/\Q (.bl (!c)) H1):Nx t σ H Q:=h
theorem OD {c:TT} {ta tb:TE} (h:c σ H λb H1=>if b=true then ta σ H1 Q else tb σ H1 Q):tIf c ta tb σ H Q:=h
theorem Om (h:QB true H):PB σ H QB:=h
theorem Oy (h:QA [] H):Jp σ H QA:=h
theorem ME {ta:TE} {tr:TA} (h:ta σ H λx H1=>tr σ H1 λxs H2=>QA (x :: xs) H2):t8 ta tr σ H QA:=h
theorem MG {sp:Sp} {E:XK} {t:TA} (h:t σ H λvs H1=>sp vs H1 Q E):Ki sp [] E t σ H Q:=by
 have e:(λvs H1=>sp (vs++[]) H1 Q E)=λvs H1=>sp vs H1 Q E:=by funext vs H1;rw[Ci]
 show t σ H λvs H1=>sp (vs++[]) H1 Q E
 rw[e];exact h
theorem Qi {r:List V->Hp->VK->Prop} {t:TA} (h:t σ H λvs H1=>r vs H1 Q):Q9 r t σ H Q:=h
theorem Ho {K:FG9} {p:Addr} {xs:List V} {i:Int} {v:V} (hx:kj K H p xs) (e:Ia xs i=some v) (h:Q v H):OK K (.ref p) (.int i) H Q:=⟨p,xs,i,v,rfl,rfl,hx,e,h⟩
theorem cz {K:FG9} {p:Addr} {xs:List V} {i:Int} (hx:bO K H p xs) {v:V} (e:Ia xs i=some v) (h:Q v H):OL K (.ref p) (.int i) H Q:=⟨p,xs,i,v,rfl,rfl,hx,e,h⟩
theorem MC {K:FG9} {p:Addr} {xs:List V} {i:Int} (hx:bO K H p xs) {v:V} (e:Ia xs i=some v) (h:Q v H):NJ K (.ref p) (.int i) H Q:=⟨p,xs,i,v,rfl,rfl,hx,e,h⟩
theorem eY {QH:Hp->Prop} {p:Addr} {xs:List V} {i:Int} {v:V} {j:Nat} {ys:List V} (hx:H p=some (.lst xs)) (e:J6 xs.length i=some j) (ey:xs.set j v=ys) (h:QH (upd H p (.lst ys))):NI (.ref p) (.int i) v H QH:=⟨p,xs,i,j,rfl,rfl,hx,e,by rw[ey];exact h⟩
theorem Mz {to ti:TE} {t:Ie} {v:V} {QS:St->Hp->Prop} (h:to σ H λo H1=>ti σ H1 λi H2=>t o i v H2 λH3=>QS σ H3):QC to ti t v σ H QS:=h
theorem KG {t:TG} {u:LU} {v:V} {r:List V} {QS:St->Hp->Prop} (h:t v σ H λσ' H'=>u r σ' H' QS):NV t u (v :: r) σ H QS:=⟨v,r,rfl,h⟩
theorem MB {QS:St->Hp->Prop} (h:QS σ H):QD [] σ H QS:=⟨rfl,h⟩
theorem My {K:FG9} {n:Nat} {t:LU} {a:Addr} {xs:List V} {QS:St->Hp->Prop} (hx:kj K H a xs) (hl:xs.length=n) (h:t xs σ H QS):O4 K n t (.ref a) σ H QS:=⟨a,xs,rfl,hx,hl,h⟩
theorem Qf {r:V->Option Int->Option Int->Hp->VK->Prop} {te:TE} {tl th:TO} (h:te σ H λx H1=>tl σ H1 λl H2=>th σ H2 λu H3=>r x l u H3 Q):tSl r te tl th σ H Q:=h
theorem Jy {QO:Option Int->Hp->Prop} (h:QO none H):Ip σ H QO:=h
theorem Ms {t:TE} {QO:Option Int->Hp->Prop} (h:t σ H λx H1=>∃i,x=.int i/\QO (some i) H1):Nw t σ H QO:=h
variable {R:It->Hp->Prop} {K:FG9}
theorem KC {tl:TE} (h:tl σ H λx H1=>∃a,x=.ref a/\(∃xs,bO K H1 a xs)/\R (LW K a) H1):Lk K tl σ H R:=h
theorem Mx {tl:TE} (h:tl σ H λx H1=>∃a,x=.ref a/\(∃xs,kj K H1 a xs)/\R (Nu K a) H1):Qy K tl σ H R:=h
theorem KA {ta:TA} (h:ta σ H λvs H1=>∃j:Int,vs=[.int j]/\-(2^62)<=j/\j < 2^62/\R (GD 0 j.toNat) H1):NR ta σ H R:=h
theorem Kz {ta:TA} (h:ta σ H λvs H1=>∃i j:Int,vs=[.int i,.int j]/\(-(2^62)<=i/\i < 2^62/\-(2^62)<=j/\j < 2^62)/\R (GD i (j - i).toNat) H1):NQ ta σ H R:=h
theorem MF {wi:TI} {k:Nat} {cap:List Nat} {g:TG} {tf:TT} {te:TE} {σ₀:St} (e:J5 k cap σ=σ₀) (h:wi σ H λJ H1=>rJ J σ₀ g tf te Q H1):Fe wi k cap g tf te σ H Q:=by
 unfold Fe;rw[e];exact h
theorem Mo {g:TG} {tf:TT} {te:TE} {x:V} {NY:V->Hp->Prop} {NN:Hp->Prop} (h:g x σ H λσ2 H2=>tf σ2 H2 λb H3=>if b=true then te σ2 H3 NY else NN H3):qY σ g tf te x H NY NN:=h
theorem Qj {T:String} {r:V->List V->Hp->VK->Prop} {to:TE} {t:TA} (h:to σ H λx H1=>Q8 K T x H1/\t σ H1 λxs H2=>r x xs H2 Q):tBM K T r to t σ H Q:=h
def QM (Q:VK) (xs:List V) (H:Hp):Prop:=xs.length<=sizeLine/\∀p,H p=none->Q (.ref p) (upd H p (.tup xs))
def QN (Q:VK) (xs:List V) (H:Hp):Prop:=xs.length<=sizeLine/\∀p,H p=none->Q (.ref p) (upd H p (.lst xs))
theorem Oq {t:TA} (h:t σ H (QM Q)):PH t σ H Q:=h
theorem OA {t:TA} (h:t σ H (QN Q)):PU t σ H Q:=h
theorem jU {n:Nat} (h:Nat.ble n 1000=true):n<=sizeLine:=bg (bN (Nat.le_of_ble_eq_true h))
theorem cv {xs:List V} (h:∀p H',aG H H'->H' p=some (.tup xs)->Q (.ref p) H') (hl:Nat.ble xs.length 1000=true:=by rfl):QM Q xs H :=
 ⟨jU hl,λp hp=>h p _ (aG.new hp) aI⟩
theorem dI {xs:List V} (h:∀p H',aG H H'->H p=none->H' p=some (.lst xs)->Q (.ref p) H') (hl:Nat.ble xs.length 1000=true:=by rfl):QN Q xs H :=
 ⟨jU hl,λp hp=>h p _ (aG.new hp) hp aI⟩
theorem Qw {A B:Prop} (h:B):if (!true)=true then A else B:=Lf h
theorem Qx {A B:Prop} (h:A):if (!false)=true then A else B:=Qv h
def WB (tb:TS) (D:Ends) (Pv:St->Hp->Prop) (μ:St->Hp->Nat) (n:Nat) (σ:St) (H:Hp):Prop:=∃N:St->Hp->Prop,(∀σ' H',N σ' H'->∃m',m' < n/\(m'=μ σ' H'/\Pv σ' H'))/\tb { D with nx:=N,ct:=N,bk:=D.nx } σ H
theorem NH {tb:TS} {Pv:St->Hp->Prop} {μ:St->Hp->Nat} {n:Nat} (h:tb { D with nx:=λσ' H'=>Pv σ' H'/\μ σ' H' < n,ct:=λσ' H'=>Pv σ' H'/\μ σ' H' < n,bk:=D.nx } σ H):WB tb D Pv μ n σ H :=
 ⟨_,λσ' H' ⟨p,l⟩=>⟨_,l,rfl,p⟩,h⟩
theorem DV {c:TT} {tb:TS} (Pv:St->Hp->Prop) (μ:St->Hp->Nat) (h0:Pv σ H) (hs:∀σ H,Pv σ H->c σ H λb H1=>if b=true then WB tb D Pv μ (μ σ H) σ H1 else D.nx σ H1):Kh c tb D σ H:=by
 refine ⟨λm σ H=>m=μ σ H/\Pv σ H,⟨_,rfl,h0⟩,?_⟩;rintro m σ H ⟨rfl,p⟩;exact hs σ H p
end
def iV (H:Hp) (p:Addr):Prop:=∃(q:Addr) (a b c:Int) (cs:List Int),H p=some (.lst [.int a,.int b,.int c,.ref q])/\H q=some (.lst (cs.map V.int))/\0<=a/\0<=c/\c<=(cs.length:Int)/\∀x∈cs,(0:Int)<=x
theorem JZ {H:Hp} {p q:Addr} {a b c:Int} {cs:List Int} (hp:H p=some (.lst [.int a,.int b,.int c,.ref q])) (hq:H q=some (.lst (cs.map V.int))):q≠p:=λe=>by
 rw[e,hp] at hq;have h:=HO.lst.inj (bY hq);cases cs with
 | nil=>cases h
 | cons x1 cs=>cases cs with
  | nil=>cases h
  | cons x2 cs=>cases cs with
   | nil=>cases h
   | cons x3 cs=>cases cs with
    | nil=>cases h
    | cons x4 cs=>simp at h
theorem iV.same {H H':Hp} {p:Addr} (h:iV H p) (e:aG H H'):iV H' p:=by obtain ⟨q,a,b,c,cs,h1,h2,r⟩:=h;exact ⟨q,a,b,c,cs,e _ _ h1,e _ _ h2,r⟩
theorem cO.tup {H H':Hp} {p r:Addr} {xs:List V} (u:cO p H H') (B:iV H p) (h:H r=some (.tup xs)):H' r=some (.tup xs):=by
 obtain ⟨q,a,b,c,cs,h1,_⟩:=B;exact u.1 r _ h λe=>by rw[e,h1] at h;cases h
theorem cO.other {H H':Hp} {p r:Addr} {o:HO} (u:cO p H H') (n:r≠p) (h:H r=some o):H' r=some o:=u.1 r _ h n
theorem iV.inner {H:Hp} {p:Addr} (h:iV H p):∃q,Inner H p q/\∃xs,H q=some (.lst xs):=by obtain ⟨q,a,b,c,cs,h1,h2,_⟩:=h;exact ⟨q,⟨a,b,c,h1⟩,_,h2⟩
theorem iV.upd {H:Hp} {p q r:Addr} {o:HO} (h:iV H p) (hi:Inner H p q) (n1:r≠p) (n2:r≠q):iV (L2.upd H r o) p:=by
 obtain ⟨q',a,b,c,cs,h1,h2,z⟩:=h;have e:q'=q:=Inner.inj ⟨a,b,c,h1⟩ hi;subst e;exact ⟨q',a,b,c,cs,by rw[bF n1.symm];exact h1,by rw[bF n2.symm];exact h2,z⟩
theorem Inner.upd {H:Hp} {p q r:Addr} {o:HO} (hi:Inner H p q) (n1:r≠p):Inner (L2.upd H r o) p q:=by obtain ⟨a,b,c,h⟩:=hi;exact ⟨a,b,c,by rw[bF n1.symm];exact h⟩
def Mh:Sp:=λvs H Q _=>∃p n,vs=[.ref p,.int n]/\iV H p/\0 < n/\n < 2^64/\∀v H',0<=v->v < n->iV H' p->cO p H H'->Q (.int v) H'
inductive Ks (K:FG9) (vs:List V) (H:Hp) (Q:VK) (E9:XK):Prop
 | mk (a:Addr) (ns:List Int):vs=[.ref a]->bO K H a (ns.map V.int)->ns.length<=63->(∀p H',H p=none->iV H' p->aG H H'->Q (.ref p) H')->Ks K vs H Q E9
inductive AG (K:FG9) (vs:List V) (H:Hp) (Q:VK) (E9:XK):Prop
 | mk (a:Addr) (ns:List Int):vs=[.ref a]->bO K H a (ns.map V.int)->ns.length<=63->(∀H',Q (.bl true) H')->AG K vs H Q E9
def Oj:Sp:=λvs H Q _=>∃t b,vs=[.int t,.int b]/\0 < b/\Sz 8999 b/\∀r H',aG H H'->H' r=some (.tup [.int (lo t b),.int (hi t b)])->Q (.ref r) H'
def P0:Sp:=λvs H Q _=>∃a b,vs=[.int a,.int b]/\Q (.int (g a b)) H
def Js:Sp:=λvs H Q _=>∃t b,vs=[.int t,.int b]/\b≠0/\Sz 8999 b/\∀r H',aG H H'->H' r=some (.tup [.int (lo (if b < 0 then -t else t) (if b < 0 then -b else b)),.int (hi (if b < 0 then -t else t) (if b < 0 then -b else b))])->Q (.ref r) H'
def NW (a b c d:Int):Int:=a*d+c*b
def Ly (a b c d:Int):Int:=a*d - c*b
def Lx (a _b c _d:Int):Int:=a*c
def Iz (K:FG9) (f:Int->Int->Int->Int->Int):Sp:=λvs H Q _=>∃p q a b c d,vs=[.ref p,.ref q]/\kj K H p [.int a,.int b]/\kj K H q [.int c,.int d]/\0 < b/\0 < d/\Sz 4000 a/\Sz 4000 b/\Sz 4000 c/\Sz 4000 d /\
 ∀r H',aG H H'->H' r=some (.tup [.int (lo (f a b c d) (b*d)),.int (hi (f a b c d) (b*d))])->Q (.ref r) H'
def Mj (K:FG9):Sp:=λvs H Q _=>∃p q a b c d,vs=[.ref p,.ref q]/\kj K H p [.int a,.int b]/\kj K H q [.int c,.int d]/\0 < b/\0 < d/\c≠0/\Sz 4000 a/\Sz 4000 b/\Sz 4000 c/\Sz 4000 d /\
 ∀r H',aG H H'->H' r=some (.tup [.int (lo (if c < 0 then 0 - a*d else a*d) (if c < 0 then 0 - b*c else b*c)),.int (hi (if c < 0 then 0 - a*d else a*d) (if c < 0 then 0 - b*c else b*c))])->Q (.ref r) H'
theorem cM {α β:Type} {F:α->β->Prop}:∀{l1 l1':List α} {l2 l2':List β},Paired F l1 l2->Paired F l1' l2'->Paired F (l1++l1') (l2++l2')
 | _,_,_,_,.nil,h=>h
 | _,_,_,_,.cons r t,h=>.cons r (cM t h)
theorem dc {h:Heap} {a b:Addr} {o u:Obj} (ha:h.get? a=some o) (hb:h.get? b=some u) (hc:o.cls≠u.cls):a≠b:=λe=>by
 subst e;rw[ha] at hb;cases hb;exact hc rfl
theorem oC {a b:String} (h:a≠b):Value.type a≠Value.type b:=λe=>h (by injection e)
theorem CJ {h:Heap} {z TI TO i1 i2 l1 l2:Addr} {f0 a b:Value} {k1 k2:Nat} {xs ys:Array Value} (hz:IsZip h z TI TO f0) (hTI:IsPair h TI (.ref i1) (.ref i2)) (hTO:IsPair h TO a b)
  (h1:h.IsListIter i1 l1 k1) (h2:h.IsListIter i2 l2 k2) (hl1:h.IsList l1 xs) (hl2:h.IsList l2 ys) (hT:TI≠TO) (hi:i1≠i2):ZipApart z TI TO i1 i2 l1 l2:=by
 obtain ⟨o1,g1,c1,_⟩:=h1;obtain ⟨o2,g2,c2,_⟩:=h2;obtain ⟨p1,q1,d1,_⟩:=hl1;obtain ⟨p2,q2,d2,_⟩:=hl2;refine ⟨dc hTI hz ?_,dc hTO hz ?_,dc g1 hz ?_,dc g2 hz ?_,hT,dc hTI g1 ?_,dc hTI g2 ?_,dc hTO g1 ?_,dc hTO g2 ?_,hi,dc q1 hz ?_,dc q1 hTO ?_,dc q1 g1 ?_,dc q1 g2 ?_,dc q2 hz ?_,dc q2 hTO ?_,dc q2 g1 ?_,dc q2 g2 ?_⟩
 all_goals first
  | (rw[d1];first | (rw[c1];exact oC (by decide)) | (rw[c2];exact oC (by decide)) | exact oC (by decide))
  | (rw[d2];first | (rw[c1];exact oC (by decide)) | (rw[c2];exact oC (by decide)) | exact oC (by decide))
  | (rw[c1];exact oC (by decide))
  | (rw[c2];exact oC (by decide))
  | exact oC (by decide)
def Pg (K : FG9) (l1 l2 : Addr) : It :=
  ⟨λi H => ∃ xs ys x y, bO K H l1 xs /\ bO K H l2 ys /\ xs[i]? = some x /\ ys[i]? = some y,
   λi H v H' => ∃ p x y, v = .ref p /\ H p = none /\ H' = upd H p (.tup [x, y]) /\ (∀ xs, bO K H l1 xs → xs[i]? = some x) /\ ∀ ys, bO K H l2 ys → ys[i]? = some y,
   λi H => ∃ xs ys, bO K H l1 xs /\ bO K H l2 ys /\ (xs.length ≤ i \/ ys.length ≤ i)⟩
def tnZ (z TI TO i1 i2 l1 l2:Addr) (i:Nat) (h:Heap):Prop:=IsZip h z TI TO .none/\IsPair h TI (.ref i1) (.ref i2)/\(∃a b,IsPair h TO a b)/\h.IsListIter i1 l1 i/\h.IsListIter i2 l2 i
theorem Kf {P:Program} {w:World} {K:FG9} {elts:List Expr} {kk:Nat} {tpos:Pos} (z TI TO i1 i2 l1 l2:Addr) (hT:TI≠TO) (hi:i1≠i2):Turn P w K (.Tuple elts kk tpos) (Pg K l1 l2) [z,TI,TO,i1,i2] z (tnZ z TI TO i1 i2 l1 l2) where
 mem:=by simp
 obj:=λi h st b hb=>by
  obtain ⟨hz,hTI,⟨a,c,hTO⟩,⟨o1,g1,c1,d1⟩,⟨o2,g2,c2,d2⟩⟩:=st;simp only[aE,aM,or_false] at hb;rcases hb with rfl | rfl | rfl | rfl | rfl
  ·exact ⟨_,hz,λv q=>nomatch q⟩
  ·exact ⟨_,hTI,λv q=>nomatch q⟩
  ·exact ⟨_,hTO,λv q=>nomatch q⟩
  ·exact ⟨o1,g1,λv q=>by rw[d1] at q;cases q⟩
  ·exact ⟨o2,g2,λv q=>by rw[d2] at q;cases q⟩
 keep:=λi h h' st k=>by
  obtain ⟨hz,hTI,⟨a,c,hTO⟩,h1,h2⟩:=st;exact ⟨k z (by simp) _ hz,k TI (by simp) _ hTI,⟨a,c,k TO (by simp) _ hTO⟩,h1.at λo e=>k i1 (by simp) o e,h2.at λo e=>k i2 (by simp) o e⟩
 item:=by
  intro X hP hw hK hc i pins s σ H E I hf st hg;subst hP hw hK;obtain ⟨hz,hTI,⟨a,c,hTO⟩,h1,h2⟩:=st;obtain ⟨xs,ys,x,y,qx,qy,ex,ey⟩:=hg;obtain ⟨us,rx,px,_⟩:=I.list qx;obtain ⟨ws,ry,py,_⟩:=I.list qy;obtain ⟨u,eu,ru⟩:=rx.get ex;obtain ⟨v,ev,rv⟩:=ry.get ey;have D:=CJ hz hTI hTO h1 h2 px.isList py.isList hT hi;refine wpAny_pyNext_zip_item D hz hTI hTO h1 h2 px.isList py.isList (x:=u) (y:=v) (by simpa using eu) (by simpa using ev) λh' a1 a2 a3 a4 a5 a6 hk=>?_
  refine ⟨_,rfl,wpAny_letOwnedTupleGo_zip a1 λh'' hz'' hs=>?_⟩;have hT0:H s.heap.objs.size=none:=I.hok.fresh (au _);have zne:s.heap.objs.size≠z:=Jl (Heap.lt_size hz)
  have up:∀b o,b∉[z,TO,i1,i2]->s.heap.get? b=some o->h''.get? b=some o:=λb o hb e=>by
   simp only[aE,aM,or_false,not_or] at hb;exact (hs.2 b hb.1).trans (hk b o hb.1 hb.2.1 hb.2.2.1 hb.2.2.2 e)
  have fx:∀b∈[z,TO,i1,i2],kU X pins H b:=λb hb=>hf b (by
   simp only[aE,aM,or_false] at hb ⊢;rcases hb with rfl | rfl | rfl | rfl <;> simp)
  have nx:∀b o,H b=some o->b∉[z,TO,i1,i2]:=λb o e hb=>by
   have:=(fx b hb).1;rw[this] at e;cases e
  have nT:∀{b:Addr} {o:HO},H b=some o->b≠s.heap.objs.size:=λe q=>by rw[q,hT0] at e;cases e
  have tup:h''.get? s.heap.objs.size=some { cls:=.type "tuple",data:=.seq #[u,v] }:=(hs.2 _ zne).trans a5
  have I2:Inv X pins σ (upd H s.heap.objs.size (.tup [x,y])) { s with heap:=h'' }:=by
   refine I.step (g':=s.gens) (d':=s.drawn) (t':=s.toks) (ch:=[z,TO,i1,i2]) (λb hb=>?_) (λb o _ _ hb e _=>up b o hb e) (λb o _ _ hb e _=>⟨o.slots,up b o hb e⟩) (λb o hb e n=>?_)
    (λb o hb e=>⟨o,up b o hb e⟩) (λb q e=>by rw[bF (nT e)];exact e) (λb o q e=>by rw[bF (nT e)];exact e) (λb q e=>⟨#[],by rw[bF (nT e),e];simp⟩) (λm hm=>?_) (λb o e=>?_) I.bare
   ·obtain ⟨_,f1,_,f3,f4,f5⟩:=fx b hb;exact ⟨f3,f1,f4,f5⟩
   ·rw[bF (cG (Heap.lt_size e))];exact n
   ·obtain ⟨o,es,ep,ho,r⟩:=hm;exact ⟨o,es,ep,up _ o (λz=>(fx _ z).2.1 rfl) ho,r⟩
   ·by_cases hb:b=s.heap.objs.size
    ·subst hb;rw[aI] at e;cases e;exact ⟨jU rfl,[u,v],.cons ru (.cons rv .nil),⟨_,tup,rfl,_,rfl⟩⟩
    ·rw[bF hb] at e;refine (I.hok b o e).stay (λc v' hc q=>up c v' ?_ q) (λc q=>by rw[bF (nT q)];exact q) λc xs q=>by rw[bF (nT q)];exact q
     rcases hc with rfl | hc
     ·exact nx _ _ e
     ·exact nx _ _ hc
  refine ⟨.ref s.heap.objs.size,_,I2,rfl,⟨_,x,y,rfl,hT0,rfl,λxs' q=>by rw[I.list_inj q qx];exact ex,λys' q=>by rw[I.list_inj q qy];exact ey⟩,?_,λb hb=>?_⟩
  ·refine ⟨hz'',(hs.2 _ D.TIz).trans (hk _ _ D.TIz D.TITO D.TIi1 D.TIi2 hTI),⟨_,_,(hs.2 _ D.TOz).trans a2⟩,a3.at λo e=>(hs.2 _ D.i1z).trans e,a4.at λo e=>(hs.2 _ D.i2z).trans e⟩
  ·obtain ⟨o,e,_⟩:∃o,s.heap.get? b=some o/\True:=by
    obtain ⟨o1,g1,_⟩:=h1;obtain ⟨o2,g2,_⟩:=h2;simp only[aE,aM,or_false] at hb;rcases hb with rfl | rfl | rfl | rfl | rfl
    ·exact ⟨_,hz,trivial⟩
    ·exact ⟨_,hTI,trivial⟩
    ·exact ⟨_,hTO,trivial⟩
    ·exact ⟨_,g1,trivial⟩
    ·exact ⟨_,g2,trivial⟩
   rw[bF (cG (Heap.lt_size e))];exact (hf b hb).1
 done:=by
  intro X hP hw hK hc i pins s σ H E I hf st hg;subst hP hw hK;obtain ⟨hz,hTI,⟨a,c,hTO⟩,h1,h2⟩:=st;obtain ⟨xs,ys,qx,qy,hend⟩:=hg;obtain ⟨us,rx,px,_⟩:=I.list qx;obtain ⟨ws,ry,py,_⟩:=I.list qy;have lx:=rx.length;have ly:=ry.length;have D:=CJ hz hTI hTO h1 h2 px.isList py.isList hT hi
  refine wpAny_pyNext_zip_end (I.ok.hd hc) D hz hTI hTO h1 h2 px.isList py.isList (by
   rcases hend with q | q
   ·exact .inl (by simp;lia)
   ·exact .inr (by simp;lia)) λh' hk=>⟨rfl,?_⟩
  have up:∀b o,b∉[z,TO,i1,i2]->s.heap.get? b=some o->h'.get? b=some o:=λb o hb e=>by
   simp only[aE,aM,or_false,not_or] at hb;exact hk b o hb.1 hb.2.1 hb.2.2.1 hb.2.2.2 e
  have fx:∀b∈[z,TO,i1,i2],kU X pins H b:=λb hb=>hf b (by
   simp only[aE,aM,or_false] at hb ⊢;rcases hb with rfl | rfl | rfl | rfl <;> simp)
  have nx:∀b o,H b=some o->b∉[z,TO,i1,i2]:=λb o e hb=>by
   have:=(fx b hb).1;rw[this] at e;cases e
  refine I.step (g':=s.gens) (d':=s.drawn) (t':=s.toks) (ch:=[z,TO,i1,i2]) (λb hb=>?_) (λb o _ _ hb e _=>up b o hb e) (λb o _ _ hb e _=>⟨o.slots,up b o hb e⟩) (λb o hb e n=>n)
   (λb o hb e=>⟨o,up b o hb e⟩) (λb q e=>e) (λb o q e=>e) (λb q e=>⟨#[],by rw[e];simp⟩) (λm hm=>?_) (λb o e=>?_) I.bare
  ·obtain ⟨_,f1,_,f3,f4,f5⟩:=fx b hb;exact ⟨f3,f1,f4,f5⟩
  ·obtain ⟨o,es,ep,ho,r⟩:=hm;exact ⟨o,es,ep,up _ o (λz=>(fx _ z).2.1 rfl) ho,r⟩
  ·refine (I.hok b o e).stay (λc v' hc q=>up c v' ?_ q) (λc q=>q) λc xs q=>q
   rcases hc with rfl | hc
   ·exact nx _ _ e
   ·exact nx _ _ hc
 self:=λ_ _ _ _ _ st h=>wpAny_pyIter_zip st.1 h
section
variable {X:Cx}
def O0 (K:FG9) (ta:TA):TI:=λσ H R=>ta σ H λvs H1=>∃l1 l2,vs=[.ref l1,.ref l2]/\(∃xs,bO K H1 l1 xs)/\(∃ys,bO K H1 l2 ys)/\R (Pg K l1 l2) H1
theorem Ei {a b:Expr} {ta:TA} {p pos tpos:Pos} {elts:List Expr} {kk:Nat} (hg:Gl X "zip") (hm:X.mg "zip"=none) (ha:PA X [a,b] ta) (hs:starEach [a,b] X.env=[(false,eval a X.env),(false,eval b X.env)]:=by rfl) (hs2:starEach [b] X.env=[(false,eval b X.env)]:=by rfl) :
  PI X (.Tuple elts kk tpos) (.Call (.Name "zip" p) [a,b] [] pos) (O0 X.K ta):=by
 intro pins s σ H R I h;refine Call_ (oR I hg hm boot_zip (PyProof.Rows.callWith_type1 (gO (ha pos pins s σ H _ I h) λus s1 ⟨vs,H1,I1,r1,q1⟩=>?_) (by rw[hs,hs2]) (by rw[hs2];rfl)));obtain ⟨l1,l2,e,⟨xs,qx⟩,⟨ys,qy⟩,q⟩:=q1;subst e;obtain ⟨u,v,rfl,ru,rv⟩:=vals2 r1;cases ru;cases rv;obtain ⟨us,rx,px,_⟩:=I1.list qx;obtain ⟨ws,ry,py,_⟩:=I1.list qy;refine call_zip_2 px.isList py.isList λh' a1 a2 a3 a4 a5 a6 hk=>wpAny_pyIter_zip a1 ?_
 have I2:Inv X pins σ H1 { s1 with heap:=h' }:=I1.kept (t':=s1.toks) hk;refine ⟨_,[s1.heap.objs.size+4,s1.heap.objs.size+2,s1.heap.objs.size+3,s1.heap.objs.size,s1.heap.objs.size+1],_,_,H1,rfl,I2,Kf (s1.heap.objs.size+4) (s1.heap.objs.size+2) (s1.heap.objs.size+3) s1.heap.objs.size (s1.heap.objs.size+1) l1 l2 (cG (eI _)) (cG (eI _)),⟨a1,a2,⟨_,_,a3⟩,a4,a5⟩,λb hb=>?_,q⟩
 have hb':s1.heap.objs.size<=b:=by
  simp only[aE,aM,or_false] at hb;rcases hb with rfl | rfl | rfl | rfl | rfl <;> first | exact Nat.le_add_right _ _ | exact au _
 exact I1.fpOk hb' (I1.hok.fresh hb')
theorem BQ (hc:X.calm=true):oV X (.builtin "all") (λxs H Q=>∃(p:Addr) (bs:List Bool),xs=[.ref p]/\bO X.K H p (bs.map V.bl)/\Q (.bl (bs.all id)) H):=by
 intro pins s σ H xs us Q I r h;obtain ⟨p,bs,rfl,hp,q⟩:=h;obtain ⟨u,rfl,ru⟩:=vals1 r;cases ru;obtain ⟨vs,rv,pl,hz⟩:=I.list hp
 have hb:PyProof.Rows.LSm.BoolsAre vs bs:=by
  clear q hp pl hz
  induction bs generalizing vs with
  | nil=>cases rv;exact .nil
  | cons b bs ih =>
   rw[ib] at rv;cases rv with
   | cons r1 r2=>cases r1;exact .cons b (ih _ r2)
 have hlt:p < s.heap.objs.size:=by obtain ⟨_,e,_⟩:=pl.isList;exact Heap.lt_size e
 refine call_all_walk (wpAny_pyIter_list pl.isList ?_)
 refine ⟨s.heap.objs.size,[s.heap.objs.size,p],[s.heap.objs.size],vs.toArray.size,_,_,λi=>(bs[i]?).getD true,rfl,Walks.list (A:=X.A.in1) (I.ok.hd hc) _ p (cG hlt) vs.toArray,
  ⟨⟨_,Heap.get?_push_size _ rfl,rfl,rfl⟩,pl.isList.push _⟩,λi v s' Q' E' hP hQ=>?_,λh' tk hk=>?_⟩
 ·obtain ⟨b,e,rfl⟩:=hb.get i v (by simpa using hP);simp only[e,Option.getD_some] at hQ;exact wpAny_truthy_bool hQ
 ·have e:((List.range vs.toArray.size).all λi=>(bs[i]?).getD true)=bs.all id:=by
   rw[aJ,hb.length];exact PyProof.Rows.LSm.range_all bs
  rw[e];exact ⟨.bl _,H,I.kept (t':=tk) (PyProof.Rows.LSm.kept_iter hk),rfl,q⟩
theorem LM (hc:X.calm=true):oV X (.builtin "sum") (λxs H Q=>∃(p:Addr) (ns:List Int),xs=[.ref p]/\bO X.K H p (ns.map V.int)/\Q (.int ns.sum) H):=by
 intro pins s σ H xs us Q I r h;obtain ⟨p,ns,rfl,hp,q⟩:=h;obtain ⟨u,rfl,ru⟩:=vals1 r;cases ru;obtain ⟨vs,rv,pl,_⟩:=I.list hp;have hi:IntsAre vs ns:=intsAre_of rv;obtain ⟨xs,hx⟩:=hi.allInts.items;have hl':s.heap.IsList p (intItems xs):=hx ▸ pl.isList;refine sum_intListG (I.ok.hd hc) hl' λh' tk t' hk=>?_
 have e1:ns=xs.toList.map (·.1):=by
  rw[<- nums_intItems,<- hx];exact (show numsOf vs.toArray.toList=ns from hi.numsOf).symm
 have e2:preSum (numAt xs) xs.size=ns.sum:=by
  rw[preSum_eq,aL (by simp),e1]
 rw[e2];exact ⟨.int _,H,I.kept (t':=tk) hk,⟨_,rfl⟩,q⟩
end
section
variable {K:FG9} {l1 l2:Addr} {xs ws:List V} {g:TG} {tf:TT} {te:TE} {Q:VK} {σ₀:St} {H:Hp}
theorem Gh (Pv:Nat->List V->Hp->Prop) (hz:xs.length<=sizeLine) (hw:ws.length=xs.length) (h0:Pv 0 [] H) (hl:∀i ys H,i<=xs.length->Pv i ys H->bO K H l1 xs/\bO K H l2 ws)
  (hs:∀i x y ys H p,xs[i]?=some x->ws[i]?=some y->ys.length<=i->Pv i ys H->H p=none->qY σ₀ g tf te (.ref p) (upd H p (.tup [x,y])) (λy H'=>Pv (i+1) (ys++[y]) H') (λH'=>Pv (i+1) ys H'))
  (hd:∀ys H,ys.length<=xs.length->Pv xs.length ys H->∀p,H p=none->Q (.ref p) (upd H p (.lst ys))):rJ (Pg K l1 l2) σ₀ g tf te Q H:=by
 refine ⟨λi m ys H=>m=xs.length - i/\i<=xs.length/\ys.length<=i/\Pv i ys H,⟨xs.length,by simp,bo _,bo _,h0⟩,?_⟩;rintro i m ys H ⟨rfl,hi,hy,p⟩;obtain ⟨q1,q2⟩:=hl i ys H hi p;by_cases hlt:i < xs.length
 ·refine .inr ⟨⟨xs,ws,xs[i],ws[i]'(by lia),q1,q2,by simp [hlt],by simp⟩,by lia,λy H'=>Pv (i+1) (ys++[y]) H',λH'=>Pv (i+1) ys H',λy H' p'=>⟨xs.length - (i+1),by lia,rfl,hlt,by rw[av,be];lia,p'⟩,λH' p'=>⟨xs.length - (i+1),by lia,rfl,hlt,by lia,p'⟩,λx H' y=>?_⟩;obtain ⟨r,x',y',rfl,hr,rfl,e1,e2⟩:=y;exact hs i x' y' ys _ r (e1 xs q1) (e2 ws q2) hy p hr
 ·have e:i=xs.length:=by lia
  subst e;exact .inl ⟨⟨xs,ws,q1,q2,.inl (au _)⟩,by lia,hd ys H hy p⟩
theorem Na {tb:TS} {D:Ends} {σ:St} (Pv:Nat->St->Hp->Prop) (hw:ws.length=xs.length) (h0:Pv 0 σ H) (hl:∀i σ H,i<=xs.length->Pv i σ H->bO K H l1 xs/\bO K H l2 ws)
  (hs:∀i x y σ H p,xs[i]?=some x->ws[i]?=some y->Pv i σ H->H p=none->g (.ref p) σ (upd H p (.tup [x,y])) λσ2 H2=>tb { D with nx:=Pv (i+1),ct:=Pv (i+1),bk:=D.nx } σ2 H2) (hd:∀σ H,Pv xs.length σ H->D.nx σ H) :
  ∃W:Nat->Nat->St->Hp->Prop,(∃m,W 0 m σ H)/\∀i m σ H,W i m σ H →
   ((Pg K l1 l2).stop i H/\D.nx σ H)\/((Pg K l1 l2).go i H/\∃N:St->Hp->Prop,(∀σ' H',N σ' H'->∃m',m' < m/\W (i+1) m' σ' H')/\∀x H',(Pg K l1 l2).yld i H x H'->g x σ H' λσ2 H2=>tb { D with nx:=N,ct:=N,bk:=D.nx } σ2 H2):=by
 refine ⟨λi m σ H=>m=xs.length - i/\i<=xs.length/\Pv i σ H,⟨xs.length,by simp,bo _,h0⟩,?_⟩;rintro i m σ H ⟨rfl,hi,p⟩;obtain ⟨q1,q2⟩:=hl i σ H hi p;by_cases hlt:i < xs.length
 ·refine .inr ⟨⟨xs,ws,xs[i],ws[i]'(by lia),q1,q2,by simp [hlt],by simp⟩,Pv (i+1),λσ' H' p'=>⟨xs.length - (i+1),by lia,rfl,hlt,p'⟩,λx H' y=>?_⟩;obtain ⟨r,x',y',rfl,hr,rfl,e1,e2⟩:=y;exact hs i x' y' σ _ r (e1 xs q1) (e2 ws q2) p hr
 ·have e:i=xs.length:=by lia
  subst e;exact .inl ⟨⟨xs,ws,q1,q2,.inl (au _)⟩,hd σ H p⟩
end
section
variable {X:Cx}
theorem Aa (K:FG9) (n:Nat) {es:List Expr} {k:Nat} {pos:Pos} {t:LU} (h:QJ X es t) (hK:X.K=K:=by rfl) (hc:X.calm=true:=by rfl)
  (hn:(assignEach es X.env).length=n:=by rfl) (hst:(assignEach es X.env).findIdx? (·.1)=none:=by rfl):PG X (.Tuple es k pos) (O4 K n t):=by subst hK;exact w5 hc h hn hst
theorem sH (K:FG9) (hK:X.K=K):QP X (OK K):=by subst hK;exact bU
theorem fZ (K:FG9) (hK:X.K=K):QP X (OL K):=by subst hK;exact bW
theorem IH (K:FG9) (hK:X.K=K) (hu:X.A.units+50 < cLine):zQ X (compareOp .NotEq) (Qn K):=by subst hK;exact A0 hu
theorem AV (K:FG9) {tg l:Expr} {tl:TE} (hl:PE X l tl) (hK:X.K=K:=by rfl):PI X tg l (Lk K tl):=by subst hK;exact b9 hl
end
theorem d5 {X:Cx} {e e':Expr} {es:List Expr} {te:TE} {t:TA} (h:e=e') (ha:PE X e' te) (hr:PA X es t) (hs:∀l,starEach (e' :: l) X.env=(false,eval e' X.env) :: starEach l X.env:=by intro _;rfl):PA X (e :: es) (t8 te t):=by subst h;exact ae ha hr (hs _)
section
variable {σ:St} {H:Hp} {D:Ends} {Q:VK}
theorem kJ {l:Addr} {xs:List V} {y:V} (hl:H l=some (.lst xs)) (hz:xs.length < sizeLine) (h:Q .non (upd H l (.lst (xs++[y])))):IC (.ref l) [y] H Q:=⟨l,xs,y,rfl,rfl,hl,hz,h⟩
theorem Mw {K:FG9} {ta:TA} {R:It->Hp->Prop} (h:ta σ H λvs H1=>∃l1 l2,vs=[.ref l1,.ref l2]/\(∃xs,bO K H1 l1 xs)/\(∃ys,bO K H1 l2 ys)/\R (Pg K l1 l2) H1):O0 K ta σ H R:=h
theorem uh {l b:Addr} {xs zs:List V} (h1:H l=some (.lst xs)) (h2:H b=some (.lst zs)) (hz:xs.length+zs.length<=sizeLine) (h:∀p H',aG H H'->H p=none->H' p=some (.lst (xs++zs))->Q (.ref p) H'):Qp (.ref l) (.ref b) H Q :=
 ⟨l,b,xs,zs,rfl,rfl,h1,h2,hz,λp hp=>h p _ (aG.new hp) hp aI⟩
theorem Ot {K:FG9} {a:Addr} {xs:List V} {lo hi:Option Int} (h1:bO K H a xs) (h:∀p H',aG H H'->H p=none->H' p=some (.lst (yn xs lo hi))->Q (.ref p) H'):Ql K (.ref a) lo hi H Q :=
 ⟨a,xs,rfl,h1,λp hp=>h p _ (aG.new hp) hp aI⟩
theorem mL {α:Type} {xs:List α} {i:Int} (h0:0<=i) (h1:i < xs.length):∃v,Ia xs i=some v/\v∈xs/\xs[i.toNat]?=some v:=by
 have hj:i.toNat < xs.length:=by lia
 refine ⟨xs[i.toNat],?_,aS hj,by simp [hj]⟩;have:=fz (xs:=xs) (j:=i.toNat) (v:=xs[i.toNat]) (by simp [hj]);rwa [Int.toNat_of_nonneg h0] at this
end
theorem cF {α β:Type} {F:α->β->Prop}:∀{l1:List α} {l2:List β} {y:β},Paired F l1 l2->y∈l2->∃x∈l1,F x y
 | _,_,_,.nil,h=>nomatch h
 | _,_,_,.cons r t,h=>by
  rcases aE.mp h with rfl | h
  ·exact ⟨_,cT,r⟩
  ·obtain ⟨x,hx,q⟩:=cF t h;exact ⟨x,bT _ hx,q⟩
theorem cL {α β:Type} {F:α->β->Prop} {l1:List α} {l2:List β} {i:Nat} {y:β} (h:Paired F l1 l2) (e:l2[i]?=some y):∃x,l1[i]?=some x/\F x y:=by
 have hl:=h.length;have hi:i < l2.length:=(aD.mp e).1;refine ⟨l1[i]'(by lia),by simp,?_⟩;have:=kO h (i:=i) (by lia) hi;have e2:l2[i]=y:=(aD.mp e).2;rwa [e2] at this
def zR (n:Int×Int):Prop:=0 < n.2/\Int.gcd n.1 n.2=1/\Sz 8000 n.1/\Sz 8000 n.2
theorem take_snoc {α:Type} {l:List α} {i:Nat} {v:α} (h:l[i]?=some v):l.take (i+1)=l.take i++[v]:=by rw[List.take_add_one,h];rfl
theorem aG.after {H H':Hp} {r:Addr} {o:HO} (s:aG H H') (h:H r=Option.none):aG H (upd H' r o):=λb u e=>by rw[bF (fj e h)];exact s b u e
theorem cO.after {H H':Hp} {b r:Addr} {o:HO} (s:cO b H H') (h:H r=Option.none):cO b H (upd H' r o):=⟨λc u e n=>by rw[bF (fj e h)];exact s.1 c u e n,λq hi=>(s.2 q hi).upd λz=>by obtain ⟨_,_,_,e⟩:=hi;rw[<- z,h] at e;cases e⟩
theorem cO.same {H H' H'':Hp} {b:Addr} (s:cO b H H') (e:aG H' H''):cO b H H'':=s.trans e.upto
theorem ER {α:Type} {Pr:α->Prop} {l:List α} {a:α} (h:∀n∈l,Pr n) (ha:Pr a):∀n∈l++[a],Pr n:=λn hn=>by
 rcases ax.mp hn with hn | hn
 ·exact h n hn
 ·have e:n=a:=by simpa using hn
  rw[e];exact ha
abbrev BW (h:Heap) (z TI TO:Addr) (f0 f1:Value):Prop:=h.get? z=some { cls:=.type "zip",dict:=none,data:=.fields #[f0,f1,.bool false,.ref TI,.ref TO],slots:=#[] }
section
variable {prog:Program} {w:World} {A:Around} {E:Value->Shared->Prop} {s:Shared}
theorem Ic {a:Addr} {o:Obj} {Q:Option Obj->Shared->Prop} (e:s.heap.get? a=some o) (h:Q (some o) s):wpAny (model prog w) A (loadIfAlive a) Q E s:=by
 intro Γ p hp;show Sem.wp _ _ (.loadIfAlive a .pure) _ _ _ _
 simp only[Sem.wp_loadIfAlive,e];exact wpAny_pure h Γ p hp
theorem AZ {z TI TO T:Addr} {b1:Bool} {o:Obj} {Q:Bool->Shared->Prop} (zr:BW s.heap z TI TO (rawInt T) (.bool b1)) (al:s.heap.get? T=some o)
  (h:∀h',BW h' z TI TO (rawInt T) (.bool true)->Heap.SameBut z s.heap h'->Q false { s with heap:=h' }):wpAny (model prog w) A (Builtin.SmallTypes.ownedTupleIsFree (.ref z)) Q E s:=by
 unfold Builtin.SmallTypes.ownedTupleIsFree;refine wpAny_bind (wpAny_field zr rfl (x:=rawInt T) rfl ?_);refine wpAny_bind (Ic (a:=T) al ?_);refine wpAny_bind (wpAny_field zr rfl (x:=.bool b1) rfl ?_);cases b1 with
 | true=>exact wpAny_pure (h _ zr (.refl ..))
 | false=>exact wpAny_bind (wpAny_setField_rec zr (by simp) λh' zr' sb=>wpAny_pure (h h' zr' sb))
theorem JL {z TI TO T i1 i2 l1 l2:Addr} {k1 k2:Nat} {us ws:Array Value} {u v:Value} {b1:Bool} {o:Obj} {Q:Value->Shared->Prop} (D:ZipApart z TI TO i1 i2 l1 l2) (zr:BW s.heap z TI TO (rawInt T) (.bool b1)) (al:s.heap.get? T=some o)
  (pt:IsPair s.heap TI (.ref i1) (.ref i2)) (j1:s.heap.IsListIter i1 l1 k1) (j2:s.heap.IsListIter i2 l2 k2) (m1:s.heap.IsList l1 us) (m2:s.heap.IsList l2 ws) (eu:us[k1]?=some u) (ev:ws[k2]?=some v)
  (hQ:∀h',BW h' z TI TO (rawInt T) (.bool true)->h'.IsListIter i1 l1 (k1+1)->h'.IsListIter i2 l2 (k2+1)->IsPair h' s.heap.objs.size u v->(∀c o,c≠z->c≠i1->c≠i2->s.heap.get? c=some o->h'.get? c=some o)->Q (.ref s.heap.objs.size) { s with heap:=h' }) :
  wpAny (model prog w) A (Builtin.«zip.__next__» ⟨[.ref z],[]⟩) (λfin s'=>∃v,fin=.done (.ret v)/\Q v s') E s:=by
 change wpAny _ _ (field (Value.ref z) 2 >>= _) _ _ s
 refine wpAny_bind (wpAny_field zr rfl (x:=.bool false) rfl ?_)
 change wpAny _ _ (field (Value.ref z) 3 >>= _) _ _ s
 refine wpAny_bind (wpAny_field zr rfl (x:=.ref TI) rfl (wpAny_bind (wpAny_seqItems pt rfl ?_)))
 change wpAny _ _ (Builtin.SmallTypes.ownedTupleIsFree (Value.ref z) >>= _) _ _ s
 refine wpAny_bind (AZ zr al λg1 zr1 sb1=>?_);simp only[jl,if_false];refine wpAny_bind ?_;rw[<- Array.forIn_toList];simp only[L5,DT];have j1':=j1.extBut sb1.extBut D.i1z;have m1':=m1.extBut sb1.extBut D.l1z;refine wpAny_bind (wpAny_bind (wpAny_holding ?_))
 change wpAny _ _ (Builtin.SmallTypes.nextOf (Value.ref i1) >>= _) _ _ _
 refine wpAny_bind (wpAny_nextOf_list_item j1' m1' eu λg2 j1a sb2=>wpAny_pure ?_);refine wpAny_pure ?_;have j2':=(j2.extBut sb1.extBut D.i2z).extBut sb2.extBut D.i12.symm;have m2':=(m2.extBut sb1.extBut D.l2z).extBut sb2.extBut D.l2i1;refine wpAny_bind (wpAny_bind (wpAny_holding ?_))
 change wpAny _ _ (Builtin.SmallTypes.nextOf (Value.ref i2) >>= _) _ _ _
 refine wpAny_bind (wpAny_nextOf_list_item j2' m2' ev λg3 j2a sb3=>wpAny_pure ?_);refine wpAny_pure (wpAny_pure ?_);refine wpAny_bind (wpAny_newTuple (hsz:=jU rfl) ?_);have sz:g3.objs.size=s.heap.objs.size:=by rw[sb3.1,sb2.1,sb1.1]
 have up:∀c o,c≠z->c≠i1->c≠i2->s.heap.get? c=some o->g3.get? c=some o:=λc o c1 c2 c3 e=>sb3.extBut _ _ c3 (sb2.extBut _ _ c2 (sb1.extBut _ _ c1 e))
 have zr3:BW g3 z TI TO (rawInt T) (.bool true):=sb3.extBut _ _ D.i2z.symm (sb2.extBut _ _ D.i1z.symm zr1);refine wpAny_pure ⟨_,rfl,?_⟩
 change Q (.ref g3.objs.size) { s with heap:=g3.push { cls:=.type "tuple",data:=.seq #[u,v] } }
 have last:=hQ (g3.push { cls:=.type "tuple",data:=.seq #[u,v] }) (Heap.get?_push_of_some _ zr3) ((j1a.extBut sb3.extBut D.i12).at λo e=>Heap.get?_push_of_some _ e) (j2a.at λo e=>Heap.get?_push_of_some _ e)
  (by rw[<- sz];exact Heap.get?_push_size _ rfl) λc o c1 c2 c3 e=>Heap.get?_push_of_some _ (up c o c1 c2 c3 e)
 rw[sz];exact last
theorem K6 {z TI TO T i1 i2 l1 l2:Addr} {k1:Nat} {us:Array Value} {b1:Bool} {o:Obj} {Q:PySem.Fin->Shared->Prop} (hh:A.handled=none) (D:ZipApart z TI TO i1 i2 l1 l2) (zr:BW s.heap z TI TO (rawInt T) (.bool b1)) (al:s.heap.get? T=some o)
  (pt:IsPair s.heap TI (.ref i1) (.ref i2)) (j1:s.heap.IsListIter i1 l1 k1) (m1:s.heap.IsList l1 us) (eu:us[k1]?=none)
  (hE:∀h' e,(∀c o,c≠z->c≠i1->c≠i2->s.heap.get? c=some o->h'.get? c=some o)->(∃o,h'.get? e=some o/\o.cls=.type "StopIteration")->E (.ref e) { s with heap:=h' }) :
  wpAny (model prog w) A (Builtin.«zip.__next__» ⟨[.ref z],[]⟩) Q E s:=by
 change wpAny _ _ (field (Value.ref z) 2 >>= _) _ _ s
 refine wpAny_bind (wpAny_field zr rfl (x:=.bool false) rfl ?_)
 change wpAny _ _ (field (Value.ref z) 3 >>= _) _ _ s
 refine wpAny_bind (wpAny_field zr rfl (x:=.ref TI) rfl (wpAny_bind (wpAny_seqItems pt rfl ?_)))
 change wpAny _ _ (Builtin.SmallTypes.ownedTupleIsFree (Value.ref z) >>= _) _ _ s
 refine wpAny_bind (AZ zr al λg1 zr1 sb1=>?_);simp only[jl,if_false];refine wpAny_bind ?_;rw[<- Array.forIn_toList];simp only[L5,DT];refine wpAny_bind (wpAny_bind (wpAny_holding ?_))
 change wpAny _ _ (Builtin.SmallTypes.nextOf (Value.ref i1) >>= _) _ _ _
 exact wpAny_bind (wpAny_nextOf_list_end hh (j1.extBut sb1.extBut D.i1z) (m1.extBut sb1.extBut D.l1z) eu λg2 e xb he=>hE g2 e (λc o c1 c2 _ q=>xb _ _ c2 (sb1.extBut _ _ c1 q)) he)
theorem JJ {z TI TO T i1 i2 l1 l2:Addr} {k1 k2:Nat} {us ws:Array Value} {u v:Value} {b1:Bool} {o:Obj} {Q:Option Value->Shared->Prop} (D:ZipApart z TI TO i1 i2 l1 l2) (zr:BW s.heap z TI TO (rawInt T) (.bool b1)) (al:s.heap.get? T=some o)
  (pt:IsPair s.heap TI (.ref i1) (.ref i2)) (j1:s.heap.IsListIter i1 l1 k1) (j2:s.heap.IsListIter i2 l2 k2) (m1:s.heap.IsList l1 us) (m2:s.heap.IsList l2 ws) (eu:us[k1]?=some u) (ev:ws[k2]?=some v)
  (hQ:∀h',BW h' z TI TO (rawInt T) (.bool true)->h'.IsListIter i1 l1 (k1+1)->h'.IsListIter i2 l2 (k2+1)->IsPair h' s.heap.objs.size u v->(∀c o,c≠z->c≠i1->c≠i2->s.heap.get? c=some o->h'.get? c=some o)->Q (some (.ref s.heap.objs.size)) { s with heap:=h' }) :
  wpAny (model prog w) A (pyNext (.ref z)) Q E s:=by
 have ty:s.TypeIs (.ref z) "zip":=⟨_,zr,rfl⟩;unfold pyNext;refine wpAny_bind (wpAny_attempt (wpAny_callSpecial?_slot (name:=Str.ofString "__next__") ty rL (wpAny_call_entry rL ty PySem.F.entry_zip_next ?_ (QT _))));exact JL D zr al pt j1 j2 m1 m2 eu ev λh' a1 a2 a3 a4 a5=>wpAny_pure (hQ h' a1 a2 a3 a4 a5)
theorem JH {z TI TO T i1 i2 l1 l2:Addr} {k1:Nat} {us:Array Value} {b1:Bool} {o:Obj} {Q:Option Value->Shared->Prop} (hh:A.handled=none) (D:ZipApart z TI TO i1 i2 l1 l2) (zr:BW s.heap z TI TO (rawInt T) (.bool b1)) (al:s.heap.get? T=some o)
  (pt:IsPair s.heap TI (.ref i1) (.ref i2)) (j1:s.heap.IsListIter i1 l1 k1) (m1:s.heap.IsList l1 us) (eu:us[k1]?=none)
  (hQ:∀h',(∀c o,c≠z->c≠i1->c≠i2->s.heap.get? c=some o->h'.get? c=some o)->Q none { s with heap:=h' }):wpAny (model prog w) A (pyNext (.ref z)) Q E s:=by
 have ty:s.TypeIs (.ref z) "zip":=⟨_,zr,rfl⟩;unfold pyNext;refine wpAny_bind (wpAny_attempt (wpAny_callSpecial?_slot (name:=Str.ofString "__next__") ty rL (wpAny_call_entry rL ty PySem.F.entry_zip_next ?_ (QT _))));refine K6 hh D zr al pt j1 m1 eu λh' e kk ⟨oe,he,hc⟩=>?_
 exact wpAny_bind (wpAny_isInstance (T:="StopIteration") (b:=true) ⟨oe,he,hc⟩ isSubtype_stop (wpAny_pure (hQ _ kk)))
end
section
variable {X:Cx} {pins:List (Addr×Obj)} {σ:St} {H:Hp} {s:Shared}
theorem Inv.moved {h':Heap} {ch:List Addr} {g':Array GenState} {d':Drawn} {t':Nat} (I:Inv X pins σ H s) (fx:∀b∈ch,kU X pins H b) (up:∀b o,b∉ch->s.heap.get? b=some o->h'.get? b=some o) (hg:AllBare g') :
  Inv X pins σ H { s with heap:=h',gens:=g',drawn:=d',toks:=t' }:=by
 have nx:∀b o,H b=some o->b∉ch:=λb o e hb=>by have:=(fx b hb).1;rw[this] at e;cases e
 refine I.step (ch:=ch) (λb hb=>?_) (λb o _ _ hb e _=>up b o hb e) (λb o _ _ hb e _=>⟨o.slots,up b o hb e⟩) (λb o hb e n=>n) (λb o hb e=>⟨o,up b o hb e⟩) (λb q e=>e) (λb o q e=>e) (λb q e=>⟨#[],by rw[e];simp⟩) (λm hm=>?_) (λb o e=>?_) hg
 ·obtain ⟨_,f1,_,f3,f4,f5⟩:=fx b hb;exact ⟨f3,f1,f4,f5⟩
 ·obtain ⟨o,es,ep,ho,r⟩:=hm;exact ⟨o,es,ep,up _ o (λz=>(fx _ z).2.1 rfl) ho,r⟩
 ·refine (I.hok b o e).stay (λc v' hc q=>up c v' ?_ q) (λc q=>q) λc xs q=>q
  rcases hc with rfl | hc
  ·exact nx _ _ e
  ·exact nx _ _ hc
theorem Inv.track {p:Addr} {o:HO} (I:Inv X pins σ H s) (fp:kU X pins H p) (new:fI X.prog X.w (upd H p o) s.heap p o):Inv X pins σ (upd H p o) s:=by
 have nt:∀{b:Addr} {u:HO},H b=some u->b≠p:=λe z=>by rw[z,fp.1] at e;cases e
 refine I.step (h':=s.heap) (g':=s.gens) (d':=s.drawn) (t':=s.toks) (ch:=[p]) (λb hb=>?_) (λb o _ _ _ e _=>e) (λb o _ _ _ e _=>⟨o.slots,e⟩) (λb o hb e n=>?_) (λb o _ e=>⟨o,e⟩) (λb q e=>by rw[bF (nt e)];exact e) (λb o q e=>by rw[bF (nt e)];exact e)
  (λb q e=>⟨#[],by rw[bF (nt e),e];simp⟩) (λm hm=>hm) (λb u e=>?_) I.bare
 ·have e:b=p:=by simpa using hb
  subst e;obtain ⟨_,f1,_,f3,f4,f5⟩:=fp;exact ⟨f3,f1,f4,f5⟩
 ·rw[bF λz=>hb (by simp [z])];exact n
 ·by_cases hb:b=p
  ·subst hb;rw[aI] at e;cases e;exact new
  ·rw[bF hb] at e;exact (I.hok b u e).stay (λc v _ q=>q) (λc q=>by rw[bF (nt q)];exact q) λc xs q=>by rw[bF (nt q)];exact q
end
def N3 (H:Hp) (p:V×V) (x:V):Prop:=∃T,x=.ref T/\H T=some (.tup [p.1,p.2])
theorem N3.same {H H':Hp} {p:V×V} {x:V} (h:N3 H p x) (e:aG H H'):N3 H' p x:=by obtain ⟨T,q,g⟩:=h;exact ⟨T,q,e _ _ g⟩
def Zst (h:Heap) (z TI TO:Addr) (base:Nat):Prop:=(∃a b,IsPair h TO a b)/\(IsZip h z TI TO .none\/∃(T:Addr) (b1:Bool) (o:Obj),BW h z TI TO (rawInt T) (.bool b1)/\h.get? T=some o/\@LE.le Nat instLENat base T)
theorem DU {h:Heap} {z TI TO i1 i2 l1 l2:Addr} {f0 f1 a b:Value} {k1 k2:Nat} {xs ys:Array Value} (hz:BW h z TI TO f0 f1) (hTI:IsPair h TI (.ref i1) (.ref i2)) (hTO:IsPair h TO a b) (h1:h.IsListIter i1 l1 k1) (h2:h.IsListIter i2 l2 k2) (hl1:h.IsList l1 xs) (hl2:h.IsList l2 ys) (hT:TI≠TO) (hi:i1≠i2):ZipApart z TI TO i1 i2 l1 l2:=by
 obtain ⟨o1,g1,c1,_⟩:=h1;obtain ⟨o2,g2,c2,_⟩:=h2;obtain ⟨p1,q1,d1,_⟩:=hl1;obtain ⟨p2,q2,d2,_⟩:=hl2;have zt:Value.type "zip"≠.type "tuple":=oC (by decide);have it:Value.type "list_iterator"≠.type "tuple":=oC (by decide);have iz:Value.type "list_iterator"≠.type "zip":=oC (by decide);have lz:Value.type "list"≠.type "zip":=oC (by decide);have lt:Value.type "list"≠.type "tuple":=oC (by decide);have li:Value.type "list"≠.type "list_iterator":=oC (by decide)
 exact ⟨dc hTI hz zt.symm,dc hTO hz zt.symm,dc g1 hz (by rw[c1];exact iz),dc g2 hz (by rw[c2];exact iz),hT,dc hTI g1 (by rw[c1];exact it.symm),dc hTI g2 (by rw[c2];exact it.symm),dc hTO g1 (by rw[c1];exact it.symm),dc hTO g2 (by rw[c2];exact it.symm),hi,
  dc q1 hz (by rw[d1];exact lz),dc q1 hTO (by rw[d1];exact lt),dc q1 g1 (by rw[d1,c1];exact li),dc q1 g2 (by rw[d1,c2];exact li),dc q2 hz (by rw[d2];exact lz),dc q2 hTO (by rw[d2];exact lt),dc q2 g1 (by rw[d2,c1];exact li),dc q2 g2 (by rw[d2,c2];exact li)⟩
section
variable {X:Cx} {pins:List (Addr×Obj)} {σ:St}
theorem kU.heap {H H':Hp} {b:Addr} (f:kU X pins H b) (e:H' b=none):kU X pins H' b:=⟨e,f.2⟩
structure EU where
 z:Addr
 TI:Addr
 TO:Addr
 i1:Addr
 i2:Addr
 S:Addr
 base:Nat
def EU.all (a:EU):List Addr:=[a.z,a.TI,a.TO,a.i1,a.i2,a.S]
structure EU.Ok (a:EU):Prop where
 tt:a.TI≠a.TO
 ii:a.i1≠a.i2
 Sz:a.S≠a.z
 STI:a.S≠a.TI
 STO:a.S≠a.TO
 Si1:a.S≠a.i1
 Si2:a.S≠a.i2
 lt:∀b∈a.all,@LT.lt Nat instLTNat b a.base
structure Nt (X:Cx) (pins:List (Addr×Obj)) (σ:St) (H1:Hp) (a:EU) (l1 l2:Addr) (i:Nat) (H:Hp) (s:Shared):Prop where
 inv:Inv X pins σ H s
 same:aG H1 H
 fps:∀b∈a.all,kU X pins H b
 sz:a.base<=s.heap.objs.size
 zst:Zst s.heap a.z a.TI a.TO a.base
 pt:IsPair s.heap a.TI (.ref a.i1) (.ref a.i2)
 j1:s.heap.IsListIter a.i1 l1 i
 j2:s.heap.IsListIter a.i2 l2 i
variable {a:EU} {l1 l2:Addr} {H1 H:Hp} {s:Shared} {i:Nat} {xs ys:List V}
theorem Nt.push {h':Heap} (L:Nt X pins σ H1 a l1 l2 i H s) (O:a.Ok) (k:∀b o,b≠a.S->s.heap.get? b=some o->h'.get? b=some o) (hz:h'.objs.size=s.heap.objs.size):Nt X pins σ H1 a l1 l2 i H { s with heap:=h' }:=by
 refine ⟨L.inv.moved (g':=s.gens) (d':=s.drawn) (t':=s.toks) (ch:=[a.S]) (λb hb=>?_) (λb o hb e=>k b o (λz=>hb (by simp [z])) e) L.inv.bare,L.same,L.fps,by show a.base<=h'.objs.size;rw[hz];exact L.sz,?_,k _ _ O.STI.symm L.pt,L.j1.at λo e=>k _ o O.Si1.symm e,L.j2.at λo e=>k _ o O.Si2.symm e⟩
 ·have e:b=a.S:=by simpa using hb
  rw[e];exact L.fps _ (by simp [EU.all])
 ·obtain ⟨⟨c,d,z0⟩,z4⟩:=L.zst;refine ⟨⟨c,d,k _ _ O.STO.symm z0⟩,?_⟩;rcases z4 with z1 | ⟨T,b1,o,z1,z2,z3⟩
  ·exact .inl (k _ _ O.Sz.symm z1)
  ·refine .inr ⟨T,b1,o,k _ _ O.Sz.symm z1,k _ _ (λe=>?_) z2,z3⟩;have:=O.lt a.S (by simp [EU.all]);rw[<- e] at this;exact absurd this (Nat.not_lt.mpr z3)
theorem Kc {A':Around} {E:Value->Shared->Prop} {Q:Option Value->Shared->Prop} (O:a.Ok) (q1:bO X.K H1 l1 xs) (q2:bO X.K H1 l2 ys) {x y:V} (ex:xs[i]?=some x) (ey:ys[i]?=some y) (L:Nt X pins σ H1 a l1 l2 i H s)
  (hQ:∀s',Nt X pins σ H1 a l1 l2 (i+1) (upd H s.heap.objs.size (.tup [x,y])) s'->(∀c o,c∉[a.z,a.TO,a.i1,a.i2]->s.heap.get? c=some o->s'.heap.get? c=some o)->H s.heap.objs.size=none->Q (some (.ref s.heap.objs.size)) s'):wpAny (model X.prog X.w) A' (pyNext (.ref a.z)) Q E s:=by
 obtain ⟨I,sm,fps,sz,zst,pt,j1,j2⟩:=id L;obtain ⟨us,ru,pu,_⟩:=I.list (sm.seq q1);obtain ⟨ws,rw',pw,_⟩:=I.list (sm.seq q2);obtain ⟨u,eu,r1⟩:=ru.get ex;obtain ⟨v,ev,r2⟩:=rw'.get ey;have fx:∀b∈[a.z,a.TO,a.i1,a.i2],kU X pins H b:=λb hb=>fps b (by simp only[EU.all,aE,aM,or_false] at hb ⊢;rcases hb with e | e | e | e <;> simp [e])
 have hT0:H s.heap.objs.size=none:=I.hok.fresh (au _);have fT:kU X pins H s.heap.objs.size:=I.fpOk (au _) hT0;have lt:∀b∈a.all,b≠s.heap.objs.size:=λb hb e=>by have:=O.lt b hb;rw[e] at this;exact absurd this (Nat.not_lt.mpr sz)
 have fin:∀h',(∀c o,c∉[a.z,a.TO,a.i1,a.i2]->s.heap.get? c=some o->h'.get? c=some o)->IsPair h' s.heap.objs.size u v->IsPair h' a.TI (.ref a.i1) (.ref a.i2)->h'.IsListIter a.i1 l1 (i+1)->h'.IsListIter a.i2 l2 (i+1)->Zst h' a.z a.TI a.TO a.base →
   Q (some (.ref s.heap.objs.size)) { s with heap:=h' }:=λh' up pr pt' j1' j2' zst'=>by
  have I2:Inv X pins σ H { s with heap:=h' }:=I.moved (g':=s.gens) (d':=s.drawn) (t':=s.toks) fx up I.bare;have I3:Inv X pins σ (upd H s.heap.objs.size (.tup [x,y])) { s with heap:=h' }:=I2.track fT ⟨jU rfl,[u,v],.cons r1 (.cons r2 .nil),⟨_,pr,rfl,_,rfl⟩⟩;refine hQ _ ⟨I3,sm.trans (aG.new hT0),λb hb=>(fps b hb).heap (by rw[bF (lt b hb)];exact (fps b hb).1),?_,zst',pt',j1',j2'⟩ up hT0;exact ai sz (bg (Heap.lt_size pr))
 obtain ⟨⟨c,d,z0⟩,z4⟩:=zst;rcases z4 with z1 | ⟨T,b1,o,z1,z2,z3⟩
 ·have D:=DU z1 pt z0 j1 j2 pu.isList pw.isList O.tt O.ii;refine wpAny_pyNext_zip_item D z1 pt z0 j1 j2 pu.isList pw.isList (x:=u) (y:=v) (by simpa using eu) (by simpa using ev) λh' a1 a2 a3 a4 a5 a6 hk=>?_
  have up:∀c o,c∉[a.z,a.TO,a.i1,a.i2]->s.heap.get? c=some o->h'.get? c=some o:=λc o hc e=>by
   simp only[aE,aM,or_false,not_or] at hc;exact hk c o hc.1 hc.2.1 hc.2.2.1 hc.2.2.2 e
  exact fin h' up a5 (hk _ _ D.TIz D.TITO D.TIi1 D.TIi2 pt) a3 a4 ⟨⟨_,_,a2⟩,.inr ⟨s.heap.objs.size,false,_,a1,a5,sz⟩⟩
 ·have D:=DU z1 pt z0 j1 j2 pu.isList pw.isList O.tt O.ii;refine JJ D z1 z2 pt j1 j2 pu.isList pw.isList (u:=u) (v:=v) (by simpa using eu) (by simpa using ev) λh' a1 a3 a4 a5 hk=>?_
  have up:∀c o,c∉[a.z,a.TO,a.i1,a.i2]->s.heap.get? c=some o->h'.get? c=some o:=λc o hc e=>by
   simp only[aE,aM,or_false,not_or] at hc;exact hk c o hc.1 hc.2.2.1 hc.2.2.2 e
  have Tn:∀b∈a.all,T≠b:=λb hb e=>by have:=O.lt b hb;rw[<- e] at this;exact absurd this (Nat.not_lt.mpr z3)
  exact fin h' up a5 (hk _ _ D.TIz D.TIi1 D.TIi2 pt) a3 a4 ⟨⟨_,_,hk _ _ D.TOz D.TOi1 D.TOi2 z0⟩,.inr ⟨T,true,o,a1,hk _ _ (Tn _ (by simp [EU.all])) (Tn _ (by simp [EU.all])) (Tn _ (by simp [EU.all])) z2,z3⟩⟩
theorem Kb {A':Around} {E:Value->Shared->Prop} {Q:Option Value->Shared->Prop} (hh:A'.handled=none) (O:a.Ok) (q1:bO X.K H1 l1 xs) (q2:bO X.K H1 l2 ys) (hi:xs.length<=i) (L:Nt X pins σ H1 a l1 l2 i H s)
  (hQ:∀s',Inv X pins σ H s'->(∀c o,c∉[a.z,a.TO,a.i1,a.i2]->s.heap.get? c=some o->s'.heap.get? c=some o)->Q none s'):wpAny (model X.prog X.w) A' (pyNext (.ref a.z)) Q E s:=by
 obtain ⟨I,sm,fps,sz,zst,pt,j1,j2⟩:=id L;obtain ⟨us,ru,pu,_⟩:=I.list (sm.seq q1);obtain ⟨ws,rw',pw,_⟩:=I.list (sm.seq q2);have lx:=ru.length;have none1:us.toArray[i]?=none:=by simp;lia
 have fx:∀b∈[a.z,a.TO,a.i1,a.i2],kU X pins H b:=λb hb=>fps b (by simp only[EU.all,aE,aM,or_false] at hb ⊢;rcases hb with e | e | e | e <;> simp [e])
 have fin:∀h',(∀c o,c∉[a.z,a.TO,a.i1,a.i2]->s.heap.get? c=some o->h'.get? c=some o)->Q none { s with heap:=h' }:=λh' up=>hQ _ (I.moved (g':=s.gens) (d':=s.drawn) (t':=s.toks) fx up I.bare) up
 obtain ⟨⟨c,d,z0⟩,z4⟩:=zst;rcases z4 with z1 | ⟨T,b1,o,z1,z2,z3⟩
 ·have D:=DU z1 pt z0 j1 j2 pu.isList pw.isList O.tt O.ii;refine wpAny_pyNext_zip_end hh D z1 pt z0 j1 j2 pu.isList pw.isList (.inl none1) λh' hk=>fin h' λc o hc e=>?_
  simp only[aE,aM,or_false,not_or] at hc;exact hk c o hc.1 hc.2.1 hc.2.2.1 hc.2.2.2 e
 ·have D:=DU z1 pt z0 j1 j2 pu.isList pw.isList O.tt O.ii;refine JH hh D z1 z2 pt j1 pu.isList none1 λh' hk=>fin h' λc o hc e=>?_
  simp only[aE,aM,or_false,not_or] at hc;exact hk c o hc.1 hc.2.2.1 hc.2.2.2 e
theorem Ke {A':Around} {R:Result->Shared->Prop} (hh:A'.handled=none) (O:a.Ok) (hz:xs.length<=sizeLine) (hl:ys.length=xs.length) (q1:bO X.K H1 l1 xs) (q2:bO X.K H1 l2 ys)
  (fin:∀s' H' ts acc c,Inv X pins σ H' s'->aG H1 H'->kU X pins H' a.S->s'.heap.get? a.S=some (lobj acc c)->cK ts acc->Paired (N3 H') (xs.zip ys) ts->R (.ok (.ret .none)) s') :
  ∀(k i:Nat) (s:Shared) (H:Hp) (ts:List V) (acc:List Value) (c:Nat),xs.length - i=k->i<=xs.length->Nt X pins σ H1 a l1 l2 i H s->s.heap.get? a.S=some (lobj acc c)->cK ts acc->Paired (N3 H) ((xs.zip ys).take i) ts →
   codeAny (model X.prog X.w) A' (.builtin "list.extend.loop" ⟨[.ref a.S,.ref a.z,.none],[]⟩) R s:=by
 have Sn:a.S∉[a.z,a.TO,a.i1,a.i2]:=λh=>by
  simp only[aE,aM,or_false] at h;rcases h with e | e | e | e
  ·exact O.Sz e
  ·exact O.STO e
  ·exact O.Si1 e
  ·exact O.Si2 e
 intro k
 induction k with
 | zero =>
  intro i s H ts acc c hk hi L gS rv prs;have e:i=xs.length:=by lia
  refine codeAny_builtin Pn ?_;rw[Around.under_plainId mR _]
  change wpAny _ A'.in1 (pyNext (Value.ref a.z) >>= _) _ _ s
  refine wpAny_bind (Kb hh O q1 q2 (by lia) L λs' I' up=>wpAny_pure (fin s' H ts acc c I' L.same (L.fps _ (by simp [EU.all])) (up _ _ Sn gS) rv ?_));rwa [aL (by rw[Cg];lia)] at prs
 | succ k ih =>
  intro i s H ts acc c hk hi L gS rv prs;have hlt:i < xs.length:=by lia
  have lt:=prs.length;have la:=rv.length;refine codeAny_builtin Pn ?_;rw[Around.under_plainId mR _]
  change wpAny _ A'.in1 (pyNext (Value.ref a.z) >>= _) _ _ s
  refine wpAny_bind (Kc O q1 q2 (x:=xs[i]) (y:=ys[i]'(by lia)) (by simp [hlt]) (by simp) L λs' L' up hT=>?_);have gS':=up _ _ Sn gS
  change wpAny _ A'.in1 (updateSeq a.S (·.push (Value.ref s.heap.objs.size)) >>= _) _ _ s'
  have small:acc.length<=sizeLine:=by
   rw[dq,Cg] at lt
   lia
  refine wpAny_bind (wpAny_updateSeq gS' rfl (wpAny_pure ⟨plainId_quiet mR _,?_⟩) (by rw[aJ];exact small) (by
   show (acc.toArray.push (Value.ref s.heap.objs.size)).size<=sizeLine+1
   rw[Array.size_push,aJ]
   lia))
  have gS2:=mo gS' (λb=>b.push (Value.ref s.heap.objs.size));have e2:(acc.toArray.push (Value.ref s.heap.objs.size))=(acc++[Value.ref s.heap.objs.size]).toArray:=by simp
  rw[e2] at gS2;refine ih (i+1) _ (upd H s.heap.objs.size (.tup [xs[i],ys[i]'(by lia)])) (ts++[.ref s.heap.objs.size]) (acc++[.ref s.heap.objs.size]) _ (by lia) hlt (L'.push O (λb o hb e=>(Heap.get?_update_other _ _ (Ne.symm hb)).trans e) (Heap.size_update ..)) gS2 (rv.append (show cK [V.ref s.heap.objs.size] [Value.ref s.heap.objs.size] from .cons rfl .nil)) ?_;have zp:(xs.zip ys)[i]?=some (xs[i],ys[i]'(by lia)):=by simp [Po,hlt]
  rw[take_snoc zp];exact (Paired.imp' (λ_ _ z=>z.same (aG.new hT)) prs).snoc ⟨_,rfl,aI⟩
theorem GJ:typeLookup (.type "zip") "__len__"=pure Option.none:=by rw[typeLookup_type,builtinLookup_eq_fast];kernel_rfl
theorem E7:typeLookup (.type "zip") "__length_hint__"=pure Option.none:=by rw[typeLookup_type,builtinLookup_eq_fast];kernel_rfl
theorem Kd {A' : Around} {R : Result → Shared → Prop} (hh : A'.handled = none) (O : a.Ok) (hz : xs.length ≤ sizeLine) (hl : ys.length = xs.length) (q1 : bO X.K H1 l1 xs) (q2 : bO X.K H1 l2 ys) (L : Nt X pins σ H1 a l1 l2 0 H s) (gS : s.heap.get? a.S = some (lobj [] 0)) (z0 : IsZip s.heap a.z a.TI a.TO .none)
    (fin : ∀ s' H' ts acc c, Inv X pins σ H' s' → aG H1 H' → kU X pins H' a.S → s'.heap.get? a.S = some (lobj acc c) → cK ts acc → Paired (N3 H') (xs.zip ys) ts → R (.ok (.ret .none)) s') :
    wpAny (model X.prog X.w) A'.in1 (Builtin.«list.__init__» ⟨[.ref a.S, .ref a.z], []⟩) (λfl s' => match fl with | .done f => R (.ok f) s' | .again c' => c'.quiet = true /\ codeAny (model X.prog X.w) A' c' R s') (λe s' => R (.error e) s') s := by
  change wpAny _ A'.in1 (do let old <- Builtin.List.listItems (Value.ref a.S); Builtin.List.listUpdate (Value.ref a.S) (λ_ => #[]); letGo old.toList.reverse; Builtin.List.listExtendWith (Value.ref a.S) (Value.ref a.z) Value.none) _ _ s
  refine wpAny_bind ?_;unfold Builtin.List.listItems;refine wpAny_bind (wpAny_seqItems gS rfl (wpAny_pure ?_))
  change wpAny _ A'.in1 (updateSeq a.S (λ_ => #[]) >>= λ_ => letGo (#[] : Array Value).toList.reverse >>= λ_ => Builtin.List.listExtendWith (Value.ref a.S) (Value.ref a.z) Value.none) _ _ s
  refine wpAny_bind (wpAny_updateSeq gS rfl ?_);have g1 := mo gS (λ_ => (#[] : Array Value));obtain ⟨n1, g1⟩ : ∃ n1, (s.heap.update a.S (Obj.mapSeq λ_ => (#[] : Array Value))).get? a.S = some (lobj [] n1) := ⟨_, g1⟩;have L1 := L.push (h' := s.heap.update a.S (Obj.mapSeq λ_ => (#[] : Array Value))) O (λb o hb e => (Heap.get?_update_other _ _ (Ne.symm hb)).trans e) (Heap.size_update ..);have z1 : IsZip (s.heap.update a.S (Obj.mapSeq λ_ => (#[] : Array Value))) a.z a.TI a.TO .none := (Heap.get?_update_other _ _ O.Sz).trans z0;refine wpAny_bind (wpAny_letGo ?_);unfold Builtin.List.listExtendWith;have ty : Shared.TypeIs { s with heap := s.heap.update a.S (Obj.mapSeq λ_ => (#[] : Array Value)) } (.ref a.z) "zip" := ⟨_, z1, rfl⟩;refine wpAny_bind (wpAny_typeOf ty ?_);have h1 : Builtin.List.listSameRef (.ref a.S) (.ref a.z) = false := by simp [Builtin.List.listSameRef, O.Sz]
  have h2 : (Value.type "zip" == Value.type "list") = false := by decide
  have h3 : (Value.type "zip" == Value.type "tuple") = false := by decide
  simp only [h1, h2, h3, Bool.or_false, jl, if_false];refine wpAny_bind (wpAny_pyIter_zip z1 (wpAny_bind (wpAny_holding ?_)));unfold Builtin.List.listLengthHint;refine wpAny_bind (wpAny_specialOf ty GJ ?_)
  change wpAny _ A'.in1 (specialOf (Value.ref a.z) (Str.ofString "__length_hint__") >>= _) _ _ _
  refine wpAny_bind (wpAny_specialOf ty E7 (wpAny_pure ?_))
  change wpAny _ A'.in1 (rule "list.extend.makes-room" >>= λ_ => Builtin.List.listTouch (Value.ref a.S) >>= λ_ => again (.builtin "list.extend.loop" ⟨[Value.ref a.S, Value.ref a.z, Value.none], []⟩)) _ _ _
  refine wpAny_bind (wpAny_rule (wpAny_bind ?_))
  change wpAny _ A'.in1 (updateSeq a.S (·.push Value.none) >>= λ_ => updateSeq a.S (·.pop)) _ _ _
  refine wpAny_bind (wpAny_updateSeq g1 rfl ?_);have g2 := mo g1 (λb => b.push Value.none);obtain ⟨n2, g2⟩ : ∃ n2, ((s.heap.update a.S (Obj.mapSeq λ_ => (#[] : Array Value))).update a.S (Obj.mapSeq λb => b.push Value.none)).get? a.S = some (lobj [Value.none] n2) := ⟨_, g2⟩;have L2 := L1.push (h' := (s.heap.update a.S (Obj.mapSeq λ_ => (#[] : Array Value))).update a.S (Obj.mapSeq λb => b.push Value.none)) O (λb o hb e => (Heap.get?_update_other _ _ (Ne.symm hb)).trans e) (Heap.size_update ..);refine wpAny_updateSeq g2 rfl ?_ (jU rfl);have g3 := mo g2 (λb => b.pop);have L3 := L2.push (h' := ((s.heap.update a.S (Obj.mapSeq λ_ => (#[] : Array Value))).update a.S (Obj.mapSeq λb => b.push Value.none)).update a.S (Obj.mapSeq λb => b.pop)) O (λb o hb e => (Heap.get?_update_other _ _ (Ne.symm hb)).trans e) (Heap.size_update ..);exact wpAny_pure ⟨plainId_quiet mR _, Ke hh O hz hl q1 q2 fin _ 0 _ H [] [] _ rfl (bo _) L3 g3 .nil .nil⟩
end
section
variable {X:Cx}
theorem Oa (n:Nat):EU.Ok ⟨n+4,n+2,n+3,n,n+1,n+5,n+5+1⟩:=by
 have ne:∀p q:Nat,p≠q->@Ne Addr p q:=λ_ _ h=>h
 refine ⟨ne (n+2) (n+3) (by lia),ne n (n+1) (by lia),ne (n+5) (n+4) (by lia),ne (n+5) (n+2) (by lia),ne (n+5) (n+3) (by lia),ne (n+5) n (by lia),ne (n+5) (n+1) (by lia),λb hb=>?_⟩;have hb':b∈[n+4,n+2,n+3,n,n+1,n+5]:=hb;show @LT.lt Nat instLTNat b (n+5+1)
 simp only[aE,aM,or_false] at hb';rcases hb' with e | e | e | e | e | e <;> (rw[e];exact bH (eI _) (by lia))
def Fd (K:FG9) (ta:TA):TE:=λσ H Q=>ta σ H λvs H1=>∃(l1 l2:Addr) (xs ys:List V),vs=[.ref l1,.ref l2]/\bO K H1 l1 xs/\bO K H1 l2 ys/\ys.length=xs.length /\
 ∀L ts H',aG H1 H'->H1 L=none->H' L=some (.lst ts)->Paired (N3 H') (xs.zip ys) ts->Q (.ref L) H'
theorem Hr {e1 e2:Expr} {ta:TA} {p p2 pos pos2:Pos} (hg:Gl X "list") (hm:X.mg "list"=none) (hg2:Gl X "zip") (hm2:X.mg "zip"=none) (ha:PA X [e1,e2] ta) (hc:X.calm=true:=by rfl)
  (hs:starEach [e1,e2] X.env=[(false,eval e1 X.env),(false,eval e2 X.env)]:=by rfl) (hs2:starEach [e2] X.env=[(false,eval e2 X.env)]:=by rfl)
  (hs3:starEach [Expr.Call (.Name "zip" p2) [e1,e2] [] pos2] X.env=[(false,eval (.Call (.Name "zip" p2) [e1,e2] [] pos2) X.env)]:=by rfl) :
  PE X (.Call (.Name "list" p) [.Call (.Name "zip" p2) [e1,e2] [] pos2] [] pos) (Fd X.K ta):=by
 intro pins s σ H Q I h;refine wpAny_Call_Name_kw (oR I hg hm boot_list ?_);refine PyProof.Rows.callWith_type1 ?_ (by rw[hs3];rfl) rfl;rw[hs3];show wpAny _ _ (spliced ((false,eval (.Call (.Name "zip" p2) [e1,e2] [] pos2) X.env) :: [])) _ _ s
 refine Calls.spliced_cons ?_;refine Call_ (oR I hg2 hm2 boot_zip (PyProof.Rows.callWith_type1 (gO (ha pos2 pins s σ H _ I h) λus s1 ⟨vs,H1,I1,r1,q1⟩=>?_) (by rw[hs,hs2]) (by rw[hs2];rfl)));obtain ⟨l1,l2,xs,ys,e,qx,qy,hl,q⟩:=q1;subst e;obtain ⟨u,v,rfl,ru,rv⟩:=vals2 r1;cases ru;cases rv;obtain ⟨us,rx,px,hz⟩:=I1.list qx;obtain ⟨ws,ry,py,_⟩:=I1.list qy;refine call_zip_2 px.isList py.isList λh' a1 a2 a3 a4 a5 a6 hk=>?_
 refine Calls.spliced_nil ?_;have I2:Inv X pins σ H1 { s1 with heap:=h' }:=I1.kept (t':=s1.toks) hk;have up:∀b o,h'.get? b=some o->(h'.push { cls:=.type "list",data:=.seq #[] }).get? b=some o:=λb o e=>Heap.get?_push_of_some _ e
 have O:EU.Ok ⟨s1.heap.objs.size+4,s1.heap.objs.size+2,s1.heap.objs.size+3,s1.heap.objs.size,s1.heap.objs.size+1,h'.objs.size,h'.objs.size+1⟩:=by
  rw[a6];exact Oa s1.heap.objs.size
 have old:∀b∈(EU.mk (s1.heap.objs.size+4) (s1.heap.objs.size+2) (s1.heap.objs.size+3) s1.heap.objs.size (s1.heap.objs.size+1) h'.objs.size (h'.objs.size+1)).all,s1.heap.objs.size<=b:=λb hb=>by
  rw[a6] at hb;simp only[EU.all,aE,aM,or_false] at hb;rcases hb with rfl | rfl | rfl | rfl | rfl | rfl <;> first | exact Nat.le_add_right _ _ | exact au _
 have gS:(h'.push { cls:=.type "list",data:=.seq #[] }).get? h'.objs.size=some (lobj [] 0):=Heap.get?_push_size _ rfl;refine callType_codes (Q₁:=λob t=>ob=.ref h'.objs.size/\t={ s1 with heap:=h'.push { cls:=.type "list",data:=.seq #[] } }) PySem.F.called_list (PySem.F.typeCall_list_1 _) PySem.F.entry_list_init (code_list_new _ ⟨rfl,rfl⟩) λob t ht=>?_
 obtain ⟨rfl,rfl⟩:=ht;refine ⟨⟨_,gS,rfl⟩,PySem.F.args_list_init_2 _ _,?_⟩
 have L:Nt X pins σ H1 ⟨s1.heap.objs.size+4,s1.heap.objs.size+2,s1.heap.objs.size+3,s1.heap.objs.size,s1.heap.objs.size+1,h'.objs.size,h'.objs.size+1⟩ l1 l2 0 H1 { s1 with heap:=h'.push { cls:=.type "list",data:=.seq #[] } } :=
  ⟨I2.kept (t':=s1.toks) up,aG.refl _,λb hb=>I1.fpOk (old b hb) (I1.hok.fresh (old b hb)),by rw[Heap.size_push];exact au _,⟨⟨_,_,up _ _ a3⟩,.inl (up _ _ a1)⟩,up _ _ a2,a4.at λo e=>up _ o e,a5.at λo e=>up _ o e⟩
 refine Kd (A':=X.A.in1) (I.ok.hd hc) O hz hl qx qy L gS (up _ _ a1) λs' H' ts acc c I' sm fS gS' vs' prs=>⟨rfl,?_⟩
 have nS:H1 h'.objs.size=none:=I1.hok.fresh (old _ (by simp [EU.all]));have lt:=prs.length;rw[Cg] at lt;exact ⟨.ref h'.objs.size,_,I'.track (o:=.lst ts) fS ⟨by lia,acc,c,vs',gS'⟩,rfl,q _ ts _ (sm.trans (aG.new fS.1)) nS aI (Paired.imp' (λ_ _ z=>z.same (aG.new fS.1)) prs)⟩
end
end L2
namespace Nm
def y8:List Int->Int->Int
 | [],m=>m
 | b :: r,m=>y8 r (m*(b / g m b))
theorem yc {m b:Int} (hm:0 < m) (hb:0 < b):0 < m*(b / g m b):=jd hm (EE (t:=m) hb)
theorem EA {m b : Int} : b ∣ m * (b / g m b) := by
  have h1 := BF m b;refine ⟨lo m b, ?_⟩;have h2 : b / g m b * g m b = b := za m b
  calc m * (b / g m b) = lo m b * g m b * (b / g m b) := by rw [h1]
    _ = lo m b * (b / g m b * g m b) := by rw [dC, fA (g m b)]
    _ = b * lo m b := by rw [h2, fA]
theorem BH:∀{bs:List Int} {m:Int},0 < m->(∀b∈bs,0 < b)->0 < y8 bs m
 | [],_,hm,_=>hm
 | b :: r,m,hm,h=>BH (bs:=r) (yc hm (h b cT)) λc hc=>h c (bT _ hc)
theorem FX:∀{bs:List Int} {m:Int},m∣y8 bs m
 | [],_=>Jn _
 | b :: r,m=>Int.dvd_trans (Int.dvd_mul_right m _) (FX (bs:=r))
theorem FW:∀{bs:List Int} {m b:Int},b∈bs->b∣y8 bs m
 | c :: r,m,b,h=>by
  rcases aE.mp h with rfl | h
  ·exact Int.dvd_trans EA (FX (bs:=r))
  ·exact FW (bs:=r) h
end Nm
namespace L2
open PySem PySem.Spec PyProof.Rows Nm
def EV (K:FG9) (H:Hp) (p:Addr) (ns:List (Int×Int)):Prop:=∃xs,H p=some (.lst xs)/\Paired (λn x=>yE K H x n) ns xs
theorem EV.same {K:FG9} {H H':Hp} {p:Addr} {ns:List (Int×Int)} (h:EV K H p ns) (e:aG H H'):EV K H' p ns:=by obtain ⟨xs,g,q⟩:=h;exact ⟨xs,e _ _ g,Paired.imp' (λ_ _ z=>e.num z) q⟩
def FH (K:FG9) (T:String):V->Hp->VK->Prop:=λx H Q=>JA K T x H Q\/∃a xs b,x=.ref a/\kj K H a xs/\PySem.W.kitOne K (.type "tuple") (.type T)=some b/\Q (.bl b) H
theorem Dv:∀{bs:List Int} {m b:Int},y8 (bs++[b]) m=y8 bs m*(b / g (y8 bs m) b)
 | [],_,_=>rfl
 | c :: r,m,b=>Dv (bs:=r)
def fu (ns:List (Int×Int)) (B:Int):List Int:=ns.map λn=>n.1*(B / n.2)
def h8 (ns:List (Int×Int)):Int:=y8 (ns.map (·.2)) 1
def LD (ns ms:List (Int×Int)):Int:=(List.zipWith (·*·) (fu ns (h8 ns)) (fu ms (h8 ms))).sum
theorem rD {ns:List (Int×Int)} {n:Int×Int} (h:n∈ns):n.2∣h8 ns:=FW (az.mpr ⟨n,h,rfl⟩)
theorem GZ {σ:St} {H:Hp} {Q:VK} {K:FG9} {ta:TA} (h:ta σ H λvs H1=>∃(l1 l2:Addr) (xs ys:List V),vs=[.ref l1,.ref l2]/\bO K H1 l1 xs/\bO K H1 l2 ys/\ys.length=xs.length /\
 ∀L ts H',aG H1 H'->H1 L=none->H' L=some (.lst ts)->Paired (N3 H') (xs.zip ys) ts->Q (.ref L) H'):Fd K ta σ H Q:=h
theorem RA {m b:Int} (hb:0 < b) {k:Nat} (h:Sz k b):Sz k (g m b):=h.le (by
 have h1:(g m b).natAbs=Int.gcd m b:=by unfold g;simp
 rw[h1];exact ia (by lia) (by have:=ff (a:=m) (b:=b);exact eB.mpr this |> λz=>by simpa using z))
theorem L7 {ts us:List Int} {i:Nat} {pq:V×V} (h:((ts.map V.int).zip (us.map V.int))[i]?=some pq):∃t u,ts[i]?=some t/\us[i]?=some u/\pq=(.int t,.int u):=by
 rw[Po,aF,aF] at h;obtain ⟨h1,h2⟩:=h;cases e1:ts[i]? with
 | none=>rw[e1] at h1;cases h1
 | some t =>
  cases e2:us[i]? with
  | none=>rw[e2] at h2;cases h2
  | some u =>
   rw[e1] at h1;rw[e2] at h2;refine ⟨t,u,rfl,rfl,?_⟩;cases pq;simp at h1 h2;rw[h1,h2]
def Ju (K:FG9):Sp:=λvs H Q _=>∃x n,vs=[x]/\yE K H x n/\zR n/\∀H',aG H H'->Q (.bl true) H'
inductive yP (K:FG9) (vs:List V) (H:Hp) (Q:VK) (E9:XK):Prop
 | mk (p:Addr) (ns:List (Int×Int)):vs=[.ref p,.int ns.length]->EV K H p ns->ns.length<=1000->(∀n∈ns,zR n)->(∀H',aG H H'->Q (.bl true) H')->yP K vs H Q E9
theorem o6 {X:Cx} {a:Expr} {ta:TE} {pos:Pos} {c:Str} {T:String} {p p2:Pos} (hg:Gl X "isinstance") (hm:X.mg "isinstance"=none) (hb:bootBuiltins c=some (.type T)) (hmc:X.mg c=none) (ha:PE X a ta) (hgc:Gl X c:=by rfl) (hn:c≠"__name__":=by decide)
  (hd:(c == ("__debug__":Str))=false:=by decide) (he:starEach [a,.Name c p2] X.env=[(false,eval a X.env),(false,eval (.Name c p2) X.env)]:=by rfl)
  (hpl:(backTo pos (starEach [.Name c p2] X.env)).any (·.1)=false:=by rfl) (he2:starEach [.Name c p2] X.env=[(false,eval (.Name c p2) X.env)]:=by rfl):PE X (.Call (.Name "isinstance" p) [a,.Name c p2] [] pos) (QY (FH X.K T) ta):=by
 intro pins s σ H Q I h;refine wpAny_Call_Name_kw (oR I hg hm PyProof.Rows.boot_isinstance ?_);have hA:PA X [a,.Name c p2] (t8 ta (t8 (tC (.ty T)) Jp)):=ae ha (ae (Ac hgc hmc hb rfl hn hd) aj he2) (by rw[he,he2])
 have hq:t8 ta (t8 (tC (.ty T)) Jp) σ H (λvs H1=>∃x,vs=[x,.ty T]/\FH X.K T x H1 Q):=by
  show ta σ H λx H1=>∃x',[x,V.ty T]=[x',V.ty T]/\FH X.K T x' H1 Q
  have e:(λx H1=>∃x',[x,V.ty T]=[x',V.ty T]/\FH X.K T x' H1 Q)=λx H1=>FH X.K T x H1 Q:=by
   funext x H1;apply propext;constructor
   ·rintro ⟨x',e,q⟩;cases e;exact q
   ·intro q;exact ⟨x,rfl,q⟩
  rw[e];exact h
 refine PyProof.Rows.callWith_builtin1 (gO (hA pos pins s σ H _ I hq) λus s1 ⟨vs,H1,I1,r1,x,e,q1⟩=>?_) (by rw[he,he2]) hpl;subst e;obtain ⟨u,w',rfl,ru,rt⟩:=vals2 r1;cases rt;rcases q1 with ⟨t,bb,ty,ek,q⟩ | ⟨ad,xs,bb,rfl,hs,ek,q⟩
 ·exact Dx I1 ru ty ek λtk=>⟨.bl bb,H1,I1.tok tk,rfl,q⟩
 ·cases ru;obtain ⟨its,_,⟨o,g1,g2,_⟩,_⟩:=I1.tuple hs;exact dm wL I1.kIn ⟨o,g1,g2⟩ ek (λz=>nomatch z) λtk=>⟨.bl bb,H1,I1.tok tk,rfl,q⟩
theorem Ky {H:Hp} {Q:VK} {l:Addr} {k:Nat} {x:V} (h:H l=some (.lst [x])) (hk:k<=1000) (q:∀p H',aG H H'->H p=none->H' p=some (.lst (List.replicate k x))->Q (.ref p) H'):Qm (.ref l) (.int k) H Q :=
 ⟨l,k,[x],rfl,rfl,h,by lia,by lia,bg (bN (by simp;lia)),λp hp=>q p _ (aG.new hp) hp (by rw[aI];simp)⟩
theorem Pa {xs:List V} {k:Nat} (h:k<=xs.length):yn xs none (some (k:Int))=xs.take k:=by
 unfold yn;rw[HT.FC,HT.IB,Nat.min_eq_left h];simp
theorem xa {α β:Type} {F:α->β->Prop} {x:α} {y:β} (h:F x y):∀m:Nat,Paired F (List.replicate m x) (List.replicate m y)
 | 0=>.nil
 | m+1=>.cons h (xa h m)
theorem fw {n a:Nat} (h:a < n):J6 n (a:Int)=some a:=by
 unfold J6;rw[if_pos (by lia),if_pos (by lia),Int.toNat_natCast]
theorem LI {xs:List V} {k:Nat}:yn xs none (some (k:Int))=xs.take k:=by
 by_cases h:k<=xs.length
 ·exact Pa h
 ·unfold yn;rw[HT.FC,HT.IB,Nat.min_eq_right (by lia),aL (by simp),aL (by lia)];rfl
theorem zB {α β:Type} {F:α->β->Prop}:∀{l1:List α} {l2:List β} (_:Paired F l1 l2) (k:Nat),Paired F (l1.take k) (l2.take k)
 | _,_,.nil,k=>by simp;exact .nil
 | _,_,.cons h r,0=>.nil
 | _,_,.cons h r,k+1=>.cons h (zB r k)
def MJ (K:FG9):List V->Hp->VK->Prop:=λxs H Q=>∃p ys,xs=[.ref p]/\(bO K H p ys\/kj K H p ys)/\∀l,H l=none->Q (.ref l) (upd H l (.lst ys))
theorem i8 {X:Cx} (K:FG9) (hK:X.K=K):oV X (.type "list") (MJ K):=by subst hK;exact yo
theorem aG.none {H H':Hp} {l:Addr} (s:aG H H') (h:H' l=Option.none):H l=Option.none:=by
 cases e:H l with
 | none=>rfl
 | some o=>have:=s _ _ e;rw[h] at this;cases this
def N4 (K:FG9) (H:Hp) (p:Addr) (rows:List (List (Int×Int))):Prop:=∃xs,H p=some (.lst xs)/\Paired (λns x=>∃q,x=V.ref q/\EV K H q ns) rows xs
theorem Kl {b:Int} (h:b.natAbs<=1000000):Sz 20 b:=bB h (by decide)
theorem cO.none {H H':Hp} {b l:Addr} (u:cO b H H') (B:iV H' b) (h:H' l=Option.none):H l=Option.none:=by
 cases e:H l with
 | none=>rfl
 | some o =>
  by_cases z:l=b
  ·obtain ⟨_,_,_,_,_,e2,_⟩:=B;rw[<- z,h] at e2;cases e2
  ·have:=u.1 l o e z;rw[h] at this;cases this
inductive AH (K:FG9) (vs:List V) (H:Hp) (Q:VK) (E9:XK):Prop
 | mk (p:Addr) (rows:List (List (Int×Int))) (m:Nat):vs=[.ref p,.int rows.length,.int m]->N4 K H p rows->rows.length<=1000->m<=1000->((∀ns∈rows,ns.length=m/\∀n∈ns,zR n))->(∀H',aG H H'->Q (.bl true) H')->AH K vs H Q E9
end L2
namespace Nm
def nm (q:Rat):Int×Int:=(q.num,(q.den:Int))
theorem ij (q:Rat):0 < (nm q).2:=by have:=q.den_pos;show 0 < (q.den:Int);lia
theorem Ex (q:Rat):Int.gcd (nm q).1 (nm q).2=1:=q.reduced
theorem OS {p q:Rat} (h:nm p=nm q):p=q:=by
 have h1:p.num=q.num:=congrArg Prod.fst h;have h2:(p.den:Int)=q.den:=congrArg Prod.snd h;exact Rat.ext h1 (by lia)
theorem m5 (q : Rat) : (q.num : Rat) = q * (q.den : Rat) := by
  have h := Rat.num_divInt_den q;rw [Rat.divInt_eq_div] at h
  have hd : ((q.den : Int) : Rat) ≠ 0 := by
    intro z;have z := zV.mp z;have := q.den_pos
    lia
  have e : ((q.den : Int) : Rat) = (q.den : Rat) := bw _
  calc (q.num : Rat) = (q.num : Rat) / ((q.den : Int) : Rat) * ((q.den : Int) : Rat) := (Rat.div_mul_cancel hd).symm
    _ = q * (q.den : Rat) := by rw [h, e]
theorem Qs {a b:Int} {q:Rat} (hb:0 < b) (hg:Int.gcd a b=1) (e:q*(b:Rat)=(a:Rat)):(a,b)=nm q:=by
 have h1:a*(q.den:Int)=q.num*b:=by
  apply dD.mp;rw[aQ,aQ,<- e,m5,bw];grind
 obtain ⟨e1,e2⟩:=uniq hb (ij q) hg (Ex q) h1;exact Prod.ext e1 e2
theorem sG {t b:Int} {q:Rat} (hb:0 < b) (e:q*(b:Rat)=(t:Rat)):(lo t b,hi t b)=nm q:=by
 refine Qs (EE hb) (Bw (by lia)) ?_;have h:=By t b;have hb':(b:Rat)≠0:=λz=>by have:=zV.mp z;lia
 have h2:((lo t b:Int):Rat)*(b:Rat)=(t:Rat)*((hi t b:Int):Rat):=by rw[<- aQ,h,aQ]
 rw[<- e] at h2;have h3:(q*((hi t b:Int):Rat) - ((lo t b:Int):Rat))*(b:Rat)=0:=by grind
 rcases LZ.mp h3 with h4 | h4
 ·grind
 ·exact absurd h4 hb'
def Fr (M V:Nat) (q:Rat):Prop:=∃z:Int,q*(M:Rat)=(z:Rat)/\z.natAbs<=V*M
theorem Fr.mono {M V V':Nat} {q:Rat} (h:Fr M V q) (l:V<=V'):Fr M V' q:=by obtain ⟨z,e,b⟩:=h;exact ⟨z,e,ai b (aB _ l)⟩
theorem Fr.scale {M V:Nat} {q:Rat} (h:Fr M V q) (k:Nat):Fr (M*k) V q:=by
 obtain ⟨z,e,b⟩:=h;refine ⟨z*k,?_,?_⟩
 ·rw[Cc,aQ,<- e,bw,Rat.mul_assoc]
 ·rw[eQ,cU,<- cE];exact aB _ b
theorem Fr.scaleL {M V:Nat} {q:Rat} (h:Fr M V q) (k:Nat):Fr (k*M) V q:=by rw[bV];exact h.scale k
theorem Fr.dvd {M N V:Nat} {q:Rat} (h:Fr M V q) (d:M∣N):Fr N V q:=by obtain ⟨k,rfl⟩:=d;exact h.scale k
theorem Fr.add {M V W:Nat} {p q:Rat} (h:Fr M V p) (h':Fr M W q):Fr M (V+W) (p+q):=by
 obtain ⟨z,e,b⟩:=h;obtain ⟨z',e',b'⟩:=h';refine ⟨z+z',by rw[Ce,<- e,<- e',Rat.add_mul],?_⟩;rw[yH];have:=Int.natAbs_add_le z z'
 lia
theorem Fr.neg {M V:Nat} {q:Rat} (h:Fr M V q):Fr M V (-q):=by
 obtain ⟨z,e,b⟩:=h;exact ⟨-z,by rw[di,<- e,Rat.neg_mul],by rw[qG];exact b⟩
theorem Fr.mul {M N V W : Nat} {p q : Rat} (h : Fr M V p) (h' : Fr N W q) : Fr (M * N) (V * W) (p * q) := by
  obtain ⟨z, e, b⟩ := h;obtain ⟨z', e', b'⟩ := h';refine ⟨z * z', ?_, ?_⟩
  · rw [Cc, aQ, <- e, <- e']; grind
  · rw [eQ]
    calc z.natAbs * z'.natAbs ≤ (V * M) * (W * N) := aN b b'
      _ = V * W * (M * N) := by rw [cE, Nat.mul_left_comm M, <- cE]
theorem Fr.zero {M V:Nat}:Fr M V 0:=⟨0,by simp,by simp⟩
theorem Fr.int {M V:Nat} {i:Int} (h:i.natAbs<=V):Fr M V (i:Rat):=⟨i*M,by rw[aQ,bw],by rw[eQ,cU];exact aB _ h⟩
theorem Fr.den {M V:Nat} {q:Rat} (h:Fr M V q):(q.den:Int)∣(M:Int):=by
 obtain ⟨z,e,b⟩:=h
 have h1:q.num*(M:Int)=z*(q.den:Int):=by
  apply dD.mp;rw[aQ,aQ,<- e,m5,bw,bw];grind
 have h2:(q.den:Int)∣q.num*(M:Int):=⟨z,by rw[h1,fA]⟩;exact sJ (by rw[mG];exact Ex q) h2
theorem Fr.den_le {M V:Nat} {q:Rat} (h:Fr M V q) (hM:0 < M):q.den<=M:=ia hM (oX.mp h.den)
theorem Fr.num_le {M V:Nat} {q:Rat} (h:Fr M V q) (hM:0 < M):q.num.natAbs<=V*M:=by
 have hd:=h.den;obtain ⟨z,e,b⟩:=h;obtain ⟨k,hk⟩:=oX.mp hd;have hk0:k≠0:=λz=>by rw[z,As] at hk;lia
 have h1:z=q.num*(k:Int):=by
  apply dD.mp;rw[aQ,<- e,m5,bw,hk,Cc];grind
 rw[h1] at b;exact ai (qL (by lia)) b
theorem Fr.own (q:Rat) {V:Nat} (h:q.num.natAbs<=V):Fr q.den V q:=⟨q.num,(m5 q).symm,ai h (de _ q.den_pos)⟩
theorem Fr.sz {M V k j:Nat} {q:Rat} (h:Fr M V q) (hM:0 < M) (h1:M<=2^k) (h2:V<=2^j):Sz (j+k+1) (nm q).1/\Sz (k+1) (nm q).2:=by
 constructor
 ·show q.num.natAbs < 2^(j+k+1)
  have h3:=h.num_le hM;have h4:V*M<=2^j*2^k:=aN h2 h1;rw[gZ,bC];have:=Nat.two_pow_pos (j+k);rw[bC] at this
  lia
 ·show (q.den:Int).natAbs < 2^(k+1)
  have h3:=h.den_le hM;rw[cU,gZ];have:=Nat.two_pow_pos k
  lia
theorem Fr.sum {M V:Nat}:∀{l:List Rat},(∀x∈l,Fr M V x)->Fr M (l.length*V) l.sum
 | [],_=>by simp;exact Fr.zero
 | x :: r,h=>by
  rw[List.sum_cons,bD,mB,mD];exact (h x (.head _)).add (Fr.sum λy hy=>h y (.tail _ hy))
def dh (xs ys:List Rat):Rat:=(List.zipWith (·*·) xs ys).sum
theorem Fr.dot {M N V W : Nat} {xs ys : List Rat} (h : ∀ x ∈ xs, Fr M V x) (h' : ∀ y ∈ ys, Fr N W y) : Fr (M * N) (xs.length * (V * W)) (dh xs ys) := by
  have q := Fr.sum (M := M * N) (V := V * W) (l := List.zipWith (· * ·) xs ys) λz hz => by
    obtain ⟨i, hi, e⟩ := bR hz;rw [List.getElem_zipWith] at e;rw [<- e];exact (h _ (aS _)).mul (h' _ (aS _))
  exact q.mono (aB _ (by rw [dX]; lia))
theorem Af : ∀ {bs : List Int} {m M : Int}, 0 < m → m ∣ M → (∀ b ∈ bs, 0 < b /\ b ∣ M) → y8 bs m ∣ M
  | [], _, _, _, h, _ => h
  | b :: r, m, M, hm, h, hb => by
    have b1 := hb b cT;refine Af (bs := r) (yc hm b1.1) ?_ λc hc => hb c (bT _ hc)
    have gp : 0 < g m b := BJ (by lia);have e1 := BF m b;have e2 := za m b;obtain ⟨u, hu⟩ := h;obtain ⟨v, hv⟩ := b1.2
    have h3 : lo m b * u = hi m b * v := by
      apply wO (show g m b ≠ 0 by lia)
      calc lo m b * u * g m b = lo m b * g m b * u := by rw [dC, fA u, <- dC]
        _ = m * u := by rw [e1]
        _ = M := hu.symm
        _ = b * v := hv
        _ = hi m b * g m b * v := by rw [e2]
        _ = hi m b * v * g m b := by rw [dC, fA (g m b), <- dC]
    have h4 : hi m b ∣ lo m b * u := ⟨v, h3⟩;have h5 : hi m b ∣ u := sJ (by rw [mG]; exact Bw (by lia)) h4;obtain ⟨w, hw⟩ := h5;refine ⟨w, ?_⟩;show M = m * hi m b * w
    rw [hu, hw, dC]
theorem EH {a b:Int} {k:Nat} (hb:0 < b) (d:a∣b) (h:Sz k b):Sz k a:=h.le (ia (by lia) (eB.mpr d))
end Nm
namespace Nm
def Dr (W:Nat) (x:Rat):Prop:=x.num.natAbs<=W/\x.den<=W
def xI:List Nat->Nat
 | []=>1
 | a :: r=>a*xI r
theorem yV:∀{l:List Nat},(∀a∈l,0 < a)->0 < xI l
 | [],_=>Nat.one_pos
 | a :: r,h=>cp (h a (.head _)) (yV λb hb=>h b (.tail _ hb))
theorem yW:∀{l:List Nat} {a:Nat},a∈l->a∣xI l
 | b :: r,a,h=>by
  rcases aE.mp h with rfl | h
  ·exact Nat.dvd_mul_right ..
  ·exact GA (yW h) (iY ..)
theorem AS {k:Nat}:∀{l:List Nat},(∀a∈l,a<=2^k)->xI l<=2^(k*l.length)
 | [],_=>by simp [xI]
 | a :: r,h=>by
  rw[bD,Nat.mul_succ,bC,bV (2^(k*r.length))];exact aN (h a (.head _)) (AS λb hb=>h b (.tail _ hb))
def GF (M V:Nat) (rows:LR9):Prop:=∀xs∈rows,∀x∈xs,Fr M V x
def Pj (c n i:Nat) (rows:LR9):Prop:=∃M,0 < M/\M<=2^(i*(c*n+2))/\GF M (2^(20+2*i)) rows
theorem O1 {c n:Nat}:Pj c n 0 []:=⟨1,by decide,by simp,λ_ h=>nomatch h⟩
theorem O2 (c n i:Nat):(i+1)*(c*n+2)=i*(c*n+2)+(c*n+2):=mB ..
theorem M7 {c n i:Nat} {rows:LR9} {xs:List Rat} (h:Pj c n i rows) (hl:xs.length=n) (hd:∀x∈xs,Dr (2^c) x) (hc:c<=20):Pj c n (i+1) (rows++[xs]):=by
 obtain ⟨M,h0,h1,h2⟩:=h
 have dp:0 < xI (xs.map (·.den)):=yV λa ha=>by
  obtain ⟨x,_,rfl⟩:=az.mp ha;exact x.den_pos
 have dl:xI (xs.map (·.den))<=2^(c*n):=by
  have:=AS (k:=c) (l:=xs.map (·.den)) λa ha=>by
   obtain ⟨x,hx,rfl⟩:=az.mp ha;exact (hd x hx).2
  rwa [ag,hl] at this
 refine ⟨M*xI (xs.map (·.den)),cp h0 dp,?_,λys hy x hx=>?_⟩
 ·rw[O2,bC];exact aN h1 (ai dl (ak (by decide) (by lia)))
 ·rcases ax.mp hy with hy | hy
  ·exact ((h2 ys hy x hx).scale _).mono (ak (by decide) (by lia))
  ·have e:ys=xs:=by simpa using hy
   subst e;have f:Fr x.den (2^c) x:=Fr.own x (hd x hx).1;have g:=(f.dvd (yW (az.mpr ⟨x,hx,rfl⟩))).scaleL M;exact g.mono (ak (by decide) (by lia))
def js (rows:LR9) (w:Nat):LR9:=(List.range w).map λj=>rows.map λxs=>xs.getD j 0
def dJ (one other:LR9) (w:Nat):LR9:=one.map λxs=>(js other w).map λys=>dh ys xs
theorem vh {rows:LR9} {w:Nat}:(js rows w).length=w:=by simp [js]
theorem CM {rows:LR9} {w:Nat}:∀ys∈js rows w,ys.length=rows.length:=λys hy=>by
 obtain ⟨j,_,rfl⟩:=az.mp hy;exact ag ..
theorem getD_map {α:Type} {l:List α} {f:α->Rat} {i:Nat} (h:i < l.length):(l.map f).getD i 0=f l[i]:=by
 rw[aa,aF,af h];rfl
end Nm
namespace L2
open PySem PySem.Spec PyProof.Rows Nm
theorem cO.sqt {K:FG9} {H H':Hp} {b a:Addr} {xs:List V} (u:cO b H H') (B:iV H b) (h:kj K H a xs):kj K H' a xs:=by
 rcases h with (h | ⟨o,h⟩) | h
 ·exact .inl (.inl (u.tup B h))
 ·exact .inl (.inr ⟨o,u.other (λz=>by obtain ⟨_,_,_,_,_,e,_⟩:=B;rw[z,e] at h;cases h) h⟩)
 ·exact .inr h
theorem Kn {K:FG9} {H:Hp} {a l:Addr} {xs ys:List V} {o:HO} (h:kj K H a xs) (hl:H l=some (.lst ys)):kj K (upd H l o) a xs:=by
 rcases h with (h | ⟨o,h⟩) | h
 ·exact .inl (.inl (by rw[bF λz=>by rw[z,hl] at h;cases h];exact h))
 ·exact .inl (.inr ⟨o,by rw[bF λz=>by rw[z,hl] at h;cases h];exact h⟩)
 ·exact .inr h
def cg (K:FG9) (H:Hp) (q:Rat) (x:V):Prop:=yE K H x (nm q)
section
variable {K:FG9} {H H':Hp} {q:Rat} {x:V} {b l p:Addr} {qs:List Rat}
theorem cg.same (h:cg K H q x) (e:aG H H'):cg K H' q x:=e.num h
theorem cg.upto (h:cg K H q x) (u:cO b H H') (B:iV H b):cg K H' q x:=by obtain ⟨p,e,s⟩:=h;exact ⟨p,e,u.sqt B s⟩
theorem cg.updL {ys:List V} {o:HO} (h:cg K H q x) (hl:H l=some (.lst ys)):cg K (upd H l o) q x:=by obtain ⟨p,e,s⟩:=h;exact ⟨p,e,Kn s hl⟩
theorem cg.mk {r:Addr} {a c:Int} (h:H r=some (.tup [.int a,.int c])) (e:(a,c)=nm q):cg K H q (.ref r):=⟨r,rfl,by rw[<- e];exact kj.of h⟩
def cX (K:FG9) (H:Hp) (p:Addr) (qs:List Rat):Prop:=∃xs,H p=some (.lst xs)/\Paired (cg K H) qs xs
theorem cX.same (h:cX K H p qs) (e:aG H H'):cX K H' p qs:=by obtain ⟨xs,g,r⟩:=h;exact ⟨xs,e _ _ g,Paired.imp' (λ_ _ z=>z.same e) r⟩
theorem cX.upto (h:cX K H p qs) (u:cO b H H') (B:iV H b) (n:p≠b):cX K H' p qs:=by obtain ⟨xs,g,r⟩:=h;exact ⟨xs,u.other n g,Paired.imp' (λ_ _ z=>z.upto u B) r⟩
theorem cX.updL {ys:List V} {o:HO} (h:cX K H p qs) (hl:H l=some (.lst ys)) (n:p≠l):cX K (upd H l o) p qs:=by obtain ⟨xs,g,r⟩:=h;exact ⟨xs,by rw[bF n];exact g,Paired.imp' (λ_ _ z=>z.updL hl) r⟩
theorem uj {α β γ:Type} {F:α->β->Prop} {f:γ->α}:∀{l:List γ} {l2:List β},Paired (λc x=>F (f c) x) l l2->Paired F (l.map f) l2
 | _,_,.nil=>.nil
 | _,_,.cons r t=>.cons r (uj t)
theorem cX.rowK (h:cX K H p qs):EV K H p (qs.map nm):=by obtain ⟨xs,g,r⟩:=h;exact ⟨xs,g,uj (F:=λn x=>yE K H x n) r⟩
def cP (K:FG9) (H0 H:Hp) (qs:List Rat) (x:V):Prop:=∃q,x=V.ref q/\H0 q=none/\cX K H q qs
def bI (K:FG9) (H0 H:Hp) (p:Addr) (rows:LR9):Prop:=∃xs,H p=some (.lst xs)/\Paired (cP K H0 H) rows xs/\V.ref p∉xs
theorem j6 {H0:Hp} {K:FG9} {p:Addr} {rows:LR9} {ys:List V} (h:∃H2,H2 p=none/\Paired (cP K H0 H2) rows ys):V.ref p∉ys:=λhm=>by
 obtain ⟨H2,e,pr⟩:=h;obtain ⟨qs,_,q,z,_,xs,g,_⟩:=cF pr hm;cases z;rw[e] at g;cases g
variable {H0:Hp} {rows:LR9}
theorem cP.same (h:cP K H0 H qs x) (e:aG H H'):cP K H0 H' qs x:=by obtain ⟨q,a,b,c⟩:=h;exact ⟨q,a,b,c.same e⟩
theorem cP.upto (h:cP K H0 H qs x) (u:cO b H H') (B:iV H b) (nb:H0 b≠none):cP K H0 H' qs x:=by obtain ⟨q,a,c,d⟩:=h;exact ⟨q,a,c,d.upto u B λz=>nb (by rw[<- z];exact c)⟩
theorem cP.weak (h:cP K H0 H qs x) {H1:Hp} (e:aG H1 H0):cP K H1 H qs x:=by obtain ⟨q,a,b,c⟩:=h;exact ⟨q,a,e.none b,c⟩
theorem bI.same (h:bI K H0 H p rows) (e:aG H H'):bI K H0 H' p rows:=by obtain ⟨xs,g,r,n⟩:=h;exact ⟨xs,e _ _ g,Paired.imp' (λ_ _ z=>z.same e) r,n⟩
theorem bI.upto (h:bI K H0 H p rows) (u:cO b H H') (B:iV H b) (n:p≠b) (nb:H0 b≠none):bI K H0 H' p rows:=by obtain ⟨xs,g,r,nn⟩:=h;exact ⟨xs,u.other n g,Paired.imp' (λ_ _ z=>z.upto u B nb) r,nn⟩
theorem bI.weak (h:bI K H0 H p rows) {H1:Hp} (e:aG H1 H0):bI K H1 H p rows:=by obtain ⟨xs,g,r,n⟩:=h;exact ⟨xs,g,Paired.imp' (λ_ _ z=>z.weak e) r,n⟩
theorem bI.gridK (h:bI K H0 H p rows):N4 K H p (rows.map (List.map nm)):=by obtain ⟨xs,g,r,_⟩:=h;exact ⟨xs,g,uj (F:=λns x=>∃q,x=V.ref q/\EV K H q ns) (Paired.imp' (λ_ _ ⟨q,a,_,c⟩=>⟨q,a,c.rowK⟩) r)⟩
end
def Le:Kind Rat:=Qu.via nm (λ_ _ e=>OS e) (λK H x q=>cg K H q x) id
def IT:Kind (List Rat):=MZ Le
def EC:Kind (LR9):=MZ IT
theorem cX.kind {K:FG9} {H:Hp} {p:Addr} {qs:List Rat} (h:cX K H p qs):IT.R K H (.ref p) qs:=by obtain ⟨xs,g,q⟩:=h;exact ⟨p,xs,rfl,bO.of g,q⟩
theorem bI.kind {K:FG9} {H0 H:Hp} {p:Addr} {rows:LR9} (h:bI K H0 H p rows):EC.R K H (.ref p) rows:=by obtain ⟨xs,g,q,_⟩:=h;exact ⟨p,xs,rfl,bO.of g,Paired.imp' (λ_ _ ⟨q,a,_,c⟩=>by rw[a];exact c.kind) q⟩
def mV (x:Rat):Prop:=Sz 4000 (nm x).1/\Sz 4000 (nm x).2
def Fits (l:List Rat):Prop:=∃M V:Nat,0 < M/\M<=2^900/\V<=2^900/\∀x∈l,Fr M V x
theorem Fits.szn {l:List Rat} (h:Fits l) {x:Rat} (hx:x∈l):mV x:=by
 obtain ⟨M,V,h0,h1,h2,h3⟩:=h;obtain ⟨a,b⟩:=(h3 x hx).sz h0 h1 h2;exact ⟨a.mono (by decide),b.mono (by decide)⟩
theorem Fits.ok {l:List Rat} (h:Fits l) {x:Rat} (hx:x∈l):zR (nm x):=⟨ij x,Ex x,(h.szn hx).1.mono (by decide),(h.szn hx).2.mono (by decide)⟩
theorem HW {M V:Nat} {x:Rat} (h0:0 < M) (h1:M<=2^1800) (h2:V<=2^1810) (h:Fr M V x):mV x:=by
 obtain ⟨a,b⟩:=h.sz h0 h1 h2;exact ⟨a.mono (by decide),b.mono (by decide)⟩
theorem Kk {x:Rat} (h:mV x):zR (nm x):=⟨ij x,Ex x,h.1.mono (by decide),h.2.mono (by decide)⟩
inductive rQ (K:FG9) (f:Rat->Rat->Rat) (vs:List V) (H:Hp) (Q:VK) (E9:XK):Prop
 | mk (u v:V) (x y:Rat):vs=[u,v]->cg K H x u->cg K H y v->mV x->mV y->(∀r H',aG H H'->cg K H' (f x y) (.ref r)->Q (.ref r) H')->rQ K f vs H Q E9
section
variable {K:FG9} {vs:List V} {H:Hp} {Q:VK} {E:XK}
theorem Hs {f:Rat->Rat->Rat} {F:Int->Int->Int->Int->Int} (hf:∀x y:Rat,(f x y)*(((nm x).2*(nm y).2:Int):Rat)=((F (nm x).1 (nm x).2 (nm y).1 (nm y).2:Int):Rat)) (h:rQ K f vs H Q E):Iz K F vs H Q E:=by
 obtain ⟨u,v,x,y,rfl,⟨p,rfl,hp⟩,⟨q,rfl,hq⟩,⟨s1,s2⟩,⟨s3,s4⟩,k⟩:=h;refine ⟨p,q,_,_,_,_,rfl,hp,hq,ij x,ij y,s1,s2,s3,s4,λr H' s g=>k r H' s (cg.mk g ?_)⟩;exact sG (jd (ij x) (ij y)) (hf x y)
theorem rY (x:Rat):(((nm x).1:Int):Rat)=x*(((nm x).2:Int):Rat):=by
 show (x.num:Rat)=x*(((x.den:Nat):Int):Rat)
 rw[m5,bw]
theorem Ji (h:rQ K (λx y=>x+y) vs H Q E):Iz K NW vs H Q E:=Hs (λx y=>by
 unfold NW;rw[Ce,aQ,aQ,aQ,rY,rY];grind) h
theorem z9 (h:rQ K (λx y=>x - y) vs H Q E):Iz K Ly vs H Q E:=Hs (λx y=>by
 unfold Ly;rw[Cd,aQ,aQ,aQ,rY,rY];grind) h
theorem IK (h:rQ K (λx y=>x*y) vs H Q E):Iz K Lx vs H Q E:=Hs (λx y=>by
 unfold Lx;rw[aQ,aQ,rY,rY];grind) h
end
def Ih (M:Int) (ns:List (Int×Int)):Prop:=0 < M/\Sz 4400 M/\∀n∈ns,0 < n.2/\n.2∣M/\Sz 4400 n.1
theorem Ih.bot {M:Int} {ns:List (Int×Int)} (h:Ih M ns):0 < h8 ns/\Sz 4400 (h8 ns):=by
 have hb:∀b∈ns.map (·.2),0 < b/\b∣M:=λb hb=>by
  obtain ⟨n,hn,rfl⟩:=az.mp hb;exact ⟨(h.2.2 n hn).1,(h.2.2 n hn).2.1⟩
 exact ⟨BH (by decide) λb q=>(hb b q).1,EH h.1 (Af (by decide) (Int.one_dvd _) hb) h.2.1⟩
inductive Ko (K:FG9) (vs:List V) (H:Hp) (Q:VK) (E9:XK):Prop
 | mk (p:Addr) (bs:List Int) (M:Int):vs=[.ref p]->bO K H p (bs.map V.int)->0 < M->Sz 4400 M->((∀b∈bs,0 < b/\b∣M))->Q (.int (y8 bs 1)) H->Ko K vs H Q E9
inductive Kq (K:FG9) (vs:List V) (H:Hp) (Q:VK) (E9:XK):Prop
 | mk (p:Addr) (ns:List (Int×Int)) (M:Int):vs=[.ref p]->EV K H p ns->ns.length<=1000->Ih M ns->(∀H',aG H H'->Q (.int (h8 ns)) H')->Kq K vs H Q E9
inductive Fi (K:FG9) (vs:List V) (H:Hp) (Q:VK) (E9:XK):Prop
 | mk (p:Addr) (ns:List (Int×Int)) (M:Int) (B:Int):vs=[.ref p,.int B]->EV K H p ns->ns.length<=1000->Ih M ns->0 < B->Sz 4400 B->(∀r H',H r=none->aG H H'->H' r=some (.lst ((fu ns B).map V.int))->Q (.ref r) H')->Fi K vs H Q E9
theorem Fb {M:Int} {ns:List (Int×Int)} {B t:Int} (h:Ih M ns) (hB:0 < B) (sB:Sz 4400 B) (ht:t∈fu ns B):Sz 8800 t:=by
 obtain ⟨n,hn,rfl⟩:=az.mp ht;have hp:=h.2.2 n hn
 have sq:Sz 4400 (B / n.2):=sB.le (by
  rw[Pp (by lia)];exact Nat.div_le_self ..)
 exact (hp.2.2.mul sq).mono (by lia)
theorem tZ {x:Rat} {B:Int} (h:(nm x).2∣B):(((nm x).1*(B / (nm x).2):Int):Rat)=x*(B:Rat):=by
 obtain ⟨k,rfl⟩:=h;have hp:=ij x;rw[Int.mul_ediv_cancel_left _ (by lia),aQ,aQ,rY];grind
theorem Gf {B C : Int} : ∀ {xs ys : List Rat}, (∀ x ∈ xs, (nm x).2 ∣ B) → (∀ y ∈ ys, (nm y).2 ∣ C) → (((List.zipWith (· * ·) (fu (xs.map nm) B) (fu (ys.map nm) C)).sum : Int) : Rat) = dh xs ys * ((B : Rat) * (C : Rat))
  | [], ys, _, _ => by simp [fu, dh]
  | x :: xs, [], _, _ => by simp [fu, dh]
  | x :: xs, y :: ys, h1, h2 => by
    have ih := Gf (B := B) (C := C) (xs := xs) (ys := ys) (λz hz => h1 z (.tail _ hz)) (λz hz => h2 z (.tail _ hz));have e1 := tZ (h1 x (.head _));have e2 := tZ (h2 y (.head _));have e3 : (List.zipWith (· * ·) (fu ((x :: xs).map nm) B) (fu ((y :: ys).map nm) C)).sum = ((nm x).1 * (B / (nm x).2)) * ((nm y).1 * (C / (nm y).2)) + (List.zipWith (· * ·) (fu (xs.map nm) B) (fu (ys.map nm) C)).sum := rfl;have e4 : dh (x :: xs) (y :: ys) = x * y + dh xs ys := rfl;rw [e3, e4, Ce, aQ, ih, e1, e2];grind
theorem Ng {xs ys:List Rat} (h1:0 < h8 (xs.map nm)) (h2:0 < h8 (ys.map nm)):(lo (LD (xs.map nm) (ys.map nm)) (h8 (xs.map nm)*h8 (ys.map nm)),hi (LD (xs.map nm) (ys.map nm)) (h8 (xs.map nm)*h8 (ys.map nm)))=nm (dh xs ys):=by
 refine sG (jd h1 h2) ?_;unfold LD;rw[Gf (λx hx=>rD (az.mpr ⟨x,hx,rfl⟩)) (λx hx=>rD (az.mpr ⟨x,hx,rfl⟩)),aQ]
inductive Fh (K:FG9) (vs:List V) (H:Hp) (Q:VK) (E9:XK):Prop
 | mk (p:Addr) (w:Nat) (H0:Hp) (rows:LR9):vs=[.ref p,.int w]->bI K H0 H p rows->rows.length<=1000->w<=1000->(∀xs∈rows,xs.length=w)->(∀r H',H r=none->aG H H'->bI K H H' r (js rows w)->Q (.ref r) H')->Fh K vs H Q E9
def Oc (m:Nat) (a:Int):List Rat:=(List.range m).map λ(i:Nat)=>if ((i:Nat):Int)=a then 1 else 0
inductive Fg (K:FG9) (vs:List V) (H:Hp) (Q:VK) (E9:XK):Prop
 | mk (m:Nat) (a:Int):vs=[.int m,.int a]->m<=1000->(∀r H',H r=none->aG H H'->cX K H' r (Oc m a)->Q (.ref r) H')->Fg K vs H Q E9
inductive AB (K:FG9) (vs:List V) (H:Hp) (Q:VK) (E9:XK):Prop
 | mk (b:Addr) (w:Nat):vs=[.ref b,.int w]->iV H b->1<=w->w<=1000000->(∀r x H',Dr (max w 6) x->cg K H' x (.ref r)->iV H' b->cO b H H'->Q (.ref r) H')->AB K vs H Q E9
inductive Fu (K:FG9) (vs:List V) (H:Hp) (Q:VK) (E9:XK):Prop
 | mk (b:Addr) (m w:Nat):vs=[.ref b,.int m,.int w]->iV H b->m<=1000->1<=w->w<=1000000->(∀r xs H',H r=none->cX K H' r xs->xs.length=m->(∀x∈xs,Dr (max w 6) x)->iV H' b->cO b H H'->Q (.ref r) H')->Fu K vs H Q E9
inductive Fl (K:FG9) (vs:List V) (H:Hp) (Q:VK) (E9:XK):Prop
 | mk (p q:Addr) (xs ys:List Rat):vs=[.ref p,.ref q]->cX K H p xs->cX K H q ys->ys.length=xs.length->xs.length<=1000->(∀x∈xs,mV x)->(∀y∈ys,mV y)->(∀r H',H r=none->aG H H'->cX K H' r (List.zipWith (λx y=>x+y) xs ys)->Q (.ref r) H')->Fl K vs H Q E9
inductive Kr (K:FG9) (vs:List V) (H:Hp) (Q:VK) (E9:XK):Prop
 | mk (u:V) (q:Addr) (c:Rat) (ys:List Rat):vs=[u,.ref q]->cg K H c u->mV c->cX K H q ys->ys.length<=1000->(∀y∈ys,mV y)->(∀r H',H r=none->aG H H'->cX K H' r (ys.map λy=>c*y)->Q (.ref r) H')->Kr K vs H Q E9
inductive AJ (K:FG9) (vs:List V) (H:Hp) (Q:VK) (E9:XK):Prop
 | mk (p:Addr) (H0:Hp) (rows:LR9):vs=[.ref p]->bI K H0 H p rows->rows.length<=1000->(∀xs∈rows,xs.length<=1000)->(∀r H',H r=none->aG H H'->bI K H H' r rows->Q (.ref r) H')->AJ K vs H Q E9
section
variable {K:FG9} {a:Addr} {xs:List V} {g:TG} {tf:TT} {te:TE} {Q:VK} {σ₀:St} {H:Hp} {α β:Type}
theorem cB {as:List α} {F:Hp->α->V->Prop} (G:Hp->β->V->Prop) (f:α->β) (hx:H a=some (.lst xs)) (pf:Paired (F H) as xs) (hl:as.length<=1000)
  (hF:∀{H H' c x},F H c x->aG H H'->F H' c x) (hG:∀{H H' c x},G H c x->aG H H'->G H' c x)
  (hs:∀(i:Nat) c x H' NY NN,as[i]?=some c->aG H H'->F H' c x->(∀y H2,aG H' H2->G H2 (f c) y->NY y H2)->qY σ₀ g tf te x H' NY NN)
  (hd:∀ys H' p,H p=none->aG H H'->H' p=some (.lst ys)->Paired (G H') (as.map f) ys->(∃H2,H2 p=none/\Paired (G H2) (as.map f) ys)->Q (.ref p) H'):rJ (LW K a) σ₀ g tf te Q H:=by
 have lx:=pf.length;refine eH (K:=K) (xs:=xs) (λi ys H'=>aG H H'/\Paired (G H') ((as.take i).map f) ys) (bg (bN (by lia))) ⟨aG.refl _,.nil⟩ (λi ys H' _ ⟨s,_⟩=>bO.of (s _ _ hx)) ?_ ?_
 ·rintro i x ys H' hx' hlen ⟨s,pr⟩;obtain ⟨c,ec,hc⟩:=cL pf hx';refine hs i c x H' _ _ ec s (hF hc s) λy H2 s2 gy=>⟨s.trans s2,?_⟩
  rw[take_snoc ec,cm];exact cM (Paired.imp' (λ_ _ z=>hG z s2) pr) (.cons gy .nil)
 ·rintro ys H' hy ⟨s,pr⟩ p hp;rw[aL (by lia)] at pr;exact hd ys _ p (s.none hp) (s.trans (aG.new hp)) aI (Paired.imp' (λ_ _ z=>hG z (aG.new hp)) pr) ⟨H',hp,pr⟩
theorem jO {n:Nat} (G:Hp->β->V->Prop) (f:Nat->β) (hl:n<=1000) (hG:∀{H H' c x},G H c x->aG H H'->G H' c x)
  (hs:∀(i:Nat) H' NY NN,i < n->aG H H'->(∀y H2,aG H' H2->G H2 (f i) y->NY y H2)->qY σ₀ g tf te (.int i) H' NY NN)
  (hd:∀ys H' p,H p=none->aG H H'->H' p=some (.lst ys)->Paired (G H') ((List.range n).map f) ys->(∃H2,H2 p=none/\Paired (G H2) ((List.range n).map f) ys)->Q (.ref p) H'):rJ (GD 0 n) σ₀ g tf te Q H:=by
 refine oS (λi ys H'=>aG H H'/\Paired (G H') ((List.range i).map f) ys) (bg (bN (by lia))) ⟨aG.refl _,.nil⟩ ?_ ?_
 ·rintro i ys H' hi hlen ⟨s,pr⟩;rw[vV];refine hs i H' _ _ hi s λy H2 s2 gy=>⟨s.trans s2,?_⟩
  rw[Cf,cm];exact cM (Paired.imp' (λ_ _ z=>hG z s2) pr) (.cons gy .nil)
 ·rintro ys H' hy ⟨s,pr⟩ p hp;exact hd ys _ p (s.none hp) (s.trans (aG.new hp)) aI (Paired.imp' (λ_ _ z=>hG z (aG.new hp)) pr) ⟨H',hp,pr⟩
theorem zd {n:Nat} {b:Addr} (G:Hp->β->V->Prop) (C:β->Prop) (hB:iV H b) (hl:n<=1000) (hG:∀{H' H'' c x},G H' c x->cO b H' H''->iV H' b->G H'' c x)
  (hs:∀(i:Nat) H' NY NN,i < n->cO b H H'->iV H' b->(∀y c H2,cO b H' H2->iV H2 b->C c->G H2 c y->NY y H2)->qY σ₀ g tf te (.int i) H' NY NN)
  (hd:∀ys cs H' p,H p=none->cO b H H'->iV H' b->H' p=some (.lst ys)->cs.length=n->(∀c∈cs,C c)->Paired (G H') cs ys->(∃H2,H2 p=none/\Paired (G H2) cs ys)->Q (.ref p) H'):rJ (GD 0 n) σ₀ g tf te Q H:=by
 refine oS (λi ys H'=>cO b H H'/\iV H' b/\∃cs,cs.length=i/\(∀c∈cs,C c)/\Paired (G H') cs ys) (bg (bN (by lia))) ⟨(aG.refl _).upto,hB,[],rfl,(λ_ z=>nomatch z),.nil⟩ ?_ ?_
 ·rintro i ys H' hi hlen ⟨u,B,cs,lc,hc,pr⟩;rw[vV];refine hs i H' _ _ hi u B λy c H2 u2 B2 cc gy=>⟨u.trans u2,B2,cs++[c],by simp [lc],ER hc cc,cM (Paired.imp' (λ_ _ z=>hG z u2 B) pr) (.cons gy .nil)⟩
 ·rintro ys H' hy ⟨u,B,cs,lc,hc,pr⟩ p hp;have s:aG H' (upd H' p (.lst ys)):=aG.new hp;exact hd ys cs _ p (u.none B hp) (u.same s) (B.same s) aI lc hc (Paired.imp' (λ_ _ z=>hG z s.upto B) pr) ⟨H',hp,pr⟩
end
section
variable {X:Cx}
theorem eL {n:Nat} {g:TG} {tb:TS} {D:Ends} {σ:St} {H:Hp} (Pv:Nat->St->Hp->Prop) (h0:Pv 0 σ H)
  (hs:∀(i:Nat) σ H,i < n->Pv i σ H->g (.int i) σ H λσ2 H2=>tb { D with nx:=Pv (i+1),ct:=Pv (i+1),bk:=D.nx } σ2 H2) (hd:∀σ H,Pv n σ H->D.nx σ H) :
  ∃W:Nat->Nat->St->Hp->Prop,(∃m,W 0 m σ H)/\∀i m σ H,W i m σ H →
   ((GD 0 n).stop i H/\D.nx σ H)\/((GD 0 n).go i H/\∃N:St->Hp->Prop,(∀σ' H',N σ' H'->∃m',m' < m/\W (i+1) m' σ' H')/\∀x H',(GD 0 n).yld i H x H'->g x σ H' λσ2 H2=>tb { D with nx:=N,ct:=N,bk:=D.nx } σ2 H2) :=
 Dy (lo:=0) Pv h0 (λi σ H hi p=>by rw[vV];exact hs i σ H hi p) hd
theorem rB:oV X (.type "int") (λxs H Q=>∃b:Bool,xs=[.bl b]/\Q (.int (if b=true then 1 else 0)) H):=by
 intro pins s σ H xs us Q I r h;obtain ⟨b,rfl,q⟩:=h;obtain ⟨u,rfl,ru⟩:=vals1 r;cases ru;exact call_int_bool ⟨.int _,H,I.tok _,⟨_,rfl⟩,q⟩
theorem CG (K:FG9) (hK:X.K=K):oV X (.builtin "len") (λxs H Q=>∃p ys,xs=[.ref p]/\(bO K H p ys\/kj K H p ys)/\Q (.int ys.length) H):=by subst hK;exact aT
theorem KI {st:Stmt}:PS X st (λ_ _ _=>False):=λ_ _ _ _ _ _ h=>h.elim
end
theorem La {t b:Int} {W:Nat} (hb:0 < b) (h1:t.natAbs<=W) (h2:b.natAbs<=W):∃q:Rat,(lo t b,hi t b)=nm q/\Dr W q/\q*(b:Rat)=(t:Rat):=by
 have hb':(b:Rat)≠0:=λz=>by have:=zV.mp z;lia
 have e:(t:Rat) / (b:Rat)*(b:Rat)=t:=Rat.div_mul_cancel hb';have h:=sG hb e;refine ⟨_,h,⟨?_,?_⟩,e⟩
 ·have:=congrArg Prod.fst h;have z:=lo_le (t:=t) (b:=b) (by lia);show ((nm ((t:Rat) / (b:Rat))).1).natAbs<=W
  rw[<- this];exact ai z h1
 ·have:=congrArg Prod.snd h;have z:=NT (t:=t) (b:=b) (by lia);have hd:(((t:Rat) / (b:Rat)).den:Int)=hi t b:=this.symm;have hp:=EE (t:=t) hb
  lia
theorem E3 {K:FG9} {H:Hp} {qs:List Rat} {xs:List V} (h:Paired (cg K H) qs xs) {j:Nat} (hj:j < qs.length):∃v,Ia xs (j:Int)=some v/\cg K H (qs.getD j 0) v:=by
 have hl:=h.length;refine ⟨xs[j]'(by lia),fz (by simp),?_⟩;have:=kO h (i:=j) hj (by lia);rwa [aa,af hj]
theorem DB {xs ys:List Rat} {i:Nat} (h1:i < xs.length) (h2:i < ys.length):dh (xs.take (i+1)) (ys.take (i+1))=dh (xs.take i) (ys.take i)+xs.getD i 0*ys.getD i 0:=by
 have e1:xs[i]?=some (xs.getD i 0):=by rw[aa,af h1];rfl
 have e2:ys[i]?=some (ys.getD i 0):=by rw[aa,af h2];rfl
 unfold dh;rw[take_snoc e1,take_snoc e2,List.zipWith_append (by simp;lia),List.sum_append];simp [vT]
theorem getD_mem {xs:List Rat} {i:Nat} (h:i < xs.length):xs.getD i 0∈xs:=by
 rw[aa,af h];exact aS h
theorem CI {xs ys:List Rat} (h:ys.length=xs.length):List.zipWith (λx y=>x+y) xs ys=(List.range xs.length).map λi=>xs.getD i 0+ys.getD i 0:=by
 apply kx;intro i;rw[cC,aF];by_cases hi:i < xs.length
 ·rw[iW hi,af hi,af (show i < ys.length by lia)];simp [aa,af hi,af (show i < ys.length by lia)]
 ·rw[aW (show (List.range xs.length).length<=i by simp;lia),aW (show xs.length<=i by lia)];rfl
theorem cP.updL {K:FG9} {H0 H:Hp} {qs:List Rat} {x:V} {l:Addr} {ys:List V} {o:HO} (h:cP K H0 H qs x) (hl:H l=some (.lst ys)) (nl:H0 l≠none):cP K H0 (upd H l o) qs x:=by obtain ⟨q,a,b,c⟩:=h;exact ⟨q,a,b,c.updL hl λz=>nl (by rw[<- z];exact b)⟩
theorem iV.at {H:Hp} {b:Addr} (B:iV H b):H b≠none:=by obtain ⟨_,_,_,_,_,e,_⟩:=B;rw[e];simp
theorem Inner.at {H:Hp} {b q:Addr} (B:iV H b) (i:Inner H b q):H q≠none:=by
 obtain ⟨q',i',xs,e⟩:=B.inner;rw[<- Inner.inj i' i,e];simp
theorem ig {α β:Type} {F:α->β->Prop} {l1:List α} {l2:List β} {i:Nat} (h:Paired F l1 l2) (hi:i < l1.length):∃x y,l1[i]?=some x/\l2[i]?=some y/\x∈l1/\F x y:=by
 have hl:=h.length;exact ⟨l1[i],l2[i]'(by lia),by simp,by simp,aS _,kO h hi (by lia)⟩
section
variable {α β:Type} [DecidableEq α] [DecidableEq β] (k1:Kind α) (k2:Kind β)
theorem yL {X:Cx} {pins:List (Addr×Obj)} {σ:St} {H:Hp} {s:Shared} {A:Around} (I:Inv X pins σ H s) (h1:A.units+k1.d < cLine) (h2:A.units+k2.d < cLine) {x y z w:V} {us ws:List Value} {a b:α×β}
  (rx:cK [x,y] us) (ry:cK [z,w] ws) (a1:k1.R X.K H x a.1) (a2:k2.R X.K H y a.2) (b1:k1.R X.K H z b.1) (b2:k2.R X.K H w b.2) :
  ∀j (h1:j < us.toArray.size) (h2:j < ws.toArray.size),SeqAt.EqAt A s us.toArray[j] ws.toArray[j] (if j=0 then decide (a.1=b.1) else decide (a.2=b.2)):=λj l1 l2=>by
 obtain ⟨u1,u2,rfl,r1,r2⟩:=vals2 rx;obtain ⟨w1,w2,rfl,q1,q2⟩:=vals2 ry;have hj:j < 2:=by simpa using l1
 rcases cb j 1 with h | h
 ·have e:j=0:=by lia
  subst e;exact k1.eq (A:=A) I r1 q1 a1 b1 h1
 ·have e:j=1:=by lia
  subst e;exact k2.eq (A:=A) I r2 q2 a2 b2 h2
theorem DW {a b:α×β}:(List.range 2).all (λj=>if j=0 then decide (a.1=b.1) else decide (a.2=b.2))=decide (a=b):=by
 have e:List.range 2=[0,1]:=rfl;rw[e];simp only[Px,List.all_nil,Bool.and_true,if_true,Nat.one_ne_zero,if_false];rw[<- Bool.decide_and];exact decide_eq_decide.mpr ⟨λ⟨h1,h2⟩=>Prod.ext h1 h2,λh=>by rw[h];exact ⟨rfl,rfl⟩⟩
def Qt:Kind (α×β) where
 R:=λK H x a=>∃p u v,x=.ref p/\kj K H p [u,v]/\k1.R K H u a.1/\k2.R K H v a.2
 d:=max k1.d k2.d+1
 inj:=λ{X pins σ H s x a b} I h1 h2=>by
  obtain ⟨p,u,v,rfl,hp,a1,a2⟩:=h1;obtain ⟨q,u',v',e,hq,b1,b2⟩:=h2;cases e;have e:=I.tuple_inj hp hq;cases e;exact Prod.ext (k1.inj I a1 b1) (k2.inj I a2 b2)
 rc:=λ{X pins σ H s x y v u a b A} I rx ry h1 h2 hA=>by
  obtain ⟨p,x1,x2,rfl,hp,a1,a2⟩:=h1;obtain ⟨q,y1,y2,rfl,hq,b1,b2⟩:=h2;cases rx;cases ry;obtain ⟨us,r1,t1,_⟩:=I.tuple hp;obtain ⟨ws,r2,t2,_⟩:=I.tuple hq;have l1:=r1.length;have l2:=r2.length;have z:=SeqAt.RcAt.tuples (A:=A) (e:=λj=>if j=0 then decide (a.1=b.1) else decide (a.2=b.2)) (show s.heap.IsTuple p us.toArray from t1) (show s.heap.IsTuple q ws.toArray from t2) (by lia) (yL k1 k2 (A:=A.in1) I (by show A.units+1+k1.d < cLine;lia) (by show A.units+1+k2.d < cLine;lia) r1 r2 a1 a2 b1 b2);have e1:us.toArray.size=2:=by rw[aJ,<- l1];rfl
  have e2:ws.toArray.size=2:=by rw[aJ,<- l2];rfl
  rw[e1,e2,Nat.min_self,DW] at z;simpa using z
 ne:=λ{X pins σ H s x y v u a b A} I rx ry h1 h2 hA=>by
  obtain ⟨p,x1,x2,rfl,hp,a1,a2⟩:=h1;obtain ⟨q,y1,y2,rfl,hq,b1,b2⟩:=h2;cases rx;cases ry;obtain ⟨us,r1,t1,_⟩:=I.tuple hp;obtain ⟨ws,r2,t2,_⟩:=I.tuple hq;have l1:=r1.length;have l2:=r2.length;have z:=SeqAt.RcNeAt.tuples (A:=A) (e:=λj=>if j=0 then decide (a.1=b.1) else decide (a.2=b.2)) (show s.heap.IsTuple p us.toArray from t1) (show s.heap.IsTuple q ws.toArray from t2) (by lia) (yL k1 k2 (A:=A.in1) I (by show A.units+1+k1.d < cLine;lia) (by show A.units+1+k2.d < cLine;lia) r1 r2 a1 a2 b1 b2);have e1:us.toArray.size=2:=by rw[aJ,<- l1];rfl
  have e2:ws.toArray.size=2:=by rw[aJ,<- l2];rfl
  rw[e1,e2,Nat.min_self,DW] at z;simpa using z
 eq:=λ{X pins σ H s x y v u a b A} I rx ry h1 h2 hA=>by
  obtain ⟨p,x1,x2,rfl,hp,a1,a2⟩:=h1;obtain ⟨q,y1,y2,rfl,hq,b1,b2⟩:=h2;cases rx;cases ry;by_cases e:p=q
  ·subst e;have e:=I.tuple_inj hp hq;cases e;have e2:a=b:=Prod.ext (k1.inj I a1 b1) (k2.inj I a2 b2);rw[decide_eq_true e2];exact SeqAt.EqAt.same _
  ·obtain ⟨us,r1,t1,_⟩:=I.tuple hp;obtain ⟨ws,r2,t2,_⟩:=I.tuple hq;have l1:=r1.length;have l2:=r2.length;have z:=SeqAt.RcAt.tuples (A:=A) (e:=λj=>if j=0 then decide (a.1=b.1) else decide (a.2=b.2)) (show s.heap.IsTuple p us.toArray from t1) (show s.heap.IsTuple q ws.toArray from t2) (by lia) (yL k1 k2 (A:=A.in1) I (by show A.units+1+k1.d < cLine;lia) (by show A.units+1+k2.d < cLine;lia) r1 r2 a1 a2 b1 b2);have e1:us.toArray.size=2:=by rw[aJ,<- l1];rfl
   have e2:ws.toArray.size=2:=by rw[aJ,<- l2];rfl
   rw[e1,e2,Nat.min_self,DW] at z;exact .of_refs e (by simpa using z)
end
theorem Je {i j:Int} (h1:-(2^64) < i) (h2:i < 2^64):fL i j:=.inl (.inl ⟨h1,h2⟩)
theorem Nh {i j:Int} (h1:-(2^64) < j) (h2:j < 2^64):fL i j:=.inl (.inr ⟨h1,h2⟩)
def Ph (K : FG9) (l : Addr) : It :=
  ⟨λi H => ∃ xs x, bO K H l xs /\ xs[i]? = some x,
   λi H v H' => ∃ p x, v = .ref p /\ H p = none /\ H' = upd H p (.tup [.int i, x]) /\ ∀ xs, bO K H l xs → xs[i]? = some x,
   λi H => ∃ xs, bO K H l xs /\ xs.length ≤ i⟩
def tnE (e it l:Addr) (i:Nat) (h:Heap):Prop:=(∃old,IsEnum h e it i old)/\h.IsListIter it l i
theorem Jo {P:Program} {w:World} {K:FG9} {elts:List Expr} {kk:Nat} {tpos:Pos} (e it l:Addr) (hei:e≠it):Turn P w K (.Tuple elts kk tpos) (Ph K l) [e,it] e (tnE e it l) where
 mem:=by simp
 obj:=λi h st b hb=>by
  obtain ⟨⟨old,he⟩,⟨o1,g1,c1,d1⟩⟩:=st;simp only[aE,aM,or_false] at hb;rcases hb with rfl | rfl
  ·exact ⟨_,he,λv q=>nomatch q⟩
  ·exact ⟨o1,g1,λv q=>by rw[d1] at q;cases q⟩
 keep:=λi h h' st k=>by
  obtain ⟨⟨old,he⟩,h1⟩:=st;exact ⟨⟨old,k e (by simp) _ he⟩,h1.at λo q=>k it (by simp) o q⟩
 item:=by
  intro X hP hw hK hc i pins s σ H E I hf st hg;subst hP hw hK;obtain ⟨⟨old,he⟩,h1⟩:=st;obtain ⟨xs,x,qx,ex⟩:=hg;obtain ⟨us,rx,px,_⟩:=I.list qx;obtain ⟨u,eu,ru⟩:=rx.get ex;refine wpAny_pyNext_enum_item he h1 px.isList (x:=u) (by simpa using eu) hei λh' a1 a2 a3 a4 hk=>?_
  refine ⟨_,rfl,wpAny_letOwnedTupleGo_enum a1 λh'' he'' hs=>?_⟩;have hT0:H s.heap.objs.size=none:=I.hok.fresh (au _);have ene:s.heap.objs.size≠e:=Jl (Heap.lt_size he)
  have up:∀b o,b∉[e,it]->s.heap.get? b=some o->h''.get? b=some o:=λb o hb q=>by
   simp only[aE,aM,or_false,not_or] at hb;exact (hs.2 b hb.1).trans (hk b o hb.1 hb.2 q)
  have tup:h''.get? s.heap.objs.size=some { cls:=.type "tuple",data:=.seq #[.int i s.toks,u] }:=(hs.2 _ ene).trans a3;have I1:Inv X pins σ H { s with heap:=h'',toks:=s.toks+1 }:=I.moved (g':=s.gens) (d':=s.drawn) (t':=s.toks+1) (ch:=[e,it]) hf up I.bare;have fT:kU X pins H s.heap.objs.size:=I.fpOk (au _) hT0;have I2:=I1.track (o:=.tup [.int i,x]) fT ⟨jU rfl,[.int i s.toks,u],.cons ⟨_,rfl⟩ (.cons ru .nil),⟨_,tup,rfl,_,rfl⟩⟩;refine ⟨.ref s.heap.objs.size,_,I2,rfl,⟨_,x,rfl,hT0,rfl,λxs' q=>by rw[I.list_inj q qx];exact ex⟩,?_,λb hb=>?_⟩
  ·exact ⟨⟨_,by simpa using he''⟩,a2.at λo q=>(hs.2 _ hei.symm).trans q⟩
  ·rw[bF]
   ·exact (hf b hb).1
   ·obtain ⟨o1,g1,_⟩:=h1;simp only[aE,aM,or_false] at hb;rcases hb with rfl | rfl
    ·exact ene.symm
    ·exact cG (Heap.lt_size g1)
 done:=by
  intro X hP hw hK hc i pins s σ H E I hf st hg;subst hP hw hK;obtain ⟨⟨old,he⟩,h1⟩:=st;obtain ⟨xs,qx,hend⟩:=hg;obtain ⟨us,rx,px,_⟩:=I.list qx;have lx:=rx.length;refine wpAny_pyNext_enum_end (I.ok.hd hc) he h1 px.isList (by simp;lia) λh' hk=>⟨rfl,?_⟩
  exact I.moved (g':=s.gens) (d':=s.drawn) (t':=s.toks) (ch:=[e,it]) hf (λb o hb q=>hk b o (λz=>hb (by simp [z])) q) I.bare
 self:=λ_ _ _ _ _ st h=>let ⟨⟨_,he⟩,_⟩:=st;wpAny_pyIter_enum he h
section
variable {X:Cx}
def NS (K:FG9) (ta:TA):TI:=λσ H R=>ta σ H λvs H1=>∃l,vs=[.ref l]/\(∃xs,bO K H1 l xs)/\R (Ph K l) H1
theorem IG {a:Expr} {ta:TA} {p pos tpos:Pos} {elts:List Expr} {kk:Nat} (hg:Gl X "enumerate") (hm:X.mg "enumerate"=none) (ha:PA X [a] ta) (hs:starEach [a] X.env=[(false,eval a X.env)]:=by rfl) :
  PI X (.Tuple elts kk tpos) (.Call (.Name "enumerate" p) [a] [] pos) (NS X.K ta):=by
 intro pins s σ H R I h;refine Call_ (oR I hg hm boot_enumerate (PyProof.Rows.callWith_type1 (gO (ha pos pins s σ H _ I h) λus s1 ⟨vs,H1,I1,r1,q1⟩=>?_) (by rw[hs];rfl) rfl));obtain ⟨l,e,⟨xs,qx⟩,q⟩:=q1;subst e;obtain ⟨u,rfl,ru⟩:=vals1 r1;cases ru;obtain ⟨us,rx,px,_⟩:=I1.list qx;refine call_enumerate_list px.isList λh' a1 a2 a3 hk=>wpAny_pyIter_enum a1 ?_
 have I2:Inv X pins σ H1 { s1 with heap:=h' }:=I1.kept (t':=s1.toks) hk;refine ⟨_,[s1.heap.objs.size+1,s1.heap.objs.size],_,_,H1,rfl,I2,Jo (s1.heap.objs.size+1) s1.heap.objs.size l (Nat.succ_ne_self _),⟨⟨_,a1⟩,a2⟩,λb hb=>?_,q⟩
 have hb':s1.heap.objs.size<=b:=by
  simp only[aE,aM,or_false] at hb;rcases hb with rfl | rfl <;> first | exact tX _ | exact au _
 exact I1.fpOk hb' (I1.hok.fresh hb')
end
theorem KD {K:FG9} {ta:TA} {R:It->Hp->Prop} {σ:St} {H:Hp} (h:ta σ H λvs H1=>∃l,vs=[.ref l]/\(∃xs,bO K H1 l xs)/\R (Ph K l) H1):NS K ta σ H R:=h
theorem Lu {K:FG9} {l:Addr} {xs:List V} {g:TG} {tb:TS} {D:Ends} {σ:St} {H:Hp} (Pv:Nat->St->Hp->Prop) (h0:Pv 0 σ H) (hl:∀i σ H,i<=xs.length->Pv i σ H->bO K H l xs)
  (hs:∀i x σ H p,xs[i]?=some x->Pv i σ H->H p=none->g (.ref p) σ (upd H p (.tup [.int i,x])) λσ2 H2=>tb { D with nx:=Pv (i+1),ct:=Pv (i+1),bk:=D.nx } σ2 H2) (hd:∀σ H,Pv xs.length σ H->D.nx σ H) :
  ∃W:Nat->Nat->St->Hp->Prop,(∃m,W 0 m σ H)/\∀i m σ H,W i m σ H →
   ((Ph K l).stop i H/\D.nx σ H)\/((Ph K l).go i H/\∃N:St->Hp->Prop,(∀σ' H',N σ' H'->∃m',m' < m/\W (i+1) m' σ' H')/\∀x H',(Ph K l).yld i H x H'->g x σ H' λσ2 H2=>tb { D with nx:=N,ct:=N,bk:=D.nx } σ2 H2):=by
 refine ⟨λi m σ H=>m=xs.length - i/\i<=xs.length/\Pv i σ H,⟨xs.length,by simp,bo _,h0⟩,?_⟩;rintro i m σ H ⟨rfl,hi,p⟩;have q1:=hl i σ H hi p;by_cases hlt:i < xs.length
 ·refine .inr ⟨⟨xs,xs[i],q1,by simp [hlt]⟩,Pv (i+1),λσ' H' p'=>⟨xs.length - (i+1),by lia,rfl,hlt,p'⟩,λx H' y=>?_⟩;obtain ⟨r,x',rfl,hr,rfl,e1⟩:=y;exact hs i x' σ _ r (e1 xs q1) p hr
 ·have e:i=xs.length:=by lia
  subst e;exact .inl ⟨⟨xs,q1,au _⟩,hd σ H p⟩
section
variable {X:Cx}
theorem MP (K:FG9) {e:Expr} {f:Str} {pos:Pos} {ta:TE} (he:PE X e ta) (hb:attributeBase e f X.env (eval e X.env)=eval e X.env) (hK:X.K=K:=by rfl):PE X (.Attribute e f pos) (Oh K ta f):=by subst hK;exact kL he hb
end
theorem OF {K:FG9} {ta:TE} {f:Str} {σ:St} {H:Hp} {Q:VK} (h:ta σ H λx H1=>∃a C dx fs v,x=.ref a/\H1 a=some (.ins C dx fs)/\LX K C/\kn K C f/\fs.lookup f=some v/\Q v H1):Oh K ta f σ H Q:=h
theorem Mr {K:FG9} {ta tv:TE} {f:Str} {D:Ends} {σ:St} {H:Hp} (h:tv σ H λy H1=>ta σ H1 λx H2=>∃a C dx fs,x=.ref a/\H2 a=some (.ins C dx fs)/\LX K C/\kn K C f/\fs.length < 1000 /\
 D.nx σ (upd H2 a (.ins C dx (cn f y fs)))):P8 K ta tv f D σ H:=h
theorem Mv {C:Addr} {sp:Sp} {E:XK} {t:TA} {σ:St} {H:Hp} {Q:VK} (h:t σ H λvs H1=>∀x dx,H1 x=none->H1 dx=none->dx≠x →
 sp (.ref x :: vs) (upd (upd H1 dx (.own x)) x (.ins C dx [])) (λv H2=>v=.non/\Q (.ref x) H2) E):Nz C sp [] E t σ H Q:=by
 have e:(λvs (H1:Hp)=>∀x dx,H1 x=none->H1 dx=none->dx≠x->sp (.ref x :: (vs++[])) (upd (upd H1 dx (.own x)) x (.ins C dx [])) (λv H2=>v=.non/\Q (.ref x) H2) E)=λvs H1=>∀x dx,H1 x=none->H1 dx=none->dx≠x->sp (.ref x :: vs) (upd (upd H1 dx (.own x)) x (.ins C dx [])) (λv H2=>v=.non/\Q (.ref x) H2) E:=by
  funext vs H1;simp only[Ci]
 show t σ H (λvs (H1:Hp)=>∀x dx,H1 x=none->H1 dx=none->dx≠x->sp (.ref x :: (vs++[])) (upd (upd H1 dx (.own x)) x (.ins C dx [])) (λv H2=>v=.non/\Q (.ref x) H2) E)
 rw[e];exact h
def E2 (x:Addr) (H H':Hp):Prop:=∀b o,H b=some o->b≠x->H' b=some o
theorem E2.upd {x:Addr} {H:Hp} {o:HO}:E2 x H (L2.upd H x o):=λb u h n=>by rw[bF n];exact h
def wK (H:Hp) (x:Addr):Prop:=∃C dx fs,H x=some (.ins C dx fs)
section
variable {K:FG9} {H H' H0:Hp} {q:Rat} {v:V} {x p:Addr} {qs:List Rat} {rows:LR9}
theorem cg.exc (h:cg K H q v) (e:E2 x H H') (hx:wK H x):cg K H' q v:=by
 obtain ⟨C,dx,fs,hx⟩:=hx;obtain ⟨r,er,s⟩:=h;refine ⟨r,er,?_⟩;rcases s with (h | ⟨o,h⟩) | h
 ·exact .inl (.inl (e _ _ h λz=>by rw[z,hx] at h;cases h))
 ·exact .inl (.inr ⟨o,e _ _ h λz=>by rw[z,hx] at h;cases h⟩)
 ·exact .inr h
theorem cX.exc (h:cX K H p qs) (e:E2 x H H') (hx:wK H x):cX K H' p qs:=by
 obtain ⟨xs,g,r⟩:=h;have hx':=hx;obtain ⟨C,dx,fs,hx⟩:=hx;exact ⟨xs,e _ _ g (λz=>by rw[z,hx] at g;cases g),Paired.imp' (λ_ _ z=>z.exc e hx') r⟩
theorem cP.exc (h:cP K H0 H qs v) (e:E2 x H H') (hx:wK H x):cP K H0 H' qs v:=by obtain ⟨q,a,b,c⟩:=h;exact ⟨q,a,b,c.exc e hx⟩
theorem bI.exc (h:bI K H0 H p rows) (e:E2 x H H') (hx:wK H x):bI K H0 H' p rows:=by
 obtain ⟨xs,g,r,n⟩:=h;have hx':=hx;obtain ⟨C,dx,fs,hx⟩:=hx;exact ⟨xs,e _ _ g (λz=>by rw[z,hx] at g;cases g),Paired.imp' (λ_ _ z=>z.exc e hx') r,n⟩
end
def Aw (a b c:Addr) (n i o:Nat):List (Str×V):=cn "outs" (.int o) (cn "look" (.ref c) (cn "ins" (.int i) (cn "put" (.ref b) (cn "states" (.int n) (cn "move" (.ref a) [])))))
section
variable {a b c:Addr} {n i o:Nat}
theorem Me:(Aw a b c n i o).lookup ("put":Str)=some (.ref b):=by
 unfold Aw;rw[b7,if_neg (by decide +kernel),b7,if_neg (by decide +kernel),b7,if_neg (by decide +kernel),b7,if_pos rfl]
theorem oE:(Aw a b c n i o).lookup ("states":Str)=some (.int n):=by
 unfold Aw;rw[b7,if_neg (by decide +kernel),b7,if_neg (by decide +kernel),b7,if_neg (by decide +kernel),b7,if_neg (by decide +kernel),b7,if_pos rfl]
theorem Ff:(Aw a b c n i o).lookup ("move":Str)=some (.ref a):=by
 unfold Aw;rw[b7,if_neg (by decide +kernel),b7,if_neg (by decide +kernel),b7,if_neg (by decide +kernel),b7,if_neg (by decide +kernel),b7,if_neg (by decide +kernel),b7,if_pos rfl]
end
theorem dZ {k:Str} {v:V}:∀{l:List (Str×V)},(cn k v l).length<=l.length+1
 | []=>au _
 | (x,y) :: r=>by
  unfold cn
  split
  ·simp
  ·have:=dZ (k:=k) (v:=v) (l:=r);simp only[bD]
   lia
structure ki (mv pt lk:LR9):Prop where
 n8:mv.length<=8
 i4:pt.length<=4
 o4:lk.length<=4
 mw:∀xs∈mv,xs.length=mv.length
 pw:∀xs∈pt,xs.length=mv.length
 lw:∀xs∈lk,xs.length=mv.length
def DP (mv pt lk:LR9):Prop:=∃M V:Nat,0 < M/\M<=2^800/\V<=2^400/\GF M V mv/\GF M V pt/\GF M V lk
def rH (K:FG9) (H0 H:Hp) (C p:Addr) (mv pt lk:LR9):Prop:=∃dx a b c,H p=some (.ins C dx (Aw a b c mv.length pt.length lk.length))/\H0 a=none/\H0 b=none/\H0 c=none/\bI K H0 H a mv/\bI K H0 H b pt/\bI K H0 H c lk
section
variable {K:FG9} {H H' H0 H1:Hp} {C p b:Addr} {mv pt lk:LR9}
theorem rH.same (h:rH K H0 H C p mv pt lk) (e:aG H H'):rH K H0 H' C p mv pt lk:=by obtain ⟨dx,a,b,c,g,n1,n2,n3,g1,g2,g3⟩:=h;exact ⟨dx,a,b,c,e _ _ g,n1,n2,n3,g1.same e,g2.same e,g3.same e⟩
theorem rH.upto (h:rH K H0 H C p mv pt lk) (u:cO b H H') (B:iV H b) (nb:H0 b≠none):rH K H0 H' C p mv pt lk:=by
 obtain ⟨dx,a,b',c,g,n1,n2,n3,g1,g2,g3⟩:=h;refine ⟨dx,a,b',c,u.other (λz=>by obtain ⟨_,_,_,_,_,e,_⟩:=B;rw[z,e] at g;cases g) g,n1,n2,n3,g1.upto u B (λz=>nb (by rw[<- z];exact n1)) nb,g2.upto u B (λz=>nb (by rw[<- z];exact n2)) nb,g3.upto u B (λz=>nb (by rw[<- z];exact n3)) nb⟩
theorem rH.weak (h:rH K H0 H C p mv pt lk) (e:aG H1 H0):rH K H1 H C p mv pt lk:=by obtain ⟨dx,a,b,c,g,n1,n2,n3,g1,g2,g3⟩:=h;exact ⟨dx,a,b,c,g,e.none n1,e.none n2,e.none n3,g1.weak e,g2.weak e,g3.weak e⟩
theorem DP.fits (h:DP mv pt lk) {l:List Rat} (hl:∀x∈l,(∃xs∈mv,x∈xs)\/(∃xs∈pt,x∈xs)\/(∃xs∈lk,x∈xs)\/x=0):Fits l:=by
 obtain ⟨M,V,h0,h1,h2,h3,h4,h5⟩:=h;refine ⟨M,V,h0,ai h1 (ak (by decide) (by decide)),ai h2 (ak (by decide) (by decide)),λx hx=>?_⟩;rcases hl x hx with ⟨xs,a,b⟩ | ⟨xs,a,b⟩ | ⟨xs,a,b⟩ | rfl
 ·exact h3 xs a x b
 ·exact h4 xs a x b
 ·exact h5 xs a x b
 ·exact Fr.zero
end
def Jq:Sp:=λvs H Q _=>∃i:Int,vs=[.int i]/\Q (.bl true) H
def Jt (K:FG9):Sp:=λvs H Q _=>∃x n,vs=[x]/\yE K H x n/\zR n/\∀H',aG H H'->Q (.bl true) H'
inductive Iu (vs:List V) (H:Hp) (Q:VK) (E9:XK):Prop
 | mk (p:Addr) (xs:List V) (a m:Int):vs=[.ref p,.int a,.int m]->H p=some (.lst xs)->(xs.length:Int)<=m->Q .non H->Iu  vs H Q E9
inductive Iy (K:FG9) (vs:List V) (H:Hp) (Q:VK) (E9:XK):Prop
 | mk (p:Addr) (H0:Hp) (rows:LR9) (w:Nat):vs=[.ref p,.int w]->bI K H0 H p rows->rows.length<=1000->w<=1000->((∀xs∈rows,xs.length=w/\∀x∈xs,zR (nm x)))->(∀r H',H r=none->aG H H'->bI K H H' r rows->Q (.ref r) H')->Iy K vs H Q E9
def Pt (rows:LR9):Prop:=∀xs∈rows,∀x∈xs,zR (nm x)
inductive Iw (K:FG9) (C:Addr) (vs:List V) (H:Hp) (Q:VK) (E9:XK):Prop
 | mk (x dx p q r:Addr) (Hb H0 H1 H2:Hp) (mv pt lk:LR9):vs=[.ref x,.ref p,.ref q,.ref r]->Hb x=none->Hb dx=none->dx≠x->H=upd (upd Hb dx (.own x)) x (.ins C dx [])->bI K H0 Hb p mv->bI K H1 Hb q pt->bI K H2 Hb r lk->ki mv pt lk->Pt mv->Pt pt->Pt lk->(∀H',aG Hb H'->rH K Hb H' C x mv pt lk->Q .non H')->Iw K C vs H Q E9
def fV (mv pt:LR9) (st pu:List Rat):List Rat:=List.zipWith (λline col=>dh (line++col) (st++pu)) mv (js pt mv.length)
theorem DP.ok {mv pt lk:LR9} (h:DP mv pt lk):Pt mv/\Pt pt/\Pt lk :=
 ⟨λxs hx x hx'=>(h.fits (l:=xs) λy hy=>.inl ⟨xs,hx,hy⟩).ok hx',λxs hx x hx'=>(h.fits (l:=xs) λy hy=>.inr (.inl ⟨xs,hx,hy⟩)).ok hx',λxs hx x hx'=>(h.fits (l:=xs) λy hy=>.inr (.inr (.inl ⟨xs,hx,hy⟩))).ok hx'⟩
def fv (K:FG9) (A:Addr->Prop) (H:Hp) (n:Nat) (C:Rat->Prop) (x:V):Prop:=∃q qs,x=V.ref q/\A q/\cX K H q qs/\qs.length=n/\∀y∈qs,C y
section
variable {K:FG9} {A A':Addr->Prop} {H H' H0:Hp} {n:Nat} {C C':Rat->Prop} {x v:V} {q b l p:Addr} {xs zs:List V} {y:Rat} {o:HO}
theorem fv.same (h:fv K A H n C x) (e:aG H H'):fv K A H' n C x:=by obtain ⟨q,qs,a,c,r,z⟩:=h;exact ⟨q,qs,a,c,r.same e,z⟩
theorem fv.upto (h:fv K A H n C x) (u:cO b H H') (B:iV H b) (nb:¬A b):fv K A H' n C x:=by obtain ⟨q,qs,a,c,r,z⟩:=h;exact ⟨q,qs,a,c,r.upto u B (λe=>nb (by rw[<- e];exact c)),z⟩
theorem fv.other (h:fv K A H n C x) (hl:H l=some (.lst zs)) (nl:¬A l):fv K A (upd H l o) n C x:=by obtain ⟨q,qs,a,c,r,z⟩:=h;exact ⟨q,qs,a,c,r.updL hl (λe=>nl (by rw[<- e];exact c)),z⟩
theorem fv.weak (h:fv K A H n C x) (w:∀q,A q->A' q) (wc:∀y,C y->C' y):fv K A' H n C' x:=by obtain ⟨q,qs,a,c,r,l,z⟩:=h;exact ⟨q,qs,a,w q c,r,l,λy hy=>wc y (z y hy)⟩
theorem AY {α β:Type} {F:α->β->Prop} {a:α} {b:β} (h:F a b):∀{l1:List α} {l2:List β} (j:Nat),Paired F l1 l2->Paired F (l1.set j a) (l2.set j b)
 | _,_,_,.nil=>.nil
 | _,_,0,.cons _ t=>.cons h t
 | _,_,j+1,.cons r t=>.cons r (AY h j t)
theorem fv.put (h:fv K A H n C x) (hq:H q=some (.lst zs)) (hv:cg K H y v) (hc:C y) (j:Nat):fv K A (upd H q (.lst (zs.set j v))) n C x:=by
 obtain ⟨q1,qs,rfl,a,⟨zs1,g1,pr⟩,l1,c1⟩:=h;by_cases e:q1=q
 ·subst e;rw[hq] at g1;cases g1;refine ⟨q1,qs.set j y,rfl,a,⟨_,aI,AY (hv.updL hq) j (Paired.imp' (λ_ _ z=>z.updL hq) pr)⟩,by rw[d7];exact l1,λz hz=>?_⟩;rcases cx hz with hz | rfl
  ·exact c1 z hz
  ·exact hc
 ·exact ⟨q1,qs,rfl,a,⟨zs1,by rw[bF e];exact g1,Paired.imp' (λ_ _ z=>z.updL hq) pr⟩,l1,c1⟩
theorem fv.at (h:fv K A H n C x):∃q zs qs,x=V.ref q/\A q/\H q=some (.lst zs)/\zs.length=n/\Paired (cg K H) qs zs/\qs.length=n/\∀y∈qs,C y:=by obtain ⟨q,qs,a,c,⟨zs,g,pr⟩,l,z⟩:=h;exact ⟨q,zs,qs,a,c,g,by rw[<- pr.length];exact l,pr,l,z⟩
end
theorem uN {W:Nat} {i:Int} (h:i.natAbs<=W) (hW:1<=W):Dr W (i:Rat):=⟨h,hW⟩
def QQ (K:FG9) (A:Addr->Prop) (H:Hp) (n:Nat) (C:Rat->Prop) (p:Addr) (m:Nat):Prop:=∃us,H p=some (.lst us)/\us.length=m/\¬A p/\∀x∈us,fv K A H n C x
structure Gx (A:Addr->Prop) (m p l b q0:Addr):Prop where
 am:¬A m
 ap:¬A p
 al:¬A l
 ab:¬A b
 aq:¬A q0
 mb:m≠b
 pb:p≠b
 lb:l≠b
 mp:m≠p
 ml:m≠l
 mq:m≠q0
theorem IX {M:Nat} {z:Int} (h:z.natAbs<=2):Fr 1 2 (z:Rat):=Fr.int h
theorem EF {M W:Nat} {a c:Rat} {z:Int} (hz:z.natAbs<=2) (ha:Fr M W a) (hc:Fr M W c):Fr M (3*W) (a+(z:Rat)*c):=by
 have h:=(IX (M:=M) hz).mul hc;rw[tW] at h;exact (ha.add h).mono (by lia)
theorem DZ {z:Int} (h:z.natAbs<=1000):mV (z:Rat):=HW (M:=1) (V:=1000) (by decide) (bQ) (ai (show 1000<=2^10 by decide) (ak (by decide) (by decide))) (Fr.int h)
theorem Av {M W:Nat} {c:Rat} {z:Int} (hz:z.natAbs<=2) (hc:Fr M W c) (h0:0 < M) (h1:M<=2^800) (hW:W<=2^140):mV ((z:Rat)*c):=by
 have h:=(IX (M:=M) hz).mul hc;rw[tW] at h;refine HW h0 (ai h1 (ak (by decide) (by decide))) (ai (bx 2 hW) ?_) h;rw[show 2*2^140=2^141 by rw[gZ,bV]];exact ak (by decide) (by decide)
def iX (A:Addr->Prop) (b m:Addr) (H H':Hp):Prop:=∀c u,H c=some u->c≠b->¬A c->c≠m->H' c=some u
theorem iX.same {A:Addr->Prop} {b m:Addr} {H H1 H2:Hp} (h:iX A b m H H1) (s:aG H1 H2):iX A b m H H2:=λc u e n1 n2 n3=>s _ _ (h c u e n1 n2 n3)
theorem iX.upto {A:Addr->Prop} {b m:Addr} {H H1 H2:Hp} (h:iX A b m H H1) (s:cO b H1 H2):iX A b m H H2:=λc u e n1 n2 n3=>s.1 _ _ (h c u e n1 n2 n3) n1
theorem iX.upd {A:Addr->Prop} {b m q:Addr} {H H1:Hp} {o:HO} (h:iX A b m H H1) (hq:A q\/q=m):iX A b m H (L2.upd H1 q o):=λc u e n1 n2 n3=>by
 rw[bF]
 ·exact h c u e n1 n2 n3
 ·rintro rfl;rcases hq with hq | hq
  ·exact n2 hq
  ·exact n3 hq
theorem iX.new {A:Addr->Prop} {b m r:Addr} {H H1:Hp} (h:iX A b m H H1) (hA:∀q,H q=none->A q) (B:iV H1 b) (hm:H1 m≠none) (hr:H1 r=none):A r:=by
 by_cases z:A r
 ·exact z
 ·cases e:H r with
  | none=>exact hA r e
  | some u =>
   have:=h r u e (λy=>B.at (by rw[<- y];exact hr)) z (λy=>hm (by rw[<- y];exact hr));rw[hr] at this;cases this
structure Jk (K:FG9) (A:Addr->Prop) (n:Nat) (C:Rat->Prop) (r p b q0:Addr) (us:List V) (H0 H:Hp):Prop where
 gr:H r=some (.lst us)
 ru:∀x∈us,fv K A H n C x
 rp:fv K A H n C (.ref p)
 bag:iV H b
 inn:Inner H b q0
 up:cO b H0 H
section
variable {K:FG9} {A:Addr->Prop} {n:Nat} {C:Rat->Prop} {r p b q0:Addr} {us:List V} {H0 H H':Hp} {y:Rat} {v:V}
theorem Jk.same (h:Jk K A n C r p b q0 us H0 H) (e:aG H H'):Jk K A n C r p b q0 us H0 H':=⟨e _ _ h.gr,λx hx=>(h.ru x hx).same e,h.rp.same e,h.bag.same e,(e.upto (p:=b)).2 _ h.inn,h.up.same e⟩
theorem Jk.upto (h:Jk K A n C r p b q0 us H0 H) (u:cO b H H') (B:iV H' b) (nb:¬A b) (rb:r≠b):Jk K A n C r p b q0 us H0 H':=⟨u.other rb h.gr,λx hx=>(h.ru x hx).upto u h.bag nb,h.rp.upto u h.bag nb,B,u.2 _ h.inn,h.up.trans u⟩
theorem Jk.put (h:Jk K A n C r p b q0 us H0 H) (ap:A p) (nr:¬A r) (nb:¬A b) (nq:¬A q0) (hp:H0 p=none) (hv:cg K H y v) (hc:C y) (j:Nat):∃zs,H p=some (.lst zs)/\zs.length=n/\Jk K A n C r p b q0 us H0 (upd H p (.lst (zs.set j v))):=by
 obtain ⟨q,zs,qs,e,a,g,l,_⟩:=h.rp.at;cases e;have ne:∀{z},¬A z->z≠p:=λh e=>h (by rw[e];exact ap)
 exact ⟨zs,g,l,by rw[bF (ne nr)];exact h.gr,λx hx=>(h.ru x hx).put g hv hc j,h.rp.put g hv hc j,h.bag.upd h.inn (ne nb).symm (ne nq).symm,h.inn.upd (ne nb).symm,h.up.after hp⟩
end
theorem AO {K:FG9} {A:Addr->Prop} {H:Hp} {n:Nat} {C:Rat->Prop} {us:List V} (h:∀x∈us,fv K A H n C x):∃rows:LR9,Paired (λqs x=>∃q,x=V.ref q/\A q/\cX K H q qs) rows us/\rows.length=us.length/\∀qs∈rows,qs.length=n/\∀y∈qs,C y:=by
 induction us with
 | nil=>exact ⟨[],.nil,rfl,λ_ z=>nomatch z⟩
 | cons u us ih =>
  obtain ⟨rows,pr,l,hr⟩:=ih λx hx=>h x (.tail _ hx)
  obtain ⟨q,qs,e,a,r,l1,c⟩:=h u (.head _);refine ⟨qs :: rows,.cons ⟨q,e,a,r⟩ pr,by simp [l],λzs hz=>?_⟩;rcases aE.mp hz with rfl | hz
  ·exact ⟨l1,c⟩
  ·exact hr zs hz
theorem GY {K:FG9} {A:Addr->Prop} {H:Hp} {n:Nat} {C:Rat->Prop} {us:List V} {rows:LR9} (pr:Paired (λqs x=>∃q,x=V.ref q/\A q/\cX K H q qs) rows us) (h:∀qs∈rows,qs.length=n/\∀y∈qs,C y):∀x∈us,fv K A H n C x:=λx hx=>by
 obtain ⟨qs,hq,q,e,a,r⟩:=cF pr hx;exact ⟨q,qs,e,a,r,(h qs hq).1,(h qs hq).2⟩
theorem Dz {n:Nat}:∀{rows:LR9},(∀xs∈rows,xs.length=n)->rows.flatten.length=rows.length*n
 | [],_=>by simp
 | xs :: rows,h=>by
  rw[h6,av,h xs (.head _),Dz λys hy=>h ys (.tail _ hy),bD,mB,mD]
theorem Mn {c n:Nat} {rows:LR9} (h:∀qs∈rows,qs.length=n/\∀y∈qs,Dr (2^c) y):∃M:Nat,0 < M/\M<=2^(c*(rows.length*n))/\∀qs∈rows,∀y∈qs,Fr M (2^c) y:=by
 have fl:rows.flatten.length=rows.length*n:=Dz λys hy=>(h ys hy).1
 have hm:∀a∈rows.flatten.map (·.den),0 < a/\a<=2^c:=λa ha=>by
  obtain ⟨y,hy,rfl⟩:=az.mp ha;obtain ⟨qs,hq,hy⟩:=zW.mp hy;exact ⟨y.den_pos,((h qs hq).2 y hy).2⟩
 refine ⟨xI (rows.flatten.map (·.den)),yV λa ha=>(hm a ha).1,?_,λqs hq y hy=>?_⟩
 ·have:=AS (k:=c) (l:=rows.flatten.map (·.den)) λa ha=>(hm a ha).2
  rwa [ag,fl] at this
 ·exact (Fr.own y ((h qs hq).2 y hy).1).dvd (yW (az.mpr ⟨y,zW.mpr ⟨qs,hq,hy⟩,rfl⟩))
theorem kR {K:FG9} {A:Addr->Prop} {H H0:Hp} {n m:Nat} {C:Rat->Prop} {p:Addr} (h:QQ K A H n C p m) (w:∀q,A q->H0 q=none):∃rows,bI K H0 H p rows/\rows.length=m/\∀qs∈rows,qs.length=n/\∀y∈qs,C y:=by
 obtain ⟨us,g,l,a,r⟩:=h;obtain ⟨rows,pr,lr,hr⟩:=AO r;refine ⟨rows,⟨us,g,Paired.imp' (λ_ _ ⟨q,e,aq,rq⟩=>⟨q,e,w q aq,rq⟩) pr,λhm=>?_⟩,by rw[lr,l],hr⟩;obtain ⟨q,_,e,aq,_⟩:=r _ hm;cases e;exact a aq
theorem iX.trans {A:Addr->Prop} {b m:Addr} {H H1 H2:Hp} (h:iX A b m H H1) (h':iX A b m H1 H2):iX A b m H H2:=λc u e n1 n2 n3=>h' c u (h c u e n1 n2 n3) n1 n2 n3
theorem Kw {K:FG9} {A:Addr->Prop} {H0 H:Hp} {n:Nat} {C:Rat->Prop} {us:List V} {rows:LR9} (pr:Paired (cP K H0 H) rows us) (h:∀qs∈rows,qs.length=n/\∀y∈qs,C y) (w:∀q,V.ref q∈us->H0 q=none->H q≠none->A q):∀x∈us,fv K A H n C x:=λx hx=>by
 obtain ⟨qs,hq,q,e,a,r⟩:=cF pr hx;subst e;exact ⟨q,qs,rfl,w q hx a (by obtain ⟨_,g,_⟩:=r;rw[g];simp),r,(h qs hq).1,(h qs hq).2⟩
def Jr:Sp:=λvs H Q _=>∃b,vs=[.ref b]/\iV H b/\∀r (n i o w:Nat) H',H' r=some (.tup [.int n,.int i,.int o,.int w])->n<=5->i<=4->o<=4->(w=4\/w=9\/(w=1000000/\n<=2))->(n=5->i<=2/\o<=2)->iV H' b->cO b H H'->Q (.ref r) H'
def fH (K:FG9) (H0 H:Hp) (r:Addr) (mv pt lk:LR9):Prop:=∃m p l,H r=some (.tup [.ref m,.ref p,.ref l])/\H0 m=none/\H0 p=none/\H0 l=none/\bI K H0 H m mv/\bI K H0 H p pt/\bI K H0 H l lk
section
variable {K:FG9} {H H' H0 H1:Hp} {r b:Addr} {mv pt lk:LR9}
theorem fH.same (h:fH K H0 H r mv pt lk) (e:aG H H'):fH K H0 H' r mv pt lk:=by obtain ⟨m,p,l,g,n1,n2,n3,g1,g2,g3⟩:=h;exact ⟨m,p,l,e _ _ g,n1,n2,n3,g1.same e,g2.same e,g3.same e⟩
theorem fH.upto (h:fH K H0 H r mv pt lk) (u:cO b H H') (B:iV H b) (nb:H0 b≠none):fH K H0 H' r mv pt lk:=by
 obtain ⟨m,p,l,g,n1,n2,n3,g1,g2,g3⟩:=h;exact ⟨m,p,l,u.tup B g,n1,n2,n3,g1.upto u B (λz=>nb (by rw[<- z];exact n1)) nb,g2.upto u B (λz=>nb (by rw[<- z];exact n2)) nb,g3.upto u B (λz=>nb (by rw[<- z];exact n3)) nb⟩
theorem fH.weak (h:fH K H0 H r mv pt lk) (e:∀q,H0 q=none->H1 q=none):fH K H1 H r mv pt lk:=by
 obtain ⟨m,p,l,g,n1,n2,n3,⟨x1,y1,z1,w1⟩,⟨x2,y2,z2,w2⟩,⟨x3,y3,z3,w3⟩⟩:=h;exact ⟨m,p,l,g,e _ n1,e _ n2,e _ n3,⟨x1,y1,Paired.imp' (λ_ _ ⟨q,a,b,c⟩=>⟨q,a,e _ b,c⟩) z1,w1⟩,⟨x2,y2,Paired.imp' (λ_ _ ⟨q,a,b,c⟩=>⟨q,a,e _ b,c⟩) z2,w2⟩,⟨x3,y3,Paired.imp' (λ_ _ ⟨q,a,b,c⟩=>⟨q,a,e _ b,c⟩) z3,w3⟩⟩
end
inductive Az (K:FG9) (C:Addr) (vs:List V) (H:Hp) (Q:VK) (E9:XK):Prop
 | mk (r:Addr) (H0:Hp) (mv pt lk:LR9):vs=[.ref r]->fH K H0 H r mv pt lk->ki mv pt lk->DP mv pt lk->(∀x H',H x=none->aG H H'->rH K H H' C x mv pt lk->Q (.ref x) H')->Az K C vs H Q E9
def nextK (mv pt:LR9) (st pu:List Rat) (k:Nat):List Rat:=List.zipWith (λline col=>dh (line++col.take k) (st++pu.take k)) mv (js pt mv.length)
theorem jL {mv pt:LR9} {st pu:List Rat} {k:Nat}:(nextK mv pt st pu k).length=mv.length:=by unfold nextK;rw[dX,vh];lia
theorem vp {mv pt:LR9} {st pu:List Rat} {k:Nat} (h1:pt.length<=k) (h2:pu.length<=k):nextK mv pt st pu k=fV mv pt st pu:=by
 unfold nextK fV;apply kx;intro i;rw[cC,cC];cases e1:mv[i]? with
 | none=>rfl
 | some line =>
  cases e2:(js pt mv.length)[i]? with
  | none=>rfl
  | some col =>
   have:=CM col (ar e2);show some _=some _
   rw[aL (by lia),aL h2]
theorem Io {rows:LR9} {w i:Nat} (h:i < w):(js rows w)[i]?=some (rows.map λxs=>xs.getD i 0):=by
 unfold js;rw[aF,iW h];rfl
theorem HI {mv pt:LR9} {st pu:List Rat}:nextK mv pt st pu 0=mv.map λxs=>dh xs st:=by
 unfold nextK;apply kx;intro i;rw[cC,aF];by_cases hi:i < mv.length
 ·rw[Io hi,af hi];simp
 ·rw[aW (by lia)];rfl
theorem Bo {mv pt:LR9} {st pu:List Rat} {k i:Nat} (hi:i < mv.length):(nextK mv pt st pu k).getD i 0=dh (mv[i]++(pt.map λxs=>xs.getD i 0).take k) (st++pu.take k):=by
 rw[aa];unfold nextK;rw[cC,af hi,Io hi];rfl
theorem uO {as bs xs ys:List Rat} (h:as.length=xs.length):dh (as++bs) (xs++ys)=dh as xs+dh bs ys:=by
 unfold dh;rw[List.zipWith_append h,List.sum_append]
theorem HJ {mv pt:LR9} {st pu:List Rat} {k:Nat} (hm:∀xs∈mv,xs.length=st.length) (h1:k < pt.length) (h2:k < pu.length) (hw:(pt[k]).length=mv.length) :
  List.zipWith (λx y=>x+y) (nextK mv pt st pu k) ((pt[k]).map λy=>pu[k]*y)=nextK mv pt st pu (k+1):=by
 have l1:((pt[k]).map λy=>pu[k]*y).length=mv.length:=by rw[ag,hw]
 rw[CI (by rw[l1,jL])];apply kx;intro i;rw[aF,jL];by_cases hi:i < mv.length
 ·have e0:(nextK mv pt st pu (k+1))[i]?=some ((nextK mv pt st pu (k+1)).getD i 0):=by
   rw[aa,af (by rw[jL];exact hi)];rfl
  rw[iW hi,e0,Bo hi];have ll:=hm mv[i] (aS hi);have ec:(pt.map λxs=>xs.getD i 0)[k]?=some ((pt[k]).getD i 0):=by rw[aF,af h1];rfl
  have ep:pu[k]?=some pu[k]:=af h2
  have e3:((pt[k]).map λy=>pu[k]*y).getD i 0=pu[k]*(pt[k]).getD i 0:=by
   rw[getD_map (by rw[hw];exact hi),aa,af (by rw[hw];exact hi)];rfl
  show some ((nextK mv pt st pu k).getD i 0+((pt[k]).map λy=>pu[k]*y).getD i 0)=some _
  rw[Bo hi,e3,take_snoc ec,take_snoc ep,uO ll,uO ll,uO (by rw[dq,dq,ag];lia)];have:dh [(pt[k]).getD i 0] [pu[k]]=(pt[k]).getD i 0*pu[k]:=by simp [dh,vT]
  rw[this];congr 1;grind
 ·rw[aW (by simpa using hi),aW (by rw[jL];lia)];rfl
theorem rH.weakN {K:FG9} {H H0 H1:Hp} {C p:Addr} {mv pt lk:LR9} (h:rH K H0 H C p mv pt lk) (e:∀q,H0 q=none->H1 q=none):rH K H1 H C p mv pt lk:=by
 obtain ⟨dx,a,b,c,g,n1,n2,n3,⟨x1,y1,z1,w1⟩,⟨x2,y2,z2,w2⟩,⟨x3,y3,z3,w3⟩⟩:=h;exact ⟨dx,a,b,c,g,e _ n1,e _ n2,e _ n3,⟨x1,y1,Paired.imp' (λ_ _ ⟨q,a,b,c⟩=>⟨q,a,e _ b,c⟩) z1,w1⟩,⟨x2,y2,Paired.imp' (λ_ _ ⟨q,a,b,c⟩=>⟨q,a,e _ b,c⟩) z2,w2⟩,⟨x3,y3,Paired.imp' (λ_ _ ⟨q,a,b,c⟩=>⟨q,a,e _ b,c⟩) z3,w3⟩⟩
theorem y7 {mv pt:LR9} {st pu:List Rat}:(fV mv pt st pu).length=mv.length:=by unfold fV;rw[dX,vh];lia
def zu (k j:Nat) (l:List Rat):Prop:=∃M V:Nat,0 < M/\M<=2^k/\V<=2^j/\∀x∈l,Fr M V x
theorem M8 {M V:Nat} {x:Rat} (h0:0 < M) (h1:M<=2^2000) (h2:V<=2^1950) (h:Fr M V x):mV x:=by
 obtain ⟨a,b⟩:=h.sz h0 h1 h2;exact ⟨a.mono (by decide),b.mono (by decide)⟩
section
variable {k j k' j':Nat} {l xs ys:List Rat} {x y:Rat}
theorem zu.szn (h:zu k j l) (hx:x∈l) (hk:k+j<=3950:=by decide):mV x:=by
 obtain ⟨M,V,h0,h1,h2,h3⟩:=h;obtain ⟨a,b⟩:=(h3 x hx).sz h0 h1 h2;exact ⟨a.mono (by lia),b.mono (by lia)⟩
theorem zu.rowM (h:zu k j l) (hk:k+j<=4200:=by decide):∃M,Ih M (l.map nm):=by
 obtain ⟨M,V,h0,h1,h2,h3⟩:=h;refine ⟨M,by lia,?_,λn hn=>?_⟩
 ·show ((M:Nat):Int).natAbs < 2^4400
  rw[cU];exact bB h1 (eP (by decide) (by lia))
 ·obtain ⟨x,hx,rfl⟩:=az.mp hn;obtain ⟨a,_⟩:=(h3 x hx).sz h0 h1 h2;exact ⟨ij x,(h3 x hx).den,a.mono (by lia)⟩
theorem zu.one (h:zu k j l) (hx:x∈l):zu k j [x]:=by
 obtain ⟨M,V,h0,h1,h2,h3⟩:=h;exact ⟨M,V,h0,h1,h2,λy hy=>by rw[cw.mp hy];exact h3 x hx⟩
theorem LC (h:zu k j xs) (h':zu k' j' ys) (hl:xs.length<=1000) (i:Nat) (hk:(k+k')+(j+j')<=3930:=by decide):mV (dh (xs.take i) (ys.take i)):=by
 obtain ⟨M,V,h0,h1,h2,h3⟩:=h;obtain ⟨N,W,k0,k1,k2,k3⟩:=h'
 have e:1000*(V*W)<=2^(10+(j+j')):=by
  rw[bC 2 10];exact aN (by decide) (ai (aN h2 k2) (by rw[<- bC];exact au _))
 obtain ⟨a,b⟩:=((Fr.dot (λx hx=>h3 x (cI hx)) (λy hy=>k3 y (cI hy))).mono (aB _ (show (xs.take i).length<=1000 by rw[dq];lia))).sz (cp h0 k0) (ai (aN h1 k1) (by rw[<- bC];exact au _)) e;exact ⟨a.mono (by lia),b.mono (by lia)⟩
theorem K2 (hx:zu k j [x]) (hy:zu k' j' [y]) (hk:(k+k')+(j+j')<=3930:=by decide):mV (x*y):=by
 obtain ⟨M,V,h0,h1,h2,h3⟩:=hx;obtain ⟨N,W,k0,k1,k2,k3⟩:=hy;obtain ⟨a,b⟩:=((h3 x (.head _)).mul (k3 y (.head _))).sz (cp h0 k0) (ai (aN h1 k1) (by rw[<- bC];exact au _)) (ai (aN h2 k2) (by rw[<- bC];exact au _));exact ⟨a.mono (by lia),b.mono (by lia)⟩
def Ca (xs ys:List Rat):Prop:=∃k j k' j':Nat,zu k j xs/\zu k' j' ys/\(k+k')+(j+j')<=3930
end
def QI (mv pt lk:LR9):Prop:=∃M V:Nat,0 < M/\M<=2^400/\V<=2^120/\GF M V mv/\GF M V pt/\GF M V lk
section
variable {mv pt lk:LR9}
theorem QI.sf (h:QI mv pt lk):DP mv pt lk:=by obtain ⟨M,V,a,b,c,d⟩:=h;exact ⟨M,V,a,ai b (ak (by decide) (by decide)),ai c (ak (by decide) (by decide)),d⟩
end
inductive D5 (K:FG9) (vs:List V) (H:Hp) (Q:VK) (E9:XK):Prop
 | mk (p q:Addr) (xs ys:List Rat):vs=[.ref p,.ref q]->cX K H p xs->cX K H q ys->ys.length=xs.length->xs.length<=1000->Ca xs ys->(∀r H',aG H H'->cg K H' (dh xs ys) (.ref r)->Q (.ref r) H')->D5 K vs H Q E9
inductive D4 (K:FG9) (vs:List V) (H:Hp) (Q:VK) (E9:XK):Prop
 | mk (p q:Addr) (H0:Hp) (rows:LR9) (ys:List Rat):vs=[.ref p,.ref q]->bI K H0 H p rows->cX K H q ys->rows.length<=1000->ys.length<=1000->((∀xs∈rows,xs.length=ys.length/\Ca xs ys))->(∀r H',H r=none->aG H H'->cX K H' r (rows.map λxs=>dh xs ys)->Q (.ref r) H')->D4 K vs H Q E9
def Cj (mv pt:LR9) (st:List Rat) (pus:LR9) (k:Nat):List Rat:=(pus.take k).foldl (fV mv pt) st
section
variable {mv pt lk pus:LR9} {st:List Rat} {k:Nat}
theorem xA {pu:List Rat} (h:pus[k]?=some pu):Cj mv pt st pus (k+1)=fV mv pt (Cj mv pt st pus k) pu:=by
 unfold Cj;rw[take_snoc h,List.foldl_append];rfl
theorem D3 (h:st.length=mv.length):∀{k:Nat},k<=pus.length->(Cj mv pt st pus k).length=mv.length
 | 0,_=>h
 | k+1,hk=>by rw[xA (af (show k < pus.length by lia)),y7]
theorem Im {M W:Nat} {rows:LR9} {w:Nat} (h:GF M W rows):GF M W (js rows w):=λys hy y hy'=>by
 obtain ⟨j,_,rfl⟩:=az.mp hy;obtain ⟨xs,hx,rfl⟩:=az.mp hy';rw[aa];cases e:xs[j]? with
 | none=>exact Fr.zero
 | some z=>exact h xs hx z (ar e)
end
theorem JT {c:Nat} {l:List Rat} (h:∀x∈l,Dr (2^c) x) (hc:c<=20):∃B:Nat,0 < B/\B<=2^(c*l.length+2)/\∀x∈l,Fr B (2^22) x:=by
 obtain ⟨M,h0,h1,h2⟩:=M7 (c:=c) (n:=l.length) (i:=0) (rows:=[]) O1 rfl h hc;refine ⟨M,h0,?_,h2 l (by simp)⟩;rw[Ar,tW] at h1;exact h1
theorem P6 {i:Int} (h:i=0\/i=1):Fr 1 1 (i:Rat):=Fr.int (by rcases h with rfl | rfl <;> decide)
end L2
namespace L2
abbrev jQ:=Nat->Rat
def Ck (F:List jQ->Rat) (r:Nat):List jQ->List jQ->Rat->Rat
 | _,[],_=>0
 | pre,v :: post,s=>s*v r*F (pre++post)+Ck F r (pre++[v]) post (-s)
def tY:List Nat->List jQ->Rat
 | [],[]=>1
 | [],_ :: _=>0
 | r :: rs,vs=>Ck (λws=>tY rs ws) r [] vs 1
theorem EJ {a b:List jQ} {x:jQ}:tY [] (a++x :: b)=0:=by
 cases a <;> rfl
theorem Ey {F:List jQ->Rat} {r:Nat} {f g h:jQ} {x y:Rat} (hF:∀a b,F (a++h :: b)=x*F (a++f :: b)+y*F (a++g :: b)):∀(b p q:List jQ) (s:Rat),Ck F r (p++h :: q) b s=x*Ck F r (p++f :: q) b s+y*Ck F r (p++g :: q) b s
 | [],p,q,s=>by simp only[Ck,gY,vT]
 | v :: b,p,q,s=>by
  have i1:=hF p (q++b);have i2:=Ey (r:=r) hF b p (q++[v]) (-s);simp only[Ck,ck,eJ] at i1 i2 ⊢;rw[i1,i2];grind
theorem IM {F:List jQ->Rat} {r:Nat} {f g h:jQ} {x y:Rat} (hF:∀a b,F (a++h :: b)=x*F (a++f :: b)+y*F (a++g :: b)) (hr:h r=x*f r+y*g r):∀(a pre b:List jQ) (s:Rat),Ck F r pre (a++h :: b) s=x*Ck F r pre (a++f :: b) s+y*Ck F r pre (a++g :: b) s
 | [],pre,b,s=>by
  have i2:=Ey (r:=r) hF b pre [] (-s);simp only[Ck,cW] at i2 ⊢;rw[i2,hr];grind
 | v :: a,pre,b,s=>by
  have i1:=hF (pre++a) b;have i2:=IM hF hr a (pre++[v]) b (-s);simp only[Ck,ck,eJ] at i1 i2 ⊢;rw[i1,i2];grind
theorem xm {f g h:jQ} {x y:Rat}:∀{rs:List Nat},(∀r∈rs,h r=x*f r+y*g r)->∀a b,tY rs (a++h :: b)=x*tY rs (a++f :: b)+y*tY rs (a++g :: b)
 | [],_,a,b=>by rw[EJ,EJ,EJ];grind
 | r :: rs,hr,a,b=>IM (λa b=>xm (λr' h'=>hr r' (.tail _ h')) a b) (hr r (.head _)) a [] b 1
theorem EI {h:jQ} {rs:List Nat} (hr:∀r∈rs,h r=0) (a b:List jQ):tY rs (a++h :: b)=0:=by
 rw[xm (f:=h) (g:=h) (x:=0) (y:=0) (λr h'=>by rw[hr r h'];grind) a b];grind
theorem IP {F:List jQ->Rat} {r:Nat} {x:jQ} (hF:∀a b,F (a++x :: x :: b)=0):∀(b p q:List jQ) (s:Rat),Ck F r (p++x :: x :: q) b s=0
 | [],p,q,s=>rfl
 | v :: b,p,q,s=>by
  have i1:=hF p (q++b);have i2:=IP (r:=r) hF b p (q++[v]) (-s);simp only[Ck,ck,eJ] at i1 i2 ⊢;rw[i1,i2];grind
theorem IQ {F:List jQ->Rat} {r:Nat} {x:jQ} (hF:∀a b,F (a++x :: x :: b)=0):∀(a pre b:List jQ) (s:Rat),Ck F r pre (a++x :: x :: b) s=0
 | [],pre,b,s=>by
  have i2:=IP (r:=r) hF b pre [] (- -s);simp only[Ck,cW,ck,eJ] at i2 ⊢;rw[i2];grind
 | v :: a,pre,b,s=>by
  have i1:=hF (pre++a) b;have i2:=IQ (r:=r) hF a (pre++[v]) b (-s);simp only[Ck,ck,eJ] at i1 i2 ⊢;rw[i1,i2];grind
theorem BO {x:jQ}:∀{rs:List Nat} (a b:List jQ),tY rs (a++x :: x :: b)=0
 | [],a,b=>EJ
 | r :: rs,a,b=>IQ (λa b=>BO a b) a [] b 1
theorem Nd {x y:jQ} {rs:List Nat} (a b:List jQ):tY rs (a++x :: y :: b)=- tY rs (a++y :: x :: b):=by
 have hr:∀r∈rs,(λr=>1*x r+1*y r) r=1*x r+1*y r:=λ_ _=>rfl
 have h0:=BO (x:=λr=>1*x r+1*y r) (rs:=rs) a b;have h1:=xm hr a ((λr=>1*x r+1*y r) :: b);have h2:=xm hr (a++[x]) b;have h3:=xm hr (a++[y]) b;have h4:=BO (x:=x) (rs:=rs) a b;have h5:=BO (x:=y) (rs:=rs) a b;simp only[ck,eJ,cW] at h0 h1 h2 h3 h4 h5;rw[h1,h2,h3,h4,h5] at h0;grind
theorem EK {x:jQ} {rs:List Nat}:∀(b a c:List jQ),tY rs (a++x :: (b++x :: c))=0
 | [],a,c=>BO a c
 | y :: b,a,c=>by
  have:=EK (x:=x) (rs:=rs) b (a++[y]) c;simp only[ck,eJ,cW] at this;rw[eJ,Nd,this];rfl
def bL:Nat->(Nat->Rat)->Rat
 | 0,_=>0
 | k+1,f=>bL k f+f k
theorem aR {f g:Nat->Rat}:∀{k:Nat},(∀j,j < k->f j=g j)->bL k f=bL k g
 | 0,_=>rfl
 | k+1,h=>by
  show bL k f+f k=bL k g+g k
  rw[aR λj hj=>h j (by lia),h k (by lia)]
theorem oF {f g:Nat->Rat}:∀{k:Nat},bL k (λj=>f j+g j)=bL k f+bL k g
 | 0=>by show (0:Rat)=0+0;grind
 | k+1=>by
  show bL k (λj=>f j+g j)+_=(bL k f+f k)+(bL k g+g k)
  rw[oF];grind
theorem cA {f:Nat->Rat} {c:Rat}:∀{k:Nat},bL k (λj=>c*f j)=c*bL k f
 | 0=>by show (0:Rat)=c*0;grind
 | k+1=>by
  show bL k (λj=>c*f j)+_=c*(bL k f+f k)
  rw[cA];grind
theorem cZ {f:Nat->Rat}:∀{k:Nat},(∀j,j < k->f j=0)->bL k f=0
 | 0,_=>rfl
 | k+1,h=>by
  show bL k f+f k=0
  rw[cZ λj hj=>h j (by lia),h k (by lia)];grind
theorem fY {f:Nat->Rat} {i:Nat}:∀{k:Nat},i < k->(∀j,j < k->j≠i->f j=0)->bL k f=f i
 | k+1,hi,h=>by
  show bL k f+f k=f i
  by_cases e:i=k
  ·subst e;rw[cZ λj hj=>h j (by lia) (by lia)];grind
  ·rw[fY (by lia) λj hj=>h j (by lia),h k (by lia) (λz=>e z.symm)];grind
theorem eT {f:Nat->Nat->Rat} {m:Nat}:∀{k:Nat},bL k (λi=>bL m (f i))=bL m (λj=>bL k λi=>f i j)
 | 0=>(cZ λ_ _=>rfl).symm
 | k+1=>by
  show bL k (λi=>bL m (f i))+bL m (f k)=bL m (λj=>bL k (λi=>f i j)+f k j)
  rw[eT,oF]
theorem HZ {rs:List Nat} {W:jQ} {v:Nat->jQ} {c:Nat->Rat} (a b:List jQ):∀{k:Nat} {W:jQ},(∀r∈rs,W r=bL k λj=>c j*v j r)->tY rs (a++W :: b)=bL k λj=>c j*tY rs (a++v j :: b)
 | 0,W,h=>EI h a b
 | k+1,W,h=>by
  rw[xm (f:=λr=>bL k λj=>c j*v j r) (g:=v k) (x:=1) (y:=c k) (λr hr=>by rw[h r hr];show bL k _+_=_;grind) a b,HZ a b (k:=k) (W:=λr=>bL k λj=>c j*v j r) λr _=>rfl];show _=bL k _+_
  grind
end L2
namespace L2
open Nm
def yT (f:Nat->Nat):Nat->List Nat
 | 0=>[]
 | k+1=>f k :: yT f k
def sU (v:Nat->jQ):Nat->List jQ
 | 0=>[]
 | k+1=>v k :: sU v k
def J8 (v:Nat->jQ) (i:Nat):Nat->List jQ
 | 0=>[]
 | k+1=>if k<=i then [] else v k :: J8 v i k
theorem ug {f:Nat->Nat}:∀{k:Nat},(yT f k).length=k
 | 0=>rfl
 | k+1=>by show (yT f k).length+1=_;rw[ug]
theorem cw_len {v:Nat->jQ}:∀{k:Nat},(sU v k).length=k
 | 0=>rfl
 | k+1=>by show (sU v k).length+1=_;rw[cw_len]
theorem qI {f:Nat->Nat} {r:Nat}:∀{k:Nat},r∈yT f k->∃t,t < k/\r=f t
 | k+1,h=>by
  rcases aE.mp h with h | h
  ·exact ⟨k,by lia,h⟩
  ·obtain ⟨t,a,b⟩:=qI h;exact ⟨t,by lia,b⟩
theorem AQ {f g:Nat->Nat}:∀{k:Nat},(∀j,j < k->f j=g j)->yT f k=yT g k
 | 0,_=>rfl
 | k+1,h=>by
  show f k :: yT f k=g k :: yT g k
  rw[h k (by lia),AQ λj hj=>h j (by lia)]
theorem cw_congr {f g:Nat->jQ}:∀{k:Nat},(∀j,j < k->f j=g j)->sU f k=sU g k
 | 0,_=>rfl
 | k+1,h=>by
  show f k :: sU f k=g k :: sU g k
  rw[h k (by lia),cw_congr λj hj=>h j (by lia)]
theorem cw_mem {v:Nat->jQ} {j:Nat}:∀{k:Nat},j < k->v j∈sU v k
 | k+1,h=>by
  by_cases e:j=k
  ·subst e;exact .head _
  ·exact .tail _ (cw_mem (by lia))
theorem cw_in {v:Nat->jQ} {x:jQ}:∀{k:Nat},x∈sU v k->∃t,t < k/\x=v t
 | k+1,h=>by
  rcases aE.mp h with h | h
  ·exact ⟨k,by lia,h⟩
  ·obtain ⟨t,a,b⟩:=cw_in h;exact ⟨t,by lia,b⟩
theorem LH {v:Nat->jQ} {i j:Nat} (h1:i < j):∀{k:Nat},j < k->v j∈J8 v i k
 | k+1,h=>by
  show v j∈if k<=i then [] else v k :: J8 v i k
  rw[if_neg (by lia)];by_cases e:j=k
  ·subst e;exact .head _
  ·exact .tail _ (LH h1 (by lia))
theorem Gg {v:Nat->jQ} {i:Nat} {x:jQ}:∀{k:Nat},x∈J8 v i k->∃t,t < k/\x=v t
 | k+1,h=>by
  have h:x∈if k<=i then [] else v k :: J8 v i k:=h
  split at h
  ·cases h
  ·rcases aE.mp h with h | h
   ·exact ⟨k,by lia,h⟩
   ·obtain ⟨t,a,b⟩:=Gg h;exact ⟨t,by lia,b⟩
theorem cw_split {v:Nat->jQ} {i:Nat}:∀{k:Nat},i < k->sU v k=J8 v i k++v i :: sU v i
 | k+1,h=>by
  show v k :: sU v k=(if k<=i then [] else v k :: J8 v i k)++_
  by_cases e:i=k
  ·subst e;rw[if_pos (au _)];rfl
  ·rw[if_neg (by lia),cw_split (k:=k) (i:=i) (by lia)];rfl
theorem DA {rs:List Nat} {v:Nat->jQ} {c:Nat->Rat} {W:jQ} {k i:Nat} (hi:i < k) (hW:∀r∈rs,W r=bL k λj=>c j*v j r):tY rs (J8 v i k++W :: sU v i)=c i*tY rs (sU v k):=by
 rw[HZ (v:=v) (c:=c) (W:=W) _ _ hW,fY hi λj hj ne=>?_,cw_split hi];rcases cb j i with h | h
 ·obtain ⟨s,t,e⟩:=GG (cw_mem (v:=v) h);rw[e,EK];grind
 ·obtain ⟨s,t,e⟩:=GG (LH (v:=v) (show i < j by lia) hj);have:=EK (x:=v j) (rs:=rs) t s (sU v i);rw[e,ck,eJ,this];grind
theorem O9 {rs:List Nat} {v:Nat->jQ} {c:Nat->Rat} {W:jQ} {k:Nat} (hW:∀r∈rs,W r=bL k λj=>c j*v j r):tY rs (W :: sU v k)=0:=by
 have:=HZ (v:=v) (c:=c) (W:=W) [] (sU v k) hW;rw[cW] at this;rw[this];refine cZ λj hj=>?_
 obtain ⟨s,t,e⟩:=GG (cw_mem (v:=v) hj);have:=EK (x:=v j) (rs:=rs) s [] t;rw[cW] at this;rw[e,cW,this];grind
theorem JS {rs:List Nat} {v:Nat->jQ} {c:Nat->Rat} {W:jQ} {k i:Nat} {s:Rat} (hi:i∉rs) (h1:W i=bL k (λj=>c j*v j i)+s) (hW:∀r∈rs,W r=bL k λj=>c j*v j r):tY (i :: rs) (W :: sU v k)=s*tY rs (sU v k):=by
 have e:=xm (rs:=i :: rs) (h:=W) (f:=λr=>bL k λj=>c j*v j r) (g:=λr=>if r=i then 1 else 0) (x:=1) (y:=s) (λr hr=>by
  rcases aE.mp hr with rfl | hr
  ·rw[h1,if_pos rfl];grind
  ·rw[hW r hr,if_neg (λz=>hi (by rw[<- z];exact hr))];grind) [] (sU v k)
 rw[cW,cW,cW,O9 (c:=c) λr _=>rfl] at e
 have e2:tY (i :: rs) ((λr=>if r=i then (1:Rat) else 0) :: sU v k)=tY rs (sU v k):=by
  show 1*(if i=i then (1:Rat) else 0)*tY rs ([]++sU v k)+Ck (λws=>tY rs ws) i ([]++[λr=>if r=i then (1:Rat) else 0]) (sU v k) (-1)=_
  have hF:∀a b,(λws=>tY rs ws) (a++(λr=>if r=i then (1:Rat) else 0) :: b)=0*(λws=>tY rs ws) (a++(λr=>if r=i then (1:Rat) else 0) :: b)+0*(λws=>tY rs ws) (a++(λr=>if r=i then (1:Rat) else 0) :: b):=λa b=>by
   have:=EI (h:=λr=>if r=i then (1:Rat) else 0) (rs:=rs) (λr hr=>if_neg λz=>hi (by rw[<- z];exact hr)) a b
   dsimp only
   rw[this];grind
  have:=Ey (r:=i) hF (sU v k) [] [] (-1);rw[this,if_pos rfl,cW];grind
 rw[e2] at e;rw[e];grind
theorem NO {F:List jQ->Rat} {r B W:Nat}:∀{post pre:List jQ} {s:Rat},(∀ws,(∀w∈ws,w∈pre++post)->ws.length+1=(pre++post).length->Fr 1 B (F ws))->(∀w∈post,Fr 1 W (w r))->Fr 1 1 s->Fr 1 (post.length*(W*B)) (Ck F r pre post s)
 | [],pre,s,_,_,_=>by show Fr 1 _ 0;exact Fr.zero
 | v :: post,pre,s,hF,hw,hs=>by
  have t1:Fr 1 (W*B) (s*v r*F (pre++post)):=by
   have:=(hs.mul (hw v (.head _))).mul (hF (pre++post) (λw h=>by
    rcases ax.mp h with h | h
    ·exact hJ _ h
    ·exact bP _ (.tail _ h)) (by simp only[av,bD];lia))
   simpa using this
  have t2:=NO (F:=F) (r:=r) (B:=B) (W:=W) (post:=post) (pre:=pre++[v]) (s:=-s) (λws h h'=>hF ws (λw hw=>by simpa using h w hw) (by simpa using h')) (λw h=>hw w (.tail _ h)) (by simpa using hs.neg);exact (t1.add t2).mono (by rw[bD,mB];lia)
theorem BN {W N:Nat}:∀{rs:List Nat} {vs:List jQ},vs.length<=N->(∀v∈vs,∀r∈rs,Fr 1 W (v r))->Fr 1 ((N*W)^rs.length) (tY rs vs)
 | [],[],_,_=>by show Fr 1 1 1;exact (Fr.int (i:=1) (by decide))
 | [],_ :: _,_,_=>by show Fr 1 _ 0;exact Fr.zero
 | r :: rs,vs,hl,h=>by
  have:=NO (F:=λws=>tY rs ws) (r:=r) (B:=(N*W)^rs.length) (W:=W) (post:=vs) (pre:=[]) (s:=1) (λws h1 h2=>BN (by rw[cW] at h2;lia) λv hv r' hr'=>h v (by simpa using h1 v hv) r' (.tail _ hr')) (λw hw=>h w hw r (.head _)) (Fr.int (i:=1) (by decide));refine this.mono ?_;rw[bD,gZ,bV ((N*W)^rs.length),cE N];exact aB _ hl
structure yJ (a:Nat->Nat->Rat) (m k:Nat) (pm p:Nat->Nat) (l:Nat->Nat->Rat) (d:Rat):Prop where
 inj:∀i j,i < m->j < m->pm i=pm j->i=j
 rng:∀i,i < m->pm i < m
 km:k<=m
 d0:d≠0
 det:d=tY (yT pm k) (sU (λj r=>a r (p j)) k)
 eqs:∀i,i < m->∀c,d*a (pm i) c=bL k (λj=>a (pm i) (p j)*l j c)+if i < k then 0 else l i c
 unit:∀i,i < m->∀j,j < k->l i (p j)=if i=j then d else 0
section
variable {a l:Nat->Nat->Rat} {m k:Nat} {pm p:Nat->Nat} {d:Rat}
theorem yJ.start (h:∀i,i < m->pm i=i):yJ a m 0 pm p a 1 where
 inj i j hi hj e:=by rw[h i hi,h j hj] at e;exact e
 rng i hi:=by rw[h i hi];exact hi
 km:=bo _
 d0:=by decide
 det:=rfl
 eqs i hi c:=by
  rw[h i hi,if_neg (by lia)];show 1*a i c=0+a i c
  grind
 unit i _ j hj:=absurd hj (by lia)
theorem yJ.coef (B:yJ a m k pm p l d) {i c:Nat} (hi:i < m):a (pm i) c=bL k (λj=>(l j c / d)*a (pm i) (p j))+if i < k then 0 else l i c / d:=by
 have h:=B.eqs i hi c;have d0:=B.d0
 have e:bL k (λj=>(l j c / d)*a (pm i) (p j))=(1 / d)*bL k (λj=>a (pm i) (p j)*l j c):=by
  rw[<- cA];exact aR λj _=>by grind
 rw[e]
 split at h
 ·rw[if_pos (by assumption)];grind
 ·rw[if_neg (by assumption)];grind
theorem yJ.old (B:yJ a m k pm p l d) {i c:Nat} (hi:i < k):l i c=tY (yT pm k) (J8 (λj r=>a r (p j)) i k++(λr=>a r c) :: sU (λj r=>a r (p j)) i):=by
 have km:=B.km;have d0:=B.d0;rw[DA (v:=λj r=>a r (p j)) (c:=λj=>l j c / d) hi λr hr=>?_,<- B.det]
 ·grind
 ·obtain ⟨t,ht,rfl⟩:=qI hr;have:=B.coef (i:=t) (c:=c) (by lia);rw[if_pos ht] at this;rw[this];grind
theorem yJ.new (B:yJ a m k pm p l d) {i c:Nat} (h1:k<=i) (hi:i < m):l i c=tY (pm i :: yT pm k) ((λr=>a r c) :: sU (λj r=>a r (p j)) k):=by
 have km:=B.km;have d0:=B.d0
 have hn:pm i∉yT pm k:=λhm=>by
  obtain ⟨t,ht,e⟩:=qI hm;have:=B.inj i t hi (by lia) e
  lia
 have e1:a (pm i) c=bL k (λj=>(l j c / d)*a (pm i) (p j))+l i c / d:=by
  have:=B.coef (i:=i) (c:=c) hi;rwa [if_neg (by lia)] at this
 have e2:∀r∈yT pm k,a r c=bL k (λj=>(l j c / d)*a r (p j)):=λr hr=>by
  obtain ⟨t,ht,rfl⟩:=qI hr;have:=B.coef (i:=t) (c:=c) (by lia);rw[if_pos ht] at this;rw[this];grind
 rw[JS (v:=λj r=>a r (p j)) (c:=λj=>l j c / d) (W:=λr=>a r c) (s:=l i c / d) hn e1 e2,<- B.det];grind
theorem yJ.fr {W N:Nat} (B:yJ a m k pm p l d) (hN:k < N) (hW:1<=W) (ha:∀i,i < m->∀c,Fr 1 W (a i c)) {i c:Nat} (hi:i < m):Fr 1 ((N*W)^(k+1)) (l i c):=by
 have km:=B.km;have mono:∀t,t<=k+1->(N*W)^t<=(N*W)^(k+1):=λt ht=>ak (cp (by lia) hW) ht
 have ha':∀r∈yT pm k,∀c,Fr 1 W (a r c):=λr hr c=>by
  obtain ⟨t,ht,rfl⟩:=qI hr;exact ha _ (B.rng t (by lia)) c
 by_cases h:i < k
 ·rw[B.old h];refine (BN (W:=W) (N:=N) ?_ ?_).mono (mono _ (by rw[ug];lia))
  ·have:=congrArg List.length (cw_split (v:=λj r=>a r (p j)) h);rw[av,bD,cw_len] at this;rw[av,bD]
   lia
  ·intro v hv r hr;rcases ax.mp hv with hv | hv
   ·obtain ⟨t,_,rfl⟩:=Gg hv;exact ha' r hr _
   ·rcases aE.mp hv with rfl | hv
    ·exact ha' r hr _
    ·obtain ⟨t,_,rfl⟩:=cw_in hv;exact ha' r hr _
 ·rw[B.new (by lia) hi];refine (BN (W:=W) (N:=N) ?_ ?_).mono (mono _ (by rw[bD,ug];lia))
  ·rw[bD,cw_len]
   lia
  ·intro v hv r hr
   have hr':∀c,Fr 1 W (a r c):=λc=>by
    rcases aE.mp hr with rfl | hr
    ·exact ha _ (B.rng i hi) c
    ·exact ha' r hr c
   rcases aE.mp hv with rfl | hv
   ·exact hr' _
   ·obtain ⟨t,_,rfl⟩:=cw_in hv;exact hr' _
theorem yJ.dfr {W N:Nat} (B:yJ a m k pm p l d) (hN:k<=N) (ha:∀i,i < m->∀c,Fr 1 W (a i c)):Fr 1 ((N*W)^k) d:=by
 have km:=B.km;rw[B.det]
 have:=BN (W:=W) (N:=N) (rs:=yT pm k) (vs:=sU (λj r=>a r (p j)) k) (by rw[cw_len];exact hN) λv hv r hr=>by
  obtain ⟨t,ht,rfl⟩:=qI hr;obtain ⟨t',_,rfl⟩:=cw_in hv;exact ha _ (B.rng t (by lia)) _
 rwa [ug] at this
def ky (k t i:Nat):Nat:=if i=k then t else if i=t then k else i
theorem vW {k t m i:Nat} (hk:k < m) (ht:t < m) (hi:i < m):ky k t i < m:=by
 unfold ky
 split
 ·exact ht
 ·split
  ·exact hk
  ·exact hi
theorem Oi {k t i j:Nat} (h:ky k t i=ky k t j):i=j:=by
 unfold ky at h
 split at h <;> split at h <;> (try split at h) <;> (try split at h) <;> lia
theorem wX {k t i:Nat} (h:k<=t) (hi:i < k):ky k t i=i:=by
 unfold ky;rw[if_neg (by lia),if_neg (by lia)]
theorem xx {k t i:Nat} (h:k<=t) (hi:k<=i):k<=ky k t i:=by
 unfold ky
 split
 ·exact h
 ·split <;> lia
theorem yJ.swap (B:yJ a m k pm p l d) {t:Nat} (h:k<=t) (ht:t < m):yJ a m k (λi=>pm (ky k t i)) p (λi=>l (ky k t i)) d where
 inj i j hi hj e:=Oi (B.inj _ _ (vW (by lia) ht hi) (vW (by lia) ht hj) e)
 rng i hi:=B.rng _ (vW (by lia) ht hi)
 km:=B.km
 d0:=B.d0
 det:=by rw[B.det,AQ (f:=pm) (g:=λi=>pm (ky k t i)) λj hj=>by rw[wX h hj]]
 eqs i hi c:=by
  have e:=B.eqs (ky k t i) (vW (by lia) ht hi) c;have e1:bL k (λj=>a (pm (ky k t i)) (p j)*l (ky k t j) c)=bL k (λj=>a (pm (ky k t i)) (p j)*l j c):=aR λj hj=>by rw[wX h hj]
  rw[e1];by_cases hk:i < k
  ·rw[wX h hk] at e ⊢;exact e
  ·rw[if_neg hk];rw[if_neg (by have:=xx h (show k<=i by lia);lia)] at e;exact e
 unit i hi j hj:=by
  rw[B.unit _ (vW (by lia) ht hi) j hj];by_cases hk:i < k
  ·rw[wX h hk]
  ·have:=xx h (show k<=i by lia);rw[if_neg (by lia),if_neg (by lia)]
theorem yJ.step (B:yJ a m k pm p l d) {c0:Nat} (hk:k < m) (h0:l k c0≠0):yJ a m (k+1) pm (λj=>if j=k then c0 else p j) (λi c=>if i=k then l k c else (l k c0*l i c - l i c0*l k c) / d) (l k c0) where
 inj:=B.inj
 rng:=B.rng
 km:=hk
 d0:=h0
 det:=by
  rw[B.new (au _) hk];show _=tY (pm k :: yT pm k) ((λr=>a r (if k=k then c0 else p k)) :: sU _ k)
  rw[if_pos rfl];congr 2;exact cw_congr λj hj=>by rw[if_neg (show j≠k by lia)]
 eqs i hi c:=by
  have d0:=B.d0;have e1:=B.eqs i hi c;have e2:=B.eqs i hi c0;show l k c0*a (pm i) c=(bL k _+_)+_
  have s1:bL k (λj=>a (pm i) (if j=k then c0 else p j)*(if j=k then l k c else (l k c0*l j c - l j c0*l k c) / d))=(l k c0 / d)*bL k (λj=>a (pm i) (p j)*l j c)+(- l k c / d)*bL k (λj=>a (pm i) (p j)*l j c0):=by
   rw[<- cA,<- cA,<- oF];refine aR λj hj=>?_
   rw[if_neg (show j≠k by lia),if_neg (show j≠k by lia)];grind
  rw[s1];simp only[if_true];generalize bL k (λj=>a (pm i) (p j)*l j c)=S1 at e1 ⊢;generalize bL k (λj=>a (pm i) (p j)*l j c0)=S2 at e2 ⊢;rcases dU i k with h | h | h
  ·rw[if_pos h] at e1 e2;rw[if_pos (by lia)];grind
  ·subst h;rw[if_neg (by lia)] at e1 e2;rw[if_pos (by lia)];grind
  ·rw[if_neg (by lia)] at e1 e2;rw[if_neg (by lia),if_neg (by lia)];grind
 unit i hi j hj:=by
  have d0:=B.d0;by_cases e:j=k
  ·subst e;simp only[if_true];by_cases ei:i=j
   ·rw[if_pos ei,if_pos ei]
   ·rw[if_neg ei,if_neg ei];grind
  ·have hj':j < k:=by lia
   rw[if_neg e];by_cases ei:i=k
   ·rw[if_pos ei,B.unit k hk j hj',if_neg (by lia),if_neg (by lia)]
   ·rw[if_neg ei,B.unit i hi j hj',B.unit k hk j hj',if_neg (show k≠j by lia)]
    split
    ·grind
    ·grind
end
def dW (m:Nat) (a:Nat->Nat->Rat) (x:Nat->Rat):Prop:=∃w:Nat->Rat,∀c,x c=bL m λt=>w t*a t c
section
variable {m m' k n:Nat} {a b:Nat->Nat->Rat} {x y:Nat->Rat}
theorem dW.row {i:Nat} (hi:i < m):dW m a (a i):=⟨λt=>if t=i then 1 else 0,λc=>by
 rw[fY hi λj _ ne=>by dsimp only;rw[if_neg ne];grind]
 dsimp only
 rw[if_pos rfl];grind⟩
theorem dW.lin (α β:Rat) (hx:dW m a x) (hy:dW m a y):dW m a λc=>α*x c+β*y c:=by
 obtain ⟨w,hw⟩:=hx;obtain ⟨v,hv⟩:=hy;refine ⟨λt=>α*w t+β*v t,λc=>?_⟩
 dsimp only
 rw[hw c,hv c,<- cA,<- cA,<- oF];exact aR λj _=>by grind
theorem dW.congr (h:∀c,x c=y c) (hx:dW m a x):dW m a y:=by obtain ⟨w,hw⟩:=hx;exact ⟨w,λc=>by rw[<- h c];exact hw c⟩
theorem dW.trans (h:∀t,t < m'->dW m a (b t)) (hx:dW m' b x):dW m a x:=by
 obtain ⟨v,hv⟩:=hx
 have h2:∀t,∃w:Nat->Rat,t < m'->∀c,b t c=bL m λs=>w s*a s c:=λt=>by
  by_cases ht:t < m'
  ·obtain ⟨w,hw⟩:=h t ht;exact ⟨w,λ_=>hw⟩
  ·exact ⟨λ_=>0,λz=>absurd z ht⟩
 have hc:=Classical.axiomOfChoice h2;obtain ⟨w,hw⟩:=hc;refine ⟨λs=>bL m' λt=>v t*w t s,λc=>?_⟩;rw[hv c];have e1:bL m' (λt=>v t*b t c)=bL m' (λt=>bL m λs=>v t*(w t s*a s c)):=aR λt ht=>by rw[hw t ht c,<- cA]
 rw[e1,eT];refine aR λs _=>?_
 have:bL m' (λt=>v t*w t s)*a s c=a s c*bL m' (λt=>v t*w t s):=dS ..;rw[this,<- cA];exact aR λt _=>by grind
theorem dW.zero (h:∀c,x c=0):dW m a x:=⟨λ_=>0,λc=>by rw[h c,cZ λ_ _=>by grind]⟩
end
structure DQ (m n:Nat) (a:Nat->Nat->Rat) (k:Nat) (p:Nat->Nat) (R:Nat->Nat->Rat):Prop where
 inc:∀i j,i < j->j < k->p i < p j
 low:∀j,j < k->p j < n
 unit:∀i,i < k->∀j,j < k->R i (p j)=if i=j then 1 else 0
 lead:∀i,i < k->∀c,c < p i->R i c=0
 span:∀i,i < m->dW k R (a i)
 back:∀i,i < k->dW m a (R i)
section
variable {m m' k k' n:Nat} {a a' R R':Nat->Nat->Rat} {p p':Nat->Nat} {x:Nat->Rat}
theorem DQ.coef (h:DQ m n a k p R) (hx:dW k R x) (c:Nat):x c=bL k λj=>x (p j)*R j c:=by
 obtain ⟨w,hw⟩:=hx;rw[hw c];refine aR λj hj=>?_
 rw[hw (p j),fY hj λt ht ne=>by rw[h.unit t ht j hj,if_neg ne];grind,h.unit j hj j hj,if_pos rfl];grind
theorem DQ.lead_in (h:DQ m n a k p R) (hx:dW k R x) {c:Nat} (h1:x c≠0) (h0:∀c',c' < c->x c'=0):∃j,j < k/\p j=c:=by
 refine Classical.byContradiction λhn=>h1 ?_
 rw[h.coef hx c];refine cZ λj hj=>?_
 rcases dU (p j) c with z | z | z
 ·rw[h0 _ z];grind
 ·exact absurd ⟨j,hj,z⟩ hn
 ·rw[h.lead j hj c z];grind
theorem inc_le (h1:∀i j,i < j->j < k->p i < p j) (h2:∀i j,i < j->j < k'->p' i < p' j) (hs:∀j,j < k'->∃i,i < k/\p i=p' j):∀{j:Nat},j < k'->∀{i:Nat},i < k->p i=p' j->j<=i
 | 0,_,_,_,_=>bo _
 | j+1,hj,i,hi,e=>by
  obtain ⟨i0,hi0,e0⟩:=hs j (by lia);have:=inc_le h1 h2 hs (j:=j) (by lia) hi0 e0;have lt:=h2 j (j+1) (by lia) hj;rcases dU i0 i with z | z | z
  ·lia
  ·subst z;lia
  ·have:=h1 i i0 z hi0;lia
theorem Lh (h1:∀i j,i < j->j < k->p i < p j) {i j:Nat} (h:i<=j) (hj:j < k):p i<=p j:=by
 rcases cb i j with z | z
 ·exact bg (h1 i j z hj)
 ·have:i=j:=by lia
  rw[this];exact au _
theorem IV (h1:∀i j,i < j->j < k->p i < p j) (h2:∀i j,i < j->j < k'->p' i < p' j) (hs:∀j,j < k'->∃i,i < k/\p i=p' j):k'<=k/\∀j,j < k'->p j<=p' j:=by
 refine ⟨?_,λj hj=>?_⟩
 ·rcases oB k' with z | z
  ·lia
  ·obtain ⟨i,hi,e⟩:=hs (k' - 1) (by lia);have:=inc_le h1 h2 hs (j:=k' - 1) (by lia) hi e
   lia
 ·obtain ⟨i,hi,e⟩:=hs j hj;rw[<- e];exact Lh h1 (inc_le h1 h2 hs hj hi e) hi
theorem DQ.uniq (h:DQ m n a k p R) (h':DQ m' n a' k' p' R') (s1:∀i,i < m->dW m' a' (a i)) (s2:∀i,i < m'->dW m a (a' i)):k=k'/\(∀j,j < k->p j=p' j)/\∀i,i < k->∀c,R i c=R' i c:=by
 have x1:∀i,i < k->dW k' R' (R i):=λi hi=>dW.trans (λt ht=>h'.span t ht) (dW.trans s1 (h.back i hi))
 have x2:∀i,i < k'->dW k R (R' i):=λi hi=>dW.trans (λt ht=>h.span t ht) (dW.trans s2 (h'.back i hi))
 have y1:∀j,j < k->∃i,i < k'/\p' i=p j:=λj hj=>h'.lead_in (x1 j hj) (by rw[h.unit j hj j hj,if_pos rfl];decide) (h.lead j hj)
 have y2:∀j,j < k'->∃i,i < k/\p i=p' j:=λj hj=>h.lead_in (x2 j hj) (by rw[h'.unit j hj j hj,if_pos rfl];decide) (h'.lead j hj)
 obtain ⟨z1,w1⟩:=IV h'.inc h.inc y1;obtain ⟨z2,w2⟩:=IV h.inc h'.inc y2;have ek:k=k':=L0 z1 z2;subst ek;have ep:∀j,j < k->p j=p' j:=λj hj=>L0 (w2 j hj) (w1 j hj)
 refine ⟨rfl,ep,λi hi c=>?_⟩;rw[h.coef (x2 i hi) c,fY hi λj hj ne=>by rw[ep j hj,h'.unit i hi j hj,if_neg (λz=>ne z.symm)];grind,ep i hi,h'.unit i hi i hi,if_pos rfl];grind
end
structure lh (a:Nat->Nat->Rat) (m k P:Nat) (p:Nat->Nat) (l:Nat->Nat->Rat) (d:Rat):Prop where
 km:k<=m
 d0:d≠0
 unit:∀i,i < m->∀j,j < k->l i (p j)=if i=j then d else 0
 inc:∀i j,i < j->j < k->p i < p j
 low:∀j,j < k->p j < P
 zero:∀i,k<=i->i < m->∀c,c < P->l i c=0
 lead:∀j,j < k->∀c,c < p j->l j c=0
 there:∀i,i < m->dW m l (a i)
 back:∀i,i < m->dW m a (l i)
section
variable {m k n P:Nat} {a l l':Nat->Nat->Rat} {p:Nat->Nat} {d d':Rat}
theorem lh.start:lh a m 0 0 p a 1 where
 km:=bo _
 d0:=by decide
 unit _ _ j hj:=absurd hj (by lia)
 inc _ j _ hj:=absurd hj (by lia)
 low j hj:=absurd hj (by lia)
 zero _ _ _ c hc:=absurd hc (by lia)
 lead j hj:=absurd hj (by lia)
 there i hi:=dW.row hi
 back i hi:=dW.row hi
theorem lh.skip (E:lh a m k P p l d) (h:∀i,k<=i->i < m->l i P=0):lh a m k (P+1) p l d :=
 ⟨E.km,E.d0,E.unit,E.inc,λj hj=>Nat.lt_succ_of_lt (E.low j hj),λi h1 h2 c hc=>by
  by_cases e:c=P
  ·rw[e];exact h i h1 h2
  ·exact E.zero i h1 h2 c (by lia),E.lead,E.there,E.back⟩
theorem PZ {k t i:Nat}:ky k t (ky k t i)=i:=by
 unfold ky
 split
 ·split <;> (try split) <;> lia
 ·split
  ·rw[if_pos rfl];lia
  ·rfl
theorem lh.swap (E:lh a m k P p l d) {t:Nat} (h:k<=t) (ht:t < m):lh a m k P p (λi=>l (ky k t i)) d where
 km:=E.km
 d0:=E.d0
 unit i hi j hj:=by
  rw[E.unit _ (vW (by lia) ht hi) j hj];by_cases hk:i < k
  ·rw[wX h hk]
  ·have:=xx h (show k<=i by lia);rw[if_neg (by lia),if_neg (by lia)]
 inc:=E.inc
 low:=E.low
 zero i h1 h2 c hc:=E.zero _ (xx h h1) (vW (by lia) ht h2) c hc
 lead j hj c hc:=by rw[wX h hj];exact E.lead j hj c hc
 there i hi:=dW.trans (λs hs=>dW.congr (λc=>by rw[PZ]) (dW.row (a:=λi=>l (ky k t i)) (i:=ky k t s) (vW (by lia) ht hs))) (E.there i hi)
 back i hi:=E.back _ (vW (by lia) ht hi)
theorem lh.step (E : lh a m k P p l d) (hk : k < m) (h0 : d' ≠ 0) (unit' : ∀ i, i < m → ∀ j, j < k + 1 → l' i (if j = k then P else p j) = if i = j then d' else 0)
    (hl : ∀ i, i < m → ∃ β γ : Rat, β ≠ 0 /\ (i = k → γ = 0) /\ ∀ c, l' i c = β * l i c + γ * l k c) : lh a m (k + 1) (P + 1) (λj => if j = k then P else p j) l' d' where
  km := hk
  d0 := h0
  unit := unit'
  inc i j hij hj := by
    by_cases e : j = k
    · rw [if_pos e, if_neg (by lia)];exact E.low i (by lia)
    · rw [if_neg e, if_neg (by lia)];exact E.inc i j hij (by lia)
  low j hj := by
    by_cases e : j = k
    · rw [if_pos e]; lia
    · rw [if_neg e];exact Nat.lt_succ_of_lt (E.low j (by lia))
  zero i h1 h2 c hc := by
    by_cases e : c = P
    · have := unit' i h2 k (by lia);rw [if_pos rfl, if_neg (by lia)] at this;rw [e]; exact this
    · obtain ⟨β, γ, _, _, q⟩ := hl i h2;rw [q c, E.zero i (by lia) h2 c (by lia), E.zero k (au _) hk c (by lia)];grind
  lead j hj c hc := by
    have km := E.km;obtain ⟨β, γ, _, _, q⟩ := hl j (by lia);by_cases e : j = k
    · rw [if_pos e] at hc;rw [q c, e, E.zero k (au _) hk c hc];grind
    · rw [if_neg e] at hc;have := E.low j (by lia);rw [q c, E.lead j (by lia) c hc, E.zero k (au _) hk c (by lia)];grind
  there i hi := by
    refine dW.trans (λs hs => ?_) (E.there i hi);obtain ⟨β, γ, b0, _, q⟩ := hl s hs;obtain ⟨βk, γk, bk0, gk, qk⟩ := hl k hk;have g0 := gk rfl;refine dW.congr (λc => ?_) (dW.lin (1 / β) (-(γ / β) / βk) (dW.row (a := l') hs) (dW.row (a := l') hk));rw [q c, qk c, g0];grind
  back i hi := by
    obtain ⟨β, γ, _, _, q⟩ := hl i hi;exact dW.congr (λc => (q c).symm) (dW.lin β γ (E.back i hi) (E.back k hk))
theorem lh.done (E:lh a m k n p l d) (ha:∀i,i < m->∀c,n<=c->a i c=0):DQ m n a k p (λi c=>l i c / d) where
 inc:=E.inc
 low:=E.low
 unit i hi j hj:=by
  have d0:=E.d0;have km:=E.km;rw[E.unit i (by lia) j hj]
  split
  ·grind
  ·grind
 lead i hi c hc:=by
  rw[E.lead i hi c hc];grind
 span i hi:=by
  have d0:=E.d0;refine dW.trans (λs hs=>?_) (E.there i hi);by_cases z:s < k
  ·refine dW.congr (λc=>?_) (dW.lin d 0 (dW.row (a:=λi c=>l i c / d) z) (dW.row (a:=λi c=>l i c / d) z));grind
  ·refine dW.zero λc=>?_
   by_cases hc:c < n
   ·exact E.zero s (by lia) hs c hc
   ·obtain ⟨w,hw⟩:=E.back s hs;rw[hw c,cZ λt ht=>by rw[ha t ht c (by lia)];grind]
 back i hi:=by
  have km:=E.km;have d0:=E.d0;refine dW.congr (λc=>?_) (dW.lin (1 / d) 0 (E.back i (by lia)) (E.back i (by lia)));grind
end
def dO (ls:List (List Int)) (i c:Nat):Rat:=(((ls.getD i []).getD c 0:Int):Rat)
def b6 (rows:LR9) (i c:Nat):Rat:=(rows.getD i []).getD c 0
def rO (ls:List (List Int)) (k t:Nat):List (List Int):=(ls.set k (ls.getD t [])).set t (ls.getD k [])
def Gi (ls:List (List Int)) (k c:Nat) (b:Int):List (List Int):=(ls.map λzs=>List.zipWith (λx y=>((ls.getD k []).getD c 0*x - zs.getD c 0*y).fdiv b) zs (ls.getD k [])).set k (ls.getD k [])
section
variable {ls ls0:List (List Int)} {k t n P c:Nat} {b d:Int} {ps:List Nat}
theorem uL {α:Type} {l:List α} {i j:Nat} {x e:α} (hi:i < l.length):(l.set i x).getD j e=if j=i then x else l.getD j e:=by
 rw[aa,aa,List.getElem?_set];by_cases h:j=i
 ·subst h;rw[if_pos rfl,if_pos hi,if_pos rfl];rfl
 ·rw[if_neg (λz=>h z.symm),if_neg h]
theorem yN:(rO ls k t).length=ls.length:=by unfold rO;rw[d7,d7]
theorem LL:(Gi ls k c b).length=ls.length:=by unfold Gi;rw[d7,ag]
theorem getD_in {α:Type} {l:List α} {i:Nat} {e:α} (h:i < l.length):l.getD i e∈l:=by
 rw[aa,af h];exact aS h
theorem Iq (w:∀zs∈ls,zs.length=n) (hk:k < ls.length) (ht:t < ls.length):∀zs∈rO ls k t,zs.length=n:=λzs hz=>by
 unfold rO at hz;rcases cx hz with h | h
 ·rcases cx h with h | h
  ·exact w zs h
  ·rw[h];exact w _ (getD_in ht)
 ·rw[h];exact w _ (getD_in hk)
theorem Jf (w:∀zs∈ls,zs.length=n) (hk:k < ls.length):∀zs∈Gi ls k c b,zs.length=n:=λzs hz=>by
 unfold Gi at hz;rcases cx hz with h | h
 ·obtain ⟨y,hy,rfl⟩:=az.mp h;rw[dX,w y hy,w _ (getD_in hk)]
  lia
 ·rw[h];exact w _ (getD_in hk)
theorem yh (hk:k < ls.length) (ht:t < ls.length) (i c:Nat):dO (rO ls k t) i c=dO ls (ky k t i) c:=by
 unfold dO rO ky;rw[uL (by rw[d7];exact ht),uL hk];by_cases h1:i=t
 ·rw[if_pos h1];by_cases h2:i=k
  ·rw[if_pos h2,<- h1,<- h2]
  ·rw[if_neg h2,if_pos h1]
 ·rw[if_neg h1];by_cases h2:i=k
  ·rw[if_pos h2,if_pos h2]
  ·rw[if_neg h2,if_neg h2,if_neg h1]
theorem xl (w:∀zs∈ls,zs.length=n) {i c:Nat} (hc:n<=c):dO ls i c=0:=by
 unfold dO;by_cases h:i < ls.length
 ·have:=w _ (getD_in (e:=[]) h);rw[aa (l:=ls.getD i []),aW (by lia)];rfl
 ·rw[aa (l:=ls),aW (by lia)];rfl
theorem uP {x:Int} (h:(x:Rat)=0):x=0:=by
 have:(x:Rat)=((0:Int):Rat):=h;exact dD.mp this
theorem HY {x b:Int} {q:Rat} (hb:b≠0) (hq:∃z:Int,q=(z:Rat)) (e:(x:Rat)=(b:Rat)*q):((x.fdiv b:Int):Rat)=q:=by
 obtain ⟨z,rfl⟩:=hq;rw[<- aQ] at e;have:=dD.mp e;rw[this,Int.mul_fdiv_cancel_left _ hb]
theorem yg {W:Nat} {q:Rat} (h:Fr 1 W q):∃z:Int,q=(z:Rat):=by
 obtain ⟨z,e,_⟩:=h;exact ⟨z,by rw[<- e];simp⟩
theorem xk {W:Nat} {z:Int} (h:Fr 1 W (z:Rat)):z.natAbs<=W:=by
 obtain ⟨y,e,b⟩:=h;have:(z:Rat)=(y:Rat):=by rw[<- e];simp
 rw[dD.mp this];simpa using b
theorem Lv (w:∀zs∈ls,zs.length=n) (hk:k < ls.length) (hb:b≠0) {i:Nat} (hi:i < ls.length) (hz:∀c,∃z:Int,(dO ls k P*dO ls i c - dO ls i P*dO ls k c) / (b:Rat)=(z:Rat)) (c:Nat) :
  dO (Gi ls k P b) i c=if i=k then dO ls k c else (dO ls k P*dO ls i c - dO ls i P*dO ls k c) / (b:Rat):=by
 by_cases e:i=k
 ·rw[if_pos e];unfold dO Gi;rw[uL (by rw[ag];exact hk),if_pos e]
 ·rw[if_neg e];by_cases hc:c < n
  ·have hb':(b:Rat)≠0:=λz=>hb (uP z)
   have lk:=w _ (getD_in (e:=[]) hk);have li:=w _ (getD_in (e:=[]) hi)
   have e1:dO (Gi ls k P b) i c=(((((ls.getD k []).getD P 0*(ls.getD i []).getD c 0 - (ls.getD i []).getD P 0*(ls.getD k []).getD c 0).fdiv b:Int)):Rat):=by
    unfold Gi;rw[dO,uL (by rw[ag];exact hk),if_neg e];rw[aa (l:=List.map _ ls),aF,af hi];show ((((List.zipWith _ ls[i] (ls.getD k [])).getD c 0:Int)):Rat)=_
    have ei:ls.getD i []=ls[i]:=by rw[aa,af hi];rfl
    rw[<- ei];rw[aa (l:=List.zipWith _ _ _),cC,aa (l:=ls.getD i []) (i:=c),aa (l:=ls.getD k []) (i:=c),af (show c < (ls.getD i []).length by lia),af (show c < (ls.getD k []).length by lia)];rfl
   rw[e1];refine HY hb (hz c) ?_;rw[Cd,aQ,aQ];show _=(b:Rat)*((dO ls k P*dO ls i c - dO ls i P*dO ls k c) / (b:Rat))
   show dO ls k P*dO ls i c - dO ls i P*dO ls k c=_
   grind
  ·rw[xl (Jf w hk) (show n<=c by lia),xl w (i:=i) (show n<=c by lia),xl w (i:=k) (show n<=c by lia)];grind
end
section
variable {m k n P:Nat} {a l l2:Nat->Nat->Rat} {pm p p2:Nat->Nat} {d:Rat}
theorem yJ.congr (B:yJ a m k pm p l d) (hp:∀j,j < k->p2 j=p j) (hl:∀i,i < m->∀c,l2 i c=l i c):yJ a m k pm p2 l2 d where
 inj:=B.inj
 rng:=B.rng
 km:=B.km
 d0:=B.d0
 det:=by rw[B.det,cw_congr (f:=λj r=>a r (p j)) (g:=λj r=>a r (p2 j)) λj hj=>by rw[hp j hj]]
 eqs i hi c:=by
  have km:=B.km;rw[B.eqs i hi c,hl i hi c];congr 1;exact aR λj hj=>by rw[hp j hj,hl j (by lia) c]
 unit i hi j hj:=by rw[hp j hj,hl i hi];exact B.unit i hi j hj
theorem dW.rows {x:Nat->Rat} (h:∀i,i < m->∀c,l2 i c=l i c) (hx:dW m l x):dW m l2 x:=by obtain ⟨w,hw⟩:=hx;exact ⟨w,λc=>by rw[hw c];exact aR λt ht=>by rw[h t ht c]⟩
theorem lh.congr (E:lh a m k P p l d) (hp:∀j,j < k->p2 j=p j) (hl:∀i,i < m->∀c,l2 i c=l i c):lh a m k P p2 l2 d where
 km:=E.km
 d0:=E.d0
 unit i hi j hj:=by rw[hp j hj,hl i hi];exact E.unit i hi j hj
 inc i j hij hj:=by rw[hp i (by lia),hp j hj];exact E.inc i j hij hj
 low j hj:=by rw[hp j hj];exact E.low j hj
 zero i h1 h2 c hc:=by rw[hl i h2];exact E.zero i h1 h2 c hc
 lead j hj c hc:=by
  have km:=E.km;rw[hp j hj] at hc;rw[hl j (by lia)];exact E.lead j hj c hc
 there i hi:=(E.there i hi).rows hl
 back i hi:=(E.back i hi).congr λc=>(hl i hi c).symm
theorem lh.kP (E:lh a m k P p l d):k<=P:=by
 have:∀j,j < k->j<=p j:=by
  intro j
  induction j with
  | zero=>intro _;exact bo _
  | succ j ih =>
   intro hj;have:=ih (by lia);have:=E.inc j (j+1) (by lia) hj
   lia
 rcases oB k with z | z
 ·lia
 ·have h1:=this (k - 1) (by lia);have h2:=E.low (k - 1) (by lia)
  lia
end
structure DO (ls0:List (List Int)) (n P:Nat) (ls:List (List Int)) (ps:List Nat) (d:Int):Prop where
 len:ls.length=ls0.length
 wide:∀zs∈ls,zs.length=n
 bar:∃pm,yJ (dO ls0) ls0.length ps.length pm (λj=>ps.getD j 0) (dO ls) d
 el:lh (dO ls0) ls0.length ps.length P (λj=>ps.getD j 0) (dO ls) d
section
variable {ls0 ls:List (List Int)} {n P:Nat} {ps:List Nat} {d:Int}
theorem DO.start (w:∀zs∈ls0,zs.length=n):DO ls0 n 0 ls0 [] 1:=⟨rfl,w,⟨λi=>i,yJ.start λ_ _=>rfl⟩,lh.start⟩
theorem DO.d0 (h:DO ls0 n P ls ps d):d≠0:=λz=>h.el.d0 (by rw[z];rfl)
theorem DO.skip (h:DO ls0 n P ls ps d) (hz:∀i,ps.length<=i->i < ls.length->dO ls i P=0):DO ls0 n (P+1) ls ps d:=⟨h.len,h.wide,h.bar,h.el.skip λi h1 h2=>hz i h1 (by rw[h.len];exact h2)⟩
theorem getD_snoc {l:List Nat} {x j:Nat} (hj:j < l.length+1):(l++[x]).getD j 0=if j=l.length then x else l.getD j 0:=by
 rw[aa,aa];by_cases e:j=l.length
 ·rw[if_pos e,e,b8 (au _),mC];rfl
 ·rw[if_neg e,cR (by lia)]
theorem DO.int {W:Nat} (h:DO ls0 n P ls ps d) (hW:1<=W) (h0:∀i,i < ls0.length->∀c,Fr 1 W (dO ls0 i c)) {t:Nat} (ht:ps.length<=t) (ht2:t < ls.length) (hne:dO ls t P≠0) :
  ∀i,i < ls.length->i≠ps.length->∀c,∃z:Int,(dO (rO ls ps.length t) ps.length P*dO (rO ls ps.length t) i c - dO (rO ls ps.length t) i P*dO (rO ls ps.length t) ps.length c) / (d:Rat)=(z:Rat):=λi hi ne c=>by
 obtain ⟨pm,B⟩:=h.bar;have hl:=h.len;have hk:ps.length < ls.length:=by lia
 have B1:=(B.swap ht (by lia)).congr (p2:=λj=>ps.getD j 0) (l2:=dO (rO ls ps.length t)) (λ_ _=>rfl) (λi _ c=>yh hk ht2 i c)
 have h1:dO (rO ls ps.length t) ps.length P≠0:=by
  rw[yh hk ht2];unfold ky;rw[if_pos rfl];exact hne
 have B2:=B1.step (c0:=P) (by lia) h1;have:=B2.fr (W:=W) (N:=ps.length+2) (by lia) hW h0 (i:=i) (c:=c) (by lia);rw[if_neg ne] at this;exact yg this
theorem DO.step {W:Nat} (h:DO ls0 n P ls ps d) (hW:1<=W) (h0:∀i,i < ls0.length->∀c,Fr 1 W (dO ls0 i c)) {t:Nat} (ht:ps.length<=t) (ht2:t < ls.length) (hne:dO ls t P≠0) :
  DO ls0 n (P+1) (Gi (rO ls ps.length t) ps.length P d) (ps++[P]) (((Gi (rO ls ps.length t) ps.length P d).getD ps.length []).getD P 0):=by
 obtain ⟨pm,B⟩:=h.bar;have hl:=h.len;have hk:ps.length < ls.length:=by lia
 have hz:=h.int hW h0 ht ht2 hne;have w1:=Iq h.wide hk ht2;have k1:ps.length < (rO ls ps.length t).length:=by rw[yN];exact hk
 have B1:=(B.swap ht (by lia)).congr (p2:=λj=>ps.getD j 0) (l2:=dO (rO ls ps.length t)) (λ_ _=>rfl) (λi _ c=>yh hk ht2 i c);have E1:=(h.el.swap ht (by lia)).congr (p2:=λj=>ps.getD j 0) (l2:=dO (rO ls ps.length t)) (λ_ _=>rfl) (λi _ c=>yh hk ht2 i c)
 have h1:dO (rO ls ps.length t) ps.length P≠0:=by
  rw[yh hk ht2];unfold ky;rw[if_pos rfl];exact hne
 have B2:=B1.step (c0:=P) (by lia) h1
 have fc:∀i,i < ls0.length->∀c,dO (Gi (rO ls ps.length t) ps.length P d) i c=if i=ps.length then dO (rO ls ps.length t) ps.length c else (dO (rO ls ps.length t) ps.length P*dO (rO ls ps.length t) i c - dO (rO ls ps.length t) i P*dO (rO ls ps.length t) ps.length c) / (d:Rat):=λi hi c=>by
  by_cases e:i=ps.length
  ·rw[if_pos e];unfold dO Gi;rw[uL (by rw[ag];exact k1),if_pos e]
  ·have:=Lv w1 k1 h.d0 (i:=i) (by rw[yN];lia) (hz i (by lia) e) c;rw[this]
 have ed:(((((Gi (rO ls ps.length t) ps.length P d).getD ps.length []).getD P 0:Int)):Rat)=dO (rO ls ps.length t) ps.length P:=by
  have:=fc ps.length (by lia) P;rw[if_pos rfl] at this;exact this
 have lp:(ps++[P]).length=ps.length+1:=by rw[av];rfl
 have hp:∀j,j < ps.length+1->(ps++[P]).getD j 0=if j=ps.length then P else ps.getD j 0:=λj hj=>getD_snoc hj
 refine ⟨by rw[LL,yN];exact hl,Jf w1 k1,⟨λi=>pm (ky ps.length t i),?_⟩,?_⟩
 ·rw[ed,lp];exact B2.congr hp fc
 ·rw[ed,lp];refine lh.congr (E1.step (d':=dO (rO ls ps.length t) ps.length P) (l':=λi c=>if i=ps.length then dO (rO ls ps.length t) ps.length c else (dO (rO ls ps.length t) ps.length P*dO (rO ls ps.length t) i c - dO (rO ls ps.length t) i P*dO (rO ls ps.length t) ps.length c) / (d:Rat)) (by lia) h1 B2.unit λi hi=>?_) hp fc;have d0:=h.el.d0;by_cases e:i=ps.length
  ·refine ⟨1,0,by decide,λ_=>rfl,λc=>?_⟩;rw[if_pos e,e];grind
  ·refine ⟨dO (rO ls ps.length t) ps.length P / (d:Rat),-(dO (rO ls ps.length t) i P) / (d:Rat),?_,λz=>absurd z e,λc=>?_⟩
   ·intro z;apply h1;grind
   ·rw[if_neg e];grind
theorem DO.sz {W r:Nat} (h:DO ls0 n P ls ps d) (hW:1<=W) (h0:∀i,i < ls0.length->∀c,Fr 1 W (dO ls0 i c)) (hP:P<=n) (hr:min ls0.length n<=r) (r15:r<=15):(d.natAbs<=(16*W)^r)/\∀zs∈ls,∀z∈zs,z.natAbs<=(16*W)^r:=by
 obtain ⟨pm,B⟩:=h.bar;have kP:=h.el.kP;have km:=B.km;have hl:=h.len;have mono:∀{s t:Nat},s<=t->(16*W)^s<=(16*W)^t:=λhs=>ak (cp (by decide) hW) hs
 refine ⟨ai (xk (B.dfr (W:=W) (N:=16) (by lia) h0)) (mono (by lia)),λzs hz z hz'=>?_⟩;obtain ⟨i,hi,rfl⟩:=bR hz;obtain ⟨c,hc,rfl⟩:=bR hz';have hw:=h.wide _ (aS hi)
 have ez:dO ls i c=(((ls[i])[c]:Int):Rat):=by
  unfold dO;rw[aa (l:=ls),af hi];show ((ls[i].getD c 0:Int):Rat)=_
  rw[aa,af hc];rfl
 by_cases hk:i < ps.length
 ·have:Fr 1 ((16*W)^ps.length) (dO ls i c):=by
   have hd:=B.d0;rw[B.old hk]
   have:=BN (W:=W) (N:=16) (rs:=yT pm ps.length) (vs:=J8 (λj r=>dO ls0 r (ps.getD j 0)) i ps.length++(λr=>dO ls0 r c) :: sU (λj r=>dO ls0 r (ps.getD j 0)) i) (by
    have:=congrArg List.length (cw_split (v:=λj r=>dO ls0 r (ps.getD j 0)) hk);rw[av,bD,cw_len] at this;rw[av,bD]
    lia) (by
    intro v hv r hr
    have hr':∀c,Fr 1 W (dO ls0 r c):=λc=>by
     obtain ⟨t,ht,rfl⟩:=qI hr;exact h0 _ (B.rng t (by lia)) c
    rcases ax.mp hv with hv | hv
    ·obtain ⟨t,_,rfl⟩:=Gg hv;exact hr' _
    ·rcases aE.mp hv with rfl | hv
     ·exact hr' _
     ·obtain ⟨t,_,rfl⟩:=cw_in hv;exact hr' _)
   rwa [ug] at this
  rw[ez] at this;exact ai (xk this) (mono (by lia))
 ·by_cases hn:ps.length < n
  ·have:=B.fr (W:=W) (N:=16) (by lia) hW h0 (i:=i) (c:=c) (by lia);rw[ez] at this;exact ai (xk this) (mono (by lia))
  ·have:=h.el.zero i (by lia) (by lia) c (by lia);rw[ez] at this;rw[uP this];exact bo _
end
def Tp (M W:Nat) (q:Rat):Prop:=∃z:Int,q*(M:Rat)=(z:Rat)/\z.natAbs<=W
theorem Tp.of {M V W:Nat} {q:Rat} (h:Fr M V q) (hW:V*M<=W):Tp M W q:=by obtain ⟨z,a,b⟩:=h;exact ⟨z,a,ai b hW⟩
theorem Tp.mono {M W W':Nat} {q:Rat} (h:Tp M W q) (hW:W<=W'):Tp M W' q:=by obtain ⟨z,a,b⟩:=h;exact ⟨z,a,ai b hW⟩
theorem Tp.fr {M W:Nat} {q:Rat} (h:Tp M W q) (h0:0 < M):Fr M W q:=by obtain ⟨z,a,b⟩:=h;exact ⟨z,a,ai b (de _ h0)⟩
def Ig (rows:LR9) (n w:Nat):Prop:=∃M W:Nat,0 < M/\M<=2^4300/\1<=W/\W<=2^w/\(∀xs∈rows,∀x∈xs,Tp M W x)/\w<=4300/\min rows.length n<=15/\min rows.length n*(w+4)<=8900
def h7 (xs:List Rat):List Int:=fu (xs.map nm) (h8 (xs.map nm))
theorem qX {xs:List Rat}:(h7 xs).length=xs.length:=by unfold h7 fu;rw[ag,ag]
theorem rC {xs:List Rat}:0 < h8 (xs.map nm):=BH (by decide) λb hb=>by
 obtain ⟨n,hn,rfl⟩:=az.mp hb;obtain ⟨x,_,rfl⟩:=az.mp hn;exact ij x
theorem L9 {xs:List Rat} {c:Nat}:(((h7 xs).getD c 0:Int):Rat)=xs.getD c 0*((h8 (xs.map nm):Int):Rat):=by
 unfold h7 fu;rw[aa,aa,aF,aF];cases e:xs[c]? with
 | none=>show ((0:Int):Rat)=0*_;rw[Rat.zero_mul];rfl
 | some x=>exact tZ (rD (az.mpr ⟨x,ar e,rfl⟩))
section
variable {rows:LR9} {n w i c:Nat} {xs:List Rat}
theorem zy (hi:i < rows.length):dO (rows.map h7) i c=((h8 ((rows.getD i []).map nm):Int):Rat)*b6 rows i c:=by
 unfold dO b6
 have e:(rows.map h7).getD i []=h7 (rows.getD i []):=by
  rw[aa,aa,aF,af hi];rfl
 rw[e,L9,dS]
theorem BM (hw:∀xs∈rows,xs.length=n) (hc:n<=c):b6 rows i c=0:=by
 unfold b6;by_cases h:i < rows.length
 ·have:=hw _ (getD_in (e:=[]) h);rw[aa (l:=rows.getD i []),aW (by lia)];rfl
 ·rw[aa (l:=rows),aW (by lia)];rfl
theorem z7 (i:Nat) (hi:i < rows.length):dW rows.length (dO (rows.map h7)) (b6 rows i):=by
 have h0:((h8 ((rows.getD i []).map nm):Int):Rat)≠0:=λz=>by
  have:=rC (xs:=rows.getD i []);have:=uP z
  lia
 refine dW.congr (λc=>?_) (dW.lin (1 / ((h8 ((rows.getD i []).map nm):Int):Rat)) 0 (dW.row (a:=dO (rows.map h7)) hi) (dW.row (a:=dO (rows.map h7)) hi));rw[zy hi];grind
theorem z6 (i:Nat) (hi:i < rows.length):dW rows.length (b6 rows) (dO (rows.map h7) i):=by
 refine dW.congr (λc=>?_) (dW.lin ((h8 ((rows.getD i []).map nm):Int):Rat) 0 (dW.row (a:=b6 rows) hi) (dW.row (a:=b6 rows) hi));rw[zy hi];grind
theorem wV {M W:Nat} {x:Rat} (h:Tp M W x):(nm x).2∣(M:Int):=by
 obtain ⟨z,e,b⟩:=h
 exact Fr.den (V:=z.natAbs) (M:=M) ⟨z,e,by
  rcases oB M with h | h
  ·subst h;have:(z:Rat)=0:=by rw[<- e];simp
   rw[uP this];simp
  ·exact de _ h⟩
theorem yM {M W:Nat} {x:Rat} (h:Tp M W x) (h0:0 < M) {B:Int} (hB:0 < B) (d1:(nm x).2∣B) (d2:B∣(M:Int)):∃t:Int,x*(B:Rat)=(t:Rat)/\t.natAbs<=W:=by
 obtain ⟨z,e,b⟩:=h;obtain ⟨s,es⟩:=d2;refine ⟨(nm x).1*(B / (nm x).2),(tZ d1).symm,?_⟩
 have s0:0 < s:=by
  rcases Int.lt_trichotomy s 0 with h | h | h
  ·have:=xv hB h
   lia
  ·rw[h] at es;lia
  ·exact h
 have e2:(((nm x).1*(B / (nm x).2)*s:Int):Rat)=(z:Rat):=by
  rw[aQ,tZ d1,<- e,<- bw,es,aQ];grind
 have e3:=dD.mp e2;have:((nm x).1*(B / (nm x).2)).natAbs*s.natAbs=z.natAbs:=by rw[<- eQ,e3]
 have h1:1<=s.natAbs:=by lia
 have:=de ((nm x).1*(B / (nm x).2)).natAbs h1
 lia
theorem Ak {M W:Nat} (h0:0 < M) (h:∀x∈xs,Tp M W x):h8 (xs.map nm)∣(M:Int):=Af (by decide) (Int.one_dvd _) λb hb=>by
 obtain ⟨n,hn,rfl⟩:=az.mp hb;obtain ⟨x,hx,rfl⟩:=az.mp hn;exact ⟨ij x,wV (h x hx)⟩
theorem Ig.rowM (F:Ig rows n w) (hx:xs∈rows):∃M,Ih M (xs.map nm):=by
 obtain ⟨M,W,h0,h1,hW,h2,h3,h4,_⟩:=F;refine ⟨M,by lia,?_,λy hy=>?_⟩
 ·show ((M:Nat):Int).natAbs < 2^4400
  rw[cU];exact bB h1 (eP (by decide) (by decide))
 ·obtain ⟨x,hx',rfl⟩:=az.mp hy;have t:=h3 xs hx x hx';refine ⟨ij x,wV t,?_⟩;obtain ⟨s,e,b⟩:=yM t h0 (ij x) (Jn _) (wV t);have e2:(((nm x).1:Int):Rat)=(s:Rat):=by rw[<- e];exact m5 x
  rw[dD.mp e2];exact bB (ai b h2) (eP (by decide) (by lia))
theorem Ig.ent (F:Ig rows n w):∃W:Nat,1<=W/\W<=2^w/\∀i,i < (rows.map h7).length->∀c,Fr 1 W (dO (rows.map h7) i c):=by
 obtain ⟨M,W,h0,h1,hW,h2,h3,h4,_⟩:=F;refine ⟨W,hW,h2,λi hi c=>?_⟩;rw[ag] at hi;have hx:=getD_in (e:=[]) hi;rw[zy hi];unfold b6;generalize rows.getD i []=xs at hx ⊢;by_cases hc:c < xs.length
 ·have t:=h3 xs hx _ (getD_in (e:=0) hc);obtain ⟨s,e,b⟩:=yM t h0 (rC (xs:=xs)) (rD (az.mpr ⟨_,getD_in (e:=0) hc,rfl⟩)) (Ak h0 (h3 xs hx));rw[dS,e];exact Fr.int b
 ·rw[aa,aW (by lia)];show Fr 1 W (_*0)
  rw[gY];exact Fr.zero
end
def bX (rows:LR9) (n:Nat) (R:LR9) (ps:List Nat):Prop:=R.length=ps.length/\(∀xs∈R,xs.length=n)/\DQ rows.length n (b6 rows) ps.length (λj=>ps.getD j 0) (b6 R)
structure RE (rows:LR9) (n w:Nat) (R:LR9) (ps:List Nat) (d:Int) (ls:List (List Int)):Prop where
 rr:bX rows n R ps
 d0:d≠0
 len:ls.length=ps.length
 wide:∀zs∈ls,zs.length=n
 val:∀i c,dO ls i c=(d:Rat)*b6 R i c
 dsz:d.natAbs<=2^(min rows.length n*(w+4))
 zsz:∀zs∈ls,∀z∈zs,z.natAbs<=2^(min rows.length n*(w+4))
 tp:∀xs∈R,∀x∈xs,Tp d.natAbs (2^(min rows.length n*(w+4))) x
 km:ps.length<=rows.length
theorem DQ.congrR {m n k:Nat} {a R R2:Nat->Nat->Rat} {p:Nat->Nat} (h:DQ m n a k p R) (hr:∀i,i < k->∀c,R2 i c=R i c):DQ m n a k p R2 :=
 ⟨h.inc,h.low,λi hi j hj=>by rw[hr i hi];exact h.unit i hi j hj,λi hi c hc=>by rw[hr i hi];exact h.lead i hi c hc,λi hi=>(h.span i hi).rows hr,λi hi=>(h.back i hi).congr λc=>(hr i hi c).symm⟩
theorem DQ.other {m m' n k:Nat} {a a' R:Nat->Nat->Rat} {p:Nat->Nat} (h:DQ m n a k p R) (s1:∀i,i < m->dW m' a' (a i)) (s2:∀i,i < m'->dW m a (a' i)):DQ m' n a' k p R :=
 ⟨h.inc,h.low,h.unit,h.lead,λi hi=>dW.trans h.span (s2 i hi),λi hi=>dW.trans s1 (h.back i hi)⟩
theorem yX {W w r : Nat} (h : W ≤ 2 ^ w) : (16 * W) ^ r ≤ 2 ^ (r * (w + 4)) := by
  calc (16 * W) ^ r ≤ (2 ^ (w + 4)) ^ r := vf (by rw [bC]; lia) _
    _ = 2 ^ (r * (w + 4)) := by rw [<- DR, bV]
theorem DO.done {rows:LR9} {n w:Nat} {ls:List (List Int)} {ps:List Nat} {d:Int} (h:DO (rows.map h7) n n ls ps d) (hw:∀xs∈rows,xs.length=n) (F:Ig rows n w) :
  ∃R,RE rows n w R ps d (ls.take ps.length):=by
 obtain ⟨W,hW,W2,ent⟩:=F.ent;obtain ⟨_,_,_,_,_,_,_,_,r15,_⟩:=F;have hl:=h.len;have d0:=h.d0;have d0':(d:Rat)≠0:=λz=>d0 (uP z)
 have km:=h.el.km;have hm:(rows.map h7).length=rows.length:=ag ..;obtain ⟨s1,s2⟩:=h.sz (r:=min rows.length n) hW ent (au _) (by rw[hm];exact au _) r15;have s2':∀zs∈ls,∀z∈zs,z.natAbs<=2^(min rows.length n*(w+4)):=λzs hz z hz'=>ai (s2 zs hz z hz') (yX W2)
 have er:∀i c,b6 ((ls.take ps.length).map λzs=>zs.map λ(z:Int)=>(z:Rat) / (d:Rat)) i c=dO (ls.take ps.length) i c / (d:Rat):=λi c=>by
  unfold b6 dO;rw[aa (l:=List.map _ _),aF,aa (l:=List.take _ _)];cases e:(ls.take ps.length)[i]? with
  | none=>show (0:Rat)=((0:Int):Rat) / _;grind
  | some zs =>
   show (zs.map λ(z:Int)=>(z:Rat) / (d:Rat)).getD c 0=((zs.getD c 0:Int):Rat) / (d:Rat)
   rw[aa,aa,aF];cases e2:zs[c]? with
   | none=>show (0:Rat)=((0:Int):Rat) / _;grind
   | some z=>rfl
 have et:∀i,i < ps.length->∀c,dO (ls.take ps.length) i c=dO ls i c:=λi hi c=>by
  unfold dO;rw[aa (l:=List.take _ _),yK hi,<- aa]
 have RR:=(h.el.done λi hi c hc=>xl (n:=n) (λzs hz=>by
  obtain ⟨xs,hx,rfl⟩:=az.mp hz;rw[qX];exact hw xs hx) hc).congrR (R2:=b6 ((ls.take ps.length).map λzs=>zs.map λ(z:Int)=>(z:Rat) / (d:Rat))) λi hi c=>by rw[er,et i hi]
 rw[hm] at RR;refine ⟨(ls.take ps.length).map λzs=>zs.map λ(z:Int)=>(z:Rat) / (d:Rat),⟨by rw[ag,dq];lia,λxs hx=>?_,RR.other z6 z7⟩,d0,by rw[dq];lia,λzs hz=>h.wide zs (cI hz),λi c=>?_,ai s1 (yX W2),λzs hz=>s2' zs (cI hz),λxs hx x hx'=>?_,by lia⟩
 ·obtain ⟨zs,hz,rfl⟩:=az.mp hx;rw[ag];exact h.wide zs (cI hz)
 ·rw[er];grind
 ·obtain ⟨zs,hz,rfl⟩:=az.mp hx;obtain ⟨z,hz',rfl⟩:=az.mp hx';have b:=s2' zs (cI hz) z hz';rcases GB d with e | e
  ·refine ⟨z,?_,b⟩;have:((d.natAbs:Nat):Rat)=(d:Rat):=by rw[<- bw,<- e]
   rw[this];grind
  ·refine ⟨-z,?_,by rw[qG];exact b⟩;have:((d.natAbs:Nat):Rat)=-(d:Rat):=by rw[<- bw,<- di];congr 1;lia
   rw[this,di];grind
theorem Ls {R R':LR9} {n:Nat} (hl:R.length=R'.length) (w1:∀xs∈R,xs.length=n) (w2:∀xs∈R',xs.length=n) (h:∀i,i < R.length->∀c,b6 R i c=b6 R' i c):R=R':=by
 apply mF hl;intro i h1 h2;apply mF (by rw[w1 _ (aS h1),w2 _ (aS h2)]);intro c h3 h4;have:=h i h1 c;unfold b6 at this;rw[aa (l:=R),aa (l:=R'),af h1,af h2] at this;have this:(R[i]).getD c 0=(R'[i]).getD c 0:=this;rw[aa,aa,af h3,af h4] at this;exact this
theorem bX.uniq {rows rows' R R':LR9} {n:Nat} {ps ps':List Nat} (h:bX rows n R ps) (h':bX rows' n R' ps') (s1:∀i,i < rows.length->dW rows'.length (b6 rows') (b6 rows i)) (s2:∀i,i < rows'.length->dW rows.length (b6 rows) (b6 rows' i)):R=R'/\ps=ps':=by
 obtain ⟨l1,w1,r1⟩:=h;obtain ⟨l2,w2,r2⟩:=h';obtain ⟨ek,ep,eR⟩:=r1.uniq r2 s1 s2;refine ⟨Ls (by lia) w1 w2 λi hi c=>eR i (by lia) c,?_⟩;apply mF ek;intro j h1 h2;have:=ep j h1;rw[aa,aa,af h1,af h2] at this;exact this
theorem bX.same {rows R R':LR9} {n:Nat} {ps ps':List Nat} (h:bX rows n R ps) (h':bX rows n R' ps'):R=R'/\ps=ps':=h.uniq h' (λ_ hi=>dW.row hi) (λ_ hi=>dW.row hi)
open PySem PySem.Spec PyProof.Rows
def Jj (l:Addr) (H:Hp) (zs:List Int) (v:V):Prop:=∃q,v=V.ref q/\q≠l/\H q=some (.lst (zs.map V.int))
def uT (l:Addr) (H:Hp) (p:Addr) (ls:List (List Int)):Prop:=p≠l/\∃xs,H p=some (.lst xs)/\Paired (Jj l H) ls xs
theorem Jj.same {l:Addr} {H H':Hp} {zs:List Int} {v:V} (h:Jj l H zs v) (e:aG H H'):Jj l H' zs v:=by obtain ⟨q,a,n,b⟩:=h;exact ⟨q,a,n,e _ _ b⟩
theorem Jj.upd {l:Addr} {H:Hp} {zs:List Int} {v:V} {o:HO} (h:Jj l H zs v):Jj l (upd H l o) zs v:=by obtain ⟨q,a,n,b⟩:=h;exact ⟨q,a,n,by rw[bF n];exact b⟩
theorem uT.upd {l:Addr} {H:Hp} {p:Addr} {ls:List (List Int)} {o:HO} (h:uT l H p ls):uT l (upd H l o) p ls:=by obtain ⟨n,xs,a,b⟩:=h;exact ⟨n,xs,by rw[bF n];exact a,Paired.imp' (λ_ _ z=>z.upd) b⟩
theorem ne_old {H:Hp} {l r:Addr} (h:H l≠none) (n:H r=none):r≠l:=λz=>h (by rw[<- z];exact n)
theorem kN {α β:Type} {F:α->β->Prop}:∀{l1:List α} {l2:List β} (_:Paired F l1 l2) (i:Nat) {x:α} {y:β},F x y->Paired F (l1.set i x) (l2.set i y)
 | _,_,.nil,_,_,_,_=>.nil
 | _,_,.cons _ r,0,_,_,h=>.cons h r
 | _,_,.cons a r,i+1,_,_,h=>.cons a (kN r i h)
theorem Ob {ls:List (List Int)} {i c:Nat} {zs:List Int} (h:ls[i]?=some zs):dO ls i c=((zs.getD c 0:Int):Rat):=by
 unfold dO;rw[aa (l:=ls),h];rfl
theorem Q7 {z:Int}:((z:Int):Rat)≠0↔z≠0:=⟨λh e=>h (by rw[e];rfl),λh e=>h (uP e)⟩
theorem E6 {zs:List Int} {c:Nat} (h:c < zs.length):Ia (zs.map V.int) (c:Int)=some (V.int (zs.getD c 0)):=fz (by rw[aF,aa,af h];rfl)
inductive Dg (vs:List V) (H:Hp) (Q:VK) (E9:XK):Prop
 | mk (l p:Addr) (ls:List (List Int)) (b c:Nat):vs=[.ref p,.int b,.int c]->uT l H p ls->ls.length<=1000->b<=1000->(∀zs∈ls,c < zs.length)->(∀t:Nat,b<=t->t < ls.length->dO ls t c≠0->Q (.int t) H)->((∀t,b<=t->t < ls.length->dO ls t c=0)->Q .non H)->Dg  vs H Q E9
inductive zA (vs:List V) (H:Hp) (Q:VK) (E9:XK):Prop
 | mk (l p:Addr) (ls:List (List Int)) (t k:Nat):vs=[.ref p,.int t,.int k]->H l≠none->uT l H p ls->ls.length<=1000->t < ls.length->k < ls.length->(∀r H',H r=none->aG H H'->uT l H' r (rO ls k t)->Q (.ref r) H')->zA  vs H Q E9
inductive Dh (vs:List V) (H:Hp) (Q:VK) (E9:XK):Prop
 | mk (l p:Addr) (ls:List (List Int)) (k c n:Nat) (b:Int):vs=[.ref p,.int k,.int c,.int b]->H l≠none->uT l H p ls->ls.length<=1000->k < ls.length->(∀zs∈ls,zs.length=n)->n<=1000->c < n->b≠0->Sz 8999 b->(∀zs∈ls,∀z∈zs,Sz 8999 z)->(∀r H',H r=none->aG H H'->uT l H' r (Gi ls k c b)->Q (.ref r) H')->Dh  vs H Q E9
theorem KJ (K:FG9) {X:Cx} {a b:Expr} {ta:TA} {p pos tpos:Pos} {elts:List Expr} {kk:Nat} (hg:Gl X "zip") (hm:X.mg "zip"=none) (ha:PA X [a,b] ta) (hK:X.K=K:=by rfl) (hs:starEach [a,b] X.env=[(false,eval a X.env),(false,eval b X.env)]:=by rfl) (hs2:starEach [b] X.env=[(false,eval b X.env)]:=by rfl) :
  PI X (.Tuple elts kk tpos) (.Call (.Name "zip" p) [a,b] [] pos) (O0 K ta):=by subst hK;exact Ei hg hm ha hs hs2
def df (ps:List Nat):List V:=ps.map λ(j:Nat)=>V.int (j:Int)
inductive CQ (K:FG9) (vs:List V) (H:Hp) (Q:VK) (E9:XK):Prop
 | mk (p:Addr) (n w:Nat) (H0:Hp) (rows:LR9):vs=[.ref p,.int n]->bI K H0 H p rows->rows.length<=100->n<=100->(∀xs∈rows,xs.length=n)->Ig rows n w->(∀t lp qp R ps d ls H',H' t=some (.tup [.ref lp,.ref qp])->H' qp=some (.lst (df ps))->uT qp H' lp ls->aG H H'->RE rows n w R ps d ls->Q (.ref t) H')->CQ K vs H Q E9
inductive zz (K:FG9) (vs:List V) (H:Hp) (Q:VK) (E9:XK):Prop
 | mk (p:Addr) (n w:Nat) (H0:Hp) (rows:LR9):vs=[.ref p,.int n]->bI K H0 H p rows->rows.length<=100->n<=100->(∀xs∈rows,xs.length=n)->Ig rows n w->(∀r R ps M H',H r=none->aG H H'->bI K H H' r R->bX rows n R ps->ps.length<=rows.length->0 < M->M<=2^(min rows.length n*(w+4))->(∀xs∈R,∀x∈xs,Tp M (2^(min rows.length n*(w+4))) x)->Q (.ref r) H')->zz K vs H Q E9
def zZ (rows:LR9) (i:Nat):Rat:=((h8 ((rows.getD i []).map nm):Int):Rat)
theorem yq {rows:LR9} {i:Nat}:zZ rows i≠0:=λz=>by
 have:=rC (xs:=rows.getD i []);have:=uP z
 lia
structure BY (rows:LR9) (n P:Nat) (rs:LR9) (ps:List Nat):Prop where
 len:rs.length=rows.length
 wide:∀xs∈rs,xs.length=n
 ex:∃pm l d,yJ (dO (rows.map h7)) rows.length ps.length pm (λj=>ps.getD j 0) l d/\lh (dO (rows.map h7)) rows.length ps.length P (λj=>ps.getD j 0) l d/\∀i,i < rows.length->∀c,b6 rs i c=l i c / (d*if i < ps.length then 1 else zZ rows (pm i))
section
variable {rows rs rs':LR9} {n P w a:Nat} {ps:List Nat}
theorem K9 {d:Rat} {k i j:Nat} (h:d≠0):d*(if i < k then 1 else zZ rows j)≠0:=by
 have:=yq (rows:=rows) (i:=j)
 split <;> grind
theorem BY.start (hw:∀xs∈rows,xs.length=n):BY rows n 0 rows []:=⟨rfl,hw,λi=>i,dO (rows.map h7),1,yJ.start λ_ _=>rfl,lh.start,λi hi c=>by
 rw[zy hi,if_neg (by show ¬i < 0;lia)];have:=yq (rows:=rows) (i:=i);show b6 rows i c=zZ rows i*b6 rows i c / (1*zZ rows i)
 grind⟩
theorem BY.skip (h:BY rows n P rs ps) (hz:∀i,ps.length<=i->i < rs.length->b6 rs i P=0):BY rows n (P+1) rs ps:=by
 obtain ⟨len,wide,pm,l,d,B,E,v⟩:=h;refine ⟨len,wide,pm,l,d,B,E.skip λi h1 h2=>?_,v⟩;have:=v i h2 P;rw[hz i h1 (by lia)] at this;have ne:=K9 (rows:=rows) (i:=i) (j:=pm i) (k:=ps.length) B.d0;generalize d*(if i < ps.length then 1 else zZ rows (pm i))=D at this ne;grind
theorem BY.km (h:BY rows n P rs ps):ps.length<=rows.length/\ps.length<=P:=by obtain ⟨_,_,_,_,_,_,E,_⟩:=h;exact ⟨E.km,E.kP⟩
theorem BY.step (h:BY rows n P rs ps) {t:Nat} (ht:ps.length<=t) (ht2:t < rs.length) (hne:b6 rs t P≠0) (l':rs'.length=rows.length) (w':∀xs∈rs',xs.length=n)
  (hv:∀i,i < rows.length->∀c,b6 rs' i c=if i=ps.length then 1 / b6 rs t P*b6 rs t c else b6 rs (ky ps.length t i) c - b6 rs (ky ps.length t i) P*(1 / b6 rs t P*b6 rs t c)):BY rows n (P+1) rs' (ps++[P]):=by
 obtain ⟨len,wide,pm,l,d,B,E,v⟩:=h;have hk:ps.length < rows.length:=by lia
 have B1:=B.swap ht (by lia);have E1:=E.swap ht (by lia);have d0:=B.d0
 have v1:∀i,i < rows.length->∀c,b6 rs (ky ps.length t i) c=l (ky ps.length t i) c / (d*if i < ps.length then 1 else zZ rows (pm (ky ps.length t i))):=λi hi c=>by
  rw[v _ (vW hk (by lia) hi) c];by_cases z:i < ps.length
  ·rw[wX ht z,if_pos z]
  ·rw[if_neg z,if_neg (by have:=xx ht (show ps.length<=i by lia);lia)]
 have sk:ky ps.length t ps.length=t:=by unfold ky;rw[if_pos rfl]
 have vt:∀c,b6 rs t c=l (ky ps.length t ps.length) c / (d*zZ rows (pm (ky ps.length t ps.length))):=λc=>by
  have:=v1 ps.length hk c;rw[if_neg (by lia),sk] at this;rw[sk];exact this
 have bt:=yq (rows:=rows) (i:=pm (ky ps.length t ps.length));have h1:l (ky ps.length t ps.length) P≠0:=λz=>hne (by rw[vt P,z];grind)
 have B2:=B1.step (c0:=P) hk h1;have lp:(ps++[P]).length=ps.length+1:=by rw[av];rfl
 have hp:∀j,j < ps.length+1->(ps++[P]).getD j 0=if j=ps.length then P else ps.getD j 0:=λj hj=>getD_snoc hj
 refine ⟨l',w',λi=>pm (ky ps.length t i),_,_,by rw[lp];exact B2.congr (l2:=λi c=>if i=ps.length then l (ky ps.length t ps.length) c else (l (ky ps.length t ps.length) P*l (ky ps.length t i) c - l (ky ps.length t i) P*l (ky ps.length t ps.length) c) / d) hp (λ_ _ _=>rfl),?_,λi hi c=>?_⟩
 ·rw[lp];refine lh.congr (E1.step (d':=l (ky ps.length t ps.length) P) (l':=λi c=>if i=ps.length then l (ky ps.length t ps.length) c else (l (ky ps.length t ps.length) P*l (ky ps.length t i) c - l (ky ps.length t i) P*l (ky ps.length t ps.length) c) / d) hk h1 B2.unit λi hi=>?_) hp (λ_ _ _=>rfl);by_cases e:i=ps.length
  ·refine ⟨1,0,by decide,λ_=>rfl,λc=>?_⟩;rw[if_pos e,e];grind
  ·refine ⟨l (ky ps.length t ps.length) P / d,-(l (ky ps.length t i) P) / d,?_,λz=>absurd z e,λc=>?_⟩
   ·intro z;apply h1;grind
   ·rw[if_neg e];grind
 ·rw[hv i hi c,lp,vt c,vt P];by_cases e:i=ps.length
  ·rw[if_pos e,if_pos e,if_pos (by lia)];grind
  ·rw[if_neg e,if_neg e,v1 i hi c,v1 i hi P];have ne:=K9 (rows:=rows) (i:=i) (j:=pm (ky ps.length t i)) (k:=ps.length) d0;by_cases z:i < ps.length
   ·rw[if_pos z,if_pos (by lia)];grind
   ·have bi:=yq (rows:=rows) (i:=pm (ky ps.length t i));rw[if_neg z,if_neg (by lia)];grind
theorem BY.done (h:BY rows n n rs ps) (hw:∀xs∈rows,xs.length=n):bX rows n (rs.take ps.length) ps:=by
 obtain ⟨len,wide,pm,l,d,B,E,v⟩:=h;have km:=E.km;refine ⟨by rw[dq];lia,λxs hx=>wide xs (cI hx),DQ.other ((E.done λi hi c hc=>?_).congrR λi hi c=>?_) z6 z7⟩
 ·exact xl (n:=n) (λzs hz=>by
   obtain ⟨xs,hx,rfl⟩:=az.mp hz;rw[qX];exact hw xs hx) hc
 ·have e:b6 (rs.take ps.length) i c=b6 rs i c:=by
   unfold b6;rw[aa (l:=List.take _ _),yK hi,<- aa]
  rw[e,v i (by lia) c,if_pos hi,Rat.mul_one]
def LV (rows:LR9) (n w a:Nat):Prop:=∃M W:Nat,0 < M/\M<=2^a/\1<=W/\W<=2^w/\(∀xs∈rows,∀x∈xs,Tp M W x)/\min rows.length n<=15/\2*(min rows.length n*(w+4)+a)<=3990
theorem LV.ent (F:LV rows n w a):∃W:Nat,1<=W/\W<=2^w/\∀i,i < rows.length->∀c,Fr 1 W (dO (rows.map h7) i c):=by
 obtain ⟨M,W,h0,h1,hW,h2,h3,_⟩:=F;refine ⟨W,hW,h2,λi hi c=>?_⟩;have hx:=getD_in (e:=[]) hi;rw[zy hi];unfold b6;generalize rows.getD i []=xs at hx ⊢;by_cases hc:c < xs.length
 ·have t:=h3 xs hx _ (getD_in (e:=0) hc);obtain ⟨s,e,b⟩:=yM t h0 (rC (xs:=xs)) (rD (az.mpr ⟨_,getD_in (e:=0) hc,rfl⟩)) (Ak h0 (h3 xs hx));rw[dS,e];exact Fr.int b
 ·rw[aa,aW (by lia)];show Fr 1 W (_*0)
  rw[gY];exact Fr.zero
theorem LV.bot (F:LV rows n w a) {i:Nat} (hi:i < rows.length):∃b:Nat,0 < b/\b<=2^a/\zZ rows i=(b:Rat):=by
 obtain ⟨M,W,h0,h1,hW,h2,h3,_⟩:=F;have hx:=getD_in (e:=[]) hi;have p:=rC (xs:=rows.getD i []);have dv:=Ak h0 (h3 _ hx);refine ⟨(h8 ((rows.getD i []).map nm)).natAbs,by lia,ai (ia h0 ?_) h1,?_⟩
 ·have:=eB.mpr dv;rwa [cU] at this
 ·unfold zZ;rw[<- bw];congr 1
  lia
theorem Oe {l D:Rat} {z y:Int} {W:Nat} (hl:l=(z:Rat)) (hD:D=(y:Rat)) (h0:D≠0) (hz:z.natAbs<=W):Tp y.natAbs W (l / D):=by
 rcases GB y with e | e
 ·refine ⟨z,?_,hz⟩;have:((y.natAbs:Nat):Rat)=D:=by rw[<- bw,<- e,hD]
  rw[this,hl];grind
 ·refine ⟨-z,?_,by rw[qG];exact hz⟩;have:((y.natAbs:Nat):Rat)=-D:=by rw[<- bw,hD,<- di];congr 1;lia
  rw[this,hl,di];grind
theorem BY.sz (h:BY rows n P rs ps) (F:LV rows n w a) (hP:P<=n) {i:Nat} (hi:i < rows.length):∃D:Nat,0 < D/\D<=2^(min rows.length n*(w+4)+a)/\∀c,Tp D (2^(min rows.length n*(w+4))) (b6 rs i c):=by
 obtain ⟨len,wide,pm,l,d,B,E,v⟩:=h;obtain ⟨W,hW,W2,ent⟩:=F.ent;obtain ⟨_,_,_,_,_,_,_,r15,_⟩:=id F;have kP:=E.kP;have km:=B.km;have mono:∀{s t:Nat},s<=t->(16*W)^s<=(16*W)^t:=λhs=>ak (cp (by decide) hW) hs
 obtain ⟨y,ey⟩:=yg (B.dfr (W:=W) (N:=16) (by lia) ent);have hy:=B.dfr (W:=W) (N:=16) (by lia) ent;rw[ey] at hy;have yb:y.natAbs<=2^(min rows.length n*(w+4)):=ai (xk hy) (ai (mono (show ps.length<=min rows.length n by lia)) (yX W2));have y0:y≠0:=λz=>B.d0 (by rw[ey,z];rfl)
 have lb:∀c,∃z:Int,l i c=(z:Rat)/\z.natAbs<=2^(min rows.length n*(w+4)):=λc=>by
  by_cases hk:i < ps.length
  ·have f:Fr 1 ((16*W)^ps.length) (l i c):=by
    rw[B.old hk]
    have:=BN (W:=W) (N:=16) (rs:=yT pm ps.length) (vs:=J8 (λj r=>dO (rows.map h7) r (ps.getD j 0)) i ps.length++(λr=>dO (rows.map h7) r c) :: sU (λj r=>dO (rows.map h7) r (ps.getD j 0)) i) (by
     have:=congrArg List.length (cw_split (v:=λj r=>dO (rows.map h7) r (ps.getD j 0)) hk);rw[av,bD,cw_len] at this;rw[av,bD]
     lia) (by
     intro v hv r hr
     have hr':∀c,Fr 1 W (dO (rows.map h7) r c):=λc=>by
      obtain ⟨t,ht,rfl⟩:=qI hr;exact ent _ (B.rng t (by lia)) c
     rcases ax.mp hv with hv | hv
     ·obtain ⟨t,_,rfl⟩:=Gg hv;exact hr' _
     ·rcases aE.mp hv with rfl | hv
      ·exact hr' _
      ·obtain ⟨t,_,rfl⟩:=cw_in hv;exact hr' _)
    rwa [ug] at this
   obtain ⟨z,ez⟩:=yg f;rw[ez] at f;exact ⟨z,ez,ai (xk f) (ai (mono (by lia)) (yX W2))⟩
  ·by_cases hn:ps.length < n
   ·have f:=B.fr (W:=W) (N:=16) (by lia) hW ent (i:=i) (c:=c) hi;obtain ⟨z,ez⟩:=yg f;rw[ez] at f;exact ⟨z,ez,ai (xk f) (ai (mono (by lia)) (yX W2))⟩
   ·refine ⟨0,?_,bo _⟩;by_cases hc:c < n
    ·rw[E.zero i (by lia) hi c (by lia)];rfl
    ·have:=v i hi c;rw[BM wide (by lia)] at this;have ne:=K9 (rows:=rows) (i:=i) (j:=pm i) (k:=ps.length) B.d0;generalize d*(if i < ps.length then 1 else zZ rows (pm i))=D at this ne;show l i c=0
     grind
 obtain ⟨b,b0,b1,eb⟩:∃b:Nat,0 < b/\b<=2^a/\(if i < ps.length then 1 else zZ rows (pm i))=(b:Rat):=by
  by_cases hk:i < ps.length
  ·exact ⟨1,by decide,bQ,by rw[if_pos hk];rfl⟩
  ·obtain ⟨b,x1,x2,x3⟩:=F.bot (B.rng i hi);exact ⟨b,x1,x2,by rw[if_neg hk,x3]⟩
 have eD:d*(b:Rat)=((y*b:Int):Rat):=by rw[aQ,ey,bw]
 refine ⟨(y*b).natAbs,?_,?_,λc=>?_⟩
 ·rw[eQ,cU];exact cp (by lia) b0
 ·rw[eQ,cU,bC];exact aN yb b1
 ·obtain ⟨z,ez,bz⟩:=lb c;rw[v i hi c,eb];refine Oe ez eD (λq=>?_) bz;rw[eD] at q;have:=uP q;rcases Int.mul_eq_zero.mp this with q | q
  ·exact y0 q
  ·lia
end
theorem wW {M W:Nat} {x:Rat} (h:Tp M W x) (h0:0 < M) (h1:M<=2^3995) (h2:W<=2^3995):mV x:=by
 refine ⟨?_,?_⟩
 ·obtain ⟨s,e,b⟩:=yM h h0 (ij x) (Jn _) (wV h);have e2:(((nm x).1:Int):Rat)=(s:Rat):=by rw[<- e];exact m5 x
  rw[dD.mp e2];exact bB (ai b h2) (eP (by decide) (by decide))
 ·have:=ia h0 (oX.mp (wV h));show ((x.den:Nat):Int).natAbs < _
  rw[cU];exact bB (ai this h1) (eP (by decide) (by decide))
theorem Tp.mul {M W M' W':Nat} {x y:Rat} (h:Tp M W x) (h':Tp M' W' y):Tp (M*M') (W*W') (x*y):=by
 obtain ⟨z,e,b⟩:=h;obtain ⟨z',e',b'⟩:=h';refine ⟨z*z',?_,by rw[eQ];exact aN b b'⟩;rw[aQ,<- e,<- e',Cc];grind
theorem Md {x:Rat} (h:mV x) (h0:x≠0):mV (1 / x):=by
 have n0:x.num≠0:=λz=>h0 (Rat.num_eq_zero.mp z)
 have e:=m5 x;have e1:(1 / x)*(x.num:Rat)=(x.den:Rat):=by rw[e];grind
 have t:Tp x.num.natAbs x.den (1 / x):=by
  rcases GB x.num with q | q
  ·refine ⟨x.den,?_,by simp⟩;have:((x.num.natAbs:Nat):Rat)=(x.num:Rat):=by rw[<- bw,<- q]
   rw[this,e1,bw]
  ·refine ⟨-(x.den:Int),?_,by simp⟩;have:((x.num.natAbs:Nat):Rat)=-(x.num:Rat):=by rw[<- bw,<- di];congr 1;lia
   rw[this,di,bw,<- e1];grind
 obtain ⟨h1,h2⟩:=h;have h1:x.num.natAbs < 2^4000:=h1;have h2:((x.den:Nat):Int).natAbs < 2^4000:=h2;rw[cU] at h2;refine ⟨?_,?_⟩
 ·obtain ⟨s,e,b⟩:=yM t (by lia) (ij (1 / x)) (Jn _) (wV t);have e2:(((nm (1 / x)).1:Int):Rat)=(s:Rat):=by rw[<- e];exact m5 (1 / x)
  rw[dD.mp e2];exact bB b h2
 ·have:=ia (show 0 < x.num.natAbs by lia) (oX.mp (wV t));show (((1 / x).den:Nat):Int).natAbs < _
  rw[cU];exact bB this h1
inductive AA (K:FG9) (vs:List V) (H:Hp) (Q:VK) (E9:XK):Prop
 | mk (u v:V) (x y:Rat):vs=[u,v]->cg K H x u->cg K H y v->mV x->mV y->y≠0->(∀r H',aG H H'->cg K H' (x / y) (.ref r)->Q (.ref r) H')->AA K vs H Q E9
theorem FI {K:FG9} {vs:List V} {H:Hp} {Q:VK} {E:XK} (h:AA K vs H Q E):Mj K vs H Q E:=by
 obtain ⟨u,v,x,y,rfl,⟨p,rfl,hp⟩,⟨q,rfl,hq⟩,⟨s1,s2⟩,⟨s3,s4⟩,y0,k⟩:=h;have n0:(nm y).1≠0:=λz=>y0 (Rat.num_eq_zero.mp z)
 have px:=ij x;have py:=ij y;have e1:=rY x;have e2:=rY y;have dx:(((nm x).2:Int):Rat)≠0:=λz=>by have:=uP z;lia
 have dy:(((nm y).2:Int):Rat)≠0:=λz=>by have:=uP z;lia
 refine ⟨p,q,_,_,_,_,rfl,hp,hq,px,py,n0,s1,s2,s3,s4,λr H' s g=>k r H' s (cg.mk g ?_)⟩;by_cases hc:(nm y).1 < 0
 ·rw[if_pos hc,if_pos hc];refine sG (by have:=xv px hc;lia) ?_;rw[Cd,Cd,aQ,aQ,e1,e2];show x / y*(((0:Int):Rat) - _)=((0:Int):Rat) - _
  grind
 ·rw[if_neg hc,if_neg hc];refine sG (jd px (by lia)) ?_;rw[aQ,aQ,e1,e2];grind
inductive Dd (K:FG9) (vs:List V) (H:Hp) (Q:VK) (E9:XK):Prop
 | mk (p q:Addr) (xs ys:List Rat):vs=[.ref p,.ref q]->cX K H p xs->cX K H q ys->ys.length=xs.length->xs.length<=1000->(∀x∈xs,mV x)->(∀y∈ys,mV y)->(∀r H',H r=none->aG H H'->cX K H' r (List.zipWith (λx y=>x - y) xs ys)->Q (.ref r) H')->Dd K vs H Q E9
theorem O3 {xs ys:List Rat} {c:Nat} (h:xs.length=ys.length):(List.zipWith (λx y=>x - y) xs ys).getD c 0=xs.getD c 0 - ys.getD c 0:=by
 rw[aa,aa,aa,cC];by_cases hc:c < xs.length
 ·rw[af hc,af (show c < ys.length by lia)];rfl
 ·rw[aW (by lia),aW (by lia)];show (0:Rat)=0 - 0
  grind
theorem Lo {xs:List Rat} {c:Nat} {q:Rat}:(xs.map λy=>q*y).getD c 0=q*xs.getD c 0:=by
 rw[aa,aa,aF];cases xs[c]? with
 | none=>show (0:Rat)=q*0;grind
 | some x=>rfl
inductive Fq (K:FG9) (vs:List V) (H:Hp) (Q:VK) (E9:XK):Prop
 | mk (p:Addr) (n:Nat) (H0:Hp) (R:LR9) (ps:List Nat):vs=[.ref p]->bI K H0 H p R->R.length<=100->n<=100->(∃rows,bX rows n R ps)->(∀r H',H r=none->aG H H'->H' r=some (.lst (df ps))->Q (.ref r) H')->Fq K vs H Q E9
theorem GI {xs ys:List Rat} (h:ys.length=xs.length):List.zipWith (λx y=>x - y) xs ys=(List.range xs.length).map λi=>xs.getD i 0 - ys.getD i 0:=by
 apply kx;intro i;rw[cC,aF];by_cases hi:i < xs.length
 ·rw[iW hi,af hi,af (show i < ys.length by lia)];simp [aa,af hi,af (show i < ys.length by lia)]
 ·rw[aW (show (List.range xs.length).length<=i by simp;lia),aW (show xs.length<=i by lia)];rfl
theorem JR {K:FG9} {H0 H H':Hp} {q:Addr} {rows:LR9} {vs:List V} (pr:Paired (cP K H0 H) rows vs) (s:aG H H') (n:H q=none) (g:H' q=some (.lst vs)):bI K H0 H' q rows :=
 ⟨vs,g,Paired.imp' (λ_ _ z=>z.same s) pr,λz=>by
  obtain ⟨_,_,q',e,_,_,g',_⟩:=cF pr z;cases e;rw[n] at g';cases g'⟩
theorem Mc:mV 1:=wW (M:=1) (W:=1) ⟨1,by simp,by decide⟩ (by decide) bQ bQ
theorem bX.le {rows R:LR9} {n:Nat} {ps:List Nat} (h:bX rows n R ps):ps.length<=n:=by
 obtain ⟨_,_,rr⟩:=h;rcases cb n ps.length with z | z
 ·have inc:∀j,j < ps.length->j<=ps.getD j 0:=by
   intro j
   induction j with
   | zero=>intro _;exact bo _
   | succ j ih =>
    intro hj;have:=ih (by lia);have:=rr.inc j (j+1) (by lia) hj
    lia
  have h1:=inc (ps.length - 1) (by lia);have h2:=rr.low (ps.length - 1) (by lia)
  lia
 ·exact z
theorem Tp.zero {M W:Nat}:Tp M W 0:=⟨0,by simp,by simp⟩
theorem Tp.add {M W W':Nat} {x y:Rat} (h:Tp M W x) (h':Tp M W' y):Tp M (W+W') (x+y):=by
 obtain ⟨z,e,b⟩:=h;obtain ⟨z',e',b'⟩:=h';refine ⟨z+z',?_,ai (Int.natAbs_add_le _ _) (Nat.add_le_add b b')⟩;rw[Ce,<- e,<- e'];grind
theorem Tp.sum {M W:Nat} {f:Nat->Rat}:∀{k:Nat},(∀j,j < k->Tp M W (f j))->Tp M (k*W) (bL k f)
 | 0,_=>Tp.zero
 | k+1,h=>by
  have:=(Tp.sum (k:=k) λj hj=>h j (by lia)).add (h k (by lia));exact this.mono (by rw[mB];exact au _)
theorem DY {M W:Nat} {xs:List Rat} (h:∀x∈xs,Tp M W x) (c:Nat):Tp M W (xs.getD c 0):=by
 by_cases hc:c < xs.length
 ·exact h _ (getD_in hc)
 ·rw[aa,aW (by lia)];exact Tp.zero
theorem Pz {M W:Nat} {R:LR9} (h:∀xs∈R,∀x∈xs,Tp M W x) (i c:Nat):Tp M W (b6 R i c):=by
 unfold b6;by_cases hi:i < R.length
 ·exact DY (h _ (getD_in hi)) c
 ·rw[aa (l:=R),aW (by lia)];exact Tp.zero
theorem Km {rows:LR9} {n m w M:Nat} (hM:0 < M) (h1:M<=2^4300) (hw:w<=4300) (tp:∀xs∈rows,∀x∈xs,Tp M (2^w) x) (hr:min rows.length n<=m) (h15:m<=15) (h89:m*(w+4)<=8900):Ig rows n w :=
 ⟨M,2^w,hM,h1,bQ,au _,tp,hw,by lia,ai (aB _ hr) h89⟩
theorem JV {K:FG9} {l:Addr} {xs:List V} {g:TG} {tf:TT} {te:TE} {Q:VK} {σ₀:St} {H:Hp} (Pv:Nat->List V->Hp->Prop) (hz:xs.length<=sizeLine) (h0:Pv 0 [] H) (hl:∀i ys H,i<=xs.length->Pv i ys H->bO K H l xs)
  (hs:∀i x ys H p,xs[i]?=some x->ys.length<=i->Pv i ys H->H p=none->qY σ₀ g tf te (.ref p) (upd H p (.tup [.int i,x])) (λy H'=>Pv (i+1) (ys++[y]) H') (λH'=>Pv (i+1) ys H'))
  (hd:∀ys H,ys.length<=xs.length->Pv xs.length ys H->∀p,H p=none->Q (.ref p) (upd H p (.lst ys))):rJ (Ph K l) σ₀ g tf te Q H:=by
 refine ⟨λi m ys H=>m=xs.length - i/\i<=xs.length/\ys.length<=i/\Pv i ys H,⟨xs.length,by simp,bo _,bo _,h0⟩,?_⟩;rintro i m ys H ⟨rfl,hi,hy,p⟩;have q1:=hl i ys H hi p;by_cases hlt:i < xs.length
 ·refine .inr ⟨⟨xs,xs[i],q1,by simp [hlt]⟩,by lia,λy H'=>Pv (i+1) (ys++[y]) H',λH'=>Pv (i+1) ys H',λy H' p'=>⟨xs.length - (i+1),by lia,rfl,hlt,by rw[av,be];lia,p'⟩,λH' p'=>⟨xs.length - (i+1),by lia,rfl,hlt,by lia,p'⟩,λx H' y=>?_⟩;obtain ⟨r,x',rfl,hr,rfl,e1⟩:=y;exact hs i x' ys _ r (e1 xs q1) hy p hr
 ·have e:i=xs.length:=by lia
  subst e;exact .inl ⟨⟨xs,q1,au _⟩,by lia,hd ys H hy p⟩
section
variable {X:Cx}
theorem JW (hc:X.calm=true):oV X (.builtin "min") (λxs H Q=>∃(p:Addr) (ns:List Int),xs=[.ref p]/\bO X.K H p (ns.map V.int)/\0 < ns.length/\∀M,M∈ns->(∀a,a∈ns->M<=a)->Q (.int M) H):=by
 intro pins s σ H xs us Q I r h;obtain ⟨p,ns,rfl,hp,hne,q⟩:=h;obtain ⟨u,rfl,ru⟩:=vals1 r;cases ru;obtain ⟨its,r2,pl,_⟩:=I.list hp;have hi:=intsAre_of r2;have hl:=pl.isList;obtain ⟨xs,e⟩:=hi.allInts.items
 have hns:ns=xs.toList.map (·.1):=by
  rw[<- hi.numsOf,<- nums_intItems,<- e]
 have hsz:0 < xs.size:=by
  have h3:=hne;rw[hns,ag,Array.length_toList] at h3;exact h3
 rw[e] at hl;refine min_intList (I.ok.hd hc) hl hsz λv h' tk hv hk=>?_
 obtain ⟨t,rfl⟩:=intItems_at hv;obtain ⟨h1,h2⟩:=argBest_lt (numAt xs) (xs.size - 1);refine ⟨.int _,H,I.kept hk,⟨_,rfl⟩,q _ ?_ λa ha=>?_⟩
 ·rw[hns,numAt_eq];exact getD_in (by rw[ag,Array.length_toList];lia)
 ·rw[hns] at ha;obtain ⟨j,hj,rfl⟩:=mem_getD ha;rw[ag,Array.length_toList] at hj;rw[<- numAt_eq];exact h2 j (by lia)
theorem Cs (K:FG9) (hK:X.K=K):zQ X (compareOp .NotIn) (rIn K true):=by subst hK;exact El
end
theorem Li {j:Nat} {ps:List Nat}:Q1 (.int (j:Int)) (df ps)=decide (j∈ps):=by
 unfold Q1 df;rw[List.any_map,oi,List.any_eq_true,decide_eq_true_iff];constructor
 ·rintro ⟨x,hx,e⟩;have e:((x:Int) == (j:Int))=true:=e;have:(x:Int)=j:=by simpa using e
  have:x=j:=by lia
  rw[<- this];exact hx
 ·intro h;exact ⟨j,h,by show ((j:Int) == (j:Int))=true;simp⟩
theorem JK {ps:List Nat}:(df ps).all rA=true:=by
 unfold df;rw[List.all_map];exact rN.mpr λ_ _=>rfl
theorem Bp {ps:List Nat}:(df ps).length=ps.length:=ag ..
def ye (ps:List Nat):List Int:=ps.map λ(j:Nat)=>(j:Int)
theorem Dq {ps:List Nat}:df ps=(ye ps).map V.int:=by unfold df ye;rw[vU];rfl
theorem paired_ints {K:FG9} {H:Hp}:∀{zs:List Int},Paired (λa x=>M5.R K H x a) zs (zs.map V.int)
 | []=>.nil
 | z :: zs=>.cons rfl paired_ints
theorem Dp {K:FG9} {H:Hp} {p:Addr} {ps:List Nat} (h:H p=some (.lst (df ps))):(MZ M5).R K H (.ref p) (ye ps):=⟨p,df ps,rfl,bO.of h,by rw[Dq];exact paired_ints⟩
theorem IJ {ps:List Nat} {i:Nat} {v:V} (h:(df ps)[i]?=some v):∃j,ps[i]?=some j/\v=V.int (j:Int):=by
 unfold df at h;rw[aF] at h;cases e:ps[i]? with
 | none=>rw[e] at h;cases h
 | some x=>rw[e] at h;exact ⟨x,rfl,(bY h).symm⟩
def FP (xs:List Rat) (i:Nat):List Nat:=(List.range i).filter λc=>decide (xs.getD c 0≠0)
theorem Ad {xs:List Rat} {i:Nat}:FP xs (i+1)=if xs.getD i 0≠0 then FP xs i++[i] else FP xs i:=by
 unfold FP;rw[Cf,List.filter_append];by_cases h:xs.getD i 0≠0
 ·rw[if_pos h,QV (by simpa using h)];rfl
 ·rw[if_neg h,QW (by simpa using h)];simp
def gR (ps:List Nat) (i:Nat):List Nat:=(List.range i).filter λc=>decide (c∉ps)
theorem BL {ps:List Nat} {i:Nat}:gR ps (i+1)=if i∉ps then gR ps i++[i] else gR ps i:=by
 unfold gR;rw[Cf,List.filter_append];by_cases h:i∉ps
 ·rw[if_pos h,QV (by simpa using h)];rfl
 ·rw[if_neg h,QW (by simpa using h)];simp
theorem HX {ps:List Nat} {i:Nat}:(gR ps i).length<=i:=by
 unfold gR;exact ai (List.length_filter_le ..) (by rw[hZ];exact au _)
inductive Fp (K:FG9) (vs:List V) (H:Hp) (Q:VK) (E9:XK):Prop
 | mk (p:Addr) (xs:List Rat) (j:Nat):vs=[.ref p]->cX K H p xs->xs.length<=1000->j < xs.length->xs.getD j 0≠0->(∀c,c < j->xs.getD c 0=0)->(∀H',aG H H'->Q (.int (j:Int)) H')->Fp K vs H Q E9
inductive Fs (K:FG9) (vs:List V) (H:Hp) (Q:VK) (E9:XK):Prop
 | mk (p:Addr) (n:Nat) (H0:Hp) (R:LR9) (ps:List Nat):vs=[.ref p,.int n]->bI K H0 H p R->R.length<=100->n<=100->(∃rows,bX rows n R ps)->(∀r H',H r=none->aG H H'->H' r=some (.lst (df (gR ps n)))->Q (.ref r) H')->Fs K vs H Q E9
def II (R:LR9) (ps:List Nat) (n at_ j:Nat):List Rat:=(List.range n).map λc=>if c=at_ then 1 else bL j λi=>if ps.getD i 0=c then -(b6 R i at_) else 0
def HH (R:LR9) (ps:List Nat) (n at_:Nat):List Rat:=II R ps n at_ ps.length
def aH (R:LR9) (ps:List Nat) (n:Nat):LR9:=(gR ps n).map (HH R ps n)
section
variable {R rows:LR9} {ps:List Nat} {n a j:Nat}
theorem qK:(II R ps n a j).length=n:=by unfold II;rw[ag,hZ]
theorem NL {c:Nat} (h:c < n):(II R ps n a j).getD c 0=if c=a then 1 else bL j λi=>if ps.getD i 0=c then -(b6 R i a) else 0:=by
 unfold II;rw[aa,aF,iW h];rfl
theorem MW:II R ps n a 0=Oc n a:=by
 unfold II Oc;refine vg λc _=>?_
 by_cases e:c=a
 ·subst e;simp
 ·rw[if_neg e];show (0:Rat)=_
  have:¬(c:Int)=(a:Int):=by lia
  simp [this]
theorem MX (RR:bX rows n R ps) (hj:j < ps.length) (ha:a∉ps):(II R ps n a j).set (ps.getD j 0) (-(b6 R j a))=II R ps n a (j+1):=by
 obtain ⟨_,_,rr⟩:=RR;have low:=rr.low j hj;have pm:ps.getD j 0∈ps:=getD_in hj;apply mF (by rw[d7,qK,qK]);intro c h1 h2;rw[qK] at h2;have e1:(II R ps n a j)[c]'(by rw[qK];exact h2)=if c=a then 1 else bL j λi=>if ps.getD i 0=c then -(b6 R i a) else 0:=by simp only[II,rM,List.getElem_range]
 have e2:(II R ps n a (j+1))[c]'(by rw[qK];exact h2)=if c=a then 1 else bL (j+1) λi=>if ps.getD i 0=c then -(b6 R i a) else 0:=by simp only[II,rM,List.getElem_range]
 rw[List.getElem_set,e2];have es:bL (j+1) (λi=>if ps.getD i 0=c then -(b6 R i a) else 0)=bL j (λi=>if ps.getD i 0=c then -(b6 R i a) else 0)+if ps.getD j 0=c then -(b6 R j a) else 0:=rfl
 by_cases q:ps.getD j 0=c
 ·rw[if_pos q,if_neg (λz=>ha (by rw[<- z,<- q];exact pm)),es,if_pos q,cZ λi hi=>?_,Rat.zero_add];rw[if_neg];intro z;have:=rr.inc i j hi hj
  lia
 ·rw[if_neg q,e1];by_cases z:c=a
  ·rw[if_pos z,if_pos z]
  ·rw[if_neg z,if_neg z,es,if_neg q,vT]
theorem Ae {c:Nat} (hc:c < n) (hp:c∉ps):(HH R ps n a).getD c 0=if c=a then 1 else 0:=by
 unfold HH;rw[NL hc];by_cases e:c=a
 ·rw[if_pos e,if_pos e]
 ·rw[if_neg e,if_neg e,cZ λi hi=>?_];rw[if_neg (λz=>hp (by rw[<- z];exact getD_in hi))]
theorem fe:∀{xs ys:List Rat},xs.length=ys.length->dh xs ys=bL xs.length λc=>xs.getD c 0*ys.getD c 0:=by
 intro xs ys h
 have key:∀k,k<=xs.length->dh (xs.take k) (ys.take k)=bL k λc=>xs.getD c 0*ys.getD c 0:=by
  intro k
  induction k with
  | zero=>intro _;rfl
  | succ k ih =>
   intro hk;rw[DB (by lia) (by lia),ih (by lia)];rfl
 have:=key xs.length (au _);rwa [aL (au _),aL (by lia)] at this
theorem HG (RR:bX rows n R ps) (ha:a < n) (hp:a∉ps) {i:Nat} {row:List Rat} (hr:rows[i]?=some row) (hw:row.length=n):dh row (HH R ps n a)=0:=by
 obtain ⟨_,_,rr⟩:=RR;have hi:=(aD.mp hr).1;have ef:∀c,b6 rows i c=row.getD c 0:=λc=>by unfold b6;rw[aa (l:=rows),hr];rfl
 have co:=rr.coef (rr.span i hi) a;rw[ef] at co;rw[fe (by unfold HH;rw[qK,hw]),hw]
 have e1:bL n (λc=>row.getD c 0*(HH R ps n a).getD c 0)=bL n (λc=>(if c=a then row.getD a 0 else 0)+bL ps.length λj=>if ps.getD j 0=c then row.getD (ps.getD j 0) 0*-(b6 R j a) else 0):=by
  refine aR λc hc=>?_
  unfold HH;rw[NL hc];by_cases e:c=a
  ·rw[if_pos e,if_pos e,e,cZ λj hj=>?_]
   ·grind
   ·rw[if_neg (λz=>hp (by rw[<- z];exact getD_in hj))]
  ·rw[if_neg e,if_neg e,<- cA,Rat.zero_add];refine aR λj _=>?_
   split
   ·rename_i q;rw[q]
   ·grind
 rw[e1,oF,fY (i:=a) ha (λj _ ne=>if_neg ne),if_pos rfl,<- eT]
 have e2:bL ps.length (λj=>bL n λc=>if ps.getD j 0=c then row.getD (ps.getD j 0) 0*-(b6 R j a) else 0)=bL ps.length λj=>-1*(b6 rows i (ps.getD j 0)*b6 R j a):=by
  refine aR λj hj=>?_
  rw[fY (i:=ps.getD j 0) (rr.low j hj) λc _ ne=>if_neg λz=>ne z.symm,if_pos rfl,ef];grind
 rw[e2,cA,co];grind
theorem NK {M W:Nat} (h0:0 < M) (hW:M<=W) (tp:∀xs∈R,∀x∈xs,Tp M W x) (RR:bX rows n R ps):∀x∈HH R ps n a,Tp M W x:=λx hx=>by
 obtain ⟨_,_,rr⟩:=RR;obtain ⟨c,hc,rfl⟩:=az.mp hx
 split
 ·exact ⟨M,by rw[Rat.one_mul,bw],by simpa using hW⟩
 ·by_cases hp:∃j,j < ps.length/\ps.getD j 0=c
  ·obtain ⟨j,hj,e⟩:=hp;rw[fY hj λi hi ne=>if_neg λz=>?_,if_pos e]
   ·obtain ⟨z,ez,b⟩:=Pz tp j a;exact ⟨-z,by rw[di,<- ez];grind,by rw[qG];exact b⟩
   ·rcases dU i j with q | q | q
    ·have:=rr.inc i j q hj;lia
    ·exact ne q
    ·have:=rr.inc j i q hi;lia
  ·rw[cZ λj hj=>if_neg λz=>hp ⟨j,hj,z⟩];exact Tp.zero
theorem sI {c:Nat}:c∈gR ps n↔c < n/\c∉ps:=by
 unfold gR;rw[og,wM,decide_eq_true_iff]
end
inductive CY (K:FG9) (vs:List V) (H:Hp) (Q:VK) (E9:XK):Prop
 | mk (p:Addr) (n a:Nat) (H0:Hp) (R:LR9) (ps:List Nat):vs=[.ref p,.int n,.int a]->bI K H0 H p R->R.length<=100->n<=100->(∃rows,bX rows n R ps)->a < n->a∉ps->(∀xs∈R,∀x∈xs,mV x)->(∀r H',H r=none->aG H H'->cX K H' r (HH R ps n a)->Q (.ref r) H')->CY K vs H Q E9
theorem Kj:mV 0:=wW (M:=1) (W:=1) Tp.zero (by decide) bQ bQ
theorem rj {R:LR9} {ps:List Nat} {n:Nat} {xs:List Rat} (h:xs∈aH R ps n):∃a,a < n/\a∉ps/\xs=HH R ps n a:=by
 obtain ⟨a,ha,rfl⟩:=az.mp h;obtain ⟨h1,h2⟩:=sI.mp ha;exact ⟨a,h1,h2,rfl⟩
theorem Ja {q:Rat} (h:q.den<=9):q.den∣2520:=by
 have:=q.den_pos;generalize q.den=d at h this;have:d=1\/d=2\/d=3\/d=4\/d=5\/d=6\/d=7\/d=8\/d=9:=by lia
 rcases this with rfl | rfl | rfl | rfl | rfl | rfl | rfl | rfl | rfl <;> decide
theorem LB {q:Rat} {M:Nat} (h:Dr 9 q) (hM:2520∣M):Fr M 9 q:=(Fr.own q h.1).dvd (GA (Ja h.2) hM)
section
variable {rows:LR9} {ws xs row:List Rat} {n j:Nat}
theorem E8 {c:Nat} (hc:c < n):(js rows n)[c]?=some (rows.map λxs=>xs.getD c 0):=by
 unfold js;rw[aF,iW hc];rfl
theorem K7 {c i:Nat}:(rows.map λxs=>xs.getD c 0).getD i 0=b6 rows i c:=by
 unfold b6;rw[aa,aF,aa (l:=rows)];cases rows[i]? with
 | none=>rfl
 | some y=>rfl
end
theorem Fr.up {M V M' V':Nat} {x:Rat} (h:Fr M V x) (hd:M∣M') (hv:V<=V'):Fr M' V' x:=(h.dvd hd).mono hv
section
variable {rows R:LR9} {due:List Rat} {ps:List Nat} {n:Nat}
theorem Nf {xs ys:List Rat} {M V D B:Nat} (h:ys.length=xs.length) (hx:∀x∈xs,Fr M V x) (hy:∀y∈ys,Fr D B y):Fr (M*D) (xs.length*(V*B)) (dh xs ys):=by
 rw[fe h.symm]
 have key:∀j,j<=xs.length->Fr (M*D) (j*(V*B)) (bL j λc=>xs.getD c 0*ys.getD c 0):=by
  intro j
  induction j with
  | zero=>intro _;exact Fr.zero
  | succ j ih =>
   intro hj;exact ((ih (by lia)).add ((hx _ (getD_in (by lia))).mul (hy _ (getD_in (by lia))))).mono (Nat.le_of_eq (mB j (V*B)).symm)
 exact key _ (au _)
end
theorem Lg {ps qs:List Nat} (h:ye ps=ye qs):ps=qs:=List.map_inj_right (λ_ _ e=>Int.ofNat.inj e) |>.mp h
def qR (K:FG9) (P:Addr->Prop) (H:Hp) (xs:List Rat) (v:V):Prop:=∃q,v=.ref q/\P q/\cX K H q xs
section
variable {K:FG9} {P:Addr->Prop} {H H':Hp} {xs:List Rat} {v:V} {b l:Addr}
theorem qR.same (h:qR K P H xs v) (s:aG H H'):qR K P H' xs v:=by obtain ⟨q,a,c,d⟩:=h;exact ⟨q,a,c,d.same s⟩
theorem qR.updL {ys:List V} {o:HO} (h:qR K P H xs v) (hl:H l=some (.lst ys)) (nb:∀q,P q->q≠l):qR K P (upd H l o) xs v:=by obtain ⟨q,a,c,d⟩:=h;exact ⟨q,a,c,d.updL hl (nb q c)⟩
theorem bI.ofE {H0:Hp} {rows:LR9} {us:List V} (g:H l=some (.lst us)) (h:Paired (qR K P H) rows us) (h0:∀q,P q->H0 q=none) (hn:∀q,P q->q≠l):bI K H0 H l rows :=
 ⟨us,g,Paired.imp' (λ_ _ ⟨q,a,c,d⟩=>⟨q,a,h0 q c,d⟩) h,λz=>by
  obtain ⟨_,_,q,e,c,_⟩:=cF h z;cases e;exact hn _ c rfl⟩
end
theorem uk {α β:Type} {F G:α->β->Prop}:∀{l1:List α} {l2:List β},(∀a b,b∈l2->F a b->G a b)->Paired F l1 l2->Paired G l1 l2
 | _,_,_,.nil=>.nil
 | _,_,h,.cons a r=>.cons (h _ _ (by simp) a) (uk (λx y hy=>h x y (by simp [hy])) r)
section
variable {rows rows' R R':LR9} {n w W:Nat} {ps ps':List Nat}
theorem yO (hw:∀xs∈rows,xs.length=n) (hW:1<=W) (ent:∀i,i < (rows.map h7).length->∀c,Fr 1 W (dO (rows.map h7) i c)):∀P,P<=n->∃ls ps d,DO (rows.map h7) n P ls ps d:=by
 intro P
 induction P with
 | zero=>intro _;exact ⟨_,_,_,DO.start λzs hz=>by obtain ⟨x,hx,rfl⟩:=az.mp hz;rw[qX];exact hw x hx⟩
 | succ P ih =>
  intro hP;obtain ⟨ls,ps,d,I⟩:=ih (by lia);by_cases e:∃t,ps.length<=t/\t < ls.length/\dO ls t P≠0
  ·obtain ⟨t,h1,h2,h3⟩:=e;exact ⟨_,_,_,I.step hW ent h1 h2 h3⟩
  ·exact ⟨_,_,_,I.skip λi h1 h2=>by
    by_cases z:dO ls i P=0
    ·exact z
    ·exact absurd ⟨i,h1,h2,z⟩ e⟩
theorem Dk (hw:∀xs∈rows,xs.length=n) (F:Ig rows n w):∃R ps d ls,RE rows n w R ps d ls:=by
 obtain ⟨W,hW,W2,ent⟩:=F.ent;obtain ⟨ls,ps,d,I⟩:=yO hw hW ent n (au _);obtain ⟨R,S⟩:=I.done hw F;exact ⟨R,ps,d,_,S⟩
theorem Qa (hw:∀xs∈rows,xs.length=n) (F:Ig rows n w) (RR:bX rows n R ps):ps.length<=rows.length/\∃M,0 < M/\M<=2^(min rows.length n*(w+4))/\∀xs∈R,∀x∈xs,Tp M (2^(min rows.length n*(w+4))) x:=by
 obtain ⟨R2,ps2,d,ls,S⟩:=Dk hw F;obtain ⟨rfl,rfl⟩:=S.rr.same RR;exact ⟨S.km,d.natAbs,Int.natAbs_pos.mpr S.d0,S.dsz,S.tp⟩
theorem JO {k:Nat} {p q:Nat->Nat} (hp:∀i j,i < j->j < k->p i < p j) (hq:∀i j,i < j->j < k->q i < q j) (hs:∀i,i < k->∃j,j < k/\q j=p i):∀i,i < k->p i=q i:=by
 have hqm:∀i j,i<=j->j < k->q i<=q j:=λi j h hj=>by
  rcases cb i j with z | z
  ·exact bg (hq i j z hj)
  ·have:i=j:=by lia
   rw[this];exact au _
 have hqi:∀i j,i < k->j < k->q i < q j->i < j:=λi j hi hj h=>by
  rcases cb i j with z | z
  ·exact z
  ·have:=hqm j i z hi
   lia
 have key:∀i,i < k->∀j,j < k->q j=p i->i<=j:=by
  intro i
  induction i with
  | zero=>intro _ j _ _;exact bo _
  | succ i ih =>
   intro hi j hj e;obtain ⟨j',hj',e'⟩:=hs i (by lia);have h1:=ih (by lia) j' hj' e';have h2:=hp i (i+1) (by lia) hi;have:=hqi j' j hj' hj (by lia)
   lia
 have key2:∀t i,i+t+1=k->∀j,j < k->q j=p i->j<=i:=by
  intro t
  induction t with
  | zero=>intro i e j hj _;lia
  | succ t ih =>
   intro i e j hj ej;obtain ⟨j',hj',e'⟩:=hs (i+1) (by lia);have h1:=ih (i+1) (by lia) j' hj' e';have h2:=hp i (i+1) (by lia) (by lia);have:=hqi j j' hj hj' (by lia)
   lia
 intro i hi;obtain ⟨j,hj,e⟩:=hs i hi;have h1:=key i hi j hj e;have h2:=key2 (k - 1 - i) i (by lia) j hj e;have:j=i:=by lia
 rw[<- e,this]
theorem Jx (h:bX rows n R ps) (h':bX rows' n R' ps') (hl:ps.length=ps'.length) (hs:∀i,i < ps.length->dW ps'.length (b6 R') (b6 R i)):R=R'/\ps=ps':=by
 obtain ⟨l1,w1,r1⟩:=h;obtain ⟨l2,w2,r2⟩:=h'
 have ep:∀i,i < ps.length->ps.getD i 0=ps'.getD i 0:=JO r1.inc (by rw[hl];exact r2.inc) λi hi=>by
  have u:=r1.unit i hi i hi;rw[if_pos rfl] at u;obtain ⟨j,hj,e⟩:=r2.lead_in (hs i hi) (c:=ps.getD i 0) (by rw[u];decide) (λc hc=>r1.lead i hi c hc);exact ⟨j,by lia,e⟩
 have eps:ps=ps':=by
  apply mF hl;intro i a b;have:=ep i a;rw[aa,aa,af a,af b] at this;exact this
 refine ⟨Ls (n:=n) (by lia) w1 w2 λi hi c=>?_,eps⟩;rw[l1] at hi;rw[r2.coef (hs i hi) c,<- hl,fY hi λj hj hj'=>?_]
 ·rw[<- ep i hi];have u:=r1.unit i hi i hi;rw[if_pos rfl] at u;rw[u];grind
 ·rw[<- ep j hj];have u:=r1.unit i hi j hj;rw[if_neg (Ne.symm hj')] at u;rw[u];grind
end
def yI (mv:LR9) (x:List Rat):List Rat:=mv.map λxs=>dh xs x
def kry (mv pt:LR9):Nat->LR9
 | 0=>[]
 | t+1=>pt++(kry mv pt t).map (yI mv)
section
variable {mv pt R R' S X Y:LR9} {n t m i c:Nat} {ps ps':List Nat} {a:Nat->Nat->Rat}
theorem Bc {x:List Rat}:(yI mv x).length=mv.length:=ag ..
theorem KR (lm:mv.length=n) (wm:∀xs∈mv,xs.length=n) (wR:∀xs∈R,xs.length=n) (hi:i < R.length) (c:Nat):b6 (R.map (yI mv)) i c=bL n λj=>b6 mv c j*b6 R i j:=by
 have wi:=wR _ (aS hi);have e1:(R.map (yI mv)).getD i []=yI mv R[i]:=by rw[aa,aF,af hi];rfl
 have e2:R.getD i []=R[i]:=by rw[aa,af hi];rfl
 by_cases hc:c < n
 ·have wc:=wm _ (aS (show c < mv.length by lia));have e3:mv.getD c []=mv[c]'(by lia):=by rw[aa,af (by lia)];rfl
  have e4:(yI mv R[i]).getD c 0=dh (mv[c]'(by lia)) R[i]:=by
   unfold yI;rw[aa,aF,af (by lia)];rfl
  unfold b6;rw[e1,e2,e3,e4,fe (by lia),wc]
 ·have e3:mv.getD c []=[]:=by rw[aa,aW (by lia)];rfl
  unfold b6
  rw[e1,e3,aa,aW (by rw[Bc];lia),cZ λj _=>by
   show ([]:List Rat).getD j 0*_=0
   rw[aa];show (0:Rat)*_=0
   grind]
  rfl
theorem Ax (lm:mv.length=n) (wm:∀xs∈mv,xs.length=n) (wR:∀xs∈R,xs.length=n) (wS:∀xs∈S,xs.length=n) (hi:i < R.length) (h:dW S.length (b6 S) (b6 R i)):dW (S.map (yI mv)).length (b6 (S.map (yI mv))) (b6 (R.map (yI mv)) i):=by
 obtain ⟨w,hw⟩:=h;refine ⟨w,λc=>?_⟩;rw[KR lm wm wR hi,ag]
 have e1:bL n (λj=>b6 mv c j*b6 R i j)=bL n (λj=>bL S.length λs=>w s*(b6 mv c j*b6 S s j)):=aR λj _=>by
  rw[hw j,<- cA];exact aR λs _=>by grind
 rw[e1,eT];exact aR λs hs=>by rw[cA,KR lm wm wS hs]
theorem Ib (h:i < X.length):b6 (X++Y) i=b6 X i:=by
 funext c;unfold b6;rw[aa (l:=X++Y),cR h,<- aa]
theorem zo:b6 (X++Y) (X.length+i)=b6 Y i:=by
 funext c;unfold b6;rw[aa (l:=X++Y),b8 (by lia),show X.length+i - X.length=i by lia,<- aa]
theorem xB (h1:∀i,i < X.length->dW m a (b6 X i)) (h2:∀i,i < Y.length->dW m a (b6 Y i)):∀i,i < (X++Y).length->dW m a (b6 (X++Y) i):=λi hi=>by
 rw[av] at hi;by_cases h:i < X.length
 ·rw[Ib h];exact h1 i h
 ·obtain ⟨j,rfl⟩:∃j,i=X.length+j:=⟨i - X.length,by lia⟩;rw[zo];exact h2 j (by lia)
theorem t9 (h:i < X.length):dW (X++Y).length (b6 (X++Y)) (b6 X i):=by
 have:=dW.row (a:=b6 (X++Y)) (m:=(X++Y).length) (i:=i) (by rw[av];lia);rwa [Ib h] at this
theorem qZ {x:Nat->Rat} (h:dW Y.length (b6 Y) x):dW (X++Y).length (b6 (X++Y)) x:=dW.trans (λs hs=>by
 have:=dW.row (a:=b6 (X++Y)) (m:=(X++Y).length) (i:=X.length+s) (by rw[av];lia);rwa [zo] at this) h
theorem ik (lm:mv.length=n) (wp:∀xs∈pt,xs.length=n):∀t,∀xs∈kry mv pt t,xs.length=n:=by
 intro t
 induction t with
 | zero=>intro xs hx;cases hx
 | succ t ih =>
  intro xs hx;rcases ax.mp hx with hx | hx
  ·exact wp xs hx
  ·obtain ⟨y,_,rfl⟩:=az.mp hx;rw[Bc,lm]
theorem yd (lm:mv.length=n) (wm:∀xs∈mv,xs.length=n) (wp:∀xs∈pt,xs.length=n) (RR:bX (kry mv pt t) n R ps) (RR':bX (pt++R.map (yI mv)) n R' ps'):bX (kry mv pt (t+1)) n R' ps':=by
 have wk:=ik (mv:=mv) lm wp t;refine ⟨RR'.1,RR'.2.1,RR'.2.2.other ?_ ?_⟩
 ·refine xB (λi hi=>t9 hi) λi hi=>qZ ?_
  rw[ag] at hi;exact Ax lm wm RR.2.1 wk hi (RR.2.2.back i (by rw[<- RR.1];exact hi))
 ·refine xB (λi hi=>t9 hi) λi hi=>qZ ?_
  rw[ag] at hi;have:=RR.2.2.span i hi;rw[<- RR.1] at this;exact Ax lm wm wk RR.2.1 hi this
theorem Lc (lm:mv.length=n) (wm:∀xs∈mv,xs.length=n) (wp:∀xs∈pt,xs.length=n):∀t i,i < (kry mv pt t).length->dW (kry mv pt (t+1)).length (b6 (kry mv pt (t+1))) (b6 (kry mv pt t) i):=by
 intro t
 induction t with
 | zero=>intro i hi;cases hi
 | succ t ih =>
  refine xB (λi hi=>t9 hi) λi hi=>qZ ?_
  rw[ag] at hi;exact Ax lm wm (ik lm wp t) (ik lm wp (t+1)) hi (ih i hi)
theorem BI (lm:mv.length=n) (wm:∀xs∈mv,xs.length=n) (wp:∀xs∈pt,xs.length=n) (RR:bX (kry mv pt t) n R ps) (RR':bX (kry mv pt (t+1)) n R' ps'):∀i,i < ps.length->dW ps'.length (b6 R') (b6 R i):=λi hi =>
 dW.trans (λs hs=>RR'.2.2.span s hs) (dW.trans (Lc lm wm wp t) (RR.2.2.back i hi))
theorem Dw (lm:mv.length=n) (wm:∀xs∈mv,xs.length=n) (wp:∀xs∈pt,xs.length=n) (RR:bX (kry mv pt t) n R ps) (RR':bX (pt++R.map (yI mv)) n R' ps') (hl:ps'.length=ps.length):∀s,bX (kry mv pt (t+s)) n R ps:=by
 have K1:=yd lm wm wp RR RR';obtain ⟨e1,e2⟩:=Jx RR K1 hl.symm (BI lm wm wp RR K1);subst e1 e2;intro s
 induction s with
 | zero=>exact RR
 | succ s ih=>exact yd lm wm wp ih RR'
theorem FY (lm:mv.length=n) (wm:∀xs∈mv,xs.length=n) (wp:∀xs∈pt,xs.length=n) (RR:bX (kry mv pt t) n R ps) (RR':bX (kry mv pt (t+1)) n R' ps'):ps.length<=ps'.length:=by
 have h:=BI lm wm wp RR RR'
 have hs:∀i,i < ps.length->∃j,j < ps'.length/\ps'.getD j 0=ps.getD i 0:=λi hi=>by
  have u:=RR.2.2.unit i hi i hi;rw[if_pos rfl] at u;exact RR'.2.2.lead_in (h i hi) (c:=ps.getD i 0) (by rw[u];decide) (λc hc=>RR.2.2.lead i hi c hc)
 rcases cb ps'.length ps.length with z | z
 ·exfalso
  have key:∀i,i < ps.length->∀j,j < ps'.length->ps'.getD j 0=ps.getD i 0->i<=j:=by
   intro i
   induction i with
   | zero=>intro _ j _ _;exact bo _
   | succ i ih =>
    intro hi j hj e;obtain ⟨j',hj',e'⟩:=hs i (by lia);have h1:=ih (by lia) j' hj' e';have h2:=RR.2.2.inc i (i+1) (by lia) hi;rcases cb j' j with y | y
    ·lia
    ·rcases cb j j' with x | x
     ·have:=RR'.2.2.inc j j' x hj'
      lia
     ·have:j=j':=by lia
      rw[this] at e
      lia
  obtain ⟨j,hj,e⟩:=hs (ps.length - 1) (by lia);have:=key (ps.length - 1) (by lia) j hj e
  lia
 ·exact z
theorem Ld {M V c:Nat} (lm:mv.length=n) (wm:∀xs∈mv,xs.length=n) (wp:∀xs∈pt,xs.length=n) (hc:(n+1)*V<=2^c) (fm:GF M V mv) (fp:GF M V pt):∀t,∀xs∈kry mv pt t,∀x∈xs,Fr (M^t) (2^(c*t)) x:=by
 intro t
 induction t with
 | zero=>intro xs hx;cases hx
 | succ t ih =>
  intro xs hx x hx';have hV:V<=2^c:=ai (cH _ (by lia)) hc;rcases ax.mp hx with hx | hx
  ·refine Fr.up (fp xs hx x hx') (by rw[gZ];exact iY _ _) (ai hV (ak (by decide) (de _ (by lia))))
  ·obtain ⟨y,hy,rfl⟩:=az.mp hx;unfold yI at hx';obtain ⟨r,hr,rfl⟩:=az.mp hx';have wr:=wm r hr;have wy:=ik (mv:=mv) lm wp t y hy;have f:=Nf (by lia) (fm r hr) (ih y hy);rw[gZ,bV (M^t)];refine f.mono ?_;rw[dA,oW,bC,bV (2^(c*t)),<- cE,wr];exact aB _ (ai (aB _ (by lia)) hc)
def mN (mv pt:LR9) (a c:Nat):Prop:=∃M V:Nat,0 < M/\M<=2^a/\(mv.length+1)*V<=2^c/\GF M V mv/\GF M V pt/\a<=400/\c<=40/\mv.length*(mv.length*(a+c)+4)<=1740/\mv.length*(mv.length*(mv.length*(a+c)+4)+a+c+4)<=8900
theorem mN.swf {a c:Nat} (F:mN mv pt a c) (D:mv.length<=8) (wm:∀xs∈mv,xs.length=mv.length) (wp:∀xs∈pt,xs.length=mv.length) (ht:t<=mv.length):Ig (kry mv pt t) mv.length (mv.length*(a+c)):=by
 obtain ⟨M,V,M0,Ma,hV,fm,fp,a3,c3,e14,e89⟩:=F;have f:=Ld rfl wm wp hV fm fp t;have h1:mv.length*(a+c)<=8*440:=aN D (by lia);have hM:M^t<=2^(a*mv.length):=ai (vf Ma _) (by rw[<- DR];exact ak (by decide) (bx _ ht));have h2:a*mv.length<=mv.length*(a+c):=by rw[bV];exact bx _ (by lia)
 have h3:mv.length=0\/mv.length*(a+c)<=1740:=by
  rcases oB mv.length with z | z
  ·exact .inl z
  ·right
   have:=cH (mv.length*(a+c)+4) z
   lia
 have h4:mv.length*(a+c)<=1740:=by
  rcases h3 with z | z
  ·rw[z];lia
  ·exact z
 refine ⟨M^t,2^(mv.length*(a+c)),kz M0,ai hM (ak (by decide) (by lia)),bQ,au _,λxs hx x hx'=>Tp.of (f xs hx x hx') ?_,by lia,by lia,?_⟩
 ·refine ai (aN (ak (by decide) (bx c ht)) hM) ?_;rw[<- bC];refine ak (by decide) ?_;rw[bV c,bV a,<- dA,mD c];exact au _
 ·exact ai (aB _ (J9 _ _)) (by lia)
theorem mN.tp {a c:Nat} (F:mN mv pt a c) (D:mv.length<=8) (wm:∀xs∈mv,xs.length=mv.length) (wp:∀xs∈pt,xs.length=mv.length) (ht:t<=mv.length) (RR:bX (kry mv pt t) mv.length R ps):∃M,0 < M/\M<=2^(mv.length*(mv.length*(a+c)+4))/\∀xs∈R,∀x∈xs,Tp M (2^(mv.length*(mv.length*(a+c)+4))) x:=by
 obtain ⟨_,M,h0,h1,h2⟩:=Qa (ik rfl wp t) (F.swf D wm wp ht) RR;have le:2^(min (kry mv pt t).length mv.length*(mv.length*(a+c)+4))<=2^(mv.length*(mv.length*(a+c)+4)):=ak (by decide) (aB _ (J9 _ _));exact ⟨M,h0,ai h1 le,λxs hx x hx'=>(h2 xs hx x hx').mono le⟩
theorem mN.step {a c:Nat} (F:mN mv pt a c) (D:mv.length<=8) (wm:∀xs∈mv,xs.length=mv.length) (wp:∀xs∈pt,xs.length=mv.length) (ht:t<=mv.length) (RR:bX (kry mv pt t) mv.length R ps):Ig (pt++R.map (yI mv)) mv.length (mv.length*(mv.length*(a+c)+4)+a+c):=by
 obtain ⟨N,N0,N1,tN⟩:=F.tp D wm wp ht RR;obtain ⟨M,V,M0,Ma,hV,fm,fp,a3,c3,e14,e89⟩:=F;generalize mv.length*(mv.length*(a+c)+4)=e at *
 have V1:V<=2^c:=ai (cH _ (by lia)) hV;have eW:(2:Nat)^(e+a+c)=2^c*(2^a*2^e):=by rw[<- bC,<- bC];congr 1;lia
 refine ⟨N*M,2^(e+a+c),cp N0 M0,?_,bQ,au _,λxs hx x hx'=>?_,by lia,by lia,?_⟩
 ·exact ai (aN N1 Ma) (by rw[<- bC];exact ak (by decide) (by lia))
 ·rcases ax.mp hx with hx | hx
  ·refine Tp.of ((fp xs hx x hx').scaleL N) ?_;rw[eW,bV N];exact aN V1 (aN Ma N1)
  ·obtain ⟨y,hy,rfl⟩:=az.mp hx;unfold yI at hx';obtain ⟨r,hr,rfl⟩:=az.mp hx';have wr:=wm r hr;have wy:=RR.2.1 y hy;rw[fe (by lia),wr];have t1:∀j,Tp M (V*M) (r.getD j 0):=λj=>DY (λx hx=>Tp.of (fm r hr x hx) (au _)) j
   have t2:∀j,Tp N (2^e) (y.getD j 0):=λj=>DY (tN y hy) j
   have:=Tp.sum (k:=mv.length) (M:=N*M) (W:=V*M*2^e) (f:=λj=>r.getD j 0*y.getD j 0) λj _=>by
    have:=(t1 j).mul (t2 j);rwa [bV M N] at this
   refine this.mono ?_;rw[eW,cE V,<- cE mv.length];exact aN (ai (aB _ (by lia)) hV) (aB _ Ma)
 ·exact ai (aB _ (J9 _ _)) (by rw[show e+a+c+4=e+a+c+4 from rfl];exact e89)
theorem mN.fit {a c:Nat} (F:mN mv pt a c) (D:mv.length<=8) (wm:∀xs∈mv,xs.length=mv.length) (wp:∀xs∈pt,xs.length=mv.length) (ht:t<=mv.length) (RR:bX (kry mv pt t) mv.length R ps):∀xs∈mv,∀r∈R,Ca xs r:=λxs hx r hr=>by
 obtain ⟨N,N0,N1,tN⟩:=F.tp D wm wp ht RR;obtain ⟨M,V,M0,Ma,hV,fm,fp,a3,c3,e14,e89⟩:=F;have V1:V<=2^c:=ai (cH _ (by lia)) hV;have p14:=ak (show 0 < 2 by decide) e14;exact ⟨400,40,1740,1740,⟨M,V,M0,ai Ma (ak (by decide) a3),ai V1 (ak (by decide) c3),fm xs hx⟩,⟨N,2^1740,N0,ai N1 p14,au _,λx hx=>((tN r hr x hx).mono p14).fr N0⟩,by decide⟩
end
inductive CZ (K:FG9) (C:Addr) (vs:List V) (H:Hp) (Q:VK) (E9:XK):Prop
 | mk (x p:Addr) (H0 H1:Hp) (mv pt lk R:LR9):vs=[.ref x,.ref p]->rH K H0 H C x mv pt lk->ki mv pt lk->bI K H1 H p R->R.length<=100->(∀r∈R,r.length=mv.length)->(∀xs∈mv,∀r∈R,Ca xs r)->(∀r H',H r=none->aG H H'->bI K H H' r (R.map (yI mv))->Q (.ref r) H')->CZ K C vs H Q E9
structure BZ (mv pt:LR9) (Rs:List (LR9)):Prop where
 ne:Rs≠[]
 rr:∀t R,Rs[t]?=some R->∃ps,bX (kry mv pt t) mv.length R ps
 up:∀t R R',Rs[t]?=some R->Rs[t+1]?=some R'->R.length < R'.length
def GrL (K:FG9) (H0 H:Hp) (l:Addr) (Rs:List (LR9)):Prop:=∃us,H l=some (.lst us)/\Paired (λR v=>∃q,v=V.ref q/\H0 q=none/\q≠l/\bI K H0 H q R) Rs us
inductive De (K:FG9) (C:Addr) (vs:List V) (H:Hp) (Q:VK) (E9:XK):Prop
 | mk (x:Addr) (a c st:Nat) (H0:Hp) (mv pt lk:LR9):vs=[.ref x,.int st]->st<=1000->rH K H0 H C x mv pt lk->ki mv pt lk->mN mv pt a c->(∀r Rs H',H r=none->aG H H'->GrL K H H' r Rs->BZ mv pt Rs->Rs.length<=st+1->(∀R,Rs.getLast?=some R->∀s,(Rs.length - 1=st/\s=st\/Rs.length - 1 < st/\Rs.length - 1<=s)->∃ps,bX (kry mv pt s) mv.length R ps)->Q (.ref r) H')->De K C vs H Q E9
inductive CU (K:FG9) (C:Addr) (vs:List V) (H:Hp) (Q:VK) (E9:XK):Prop
 | mk (x:Addr) (a c st:Nat) (H0:Hp) (mv pt lk:LR9):vs=[.ref x,.int st]->st<=1000->rH K H0 H C x mv pt lk->ki mv pt lk->mN mv pt a c->(∀r R ps H',H r=none->aG H H'->bI K H H' r R->bX (kry mv pt st) mv.length R ps->Q (.ref r) H')->CU K C vs H Q E9
section
variable {K:FG9} {H0 H1 H H':Hp} {p l:Addr} {rows mv pt R R':LR9} {Rs:List (LR9)} {t:Nat}
theorem bI.weakN (h:bI K H0 H p rows) (hn:∀q,H0 q=none->H1 q=none):bI K H1 H p rows:=by obtain ⟨xs,g,r,n⟩:=h;exact ⟨xs,g,Paired.imp' (λ_ _ ⟨q,a,b,c⟩=>⟨q,a,hn q b,c⟩) r,n⟩
theorem bI.updL {ys:List V} {o:HO} (h:bI K H0 H p rows) (hl:H l=some (.lst ys)) (nl:H0 l≠none) (pl:p≠l):bI K H0 (upd H l o) p rows:=by obtain ⟨xs,g,r,n⟩:=h;exact ⟨xs,by rw[bF pl];exact g,Paired.imp' (λ_ _ z=>cP.updL z hl nl) r,n⟩
theorem GX {n:Nat}:bX [] n [] []:=⟨rfl,(λ_ h=>by cases h),(λ_ _ _ h=>absurd h (fg _)),(λ_ h=>absurd h (fg _)),(λ_ h=>absurd h (fg _)),(λ_ h=>absurd h (fg _)),(λ_ h=>absurd h (fg _)),(λ_ h=>absurd h (fg _))⟩
theorem BZ.len (h:BZ mv pt Rs):∀(t:Nat) (R:LR9),Rs[t]?=some R->t<=R.length:=by
 intro t
 induction t with
 | zero=>intro R _;exact bo _
 | succ t ih =>
  intro R e;have ht:=(aD.mp e).1;have e0:=af (show t < Rs.length by lia);have:=ih _ e0;have:=h.up t _ R e0 e
  lia
theorem BZ.snoc {ps':List Nat} (h:BZ mv pt (Rs++[R])) (h1:bX (kry mv pt (Rs.length+1)) mv.length R' ps') (h2:R.length < R'.length):BZ mv pt ((Rs++[R])++[R']):=by
 have l1:(Rs++[R]).length=Rs.length+1:=by rw[av];rfl
 refine ⟨by simp,λt S e=>?_,λt S S' e e'=>?_⟩
 ·rcases cb t (Rs.length+1) with z | z
  ·rw[cR (by lia)] at e;exact h.rr t S e
  ·have ht:=(aD.mp e).1;rw[av,be] at ht;have:t=Rs.length+1:=by lia
   subst this;rw[b8 (by lia),l1,mC] at e;cases e;exact ⟨ps',h1⟩
 ·have ht:=(aD.mp e').1;rw[av,be] at ht;rw[cR (by lia)] at e;rcases cb (t+1) (Rs.length+1) with z | z
  ·rw[cR (by lia)] at e';exact h.up t S S' e e'
  ·have:t=Rs.length:=by lia
   subst this;rw[b8 (by lia),l1,mC] at e';cases e';rw[b8 (au _),mC] at e;cases e;exact h2
end
def tS (k t i:Nat):Nat:=if i < k then i else if i=k then t else if i<=t then i - 1 else i
def FE (k t i:Nat):Nat:=if i < k then i else if i=t then k else if i < t then i+1 else i
section
variable {k t m i j:Nat}
theorem xE (h : k ≤ t) (ht : t < m) (hi : i < m) : tS k t i < m := by     unfold tS; split; · exact hi
                                                                          · split; · exact ht
                                                                            · split <;> lia
theorem Qb (h : k ≤ t) (ht : t < m) (hi : i < m) : FE k t i < m := by     unfold FE; split; · exact hi
                                                                          · split; · lia
                                                                            · split <;> lia
theorem P9 (h:k<=t):tS k t (FE k t i)=i:=by
 by_cases h1:i < k
 ·rw[show FE k t i=i by unfold FE;rw[if_pos h1]];unfold tS;rw[if_pos h1]
 ·by_cases h2:i=t
  ·rw[show FE k t i=k by unfold FE;rw[if_neg h1,if_pos h2]];unfold tS;rw[if_neg (by lia),if_pos rfl,h2]
  ·by_cases h3:i < t
   ·rw[show FE k t i=i+1 by unfold FE;rw[if_neg h1,if_neg h2,if_pos h3]];unfold tS;rw[if_neg (by lia),if_neg (by lia),if_pos (by lia)];lia
   ·rw[show FE k t i=i by unfold FE;rw[if_neg h1,if_neg h2,if_neg h3]];unfold tS;rw[if_neg h1,if_neg (by lia),if_neg (by lia)]
theorem NF (h:k<=t):FE k t (tS k t i)=i:=by
 by_cases h1:i < k
 ·rw[show tS k t i=i by unfold tS;rw[if_pos h1]];unfold FE;rw[if_pos h1]
 ·by_cases h2:i=k
  ·rw[show tS k t i=t by unfold tS;rw[if_neg h1,if_pos h2]];unfold FE;rw[if_neg (by lia),if_pos rfl,h2]
  ·by_cases h3:i<=t
   ·rw[show tS k t i=i - 1 by unfold tS;rw[if_neg h1,if_neg h2,if_pos h3]];unfold FE;rw[if_neg (by lia),if_neg (by lia),if_pos (by lia)];lia
   ·rw[show tS k t i=i by unfold tS;rw[if_neg h1,if_neg h2,if_neg h3]];unfold FE;rw[if_neg h1,if_neg (by lia),if_neg (by lia)]
theorem uf (hi:i < k):tS k t i=i:=by unfold tS;rw[if_pos hi]
theorem xF (h:k<=t) (hi:k<=i):k<=tS k t i:=by
 unfold tS;rw[if_neg (by lia)]
 split
 ·exact h
 ·split <;> lia
variable {a l:Nat->Nat->Rat} {pm p:Nat->Nat} {d:Rat} {P:Nat}
theorem yJ.rot (B:yJ a m k pm p l d) (h:k<=t) (ht:t < m):yJ a m k (λi=>pm (tS k t i)) p (λi=>l (tS k t i)) d where
 inj i j hi hj e:=by
  have:=B.inj _ _ (xE h ht hi) (xE h ht hj) e;rw[<- NF (i:=i) h,this,NF h]
 rng i hi:=B.rng _ (xE h ht hi)
 km:=B.km
 d0:=B.d0
 det:=by rw[B.det,AQ (f:=pm) (g:=λi=>pm (tS k t i)) λj hj=>by rw[uf hj]]
 eqs i hi c:=by
  have e:=B.eqs (tS k t i) (xE h ht hi) c;have e1:bL k (λj=>a (pm (tS k t i)) (p j)*l (tS k t j) c)=bL k (λj=>a (pm (tS k t i)) (p j)*l j c):=aR λj hj=>by rw[uf hj]
  rw[e1];by_cases hk:i < k
  ·rw[uf hk] at e ⊢;exact e
  ·rw[if_neg hk];rw[if_neg (by have:=xF h (show k<=i by lia);lia)] at e;exact e
 unit i hi j hj:=by
  rw[B.unit _ (xE h ht hi) j hj];by_cases hk:i < k
  ·rw[uf hk]
  ·have:=xF h (show k<=i by lia);rw[if_neg (by lia),if_neg (by lia)]
theorem lh.rot (E:lh a m k P p l d) (h:k<=t) (ht:t < m):lh a m k P p (λi=>l (tS k t i)) d where
 km:=E.km
 d0:=E.d0
 unit i hi j hj:=by
  rw[E.unit _ (xE h ht hi) j hj];by_cases hk:i < k
  ·rw[uf hk]
  ·have:=xF h (show k<=i by lia);rw[if_neg (by lia),if_neg (by lia)]
 inc:=E.inc
 low:=E.low
 zero i h1 h2 c hc:=E.zero _ (xF h h1) (xE h ht h2) c hc
 lead j hj c hc:=by rw[uf hj];exact E.lead j hj c hc
 there i hi:=dW.trans (λs hs=>dW.congr (λc=>by rw[P9 h]) (dW.row (a:=λi=>l (tS k t i)) (i:=FE k t s) (Qb h ht hs))) (E.there i hi)
 back i hi:=E.back _ (xE h ht hi)
end
section
variable {rows fs ls:LR9} {n P w a:Nat} {ps:List Nat}
theorem Mf {k i:Nat}:ky k k i=i:=by unfold ky;split <;> (try split) <;> lia
theorem BY.rot (h:BY rows n P (fs++ls) ps) (hf:fs.length=ps.length) {t:Nat} (ht:t < ls.length):BY rows n P (fs++ls.getD t [] :: ls.eraseIdx t) ps:=by
 obtain ⟨len,wide,pm,l,d,B,E,v⟩:=h;rw[av] at len;have h1:ps.length<=ps.length+t:=by lia
 have h2:ps.length+t < rows.length:=by lia
 have ef:∀i,i < rows.length->∀c,b6 (fs++ls.getD t [] :: ls.eraseIdx t) i c=b6 (fs++ls) (tS ps.length (ps.length+t) i) c:=λi hi c=>by
  by_cases z:i < ps.length
  ·rw[uf z,Ib (by lia),Ib (by lia)]
  ·obtain ⟨j,rfl⟩:∃j,i=fs.length+j:=⟨i - fs.length,by lia⟩;rw[zo];cases j with
   | zero =>
    rw[show tS ps.length (ps.length+t) (fs.length+0)=fs.length+t by unfold tS;rw[if_neg (by lia),if_pos (by lia)];lia,zo];rfl
   | succ j =>
    by_cases y:j < t
    ·rw[show tS ps.length (ps.length+t) (fs.length+(j+1))=fs.length+j by unfold tS;rw[if_neg (by lia),if_neg (by lia),if_pos (by lia)];lia,zo];show b6 (ls.eraseIdx t) j c=_
     unfold b6;rw[aa (l:=ls.eraseIdx t),List.getElem?_eraseIdx_of_lt y,<- aa]
    ·rw[show tS ps.length (ps.length+t) (fs.length+(j+1))=fs.length+(j+1) by unfold tS;rw[if_neg (by lia),if_neg (by lia),if_neg (by lia)],zo];show b6 (ls.eraseIdx t) j c=_
     unfold b6;rw[aa (l:=ls.eraseIdx t),List.getElem?_eraseIdx_of_ge (by lia),<- aa]
 refine ⟨?_,λxs hx=>?_,λi=>pm (tS ps.length (ps.length+t) i),λi=>l (tS ps.length (ps.length+t) i),d,B.rot h1 h2,E.rot h1 h2,λi hi c=>?_⟩
 ·rw[av,bD,N9 ht];lia
 ·rcases ax.mp hx with hx | hx
  ·exact wide xs (ax.mpr (.inl hx))
  ·rcases aE.mp hx with rfl | hx
   ·exact wide _ (ax.mpr (.inr (getD_in ht)))
   ·exact wide xs (ax.mpr (.inr (Pw hx)))
 ·rw[ef i hi c,v _ (xE h1 h2 hi) c];by_cases z:i < ps.length
  ·dsimp only
   rw[uf z]
  ·rw[if_neg z,if_neg (by have:=xF h1 (show ps.length<=i by lia);lia)]
def rz (P:Nat) (h:List Rat):List Rat:=h.map λy=>1 / h.getD P 0*y
def Bv (P:Nat) (u r:List Rat):List Rat:=List.zipWith (λx y=>x - y) r (u.map λy=>r.getD P 0*y)
theorem BY.lean (h:BY rows n P (fs++ls) ps) (hf:fs.length=ps.length) {t:Nat} (ht:t < ls.length) (hP:P < n) (hne:(ls.getD t []).getD P 0≠0):BY rows n (P+1) ((fs.map (Bv P (rz P (ls.getD t [])) )++[rz P (ls.getD t [])])++(ls.eraseIdx t).map (Bv P (rz P (ls.getD t [])))) (ps++[P]):=by
 have R:=h.rot hf ht;have len:=R.len;have wide:=R.wide;generalize ls.getD t []=hd at *
 generalize ls.eraseIdx t=l2 at *
 rw[av,bD] at len;have whd:hd.length=n:=wide _ (ax.mpr (.inr (.head _)));have wu:(rz P hd).length=n:=by unfold rz;rw[ag];exact whd
 have ek:b6 (fs++hd :: l2) ps.length=λc=>hd.getD c 0:=by
  have:=zo (X:=fs) (Y:=hd :: l2) (i:=0);rw[show fs.length+0=ps.length by lia] at this;rw[this];rfl
 have wl:∀r,r.length=n->(Bv P (rz P hd) r).length=n:=λr hr=>by unfold Bv;rw[dX,ag,wu,hr];lia
 have vl:∀r,r.length=n->∀c,(Bv P (rz P hd) r).getD c 0=r.getD c 0 - r.getD P 0*(1 / hd.getD P 0*hd.getD c 0):=λr hr c=>by
  unfold Bv;rw[O3 (by rw[ag,wu,hr]),Lo];unfold rz;rw[Lo]
 refine R.step (t:=ps.length) (au _) (by rw[av,bD];lia) (by rw[ek];exact hne) ?_ ?_ λi hi c=>?_
 ·rw[av,av,ag,ag,be];lia
 ·intro xs hx;rcases ax.mp hx with hx | hx
  ·rcases ax.mp hx with hx | hx
   ·obtain ⟨r,hr,rfl⟩:=az.mp hx;exact wl r (wide r (ax.mpr (.inl hr)))
   ·rw[cw.mp hx];exact wu
  ·obtain ⟨r,hr,rfl⟩:=az.mp hx;exact wl r (wide r (ax.mpr (.inr (.tail _ hr))))
 ·rw[Mf,ek]
  dsimp only
  have lf:(fs.map (Bv P (rz P hd))).length=ps.length:=by rw[ag];exact hf
  have key:∀{X:LR9} {s:Nat} (hs:s < X.length) (_:∀r∈X,r.length=n),b6 (X.map (Bv P (rz P hd))) s c=b6 X s c - b6 X s P*(1 / hd.getD P 0*hd.getD c 0):=λ{X s} hs hX=>by
   unfold b6;have e1:(X.map (Bv P (rz P hd))).getD s []=Bv P (rz P hd) X[s]:=by rw[aa,aF,af hs];rfl
   have e2:X.getD s []=X[s]:=by rw[aa,af hs];rfl
   rw[e1,e2];exact vl _ (hX _ (aS hs)) c
  rcases dU i ps.length with z | z | z
  ·rw[if_neg (by lia),ck,Ib (by lia),Ib (by lia),key (by lia) λr hr=>wide r (ax.mpr (.inl hr))]
  ·rw[if_pos z,ck,show i=(fs.map (Bv P (rz P hd))).length+0 by lia,zo];show (rz P hd).getD c 0=_
   unfold rz;rw[Lo]
  ·rw[if_neg (by lia)];obtain ⟨j,rfl⟩:∃j,i=ps.length+1+j:=⟨i - ps.length - 1,by lia⟩
   have e1:b6 (fs++hd :: l2) (ps.length+1+j)=b6 l2 j:=by
    have:=zo (X:=fs) (Y:=hd :: l2) (i:=j+1);rw[show fs.length+(j+1)=ps.length+1+j by lia] at this;rw[this];rfl
   have e2:b6 ((fs.map (Bv P (rz P hd))++[rz P hd])++l2.map (Bv P (rz P hd))) (ps.length+1+j)=b6 (l2.map (Bv P (rz P hd))) j:=by
    have:=zo (X:=fs.map (Bv P (rz P hd))++[rz P hd]) (Y:=l2.map (Bv P (rz P hd))) (i:=j);rw[av,lf,be] at this;exact this
   rw[e1,e2,key (by lia) λr hr=>wide r (ax.mpr (.inr (.tail _ hr)))]
end
theorem xJ {α β:Type} {F:α->β->Prop}:∀{l1:List α} {l2:List β} (_:Paired F l1 l2) (i:Nat),Paired F (l1.eraseIdx i) (l2.eraseIdx i)
 | _,_,.nil,_=>.nil
 | _,_,.cons _ r,0=>r
 | _,_,.cons h r,i+1=>.cons h (xJ r i)
theorem OR {xs:List Rat} {i c:Nat}:c∈FP xs i↔c < i/\xs.getD c 0≠0:=by
 unfold FP;rw[og,wM];simp
theorem bI.toE {K:FG9} {H0 H:Hp} {l:Addr} {rows:LR9} (h:bI K H0 H l rows):∃us,H l=some (.lst us)/\Paired (qR K (λq=>H0 q=none/\q≠l) H) rows us:=by
 obtain ⟨us,g,pr,nn⟩:=h;exact ⟨us,g,uk (λxs v hv ⟨q,e,a,b⟩=>⟨q,e,⟨a,λz=>nn (by rw[<- z,<- e];exact hv)⟩,b⟩) pr⟩
theorem Dn {α:Type} {v:α}:∀{l:List α},l.Nodup->v∉l->∀j,(l.set j v).Nodup
 | [],_,_,_=>qF
 | a :: l,h,hn,0=>by
  rw[d6] at h;rw[List.set_cons_zero,d6];exact ⟨λz=>hn (.tail _ z),h.2⟩
 | a :: l,h,hn,j+1=>by
  rw[d6] at h;rw[List.set_cons_succ,d6];refine ⟨λz=>?_,Dn h.2 (λz=>hn (.tail _ z)) j⟩;rcases cx z with z | z
  ·exact h.1 z
  ·exact hn (by rw[z];exact .head _)
structure ko (K:FG9) (A:Addr->Prop) (H:Hp) (n:Nat) (C:V->Rat->Prop) (m p l b q0:Addr) (us ws vs:List V):Prop where
 bag:iV H b
 inn:Inner H b q0
 gm:H m=some (.lst us)
 gp:H p=some (.lst ws)
 gl:H l=some (.lst vs)
 lm:us.length=n
 row:∀x∈us++vs++ws,fv K A H n (C x) x
 nd:(us++vs++ws).Nodup
section
variable {K:FG9} {A:Addr->Prop} {H H':Hp} {n:Nat} {C C':V->Rat->Prop} {m p l b q0 q:Addr} {us ws vs zs:List V} {y:Rat} {v:V}
theorem ko.same (h:ko K A H n C m p l b q0 us ws vs) (e:aG H H'):ko K A H' n C m p l b q0 us ws vs :=
 ⟨h.bag.same e,(e.upto (p:=b)).2 _ h.inn,e _ _ h.gm,e _ _ h.gp,e _ _ h.gl,h.lm,λx hx=>(h.row x hx).same e,h.nd⟩
theorem ko.upto (h:ko K A H n C m p l b q0 us ws vs) (M:Gx A m p l b q0) (u:cO b H H') (B':iV H' b):ko K A H' n C m p l b q0 us ws vs :=
 ⟨B',u.2 _ h.inn,u.other M.mb h.gm,u.other M.pb h.gp,u.other M.lb h.gl,h.lm,λx hx=>(h.row x hx).upto u h.bag M.ab,h.nd⟩
theorem ko.weak (h:ko K A H n C m p l b q0 us ws vs) (w:∀x∈us++vs++ws,∀y,C x y->C' x y):ko K A H n C' m p l b q0 us ws vs :=
 ⟨h.bag,h.inn,h.gm,h.gp,h.gl,h.lm,λx hx=>(h.row x hx).weak (λ_ z=>z) (w x hx),h.nd⟩
theorem ko.put (h:ko K A H n C m p l b q0 us ws vs) (M:Gx A m p l b q0) (aq:A q) (hq:H q=some (.lst zs)) (hv:cg K H y v) (hc:C (.ref q) y) (j:Nat):ko K A (upd H q (.lst (zs.set j v))) n C m p l b q0 us ws vs:=by
 have ne:∀{z},¬A z->z≠q:=λh e=>h (by rw[e];exact aq)
 refine ⟨h.bag.upd h.inn (ne M.ab).symm (ne M.aq).symm,h.inn.upd (ne M.ab).symm,by rw[bF (ne M.am)];exact h.gm,by rw[bF (ne M.ap)];exact h.gp,by rw[bF (ne M.al)];exact h.gl,h.lm,λx hx=>?_,h.nd⟩;by_cases e:x=.ref q
 ·subst e;exact (h.row _ hx).put hq hv hc j
 ·obtain ⟨q1,qs,rfl,a1,r1,l1,c1⟩:=h.row x hx;exact ⟨q1,qs,rfl,a1,r1.updL hq (λz=>e (by rw[z])),l1,c1⟩
theorem ko.set (h:ko K A H n C m p l b q0 us ws vs) (M:Gx A m p l b q0) (hx:fv K A H n (C v) v) (hn:v∉us++vs++ws) (j:Nat):ko K A (upd H m (.lst (us.set j v))) n C m p l b q0 (us.set j v) ws vs:=by
 have mem:∀x∈us.set j v++vs++ws,x=v\/x∈us++vs++ws:=λx hx=>by
  rcases ax.mp hx with hx | hx
  ·rcases ax.mp hx with hx | hx
   ·rcases cx hx with hx | hx
    ·exact .inr (by simp [hx])
    ·exact .inl hx
   ·exact .inr (by simp [hx])
  ·exact .inr (by simp [hx])
 refine ⟨h.bag.upd h.inn M.mb M.mq,h.inn.upd M.mb,aI,by rw[bF M.mp.symm];exact h.gp,by rw[bF M.ml.symm];exact h.gl,by rw[d7];exact h.lm,λx hx'=>?_,?_⟩
 ·rcases mem x hx' with rfl | hx'
  ·exact hx.other h.gm M.am
  ·exact (h.row x hx').other h.gm M.am
 ·have nd:=h.nd;rw[ck] at nd hn ⊢;obtain ⟨n1,n2,n3⟩:=dB.mp nd;refine dB.mpr ⟨?_,n2,λa ha c hc=>?_⟩
  ·rcases cb j us.length with z | z
   ·exact Dn n1 (λz'=>hn (ax.mpr (.inl z'))) j
   ·rw[List.set_eq_of_length_le z];exact n1
  ·rcases cx ha with ha | rfl
   ·exact n3 a ha c hc
   ·exact λz=>hn (ax.mpr (.inr (by rw[z];exact hc)))
end
theorem IY {M W:Nat} {x:Rat} (h0:0 < M) (h1:M<=2^800) (hW:W<=2^140) (h:Fr M W x):mV x :=
 HW h0 (ai h1 (ak (by decide) (by decide))) (ai hW (ak (by decide) (by decide))) h
theorem MM {t V c:Nat} (ht:t<=3) (hV:V<=2^20) (hc:c<=9):c*(9^t*V)<=2^140:=by
 have h1:9^t<=9^3:=ak (by decide) ht;have h2:c*(9^t*V)<=9*(9^3*2^20):=aN hc (aN h1 hV);exact ai h2 (ai (show 9*(9^3*2^20)<=2^40 by decide) (ak (by decide) (by decide)))
theorem rZ {α:Type} {l:List α} {v:α} (h:l.Nodup) (hn:v∉l):(l++[v]).Nodup:=dB.mpr ⟨h,by simp,λa ha c hc=>by rw[cw.mp hc];exact λz=>hn (by rw[<- z];exact ha)⟩
section
variable {K:FG9} {a:Addr} {xs:List V} {g:TG} {tf:TT} {te:TE} {Q:VK} {σ₀:St} {H:Hp} {α β:Type}
theorem DF {n:Nat} {b:Addr} (G:Hp->β->V->Prop) (C:β->Prop) (hB:iV H b) (hl:n<=1000) (hG:∀{H' H'' c x},G H' c x->cO b H' H''->iV H' b->G H'' c x)
  (hA:∀{H' c x},G H' c x->∃q,x=V.ref q/\H' q≠none)
  (hs:∀(i:Nat) H' NY NN,i < n->cO b H H'->iV H' b->(∀y c H2,cO b H' H2->iV H2 b->C c->G H2 c y->(∃q,y=V.ref q/\H' q=none)->NY y H2)->qY σ₀ g tf te (.int i) H' NY NN)
  (hd:∀ys cs H' p,H p=none->cO b H H'->iV H' b->H' p=some (.lst ys)->cs.length=n->ys.Nodup->(∀c∈cs,C c)->Paired (G H') cs ys->(∃H2,H2 p=none/\Paired (G H2) cs ys)->Q (.ref p) H'):rJ (GD 0 n) σ₀ g tf te Q H:=by
 refine oS (λi ys H'=>cO b H H'/\iV H' b/\∃cs,cs.length=i/\ys.Nodup/\(∀c∈cs,C c)/\Paired (G H') cs ys) (bg (bN (by lia))) ⟨(aG.refl _).upto,hB,[],rfl,qF,(λ_ z=>nomatch z),.nil⟩ ?_ ?_
 ·rintro i ys H' hi hlen ⟨u,B,cs,lc,nd,hc,pr⟩;rw[vV];refine hs i H' _ _ hi u B λy c H2 u2 B2 cc gy ⟨q,ey,nq⟩=>⟨u.trans u2,B2,cs++[c],by simp [lc],rZ nd (λz=>by obtain ⟨c',_,gc⟩:=cF pr z;obtain ⟨q',e',h'⟩:=hA gc;rw[ey] at e';cases e';exact h' nq),ER hc cc,cM (Paired.imp' (λ_ _ z=>hG z u2 B) pr) (.cons gy .nil)⟩
 ·rintro ys H' hy ⟨u,B,cs,lc,nd,hc,pr⟩ p hp;have s:aG H' (upd H' p (.lst ys)):=aG.new hp;exact hd ys cs _ p (u.none B hp) (u.same s) (B.same s) aI lc nd hc (Paired.imp' (λ_ _ z=>hG z s.upto B) pr) ⟨H',hp,pr⟩
end
structure Ij (K:FG9) (A:Addr->Prop) (n:Nat) (C:Rat->Prop) (m p l b q0:Addr) (us ws vs:List V) (H0 H:Hp):Prop where
 mix:ko K A H n (λ_=>C) m p l b q0 us ws vs
 gp:H p=some (.lst ws)
 gl:H l=some (.lst vs)
 kp:iX A b m H0 H
section
variable {K:FG9} {A:Addr->Prop} {n:Nat} {C:Rat->Prop} {m p l b q0 q:Addr} {us ws vs:List V} {H0 H H':Hp} {y:Rat} {v:V}
theorem Ij.same (h:Ij K A n C m p l b q0 us ws vs H0 H) (e:aG H H'):Ij K A n C m p l b q0 us ws vs H0 H':=⟨h.mix.same e,e _ _ h.gp,e _ _ h.gl,h.kp.same e⟩
theorem Ij.upto (h:Ij K A n C m p l b q0 us ws vs H0 H) (M:Gx A m p l b q0) (u:cO b H H') (B:iV H' b):Ij K A n C m p l b q0 us ws vs H0 H':=⟨h.mix.upto M u B,u.other M.pb h.gp,u.other M.lb h.gl,h.kp.upto u⟩
theorem Ij.row (h:Ij K A n C m p l b q0 us ws vs H0 H) {x:V} (hx:x∈ws\/x∈vs):fv K A H n C x:=h.mix.row x (by rcases hx with hx | hx <;> simp [hx])
theorem Ij.put (h:Ij K A n C m p l b q0 us ws vs H0 H) (M:Gx A m p l b q0) (hx:V.ref q∈ws\/V.ref q∈vs) (hv:cg K H y v) (hc:C y) (j:Nat):∃zs,H q=some (.lst zs)/\zs.length=n/\Ij K A n C m p l b q0 us ws vs H0 (upd H q (.lst (zs.set j v))):=by
 obtain ⟨q',zs,qs,e,a,g,lz,_⟩:=(h.row hx).at;cases e;have ne:∀{z},¬A z->z≠q:=λh e=>h (by rw[e];exact a)
 exact ⟨zs,g,lz,h.mix.put M a g hv hc j,by rw[bF (ne M.ap)];exact h.gp,by rw[bF (ne M.al)];exact h.gl,h.kp.upd (.inl a)⟩
end
inductive Fn (K:FG9) (vs:List V) (H:Hp) (Q:VK) (E9:XK):Prop
 | mk (b:Addr) (n w:Nat) (way first:Int):vs=[.ref b,.int n,.int way,.int first,.int w]->iV H b->n<=8->1<=w->w<=1000000->(∀r us H',H r=none->H' r=some (.lst us)->us.length=n->us.Nodup->(∀x∈us,fv K (λq=>H q=none/\q≠r) H' n (Dr (max w 6)) x)->iV H' b->cO b H H'->Q (.ref r) H')->Fn K vs H Q E9
def PtF (n i o w c:Nat) (mv pt lk:LR9):Prop:=∃M V1:Nat,0 < M/\GF M V1 mv/\GF M V1 pt/\GF M V1 lk/\((w<=9/\M=2520/\V1=9^3*9)\/(9 < w/\M<=2^(c*((n+i+o)*n))/\V1=9^3*2^c))
inductive Fo (K:FG9) (vs:List V) (H:Hp) (Q:VK) (E9:XK):Prop
 | mk (b:Addr) (n:Nat):vs=[.ref b,.int n]->iV H b->1<=n->n<=8->(∀r mv pt lk H',fH K H H' r mv pt lk->mv.length=n->pt.length=1->lk.length=1->ki mv pt lk->GF 1 1 mv->GF 1 1 pt->GF 1 1 lk->iV H' b->cO b H H'->Q (.ref r) H')->Fo K vs H Q E9
theorem pz {mv pt:LR9} {M V1 a c n0:Nat} (M0:0 < M) (hM:M<=2^a) (hn:mv.length<=n0) (hV:(n0+1)*V1<=2^c) (fm:GF M V1 mv) (fp:GF M V1 pt) (h4:a<=400/\c<=40/\n0*(n0*(a+c)+4)<=1740/\n0*(n0*(n0*(a+c)+4)+a+c+4)<=8900):mN mv pt a c:=by
 obtain ⟨h1,h2,h3,h5⟩:=h4;have e1:mv.length*(a+c)<=n0*(a+c):=aB _ hn;have e2:mv.length*(mv.length*(a+c)+4)<=n0*(n0*(a+c)+4):=aN hn (by lia);have e3:mv.length*(mv.length*(mv.length*(a+c)+4)+a+c+4)<=n0*(n0*(n0*(a+c)+4)+a+c+4):=aN hn (by lia);exact ⟨M,V1,M0,hM,ai (aB _ (by lia)) hV,fm,fp,h1,h2,by lia,by lia⟩
def Mg (K:FG9):Sp:=λvs H Q _=>∃b:Addr,vs=[.ref b]/\iV H b /\
 ∀r mv pt lk H',fH K H H' r mv pt lk->6<=mv.length->ki mv pt lk->GF 1 (9^3) mv->GF 1 (9^3) pt->GF 1 (9^3) lk->iV H' b->cO b H H'->Q (.ref r) H'
theorem FZ {mv pt R R':LR9} {n t:Nat} {ps ps':List Nat} (lm:mv.length=n) (wm:∀xs∈mv,xs.length=n) (wp:∀xs∈pt,xs.length=n) (RR:bX (kry mv pt t) n R ps) (RR':bX (kry mv pt (t+1)) n R' ps'):bX (pt++R.map (yI mv)) n R' ps':=by
 have wk:=ik (mv:=mv) lm wp t;refine ⟨RR'.1,RR'.2.1,RR'.2.2.other ?_ ?_⟩
 ·refine xB (λi hi=>t9 hi) λi hi=>qZ ?_
  rw[ag] at hi;have:=RR.2.2.span i hi;rw[<- RR.1] at this;exact Ax lm wm wk RR.2.1 hi this
 ·refine xB (λi hi=>t9 hi) λi hi=>qZ ?_
  rw[ag] at hi;exact Ax lm wm RR.2.1 wk hi (RR.2.2.back i (by rw[<- RR.1];exact hi))
theorem NM {F G:List jQ->Rat} {r:Nat} {σ:Nat->Nat} (hF:∀ws:List jQ,F (ws.map λv i=>v (σ i))=G ws):∀(post pre:List jQ) (s:Rat),Ck F r (pre.map λv i=>v (σ i)) (post.map λv i=>v (σ i)) s=Ck G (σ r) pre post s
 | [],_,_=>rfl
 | v :: post,pre,s=>by
  have i1:=hF (pre++post);have i2:=NM (r:=r) hF post (pre++[v]) (-s);simp only[cm,ib,List.map_nil,Ck] at i1 i2 ⊢;rw[i1,i2]
theorem N2 {σ:Nat->Nat}:∀(rs:List Nat) (vs:List jQ),tY rs (vs.map λv i=>v (σ i))=tY (rs.map σ) vs
 | [],[]=>rfl
 | [],_ :: _=>rfl
 | r :: rs,vs=>NM (λws=>N2 rs ws) vs [] 1
theorem Kx {σ:Nat->Nat}:∀{k:Nat},(yT (λi=>i) k).map σ=yT σ k
 | 0=>rfl
 | k+1=>by show σ k :: _=_;rw[Kx];rfl
theorem cw_map {τ:jQ->jQ} {v:Nat->jQ}:∀{k:Nat},(sU v k).map τ=sU (λj=>τ (v j)) k
 | 0=>rfl
 | k+1=>by show τ (v k) :: _=_;rw[cw_map];rfl
theorem O8 {σ:Nat->Nat} {v:Nat->jQ} {k:Nat}:tY (yT σ k) (sU v k)=tY (yT (λi=>i) k) (sU (λj i=>v j (σ i)) k):=by
 rw[<- Kx,<- N2,cw_map]
structure Vb (r n:Nat) (Pm Y Z:Nat->Nat->Rat) (d:Rat) (W:Nat):Prop where
 d0:d≠0
 det:d=tY (yT (λi=>i) r) (sU (λj i=>Pm i j) r)
 eq:∀i,i < r->∀c,c < n->Z i c=bL r λs=>Pm i s*Y s c
 pf:∀i,i < r->∀s,s < r->Fr 1 W (Pm i s)
 zf:∀i,i < r->∀c,c < n->Fr 1 W (Z i c)
section
variable {rows fs ls:LR9} {n r M W Wv Wb k P:Nat} {Pm Y Z B E a:Nat->Nat->Rat} {d:Rat} {ps:List Nat} {rs:LR9}
def Q5 (rows:LR9) (n S:Nat):Prop:=2*S<=3990/\∃J:Nat->LR9->List Nat->Prop,J 0 rows []/\(∀P rs ps,J P rs ps->(∀i,ps.length<=i->i < rs.length->b6 rs i P=0)->J (P+1) rs ps) /\
 (∀P fs ls ps t,J P (fs++ls) ps->fs.length=ps.length->t < ls.length->P < n->(ls.getD t []).getD P 0≠0->J (P+1) ((fs.map (Bv P (rz P (ls.getD t [])) )++[rz P (ls.getD t [])])++(ls.eraseIdx t).map (Bv P (rz P (ls.getD t [])))) (ps++[P])) /\
 (∀P rs ps,J P rs ps->BY rows n P rs ps)/\∀P rs ps,J P rs ps->P<=n->∀i,i < rows.length->∃D:Nat,0 < D/\D<=2^S/\∀c,Tp D (2^S) (b6 rs i c)
theorem LV.lws {w a:Nat} (F:LV rows n w a) (hw:∀xs∈rows,xs.length=n):Q5 rows n (min rows.length n*(w+4)+a):=by
 obtain ⟨_,_,_,_,_,_,_,_,e⟩:=id F;refine ⟨e,BY rows n,BY.start hw,λ_ _ _ h z=>h.skip z,λ_ _ _ _ _ h hf ht hP hne=>h.lean hf ht hP hne,λ_ _ _ h=>h,λP rs ps h hP i hi=>?_⟩;obtain ⟨D,D0,D1,D2⟩:=h.sz F hP hi;exact ⟨D,D0,D1,λc=>(D2 c).mono (ak (by decide) (by lia))⟩
end
section
variable {rows R R1 R2 mv pt:LR9} {n r M V1 W W' Wv Wb k P:Nat} {Pm Y Z B E a:Nat->Nat->Rat} {d:Rat} {ps ps1 ps2:List Nat} {rs:LR9}
theorem Kg (h0:0 < M) (h3:∀xs∈rows,∀x∈xs,Tp M W x):∀i,i < rows.length->∀c,Fr 1 W (dO (rows.map h7) i c):=λi hi c=>by
 have hx:=getD_in (e:=[]) hi;rw[zy hi];unfold b6;generalize rows.getD i []=xs at hx ⊢;by_cases hc:c < xs.length
 ·have t:=h3 xs hx _ (getD_in (e:=0) hc);obtain ⟨s,e,b⟩:=yM t h0 (rC (xs:=xs)) (rD (az.mpr ⟨_,getD_in (e:=0) hc,rfl⟩)) (Ak h0 (h3 xs hx));rw[dS,e];exact Fr.int b
 ·rw[aa,aW (by lia)];show Fr 1 W (_*0)
  rw[gY];exact Fr.zero
theorem Vb.of (hw:∀xs∈rows,xs.length=n) (hW:1<=W) (h0:0 < M) (h3:∀xs∈rows,∀x∈xs,Tp M W x) (RR:bX rows n R ps):∃Pm Z d,Vb ps.length n Pm (b6 R) Z d W:=by
 have ent:=Kg h0 h3;obtain ⟨ls,ps2,d,I⟩:=yO hw hW (by rw[ag];exact ent) n (au _);obtain ⟨_,_,⟨pm,B⟩,E⟩:=I;rw[ag] at B E
 have RF:DQ rows.length n (b6 rows) ps2.length (λj=>ps2.getD j 0) (λi c=>dO ls i c / d):=DQ.other (E.done λi hi c hc=>xl (n:=n) (λzs hz=>by
  obtain ⟨xs,hx,rfl⟩:=az.mp hz;rw[qX];exact hw xs hx) hc) z6 z7
 obtain ⟨e1,e2,e3⟩:=RF.uniq RR.2.2 (λ_ hi=>dW.row hi) (λ_ hi=>dW.row hi);refine ⟨λi s=>dO (rows.map h7) (pm i) (ps2.getD s 0),λi c=>dO (rows.map h7) (pm i) c,d,?_⟩;rw[<- e1];have km:=B.km;refine ⟨B.d0,?_,λi hi c hc=>?_,λi hi s hs=>ent _ (B.rng i (by lia)) _,λi hi c hc=>ent _ (B.rng i (by lia)) _⟩
 ·rw[B.det];exact O8
 ·have:=B.coef (i:=i) (c:=c) (by lia);rw[if_pos hi,vT] at this;rw[this];exact aR λs hs=>by rw[<- e3 s hs c];exact dS _ _
end
section
variable {rows R R1 R2 mv pt:LR9} {n t t2 a c:Nat} {ps ps1 ps2:List Nat}
theorem xG (RR:bX rows n R ps):bX R n R ps:=⟨RR.1,RR.2.1,RR.2.2.other (λi hi=>by rw[RR.1];exact RR.2.2.span i hi) (λi hi=>RR.2.2.back i (by rw[<- RR.1];exact hi))⟩
theorem Mm (RR:bX rows n R ps) (e:ps.length=n) {i:Nat} (hi:i < n) (c:Nat):b6 R i c=if c=i then 1 else 0:=by
 have lo:∀j,j < n->j<=ps.getD j 0:=by
  intro j
  induction j with
  | zero=>intro _;exact bo _
  | succ j ih =>
   intro hj;have:=ih (by lia);have:=RR.2.2.inc j (j+1) (by lia) (by lia)
   lia
 have hi2:∀s j,j+s+1=n->ps.getD j 0<=j:=by
  intro s
  induction s with
  | zero =>
   intro j hj;have:=RR.2.2.low j (by lia)
   lia
  | succ s ih =>
   intro j hj;have:=ih (j+1) (by lia);have:=RR.2.2.inc j (j+1) (by lia) (by lia)
   lia
 have ep:∀j,j < n->ps.getD j 0=j:=λj hj=>L0 (hi2 (n - 1 - j) j (by lia)) (lo j hj)
 by_cases hc:c < n
 ·have:=RR.2.2.unit i (by lia) c (by lia);rw[ep c hc] at this;rw[this];by_cases z:i=c
  ·rw[if_pos z,if_pos z.symm]
  ·rw[if_neg z,if_neg (Ne.symm z)]
 ·rw[BM RR.2.1 (by lia),if_neg (by lia)]
theorem IZ {M W:Nat} (h:∀i,i < rows.length->∀c,Tp M W (b6 rows i c)):∀xs∈rows,∀x∈xs,Tp M W x:=λxs hx x hx'=>by
 obtain ⟨i,hi,rfl⟩:=bR hx;obtain ⟨c,hc,rfl⟩:=bR hx';have:=h i hi c;unfold b6 at this;rw[aa (l:=rows),af hi] at this;have e:(some rows[i]).getD []=rows[i]:=rfl;rw[e,aa,af hc] at this;exact this
theorem mN.vb (F:mN mv pt a c) (wm:∀xs∈mv,xs.length=mv.length) (wp:∀xs∈pt,xs.length=mv.length) (ht:t<=ps.length) (RR:bX (kry mv pt t) mv.length R ps):∃Pm Z d w,Vb ps.length mv.length Pm (b6 R) Z d (2^w)/\(ps.length < mv.length/\w=(mv.length - 1)*(a+c)\/ps.length=mv.length/\w=0):=by
 have le:=RR.le;rcases cb ps.length mv.length with z | z
 ·obtain ⟨M,V,M0,Ma,hV,fm,fp,_⟩:=F;have f:=Ld rfl wm wp hV fm fp t
  obtain ⟨Pm,Z,d,vb⟩:=Vb.of (ik rfl wp t) (bQ (n:=(mv.length - 1)*(a+c))) (kz M0 (n:=t)) (λxs hx x hx'=>Tp.of (f xs hx x hx') (by
   refine ai (bx _ (vf Ma t)) ?_;rw[<- DR,<- bC];refine ak (by decide) ?_;rw[<- yH,bV,mD c];exact aB _ (by lia))) RR
  exact ⟨Pm,Z,d,_,vb,.inl ⟨z,rfl⟩⟩
 ·have e:ps.length=mv.length:=by lia
  obtain ⟨Pm,Z,d,vb⟩:=Vb.of (W:=2^0) (M:=1) RR.2.1 (by decide) (by decide) (IZ λi hi c=>by
   rw[RR.1,e] at hi;rw[Mm RR e hi c]
   split
   ·exact ⟨1,by rw[Rat.one_mul];rfl,by decide⟩
   ·exact ⟨0,by rw[Rat.zero_mul];rfl,by decide⟩) (xG RR)
  exact ⟨Pm,Z,d,0,vb,.inr ⟨e,rfl⟩⟩
end
inductive AE (K:FG9) (vs:List V) (H:Hp) (Q:VK) (E9:XK):Prop
 | mk (p:Addr) (n S:Nat) (H0:Hp) (rows:LR9):vs=[.ref p,.int n]->bI K H0 H p rows->rows.length<=100->n<=100->(∀xs∈rows,xs.length=n)->Q5 rows n S->(∀r R ps H',H r=none->aG H H'->bI K H H' r R->bX rows n R ps->ps.length<=rows.length->Q (.ref r) H')->AE K vs H Q E9
section
variable {K:FG9} {a:Addr} {xs:List V} {g:TG} {tf:TT} {te:TE} {Q:VK} {σ₀:St} {H:Hp} {α β:Type}
theorem DD {as:List α} {F:Hp->α->V->Prop} (G:Hp->β->V->Prop) (f:α->β) (hx:H a=some (.lst xs)) (pf:Paired (F H) as xs) (hl:as.length<=1000)
  (hF:∀{H H' c x},F H c x->aG H H'->F H' c x) (hG:∀{H H' c x},G H c x->aG H H'->G H' c x) (hA:∀{H' c x},G H' c x->∃q,x=V.ref q/\H' q≠none)
  (hs:∀(i:Nat) c x H' NY NN,as[i]?=some c->aG H H'->F H' c x->(∀y H2,aG H' H2->G H2 (f c) y->(∃q,y=V.ref q/\H' q=none)->NY y H2)->qY σ₀ g tf te x H' NY NN)
  (hd:∀ys H' p,H p=none->aG H H'->H' p=some (.lst ys)->ys.Nodup->(∀y∈ys,∃q,y=V.ref q/\H q=none/\q≠p)->Paired (G H') (as.map f) ys->Q (.ref p) H'):rJ (LW K a) σ₀ g tf te Q H:=by
 have lx:=pf.length;refine eH (K:=K) (xs:=xs) (λi ys H'=>aG H H'/\ys.Nodup/\(∀y∈ys,∃q,y=V.ref q/\H q=none)/\Paired (G H') ((as.take i).map f) ys) (bg (bN (by lia))) ⟨aG.refl _,qF,(λ_ z=>nomatch z),.nil⟩ (λi ys H' _ ⟨s,_⟩=>bO.of (s _ _ hx)) ?_ ?_
 ·rintro i x ys H' hx' hlen ⟨s,nd,hn,pr⟩;obtain ⟨c,ec,hc⟩:=cL pf hx';refine hs i c x H' _ _ ec s (hF hc s) λy H2 s2 gy ⟨q,ey,nq⟩=>⟨s.trans s2,rZ nd (λz=>?_),ER hn ⟨q,ey,s.none nq⟩,?_⟩
  ·obtain ⟨c',_,gc⟩:=cF pr z;obtain ⟨q',e',h'⟩:=hA gc;rw[ey] at e';cases e';exact h' nq
  ·rw[take_snoc ec,cm];exact cM (Paired.imp' (λ_ _ z=>hG z s2) pr) (.cons gy .nil)
 ·rintro ys H' hy ⟨s,nd,hn,pr⟩ p hp;rw[aL (by lia)] at pr;refine hd ys _ p (s.none hp) (s.trans (aG.new hp)) aI nd (λy hy=>?_) (Paired.imp' (λ_ _ z=>hG z (aG.new hp)) pr);obtain ⟨q,e,nq⟩:=hn y hy;refine ⟨q,e,nq,λz=>?_⟩;obtain ⟨c',_,gc⟩:=cF pr hy;obtain ⟨q',e',h'⟩:=hA gc;rw[e] at e';cases e';exact h' (by rw[z];exact hp)
end
structure Q3 (K:FG9) (H0 H:Hp) (n:Nat) (fd:Addr) (L:List (Addr×List V)):Prop where
 gf:H fd=some (.lst (L.map λe=>V.ref e.1))
 nf:H0 fd=none
 ls:∀e∈L,H0 e.1=none/\e.1≠fd/\H e.1=some (.lst e.2)
 nd:(L.map λe=>e.1).Nodup
 rows:∀e∈L,∀x∈e.2,fv K (λq=>(H0 q=none/\q≠fd)/\q∉L.map λe=>e.1) H n (Fr 1 1) x
 rd:(L.flatMap λe=>e.2).Nodup
section
variable {K:FG9} {H0 H H1:Hp} {n:Nat} {fd q:Addr} {L:List (Addr×List V)} {us:List V}
theorem Q3.snoc (h:Q3 K H0 H n fd L) (s0:aG H0 H) (s:aG H H1) (hq:H q=none) (gq:H1 q=some (.lst us)) (nd:us.Nodup) (hr:∀x∈us,fv K (λz=>H z=none/\z≠q) H1 n (Fr 1 1) x):Q3 K H0 (upd H1 fd (.lst ((L.map λe=>V.ref e.1)++[.ref q]))) n fd (L++[(q,us)]):=by
 have qf:q≠fd:=λz=>by rw[z,h.gf] at hq;cases hq
 have old:∀{z},z∈(L.map λe=>e.1)->H z≠none:=λhz=>by
  obtain ⟨e,he,rfl⟩:=az.mp hz;rw[(h.ls e he).2.2];exact λz=>nomatch z
 have g1:=s _ _ h.gf;refine ⟨by rw[aI,cm];rfl,h.nf,λe he=>?_,?_,λe he x hx=>?_,?_⟩
 ·rcases ax.mp he with he | he
  ·obtain ⟨a,b,c⟩:=h.ls e he;exact ⟨a,b,by rw[bF b];exact s _ _ c⟩
  ·rw[cw.mp he];exact ⟨s0.none hq,qf,by rw[bF qf];exact gq⟩
 ·rw[cm];exact rZ h.nd λz=>old z hq
 ·have key:fv K (λz=>(H0 z=none/\z≠fd)/\z∉(L++[(q,us)]).map λe=>e.1) H1 n (Fr 1 1) x:=by
   rcases ax.mp he with he | he
   ·obtain ⟨z,qs,e1,⟨e2,e3⟩,e4,e5⟩:=h.rows e he x hx;refine ⟨z,qs,e1,⟨e2,λhz=>?_⟩,e4.same s,e5⟩;rw[cm] at hz;rcases ax.mp hz with hz | hz
    ·exact e3 hz
    ·have hz:z=q:=cw.mp hz;obtain ⟨_,gg,_⟩:=e4;rw[hz,hq] at gg;cases gg
   ·rw[cw.mp he] at hx;refine (hr x hx).weak (λz hz=>⟨⟨s0.none hz.1,λy=>by rw[y] at hz;rw[h.gf] at hz;exact absurd hz.1 (λw=>nomatch w)⟩,λy=>?_⟩) (λ_ w=>w);rw[cm] at y;rcases ax.mp y with y | y
    ·exact old y hz.1
    ·exact hz.2 (cw.mp y)
  exact key.other g1 (λz=>z.1.2 rfl)
 ·rw[List.flatMap_append];refine dB.mpr ⟨h.rd,by simpa using nd,λx hx y hy z=>?_⟩;obtain ⟨e,he,hx⟩:=List.mem_flatMap.mp hx;obtain ⟨w,qs,e1,_,⟨_,gg,_⟩,_⟩:=h.rows e he x hx;obtain ⟨w',_,e1',⟨hw,_⟩,_⟩:=hr y (by simpa using hy);rw[<- z,e1] at e1';cases e1';rw[hw] at gg;cases gg
end
def Gd (mv pt:LR9) (i:Nat) (R:LR9) (ps:List Nat):Prop:=bX (kry mv pt i) mv.length R ps/\∃t,t<=ps.length/\t<=i/\bX (kry mv pt t) mv.length R ps/\(t=i\/∀s,bX (kry mv pt (t+s)) mv.length R ps)
section
variable {mv pt R R':LR9} {i:Nat} {ps ps':List Nat}
theorem Gd.start:Gd mv pt 0 [] []:=⟨GX,0,au _,au _,GX,.inl rfl⟩
theorem Kv (wm:∀xs∈mv,xs.length=mv.length) (wp:∀xs∈pt,xs.length=mv.length) (h:bX (kry mv pt i) mv.length R ps) (h':bX (kry mv pt (i+1)) mv.length R' ps') (e:ps'.length=ps.length):∀s,bX (kry mv pt (i+s)) mv.length R ps:=Dw rfl wm wp h (FZ rfl wm wp h h') e
theorem Gd.step (wm:∀xs∈mv,xs.length=mv.length) (wp:∀xs∈pt,xs.length=mv.length) (h:Gd mv pt i R ps) (h':bX (kry mv pt (i+1)) mv.length R' ps'):Gd mv pt (i+1) R' ps'/\(mv.length<=i->R'=R):=by
 obtain ⟨h0,t,t1,t2,ht,hs⟩:=h
 have st:(∀s,bX (kry mv pt (t+s)) mv.length R ps)->Gd mv pt (i+1) R' ps'/\(mv.length<=i->R'=R):=λhs=>by
  have:=hs (i+1 - t);rw[show t+(i+1 - t)=i+1 by lia] at this;obtain ⟨rfl,rfl⟩:=this.same h';exact ⟨⟨h',t,t1,by lia,ht,.inr hs⟩,λ_=>rfl⟩
 rcases hs with rfl | hs
 ·have gr:=FY rfl wm wp h0 h';by_cases e:ps'.length=ps.length
  ·exact st (Kv wm wp h0 h' e)
  ·refine ⟨⟨h',t+1,by lia,au _,h',.inl rfl⟩,λhn=>?_⟩;have:=h'.le
   lia
 ·exact st hs
theorem Gd.late (h:Gd mv pt i R ps) (hi:mv.length < i) {j:Nat} (hj:mv.length<=j):bX (kry mv pt j) mv.length R ps:=by
 obtain ⟨h0,t,t1,t2,ht,hs⟩:=h;have le:=h0.le;rcases hs with rfl | hs
 ·lia
 ·have:=hs (j - t);rwa [show t+(j - t)=j by lia] at this
end
section
variable {rows R X K0:LR9} {due L:List Rat} {n m M W D E W0 W1:Nat} {ps:List Nat}
theorem LA {N Wx:Nat} {rs:List Nat} {vs:List jQ} (hl:vs.length<=N) (h:∀v∈vs,∀r∈rs,Fr 1 Wx (v r)):∃z:Int,tY rs vs=(z:Rat)/\z.natAbs<=(N*Wx)^rs.length:=by
 have f:=BN hl h;obtain ⟨z,ez⟩:=yg f;rw[ez] at f;exact ⟨z,ez,xk f⟩
end
def wZ (mv:LR9):Nat->List Rat->List Rat
 | 0,x=>x
 | t+1,x=>yI mv (wZ mv t x)
section
variable {mv pt lk pus:LR9} {st pu go:List Rat} {n t T c:Nat}
theorem ID (h:st.length=mv.length):∀t,(wZ mv t st).length=mv.length
 | 0=>h
 | _+1=>Bc
theorem K5 (D:ki mv pt lk) (h:st.length=mv.length) (hp:pu.length=pt.length) (hc:c < mv.length):(fV mv pt st pu).getD c 0=bL mv.length (λj=>b6 mv c j*st.getD j 0)+bL pt.length λi=>pu.getD i 0*b6 pt i c:=by
 have wc:=D.mw _ (aS hc)
 have e:(fV mv pt st pu).getD c 0=dh (mv[c]++pt.map λxs=>xs.getD c 0) (st++pu):=by
  unfold fV;rw[aa,cC,af hc,E8 hc];rfl
 rw[e,uO (by lia),fe (by lia),fe (by rw[ag];lia),wc,ag];congr 1
 ·refine aR λj _=>?_
  unfold b6;rw[aa (l:=mv),af hc];rfl
 ·refine aR λi hi=>?_
  rw[dS];congr 1;unfold b6;rw[aa,aF,aa (l:=pt),af hi];rfl
theorem EB:∀t,(kry mv pt t).length=t*pt.length
 | 0=>by rw[Nat.zero_mul];rfl
 | t+1=>by
  show (pt++(kry mv pt t).map (yI mv)).length=_
  rw[av,ag,EB t,mB,mD]
end
section
variable {K:FG9} {H0 H H':Hp} {l p q:Addr} {R:LR9} {v:V} {mv pt:LR9} {u T:Nat}
def Pd (mv pt:LR9) (u:Nat):List (LR9):=(List.range u).map λs=>pt.map (wZ mv s)
theorem Nq:Pd mv pt (u+1)=Pd mv pt u++[pt.map (wZ mv u)]:=by unfold Pd;rw[Cf,cm];rfl
theorem ET:∀u,(Pd mv pt u).flatten=kry mv pt u
 | 0=>rfl
 | u+1=>by
  have e:Pd mv pt (u+1)=pt :: (Pd mv pt u).map (List.map (yI mv)):=by
   unfold Pd;rw[List.range_succ_eq_map,ib,vU];congr 1
   ·exact jc pt
   ·rw[vU];refine vg λs _=>?_
    show pt.map (wZ mv (s+1))=(pt.map (wZ mv s)).map (yI mv)
    rw[vU];rfl
  rw[e,h6,<- List.map_flatten,ET u];rfl
end
section
variable {mv pt lk rows R N Hd:LR9} {st pr go:List Rat} {n r t T a c W B:Nat} {ps psd:List Nat} {Pm Y Z:Nat->Nat->Rat} {d:Rat}
theorem Vb.tp (V:Vb r n Pm Y Z d W) (r15:r<=15) (w1:1<=W):∃q:Nat,0 < q/\q<=(16*W)^r/\∀s,s < r->∀c,c < n->Tp q ((16*W)^r) (Y s c):=by
 have rlt:∀i∈yT (λi=>i) r,i < r:=λi hi=>by
  obtain ⟨t,ht,e⟩:=qI hi;have e:i=t:=e
  lia
 obtain ⟨q,eq,bq⟩:=LA (N:=16) (Wx:=W) (rs:=yT (λi=>i) r) (vs:=sU (λj i=>Pm i j) r) (by rw[cw_len];lia) λw hw i hi=>by
  obtain ⟨s,hs,rfl⟩:=cw_in hw;exact V.pf i (rlt i hi) s hs
 rw[ug] at bq;rw[<- V.det] at eq;have q0:q≠0:=λz=>V.d0 (by rw[eq,z];rfl)
 refine ⟨q.natAbs,by lia,bq,λs hs c hc=>?_⟩
 have cr:=DA (rs:=yT (λi=>i) r) (v:=λj i=>Pm i j) (c:=λj=>Y j c) (W:=λi=>Z i c) hs (λi hi=>by
  rw[V.eq i (rlt i hi) c hc];exact aR λj _=>dS _ _)
 obtain ⟨z,ez,bz⟩:=LA (N:=16) (Wx:=W) (rs:=yT (λi=>i) r) (vs:=J8 (λj i=>Pm i j) s r++(λi=>Z i c) :: sU (λj i=>Pm i j) s) (by
  have:=congrArg List.length (cw_split (v:=λj i=>Pm i j) hs);rw[av,bD,cw_len] at this;rw[av,bD]
  lia) λw hw i hi=>by
   rcases ax.mp hw with hw | hw
   ·obtain ⟨s',hs',rfl⟩:=Gg hw;exact V.pf i (rlt i hi) s' hs'
   ·rcases aE.mp hw with rfl | hw
    ·exact V.zf i (rlt i hi) c hc
    ·obtain ⟨s',hs',rfl⟩:=cw_in hw;exact V.pf i (rlt i hi) s' (by lia)
 rw[ug] at bz;rw[ez,<- V.det,eq] at cr;have key:Y s c*(q:Rat)=(z:Rat):=cr.symm;rcases GB q with h | h
 ·have hq:((q.natAbs:Nat):Rat)=(q:Rat):=by rw[<- bw,<- h]
  exact ⟨z,by rw[hq,key],bz⟩
 ·have hq:((q.natAbs:Nat):Rat)=-(q:Rat):=by rw[<- bw,<- di];congr 1;lia
  exact ⟨-z,by rw[hq,di,<- key];grind,by rw[qG];exact bz⟩
theorem Lp (F:mN mv pt a c) (D8:mv.length<=8) (wm:∀xs∈mv,xs.length=mv.length) (wp:∀xs∈pt,xs.length=mv.length):∀T,∃R ps,Gd mv pt T R ps:=by
 intro T
 induction T with
 | zero=>exact ⟨_,_,Gd.start⟩
 | succ T ih =>
  obtain ⟨R,ps,G⟩:=ih;obtain ⟨RR,t,t1,t2,RRt,hs⟩:=id G;have le:=RR.le
  obtain ⟨R',ps',d,ls,S⟩:=Dk (n:=mv.length) (rows:=pt++R.map (yI mv)) (λxs hx=>by
   rcases ax.mp hx with hx | hx
   ·exact wp xs hx
   ·obtain ⟨y,_,rfl⟩:=az.mp hx;exact Bc) (F.step D8 wm wp (t:=t) (by lia) RRt)
  have RR':=yd rfl wm wp RR S.rr;exact ⟨R',ps',(G.step wm wp RR').1⟩
theorem Qz (F:mN mv pt a c) (D8:mv.length<=8) (wm:∀xs∈mv,xs.length=mv.length) (wp:∀xs∈pt,xs.length=mv.length) (RR:bX (kry mv pt T) mv.length R ps):Gd mv pt T R ps:=by
 obtain ⟨R',ps',G⟩:=Lp F D8 wm wp T;obtain ⟨rfl,rfl⟩:=RR.same G.1;exact G
theorem mN.rtp (F:mN mv pt a c) (D8:mv.length<=8) (wm:∀xs∈mv,xs.length=mv.length) (wp:∀xs∈pt,xs.length=mv.length) (RR:bX (kry mv pt T) mv.length R ps):∃q,0 < q/\q<=2^(ps.length*((mv.length - 1)*(a+c)+4))/\∀xs∈R,∀x∈xs,Tp q (2^(ps.length*((mv.length - 1)*(a+c)+4))) x:=by
 obtain ⟨_,t,t1,_,RRt,_⟩:=Qz F D8 wm wp RR;obtain ⟨Pm,Z,d,w,vb,hw⟩:=F.vb wm wp t1 RRt;have le:=RR.le;obtain ⟨q,q0,q1,q2⟩:=vb.tp (by lia) bQ
 have up:(16*2^w)^ps.length<=2^(ps.length*((mv.length - 1)*(a+c)+4)):=by
  have e:(16*2^w)^ps.length=2^(ps.length*(w+4)):=by rw[show (16:Nat)=2^4 from rfl,<- bC,<- DR,bV ps.length,mD w]
  rw[e];refine ak (by decide) (bx _ ?_);rcases hw with ⟨_,rfl⟩ | ⟨_,rfl⟩ <;> lia
 refine ⟨q,q0,ai q1 up,IZ λi hi e=>?_⟩;by_cases he:e < mv.length
 ·exact (q2 i (by rw[<- RR.1];exact hi) e he).mono up
 ·rw[BM RR.2.1 (by lia)];exact Tp.zero
theorem Jz {M:Nat} (hw:∀xs∈N,xs.length=n) (hW:1<=W) (h0:0 < M) (h3:∀xs∈N,∀x∈xs,Tp M W x) (f:Nat->Nat) (hf:∀i,i < N.length->b6 N i (f i)≠0/\∀j,j < N.length->j≠i->b6 N j (f i)=0) (hn:∀i,i < N.length->f i < n) (RR:bX N n Hd psd):psd.length=N.length:=by
 have ent:=Kg h0 h3;obtain ⟨ls,ps2,d,I⟩:=yO hw hW (by rw[ag];exact ent) n (au _);obtain ⟨_,_,⟨pm,B⟩,E⟩:=I;rw[ag] at B E
 have RF:DQ N.length n (b6 N) ps2.length (λj=>ps2.getD j 0) (λi c=>dO ls i c / d):=DQ.other (E.done λi hi c hc=>xl (n:=n) (λzs hz=>by
  obtain ⟨xs,hx,rfl⟩:=az.mp hz;rw[qX];exact hw xs hx) hc) z6 z7
 obtain ⟨e1,_,_⟩:=RF.uniq RR.2.2 (λ_ hi=>dW.row hi) (λ_ hi=>dW.row hi);rw[<- e1];have km:=B.km;rcases cb ps2.length N.length with z | z
 ·exfalso
  have hk:=B.rng ps2.length z;obtain ⟨f1,f2⟩:=hf _ hk
  have low:∀i,i < ps2.length->dO (N.map h7) (pm i) (f (pm ps2.length))=0:=λi hi=>by
   rw[zy (B.rng i (by lia)),f2 _ (B.rng i (by lia)) (λe=>by have:=B.inj i ps2.length (by lia) z e;lia),gY]
  have lz:∀j,j < ps2.length->dO ls j (f (pm ps2.length))=0:=λj hj=>by
   rw[B.old hj]
   exact EI (λr hr=>by
    obtain ⟨t,ht,rfl⟩:=qI hr;exact low t ht) _ _
  have:=B.eqs ps2.length z (f (pm ps2.length));rw[if_neg (dP _),E.zero ps2.length (au _) z _ (hn _ hk),cZ λj hj=>by rw[lz j hj,gY],zy hk] at this;have bne:=yq (rows:=N) (i:=pm ps2.length);have d0:=B.d0;rcases LZ.mp (this.trans (by grind)) with q | q
  ·exact d0 q
  ·rcases LZ.mp q with q | q
   ·exact bne q
   ·exact f1 q
 ·lia
theorem O6 (h1:∀i j,i < j->j < ps.length->ps.getD i 0 < ps.getD j 0) (h2:∀j,j < ps.length->ps.getD j 0 < n):(gR ps n).length+ps.length=n:=by
 have key:∀i,∃k,k<=ps.length/\(gR ps i).length+k=i/\(∀j,j < k->ps.getD j 0 < i)/\∀j,k<=j->j < ps.length->i<=ps.getD j 0:=by
  intro i
  induction i with
  | zero=>exact ⟨0,bo _,rfl,λj hj=>absurd hj (fg _),λj _ _=>bo _⟩
  | succ i ih =>
   obtain ⟨k,k1,k2,k3,k4⟩:=ih;rw[BL];by_cases hk:k < ps.length/\ps.getD k 0=i
   ·have hm:i∈ps:=by rw[<- hk.2];exact getD_in hk.1
    rw[if_neg (λz=>z hm)];refine ⟨k+1,hk.1,by lia,λj hj=>?_,λj hj hl=>?_⟩
    ·rcases cb j k with z | z
     ·have:=k3 j z;lia
     ·rw[show j=k by lia,hk.2];lia
    ·have:=h1 k j (by lia) hl
     lia
   ·have hm:i∉ps:=λz=>by
     obtain ⟨j,hj,ej⟩:=bR z;have ej':ps.getD j 0=i:=by rw[aa,af hj];exact ej
     rcases cb j k with y | y
     ·have:=k3 j y;lia
     ·rcases cb k j with x | x
      ·have:=h1 k j x hj;have:=k4 k (au _) (by lia)
       lia
      ·exact hk ⟨by lia,by rw[show k=j by lia];exact ej'⟩
    rw[if_pos hm];refine ⟨k,k1,by rw[av,be];lia,λj hj=>by have:=k3 j hj;lia,λj hj hl=>?_⟩;have:=k4 j hj hl;rcases cb i (ps.getD j 0) with y | y
    ·exact y
    ·exact absurd (by rw[show i=ps.getD j 0 by lia];exact getD_in hl) hm
 obtain ⟨k,k1,k2,k3,k4⟩:=key n;rcases cb k ps.length with z | z
 ·have:=k4 k (au _) z;have:=h2 k z
  lia
 ·lia
theorem m6:∀xs∈aH R ps n,xs.length=n:=λxs hx=>by
 obtain ⟨_,_,_,rfl⟩:=rj hx;exact qK
theorem y4 (RR:bX rows n R ps):(aH R ps n).length+ps.length=n:=by
 unfold aH;rw[ag];exact O6 RR.2.2.inc RR.2.2.low
theorem Hw {M:Nat} (RR:bX rows n R ps) (hW:1<=W) (h0:0 < M) (h3:∀xs∈aH R ps n,∀x∈xs,Tp M W x) (RN:bX (aH R ps n) n Hd psd):psd.length+ps.length=n:=by
 have fn:∀i,i < (aH R ps n).length->∀c,c < n->c∉ps->b6 (aH R ps n) i c=if c=(gR ps n).getD i 0 then 1 else 0:=λi hi c hc hp=>by
  unfold aH at hi ⊢;rw[ag] at hi;unfold b6;rw[aa (l:=List.map _ _),aF,af hi];show (HH R ps n (gR ps n)[i]).getD c 0=_
  rw[Ae hc hp,aa,af hi];rfl
 have fm:∀i,i < (aH R ps n).length->(gR ps n).getD i 0 < n/\(gR ps n).getD i 0∉ps:=λi hi=>by
  unfold aH at hi;rw[ag] at hi;exact sI.mp (getD_in hi)
 have nd:(gR ps n).Nodup:=by
  unfold gR;exact GH E4 Ka
 rw[Jz m6 hW h0 h3 (λi=>(gR ps n).getD i 0) (λi hi=>⟨?_,λj hj ne=>?_⟩) (λi hi=>(fm i hi).1) RN,y4 RR]
 ·rw[fn i hi _ (fm i hi).1 (fm i hi).2,if_pos rfl];decide
 ·rw[fn j hj _ (fm i hi).1 (fm i hi).2,if_neg λz=>ne ?_];unfold aH at hi hj;rw[ag] at hi hj;rw[aa,aa,af hi,af hj] at z;have z:(gR ps n)[i]=(gR ps n)[j]:=z;have pw:=xu.mp nd;rcases dU i j with y | y | y
  ·exact absurd z (pw i j hi hj y)
  ·exact y.symm
  ·exact absurd z.symm (pw j i hj hi y)
end
structure QL (mv pt:LR9) (st pu:List Rat):Prop where
 f2:∀xs∈mv,Ca xs st
 part:∀kk,∀x∈nextK mv pt st pu kk,mV x
 su:∀u∈pu,mV u
 sp:∀row∈pt,∀y∈row,mV y
 mul:∀u∈pu,∀row∈pt,∀y∈row,mV (u*y)
inductive Fm (K:FG9) (vs:List V) (H:Hp) (Q:VK) (E9:XK):Prop
 | mk (r s u:Addr) (H0:Hp) (mv pt lk:LR9) (st pu:List Rat):vs=[.ref r,.ref s,.ref u]->fH K H0 H r mv pt lk->ki mv pt lk->cX K H s st->cX K H u pu->st.length=mv.length->pu.length=pt.length->QL mv pt st pu->(∀t H',H t=none->aG H H'->cX K H' t (fV mv pt st pu)->Q (.ref t) H')->Fm K vs H Q E9
structure Bd (mv pt:LR9) (M1 M2 V a1 a2 c:Nat):Prop where
 m1:0 < M1
 m2:0 < M2
 b1:M1<=2^a1
 b2:M2<=2^a2
 gm:GF M1 V mv
 gp:GF M2 V pt
 vc:(mv.length+4)*V<=2^c
section
variable {mv pt lk pus:LR9} {st pu go:List Rat} {M1 M2 V a1 a2 c N Np p t T ν:Nat}
theorem Bd.v1 (B:Bd mv pt M1 M2 V a1 a2 c):V<=2^c:=ai (cH _ (by lia)) B.vc
theorem zb {M W:Nat} {x:Rat} (h0:0 < M) {a b:Nat} (h1:M<=2^a) (h2:W<=2^b) (hab:a+b<=3990) (h:Fr M W x):mV x:=by
 refine wW (Tp.of h (au _)) h0 (ai h1 (ak (by decide) (by lia))) ?_;refine ai (aN h2 h1) ?_;rw[<- bC];exact ak (by decide) (by lia)
theorem Bd.next (B:Bd mv pt M1 M2 V a1 a2 c) (D:ki mv pt lk) (ls:st.length=mv.length) (lu:pu.length=pt.length) (N0:0 < N) (dv:M2*Np∣M1*N) (hs:∀x∈st,Fr N (2^p) x) (hu:∀x∈pu,Fr Np (2^p) x) (hN:N<=2^ν) (sz:a1+ν+c+p<=3900) (sp2:a2+c<=3900):QL mv pt st pu/\∀x∈fV mv pt st pu,Fr (M1*N) (2^(c+p)) x:=by
 have V1:=B.v1;have i4:=D.i4;have MN0:0 < M1*N:=cp B.m1 N0;have MN:M1*N<=2^(a1+ν):=by rw[bC];exact aN B.b1 hN
 have Np0:0 < Np:=by
  rcases oB Np with z | z
  ·rw[z,As] at dv;have:=Nat.eq_zero_of_zero_dvd dv
   lia
  ·exact z
 have NpMN:Np<=M1*N:=ai (cH _ B.m2) (ia MN0 dv)
 have one:∀u∈pu,∀row∈pt,∀y∈row,Fr (M1*N) (V*2^p) (u*y):=λu hu' row hr y hy=>by
  have:=(B.gp row hr y hy).mul (hu u hu');rw[dS];exact this.dvd dv
 have part:∀kk,kk<=pt.length->∀x∈nextK mv pt st pu kk,Fr (M1*N) (2^(c+p)) x:=λkk hkk x hx=>by
  obtain ⟨j,hj,e⟩:=bR hx;rw[jL] at hj;have e2:=Bo (mv:=mv) (pt:=pt) (st:=st) (pu:=pu) (k:=kk) hj;rw[aa,af (by rw[jL];exact hj)] at e2;have e3:x=dh (mv[j]++(pt.map λxs=>xs.getD j 0).take kk) (st++pu.take kk):=by rw[<- e,<- e2];rfl
  have wj:=D.mw _ (aS hj);rw[e3,uO (by lia)];have f1:=Fr.dot (B.gm _ (aS hj)) hs;rw[wj] at f1
  have f2:Fr (M1*N) (4*(V*2^p)) (dh ((pt.map λxs=>xs.getD j 0).take kk) (pu.take kk)):=by
   have hc:∀y∈(pt.map λxs=>xs.getD j 0).take kk,Fr M2 V y:=λy hy=>by
    obtain ⟨xs,hxs,rfl⟩:=az.mp (cI hy);rw[aa];cases e:xs[j]? with
    | none=>exact Fr.zero
    | some z=>exact B.gp xs hxs z (ar e)
   have:=Fr.dot (ys:=pu.take kk) hc (λy hy=>hu y (cI hy));refine (this.dvd dv).mono (aB _ ?_);rw[dq,ag]
   lia
  refine (f1.add f2).mono ?_;rw[<- yH,bC,<- cE];exact aB _ B.vc
 have szb:∀{x:Rat},Fr (M1*N) (2^(c+p)) x->mV x:=λh=>zb MN0 MN (au _) (by lia) h
 have all:∀kk,∀x∈nextK mv pt st pu kk,Fr (M1*N) (2^(c+p)) x:=λkk x hx=>by
  rcases cb pt.length kk with z | z
  ·have e:nextK mv pt st pu kk=nextK mv pt st pu pt.length:=(vp (by lia) (by lia)).trans (vp (au _) (by lia)).symm;rw[e] at hx;exact part _ (au _) x hx
  ·exact part kk z x hx
 refine ⟨⟨λxs hx=>⟨a1,c,ν,p,⟨M1,V,B.m1,B.b1,V1,B.gm xs hx⟩,⟨N,2^p,N0,hN,au _,hs⟩,by lia⟩,λkk x hx=>szb (all kk x hx),λu hu'=>?_,λrow hr y hy=>?_,λu hu' row hr y hy=>szb ((one u hu' row hr y hy).mono (by rw[bC];exact aB _ V1))⟩,λx hx=>?_⟩
 ·exact zb Np0 (ai NpMN MN) (au _) (by lia) (hu u hu')
 ·exact zb B.m2 B.b2 V1 (by lia) (B.gp row hr y hy)
 ·rw[<- vp (k:=pt.length) (au _) (by lia)] at hx;exact all _ x hx
end
section
variable {mv pt lk pus:LR9} {st pu go:List Rat} {M1 M2 V a1 a2 c N Np p t T ν k:Nat}
def RJ (mv pt pus:LR9) (st:List Rat):Prop:=∃M1 M2 V a1 a2 c N Np p ν,Bd mv pt M1 M2 V a1 a2 c/\0 < N/\N<=2^ν/\M2*Np∣N/\(∀x∈st,Fr N (2^p) x)/\(∀xs∈pus,∀x∈xs,Fr Np (2^p) x)/\a1*(pus.length+1)+ν+c*(pus.length+1)+p<=3900/\a2+c<=3900
theorem jZ {M a t N ν:Nat} (h:M<=2^a) (hN:N<=2^ν):M^t*N<=2^(a*t+ν):=by
 rw[bC,DR];exact aN (vf h t) hN
theorem Bd.states (B:Bd mv pt M1 M2 V a1 a2 c) (D:ki mv pt lk) (ls:st.length=mv.length) (wp:∀xs∈pus,xs.length=pt.length) (N0:0 < N) (hN:N<=2^ν) (dv:M2*Np∣N) (hs:∀x∈st,Fr N (2^p) x) (hu:∀xs∈pus,∀x∈xs,Fr Np (2^p) x) (sz:a1*(pus.length+1)+ν+c*(pus.length+1)+p<=3900) (sp2:a2+c<=3900):∀k,k<=pus.length->(∀x∈Cj mv pt st pus k,Fr (M1^k*N) (2^(c*k+p)) x)/\∀pu,pus[k]?=some pu->QL mv pt (Cj mv pt st pus k) pu:=by
 have key:∀k,k<=pus.length->(∀x∈Cj mv pt st pus k,Fr (M1^k*N) (2^(c*k+p)) x)->∀pu,pus[k]?=some pu->QL mv pt (Cj mv pt st pus k) pu/\∀x∈fV mv pt (Cj mv pt st pus k) pu,Fr (M1*(M1^k*N)) (2^(c+(c*k+p))) x:=λk hk f pu hpu=>by
  have mp:=ar hpu;have kl:=(aD.mp hpu).1;have e1:a1*(k+1)<=a1*(pus.length+1):=bx _ (by lia);have e2:c*(k+1)<=c*(pus.length+1):=bx _ (by lia);rw[dA,oW] at e1 e2;refine B.next D (D3 ls hk) (wp pu mp) (cp (kz B.m1) N0) ?_ f (λx hx=>(hu pu mp x hx).mono (ak (by decide) (Nat.le_add_left _ _))) (jZ B.b1 hN) (by lia) sp2;exact GA dv (GA (iY _ _) (iY _ _))
 have fr:∀k,k<=pus.length->∀x∈Cj mv pt st pus k,Fr (M1^k*N) (2^(c*k+p)) x:=by
  intro k
  induction k with
  | zero =>
   intro _ x hx;rw[Nat.pow_zero,tW,As,Ar];exact hs x hx
  | succ k ih =>
   intro hk x hx;have e:=af (show k < pus.length by lia);rw[xA e] at hx;have:=(key k (by lia) (ih (by lia)) _ e).2 x hx;rw[<- cE,bV M1,<- gZ,show c+(c*k+p)=c*(k+1)+p by rw[dA];lia] at this;exact this
 exact λk hk=>⟨fr k hk,λpu hpu=>(key k hk (fr k hk) pu hpu).1⟩
theorem RJ.nx (h:RJ mv pt pus st) (D:ki mv pt lk) (ls:st.length=mv.length) (wp:∀xs∈pus,xs.length=pt.length) (hk:k<=pus.length) (hpu:pus[k]?=some pu):QL mv pt (Cj mv pt st pus k) pu:=by
 obtain ⟨M1,M2,V,a1,a2,c,N,Np,p,ν,B,N0,hN,dv,hs,hu,sz,sp2⟩:=h;exact (B.states D ls wp N0 hN dv hs hu sz sp2 k hk).2 pu hpu
def RK (mv:LR9) (st:List Rat) (T:Nat):Prop:=∃M1 V a1 c N p ν,0 < M1/\M1<=2^a1/\GF M1 V mv/\(mv.length+4)*V<=2^c/\0 < N/\N<=2^ν/\(∀x∈st,Fr N (2^p) x)/\a1*(T+1)+ν+c*(T+1)+p<=3900
theorem OM (gm:GF M1 V mv) (wm:∀xs∈mv,xs.length=mv.length) (vc:(mv.length+4)*V<=2^c) (ls:st.length=mv.length) (hs:∀x∈st,Fr N (2^p) x):∀t,∀x∈wZ mv t st,Fr (M1^t*N) (2^(c*t+p)) x:=by
 intro t
 induction t with
 | zero =>
  intro x hx;rw[Nat.pow_zero,tW,As,Ar];exact hs x hx
 | succ t ih =>
  intro x hx;obtain ⟨row,hr,rfl⟩:=az.mp (show x∈mv.map λxs=>dh xs (wZ mv t st) from hx);have f:=Fr.dot (gm row hr) ih;rw[<- cE,bV M1,<- gZ] at f;refine f.mono ?_;rw[wm row hr,<- cE,show c*(t+1)+p=c+(c*t+p) by rw[dA];lia,bC 2 c];exact aB _ (ai (aB V (show mv.length<=mv.length+4 by lia)) vc)
theorem RK.fit (h:RK mv st T) (wm:∀xs∈mv,xs.length=mv.length) (ls:st.length=mv.length) (ht:t<=T):(∀xs∈mv,Ca xs (wZ mv t st))/\∀x∈wZ mv t st,mV x:=by
 obtain ⟨M1,V,a1,c,N,p,ν,m0,m1,gm,vc,N0,hN,hs,sz⟩:=h;have f:=OM gm wm vc ls hs t;have V1:V<=2^c:=ai (cH _ (by lia)) vc;have e1:a1*t<=a1*T:=bx _ ht;have e2:c*t<=c*T:=bx _ ht;rw[dA,dA,oW,oW] at sz;exact ⟨λxs hx=>⟨a1,c,a1*t+ν,c*t+p,⟨M1,V,m0,m1,V1,gm xs hx⟩,⟨M1^t*N,2^(c*t+p),cp (kz m0) N0,jZ m1 hN,au _,f⟩,by lia⟩,λx hx=>zb (cp (kz m0) N0) (jZ m1 hN) (au _) (by lia) (f x hx)⟩
def Q6 (mv pt:LR9) (T:Nat):Prop:=∃M1 M2 V a1 a2 c,Bd mv pt M1 M2 V a1 a2 c/\a1*(T+1)+a2+c*(T+2)<=3900
theorem Q6.row (h:Q6 mv pt T) (wm:∀xs∈mv,xs.length=mv.length) (wp:∀xs∈pt,xs.length=mv.length):∀xs∈pt,RK mv xs T:=λxs hx=>by
 obtain ⟨M1,M2,V,a1,a2,c,B,sz⟩:=h;refine ⟨M1,V,a1,c,M2,c,a2,B.m1,B.b1,B.gm,B.vc,B.m2,B.b2,λx hx'=>(B.gp xs hx x hx').mono B.v1,?_⟩;rw[dA c T 2] at sz;rw[dA c T 1]
 lia
end
inductive Di (K:FG9) (vs:List V) (H:Hp) (Q:VK) (E9:XK):Prop
 | mk (r:Addr) (T:Nat) (H0:Hp) (mv pt lk:LR9):vs=[.ref r,.int T]->T<=20->fH K H0 H r mv pt lk->ki mv pt lk->Q6 mv pt T->(∀q H',H q=none->aG H H'->bI K H H' q (kry mv pt T)->Q (.ref q) H')->Di K vs H Q E9
section
variable {X:Cx}
theorem JX (hc:X.calm=true):oV X (.builtin "max") (λxs H Q=>∃(p:Addr) (ns:List Int),xs=[.ref p]/\bO X.K H p (ns.map V.int)/\0 < ns.length/\∀M,M∈ns->(∀a,a∈ns->a<=M)->Q (.int M) H):=by
 intro pins s σ H xs us Q I r h;obtain ⟨p,ns,rfl,hp,hne,q⟩:=h;obtain ⟨u,rfl,ru⟩:=vals1 r;cases ru;obtain ⟨its,r2,pl,_⟩:=I.list hp;have hi:=intsAre_of r2;have hl:=pl.isList;obtain ⟨xs,e⟩:=hi.allInts.items
 have hns:ns=xs.toList.map (·.1):=by
  rw[<- hi.numsOf,<- nums_intItems,<- e]
 have hsz:0 < xs.size:=by
  have h3:=hne;rw[hns,ag,Array.length_toList] at h3;exact h3
 rw[e] at hl;refine max_intList (I.ok.hd hc) hl hsz λv h' tk hv hk=>?_
 obtain ⟨t,rfl⟩:=intItems_at hv;obtain ⟨h1,h2⟩:=argBest_gt (numAt xs) (xs.size - 1);refine ⟨.int _,H,I.kept hk,⟨_,rfl⟩,q _ ?_ λa ha=>?_⟩
 ·rw[hns,numAt_eq];exact getD_in (by rw[ag,Array.length_toList];lia)
 ·rw[hns] at ha;obtain ⟨j,hj,rfl⟩:=mem_getD ha;rw[ag,Array.length_toList] at hj;rw[<- numAt_eq];exact h2 j (by lia)
end
theorem Dl {α β:Type} {f:α->β}:∀{l1:List α} {l2:List β},Paired (λa b=>b=f a) l1 l2->l2=l1.map f
 | _,_,.nil=>rfl
 | _,_,.cons h r=>by rw[h,Dl r];rfl
def StP (mv pt:LR9) (T:Nat):Prop:=T<=12/\(T<=3\/((∀xs∈mv++pt,∀x∈xs,x.den<=9/\x.num.natAbs < 1000)/\(5 < mv.length->T<=mv.length)/\(3<=mv.length->mv.length<=5->T<=mv.length+1)))
def Pq (x:Rat):Int:=(x.den:Int)+(x.num.natAbs:Int) / 1000*9
theorem Ni {x:Rat} (h:Pq x<=9):x.den<=9/\x.num.natAbs < 1000:=by
 unfold Pq at h;have:=x.den_pos
 lia
inductive CS (K:FG9) (vs:List V) (H:Hp) (Q:VK) (E9:XK):Prop
 | mk (b r:Addr) (H0:Hp) (mv pt lk:LR9):vs=[.ref b,.ref r]->iV H b->H0 b≠none->fH K H0 H r mv pt lk->ki mv pt lk->(∀xs∈mv++pt,∀x∈xs,mV x)->(∀(T:Nat) H',StP mv pt T->iV H' b->cO b H H'->Q (.int T) H')->CS K vs H Q E9
inductive Fj (K:FG9) (vs:List V) (H:Hp) (Q:VK) (E9:XK):Prop
 | mk (b r:Addr) (T w:Nat) (H0:Hp) (mv pt lk:LR9):vs=[.ref b,.ref r,.int T,.int w]->T<=100->1<=w->w<=1000->iV H b->H0 b≠none->fH K H0 H r mv pt lk->ki mv pt lk->(∀p pus H',H p=none->bI K H H' p pus->pus.length=T->(∀xs∈pus,xs.length=pt.length/\∀x∈xs,Dr (max w 6) x)->iV H' b->cO b H H'->Q (.ref p) H')->Fj K vs H Q E9
theorem K3 (ws vs:List V) (M1 M2 M3:Nat):∃μ:V->Nat,(∀x∈ws,μ x=M2)/\(∀x∈vs,x∉ws->μ x=M3)/\(∀x,x∉ws->x∉vs->μ x=M1)/\∀x,μ x=M1\/μ x=M2\/μ x=M3:=by
 classical
 refine ⟨λx=>if x∈ws then M2 else if x∈vs then M3 else M1,λx h=>if_pos h,λx h h'=>?_,λx h h'=>?_,λx=>?_⟩
 ·show (if x∈ws then M2 else if x∈vs then M3 else M1)=M3
  rw[if_neg h',if_pos h]
 ·show (if x∈ws then M2 else if x∈vs then M3 else M1)=M1
  rw[if_neg h,if_neg h']
 ·show (if x∈ws then M2 else if x∈vs then M3 else M1)=M1\/(if x∈ws then M2 else if x∈vs then M3 else M1)=M2\/(if x∈ws then M2 else if x∈vs then M3 else M1)=M3
  by_cases h:x∈ws
  ·rw[if_pos h];exact .inr (.inl rfl)
  ·rw[if_neg h];by_cases h':x∈vs
   ·rw[if_pos h'];exact .inr (.inr rfl)
   ·rw[if_neg h'];exact .inl rfl
theorem ko.apart {K:FG9} {A:Addr->Prop} {H:Hp} {n:Nat} {C:V->Rat->Prop} {m p l b q0:Addr} {us ws vs:List V} (h:ko K A H n C m p l b q0 us ws vs):(∀x∈us,x∉ws/\x∉vs)/\∀x∈vs,x∉ws:=by
 obtain ⟨n1,n2,n3⟩:=dB.mp h.nd;obtain ⟨n4,n5,n6⟩:=dB.mp n1;exact ⟨λx hx=>⟨λz=>n3 x (ax.mpr (.inl hx)) x z rfl,λz=>n6 x hx x z rfl⟩,λx hx z=>n3 x (ax.mpr (.inr hx)) x z rfl⟩
theorem ko.fr3 {K:FG9} {A:Addr->Prop} {H:Hp} {n c:Nat} {m p l b q0:Addr} {us ws vs:List V} (h:ko K A H n (λ_=>Dr (2^c)) m p l b q0 us ws vs):∃M1 M2 M3,0 < M1/\0 < M2/\0 < M3/\M1<=2^(c*(n*n))/\M2<=2^(c*(ws.length*n))/\M3<=2^(c*(vs.length*n))/\(∀x∈us,fv K A H n (Fr M1 (2^c)) x)/\(∀x∈ws,fv K A H n (Fr M2 (2^c)) x)/\∀x∈vs,fv K A H n (Fr M3 (2^c)) x:=by
 have one:∀l:List V,(∀x∈l,x∈us++vs++ws)->∃M,0 < M/\M<=2^(c*(l.length*n))/\∀x∈l,fv K A H n (Fr M (2^c)) x:=λl hl=>by
  obtain ⟨ra,pa,la,ha⟩:=AO λx hx=>h.row x (hl x hx)
  obtain ⟨M,m0,m1,m2⟩:=Mn (c:=c) (n:=n) (rows:=ra) ha;exact ⟨M,m0,by rw[la] at m1;exact m1,GY pa λqs hq=>⟨(ha qs hq).1,m2 qs hq⟩⟩
 obtain ⟨M1,a1,a2,a3⟩:=one us λx hx=>by simp [hx]
 obtain ⟨M2,b1,b2,b3⟩:=one ws λx hx=>by simp [hx]
 obtain ⟨M3,c1,c2,c3⟩:=one vs λx hx=>by simp [hx]
 rw[h.lm] at a2;exact ⟨M1,M2,M3,a1,b1,c1,a2,b2,c2,a3,b3,c3⟩
inductive Dc (K:FG9) (xs:List V) (H:Hp) (Q:VK) (E9:XK):Prop
 | mk (b m p l q0:Addr) (n V1:Nat) (μ:V->Nat) (A:Addr->Prop) (us ws vs:List V):xs=[.ref b,.ref m,.ref p,.ref l]->Gx A m p l b q0->ko K A H n (λx=>Fr (μ x) V1) m p l b q0 us ws vs->n<=8->ws.length<=4->vs.length<=4->(∀x,0 < μ x)->(∀x,μ x<=2^800)->(∃M,∀x,x∉ws->x∉vs->μ x=M)->V1<=2^20->(∀q,H q=none->A q)->(∀r us' H',H' r=some (.tup [.ref m,.ref p,.ref l])->ko K A H' n (λx=>Fr (μ x) (9^3*V1)) m p l b q0 us' ws vs->iX A b m H H'->Q (.ref r) H')->Dc K xs H Q E9
def RH (n i o w c:Nat) (mv pt lk:LR9):Prop:=∃M1 M2 M3 V1:Nat,0 < M1/\0 < M2/\0 < M3/\GF M1 V1 mv/\GF M2 V1 pt/\GF M3 V1 lk/\((w<=9/\M1=2520/\M2=2520/\M3=2520/\V1=9^3*9)\/(9 < w/\M1<=2^(c*(n*n))/\M2<=2^(c*(i*n))/\M3<=2^(c*(o*n))/\V1=9^3*2^c))
inductive CV (K:FG9) (vs:List V) (H:Hp) (Q:VK) (E9:XK):Prop
 | mk (b:Addr) (n i o w c:Nat):vs=[.ref b,.int n,.int i,.int o,.int w]->iV H b->n<=8->i<=4->o<=4->1<=w->w<=1000000->max w 6<=2^c->c<=20->c*((n+i+o)*n)<=800->(∀r mv pt lk H',fH K H H' r mv pt lk->mv.length=n->pt.length=i->lk.length=o->ki mv pt lk->RH n i o w c mv pt lk->iV H' b->cO b H H'->Q (.ref r) H')->CV K vs H Q E9
def Rg (mv pt:LR9) (w:Nat):Prop:=(w<=9/\Bd mv pt 1 1 (9^3) 0 0 14)\/(w<=9/\mv.length<=5/\Bd mv pt 2520 2520 (9^3*9) 12 12 16)\/(w=1000/\mv.length<=2/\∃M1 M2,Bd mv pt M1 M2 (9^3*2^20) 80 160 33)
def Mi (K:FG9):Sp:=λvs H Q _=>∃b:Addr,vs=[.ref b]/\iV H b /\
 ∀t r (w a c:Nat) mv pt lk H',H' t=some (.tup [.ref r,.int w])->fH K H H' r mv pt lk->ki mv pt lk->QI mv pt lk->mN mv pt a c->Rg mv pt w->1<=w->w<=1000->iV H' b->cO b H H'->Q (.ref t) H'
theorem HU {M V:Nat} {l:LR9} (h:GF M V l) (k:Nat):GF (k*M) V l:=λxs hx x hx'=>(h xs hx x hx').scaleL k
theorem RH.n {n i o w c:Nat} {mv pt lk:LR9} (h:RH n i o w c mv pt lk):PtF n i o w c mv pt lk:=by
 obtain ⟨M1,M2,M3,V1,a1,a2,a3,f1,f2,f3,hc⟩:=h;rcases hc with ⟨w9,rfl,rfl,rfl,e⟩ | ⟨w9,e1,e2,e3,e⟩
 ·exact ⟨2520,V1,by decide,f1,f2,f3,.inl ⟨w9,rfl,e⟩⟩
 ·refine ⟨M1*M2*M3,V1,cp (cp a1 a2) a3,?_,?_,?_,.inr ⟨w9,?_,e⟩⟩
  ·have:=HU f1 (M2*M3);rwa [show M2*M3*M1=M1*M2*M3 by rw[bV (M2*M3),cE]] at this
  ·have:=HU f2 (M1*M3);rwa [show M1*M3*M2=M1*M2*M3 by rw[cE,bV M3,cE]] at this
  ·exact HU f3 (M1*M2)
  ·refine ai (aN (aN e1 e2) e3) ?_;rw[<- bC,<- bC,show c*((n+i+o)*n)=c*(n*n)+c*(i*n)+c*(o*n) by rw[yH,yH,dA,dA]];exact au _
section
variable {mv pt lk pus:LR9} {st pu go pr:List Rat} {M1 M2 V a1 a2 c B b g p t T w:Nat}
theorem Bd.kry (X:Bd mv pt M1 M2 V a1 a2 c) (D:ki mv pt lk):∀t,∀xs∈kry mv pt t,∀x∈xs,Fr (M1^(t - 1)*M2) (2^(c*t)) x:=by
 intro t
 induction t with
 | zero=>intro xs hx;exact nomatch hx
 | succ t ih =>
  intro xs hx x hx';rcases ax.mp (show xs∈pt++(L2.kry mv pt t).map (yI mv) from hx) with hx | hx
  ·refine Fr.up (X.gp xs hx x hx') (iY _ _) (ai X.v1 (ak (by decide) ?_));exact de _ (by lia)
  ·obtain ⟨ys,hy,rfl⟩:=az.mp hx;obtain ⟨row,hr,rfl⟩:=az.mp (show x∈mv.map λzs=>dh zs ys from hx');rcases t with _ | t
   ·exact nomatch hy
   have f:=Fr.dot (X.gm row hr) (ih ys hy);rw[show M1*(M1^(t+1 - 1)*M2)=M1^(t+1+1 - 1)*M2 by rw[<- cE,show t+1 - 1=t by lia,show t+1+1 - 1=t+1 by lia,gZ,bV M1]] at f;refine f.mono ?_;rw[D.mw row hr,<- cE,show c*(t+1+1)=c+c*(t+1) by rw[dA c (t+1)];lia,bC 2 c];exact aB _ (ai (aB V (show mv.length<=mv.length+4 by lia)) X.vc)
end
open PySem.MeetsSeq
section
variable {rows rows' R R' Hd Hd':LR9} {n:Nat} {ps ps' psd psd':List Nat}
theorem JG (RR:bX rows n R ps) {x:Nat->Rat} (far:∀c,n<=c->x c=0) (hx:∀j,j < ps.length->(bL n λc=>b6 R j c*x c)=0):dW (aH R ps n).length (b6 (aH R ps n)) x:=by
 have Rf:=RR.2.2;have lN:(aH R ps n).length=(gR ps n).length:=by unfold aH;rw[ag]
 have fN:∀t,t < (aH R ps n).length->(gR ps n).getD t 0 < n/\(gR ps n).getD t 0∉ps:=λt ht=>sI.mp (getD_in (by lia))
 have vN:∀t,t < (aH R ps n).length->∀c,b6 (aH R ps n) t c=(HH R ps n ((gR ps n).getD t 0)).getD c 0:=λt ht c=>by
  have h:t < (gR ps n).length:=by lia
  unfold b6 aH;rw[aa (l:=List.map _ _),aF,af h,aa (l:=gR ps n),af h];rfl
 have nd:(gR ps n).Nodup:=by
  unfold gR;exact GH E4 Ka
 refine ⟨λt=>x ((gR ps n).getD t 0),λc=>?_⟩
 suffices y0:∀c,x c - (bL (aH R ps n).length λt=>x ((gR ps n).getD t 0)*b6 (aH R ps n) t c)=0 by
  have:=y0 c;grind
 have free:∀c,c < n->c∉ps->x c - (bL (aH R ps n).length λt=>x ((gR ps n).getD t 0)*b6 (aH R ps n) t c)=0:=λc hc hp=>by
  obtain ⟨t0,h0,e0⟩:=bR (sI.mpr ⟨hc,hp⟩);have g0:(gR ps n).getD t0 0=c:=by rw[aa,af h0];exact e0
  rw[fY (i:=t0) (by lia) λt ht ne=>?_,vN t0 (by lia),Ae hc hp,g0,if_pos rfl]
  ·grind
  ·rw[vN t ht,Ae hc hp,if_neg λz=>ne ?_]
   ·grind
   ·have ht':t < (gR ps n).length:=by lia
    have z:(gR ps n)[t]=(gR ps n)[t0]:=by
     rw[aa,af ht'] at z;rw[e0];exact z.symm
    have pw:=xu.mp nd;rcases dU t t0 with y | y | y
    ·exact absurd z (pw t t0 ht' h0 y)
    ·exact y
    ·exact absurd z.symm (pw t0 t h0 ht' y)
 have dN:∀j,j < ps.length->∀t,t < (aH R ps n).length->(bL n λc=>b6 R j c*b6 (aH R ps n) t c)=0:=λj hj t ht=>by
  have hj':j < R.length:=by rw[RR.1];exact hj
  have wr:=RR.2.1 _ (aS hj');have dz:=HG (xG RR) (fN t ht).1 (fN t ht).2 (af hj') wr;rw[fe (by rw[wr];exact qK.symm),wr] at dz;refine Eq.trans (aR λc _=>?_) dz;rw[vN t ht];unfold b6;rw[aa (l:=R),af hj'];rfl
 have dY:∀j,j < ps.length->(bL n λc=>b6 R j c*(x c - (bL (aH R ps n).length λt=>x ((gR ps n).getD t 0)*b6 (aH R ps n) t c)))=0:=λj hj=>by
  have e:∀c,c < n->b6 R j c*(x c - (bL (aH R ps n).length λt=>x ((gR ps n).getD t 0)*b6 (aH R ps n) t c))=b6 R j c*x c+(-1)*(bL (aH R ps n).length λt=>x ((gR ps n).getD t 0)*(b6 R j c*b6 (aH R ps n) t c)):=λc _=>by
   have:(bL (aH R ps n).length λt=>x ((gR ps n).getD t 0)*(b6 R j c*b6 (aH R ps n) t c))=b6 R j c*bL (aH R ps n).length λt=>x ((gR ps n).getD t 0)*b6 (aH R ps n) t c:=by
    rw[<- cA];exact aR λt _=>by grind
   rw[this];grind
  rw[aR e,oF,hx j hj,cA,eT,cZ (k:=(aH R ps n).length) λt ht=>?_]
  ·grind
  ·rw[cA,dN j hj t ht];grind
 intro c;by_cases hc:c < n
 ·by_cases hp:c∈ps
  ·obtain ⟨j,hj,ej⟩:=bR hp;have g:ps.getD j 0=c:=by rw[aa,af hj];exact ej
   have:=dY j hj;rw[fY (i:=c) hc λc' hc' ne=>?_] at this
   ·have u:=Rf.unit j hj j hj;rw[g,if_pos rfl] at u;rw[u] at this;grind
   ·by_cases hp':c'∈ps
    ·obtain ⟨i,hi,ei⟩:=bR hp';have gi:ps.getD i 0=c':=by rw[aa,af hi];exact ei
     have u:=Rf.unit j hj i hi;rw[gi,if_neg (λz=>ne (by rw[<- gi,<- g,z]))] at u;rw[u];grind
    ·rw[free c' hc' hp'];grind
  ·exact free c hc hp
 ·rw[far c (by lia),cZ λt _=>by rw[BM m6 (by lia)];grind];grind
end
inductive CW (K:FG9) (vs:List V) (H:Hp) (Q:VK) (E9:XK):Prop
 | mk (p:Addr) (n w:Nat) (H0:Hp) (rows R:LR9) (ps:List Nat):vs=[.ref p,.int n]->bI K H0 H p R->R.length<=100->n<=100->bX rows n R ps->Ig R n w->(∀xs∈R,∀x∈xs,mV x)->(∀r H',H r=none->aG H H'->bI K H H' r (aH R ps n)->Q (.ref r) H')->CW K vs H Q E9
section
variable {X:Cx} {tg l:Expr} {tl:TE}
def Lj (K:FG9) (tl:TE):TI:=λσ H R=>tl σ H λx H1=>∃a,x=.ref a/\((∃xs,bO K H1 a xs)/\R (LW K a) H1\/(∃xs,kj K H1 a xs)/\R (Nu K a) H1)
theorem ON (hl:PE X l tl):PI X tg l (Lj X.K tl):=by
 intro pins s σ H R I h;refine gO (hl pins s σ H _ I h) λv s1 ⟨x,H1,I1,r1,q1⟩=>?_
 obtain ⟨a,e,q1⟩:=q1;subst e;cases r1;rcases q1 with ⟨⟨xs,hq⟩,q⟩ | ⟨⟨xs,hq⟩,q⟩
 ·obtain ⟨its,rv,p,hz⟩:=I1.list hq;refine wpAny_pyIter_list p.isList ?_;refine ⟨s1.heap.objs.size,[s1.heap.objs.size],_,_,H1,rfl,I1.kept (t':=s1.toks) λb o e=>Heap.get?_push_of_some _ e,CL a _,⟨_,Heap.get?_push_size _ rfl,rfl,rfl⟩,λb hb=>?_,q⟩;have e:b=s1.heap.objs.size:=by simpa using hb
  subst e;exact I1.fpOk (au _) (I1.hok.fresh (au _))
 ·obtain ⟨its,rv,p,hz⟩:=I1.tuple hq;refine wpAny_pyIter_tuple (show s1.heap.IsTuple a its.toArray from p) ?_;refine ⟨s1.heap.objs.size,[s1.heap.objs.size],_,_,H1,rfl,I1.kept (t':=s1.toks) λb o e=>Heap.get?_push_of_some _ e,Au a _,⟨_,Heap.get?_push_size _ rfl,rfl,rfl⟩,λb hb=>?_,q⟩;have e:b=s1.heap.objs.size:=by simpa using hb
  subst e;exact I1.fpOk (au _) (I1.hok.fresh (au _))
end
section
variable {X:Cx} {pins:List (Addr×Obj)} {σ:St} {H:Hp} {s:Shared} {A:Around} {E:Value->Shared->Prop} {Q:Value->Shared->Prop} {b:Bool} {tp:Addr} {dd:Option Addr} {its:List Value} {n:Nat} {sl:Array (Option Value)}
theorem HS {x:V} {u t:Value} (I:Inv X pins σ H s) (rx:RelV x u) (ty:xo X.K H x t) (htp:s.heap.get? tp=some ⟨.type "tuple",dd,.seq its.toArray n,sl⟩) (e:PySem.W.kitAny X.K t its=some b) (h:∀tk,Q (.bool b) { s with toks:=tk }) :
  wpAny (model X.prog X.w) A (call (.builtin "isinstance") [u,.ref tp]) Q E s:=by
 cases ty with
 | non=>cases (show u=Value.none from rx);exact dk PySem.W.kitx_none I.kIn True.intro htp e (λz=>nomatch z) h
 | bl y=>cases (show u=Value.bool y from rx);exact dk PySem.W.kitx_bool I.kIn True.intro htp e (λz=>nomatch z) h
 | int i=>obtain ⟨t,q⟩:=(show ∃t,u=Value.int i t from rx);cases q;exact dk PySem.W.kitx_int I.kIn True.intro htp e (λz=>nomatch z) h
 | str y=>obtain ⟨t,q⟩:=(show ∃t,u=Value.str y t from rx);cases q;exact dk PySem.W.kitx_str I.kIn True.intro htp e (λz=>nomatch z) h
 | flt y=>obtain ⟨t,q⟩:=(show ∃t,u=Value.float y t from rx);cases q;exact dk PySem.W.kitx_float I.kIn True.intro htp e (λz=>nomatch z) h
 | @lst a xs ea =>
  cases (show u=Value.ref a from rx);obtain ⟨_,_,n,_,h1⟩:=(show fI X.prog X.w H s.heap a (.lst xs) from I.hok a _ ea);exact dk yF I.kIn ⟨_,h1,rfl⟩ htp e (λz=>nomatch z) h
 | @frz a ob xs ea =>
  cases (show u=Value.ref a from rx);obtain ⟨_,_,_,n,_,h1⟩:=(show fI X.prog X.w H s.heap a (.frz ob (.lst xs)) from I.hok a _ ea);exact dk yF I.kIn ⟨_,h1,rfl⟩ htp e (λz=>nomatch z) h
 | @tup a xs ea =>
  cases (show u=Value.ref a from rx);obtain ⟨_,_,_,p⟩:=(show fI X.prog X.w H s.heap a (.tup xs) from I.hok a _ ea);obtain ⟨o,h1,h2,_⟩:=p;exact dk wL I.kIn ⟨o,h1,h2⟩ htp e (λz=>nomatch z) h
 | @dK a kvs ea =>
  cases (show u=Value.ref a from rx);obtain ⟨_,_,vs,_,p⟩:=(show fI X.prog X.w H s.heap a (.dK kvs) from I.hok a _ ea);obtain ⟨o,es,ep,h1,h2,_⟩:=p;exact dk yG I.kIn ⟨o,h1,h2.1⟩ htp e (λz=>nomatch z) h
 | @dT a kvs ea =>
  cases (show u=Value.ref a from rx);obtain ⟨_,_,xs,_,o,es,ep,h1,h2,_⟩:=(show fI X.prog X.w H s.heap a (.dT kvs) from I.hok a _ ea);exact dk yG I.kIn ⟨o,h1,h2.1⟩ htp e (λz=>nomatch z) h
 | @ins a C dx fs ea cl ha hn htk hm =>
  cases (show u=Value.ref a from rx);obtain ⟨mA,O,_⟩:=Ag I.hok ea;obtain ⟨od,J,_⟩:=O.look;exact dk (PySem.W.kitx_own (cl.get _) cl.hd ha hn htk hm) I.kIn J htp e (λz=>nomatch z) h
def Qo (K:FG9):List V->Hp->VK->Prop:=λvs H Q=>∃x tp,vs=[x,.ref tp]/\H tp=some (.tup [.ty "list",.ty "tuple"])/\((∃t b,xo K H x t/\PySem.W.kitAny K t [.type "list",.type "tuple"]=some b/\Q (.bl b) H)\/∃a xs,x=.ref a/\kj K H a xs/\Q (.bl true) H)
theorem JY {X:Cx}:oV X (.builtin "isinstance") (Qo X.K):=by
 intro pins s σ H vs us Q I r h;obtain ⟨x,tp,rfl,et,q1⟩:=h;obtain ⟨u,v,rfl,ru,rv⟩:=vals2 r;cases rv;obtain ⟨_,its,rits,o,ho,hoc,n,hod⟩:=(show fI X.prog X.w H s.heap tp (.tup [.ty "list",.ty "tuple"]) from I.hok tp _ et);obtain ⟨oc,od,dt,sl⟩:=o
 dsimp only at hoc hod
 subst hoc hod
 obtain rfl:its=[.type "list",.type "tuple"]:=by
  cases rits with
  | cons a r=>cases r with
   | cons a2 r2=>cases r2;cases a;cases a2;rfl
 rcases q1 with ⟨t,b,ty,ek,q⟩ | ⟨ad,xs,rfl,hs,q⟩
 ·exact HS I ru ty ho ek λtk=>⟨.bl b,H,I.tok tk,rfl,q⟩
 ·cases ru;obtain ⟨_,_,⟨o,g1,g2,_⟩,_⟩:=I.tuple hs;exact dk wL I.kIn ⟨o,g1,g2⟩ ho (b:=true) rfl (λz=>nomatch z) λtk=>⟨.bl true,H,I.tok tk,rfl,q⟩
end
inductive Ed where
 | fl (v:V)
 | row (qs:List Rat)
 | grid (rs:LR9)
def Ed.ok:Ed->Prop
 | .fl v=>rA v=true
 | .row qs=>qs.length<=100
 | .grid rs=>rs.length<=100/\∀qs∈rs,qs.length<=100
def Gz (K:FG9) (H0 H:Hp):Ed->V->Prop
 | .fl v,x=>x=v
 | .row qs,x=>∃p,x=.ref p/\H0 p=none/\cX K H p qs
 | .grid rs,x=>∃p,x=.ref p/\H0 p=none/\bI K H0 H p rs
theorem Gz.same {K:FG9} {H0 H H':Hp} {d:Ed} {x:V} (h:Gz K H0 H d x) (s:aG H H'):Gz K H0 H' d x:=by
 cases d with
 | fl v=>exact h
 | row qs=>obtain ⟨p,a,b,c⟩:=h;exact ⟨p,a,b,c.same s⟩
 | grid rs=>obtain ⟨p,a,b,c⟩:=h;exact ⟨p,a,b,c.same s⟩
def Iv (K:FG9) (n:Nat):Sp:=match n with
 | 0=>λ_ _ _ _=>False
 | i+1=>λvs H Q _=>∃x,vs=[x] /\
  ((rA x=true/\∀H',aG H H'->Q x H')
  \/ (1<=i/\∃q,cg K H q x/\∀r H',aG H H'->cg K H' q (.ref r)->Q (.ref r) H')
  \/ (2<=i/\∃p qs,x=.ref p/\cX K H p qs/\qs.length<=100/\∀r H',H r=none->aG H H'->cX K H' r qs->Q (.ref r) H')
  \/ (3<=i/\∃p H0 rs,x=.ref p/\bI K H0 H p rs/\rs.length<=100/\(∀qs∈rs,qs.length<=100)/\∀r H',H r=none->aG H H'->bI K H H' r rs->Q (.ref r) H')
  \/ (4<=i/\∃t xs H0 ds,x=.ref t/\kj K H t xs/\Paired (Gz K H0 H) ds xs/\ds.length<=10/\(∀d∈ds,Ed.ok d)/\∀r ys H',aG H H'->H' r=some (.tup ys)->Paired (Gz K H H') ds ys->Q (.ref r) H'))
section
variable {K:FG9} {a:Addr} {xs:List V} {g:TG} {tf:TT} {te:TE} {Q:VK} {σ₀:St} {H:Hp} {α β:Type}
theorem DC {as:List α} {F:Hp->α->V->Prop} (G:Hp->β->V->Prop) (f:α->β) (hx:kj K H a xs) (pf:Paired (F H) as xs) (hl:as.length<=1000)
  (hF:∀{H H' c x},F H c x->aG H H'->F H' c x) (hG:∀{H H' c x},G H c x->aG H H'->G H' c x)
  (hs:∀(i:Nat) c x H' NY NN,as[i]?=some c->aG H H'->F H' c x->(∀y H2,aG H' H2->G H2 (f c) y->NY y H2)->qY σ₀ g tf te x H' NY NN)
  (hd:∀ys H' p,H p=none->aG H H'->H' p=some (.lst ys)->Paired (G H') (as.map f) ys->(∃H2,H2 p=none/\Paired (G H2) (as.map f) ys)->Q (.ref p) H'):rJ (Nu K a) σ₀ g tf te Q H:=by
 have lx:=pf.length;refine LJ (K:=K) (xs:=xs) (λi ys H'=>aG H H'/\Paired (G H') ((as.take i).map f) ys) (bg (bN (by lia))) ⟨aG.refl _,.nil⟩ (λi ys H' _ ⟨s,_⟩=>s.sqt hx) ?_ ?_
 ·rintro i x ys H' hx' hlen ⟨s,pr⟩;obtain ⟨c,ec,hc⟩:=cL pf hx';refine hs i c x H' _ _ ec s (hF hc s) λy H2 s2 gy=>⟨s.trans s2,?_⟩
  rw[take_snoc ec,cm];exact cM (Paired.imp' (λ_ _ z=>hG z s2) pr) (.cons gy .nil)
 ·rintro ys H' hy ⟨s,pr⟩ p hp;rw[aL (by lia)] at pr;exact hd ys _ p (s.none hp) (s.trans (aG.new hp)) aI (Paired.imp' (λ_ _ z=>hG z (aG.new hp)) pr) ⟨H',hp,pr⟩
end
def Kp (S:Addr->Prop) (H H':Hp):Prop:=∀a o,H a=some o->(¬S a\/∀zs,o≠.lst zs)->H' a=some o
section
variable {K:FG9} {S S':Addr->Prop} {H H' H'':Hp} {p:Addr} {q:Rat} {qs:List Rat} {x:V}
theorem Kp.of (s:aG H H'):Kp S H H':=λa o h _=>s a o h
theorem Kp.mono (h:Kp S H H') (hs:∀a,S a->S' a):Kp S' H H':=λa o e c=>h a o e (c.elim (λn=>.inl λz=>n (hs a z)) .inr)
theorem Kp.trans (h:Kp S H H') (h':Kp S H' H''):Kp S H H'':=λa o e c=>h' a o (h a o e c) c
theorem Kp.upd {ys:List V} {o:HO} (hl:H p=some (.lst ys)) (hS:S p):Kp S H (upd H p o):=λa o' e c=>by
 by_cases z:a=p
 ·subst z;rw[hl] at e;cases e;exact c.elim (λn=>absurd hS n) λn=>absurd rfl (n ys)
 ·rw[bF z];exact e
theorem Kp.sqt (h:Kp S H H') {a:Addr} {xs:List V} (s:kj K H a xs):kj K H' a xs:=by
 rcases s with (e | ⟨o,e⟩) | e
 ·exact .inl (.inl (h _ _ e (.inr λ_ z=>nomatch z)))
 ·exact .inl (.inr ⟨o,h _ _ e (.inr λ_ z=>nomatch z)⟩)
 ·exact .inr e
theorem Kp.numR (h:Kp S H H') {n:Int×Int} (m:yE K H x n):yE K H' x n:=by obtain ⟨p,e,s⟩:=m;exact ⟨p,e,h.sqt s⟩
theorem Kp.num (h:Kp S H H') (n:cg K H q x):cg K H' q x:=by obtain ⟨p,e,s⟩:=n;exact ⟨p,e,h.sqt s⟩
theorem Kp.row (h:Kp S H H') (n:¬S p) (r:cX K H p qs):cX K H' p qs:=by
 obtain ⟨xs,g,pr⟩:=r;exact ⟨xs,h _ _ g (.inl n),Paired.imp' (λ_ _ z=>h.num z) pr⟩
end
def Pk (K:FG9) (W:Addr->Prop) (H:Hp):Ed->V->Prop
 | .fl v,x=>x=v
 | .row qs,x=>∃p,x=.ref p/\W p/\cX K H p qs
 | .grid rs,x=>∃p us,x=.ref p/\W p/\H p=some (.lst us)/\V.ref p∉us/\Paired (λqs v=>∃q,v=V.ref q/\W q/\cX K H q qs) rs us
theorem Pk.kp {K:FG9} {S W:Addr->Prop} {H H':Hp} {d:Ed} {x:V} (h:Pk K W H d x) (k:Kp S H H') (n:∀a,W a->¬S a):Pk K W H' d x:=by
 cases d with
 | fl v=>exact h
 | row qs=>obtain ⟨p,a,b,c⟩:=h;exact ⟨p,a,b,k.row (n p b) c⟩
 | grid rs =>
  obtain ⟨p,us,a,b,c,d,e⟩:=h;exact ⟨p,us,a,b,k _ _ c (.inl (n p b)),d,Paired.imp' (λ_ _ ⟨q,a,b,c⟩=>⟨q,a,b,k.row (n q b) c⟩) e⟩
theorem Gz.elW {K:FG9} {H0 Hf H:Hp} {d:Ed} {x:V} (h:Gz K H0 Hf d x) (s:aG Hf H):Pk K (λa=>H0 a=none/\Hf a≠none) H d x:=by
 cases d with
 | fl v=>exact h
 | row qs =>
  obtain ⟨p,a,b,c⟩:=h;exact ⟨p,a,⟨b,by obtain ⟨_,g,_⟩:=c;rw[g];exact λz=>nomatch z⟩,c.same s⟩
 | grid rs =>
  obtain ⟨p,a,b,us,c,d,e⟩:=h;exact ⟨p,us,a,⟨b,by rw[c];exact λz=>nomatch z⟩,s _ _ c,e,Paired.imp' (λ_ _ ⟨q,a,b,c⟩=>⟨q,a,⟨b,by obtain ⟨_,g,_⟩:=c;rw[g];exact λz=>nomatch z⟩,c.same s⟩) d⟩
def CT (K:FG9) (n:Nat):Sp:=match n with
 | 0=>λ_ _ _ _=>False
 | i+1=>λvs H Q _=>∃x,vs=[x] /\
  ((rA x=true/\∀H',aG H H'->Q .non H')
  \/ (1<=i/\∃n,yE K H x n/\∀H',aG H H'->Q .non H')
  \/ (2<=i/\∃p zs,x=.ref p/\H p=some (.lst zs)/\zs.length<=500/\(∀z∈zs,∃n,yE K H z n)/\∀t H',Kp (λa=>a=p) H H'->H' t=some (.tup [.int 7,.int 1])->H' p=some (.lst (zs++[.ref t]))->Q .non H')
  \/ (3<=i/\∃p us,x=.ref p/\H p=some (.lst us)/\us.length<=100/\V.ref p∉us/\(∀y∈us,∃q zs,y=.ref q/\H q=some (.lst zs)/\zs.length<=100/\∀z∈zs,∃n,yE K H z n)/\∀H',Kp (λa=>a=p\/V.ref a∈us) H H'->Q .non H')
  \/ (4<=i/\∃(t:Addr) (xs:List V) (ews:List (Ed×(Addr->Prop))),x=.ref t/\kj K H t xs/\Paired (λ(e:Ed×(Addr->Prop)) v=>Pk K e.2 H e.1 v) ews xs/\ews.length<=10/\(∀e∈ews,Ed.ok e.1)/\(∀(i j:Nat) (e e':Ed×(Addr->Prop)),i < j->ews[i]?=some e->ews[j]?=some e'->∀a,e'.2 a->¬e.2 a)/\∀H',Kp (λa=>∃e∈ews,e.2 a) H H'->Q .non H'))
theorem Gz.kp {K:FG9} {S:Addr->Prop} {H0 H H':Hp} {d:Ed} {x:V} (h:Gz K H0 H d x) (k:Kp S H H') (n:∀a,H0 a=none->¬S a):Gz K H0 H' d x:=by
 cases d with
 | fl v=>exact h
 | row qs=>obtain ⟨p,a,b,c⟩:=h;exact ⟨p,a,b,k.row (n p b) c⟩
 | grid rs =>
  obtain ⟨p,a,b,us,c,d,e⟩:=h;exact ⟨p,a,b,us,k _ _ c (.inl (n p b)),Paired.imp' (λ_ _ ⟨q,a,b,c⟩=>⟨q,a,b,k.row (n q b) c⟩) d,e⟩
section
variable {rows R ends:LR9} {row:List Rat} {n:Nat} {ps:List Nat}
theorem KW (RR:bX rows n R ps) (hw:∀xs∈rows,xs.length=n):∀z∈aH R ps n,∀xs∈rows,dh xs z=0:=λz hz xs hx=>by
 obtain ⟨a,h1,h2,rfl⟩:=rj hz;obtain ⟨i,hi,rfl⟩:=bR hx;exact HG RR h1 h2 (af hi) (hw _ (aS hi))
end
section
variable {rows ends:LR9} {row due:List Rat} {n:Nat}
theorem mul_pow {a b c d:Nat} (h:a<=2^c) (h':b<=2^d):a*b<=2^(c+d):=by
 rw[bC];exact aN h h'
end
section
variable {mv pt lk F R:LR9} {n m:Nat} {ps:List Nat} {x:Nat->Rat} {st pu:List Rat}
theorem Ir {a:Nat->Nat->Rat} {f:Nat->Nat->Rat} {w:Nat->Rat}:∀k,(∀i,i < k->dW m a (f i))->dW m a λc=>bL k λi=>w i*f i c
 | 0,_=>dW.zero λ_=>rfl
 | k+1,h=>by
  have:=dW.lin 1 (w k) (Ir (w:=w) k λi hi=>h i (by lia)) (h k (by lia));exact this.congr λc=>by show _=bL k _+_;grind
theorem IS {a c:Nat} (KF:mN mv pt a c) (D8:mv.length<=8) (wm:∀xs∈mv,xs.length=mv.length) (wp:∀xs∈pt,xs.length=mv.length) (RR:bX (kry mv pt mv.length) mv.length R ps):(∀k,k < pt.length->dW ps.length (b6 R) (b6 pt k))/\∀x:Nat->Rat,dW ps.length (b6 R) x->dW ps.length (b6 R) λc=>bL mv.length λj=>b6 mv c j*x j:=by
 obtain ⟨R0,ps0,G⟩:=Lp KF D8 wm wp (mv.length+1);have R1:=G.late (eI _) (au _);have R2:=G.late (eI _) (tX mv.length);obtain ⟨rfl,rfl⟩:=RR.same R1;have B:=FZ rfl wm wp R1 R2;have sp:=B.2.2.span;refine ⟨λk hk=>?_,λx hx=>?_⟩
 ·have:=sp k (by rw[av];lia);rwa [Ib hk] at this
 ·obtain ⟨w,hw⟩:=hx
  have key:=Ir (w:=w) (f:=λs=>b6 (R.map (yI mv)) s) ps.length λs hs=>by
   have:=sp (pt.length+s) (by rw[av,ag,RR.1];lia);rwa [zo] at this
  refine key.congr λc=>?_
  have e:(bL mv.length λj=>b6 mv c j*x j)=bL mv.length λj=>bL ps.length λs=>w s*(b6 mv c j*b6 R s j):=aR λj _=>by
   rw[hw j,<- cA];exact aR λs _=>by grind
  rw[e,eT];refine aR λs hs=>?_
  rw[cA,KR rfl wm RR.2.1 (by rw[RR.1];exact hs)]
theorem FQ {a c:Nat} (KF:mN mv pt a c) (D8:mv.length<=8) (wm:∀xs∈mv,xs.length=mv.length) (wp:∀xs∈pt,xs.length=mv.length) (RR:bX (kry mv pt mv.length) mv.length R ps) {z:List Rat} (hz:z∈aH R ps mv.length) {k:Nat} (hk:k < pt.length):(bL mv.length λc=>b6 pt k c*z.getD c 0)=0:=by
 obtain ⟨w,hw⟩:=(IS KF D8 wm wp RR).1 k hk
 have e:(bL mv.length λc=>b6 pt k c*z.getD c 0)=bL mv.length λc=>bL ps.length λs=>w s*(b6 R s c*z.getD c 0):=aR λc _=>by
  rw[hw c,dS,<- cA];exact aR λs _=>by grind
 rw[e,eT];refine cZ λs hs=>?_
 rw[cA];obtain ⟨b,h1,h2,rfl⟩:=rj hz;have hs':s < R.length:=by rw[RR.1];exact hs
 have ws:=RR.2.1 _ (aS hs');have d:=HG (xG RR) h1 h2 (af hs') ws;rw[fe (by rw[ws];exact qK.symm),ws] at d
 have:(bL mv.length λc=>b6 R s c*(HH R ps mv.length b).getD c 0)=0:=by
  refine Eq.trans (aR λc _=>?_) d;unfold b6;rw[aa (l:=R),af hs'];rfl
 rw[this,gY]
end
theorem zC:∀{ps:List Nat},Paired (λj x=>x=V.int ((j:Nat):Int)) ps (df ps)
 | []=>.nil
 | _ :: _=>.cons rfl zC
inductive AI (K:FG9) (vs:List V) (H:Hp) (Q:VK) (E9:XK):Prop
 | mk (p q:Addr) (w:Nat) (H0 H1:Hp) (one other:LR9):vs=[.ref p,.ref q,.int w]->bI K H0 H p one->bI K H1 H q other->one.length<=1000->other.length<=1000->w<=1000->((∀xs∈one,xs.length=other.length/\∀ys∈js other w,Ca ys xs))->(∀xs∈other,xs.length=w)->(∀r H',H r=none->aG H H'->bI K H H' r (dJ one other w)->Q (.ref r) H')->AI K vs H Q E9
inductive Ay (K:FG9) (C:Addr) (vs:List V) (H:Hp) (Q:VK) (E9:XK):Prop
 | mk (x p:Addr) (H0 H1:Hp) (mv pt lk N:LR9):vs=[.ref x,.ref p]->rH K H0 H C x mv pt lk->ki mv pt lk->bI K H1 H p N->N.length<=100->((∀xs∈N,xs.length=mv.length/\∀ys∈js mv mv.length,Ca ys xs))->(∀r H',H r=none->aG H H'->bI K H H' r (dJ N mv mv.length)->Q (.ref r) H')->Ay K C vs H Q E9
def mX (mv R:LR9) (ps:List Nat):LR9:=(dJ (aH R ps mv.length) mv mv.length).map λrow=>(gR ps mv.length).map λpl=>row.getD pl 0
section
variable {mv pt lk R:LR9} {ps:List Nat} {n a c:Nat} {st pu:List Rat}
theorem KY {i:Nat} (hi:i < (aH R ps n).length) {b:Nat} (hb:b < n) (hp:b∉ps):b6 (aH R ps n) i b=if b=(gR ps n).getD i 0 then 1 else 0:=by
 have lN:(aH R ps n).length=(gR ps n).length:=ag ..;have h:i < (gR ps n).length:=by lia
 have e:b6 (aH R ps n) i b=(HH R ps n ((gR ps n).getD i 0)).getD b 0:=by
  unfold b6 aH;rw[aa (l:=List.map _ _),aF,af h,aa (l:=gR ps n),af h];rfl
 rw[e,Ae hb hp]
theorem O5 {i j:Nat} (hi:i < (gR ps n).length) (hj:j < (gR ps n).length) (h:(gR ps n).getD i 0=(gR ps n).getD j 0):i=j:=by
 have nd:(gR ps n).Nodup:=by
  unfold gR;exact GH E4 Ka
 have pw:=xu.mp nd;have e:∀k (hk:k < (gR ps n).length),(gR ps n).getD k 0=(gR ps n)[k]:=λk hk=>by rw[aa,af hk];rfl
 rw[e i hi,e j hj] at h;rcases dU i j with y | y | y
 ·exact absurd h (pw i j hi hj y)
 ·exact y
 ·exact absurd h.symm (pw j i hj hi y)
theorem Fc {N:LR9} (wN:∀xs∈N,xs.length=mv.length) {i b:Nat} (hi:i < N.length) (hb:b < mv.length):b6 (dJ N mv mv.length) i b=bL mv.length λc=>b6 mv c b*b6 N i c:=by
 unfold b6 dJ;rw[aa (l:=List.map _ N),aF,af hi];show ((js mv mv.length).map λys=>dh ys N[i]).getD b 0=_
 rw[aa,aF,E8 hb];show dh (mv.map λxs=>xs.getD b 0) N[i]=_
 rw[fe (by rw[ag,wN _ (aS hi)]),ag];refine aR λc _=>?_
 rw[K7];unfold b6;rw[aa (l:=N),af hi];rfl
theorem MQ (KF:mN mv pt a c) (D8:mv.length<=8) (wm:∀xs∈mv,xs.length=mv.length) (wp:∀xs∈pt,xs.length=mv.length) (RR:bX (kry mv pt mv.length) mv.length R ps) {i b:Nat} (hi:i < (aH R ps mv.length).length) (hb:b < mv.length):b6 (dJ (aH R ps mv.length) mv mv.length) i b=bL (aH R ps mv.length).length λt=>b6 (dJ (aH R ps mv.length) mv mv.length) i ((gR ps mv.length).getD t 0)*b6 (aH R ps mv.length) t b:=by
 have wN:∀xs∈aH R ps mv.length,xs.length=mv.length:=m6;have lN:(aH R ps mv.length).length=(gR ps mv.length).length:=ag ..;have inv:=(IS KF D8 wm wp RR).2
 have far:∀c,mv.length<=c->b6 (dJ (aH R ps mv.length) mv mv.length) i c=0:=λc hc=>BM (λxs hx=>by
  obtain ⟨z,_,rfl⟩:=az.mp hx;rw[ag,vh]) hc
 have dz:∀x:Nat->Rat,dW ps.length (b6 R) x->(bL mv.length λc=>x c*b6 (aH R ps mv.length) i c)=0:=λx ⟨w,hw⟩=>by
  have e:(bL mv.length λc=>x c*b6 (aH R ps mv.length) i c)=bL mv.length λc=>bL ps.length λs=>w s*(b6 R s c*b6 (aH R ps mv.length) i c):=aR λc _=>by
   rw[hw c,dS,<- cA];exact aR λs _=>by grind
  rw[e,eT];refine cZ λs hs=>?_
  rw[cA];have hs':s < R.length:=by rw[RR.1];exact hs
  have ws:=RR.2.1 _ (aS hs');have hz:=aS hi;have d:=KW (xG RR) RR.2.1 _ hz _ (aS hs');rw[fe (by rw[ws,wN _ hz]),ws] at d
  have:(bL mv.length λc=>b6 R s c*b6 (aH R ps mv.length) i c)=0:=by
   refine Eq.trans (aR λc _=>?_) d;unfold b6;rw[aa (l:=R),af hs',aa (l:=aH R ps mv.length),af hi];rfl
  rw[this,gY]
 have sp:=JG RR far λj hj=>by
  have e:(bL mv.length λb=>b6 R j b*b6 (dJ (aH R ps mv.length) mv mv.length) i b)=bL mv.length λc=>(bL mv.length λb=>b6 mv c b*b6 R j b)*b6 (aH R ps mv.length) i c:=by
   have e1:(bL mv.length λb=>b6 R j b*b6 (dJ (aH R ps mv.length) mv mv.length) i b)=bL mv.length λb=>bL mv.length λc=>b6 (aH R ps mv.length) i c*(b6 mv c b*b6 R j b):=aR λb hb=>by
    rw[Fc wN hi hb,<- cA];exact aR λc _=>by grind
   rw[e1,eT];exact aR λc _=>by rw[cA];exact dS _ _
  rw[e];exact dz _ (inv _ (dW.row hj))
 obtain ⟨w,hw⟩:=sp
 have hw':∀s,s < (aH R ps mv.length).length->w s=b6 (dJ (aH R ps mv.length) mv mv.length) i ((gR ps mv.length).getD s 0):=λs hs=>by
  have fs:=sI.mp (getD_in (e:=0) (show s < (gR ps mv.length).length by lia));rw[hw,fY hs λt ht ne=>?_,KY hs fs.1 fs.2,if_pos rfl,Rat.mul_one];rw[KY ht fs.1 fs.2,if_neg (λz=>ne (O5 (by lia) (by lia) z).symm),gY]
 rw[hw b];exact aR λt ht=>by rw[hw' t ht]
theorem z8:(mX mv R ps).length=(aH R ps mv.length).length:=by unfold mX dJ;rw[ag,ag]
theorem Py:∀xs∈mX mv R ps,xs.length=(aH R ps mv.length).length:=λxs hx=>by
 obtain ⟨z,_,rfl⟩:=az.mp hx;rw[ag];exact (ag ..).symm
theorem M6 (KF:mN mv pt a c) (D:ki mv pt lk) (RR:bX (kry mv pt mv.length) mv.length R ps) (ls:st.length=mv.length) (lu:pu.length=pt.length):((aH R ps mv.length).map λz=>dh z (fV mv pt st pu))=(mX mv R ps).map λw=>dh w ((aH R ps mv.length).map λz=>dh z st):=by
 have wN:∀xs∈aH R ps mv.length,xs.length=mv.length:=m6;apply mF (by rw[ag,ag,z8]);intro i h1 h2;rw[ag] at h1;have lN:(aH R ps mv.length).length=(gR ps mv.length).length:=ag ..;have zi:=wN _ (aS h1);have fi:∀c,(aH R ps mv.length)[i].getD c 0=b6 (aH R ps mv.length) i c:=λc=>by unfold b6;rw[aa (l:=aH R ps mv.length),af h1];rfl
 have eu:(mX mv R ps)[i]'(by rw[z8];exact h1)=(gR ps mv.length).map λpl=>b6 (dJ (aH R ps mv.length) mv mv.length) i pl:=by
  have lt:i < (dJ (aH R ps mv.length) mv mv.length).length:=by unfold dJ;rw[ag];exact h1
  have:(mX mv R ps)[i]?=some ((gR ps mv.length).map λpl=>b6 (dJ (aH R ps mv.length) mv mv.length) i pl):=by
   unfold mX;rw[aF,af lt];show some _=some _
   congr 1;refine vg λpl _=>?_
   unfold b6;rw[aa (l:=dJ _ _ _),af lt];rfl
  rw[af (by rw[z8];exact h1)] at this;exact bY this
 rw[rM,rM,eu,fe (by rw[zi,y7]),zi,fe (by rw[ag,ag,lN]),show (List.map (λpl=>b6 (dJ (aH R ps mv.length) mv mv.length) i pl) (gR ps mv.length)).length=(gR ps mv.length).length from ag ..]
 have a1:(bL mv.length λc=>(aH R ps mv.length)[i].getD c 0*(fV mv pt st pu).getD c 0)=bL mv.length (λj=>st.getD j 0*b6 (dJ (aH R ps mv.length) mv mv.length) i j)+bL pt.length λk=>pu.getD k 0*bL mv.length λc=>b6 pt k c*(aH R ps mv.length)[i].getD c 0:=by
  have b1:(bL mv.length λc=>(aH R ps mv.length)[i].getD c 0*(fV mv pt st pu).getD c 0)=bL mv.length λc=>(bL mv.length λj=>st.getD j 0*(b6 mv c j*b6 (aH R ps mv.length) i c))+bL pt.length λk=>pu.getD k 0*(b6 pt k c*(aH R ps mv.length)[i].getD c 0):=aR λc hc=>by
   rw[K5 D ls lu hc]
   have c1:(bL mv.length λj=>st.getD j 0*(b6 mv c j*b6 (aH R ps mv.length) i c))=(aH R ps mv.length)[i].getD c 0*bL mv.length λj=>b6 mv c j*st.getD j 0:=by
    rw[<- cA];exact aR λj _=>by rw[fi];grind
   have c2:(bL pt.length λk=>pu.getD k 0*(b6 pt k c*(aH R ps mv.length)[i].getD c 0))=(aH R ps mv.length)[i].getD c 0*bL pt.length λk=>pu.getD k 0*b6 pt k c:=by
    rw[<- cA];exact aR λk _=>by grind
   rw[c1,c2];grind
  rw[b1,oF,eT,eT (m:=pt.length)];congr 1
  ·exact aR λj hj=>by rw[cA,Fc wN h1 hj]
  ·exact aR λk _=>by rw[cA]
 rw[a1,cZ (k:=pt.length) λk hk=>by rw[FQ KF D.n8 D.mw D.pw RR (aS h1) hk,gY],vT]
 have a2:(bL mv.length λj=>st.getD j 0*b6 (dJ (aH R ps mv.length) mv mv.length) i j)=bL mv.length λj=>bL (aH R ps mv.length).length λt=>b6 (dJ (aH R ps mv.length) mv mv.length) i ((gR ps mv.length).getD t 0)*(b6 (aH R ps mv.length) t j*st.getD j 0):=aR λj hj=>by
  rw[MQ KF D.n8 D.mw D.pw RR h1 hj,<- cA];exact aR λt _=>by grind
 rw[a2,eT,lN];refine aR λt ht=>?_
 rw[cA];have ht':t < (aH R ps mv.length).length:=by lia
 have e1:((gR ps mv.length).map λpl=>b6 (dJ (aH R ps mv.length) mv mv.length) i pl).getD t 0=b6 (dJ (aH R ps mv.length) mv mv.length) i ((gR ps mv.length).getD t 0):=by
  rw[aa,aF,af ht,aa,af ht];rfl
 have e2:((aH R ps mv.length).map λz=>dh z st).getD t 0=bL mv.length λj=>b6 (aH R ps mv.length) t j*st.getD j 0:=by
  rw[aa,aF,af ht'];show dh (aH R ps mv.length)[t] st=_
  have wt:=wN _ (aS ht');rw[fe (by rw[wt,ls]),wt];refine aR λj _=>?_
  unfold b6;rw[aa (l:=aH R ps mv.length),af ht'];rfl
 rw[e1,e2]
end
structure LQ (mv pt:LR9) (w T M1 M2 V a1 a2 c a0 c0 b:Nat):Prop where
 bd:Bd mv pt M1 M2 V a1 a2 c
 kf:mN mv pt a0 c0
 nm:∀r,r<=mv.length->2*((mv.length - r)*(r*((mv.length - 1)*(a0+c0)+4)+4)+r*((mv.length - 1)*(a0+c0)+4))<=3990
 kl:2*(mv.length*(c*mv.length+(a1*(mv.length - 1)+a2)+4)+(a1*(mv.length - 1)+a2))<=3990
 dr:∀l:List Rat,(∀x∈l,Dr (max w 6) x)->l.length<=mv.length+T*pt.length->∃B,0 < B/\B<=2^b/\∀x∈l,Fr B (2^22) x
 sz:4*(mv.length*((mv.length - 1)*(a0+c0)+4))+(a1+c)+(a1*(T+2)+a2+b+c*(T+2)+22)+20<=3900
section
variable {mv pt lk R:LR9} {ps:List Nat} {w T M1 M2 V a1 a2 c a0 c0 b:Nat}
theorem Rv:∀n,n < 9->∀r,r < 9->decide (r<=n->2*((n - r)*(r*((n - 1)*(0+13)+4)+4)+r*((n - 1)*(0+13)+4))<=3990)=true:=by decide +kernel
theorem Ro:∀n,n < 6->∀r,r < 6->decide (r<=n->2*((n - r)*(r*((n - 1)*(12+16)+4)+4)+r*((n - 1)*(12+16)+4))<=3990)=true:=by decide +kernel
theorem Rn:∀n,n < 3->∀r,r < 3->decide (r<=n->2*((n - r)*(r*((n - 1)*(240+32)+4)+4)+r*((n - 1)*(240+32)+4))<=3990)=true:=by decide +kernel
theorem Rm:∀n,n < 3->∀r,r < 3->decide (r<=n->2*((n - r)*(r*((n - 1)*(12+12)+4)+4)+r*((n - 1)*(12+12)+4))<=3990)=true:=by decide +kernel
theorem NG (R:Rg mv pt w) (D:ki mv pt lk) (S:StP mv pt T):∃M1 M2 V a1 a2 c a0 c0 b,LQ mv pt w (T+1) M1 M2 V a1 a2 c a0 c0 b:=by
 have i4:=D.i4;have n8:=D.n8;have small:w<=9->∀l:List Rat,(∀x∈l,Dr (max w 6) x)->l.length<=mv.length+(T+1)*pt.length->∃B,0 < B/\B<=2^12/\∀x∈l,Fr B (2^22) x:=λw9 l h _=>⟨2520,by decide,by decide,λx hx=>(LB ⟨ai (h x hx).1 (by lia),ai (h x hx).2 (by lia)⟩ (Jm _)).mono (by decide)⟩
 have wide:w=1000->∀t,(T+1)*pt.length<=t->mv.length<=2->∀l:List Rat,(∀x∈l,Dr (max w 6) x)->l.length<=mv.length+(T+1)*pt.length->∃B,0 < B/\B<=2^(22+10*t)/\∀x∈l,Fr B (2^22) x:=λw9 t ht n2 l h hl=>by
  obtain ⟨B,h0,h1,h2⟩:=JT (c:=10) (l:=l) (λx hx=>⟨ai (h x hx).1 (by rw[w9];decide),ai (h x hx).2 (by rw[w9];decide)⟩) (by decide);exact ⟨B,h0,ai h1 (ak (by decide) (by lia)),h2⟩
 have mul:∀{x y p q:Nat},x<=p->y<=q->x*y<=p*q:=λh h'=>aN h h'
 have T12:=S.1;rcases R with ⟨w9,X⟩ | ⟨w9,n5,X⟩ | ⟨w9,n2,M1,M2,X⟩
 ·have k1:(8+1)*9^3<=2^13:=by decide
  have e8:mv.length*((mv.length - 1)*(0+13)+4)<=8*95:=mul n8 (by lia);have e9:mv.length*(14*mv.length+(0*(mv.length - 1)+0)+4)<=8*116:=mul n8 (by lia);exact ⟨_,_,_,_,_,_,0,13,12,X,pz (n0:=8) X.m1 (by decide) n8 k1 X.gm X.gp (by decide),λr hr=>of_decide_eq_true (Rv _ (by lia) r (by lia)) hr,by lia,small w9,by lia⟩
 ·have k1:(5+1)*(9^3*9)<=2^16:=by decide
  have e8:mv.length*((mv.length - 1)*(12+16)+4)<=5*116:=mul n5 (by lia);have e9:mv.length*(16*mv.length+(12*(mv.length - 1)+12)+4)<=5*144:=mul n5 (by lia);exact ⟨_,_,_,_,_,_,12,16,12,X,pz (n0:=5) X.m1 (by decide) n5 k1 X.gm X.gp (by decide),λr hr=>of_decide_eq_true (Ro _ (by lia) r (by lia)) hr,by lia,small w9,by lia⟩
 ·by_cases T3:T<=3
  ·have m:(T+1)*pt.length<=4*4:=mul (by lia) i4;have k1:(2+1)*(9^3*2^20)<=2^32:=by decide
   have e8:mv.length*((mv.length - 1)*(240+32)+4)<=2*276:=mul n2 (by lia);have e9:mv.length*(33*mv.length+(80*(mv.length - 1)+160)+4)<=2*310:=mul n2 (by lia);have gm:GF (M1*M2) (9^3*2^20) mv:=λxs hx x hx'=>(X.gm xs hx x hx').dvd (Nat.dvd_mul_right _ _)
   have gp:GF (M1*M2) (9^3*2^20) pt:=λxs hx x hx'=>(X.gp xs hx x hx').dvd (iY _ _)
   exact ⟨M1,M2,_,80,160,33,240,32,182,X,pz (n0:=2) (cp X.m1 X.m2) (mul_pow X.b1 X.b2) n2 k1 gm gp (by decide),λr hr=>of_decide_eq_true (Rn _ (by lia) r (by lia)) hr,by lia,wide w9 16 m n2,by lia⟩
  ·obtain ⟨_,z | ⟨hd,_⟩⟩:=S
   ·exact absurd z T3
   have m:(T+1)*pt.length<=13*4:=mul (by lia) i4
   have gf:∀l:LR9,(∀xs∈l,xs∈mv++pt)->GF 2520 1000 l:=λl hl xs hx x hx'=>by
    have:=hd xs (hl xs hx) x hx';exact (Fr.own x (bg this.2)).dvd (Ja this.1)
   have X2:Bd mv pt 2520 2520 1000 12 12 13:=⟨by decide,by decide,by decide,by decide,gf mv λxs hx=>ax.mpr (.inl hx),gf pt λxs hx=>ax.mpr (.inr hx),ai (aB _ (show mv.length+4<=6 by lia)) (by decide)⟩;have k1:(2+1)*1000<=2^12:=by decide
   have e8:mv.length*((mv.length - 1)*(12+12)+4)<=2*28:=mul n2 (by lia);have e9:mv.length*(13*mv.length+(12*(mv.length - 1)+12)+4)<=2*54:=mul n2 (by lia);exact ⟨2520,2520,1000,12,12,13,12,12,542,X2,pz (n0:=2) (by decide) (by decide) n2 k1 X2.gm X2.gp (by decide),λr hr=>of_decide_eq_true (Rm _ (by lia) r (by lia)) hr,by lia,wide w9 52 m n2,by lia⟩
end
structure RI (mv pt R:LR9) (ps:List Nat):Prop where
 sz:∀xs∈aH R ps mv.length,∀x∈xs,mV x
 su:∀xs∈mX mv R ps,∀x∈xs,mV x
 lw:∃S,Q5 (aH R ps mv.length) mv.length S
 rk:∀Hd psd,bX (aH R ps mv.length) mv.length Hd psd->psd.length=(aH R ps mv.length).length
 fp:∀z∈aH R ps mv.length,∀xs∈pt,Ca z xs
structure QR (mv pt N U pus:LR9) (st:List Rat):Prop where
 en:RJ mv pt pus st
 f1:∀k,k<=pus.length->∀z∈N,Ca z (Cj mv pt st pus k)
 f2:∀k,k<=pus.length->∀u∈U,Ca u (N.map λz=>dh z (Cj mv pt st pus k))
 go:∀k pu,pus[k]?=some pu->(N.map λz=>dh z (fV mv pt (Cj mv pt st pus k) pu))=U.map λu=>dh u (N.map λz=>dh z (Cj mv pt st pus k))
section
variable {mv pt lk R:LR9} {ps:List Nat} {w T M1 M2 V a1 a2 c a0 c0 b:Nat} {st:List Rat}
theorem LQ.nt (Y:LQ mv pt w T M1 M2 V a1 a2 c a0 c0 b) (D:ki mv pt lk) (RR:bX (kry mv pt mv.length) mv.length R ps):∃q,0 < q/\q<=2^(ps.length*((mv.length - 1)*(a0+c0)+4))/\∀xs∈aH R ps mv.length,∀x∈xs,Tp q (2^(ps.length*((mv.length - 1)*(a0+c0)+4))) x:=by
 obtain ⟨q,q0,q1,q2⟩:=Y.kf.rtp D.n8 D.mw D.pw RR;refine ⟨q,q0,q1,λxs hx=>?_⟩;obtain ⟨z,_,_,rfl⟩:=rj hx;exact NK q0 q1 q2 RR
theorem LQ.un (Y:LQ mv pt w T M1 M2 V a1 a2 c a0 c0 b) (D:ki mv pt lk) (RR:bX (kry mv pt mv.length) mv.length R ps):∃q,0 < q/\q<=2^(mv.length*((mv.length - 1)*(a0+c0)+4))/\(∀xs∈aH R ps mv.length,∀x∈xs,Fr q (2^(mv.length*((mv.length - 1)*(a0+c0)+4))) x)/\∀xs∈mX mv R ps,∀x∈xs,Fr (M1*q) (2^(c+mv.length*((mv.length - 1)*(a0+c0)+4))) x:=by
 obtain ⟨q,q0,q1,q2⟩:=Y.nt D RR;have le:=RR.le;have up:2^(ps.length*((mv.length - 1)*(a0+c0)+4))<=2^(mv.length*((mv.length - 1)*(a0+c0)+4)):=ak (by decide) (aB _ le);have fr:∀xs∈aH R ps mv.length,∀x∈xs,Fr q (2^(mv.length*((mv.length - 1)*(a0+c0)+4))) x:=λxs hx x hx'=>((q2 xs hx x hx').fr q0).mono up
 refine ⟨q,q0,ai q1 up,fr,λxs hx x hx'=>?_⟩;obtain ⟨row,hr,rfl⟩:=az.mp hx;obtain ⟨pl,_,rfl⟩:=az.mp hx';obtain ⟨z,hz,rfl⟩:=az.mp hr;rw[aa,aF];cases e:(js mv mv.length)[pl]? with
 | none=>exact Fr.zero
 | some ys =>
  have my:=ar e;have f:=Fr.dot (Im Y.bd.gm ys my) (fr z hz);refine f.mono ?_;rw[CM ys my,bC,<- cE];exact aB _ (ai (aB V (show mv.length<=mv.length+4 by lia)) Y.bd.vc)
theorem LQ.nu (Y:LQ mv pt w T M1 M2 V a1 a2 c a0 c0 b) (D:ki mv pt lk) (RR:bX (kry mv pt mv.length) mv.length R ps):RI mv pt R ps:=by
 obtain ⟨q,q0,q1,fN,fU⟩:=Y.un D RR;obtain ⟨q',q0',q1',tN⟩:=Y.nt D RR;have sz:=Y.sz;have le:=RR.le;have n8:=D.n8;have nc:=y4 RR;generalize hE:mv.length*((mv.length - 1)*(a0+c0)+4)=E at *
 have x1:0<=a1*(T+2):=bo _;refine ⟨λxs hx x hx'=>zb q0 q1 (au _) (by lia) (fN xs hx x hx'),λxs hx x hx'=>zb (a:=a1+E) (cp Y.bd.m1 q0) ?_ (au _) (by lia) (fU xs hx x hx'),⟨_,LV.lws (w:=ps.length*((mv.length - 1)*(a0+c0)+4)) (a:=ps.length*((mv.length - 1)*(a0+c0)+4)) ⟨q',_,q0',q1',bQ,au _,tN,by lia,?_⟩ m6⟩,λHd psd RN=>?_,λz hz xs hx=>⟨E,E,a2,c,⟨q,_,q0,q1,au _,fN z hz⟩,⟨M2,V,Y.bd.m2,Y.bd.b2,?_,Y.bd.gp xs hx⟩,?_⟩⟩
 ·rw[bC];exact aN Y.bd.b1 q1
 ·have:=Y.nm ps.length le;rw[show min (aH R ps mv.length).length mv.length=mv.length - ps.length by lia];exact this
 ·have:=Hw RR bQ q0' tN RN
  lia
 ·exact ai (cH _ (by lia)) Y.bd.vc
 ·lia
theorem LQ.go (Y:LQ mv pt w T M1 M2 V a1 a2 c a0 c0 b) (D:ki mv pt lk) (RR:bX (kry mv pt mv.length) mv.length R ps) (ls:st.length=mv.length) (ds:∀x∈st,Dr (max w 6) x) {pus:LR9} (lp:pus.length=T) (hp:∀xs∈pus,xs.length=pt.length/\∀x∈xs,Dr (max w 6) x):QR mv pt (aH R ps mv.length) (mX mv R ps) pus st:=by
 obtain ⟨q,q0,q1,fN,fU⟩:=Y.un D RR;have B:=Y.bd;have n8:mv.length<=2^3:=D.n8;have wp:∀xs∈pus,xs.length=pt.length:=λxs hx=>(hp xs hx).1
 have lfl:∀l:LR9,(∀xs∈l,xs.length=pt.length)->l.flatten.length=l.length*pt.length:=by
  intro l
  induction l with
  | nil=>intro _;simp
  | cons x l ih =>
   intro h;rw[h6,av,ih λxs hx=>h xs (bT _ hx),h x (cT ..),bD,yH,tW,mD]
 obtain ⟨C,C0,C1,C2⟩:=Y.dr (st++pus.flatten) (λx hx=>by
  rcases ax.mp hx with h | h
  ·exact ds x h
  ·obtain ⟨xs,h1,h2⟩:=zW.mp h;exact (hp xs h1).2 x h2) (by rw[av,lfl pus wp,lp,ls];exact au _)
 have sz:=Y.sz;generalize hE:mv.length*((mv.length - 1)*(a0+c0)+4)=E at *
 have N0:0 < M2*C:=cp B.m2 C0;have hN:M2*C<=2^(a2+b):=by rw[bC];exact aN B.b2 C1
 have hs:∀x∈st,Fr (M2*C) (2^22) x:=λx hx=>(C2 x (hJ _ hx)).dvd (iY _ _)
 have hu:∀xs∈pus,∀x∈xs,Fr C (2^22) x:=λxs hx x hx'=>C2 x (bP _ (zW.mpr ⟨xs,hx,hx'⟩))
 have z1:a1*(T+2)=a1*(T+1)+a1:=by rw[show T+2=(T+1)+1 from rfl,dA,oW]
 have z2:c*(T+2)=c*(T+1)+c:=by rw[show T+2=(T+1)+1 from rfl,dA,oW]
 have s1:a1*(pus.length+1)+(a2+b)+c*(pus.length+1)+22<=3900:=by rw[lp];lia
 have s2:a2+c<=3900:=by lia
 have stt:=B.states D ls wp N0 hN (Jm _) hs hu s1 s2;have k1:∀k,k<=pus.length->a1*k<=a1*(T+1):=λk hk=>bx _ (by lia)
 have k2:∀k,k<=pus.length->c*k<=c*(T+1):=λk hk=>bx _ (by lia)
 refine ⟨⟨M1,M2,V,a1,a2,c,_,C,22,a2+b,B,N0,hN,Jm _,hs,hu,s1,s2⟩,λk hk z hz=>?_,λk hk u hu'=>?_,λk pu hpu=>?_⟩
 ·have:=k1 k hk;have:=k2 k hk;exact ⟨E,E,a1*k+(a2+b),c*k+22,⟨q,_,q0,q1,au _,fN z hz⟩,⟨_,_,cp (kz B.m1) N0,jZ B.b1 hN,au _,(stt k hk).1⟩,by lia⟩
 ·have:=k1 k hk;have:=k2 k hk;refine ⟨a1+E,c+E,E+(a1*k+(a2+b)),3+(E+(c*k+22)),⟨_,_,cp B.m1 q0,?_,au _,fU u hu'⟩,⟨q*(M1^k*(M2*C)),2^(3+(E+(c*k+22))),cp q0 (cp (kz B.m1) N0),?_,au _,λx hx=>?_⟩,by lia⟩
  ·rw[bC];exact aN B.b1 q1
  ·rw[bC];exact aN q1 (jZ B.b1 hN)
  ·obtain ⟨z,hz,rfl⟩:=az.mp hx;refine (Fr.dot (fN z hz) (stt k hk).1).mono ?_;rw[m6 z hz,bC 2 3,bC 2 E];exact aB _ n8
 ·have hk:k < pus.length:=(aD.mp hpu).1;exact M6 Y.kf D RR (D3 ls (by lia)) (wp pu (ar hpu))
theorem LQ.kry (Y:LQ mv pt w T M1 M2 V a1 a2 c a0 c0 b) (D:ki mv pt lk) (T1:1<=T):Q6 mv pt mv.length/\∃S,Q5 (L2.kry mv pt mv.length) mv.length S:=by
 have B:=Y.bd;have kl:=Y.kl;have n8:=D.n8;have s0:=Y.sz;by_cases n0:mv.length=0
 ·have e1:∀x y:Nat,x<=x*(y+2):=λx y=>de _ (by lia)
  have:=e1 a1 T;have e2:c*2<=c*(T+2):=bx _ (by lia);refine ⟨⟨M1,M2,V,a1,a2,c,B,by rw[n0,Ar,Ar,oW];lia⟩,⟨_,LV.lws (w:=c*mv.length+(a1*(mv.length - 1)+a2)) (a:=a1*(mv.length - 1)+a2) ⟨M1^(mv.length - 1)*M2,2^(c*mv.length+(a1*(mv.length - 1)+a2)),cp (kz B.m1) B.m2,jZ B.b1 B.b2,bQ,au _,λxs hx x hx'=>Tp.of (B.kry D _ xs hx x hx') (by rw[bC];exact bx _ (jZ B.b1 B.b2)),by lia,?_⟩ (ik rfl D.pw _)⟩⟩;have:min (L2.kry mv pt mv.length).length mv.length*(c*mv.length+(a1*(mv.length - 1)+a2)+4)<=mv.length*(c*mv.length+(a1*(mv.length - 1)+a2)+4):=aB _ (by lia)
  lia
 ·have e0:c*mv.length+(a1*(mv.length - 1)+a2)+4<=mv.length*(c*mv.length+(a1*(mv.length - 1)+a2)+4):=cH _ (by lia)
  have e1:a1*(mv.length+1)=a1*(mv.length - 1)+2*a1:=by
   rw[show mv.length+1=(mv.length - 1)+2 by lia,dA,bV a1 2]
  have e2:c*(mv.length+2)=c*mv.length+2*c:=by rw[dA,bV c 2]
  have e3:2*a1<=a1*(T+2):=by rw[bV 2];exact bx _ (by lia)
  have e4:2*c<=c*(T+2):=by rw[bV 2];exact bx _ (by lia)
  refine ⟨⟨M1,M2,V,a1,a2,c,B,?_⟩,⟨_,LV.lws (w:=c*mv.length+(a1*(mv.length - 1)+a2)) (a:=a1*(mv.length - 1)+a2) ⟨M1^(mv.length - 1)*M2,2^(c*mv.length+(a1*(mv.length - 1)+a2)),cp (kz B.m1) B.m2,jZ B.b1 B.b2,bQ,au _,λxs hx x hx'=>Tp.of (B.kry D _ xs hx x hx') (by rw[bC];exact bx _ (jZ B.b1 B.b2)),by lia,?_⟩ (ik rfl D.pw _)⟩⟩
  ·rw[e1,e2];have e5:3*a1<=a1*(T+2):=by rw[bV 3];exact bx _ (by lia)
   have e6:3*c<=c*(T+2):=by rw[bV 3];exact bx _ (by lia)
   by_cases n1:mv.length=1
   ·rw[n1,mC,As,oW]
    lia
   ·have e7:2*(c*mv.length+(a1*(mv.length - 1)+a2)+4)<=mv.length*(c*mv.length+(a1*(mv.length - 1)+a2)+4):=aB _ (by lia)
    lia
  have:min (L2.kry mv pt mv.length).length mv.length*(c*mv.length+(a1*(mv.length - 1)+a2)+4)<=mv.length*(c*mv.length+(a1*(mv.length - 1)+a2)+4):=aB _ (by lia)
  lia
end
theorem MV {mv pt lk R:LR9} {ps:List Nat} {a c:Nat} (KF:mN mv pt a c) (D:ki mv pt lk) (RR:bX (kry mv pt mv.length) mv.length R ps) {z:List Rat} (hz:z∈aH R ps mv.length):(pt.map λxs=>dh z xs)=pt.map λ_=>(0:Rat):=by
 refine vg λxs hx=>?_
 obtain ⟨k,hk,rfl⟩:=bR hx;have wz:=m6 z hz;rw[fe (by rw[wz,D.pw _ hx]),wz];refine Eq.trans (aR λc _=>?_) (FQ KF D.n8 D.mw D.pw RR hz hk);unfold b6;rw[aa (l:=pt),af hk,dS];rfl
inductive CP (K:FG9) (C:Addr) (vs:List V) (H:Hp) (Q:VK) (E9:XK):Prop
 | mk (x:Addr) (a c:Nat) (H0:Hp) (mv pt lk:LR9):vs=[.ref x]->rH K H0 H C x mv pt lk->ki mv pt lk->mN mv pt a c->(∀t r q R ps Hm H',H' t=some (.tup [.ref r,.ref q])->aG H Hm->aG Hm H'->H r=none->bI K H Hm r (aH R ps mv.length)->Hm q=none->bI K Hm H' q (mX mv R ps)->bX (kry mv pt mv.length) mv.length R ps->Q (.ref t) H')->CP K C vs H Q E9
inductive CO (K:FG9) (vs:List V) (H:Hp) (Q:VK) (E9:XK):Prop
 | mk (p q:Addr) (n:Nat) (H0 H1:Hp) (N U:LR9):vs=[.ref p,.ref q,.int n]->bI K H0 H p N->bI K H1 H q U->N.length<=100->n<=100->U.length=N.length->(∀xs∈N,xs.length=n/\∀x∈xs,mV x)->(∀xs∈U,xs.length=N.length/\∀x∈xs,mV x)->(∀H',aG H H'->Q (.bl true) H')->CO K vs H Q E9
inductive Df (K:FG9) (vs:List V) (H:Hp) (Q:VK) (E9:XK):Prop
 | mk (r p q s o:Addr) (H0 H1 H2 H3:Hp) (mv pt lk N U pus:LR9) (st:List Rat):vs=[.ref r,.ref p,.ref q,.ref s,.ref o]->fH K H0 H r mv pt lk->ki mv pt lk->bI K H1 H p N->bI K H2 H q U->N.length<=100->U.length=N.length->(∀xs∈N,xs.length=mv.length)->(∀xs∈U,xs.length=N.length)->cX K H s st->st.length=mv.length->bI K H3 H o pus->pus.length<=100->(∀xs∈pus,xs.length=pt.length)->QR mv pt N U pus st->(∀H',aG H H'->Q (.bl true) H')->Df K vs H Q E9
end L2
open L2
local macro_rules | `(tactic| walk_at "hl") => `(tactic| first | (show _ ≤ sizeLine; with_unfolding_all decide) | (with_unfolding_all exact (by decide)))
local macro_rules | `(tactic| walk_at "sq") => `(tactic| first | with_reducible assumption | with_reducible exact kj.of (by assumption) | with_reducible exact bO.of (by assumption) | with_reducible exact kj.of aI | with_reducible exact bO.of aI | assumption)
local macro_rules | `(tactic| walk_at "sc") => `(tactic| first | (with_reducible show (0 : Int) < _; decide) | with_reducible exact Nh (by decide) (by decide) | with_reducible exact Je (by decide) (by decide) | with_reducible exact cpow_of (by decide) (by decide) (by decide))
local macro_rules | `(tactic| walk_at "rd") => `(tactic| first
  | with_reducible refine Ou ?_
  | with_reducible refine Mu ?_
  | with_reducible refine OH ?_
  | with_reducible refine KE ?_
  | ((with_reducible refine' Oo ?hx1 ?_); (case hx1 => with_unfolding_all rfl))
  | with_reducible refine Rh ?_
  | with_reducible refine Qh ?_
  | with_reducible refine Qk ?_
  | with_reducible refine Qc ?_
  | with_reducible refine Ri ?_
  | with_reducible refine OG ?_
  | with_reducible refine Oz ?_
  | with_reducible refine rd_eqS ?_
  | with_reducible refine rd_neS ?_
  | with_reducible refine rd_eqB ?_
  | with_reducible refine rd_neB ?_
  | with_reducible refine Mw ?_
  | with_reducible refine GZ ?_
  | with_reducible refine OF ?_
  | with_reducible refine Mr ?_
  | with_reducible refine rd_meth ?_
  | with_reducible refine Mv ?_
  | with_reducible refine KD ?_
  | with_reducible refine Mp ?_
  | with_reducible refine Qd ?_
  | with_reducible refine Ov ?_
  | with_reducible refine rd_retN ?_
  | with_reducible refine OC ?_
  | with_reducible refine OI ?_
  | with_reducible refine Qg ?_
  | with_reducible refine Ox ?_
  | with_reducible refine MI ?_
  | with_reducible refine rd_orV ?_
  | with_reducible refine Mt ?_
  | with_reducible refine OD ?_
  | with_reducible refine Om ?_
  | with_reducible refine Lf ?_
  | with_reducible refine Qv ?_
  | with_reducible refine Qw ?_
  | with_reducible refine Qx ?_
  | with_reducible refine NH ?_
  | with_reducible refine Oy ?_
  | with_reducible refine ME ?_
  | with_reducible refine Oq ?_
  | with_reducible refine OA ?_
  | with_reducible refine MG ?_
  | with_reducible refine Qi ?_
  | with_reducible refine MD ?_
  | with_reducible refine Ow ?_
  | with_reducible refine MH ?_
  | ((with_reducible refine' rd_aug ?hx1 ?_); (case hx1 => with_unfolding_all rfl))
  | with_reducible refine OB ?_
  | with_reducible refine Mz ?_
  | with_reducible refine KG ?_
  | with_reducible refine MB ?_
  | with_reducible refine Qf ?_
  | with_reducible refine Jy ?_
  | with_reducible refine Ms ?_
  | with_reducible refine OE ?_
  | with_reducible refine KC ?_
  | with_reducible refine Mx ?_
  | with_reducible refine KA ?_
  | with_reducible refine Kz ?_
  | ((with_reducible refine' MF ?hx1 ?_); (case hx1 => with_unfolding_all rfl))
  | with_reducible refine Mo ?_
  | with_reducible refine Qj ?_
  | with_reducible refine rd_bm0 ?_
  | with_reducible refine rd_brk ?_
  | ((with_reducible refine' My ?hx1 ?hx2 ?_); (case hx1 => walk_at "sq"); (case hx2 => with_unfolding_all rfl))
  | with_reducible refine rd_cont ?_
  | ((with_reducible refine' fD ?hx1 ?_); (case hx1 => walk_at "sc"))
  | ((with_reducible refine' Ho ?hx1 ?hx2 ?_); (case hx1 => walk_at "sq"); (case hx2 => with_unfolding_all rfl))
  | ((with_reducible refine' cz ?hx1 ?hx2 ?_); (case hx1 => walk_at "sq"); (case hx2 => with_unfolding_all rfl))
  | ((with_reducible refine' MC ?hx1 ?hx2 ?_); (case hx1 => walk_at "sq"); (case hx2 => with_unfolding_all rfl))
  | ((with_reducible refine' eY ?hx1 ?hx2 ?hx3 ?_); (case hx1 => with_reducible first | assumption | exact aI); (case hx2 => with_unfolding_all rfl); (case hx3 => with_unfolding_all rfl))
  | with_reducible refine ⟨_, rfl, ?_⟩
  | with_reducible refine ⟨_, _, rfl, ?_⟩)
local macro_rules | `(tactic| walk_at "w") => `(tactic| repeat walk_at "rd")
local macro_rules | `(tactic| walk_at "d") => `(tactic| exact ⟨rfl,rfl,rfl,by decide +kernel,rfl,by decide +kernel,by decide +kernel⟩)
namespace Lw
open PySem PySem.Spec PyProof.Rows L2 Nm
set_option maxHeartbeats 4000000
def top (i:Nat):Stmt:=PySem.Challenge.pw_helmsum_k49_own_way.main.body.getD i (.Pass ⟨0,0,0,0⟩)
abbrev kI:Stmt:=top 52
abbrev jx:Stmt:=top 53
abbrev fR:Stmt:=top 69
abbrev jF:Stmt:=top 71
abbrev kG:Stmt:=top 54
abbrev kE:Stmt:=top 55
abbrev jB:Stmt:=top 62
abbrev jA:Stmt:=top 57
abbrev oy:Stmt:=top 64
abbrev iG:Stmt:=top 66
abbrev eE:Stmt:=top 72
abbrev gL:Stmt:=top 59
abbrev kF:Stmt:=top 60
abbrev jD:Stmt:=top 65
abbrev iF:Stmt:=top 67
abbrev gK:Stmt:=top 73
abbrev jt:Stmt:=top 48
abbrev kD:Stmt:=top 9
abbrev eC:Stmt:=top 10
abbrev jw:Stmt:=top 12
abbrev rg:Stmt:=top 16
abbrev gJ:Stmt:=top 49
abbrev dR:Stmt:=inClass (top 50) 0
abbrev gN:Stmt:=top 68
abbrev jE:Stmt:=top 74
abbrev jv:Stmt:=top 18
abbrev dQ:Stmt:=top 11
abbrev eV:Stmt:=top 17
abbrev iB:Stmt:=top 29
abbrev ow:Stmt:=top 31
abbrev iC:Stmt:=top 30
abbrev vm:Stmt:=top 32
abbrev rf:Stmt:=top 13
abbrev oo:Stmt:=top 33
abbrev oj:Stmt:=top 19
abbrev ou:Stmt:=top 22
abbrev iu:Stmt:=top 38
abbrev gG:Stmt:=top 39
abbrev ir:Stmt:=top 40
abbrev kC:Stmt:=top 20
abbrev eU:Stmt:=top 26
abbrev ot:Stmt:=top 27
abbrev vo:Stmt:=top 14
abbrev oq:Stmt:=top 35
abbrev gI:Stmt:=top 28
abbrev vn:Stmt:=top 36
abbrev gH:Stmt:=top 23
abbrev iw:Stmt:=top 24
abbrev iq:Stmt:=top 42
abbrev ju:Stmt:=top 43
abbrev eG:Stmt:=top 78
abbrev gM:Stmt:=top 79
abbrev fB:Stmt:=top 80
abbrev eF:Stmt:=top 83
abbrev jy:Stmt:=top 58
abbrev jG:Stmt:=top 56
abbrev iH:Stmt:=top 63
abbrev jH:Stmt:=top 81
abbrev kH:Stmt:=top 61
abbrev ox:Stmt:=top 70
abbrev iI:Stmt:=top 82
abbrev jC:Stmt:=top 77
abbrev jJ:Stmt:=top 86
abbrev jz:Stmt:=top 76
abbrev iD:Stmt:=top 75
abbrev jI:Stmt:=top 84
abbrev iE:Stmt:=top 85
abbrev Dj:Stmt:=top 87
set_option genInjectivity false in
set_option genSizeOf false in
structure Ads where
 tD:Addr
 sT:FuncData
 p4:Addr
 pF:FuncData
 nP:Addr
 nD:FuncData
 qj:Addr
 pN:FuncData
 tx:Addr
 sR:FuncData
 tu:Addr
 sP:FuncData
 p9:Addr
 pJ:FuncData
 p7:Addr
 pI:FuncData
 vO:Addr
 vE:FuncData
 nR:Addr
 nF:FuncData
 iS:Addr
 iL:FuncData
 ma:Addr
 lJ:FuncData
 tw:Addr
 sQ:FuncData
 qh:Addr
 pL:FuncData
 nQ:Addr
 nE:FuncData
 lZ:Addr
 lI:FuncData
 pX:Addr
 pA:FuncData
 tm:Addr
 sO:FuncData
 iQ:Addr
 iK:FuncData
 p0:Addr
 pE:FuncData
 yD:Addr
 ym:FuncData
 lY:Addr
 lH:FuncData
 gX:Addr
 gV:FuncData
 mh:Addr
 lM:FuncData
 qi:Addr
 pM:FuncData
 pZ:Addr
 pC:FuncData
 gW:Addr
 gU:FuncData
 ji:Addr
 jf:FuncData
 nM:Addr
 nA:FuncData
 vL:Addr
 vC:FuncData
 nN:Addr
 nB:FuncData
 Al:Addr
 Ah:FuncData
 yC:Addr
 yj:FuncData
 vH:Addr
 vw:FuncData
 vG:Addr
 vv:FuncData
 vK:Addr
 vB:FuncData
 nK:Addr
 nk:FuncData
 lV:Addr
 lE:FuncData
 nJ:Addr
 ni:FuncData
 tj:Addr
 sN:FuncData
 jh:Addr
 je:FuncData
 vJ:Addr
 vA:FuncData
 An:Addr
 Aj:FuncData
 vI:Addr
 vz:FuncData
 lX:Addr
 lG:FuncData
 Am:Addr
 Ai:FuncData
 lW:Addr
 lF:FuncData
 nL:Addr
 nv:FuncData
 nI:Addr
 nh:FuncData
 pY:Addr
 pB:FuncData
 iU:Addr
 iN:FuncData
 md:Addr
 lK:FuncData
 kh:Addr
 ke:FuncData
 iT:Addr
 iM:FuncData
 p5:Addr
 pG:FuncData
 qo:Addr
 pO:FuncData
 nU:Addr
 nG:FuncData
 qv:Addr
 pP:FuncData
 tz:Addr
 sS:FuncData
 vM:Addr
 vD:FuncData
 nV:Addr
 nH:FuncData
 qg:Addr
 pK:FuncData
 qA:Addr
 pQ:FuncData
 p6:Addr
 pH:FuncData
 nO:Addr
 nC:FuncData
 mM:Addr
 mJ:FuncData
 kg:Addr
 kd:FuncData
 LP:Addr
 LG:FuncData
 a_NOUGHT:Addr
 a_ONE:Addr
 t_MOST_STATES:Tok
 t_MOST_PUTS:Tok
 t_MOST_LOOKS:Tok
 a_System:Addr
structure Txt (K:W.Frag) (mg:Str->Option Value) (Z:Ads):Prop where
 zF:mg "_law_bag"=some (.ref Z.tD)
 BU:Binds K Z.sT ["_law_script"] []
 xr:h9 K "_law_bag" "_law_bag" kI Z.tD Z.sT
 aX:mg "_law_take"=some (.ref Z.p4)
 bu:Binds K Z.pF ["_law_bag_here","_law_many"] []
 bp:h9 K "_law_take" "_law_take" jx Z.p4 Z.pF
 wB:mg "_law_sizes"=some (.ref Z.nP)
 yz:Binds K Z.nD ["_law_bag_here"] []
 tO:h9 K "_law_sizes" "_law_sizes" fR Z.nP Z.nD
 m9:mg "_law_line"=some (.ref Z.qj)
 pU:Binds K Z.pN ["_law_bag_here","_law_n"] []
 mQ:h9 K "_law_line" "_law_line" jF Z.qj Z.pN
 eZ:mg "_law_low"=some (.ref Z.tx)
 fW:Binds K Z.sR ["_law_top","_law_bottom"] []
 fo:h9 K "_law_low" "_law_low" kG Z.tx Z.sR
 mI:mg "_law_sum"=some (.ref Z.tu)
 oT:Binds K Z.sP ["_law_one","_law_other"] []
 kX:h9 K "_law_sum" "_law_sum" kE Z.tu Z.sP
 so:mg "_law_plus"=some (.ref Z.p9)
 uR:Binds K Z.pJ ["_law_one","_law_other"] []
 qC:h9 K "_law_plus" "_law_plus" jB Z.p9 Z.pJ
 j8:mg "_law_prod"=some (.ref Z.p7)
 mK:Binds K Z.pI ["_law_one","_law_other"] []
 jS:h9 K "_law_prod" "_law_prod" jA Z.p7 Z.pI
 kQ:mg "_law_by"=some (.ref Z.vO)
 oA:Binds K Z.vE ["_law_by_here","_law_row_here"] []
 lg:h9 K "_law_by" "_law_by" oy Z.vO Z.vE
 qO:mg "_law_mixed"=some (.ref Z.nR)
 sZ:Binds K Z.nF ["_law_bag_here","_law_move_here","_law_put","_law_look"] []
 nZ:h9 K "_law_mixed" "_law_mixed" iG Z.nR Z.nF
 o9:mg "_law_two_lines"=some (.ref Z.iS)
 rE:Binds K Z.iL ["_law_bag_here"] []
 kW:h9 K "_law_two_lines" "_law_two_lines" eE Z.iS Z.iL
 uI:mg "_law_number"=some (.ref Z.ma)
 wI:Binds K Z.lJ ["_law_bag_here","_law_wide"] []
 qV:h9 K "_law_number" "_law_number" gL Z.ma Z.lJ
 jM:mg "_law_row"=some (.ref Z.tw)
 kS:Binds K Z.sQ ["_law_bag_here","_law_many","_law_wide"] []
 jq:h9 K "_law_row" "_law_row" kF Z.tw Z.sQ
 xX:mg "_law_move"=some (.ref Z.qh)
 zM:Binds K Z.pL ["_law_bag_here","_law_n","_law_way","_law_first","_law_wide"] []
 uZ:h9 K "_law_move" "_law_move" jD Z.qh Z.pL
 wC:mg "_law_parts"=some (.ref Z.nQ)
 yA:Binds K Z.nE ["_law_bag_here","_law_n","_law_ins","_law_outs","_law_wide"] []
 tP:h9 K "_law_parts" "_law_parts" iF Z.nQ Z.nE
 uH:mg "_law_system"=some (.ref Z.lZ)
 wH:Binds K Z.lI ["_law_bag_here"] []
 qU:h9 K "_law_system" "_law_system" gK Z.lZ Z.lI
 m7:mg "want_list"=some (.ref Z.pX)
 pR:Binds K Z.pA ["thing","at","most"] []
 mO:h9 K "want_list" "want_list" jt Z.pX Z.pA
 uF:mg "is_whole"=some (.ref Z.tm)
 xn:Binds K Z.sO ["thing"] []
 tH:h9 K "is_whole" "is_whole" kD Z.tm Z.sO
 gQ:mg "common_divisor"=some (.ref Z.iQ)
 iP:Binds K Z.iK ["one","other"] []
 fJ:h9 K "common_divisor" "common_divisor" eC Z.iQ Z.iK
 xT:mg "is_number"=some (.ref Z.p0)
 zI:Binds K Z.pE ["thing"] []
 uV:h9 K "is_number" "is_number" jw Z.p0 Z.pE
 Ds:mg "is_row"=some (.ref Z.yD)
 Gu:Binds K Z.ym ["thing","many"] []
 Cb:h9 K "is_row" "is_row" rg Z.yD Z.ym
 j7:mg "copied_rows"=some (.ref Z.lY)
 lQ:Binds K Z.lH ["things","wide"] []
 ja:h9 K "copied_rows" "copied_rows" gJ Z.lY Z.lH
 pW:Binds K Z.gV ["self","move","put","look"] []
 qE:h9 K "__init__" "System.__init__" dR Z.gX Z.gV
 j9:mg "_law_copied"=some (.ref Z.mh)
 lS:Binds K Z.lM ["_law_grid"] []
 jb:h9 K "_law_copied" "_law_copied" gN Z.mh Z.lM
 xY:mg "_law_made"=some (.ref Z.qi)
 zN:Binds K Z.pM ["_law_parts_here"] []
 va:h9 K "_law_made" "_law_made" jE Z.qi Z.pM
 m8:mg "tops_over"=some (.ref Z.pZ)
 pS:Binds K Z.pC ["row","bottom"] []
 mP:h9 K "tops_over" "tops_over" jv Z.pZ Z.pC
 oQ:mg "common_multiple"=some (.ref Z.gW)
 pT:Binds K Z.gU ["wholes"] []
 kq:h9 K "common_multiple" "common_multiple" dQ Z.gW Z.gU
 iJ:mg "common_bottom"=some (.ref Z.ji)
 jg:Binds K Z.jf ["row"] []
 gA:h9 K "common_bottom" "common_bottom" eV Z.ji Z.jf
 we:mg "first_with"=some (.ref Z.nM)
 yw:Binds K Z.nA ["lines","begin","place"] []
 tJ:h9 K "first_with" "first_with" iB Z.nM Z.nA
 Bt:mg "cleared"=some (.ref Z.vL)
 DN:Binds K Z.vC ["lines","at","place","before"] []
 zx:h9 K "cleared" "cleared" ow Z.vL Z.vC
 wg:mg "brought_up"=some (.ref Z.nN)
 yx:Binds K Z.nB ["lines","at","to"] []
 tK:h9 K "brought_up" "brought_up" iC Z.nN Z.nB
 FU:mg "swept"=some (.ref Z.Al)
 Jg:Binds K Z.Ah ["rows","wide"] []
 EY:h9 K "swept" "swept" vm Z.Al Z.Ah
 vq:mg "lowest"=some (.ref Z.yC)
 yu:Binds K Z.yj ["top","bottom"] []
 uU:h9 K "lowest" "lowest" rf Z.yC Z.yj
 xg:mg "reduced"=some (.ref Z.vH)
 zg:Binds K Z.vw ["rows","wide"] []
 vP:h9 K "reduced" "reduced" oo Z.vH Z.vw
 Bq:mg "row_dot"=some (.ref Z.vG)
 DL:Binds K Z.vv ["one","other"] []
 zv:h9 K "row_dot" "row_dot" oj Z.vG Z.vv
 xi:mg "grid_on"=some (.ref Z.vK)
 zj:Binds K Z.vB ["grid","row"] []
 vR:h9 K "grid_on" "grid_on" ou Z.vK Z.vB
 wb:mg "moved_rows"=some (.ref Z.nK)
 yt:Binds K Z.nk ["system","rows"] []
 tG:h9 K "moved_rows" "moved_rows" iu Z.nK Z.nk
 uy:mg "reach_grown"=some (.ref Z.lV)
 wF:Binds K Z.lE ["system","steps"] []
 qS:h9 K "reach_grown" "reach_grown" gG Z.lV Z.lE
 qM:mg "reach_rows"=some (.ref Z.nJ)
 sX:Binds K Z.ni ["system","steps"] []
 nY:h9 K "reach_rows" "reach_rows" ir Z.nJ Z.ni
 zE:mg "unit_row"=some (.ref Z.tj)
 BS:Binds K Z.sN ["many","at"] []
 xp:h9 K "unit_row" "unit_row" kC Z.tj Z.sN
 rn:mg "leading_place"=some (.ref Z.jh)
 tU:Binds K Z.je ["row"] []
 mW:h9 K "leading_place" "leading_place" eU Z.jh Z.je
 xh:mg "leading"=some (.ref Z.vJ)
 zh:Binds K Z.vA ["rows"] []
 vQ:h9 K "leading" "leading" ot Z.vJ Z.vA
 FV:mg "minus"=some (.ref Z.An)
 Jh:Binds K Z.Aj ["one","other"] []
 EZ:h9 K "minus" "minus" vo Z.An Z.Aj
 Bs:mg "null_at"=some (.ref Z.vI)
 DM:Binds K Z.vz ["rows","wide","at"] []
 zw:h9 K "null_at" "null_at" oq Z.vI Z.vz
 oP:mg "free_places"=some (.ref Z.lX)
 qQ:Binds K Z.lG ["rows","wide"] []
 mi:h9 K "free_places" "free_places" gI Z.lX Z.lG
 Br:mg "nulls"=some (.ref Z.Am)
 EN:Binds K Z.Ai ["rows","wide"] []
 Ap:h9 K "nulls" "nulls" vn Z.Am Z.Ai
 uG:mg "grid_turned"=some (.ref Z.lW)
 wG:Binds K Z.lF ["grid","wide"] []
 qT:h9 K "grid_turned" "grid_turned" gH Z.lW Z.lF
 wd:mg "grid_times"=some (.ref Z.nL)
 yv:Binds K Z.nv ["one","other","wide"] []
 tI:h9 K "grid_times" "grid_times" iw Z.nL Z.nv
 wa:mg "taken_over"=some (.ref Z.nI)
 yr:Binds K Z.nh ["system","rows"] []
 tF:h9 K "taken_over" "taken_over" iq Z.nI Z.nh
 r8:mg "unsteered"=some (.ref Z.pY)
 uQ:Binds K Z.pB ["system"] []
 qB:h9 K "unsteered" "unsteered" ju Z.pY Z.pB
 ph:mg "_law_is_number"=some (.ref Z.iU)
 rG:Binds K Z.iN ["_law_thing"] []
 kZ:h9 K "_law_is_number" "_law_is_number" eG Z.iU Z.iN
 uJ:mg "_law_is_row"=some (.ref Z.md)
 wJ:Binds K Z.lK ["_law_thing","_law_many"] []
 qW:h9 K "_law_is_row" "_law_is_row" gM Z.md Z.lK
 mU:mg "_law_is_grid"=some (.ref Z.kh)
 oU:Binds K Z.ke ["_law_thing","_law_many","_law_wide"] []
 kv:h9 K "_law_is_grid" "_law_is_grid" fB Z.kh Z.ke
 pe:mg "_law_rows_well"=some (.ref Z.iT)
 rF:Binds K Z.iM ["_law_rows","_law_weights","_law_n"] []
 kY:h9 K "_law_rows_well" "_law_rows_well" eF Z.iT Z.iM
 xU:mg "_law_quot"=some (.ref Z.p5)
 zJ:Binds K Z.pG ["_law_one","_law_other"] []
 uW:h9 K "_law_quot" "_law_quot" jy Z.p5 Z.pG
 xZ:mg "_law_less"=some (.ref Z.qo)
 zO:Binds K Z.pO ["_law_one","_law_other"] []
 vd:h9 K "_law_less" "_law_less" jG Z.qo Z.pO
 qP:mg "_law_minus"=some (.ref Z.nU)
 td:Binds K Z.nG ["_law_one","_law_other"] []
 oa:h9 K "_law_minus" "_law_minus" iH Z.nU Z.nG
 sv:mg "_law_lean"=some (.ref Z.qv)
 uS:Binds K Z.pP ["_law_rows","_law_wide"] []
 qD:h9 K "_law_lean" "_law_lean" jH Z.qv Z.pP
 jN:mg "_law_dot"=some (.ref Z.tz)
 kT:Binds K Z.sS ["_law_one","_law_other"] []
 jr:h9 K "_law_dot" "_law_dot" kH Z.tz Z.sS
 xj:mg "_law_on"=some (.ref Z.vM)
 zm:Binds K Z.vD ["_law_grid","_law_row_here"] []
 vS:h9 K "_law_on" "_law_on" ox Z.vM Z.vD
 wD:mg "_law_added"=some (.ref Z.nV)
 yB:Binds K Z.nH ["_law_parts_here","_law_steps_here"] []
 tQ:h9 K "_law_added" "_law_added" iI Z.nV Z.nH
 xW:mg "_law_next"=some (.ref Z.qg)
 zL:Binds K Z.pK ["_law_parts_here","_law_state","_law_puts_here"] []
 uY:h9 K "_law_next" "_law_next" jC Z.qg Z.pK
 ya:mg "_law_goes"=some (.ref Z.qA)
 zP:Binds K Z.pQ ["_law_parts_here","_law_rows","_law_weights","_law_start","_law_puts_here"] []
 ve:h9 K "_law_goes" "_law_goes" jJ Z.qA Z.pQ
 xV:mg "_law_puts"=some (.ref Z.p6)
 zK:Binds K Z.pH ["_law_bag_here","_law_parts_here","_law_steps_here","_law_wide"] []
 uX:h9 K "_law_puts" "_law_puts" jz Z.p6 Z.pH
 wA:mg "_law_steps"=some (.ref Z.nO)
 yy:Binds K Z.nC ["_law_bag_here","_law_parts_here"] []
 tL:h9 K "_law_steps" "_law_steps" iD Z.nO Z.nC
 ng:mg "_law_kept"=some (.ref Z.mM)
 pV:Binds K Z.mJ ["_law_thing"] []
 jT:h9 K "_law_kept" "_law_kept" jI Z.mM Z.mJ
 qN:mg "_law_spoil"=some (.ref Z.kg)
 sY:Binds K Z.kd ["_law_thing"] []
 ks:h9 K "_law_spoil" "_law_spoil" iE Z.kg Z.kd
 N6:h9 K "law" "law" Dj Z.LP Z.LG
 abs:mg "abs"=none
 len:mg "len"=none
 min:mg "min"=none
 int:mg "int"=none
 range:mg "range"=none
 isinstance:mg "isinstance"=none
 list:mg "list"=none
 bool:mg "bool"=none
 tuple:mg "tuple"=none
 all:mg "all"=none
 enumerate:mg "enumerate"=none
 zip:mg "zip"=none
 sum:mg "sum"=none
 max:mg "max"=none
 mg_NOUGHT:mg "NOUGHT"=some (.ref Z.a_NOUGHT)
 sq_NOUGHT:∀H,kj K H Z.a_NOUGHT [.int 0,.int 1]
 mg_ONE:mg "ONE"=some (.ref Z.a_ONE)
 sq_ONE:∀H,kj K H Z.a_ONE [.int 1,.int 1]
 mg_MOST_STATES:mg "MOST_STATES"=some (.int 8 Z.t_MOST_STATES)
 mg_MOST_PUTS:mg "MOST_PUTS"=some (.int 4 Z.t_MOST_PUTS)
 mg_MOST_LOOKS:mg "MOST_LOOKS"=some (.int 4 Z.t_MOST_LOOKS)
 mg_System:mg "System"=some (.ref Z.a_System)
 cl_System:LX K Z.a_System
 na_move:kn K Z.a_System "move"
 na_states:kn K Z.a_System "states"
 na_put:kn K Z.a_System "put"
 na_ins:kn K Z.a_System "ins"
 na_look:kn K Z.a_System "look"
 na_outs:kn K Z.a_System "outs"
 mk_System:Mk K Z.a_System Z.gX
section
variable {P:Program} {w:World} {K:W.Frag} {mg:Str->Option Value} {base:Heap} {Z:Ads}
theorem FA:bf ["_law_script"] ["_law_script"] (ay kI):=by walk_at "d"
theorem FO (T:Txt K mg Z):cJ P w K mg base gE 1 Z.tD Z.sT ["_law_script"] (Ks K):=by
 refine T.xr.ok FA (λvs H Q E h=>?_) (λcdv A outer s H vs Q E hr h=>?_)
 ·obtain ⟨a,ns,rfl,_⟩:=h;rfl
 ·obtain ⟨a,ns,rfl,hS,hlen,k⟩:=h;refine ⟨_,(aA (aV (eS (ae ao (ae ao (ae ao (ae (bZ ["_law_cell"] [] [] (b9 (FJ IA (pv 0) IF (IE ao))) (λ_=>(aK (i:=0) (show List.Nodup (α:=PySem.Str) ["_law_cell"] by decide +kernel))) (λ_=>cf) (λ_=>(bG yp (by rfl) T.abs PyProof.Rows.boot_abs (ae (pv 0) aj)))) aj))))))),?_⟩;refine aP (σ:=[some (.ref a)]) rfl ?_;walk_at "w";refine ⟨a,_,rfl,hS,λl hl=>?_⟩;have hcl:(yn (ns.map V.int) none (some 63)).length<=63:=ai (zH _ _ _) (by simpa using hlen);refine ⟨l,rfl,⟨_,bO.of aI⟩,?_⟩;refine eH (K:=K) (a:=l) (xs:=yn (ns.map V.int) none (some 63)) (λi ys H'=>H'=upd H l (.lst (yn (ns.map V.int) none (some 63)))/\∃cs:List Int,ys=cs.map V.int/\∀x∈cs,0<=x) (ai hcl (by decide)) ⟨rfl,[],rfl,λ_ z=>nomatch z⟩ (λi ys H' _ ⟨e,_⟩=>by subst e;exact bO.of aI) ?_ ?_
  ·rintro i x ys H' hx hi ⟨rfl,cs,rfl,hcs⟩
   obtain ⟨z,rfl⟩:∃z,x=V.int z:=by
    have hm:x∈ns.map V.int:=List.mem_of_mem_drop (cI (ar hx));obtain ⟨z,_,e⟩:=az.mp hm;exact ⟨z,e.symm⟩
   walk_at "w";refine ⟨rfl,cs++[if z < 0 then -z else z],by simp,λx hx=>?_⟩;rcases ax.mp hx with hx | hx
   ·exact hcs x hx
   ·have e:x=if z < 0 then -z else z:=by simpa using hx
    subst e
    split <;> lia
  ·rintro ys H' hy ⟨rfl,cs,rfl,hcs⟩ p hp;walk_at "w";refine ⟨by show 4<=sizeLine;decide,λb hb=>?_⟩;have n1:b≠p:=λz=>by rw[z,aI] at hb;cases hb
   have hb1:(upd H l (.lst (yn (ns.map V.int) none (some 63)))) b=none:=by rw[bF n1] at hb;exact hb
   have s1:aG H (upd H l (.lst (yn (ns.map V.int) none (some 63)))):=aG.new hl;refine k b _ (s1.free hb1) ⟨p,0,1234567891,0,cs,aI,by rw[bF n1.symm];exact aI,by decide,by decide,by lia,hcs⟩ ((s1.trans (aG.new hp)).trans (aG.new hb))
theorem fO:bf ["_law_bag_here","_law_many","_law_more","_law_cell","_law_value","_law_first","_law_second"] ["_law_bag_here","_law_many"] (ay jx):=by walk_at "d"
theorem bA (T:Txt K mg Z):cJ P w K mg base gE 1 Z.p4 Z.pF ["_law_bag_here","_law_many"] Mh:=by
 refine T.bp.ok fO (λvs H Q E h=>?_) (λcdv A outer s H vs Q E hr h=>?_)
 ·obtain ⟨p,n,rfl,_⟩:=h;rfl
 ·obtain ⟨p,n,rfl,⟨q,a,b,c,cs,hp,hq,ha,hc,hcl,hcs⟩,hn,hn2,k⟩:=h;have nqp:q≠p:=JZ hp hq
  refine ⟨_,(jK (cQ (bE fF (aY bW (pv 0) ao) ao (bJ _)) (aw (br (i:=2) fO.nd rfl (Or.inl rfl) ao)
   (jK (cQ (bE uq (aY bW (pv 0) ao) (bG aT (by rfl) T.len aO (ae (aY bW (pv 0) ao) aj)) (bJ _)) (aw (br (i:=3) fO.nd rfl (Or.inl rfl) (aY bW (aY bW (pv 0) ao) (aY bW (pv 0) ao)))
   (aw (ML (pv 0) ao Ln ao OZ set_list)
   (aw (cQ (bE Dm (pv 3) ao (bJ _)) (aA (fh (pv 3) (ie (pv 0) ao set_list))) bS)
   (aA (br (i:=2) fO.nd rfl (Or.inl rfl) (bK fG (bK qJ (pv 3) ao) ao)))))) bS)
   (aA (fh (bK qJ (bK fG (bK cS (aY bW (pv 0) ao) ao) (pv 2)) ao) (ie (pv 0) ao set_list))))) bS)
   (aw (cQ (bE xK (aY bW (pv 0) ao) ao (bJ _)) (aw (br (i:=4) fO.nd rfl (Or.inl rfl) (bK qJ (aY bW (pv 0) ao) (pv 1)))
   (aw (fh (bK iZ (aY bW (pv 0) ao) (pv 1)) (ie (pv 0) ao set_list))
   (aA (aV (pv 4))))) bS)
   (aw (br (i:=5) fO.nd rfl (Or.inl rfl) (bK qJ (bK cS (aY bW (pv 0) ao) ao) ao))
   (aw (br (i:=6) fO.nd rfl (Or.inl rfl) (bK qJ (bK cS (pv 5) ao) ao))
   (aw (cQ (bE xK (pv 1) ao (bJ _)) (aA (aV (bK qJ (bK fG (bK cS (pv 6) ao) (pv 5)) (pv 1)))) bS)
   (aA (aV (bK qJ (bK iZ (pv 6) ao) (pv 1))))))))),?_⟩
  refine aP (σ:=[some (.ref p),some (.int n),none,none,none,none,none]) rfl ?_;refine ⟨λσ' H'=>∃(x y:Option V) (a' b' c':Int),σ'=[some (.ref p),some (.int n),x,y,none,none,none]/\H' p=some (.lst [.int a',.int b',.int c',.ref q])/\0<=a'/\0<=c'/\c'<=cs.length/\cO p H H',?_,?_⟩
  ·walk_at "w";refine il (λh0=>?_) (λh0=>?_)
   ·walk_at "w";refine ⟨λσ' H'=>∃(m:Int) (y:Option V) (a' c':Int),σ'=[some (.ref p),some (.int n),some (.int m),y,none,none,none]/\H' p=some (.lst [.int a',.int b,.int c',.ref q])/\0<=a'/\0<=c'/\c'<=cs.length/\cO p H H',?_,?_⟩
    ·walk_at "w";refine ⟨_,_,rfl,.inl (bO.of hq),?_⟩;walk_at "w";refine il (λh1=>?_) (λh1=>?_)
     ·have h1':c < cs.length:=by simpa using of_decide_eq_true h1
      obtain ⟨z,hz⟩:∃z,cs[c.toNat]?=some z:=⟨_,af (by lia)⟩;have hz0:0<=z:=hcs z (ar hz);walk_at "w";refine cz (bO.of hq) (v:=.int z) ?_ ?_
      ·have:=fz (xs:=cs.map V.int) (j:=c.toNat) (v:=.int z) (by rw[aF,hz];rfl);rwa [Int.toNat_of_nonneg hc] at this
      walk_at "w";refine il (λh2=>?_) (λh2=>?_)
      ·walk_at "w";exact ⟨_,_,z,c+1,rfl,aI,hz0,by lia,by lia,(cO.set hp).trans (cO.set aI)⟩
      ·walk_at "w";exact ⟨_,_,a,c+1,rfl,aI,ha,by lia,by lia,cO.set hp⟩
     ·walk_at "w";exact ⟨_,_,a,c,rfl,hp,ha,hc,hcl,cO.refl _⟩
    ·rintro σ' H' ⟨m,y,a',c',rfl,hp',ha',hc',hcl',u'⟩;walk_at "w";exact ⟨_,_,a',_,c',rfl,aI,ha',hc',hcl',u'.trans (cO.set hp')⟩
   ·walk_at "w";exact ⟨_,_,a,b,c,rfl,hp,ha,hc,hcl,cO.refl _⟩
  ·rintro σ' H' ⟨x,y,a',b',c',rfl,hp',ha',hc',hcl',u'⟩;have hq':H' q=some (.lst (cs.map V.int)):=u'.1 q _ hq nqp
   have sn:Sz 8999 n:=by
    show n.natAbs < 2^8999
    exact bH (show n.natAbs < 2^64 by lia) (ak (by decide) (by decide))
   walk_at "w";refine il (λh0=>?_) (λh0=>?_)
   ·walk_at "w";refine fD (show (0:Int) < n from hn) ?_;walk_at "w";refine fD (show rK _ _ from ⟨by lia,sn⟩) ?_;walk_at "w";refine k _ _ (oh _ (by lia)) (jk _ hn) ⟨q,_,b',c',cs,aI,by rw[bF nqp];exact hq',?_,hc',hcl',hcs⟩ (u'.trans (cO.set hp'));rw[cu _ (by lia)];exact Int.ediv_nonneg ha' (by lia)
   ·walk_at "w";refine il (λh1=>?_) (λh1=>?_)
    ·walk_at "w";refine fD (show (0:Int) < n from hn) ?_;exact k _ _ (oh _ (by lia)) (jk _ hn) ⟨q,a',b',c',cs,hp',hq',ha',hc',hcl',hcs⟩ u'
    ·walk_at "w";refine fD (show rK _ _ from ⟨by decide,by show (3:Nat) < 2^8999;exact bH (show 3 < 2^2 by decide) (ak (by decide) (by decide))⟩) ?_;walk_at "w";refine fD (show (0:Int) < n from hn) ?_;exact k _ _ (oh _ (by lia)) (jk _ hn) ⟨q,a',b',c',cs,hp',hq',ha',hc',hcl',hcs⟩ u'
theorem CH:∃x1 x2 x3 x4 x5 x6 x7 x8 x9 x10 x11 x12 x13 x14 x15 x16:Expr,x1=(Expr.Constant (Const.int 0) 0 ⟨286,16,286,17⟩)/\x2=(Expr.Constant (Const.int 1) 0 ⟨286,19,286,20⟩)/\x3=(Expr.Constant (Const.int 1) 0 ⟨286,22,286,23⟩)/\x4=(Expr.Constant (Const.int 1) 0 ⟨286,25,286,26⟩)/\x5=(Expr.Constant (Const.int 2) 0 ⟨286,28,286,29⟩)/\x6=(Expr.Constant (Const.int 2) 0 ⟨286,31,286,32⟩)/\x7=(Expr.Constant (Const.int 3) 0 ⟨286,34,286,35⟩)/\x8=(Expr.Constant (Const.int 4) 0 ⟨286,37,286,38⟩)/\x9=(Expr.Constant (Const.int 0) 0 ⟨287,17,287,18⟩)/\x10=(Expr.Constant (Const.int 1) 0 ⟨287,20,287,21⟩)/\x11=(Expr.Constant (Const.int 1) 0 ⟨287,23,287,24⟩)/\x12=(Expr.Constant (Const.int 1) 0 ⟨287,26,287,27⟩)/\x13=(Expr.Constant (Const.int 2) 0 ⟨287,29,287,30⟩)/\x14=(Expr.Constant (Const.int 2) 0 ⟨287,32,287,33⟩)/\x15=(Expr.Constant (Const.int 3) 0 ⟨287,35,287,36⟩)/\x16=(Expr.Constant (Const.int 4) 0 ⟨287,38,287,39⟩)/\aZ fR=[ (Stmt.Assign (targets:=[(Expr.Name "_law_n" ⟨283,4,283,10⟩)]) (value:=(Expr.Call (func:=(Expr.Name "_law_take" ⟨283,13,283,22⟩)) (args:=[ (Expr.Name "_law_bag_here" ⟨283,23,283,36⟩),(Expr.Constant (Const.int 5) 0 ⟨283,38,283,39⟩)]) (keywords:=[]) (pos:=⟨283,13,283,40⟩))) (pos:=⟨283,4,283,40⟩)),(Stmt.If (test:=(Expr.Compare (left:=(Expr.Call (func:=(Expr.Name "_law_take" ⟨284,7,284,16⟩)) (args:=[ (Expr.Name "_law_bag_here" ⟨284,17,284,30⟩),(Expr.Constant (Const.int 8) 0 ⟨284,32,284,33⟩)]) (keywords:=[]) (pos:=⟨284,7,284,34⟩))) (ops:=[PySem.CmpOp.Eq]) (comparators:=[(Expr.Constant (Const.int 7) 0 ⟨284,38,284,39⟩)]) (pos:=⟨284,7,284,39⟩))) (body:=[ (Stmt.Assign (targets:=[(Expr.Name "_law_n" ⟨285,8,285,14⟩)]) (value:=(Expr.Constant (Const.int 5) 0 ⟨285,17,285,18⟩)) (pos:=⟨285,8,285,18⟩))]) (orelse:=[]) (pos:=⟨284,4,285,18⟩)),(Stmt.Assign (targets:=[(Expr.Name "_law_ins" ⟨286,4,286,12⟩)]) (value:=(Expr.Subscript (value:=(Expr.List (elts:=[x1,x2,x3,x4,x5,x6,x7,x8]) (pos:=⟨286,15,286,39⟩))) (slice:=(Expr.Call (func:=(Expr.Name "_law_take" ⟨286,40,286,49⟩)) (args:=[ (Expr.Name "_law_bag_here" ⟨286,50,286,63⟩),(Expr.Constant (Const.int 8) 0 ⟨286,65,286,66⟩)]) (keywords:=[]) (pos:=⟨286,40,286,67⟩))) (pos:=⟨286,15,286,68⟩))) (pos:=⟨286,4,286,68⟩)),(Stmt.Assign (targets:=[(Expr.Name "_law_outs" ⟨287,4,287,13⟩)]) (value:=(Expr.Subscript (value:=(Expr.List (elts:=[x9,x10,x11,x12,x13,x14,x15,x16]) (pos:=⟨287,16,287,40⟩))) (slice:=(Expr.Call (func:=(Expr.Name "_law_take" ⟨287,41,287,50⟩)) (args:=[ (Expr.Name "_law_bag_here" ⟨287,51,287,64⟩),(Expr.Constant (Const.int 8) 0 ⟨287,66,287,67⟩)]) (keywords:=[]) (pos:=⟨287,41,287,68⟩))) (pos:=⟨287,16,287,69⟩))) (pos:=⟨287,4,287,69⟩)),(Stmt.If (test:=(Expr.Compare (left:=(Expr.Name "_law_n" ⟨288,7,288,13⟩)) (ops:=[PySem.CmpOp.Eq]) (comparators:=[(Expr.Constant (Const.int 5) 0 ⟨288,17,288,18⟩)]) (pos:=⟨288,7,288,18⟩))) (body:=[ (Stmt.Assign (targets:=[ (Expr.Tuple (elts:=[(Expr.Name "_law_ins" ⟨289,8,289,16⟩),(Expr.Name "_law_outs" ⟨289,18,289,27⟩)]) (k:=0) (pos:=⟨289,8,289,27⟩))]) (value:=(Expr.Tuple (elts:=[ (Expr.Call (func:=(Expr.Name "min" ⟨289,31,289,34⟩)) (args:=[ (Expr.Name "_law_ins" ⟨289,35,289,43⟩),(Expr.Constant (Const.int 2) 0 ⟨289,45,289,46⟩)]) (keywords:=[]) (pos:=⟨289,31,289,47⟩)),(Expr.Call (func:=(Expr.Name "min" ⟨289,49,289,52⟩)) (args:=[ (Expr.Name "_law_outs" ⟨289,53,289,62⟩),(Expr.Constant (Const.int 2) 0 ⟨289,64,289,65⟩)]) (keywords:=[]) (pos:=⟨289,49,289,66⟩))]) (k:=0) (pos:=⟨289,30,289,67⟩))) (pos:=⟨289,8,289,67⟩))]) (orelse:=[]) (pos:=⟨288,4,289,67⟩)),(Stmt.Assign (targets:=[(Expr.Name "_law_wide" ⟨290,4,290,13⟩)]) (value:=(Expr.Subscript (value:=(Expr.List (elts:=[ (Expr.Constant (Const.int 4) 0 ⟨290,17,290,18⟩),(Expr.Constant (Const.int 4) 0 ⟨290,20,290,21⟩),(Expr.Constant (Const.int 9) 0 ⟨290,23,290,24⟩),(Expr.Constant (Const.int 1000000) 0 ⟨290,26,290,33⟩)]) (pos:=⟨290,16,290,34⟩))) (slice:=(Expr.Call (func:=(Expr.Name "_law_take" ⟨290,35,290,44⟩)) (args:=[ (Expr.Name "_law_bag_here" ⟨290,45,290,58⟩),(Expr.Constant (Const.int 4) 0 ⟨290,60,290,61⟩)]) (keywords:=[]) (pos:=⟨290,35,290,62⟩))) (pos:=⟨290,16,290,63⟩))) (pos:=⟨290,4,290,63⟩)),(Stmt.If (test:=(Expr.Compare (left:=(Expr.Name "_law_wide" ⟨291,7,291,16⟩)) (ops:=[PySem.CmpOp.Gt]) (comparators:=[(Expr.Constant (Const.int 9) 0 ⟨291,19,291,20⟩)]) (pos:=⟨291,7,291,20⟩))) (body:=[ (Stmt.Assign (targets:=[(Expr.Name "_law_n" ⟨292,8,292,14⟩)]) (value:=(Expr.Call (func:=(Expr.Name "min" ⟨292,17,292,20⟩)) (args:=[ (Expr.Name "_law_n" ⟨292,21,292,27⟩),(Expr.Constant (Const.int 2) 0 ⟨292,29,292,30⟩)]) (keywords:=[]) (pos:=⟨292,17,292,31⟩))) (pos:=⟨292,8,292,31⟩))]) (orelse:=[]) (pos:=⟨291,4,292,31⟩)),(Stmt.Return (value:=(some (Expr.Tuple (elts:=[ (Expr.Name "_law_n" ⟨293,12,293,18⟩),(Expr.Name "_law_ins" ⟨293,20,293,28⟩),(Expr.Name "_law_outs" ⟨293,30,293,39⟩),(Expr.Name "_law_wide" ⟨293,41,293,50⟩)]) (k:=0) (pos:=⟨293,11,293,51⟩)))) (pos:=⟨293,4,293,51⟩))]:=⟨_,_,_,_,_,_,_,_,_,_,_,_,_,_,_,_,rfl,rfl,rfl,rfl,rfl,rfl,rfl,rfl,rfl,rfl,rfl,rfl,rfl,rfl,rfl,rfl,by with_unfolding_all rfl⟩
theorem eo:bf ["_law_bag_here","_law_n","_law_ins","_law_outs","_law_wide"] ["_law_bag_here"] (ay fR):=by walk_at "d"
theorem CB (T:Txt K mg Z):cJ P w K mg base gE 2 Z.nP Z.nD ["_law_bag_here"] Jr:=by
 refine T.tO.ok eo (λvs H Q E h=>?_) (λcdv A outer s H vs Q E hr h=>?_)
 ·obtain ⟨b,rfl,_⟩:=h;rfl
 ·obtain ⟨b,rfl,hB,k⟩:=h;obtain ⟨x1,x2,x3,x4,x5,x6,x7,x8,x9,x10,x11,x12,x13,x14,x15,x16,hx1,hx2,hx3,hx4,hx5,hx6,hx7,hx8,hx9,hx10,hx11,hx12,hx13,hx14,hx15,hx16,hbd⟩:=CH;rw[hbd]
  refine ⟨_,(aw (br (i:=1) eo.nd rfl (Or.inl rfl) (cN (bA T) hr T.aX T.bp.kp T.bu (ae (pv 0) (ae ao aj))))
   (jK (cQ (bE fF (cN (bA T) hr T.aX T.bp.kp T.bu (ae (pv 0) (ae ao aj))) ao (bJ _)) (aA (br (i:=1) eo.nd rfl (Or.inl rfl) ao)) bS)
   (aw (br (i:=2) eo.nd rfl (Or.inl rfl) (aY bW (eS (d5 hx1 ao (d5 hx2 ao (d5 hx3 ao (d5 hx4 ao (d5 hx5 ao (d5 hx6 ao (d5 hx7 ao (d5 hx8 ao aj))))))))) (cN (bA T) hr T.aX T.bp.kp T.bu (ae (pv 0) (ae ao aj)))))
   (aw (br (i:=3) eo.nd rfl (Or.inl rfl) (aY bW (eS (d5 hx9 ao (d5 hx10 ao (d5 hx11 ao (d5 hx12 ao (d5 hx13 ao (d5 hx14 ao (d5 hx15 ao (d5 hx16 ao aj))))))))) (cN (bA T) hr T.aX T.bp.kp T.bu (ae (pv 0) (ae ao aj)))))
   (jK (cQ (bE fF (pv 1) ao (bJ _)) (aA (KH (i:=2) (j:=3) rfl eo.nd rfl rfl (by decide) rfl rfl (ae (bG (vF rfl) (by rfl) T.min PyProof.Rows.boot_min (ae (pv 2) (ae ao aj))) (ae (bG (vF rfl) (by rfl) T.min PyProof.Rows.boot_min (ae (pv 3) (ae ao aj))) aj)) rfl)) bS)
   (aw (br (i:=4) eo.nd rfl (Or.inl rfl) (aY bW (eS (ae ao (ae ao (ae ao (ae ao aj))))) (cN (bA T) hr T.aX T.bp.kp T.bu (ae (pv 0) (ae ao aj)))))
   (jK (cQ (bE xK (pv 4) ao (bJ _)) (aA (br (i:=1) eo.nd rfl (Or.inl rfl) (bG (vF rfl) (by rfl) T.min PyProof.Rows.boot_min (ae (pv 1) (ae ao aj))))) bS)
   (aA (aV (cY (ae (pv 1) (ae (pv 2) (ae (pv 3) (ae (pv 4) aj)))))))))))))),?_⟩
  refine aP (σ:=[some (.ref b),none,none,none,none]) rfl ?_;walk_at "w";refine ⟨b,5,rfl,hB,by decide,by decide,λn H1 n0 n1 B1 u1=>?_⟩;obtain ⟨n,rfl⟩:=cD n0;walk_at "w";refine ⟨λσ' H'=>(∃n:Nat,σ'=[some (.ref b),some (.int n),none,none,none]/\n<=5)/\iV H' b/\cO b H H',?_,?_⟩
  ·walk_at "w";refine ⟨b,8,rfl,B1,by decide,by decide,λv H2 v0 v1 B2 u2=>?_⟩;walk_at "w";refine il (λ_=>?_) (λ_=>?_)
   ·walk_at "w";exact ⟨⟨5,rfl,by decide⟩,B2,u1.trans u2⟩
   ·walk_at "w";exact ⟨⟨n,rfl,by lia⟩,B2,u1.trans u2⟩
  clear n0 n1 u1 B1;rintro σ' H1 ⟨⟨n,rfl,n5⟩,B1,u1⟩;walk_at "w";refine dI λl0 H2 s2 n2 g2=>?_
  walk_at "w";refine ⟨b,8,rfl,B1.same s2,by decide,by decide,λv H3 v0 v1 B3 u3=>?_⟩;have g3:=u3.other (λz=>B1.at (by rw[<- z];exact n2)) g2;obtain ⟨x,ex,mx,_⟩:=mL (xs:=[V.int 0,V.int 1,V.int 1,V.int 1,V.int 2,V.int 2,V.int 3,V.int 4]) v0 (by simpa using v1)
  obtain ⟨i,rfl,hi⟩:∃z:Nat,x=.int z/\z<=4:=by
   simp only[aE,aM,or_false] at mx;rcases mx with rfl | rfl | rfl | rfl | rfl | rfl | rfl | rfl
   ·exact ⟨0,rfl,by decide⟩
   ·exact ⟨1,rfl,by decide⟩
   ·exact ⟨1,rfl,by decide⟩
   ·exact ⟨1,rfl,by decide⟩
   ·exact ⟨2,rfl,by decide⟩
   ·exact ⟨2,rfl,by decide⟩
   ·exact ⟨3,rfl,by decide⟩
   ·exact ⟨4,rfl,by decide⟩
  walk_at "w";refine cz (bO.of g3) ex ?_;clear ex mx g3 g2;walk_at "w";refine dI λl1 H4 s4 n4 g4=>?_
  walk_at "w";refine ⟨b,8,rfl,B3.same s4,by decide,by decide,λt H5 t0 t1 B5 u5=>?_⟩;have g5:=u5.other (λz=>B3.at (by rw[<- z];exact n4)) g4;obtain ⟨x,ex,mx,_⟩:=mL (xs:=[V.int 0,V.int 1,V.int 1,V.int 1,V.int 2,V.int 2,V.int 3,V.int 4]) t0 (by simpa using t1)
  obtain ⟨o,rfl,ho⟩:∃z:Nat,x=.int z/\z<=4:=by
   simp only[aE,aM,or_false] at mx;rcases mx with rfl | rfl | rfl | rfl | rfl | rfl | rfl | rfl
   ·exact ⟨0,rfl,by decide⟩
   ·exact ⟨1,rfl,by decide⟩
   ·exact ⟨1,rfl,by decide⟩
   ·exact ⟨1,rfl,by decide⟩
   ·exact ⟨2,rfl,by decide⟩
   ·exact ⟨2,rfl,by decide⟩
   ·exact ⟨3,rfl,by decide⟩
   ·exact ⟨4,rfl,by decide⟩
  walk_at "w";refine cz (bO.of g5) ex ?_;clear ex mx g5 g4;have u15:=(((u1.same s2).trans u3).same s4).trans u5;walk_at "w";refine ⟨λσ' H'=>(∃i o:Nat,σ'=[some (.ref b),some (.int n),some (.int i),some (.int o),none]/\i<=4/\o<=4/\(n=5->i<=2/\o<=2))/\iV H' b/\cO b H H',?_,?_⟩
  ·walk_at "w";refine il (λh0=>?_) (λh0=>?_)
   ·walk_at "w";refine ⟨⟨min i 2,min o 2,?_,by lia,by lia,λ_=>⟨by lia,by lia⟩⟩,B5,u15⟩;have e1:(if (2:Int) < (i:Int) then (2:Int) else (i:Int))=((min i 2:Nat):Int):=by split <;> lia
    have e2:(if (2:Int) < (o:Int) then (2:Int) else (o:Int))=((min o 2:Nat):Int):=by split <;> lia
    rw[<- e1,<- e2];rfl
   ·walk_at "w";exact ⟨⟨i,o,rfl,hi,ho,λz=>absurd (decide_eq_true (show (n:Int)=5 by lia)) h0⟩,B5,u15⟩
  clear hi ho u15 B5 u5 u3 u1;rintro σ' H5 ⟨⟨i,o,rfl,hi,ho,h5⟩,B5,u5⟩;walk_at "w";refine dI λl2 H6 s6 n6 g6=>?_
  walk_at "w";refine ⟨b,4,rfl,B5.same s6,by decide,by decide,λv H7 v0 v1 B7 u7=>?_⟩;have g7:=u7.other (λz=>B5.at (by rw[<- z];exact n6)) g6;obtain ⟨x,ex,mx,_⟩:=mL (xs:=[V.int 4,V.int 4,V.int 9,V.int 1000000]) v0 (by simpa using v1)
  obtain ⟨w,rfl,hw⟩:∃w:Nat,x=.int w/\(w=4\/w=9\/w=1000000):=by
   simp only[aE,aM,or_false] at mx;rcases mx with rfl | rfl | rfl | rfl
   ·exact ⟨4,rfl,.inl rfl⟩
   ·exact ⟨4,rfl,.inl rfl⟩
   ·exact ⟨9,rfl,.inr (.inl rfl)⟩
   ·exact ⟨1000000,rfl,.inr (.inr rfl)⟩
  walk_at "w";refine cz (bO.of g7) ex ?_;have u07:=(u5.same s6).trans u7;walk_at "w";refine ⟨λσ' H'=>(∃n:Nat,σ'=[some (.ref b),some (.int n),some (.int i),some (.int o),some (.int w)]/\n<=5/\(w=4\/w=9\/(w=1000000/\n<=2))/\(n=5->i<=2/\o<=2))/\iV H' b/\cO b H H',?_,?_⟩
  ·walk_at "w";refine il (λh0=>?_) (λh0=>?_)
   ·walk_at "w";refine ⟨⟨min n 2,?_,by lia,by lia,λz=>by lia⟩,B7,u07⟩;have e1:(if (2:Int) < (n:Int) then (2:Int) else (n:Int))=((min n 2:Nat):Int):=by split <;> lia
    rw[<- e1];rfl
   ·walk_at "w";refine ⟨⟨n,rfl,n5,?_,h5⟩,B7,u07⟩;rcases hw with z | z | z
    ·exact .inl z
    ·exact .inr (.inl z)
    ·exact absurd (decide_eq_true (show (9:Int) < (w:Int) by lia)) h0
  ·clear h5 n5;rintro σ' H8 ⟨⟨n',rfl,n5,hwn,h5⟩,B8,u8⟩;walk_at "w";refine cv λr H9 s9 g9=>?_
   exact k r n' i o w H9 g9 n5 hi ho hwn h5 (B8.same s9) (u8.same s9)
theorem ip:bf ["_law_bag_here","_law_n","_law_move_here","_law_at","_law_put","_law_first","_law_look"] ["_law_bag_here","_law_n"] (ay jF):=by walk_at "d"
theorem rX (T:Txt K mg Z):cJ P w K mg base gE 2 Z.qj Z.pN ["_law_bag_here","_law_n"] (Fo K):=by
 refine T.mQ.ok ip (λvs H Q E h=>?_) (λcdv A outer s H vs Q E hr h=>?_)
 ·obtain ⟨b,n,rfl,_⟩:=h;rfl
 ·obtain ⟨b,n,rfl,hB,n1,n8,k⟩:=h
  refine ⟨_,(aw (lB 2 ["_law_i"] ["_law_n"] [1] ip.nd rfl rfl (cy rfl T.range (ae (pv 1) aj)) (λ_=>(aK (i:=0) (show List.Nodup (α:=PySem.Str) ["_law_i","_law_n"] by decide +kernel) rfl (Or.inr rfl) (Or.inl rfl))) (λ_=>cf) (λ_=>(bZ ["_law_j"] ["_law_i"] [0] (cy rfl T.range (ae (pv 1) aj)) (λ_=>(aK (i:=0) (show List.Nodup (α:=PySem.Str) ["_law_j","_law_i"] by decide +kernel))) (λ_=>cf) (λ_=>(cY (ae (eX rB (by rfl) T.int PyProof.Rows.boot_int (ae (lD fF (pv 0) (bK fG (pv 1) ao) (bJ _)) aj)) (ae ao aj)))))))
   (aw (fh (bZ ["_law_j"] ["_law_bag_here"] [0] (cy rfl T.range (ae (pv 1) aj)) (λ_=>(aK (i:=0) (show List.Nodup (α:=PySem.Str) ["_law_j","_law_bag_here"] by decide +kernel))) (λ_=>cf) (λ_=>(cY (ae (bK j4 (cN (bA T) hr T.aX T.bp.kp T.bu (ae (pv 1) (ae ao aj))) ao) (ae ao aj))))) (ie (pv 2) (bK j4 (pv 1) ao) set_list))
   (aw (br (i:=3) ip.nd rfl (Or.inr rfl) (aY bW (eS (ae (bK j4 (pv 1) ao) (ae (cN (bA T) hr T.aX T.bp.kp T.bu (ae (pv 0) (ae (pv 1) aj))) aj))) (cN (bA T) hr T.aX T.bp.kp T.bu (ae (pv 0) (ae ao aj)))))
   (aw (br (i:=4) ip.nd rfl (Or.inl rfl) (eS (ae (bZ ["_law_j"] ["_law_at"] [3] (cy rfl T.range (ae (pv 1) aj)) (λ_=>(aK (i:=0) (show List.Nodup (α:=PySem.Str) ["_law_j","_law_at"] by decide +kernel))) (λ_=>cf) (λ_=>(cY (ae (eX rB (by rfl) T.int PyProof.Rows.boot_int (ae (lD fF (pv 0) (pv 1) (bJ _)) aj)) (ae ao aj))))) aj)))
   (aw (br (i:=5) ip.nd rfl (Or.inr rfl) (aY bW (eS (ae ao (ae ao (ae (cN (bA T) hr T.aX T.bp.kp T.bu (ae (pv 0) (ae (pv 1) aj))) aj)))) (cN (bA T) hr T.aX T.bp.kp T.bu (ae (pv 0) (ae ao aj)))))
   (aw (br (i:=6) ip.nd rfl (Or.inl rfl) (eS (ae (bZ ["_law_j"] ["_law_first"] [5] (cy rfl T.range (ae (pv 1) aj)) (λ_=>(aK (i:=0) (show List.Nodup (α:=PySem.Str) ["_law_j","_law_first"] by decide +kernel))) (λ_=>cf) (λ_=>(cY (ae (eX rB (by rfl) T.int PyProof.Rows.boot_int (ae (lD fF (pv 0) (pv 1) (bJ _)) aj)) (ae ao aj))))) aj)))
   (aA (aV (cY (ae (pv 2) (ae (pv 4) (ae (pv 6) aj)))))))))))),?_⟩
  refine aP (σ:=[some (.ref b),some (.int n),none,none,none,none,none]) rfl ?_
  have bit:∀{z:Int},∀y∈(List.range n).map (λ(j:Nat)=>(((if decide ((j:Int)=z)=true then 1 else 0:Int)):Rat)),Fr 1 1 y:=λy hy=>by
   obtain ⟨j,_,rfl⟩:=az.mp hy;exact P6 (by split <;> simp)
  walk_at "w";refine ⟨by lia,by lia,?_⟩;refine jO (n:=n) (cP K H) (λ(i:Nat)=>(List.range n).map λ(j:Nat)=>(((if decide ((j:Int)=(i:Int)+1)=true then 1 else 0:Int)):Rat)) (by lia) (λa b=>a.same b) ?_ ?_
  ·rintro i Hb NY NN hi sa k1;walk_at "w";refine ⟨by lia,by lia,?_⟩;refine jO (n:=n) (cg K) (λ(j:Nat)=>(((if decide ((j:Int)=(i:Int)+1)=true then 1 else 0:Int)):Rat)) (by lia) (λa b=>a.same b) ?_ ?_
   ·rintro j Hz NY2 NN2 hj sz k2;walk_at "w";refine cv λt Hy sy gy=>?_
    exact k2 _ _ sy (cg.mk gy rfl)
   ·rintro ys Hz t ht sz g pr nx;exact k1 _ _ sz ⟨t,rfl,sa.none ht,ys,g,pr⟩
  rintro ys H1 mm hm s1 g1 pr1 nx1;have G1:bI K H H1 mm ((List.range n).map λ(i:Nat)=>(List.range n).map λ(j:Nat)=>(((if decide ((j:Int)=(i:Int)+1)=true then 1 else 0:Int)):Rat)):=⟨ys,g1,pr1,j6 nx1⟩;clear g1 pr1 nx1;have B1:=hB.same s1;have mb:mm≠b:=λz=>hB.at (by rw[<- z];exact hm)
  obtain ⟨q0,I0,xq,gq0⟩:=hB.inner;have mq:mm≠q0:=λz=>by rw[<- z,hm] at gq0;cases gq0
  walk_at "w";refine ⟨by lia,by lia,?_⟩;refine zd (n:=n) (b:=b) (cg K) (Fr 1 1) B1 (by lia) (λa u B=>a.upto u B) ?_ ?_
  ·rintro j Ha NY NN hj ua Ba k1;walk_at "w";refine ⟨b,3,rfl,Ba,by decide,by decide,λv Hb v0 v1 Bb ub=>?_⟩;walk_at "w";refine cv λt Hc sc gc=>?_
   exact k1 _ ((v - 1:Int):Rat) _ (ub.same sc) (Bb.same sc) (Fr.int (by lia)) (cg.mk gc rfl)
  rintro ys2 cs H2 q2 hq2 u2 B2 g2 lc hc pr2 _;have u02:=(s1.upto (p:=b)).trans u2;have nq2:H q2=none:=s1.none hq2;obtain ⟨us,gu,pu⟩:=(G1.upto u2 B1 mb hB.at).toE;have lu:=pu.length;rw[ag,hZ] at lu
  have q2m:q2≠mm:=λz=>by
   obtain ⟨_,gg,_⟩:=id G1;rw[z,gg] at hq2;cases hq2
  walk_at "w";rw[show ((n:Int) - 1)=((n - 1:Nat):Int) by lia];refine eY gu (fw (by lia)) rfl ?_;have G3:bI K H (upd H2 mm (.lst (us.set (n - 1) (.ref q2)))) mm (((List.range n).map λ(i:Nat)=>(List.range n).map λ(j:Nat)=>(((if decide ((j:Int)=(i:Int)+1)=true then 1 else 0:Int)):Rat)).set (n - 1) cs):=bI.ofE aI (kN (Paired.imp' (λ_ _ z=>qR.updL z gu (λq h=>h.2)) pu) (n - 1) ⟨q2,rfl,⟨nq2,q2m⟩,cX.updL ⟨ys2,g2,pr2⟩ gu q2m⟩) (λq h=>h.1) (λq h=>h.2);have B3:iV (upd H2 mm (.lst (us.set (n - 1) (.ref q2)))) b:=B2.upd (u02.2 _ I0) mb mq;have u03:cO b H (upd H2 mm (.lst (us.set (n - 1) (.ref q2)))):=u02.after hm;obtain ⟨mv,emv⟩:∃mv,mv=((List.range n).map λ(i:Nat)=>(List.range n).map λ(j:Nat)=>(((if decide ((j:Int)=(i:Int)+1)=true then 1 else 0:Int)):Rat)).set (n - 1) cs:=⟨_,rfl⟩;have lmv:mv.length=n:=by rw[emv,d7,ag,hZ]
  have hmv:∀xs∈mv,xs.length=n/\∀y∈xs,Fr 1 1 y:=λxs hx=>by
   rw[emv] at hx;rcases cx hx with hx | rfl
   ·obtain ⟨i,_,rfl⟩:=az.mp hx;exact ⟨by rw[ag,hZ],bit⟩
   ·exact ⟨lc,hc⟩
  rw[<- emv] at G3;generalize upd H2 mm (.lst (us.set (n - 1) (.ref q2)))=H3 at G3 B3 u03 ⊢;clear emv pu gu G1 u2 pr2 g2 B2;walk_at "w";refine ⟨b,n,rfl,B3,by lia,by lia,λa1 H4 a10 a11 B4 u4=>?_⟩;walk_at "w";refine dI λl1 H5 s5 nl1 g5=>?_
  walk_at "w";refine ⟨b,2,rfl,B4.same s5,by decide,by decide,λv H6 v0 v1 B6 u6=>?_⟩;have g6:=u6.other (λz=>B4.at (by rw[<- z];exact nl1)) g5;obtain ⟨x,ex,mx,_⟩:=mL (xs:=[V.int ((n:Int) - 1),V.int a1]) v0 (by simpa using v1)
  obtain ⟨at',rfl⟩:∃a:Int,x=.int a:=by
   simp only[aE,aM,or_false] at mx;rcases mx with rfl | rfl
   ·exact ⟨_,rfl⟩
   ·exact ⟨_,rfl⟩
  walk_at "w";refine cz (bO.of g6) ex ?_;have u36:=(u4.same s5).trans u6;have G6:=G3.upto u36 B3 mb hB.at;have u06:=u03.trans u36;clear ex mx g6 g5 G3 u4 u6;walk_at "w";refine ⟨by lia,by lia,?_⟩;refine jO (n:=n) (cg K) (λ(j:Nat)=>(((if decide ((j:Int)=at')=true then 1 else 0:Int)):Rat)) (by lia) (λa b=>a.same b) ?_ ?_
  ·rintro j Hz NY2 NN2 hj sz k2;walk_at "w";refine cv λt Hy sy gy=>?_
   exact k2 _ _ sy (cg.mk gy rfl)
  rintro ys7 H7 q7 hq7 s7 g7 pr7 _;have R7:cX K H7 q7 _:=⟨ys7,g7,pr7⟩;walk_at "w";refine dI λp8 H8 s8 n8' g8=>?_
  have s68:=s7.trans s8;have q78:q7≠p8:=λz=>by rw[z,n8'] at g7;cases g7
  have np8:H p8=none:=u06.none B6 (s7.none n8');have nq7:H q7=none:=u06.none B6 hq7
  have GP:bI K H H8 p8 [(List.range n).map λ(j:Nat)=>(((if decide ((j:Int)=at')=true then 1 else 0:Int)):Rat)]:=⟨_,g8,.cons ⟨q7,rfl,nq7,R7.same s8⟩ .nil,λz=>by
   rw[cw] at z;cases z;exact q78 rfl⟩
  have B8:=B6.same s68;have u08:=u06.same s68;have G8:=G6.same s68;have pb:p8≠b:=λz=>hB.at (by rw[<- z];exact np8)
  walk_at "w";refine ⟨b,n,rfl,B8,by lia,by lia,λa2 H9 a20 a21 B9 u9=>?_⟩;walk_at "w";refine dI λl2 Ha sa nl2 ga=>?_
  walk_at "w";refine ⟨b,3,rfl,B9.same sa,by decide,by decide,λv' Hb v0' v1' Bb ub=>?_⟩;have gb:=ub.other (λz=>B9.at (by rw[<- z];exact nl2)) ga;obtain ⟨x,ex,mx,_⟩:=mL (xs:=[V.int 0,V.int 0,V.int a2]) v0' (by simpa using v1')
  obtain ⟨fi,rfl⟩:∃a:Int,x=.int a:=by
   simp only[aE,aM,or_false] at mx;rcases mx with rfl | rfl | rfl
   ·exact ⟨_,rfl⟩
   ·exact ⟨_,rfl⟩
   ·exact ⟨_,rfl⟩
  walk_at "w";refine cz (bO.of gb) ex ?_;have u8b:=(u9.same sa).trans ub;have Gb:=G8.upto u8b B8 mb hB.at;have GPb:=GP.upto u8b B8 pb hB.at;have u0b:=u08.trans u8b;clear ex mx gb ga G8 GP u9 ub;walk_at "w";refine ⟨by lia,by lia,?_⟩;refine jO (n:=n) (cg K) (λ(j:Nat)=>(((if decide ((j:Int)=fi)=true then 1 else 0:Int)):Rat)) (by lia) (λa b=>a.same b) ?_ ?_
  ·rintro j Hz NY2 NN2 hj sz k2;walk_at "w";refine cv λt Hy sy gy=>?_
   exact k2 _ _ sy (cg.mk gy rfl)
  rintro ysc Hc qc hqc sc gc prc _;have Rc:cX K Hc qc _:=⟨ysc,gc,prc⟩;walk_at "w";refine dI λpd Hd sd nd gd=>?_
  have sbd:=sc.trans sd;have qcd:qc≠pd:=λz=>by rw[z,nd] at gc;cases gc
  have npd:H pd=none:=u0b.none Bb (sc.none nd);have nqc:H qc=none:=u0b.none Bb hqc
  have GL:bI K H Hd pd [(List.range n).map λ(j:Nat)=>(((if decide ((j:Int)=fi)=true then 1 else 0:Int)):Rat)]:=⟨_,gd,.cons ⟨qc,rfl,nqc,Rc.same sd⟩ .nil,λz=>by
   rw[cw] at z;cases z;exact qcd rfl⟩
  walk_at "w";refine cv λr He se ge=>?_
  have sbe:=sbd.trans se;refine k r mv _ _ He ⟨mm,p8,pd,ge,hm,np8,npd,Gb.same sbe,GPb.same sbe,GL.same se⟩ lmv rfl rfl ⟨by lia,by simp,by simp,λxs hx=>by rw[(hmv xs hx).1,lmv],λxs hx=>?_,λxs hx=>?_⟩ (λxs hx=>(hmv xs hx).2) (λxs hx=>?_) (λxs hx=>?_) (Bb.same sbe) (u0b.same sbe)
  ·rw[cw.mp hx,ag,hZ,lmv]
  ·rw[cw.mp hx,ag,hZ,lmv]
  ·rw[cw.mp hx];exact bit
  ·rw[cw.mp hx];exact bit
theorem oZ:bf ["_law_top","_law_bottom","_law_one","_law_other"] ["_law_top","_law_bottom"] (ay kG):=by walk_at "d"
theorem fK (T:Txt K mg Z):cJ P w K mg base gE 1 Z.tx Z.sR ["_law_top","_law_bottom"] Oj:=by
 refine T.fo.ok oZ (λvs H Q E h=>?_) (λcdv A outer s H vs Q E hr h=>?_)
 ·obtain ⟨t,b,rfl,_⟩:=h;rfl
 ·obtain ⟨t,b,rfl,hb,hs,k⟩:=h
  refine ⟨_,(aw (br (i:=2) oZ.nd rfl (Or.inl rfl) (bG yp (by rfl) T.abs PyProof.Rows.boot_abs (ae (pv 0) aj)))
   (aw (br (i:=3) oZ.nd rfl (Or.inl rfl) (pv 1))
   (aw (AR PassesOwn.never (bE uo (pv 2) ao (bJ _))
    (aA (KH (i:=2) (j:=3) rfl oZ.nd rfl rfl (by decide) rfl rfl (ae (bK qJ (pv 3) (pv 2)) (ae (pv 2) aj)) rfl)))
   (aA (aV (cY (ae (bK iZ (pv 0) (pv 3)) (ae (bK iZ (pv 1) (pv 3)) aj)))))))),?_⟩
  refine aP (σ:=[some (.int t),some (.int b),none,none]) rfl ?_;walk_at "w"
  refine DV (λσ' H'=>∃(u v:Int),σ'=[some (.int t),some (.int b),some (.int u),some (.int v)]/\H'=H/\0<=u/\0 < v/\Int.gcd u v=Int.gcd t b) (λσ' _=>match σ' with | [_,_,some (.int u),_]=>u.natAbs | _=>0) ⟨_,b,rfl,rfl,by split <;> lia,hb,by
   split
   ·rw[Int.neg_gcd]
   ·rfl⟩ ?_
  rintro σ' H' ⟨u,v,rfl,rfl,hu,hv,hg⟩;walk_at "w";refine il (λh=>?_) (λh=>?_)
  ·have hu0:u≠0:=λz=>by subst z;simp at h
   walk_at "w";refine fD (show (0:Int) < u by lia) ?_;walk_at "w";have h1:=oh v hu0;have h2:=jk v (show 0 < u by lia);exact ⟨⟨v % u,u,rfl,rfl,h1,by lia,by rw[mG,Lr,mG];exact hg⟩,by show (v % u).natAbs < u.natAbs;lia⟩
  ·have hu0:u=0:=by
    by_cases z:u=0
    ·exact z
    ·exfalso;apply h;simp [z]
   subst hu0
   have e:v=g t b:=by
    unfold g;rw[<- hg,Int.gcd_zero_left]
    lia
   have hgs:Sz 8999 v:=hs.le (by
    rw[e];have h1:(g t b).natAbs=Int.gcd t b:=by unfold g;simp
    rw[h1];exact ia (by lia) (by have:=ff (a:=t) (b:=b);exact eB.mpr this |> λz=>by simpa using z))
   walk_at "w";refine fD (show rK _ _ from ⟨by lia,hgs⟩) ?_;walk_at "w";refine fD (show rK _ _ from ⟨by lia,hgs⟩) ?_;walk_at "w";refine cv λr H' s' h'=>?_
   rw[cu _ (by lia),cu _ (by lia),e] at h';exact k r H' s' h'
theorem Fy:bf ["_law_one","_law_other"] ["_law_one","_law_other"] (ay kE):=by walk_at "d"
theorem o7 (T:Txt K mg Z):cJ P w K mg base gE 2 Z.tu Z.sP ["_law_one","_law_other"] (rQ K (λx y=>x+y)):=by
 refine T.kX.ok Fy (λvs H Q E h=>?_) (λcdv A outer s H vs Q E hr h=>?_)
 ·obtain ⟨p,q,a,b,c,d,rfl,hp,hq,hb,hd,sa,sb,sc,sd,k⟩:=Ji h;rfl
 ·obtain ⟨p,q,a,b,c,d,rfl,hp,hq,hb,hd,sa,sb,sc,sd,k⟩:=Ji h;refine ⟨_,(aA (aV (cN (fK T) hr T.eZ T.fo.kp T.fW (ae (bK fG (bK cS (aY bU (pv 0) ao) (aY bU (pv 1) ao)) (bK cS (aY bU (pv 1) ao) (aY bU (pv 0) ao))) (ae (bK cS (aY bU (pv 0) ao) (aY bU (pv 1) ao)) aj))))),?_⟩;refine aP (σ:=[some (.ref p),some (.ref q)]) rfl ?_;have hbd:0 < b*d:=jd hb hd;have sbd:Sz 8999 (b*d):=(sb.mul sd).mono (by decide);walk_at "w";refine fD (show fL _ _ from .inr ⟨_,_,sa,sd,by decide⟩) ?_;walk_at "w";refine fD (show fL _ _ from .inr ⟨_,_,sc,sb,by decide⟩) ?_;walk_at "w";refine fD (show fL _ _ from .inr ⟨_,_,sb,sd,by decide⟩) ?_;walk_at "w";walk_at "w";refine ⟨_,_,rfl,hbd,sbd,k⟩
theorem Ef:bf ["_law_one","_law_other"] ["_law_one","_law_other"] (ay jB):=by walk_at "d"
theorem xQ (T:Txt K mg Z):cJ P w K mg base gE 3 Z.p9 Z.pJ ["_law_one","_law_other"] (Fl K):=by
 refine T.qC.ok Ef (λvs H Q E h=>?_) (λcdv A outer s H vs Q E hr h=>?_)
 ·obtain ⟨p,q,xs,ys,rfl,_⟩:=h;rfl
 ·obtain ⟨p,q,xs,ys,rfl,hp,hq,hl,hz,h1,h2,kk⟩:=h;refine ⟨_,(aA (aV (bZ ["_law_k"] ["_law_one","_law_other"] [0,1] (cy rfl T.range (ae (bG aT (by rfl) T.len aO (ae (pv 0) aj)) aj)) (λ_=>(aK (i:=0) (show List.Nodup (α:=PySem.Str) ["_law_k","_law_one","_law_other"] by decide +kernel))) (λ_=>cf) (λ_=>(cN (o7 T) hr T.mI T.kX.kp T.oT (ae (aY (fZ K (by rfl)) (pv 1) (pv 0)) (ae (aY (fZ K (by rfl)) (pv 2) (pv 0)) aj))))))),?_⟩;refine aP (σ:=[some (.ref p),some (.ref q)]) rfl ?_;obtain ⟨us,gu,qu⟩:=id hp;obtain ⟨ws,gw,qw⟩:=id hq;have lu:=qu.length;walk_at "w";refine ⟨_,_,rfl,.inl (bO.of gu),?_⟩;walk_at "w";refine ⟨by lia,by lia,?_⟩;refine jO (n:=us.length) (cg K) (λi=>xs.getD i 0+ys.getD i 0) (by lia) (λa b=>a.same b) ?_ ?_
  ·rintro i H' NY NN hi s k1;have ix:i < xs.length:=by lia
   have iy:i < ys.length:=by lia
   obtain ⟨vx,ex,nx⟩:=E3 (Paired.imp' (λ_ _ z=>z.same s) qu) ix;obtain ⟨vy,ey,ny⟩:=E3 (Paired.imp' (λ_ _ z=>z.same s) qw) iy;walk_at "w";refine cz (bO.of (s _ _ gu)) ex ?_;walk_at "w";refine cz (bO.of (s _ _ gw)) ey ?_;walk_at "w";exact ⟨_,_,_,_,rfl,nx,ny,h1 _ (getD_mem ix),h2 _ (getD_mem iy),λr3 H3 s3 n3=>k1 _ _ s3 n3⟩
  ·rintro ys' H' l hl' s g pr nx;exact kk l H' hl' s ⟨ys',g,by rw[CI (by lia)];rw[<- lu] at pr;exact pr⟩
theorem Ee:bf ["_law_one","_law_other"] ["_law_one","_law_other"] (ay jA):=by walk_at "d"
theorem m4 (T:Txt K mg Z):cJ P w K mg base gE 2 Z.p7 Z.pI ["_law_one","_law_other"] (rQ K (λx y=>x*y)):=by
 refine T.jS.ok Ee (λvs H Q E h=>?_) (λcdv A outer s H vs Q E hr h=>?_)
 ·obtain ⟨p,q,a,b,c,d,rfl,hp,hq,hb,hd,sa,sb,sc,sd,k⟩:=IK h;rfl
 ·obtain ⟨p,q,a,b,c,d,rfl,hp,hq,hb,hd,sa,sb,sc,sd,k⟩:=IK h;refine ⟨_,(aA (aV (cN (fK T) hr T.eZ T.fo.kp T.fW (ae (bK cS (aY bU (pv 0) ao) (aY bU (pv 1) ao)) (ae (bK cS (aY bU (pv 0) ao) (aY bU (pv 1) ao)) aj))))),?_⟩;refine aP (σ:=[some (.ref p),some (.ref q)]) rfl ?_;have hbd:0 < b*d:=jd hb hd;have sbd:Sz 8999 (b*d):=(sb.mul sd).mono (by decide);walk_at "w";refine fD (show fL _ _ from .inr ⟨_,_,sa,sc,by decide⟩) ?_;walk_at "w";refine fD (show fL _ _ from .inr ⟨_,_,sb,sd,by decide⟩) ?_;walk_at "w";walk_at "w";refine ⟨_,_,rfl,hbd,sbd,k⟩
theorem GW:bf ["_law_by_here","_law_row_here"] ["_law_by_here","_law_row_here"] (ay oy):=by walk_at "d"
theorem oO (T:Txt K mg Z):cJ P w K mg base gE 3 Z.vO Z.vE ["_law_by_here","_law_row_here"] (Kr K):=by
 refine T.lg.ok GW (λvs H Q E h=>?_) (λcdv A outer s H vs Q E hr h=>?_)
 ·obtain ⟨u,q,c,ys,rfl,_⟩:=h;rfl
 ·obtain ⟨u,q,c,ys,rfl,hc,sc,hq,hz,h2,kk⟩:=h;refine ⟨_,(aA (aV (bZ ["_law_one"] ["_law_by_here"] [0] (b9 (pv 1)) (λ_=>(aK (i:=0) (show List.Nodup (α:=PySem.Str) ["_law_one","_law_by_here"] by decide +kernel))) (λ_=>cf) (λ_=>(cN (m4 T) hr T.j8 T.jS.kp T.mK (ae (pv 1) (ae (pv 0) aj))))))),?_⟩;refine aP (σ:=[some u,some (.ref q)]) rfl ?_;obtain ⟨us,gu,qu⟩:=id hq;walk_at "w";refine ⟨⟨_,bO.of gu⟩,?_⟩;refine cB (K:=K) (F:=cg K) (cg K) (λy=>c*y) gu qu hz (λa b=>a.same b) (λa b=>a.same b) ?_ ?_
  ·rintro i y x H' NY NN en s hx k;walk_at "w";exact ⟨_,_,_,_,rfl,hc.same s,hx,sc,h2 y (ar en),λr H2 s2 h2'=>k _ _ s2 h2'⟩
  ·rintro ys' H' r hr s g pr nx;exact kk r H' hr s ⟨ys',g,pr⟩
theorem dH:bf ["_law_bag_here","_law_move_here","_law_put","_law_look","_law_n","_law_turn","_law_i","_law_j","_law_by_here","_law_less_here","_law_row_here"] ["_law_bag_here","_law_move_here","_law_put","_law_look"] (ay iG):=by walk_at "d"
theorem v8 (T:Txt K mg Z):cJ P w K mg base gE 4 Z.nR Z.nF ["_law_bag_here","_law_move_here","_law_put","_law_look"] (Dc K):=by
 refine T.nZ.ok dH (λvs H Q E h=>?_) (λcdv A outer s H vs Q E hr h=>?_)
 ·obtain ⟨b,m,p,l,q0,n,WV,μ,A,us,ws,vs,rfl,_⟩:=h;rfl
 ·obtain ⟨b,m,p,l,q0,n,WV,μ,A,us,ws,vs,rfl,MA,X,n8,i4,o4,M0,M1,⟨M,eM⟩,V1,hA,k⟩:=h
  refine ⟨_,(aw (br (i:=4) dH.nd rfl (Or.inl rfl) (bG aT (by rfl) T.len aO (ae (pv 1) aj)))
   (aw (cQ (PW.pt (oI (bE uq (pv 4) ao (bJ _)) (jX (bE fF (cN (bA T) hr T.aX T.bp.kp T.bu (ae (pv 0) (ae ao aj))) ao (bJ _))))) (aA (aV (cY (ae (pv 1) (ae (pv 2) (ae (pv 3) aj)))))) bS)
   (aw (ee PassesOwn.never rfl (cy rfl T.range (ae (bK fG ao (cN (bA T) hr T.aX T.bp.kp T.bu (ae (pv 0) (ae ao aj)))) aj)) (aK (i:=5) dH.nd)
    (aw (br (i:=6) dH.nd rfl (Or.inl rfl) (cN (bA T) hr T.aX T.bp.kp T.bu (ae (pv 0) (ae (pv 4) aj))))
   (aw (br (i:=7) dH.nd rfl (Or.inl rfl) (bK qJ (bK fG (bK fG (pv 6) ao) (cN (bA T) hr T.aX T.bp.kp T.bu (ae (pv 0) (ae (bK j4 (pv 4) ao) aj)))) (pv 4)))
   (aw (br (i:=8) dH.nd rfl (Or.inl rfl) (cY (ae (aY bW (eS (ae ao (ae (AW wQ ao) (ae ao (ae (AW wQ ao) aj))))) (cN (bA T) hr T.aX T.bp.kp T.bu (ae (pv 0) (ae ao aj)))) (ae ao aj))))
   (aw (br (i:=9) dH.nd rfl (Or.inl rfl) (cY (ae (bK j4 ao (aY bU (pv 8) ao)) (ae ao aj))))
   (aw (fh (cN (xQ T) hr T.so T.qC.kp T.uR (ae (aY bW (pv 1) (pv 6)) (ae (cN (oO T) hr T.kQ T.lg.kp T.oA (ae (pv 8) (ae (aY bW (pv 1) (pv 7)) aj))) aj))) (ie (pv 1) (pv 6) set_list))
   (aw (ee PassesOwn.never rfl (b9 (bK uu (pv 1) (pv 3))) (aK (i:=10) dH.nd)
    (aA (fh (cN (o7 T) hr T.mI T.kX.kp T.oT (ae (aY bW (pv 10) (pv 7)) (ae (cN (m4 T) hr T.j8 T.jS.kp T.mK (ae (pv 9) (ae (aY bW (pv 10) (pv 6)) aj))) aj))) (ie (pv 10) (pv 7) set_list))))
   (aA (ee PassesOwn.never rfl (b9 (pv 2)) (aK (i:=10) dH.nd)
    (aA (fh (cN (o7 T) hr T.mI T.kX.kp T.oT (ae (aY bW (pv 10) (pv 6)) (ae (cN (m4 T) hr T.j8 T.jS.kp T.mK (ae (pv 8) (ae (aY bW (pv 10) (pv 7)) aj))) aj))) (ie (pv 10) (pv 6) set_list))))))))))))
   (aA (aV (cY (ae (pv 1) (ae (pv 2) (ae (pv 3) aj))))))))),?_⟩
  refine aP (σ:=[some (.ref b),some (.ref m),some (.ref p),some (.ref l),none,none,none,none,none,none,none]) rfl ?_;have done:∀r us' H' t,t<=3->H' r=some (.tup [.ref m,.ref p,.ref l])->ko K A H' n (λx=>Fr (μ x) (9^t*WV)) m p l b q0 us' ws vs->iX A b m H H'->Q (.ref r) H':=λr us' H' t ht g x kp=>k r us' H' g (x.weak λ_ _ y h=>h.mono (aB _ (ak (by decide) ht))) kp
  have X0:ko K A H n (λx=>Fr (μ x) (9^0*WV)) m p l b q0 us ws vs:=X.weak λ_ _ y h=>h.mono (by simp)
  clear X k;have gu:=X0.gm;have lu:=X0.lm;walk_at "w";refine ⟨_,_,rfl,.inl (bO.of gu),?_⟩;rw[lu];clear gu lu;have kp0:iX A b m H H:=λ_ _ h _ _ _=>h
  walk_at "w";refine il (λh0=>?_) (λh0=>?_)
  ·walk_at "w";refine cv λr H' s' g'=>?_
   exact done r us H' 0 (by decide) g' (X0.same s') (kp0.same s')
  have n2:2<=n:=by
   rcases cb n 2 with z | z
   ·exact absurd (decide_eq_true (show (n:Int) < 2 by lia)) h0
   ·exact z
  walk_at "w";refine ⟨b,2,rfl,X0.bag,by decide,by decide,λv H1 v0 v1 B1 u1=>?_⟩;have X1:=X0.upto MA u1 B1;have kp1:=kp0.upto u1;walk_at "w";refine il (λh1=>?_) (λh1=>?_)
  ·walk_at "w";refine cv λr H' s' g'=>?_
   exact done r us H' 0 (by decide) g' (X1.same s') (kp1.same s')
  walk_at "w";refine ⟨b,3,rfl,B1,by decide,by decide,λc H2 c0 c1 B2 u2=>?_⟩;have X2:=X1.upto MA u2 B2;have kp2:=kp1.upto u2;clear X0 X1 kp0 kp1 u1 u2 B1;walk_at "w";refine ⟨by lia,by lia,?_⟩;refine eL (n:=(1+c).toNat) (λt σ' H'=>∃(x1 x2 x3 x4 x5 x6:Option V) (us:List V),σ'=[some (.ref b),some (.ref m),some (.ref p),some (.ref l),some (.int n),x1,x2,x3,x4,x5,x6]/\ko K A H' n (λx=>Fr (μ x) (9^t*WV)) m p l b q0 us ws vs/\iX A b m H H') ⟨none,none,none,none,none,none,us,rfl,X2,kp2⟩ ?_ ?_
  ·rintro t σ' H' ht ⟨x1,x2,x3,x4,x5,x6,us,rfl,X,kp⟩;have t3:t<=2:=by lia
   walk_at "w";refine ⟨b,n,rfl,X.bag,by lia,by lia,λii Ha i0 i1 Ba ua=>?_⟩;obtain ⟨ii,rfl⟩:=cD i0;have Xa:=X.upto MA ua Ba;have kpa:=kp.upto ua;walk_at "w";refine ⟨b,_,rfl,Ba,by lia,by lia,λd Hb d0 d1 Bb ub=>?_⟩;have Xb:=Xa.upto MA ub Bb;have kpb:=kpa.upto ub;walk_at "w";refine fD (show (0:Int) < n by lia) ?_;have j0:=oh ((ii:Int)+1+d) (show (n:Int)≠0 by lia);have j1:=jk ((ii:Int)+1+d) (show (0:Int) < n by lia);generalize ((ii:Int)+1+d) % (n:Int)=jj at j0 j1 ⊢;obtain ⟨jj,rfl⟩:=cD j0;walk_at "w";refine dI λl0 Hc sc nc gc=>?_
   walk_at "w";refine ⟨b,4,rfl,Bb.same sc,by decide,by decide,λv' Hd v0' v1' Bd ud=>?_⟩;have gd:=ud.other (λz=>Bb.at (by rw[<- z];exact nc)) gc;obtain ⟨x,ex,mx,_⟩:=mL (xs:=[V.int 1,V.int (-1),V.int 2,V.int (-2)]) v0' (by simpa using v1')
   obtain ⟨z,rfl,hz⟩:∃z:Int,x=.int z/\z.natAbs<=2:=by
    simp only[aE,aM,or_false] at mx;rcases mx with rfl | rfl | rfl | rfl
    ·exact ⟨1,rfl,by decide⟩
    ·exact ⟨-1,rfl,by decide⟩
    ·exact ⟨2,rfl,by decide⟩
    ·exact ⟨-2,rfl,by decide⟩
   have Xd:=(Xb.same sc).upto MA ud Bd;have kpd:=(kpb.same sc).upto ud;walk_at "w";refine cz (bO.of gd) ex ?_;walk_at "w";refine cv λbt He se ge=>?_
   walk_at "w";refine cv λlt Hf sf gf=>?_
   have Xf:=(Xd.same se).same sf;have kpf:=(kpd.same se).same sf;have nb:cg K Hf ((z:Int):Rat) (.ref bt):=cg.mk (sf _ _ ge) rfl;have nl:cg K Hf ((0 - z:Int):Rat) (.ref lt):=cg.mk gf rfl;clear X Xa Xb Xd kp kpa kpb kpd ua ub ud sc gc gd ex mx ge gf se sf Ba Bb Bd nc;have gu:=Xf.gm;have lu:=Xf.lm
   have ru:∀x∈us,fv K A Hf n (Fr M (9^t*WV)) x:=λx hx=>by
    have:=Xf.row x (by simp [hx]);rwa [eM x (Xf.apart.1 x hx).1 (Xf.apart.1 x hx).2] at this
   have hM:0 < M/\M<=2^800:=by
    have hx:us[ii]'(by lia)∈us:=aS _;have:=eM _ (Xf.apart.1 _ hx).1 (Xf.apart.1 _ hx).2;rw[<- this];exact ⟨M0 _,M1 _⟩
   have e1:us[ii]?=some (us[ii]'(by lia)):=by simp
   have e2:us[jj]?=some (us[jj]'(by lia)):=by simp
   obtain ⟨q1,z1,qs1,w1,a1,g1,k1,p1,l1,c1⟩:=(ru _ (ar e1)).at;obtain ⟨q2,z2,qs2,w2,a2,g2,k2,p2,l2,c2⟩:=(ru _ (ar e2)).at;rw[w1] at e1;rw[w2] at e2;generalize eW:9^t*WV=W at *
   have W9:9*W<=2^140:=by rw[<- eW];exact MM (by lia) V1 (by decide)
   have sz9M:∀{x:Rat} {U:Nat},U<=9*W->Fr M U x->mV x:=λhU h=>IY hM.1 hM.2 (ai hU W9) h
   have sz9:∀{x:Rat} {U:Nat} {v:V},U<=9*W->Fr (μ v) U x->mV x:=λhU h=>IY (M0 _) (M1 _) (ai hU W9) h
   walk_at "w";refine cz (bO.of gu) (fz e1) ?_;walk_at "w";refine cz (bO.of gu) (fz e2) ?_;walk_at "w";refine ⟨_,q2,_,qs2,rfl,nb,DZ (by lia),⟨z2,g2,p2⟩,by lia,λy hy=>sz9M (by lia) (c2 y hy),λr1 Hg n1 sg R1=>?_⟩;walk_at "w";refine ⟨q1,r1,qs1,_,rfl,⟨z1,sg _ _ g1,Paired.imp' (λ_ _ y=>y.same sg) p1⟩,R1,by rw[ag,l1,l2],by lia,λy hy=>sz9M (by lia) (c1 y hy),λy hy=>?_,λr2 Hh n2' sh R2=>?_⟩
   ·obtain ⟨y',hy',rfl⟩:=az.mp hy;exact Av hz (c2 y' hy') hM.1 hM.2 (by lia)
   have sfh:=sg.trans sh
   have new:V.ref r2∉us++vs++ws:=λz=>by
    obtain ⟨q',_,_,e',_,g',_⟩:=((Xf.same sg).row _ z).at;cases e';rw[n2'] at g';cases g'
   have Xh:=(Xf.same sfh).weak (C':=λx y=>(x∈ws->Fr (μ x) W y)/\Fr (μ x) (3*W) y) λx _ y h=>⟨λ_=>h,h.mono (by lia)⟩
   have kph:=kpf.same sfh;have guh:=sfh _ _ gu;have ar2:A r2:=(kpf.same sg).new hA (Xf.same sg).bag (by rw[sg _ _ gu];simp) n2'
   have rp2:fv K A Hh n (λy=>(V.ref r2∈ws->Fr (μ (.ref r2)) W y)/\Fr (μ (.ref r2)) (3*W) y) (.ref r2):=by
    rw[eM (.ref r2) (λz=>new (ax.mpr (.inr z))) (λz=>new (ax.mpr (.inl (ax.mpr (.inr z)))))];refine ⟨r2,_,rfl,ar2,R2,by rw[dX,ag];lia,λy hy=>⟨λz=>absurd (ax.mpr (.inr z)) new,?_⟩⟩;obtain ⟨j',hj',e⟩:=bR hy;rw[List.getElem_zipWith,rM] at e;rw[<- e];exact EF hz (c1 _ (aS _)) (c2 _ (aS _))
   walk_at "w";refine eY guh (fw (by lia)) rfl ?_;have Xi:=Xh.set MA rp2 new ii;have kpi:=kph.upd (o:=.lst (us.set ii (.ref r2))) (q:=m) (.inr rfl);have nli:cg K (upd Hh m (.lst (us.set ii (.ref r2)))) ((0 - z:Int):Rat) (.ref lt):=(nl.same sfh).updL guh;have nbi:cg K (upd Hh m (.lst (us.set ii (.ref r2)))) ((z:Int):Rat) (.ref bt):=(nb.same sfh).updL guh;generalize upd Hh m (.lst (us.set ii (.ref r2)))=Hi at Xi kpi nli nbi ⊢;generalize us.set ii (.ref r2)=um at Xi;clear nb nl Xf kpf gu ru e1 e2 g1 p1 g2 p2 R1 R2 Xh kph guh rp2 sg sh sfh new;have gm:=Xi.gm;have lm:=Xi.lm;have gl:=Xi.gl;have nd:=Xi.nd;obtain ⟨nd1,nd2,nd3⟩:=dB.mp nd;walk_at "w";refine uh gm gl (bg (bN (by lia))) λcl Hj sj nj gj=>?_
   have kpj:=kpi.same sj
   have rows:∀x∈um++vs,∀q,x=V.ref q->q≠cl:=λx hx q e y=>by
    obtain ⟨q',zs,_,e',_,g',_⟩:=(Xi.row x (ax.mpr (.inl hx))).at;rw[e] at e';cases e';rw[y,nj] at g';cases g'
   have Xj:=(Xi.same sj).weak (C':=λx y=>(x∈ws->Fr (μ x) W y)/\(x∈(um++vs).drop 0->Fr (μ x) (3*W) y)/\Fr (μ x) (9*W) y) λx _ y h=>⟨h.1,λ_=>h.2,h.2.mono (by lia)⟩
   have lj:cg K Hj ((0 - z:Int):Rat) (.ref lt):=nli.same sj;have bj:cg K Hj ((z:Int):Rat) (.ref bt):=nbi.same sj;clear Xi kpi nli nbi;refine ⟨_,rfl,⟨_,bO.of gj⟩,?_⟩;refine i5 (K:=K) (a:=cl) (xs:=um++vs) (λs σ' H'=>∃x6:Option V,σ'=[some (.ref b),some (.ref m),some (.ref p),some (.ref l),some (.int n),some (.int t),some (.int ii),some (.int jj),some (.ref bt),some (.ref lt),x6]/\ko K A H' n (λx y=>(x∈ws->Fr (μ x) W y)/\(x∈(um++vs).drop s->Fr (μ x) (3*W) y)/\Fr (μ x) (9*W) y) m p l b q0 um ws vs/\iX A b m H H'/\H' cl=some (.lst (um++vs))/\cg K H' ((0 - z:Int):Rat) (.ref lt)/\cg K H' ((z:Int):Rat) (.ref bt)) ⟨_,rfl,Xj,kpj,gj,lj,bj⟩ (λs σ' H' _ ⟨_,_,_,_,e,_⟩=>bO.of e) ?_ ?_
   ·rintro s x σ' Hk hx ⟨y6,rfl,Xk,kpk,gk,lk,bk⟩;have hs:s < (um++vs).length:=(aD.mp hx).1;have mx:=ar hx
    have xd:x∈(um++vs).drop s:=by
     rw[eh hs,(aD.mp hx).2];exact .head _
    have xd2:x∉(um++vs).drop (s+1):=λz=>by
     have:=nd1.sublist (List.drop_sublist s _);rw[eh hs,d6,(aD.mp hx).2] at this;exact this.1 z
    have xw:x∉ws:=λz=>nd3 x mx x z rfl
    have rx:=Xk.row x (ax.mpr (.inl mx));obtain ⟨q,zs,qs,rfl,aq,gq,lq,pq,lq2,cq⟩:=rx.at;have qcl:=rows _ mx q rfl;obtain ⟨vj,ej,nj'⟩:=E3 pq (j:=jj) (by lia);obtain ⟨vi,ei,ni'⟩:=E3 pq (j:=ii) (by lia);have cj:=(cq _ (getD_mem (xs:=qs) (i:=jj) (by lia))).2.1 xd;have ci:=(cq _ (getD_mem (xs:=qs) (i:=ii) (by lia))).2.1 xd;walk_at "w";refine cz (bO.of gq) ej ?_;walk_at "w";refine cz (bO.of gq) ei ?_;walk_at "w";refine ⟨_,_,_,_,rfl,lk,ni',DZ (by lia),sz9 (by lia) ci,λr3 Hl sl n3=>?_⟩;walk_at "w";refine ⟨_,_,_,_,rfl,nj'.same sl,n3,sz9 (by lia) cj,Av (by lia) ci (M0 _) (M1 _) (by lia),λr4 Hm sm n4=>?_⟩;have slm:=sl.trans sm;walk_at "w";refine eY (slm _ _ gq) (fw (by lia)) rfl ?_;refine ⟨_,rfl,?_,(kpk.same slm).upd (.inl aq),by rw[bF qcl.symm];exact slm _ _ gk,(lk.same slm).updL (slm _ _ gq),(bk.same slm).updL (slm _ _ gq)⟩;refine ((Xk.same slm).weak λx' _ y h=>⟨h.1,λz=>h.2.1 ?_,h.2.2⟩).put MA aq (slm _ _ gq) n4 ⟨λz=>absurd z xw,λz=>absurd z xd2,?_⟩ jj
    ·rw[eh hs];exact .tail _ z
    ·exact (EF (by lia) cj ci).mono (by lia)
   ·rintro σ' Hk ⟨y6,rfl,Xk,kpk,gk,lk,bk⟩;have gp:=Xk.gp;have Xk2:=Xk.weak (C':=λx y=>(x∈ws.drop 0->Fr (μ x) W y)/\Fr (μ x) (9*W) y) λx _ y h=>⟨λz=>h.1 (by simpa using z),h.2.2⟩
    clear Xk;walk_at "w";refine ⟨⟨_,bO.of gp⟩,?_⟩;refine i5 (K:=K) (a:=p) (xs:=ws) (λs σ' H'=>∃x6:Option V,σ'=[some (.ref b),some (.ref m),some (.ref p),some (.ref l),some (.int n),some (.int t),some (.int ii),some (.int jj),some (.ref bt),some (.ref lt),x6]/\ko K A H' n (λx y=>(x∈ws.drop s->Fr (μ x) W y)/\Fr (μ x) (9*W) y) m p l b q0 um ws vs/\iX A b m H H'/\cg K H' ((z:Int):Rat) (.ref bt)) ⟨_,rfl,Xk2,kpk,bk⟩ (λs σ' H' _ ⟨_,_,X,_⟩=>bO.of X.gp) ?_ ?_
    ·rintro s x σ' Hl hx ⟨w6,rfl,Xl,kpl,bl⟩;have hs:s < ws.length:=(aD.mp hx).1;have mx:=ar hx
     have xd:x∈ws.drop s:=by
      rw[eh hs,(aD.mp hx).2];exact .head _
     have xd2:x∉ws.drop (s+1):=λz=>by
      have:=nd2.sublist (List.drop_sublist s _);rw[eh hs,d6,(aD.mp hx).2] at this;exact this.1 z
     have rx:=Xl.row x (ax.mpr (.inr mx));obtain ⟨q,zs,qs,rfl,aq,gq,lq,pq,lq2,cq⟩:=rx.at;obtain ⟨vj,ej,nj'⟩:=E3 pq (j:=jj) (by lia);obtain ⟨vi,ei,ni'⟩:=E3 pq (j:=ii) (by lia);have cj:=(cq _ (getD_mem (xs:=qs) (i:=jj) (by lia))).1 xd;have ci:=(cq _ (getD_mem (xs:=qs) (i:=ii) (by lia))).1 xd;walk_at "w";refine cz (bO.of gq) ei ?_;walk_at "w";refine cz (bO.of gq) ej ?_;walk_at "w";refine ⟨_,_,_,_,rfl,bl,nj',DZ (by lia),sz9 (by lia) cj,λr3 Hm sm n3=>?_⟩;walk_at "w";refine ⟨_,_,_,_,rfl,ni'.same sm,n3,sz9 (by lia) ci,Av (by lia) cj (M0 _) (M1 _) (by lia),λr4 Hn sn n4=>?_⟩;have smn:=sm.trans sn;walk_at "w";refine eY (smn _ _ gq) (fw (by lia)) rfl ?_;refine ⟨_,rfl,?_,(kpl.same smn).upd (.inl aq),(bl.same smn).updL (smn _ _ gq)⟩;refine ((Xl.same smn).weak λx' _ y h=>⟨λz=>h.1 ?_,h.2⟩).put MA aq (smn _ _ gq) n4 ⟨λz=>absurd z xd2,?_⟩ ii
     ·rw[eh hs];exact .tail _ z
     ·exact (EF (by lia) ci cj).mono (by lia)
    ·rintro σ' Hl ⟨w6,rfl,Xl,kpl,bl⟩;refine ⟨_,_,_,_,_,_,um,rfl,Xl.weak λ_ _ y h=>h.2.mono ?_,kpl⟩;rw[<- eW,gZ,bV (9^t) 9,cE];exact au _
  ·rintro σ' H' ⟨x1,x2,x3,x4,x5,x6,us',rfl,X,kp⟩;walk_at "w";refine cv λr H2' s' g'=>?_
   exact done r us' H2' _ (by lia) g' (X.same s') (kp.same s')
theorem dw:bf ["_law_bag_here","_law_one","_law_other","_law_ahead","_law_behind","_law_found","_law_k"] ["_law_bag_here"] (ay eE):=by walk_at "d"
theorem xO (T:Txt K mg Z):cJ P w K mg base gE 5 Z.iS Z.iL ["_law_bag_here"] (Mg K):=by
 refine T.kW.ok dw (λvs H Q E h=>?_) (λcdv A outer s H vs Q E hr h=>?_)
 ·obtain ⟨b,rfl,_⟩:=h;rfl
 ·obtain ⟨b,rfl,hB,k⟩:=h
  refine ⟨_,(aw (br (i:=1) dw.nd rfl (Or.inl rfl) (cN (rX T) hr T.m9 T.mQ.kp T.pU (ae (pv 0) (ae ao aj))))
   (aw (br (i:=2) dw.nd rfl (Or.inl rfl) (cN (rX T) hr T.m9 T.mQ.kp T.pU (ae (pv 0) (ae (bK fG ao (cN (bA T) hr T.aX T.bp.kp T.bu (ae (pv 0) (ae ao aj)))) aj))))
   (aw (br (i:=3) dw.nd rfl (Or.inr rfl) (bK KP (eS (ae (cY (ae ao (ae ao aj))) aj)) ao))
   (aw (br (i:=4) dw.nd rfl (Or.inr rfl) (bK KP (eS (ae (cY (ae ao (ae ao aj))) aj)) (bG aT (by rfl) T.len aO (ae (aY bU (pv 2) ao) aj))))
   (aw (br (i:=5) dw.nd rfl (Or.inl rfl) (eS aj))
   (aw (ee PassesOwn.never rfl (cy rfl T.range (ae ao aj)) (aK (i:=6) dw.nd)
    (aA (jY (AX dE eO eN oz (pv 5) (ae (bK uu (bZ ["_law_row_here"] ["_law_behind"] [4] (b9 (aY bU (pv 1) (pv 6))) (λ_=>(aK (i:=0) (show List.Nodup (α:=PySem.Str) ["_law_row_here","_law_behind"] by decide +kernel))) (λ_=>cf) (λ_=>(bK uu (pv 0) (pv 1)))) (bZ ["_law_row_here"] ["_law_ahead"] [3] (b9 (aY bU (pv 2) (pv 6))) (λ_=>(aK (i:=0) (show List.Nodup (α:=PySem.Str) ["_law_row_here","_law_ahead"] by decide +kernel))) (λ_=>cf) (λ_=>(bK uu (pv 1) (pv 0))))) aj)))))
   (aA (aV (cN (v8 T) hr T.qO T.nZ.kp T.sZ (ae (pv 0) (ae (aY bW (pv 5) ao) (ae (aY bW (pv 5) ao) (ae (aY bW (pv 5) ao) aj))))))))))))),?_⟩
  refine aP (σ:=[some (.ref b),none,none,none,none,none,none]) rfl ?_;obtain ⟨q0,I0,xq,gq0⟩:=hB.inner;walk_at "w";refine ⟨b,3,rfl,hB,by decide,by decide,λr1 mv1 pt1 lk1 H1 P1 lm1 lp1 ll1 D1 fm1 fp1 fl1 B1 u1=>?_⟩;walk_at "w";refine ⟨b,3,rfl,B1,by decide,by decide,λv H2 v0 v1 B2 u2=>?_⟩;obtain ⟨v,rfl⟩:=cD v0;have u02:=u1.trans u2;walk_at "w";rw[show ((3:Int)+(v:Int))=((3+v:Nat):Int) by lia];refine ⟨b,3+v,rfl,B2,by lia,by lia,λr2 mv2 pt2 lk2 H3 P2 lm2 lp2 ll2 D2 fm2 fp2 fl2 B3 u3=>?_⟩;have u03:=u02.trans u3;have P1c:=(P1.upto (u2.trans u3) B1 hB.at);have P2c:fH K H H3 r2 mv2 pt2 lk2:=P2.weak λq h=>u02.none B2 h
  walk_at "w";refine cv λt0 H4 s4 g4=>?_
  walk_at "w";refine dI λa1 H5 s5 n5 g5=>?_
  walk_at "w";refine Ky (k:=3) g5 (by decide) λah H6 s6 n6 g6=>?_
  have s36:=(s4.trans s5).trans s6;obtain ⟨m1,p1,l1,gt1,m1n,p1n,l1n,Gm1,Gp1,Gl1⟩:=P1c.same s36;obtain ⟨m2,p2,l2,gt2,m2n,p2n,l2n,Gm2,Gp2,Gl2⟩:=P2c.same s36;have N0:cg K H6 0 (V.ref t0):=cg.mk (q:=0) ((s5.trans s6) _ _ g4) rfl;walk_at "w";refine cv λt1 H7 s7 g7=>?_
  walk_at "w";refine dI λa2 H8 s8 n8' g8=>?_
  have s68:=s7.trans s8;have gt2':=s68 _ _ gt2;obtain ⟨um2,gm2,qm2,_⟩:=id (Gm2.same s68);have lum2:=qm2.length;walk_at "w";refine ⟨_,_,rfl,.inl (bO.of gm2),?_⟩;rw[<- lum2,lm2];walk_at "w";refine Ky (k:=3+v) g8 (by lia) λbh H9 s9 n9 g9=>?_
  have s69:=s68.trans s9;have s39:=s36.trans s69;have N1:cg K H9 0 (V.ref t1):=cg.mk (q:=0) ((s8.trans s9) _ _ g7) rfl;have u09:=u03.same s39;have B9:=B3.same s39;have g6':=s69 _ _ g6;have N0':=N0.same s69;walk_at "w";refine dI λfd H10 s10 n10 g10=>?_
  have X1:∀i:Nat,i < 3->∃q1 R1 q2 R2,[V.ref m1,V.ref p1,V.ref l1][i]?=some (V.ref q1)/\bI K H H9 q1 R1/\(∀xs∈R1,xs.length=3/\∀y∈xs,Fr 1 1 y)/\[V.ref m2,V.ref p2,V.ref l2][i]?=some (V.ref q2)/\bI K H H9 q2 R2/\(∀xs∈R2,xs.length=3+v/\∀y∈xs,Fr 1 1 y)/\R1.length<=100/\R2.length<=100/\[6+v,2,2][i]?=some (R1.length+R2.length):=λi hi=>by
   rcases (show i=0\/i=1\/i=2 by lia) with rfl | rfl | rfl
   ·exact ⟨m1,mv1,m2,mv2,rfl,Gm1.same s69,λxs hx=>⟨by rw[D1.mw xs hx,lm1],fm1 xs hx⟩,rfl,Gm2.same s69,λxs hx=>⟨by rw[D2.mw xs hx,lm2],fm2 xs hx⟩,by lia,by lia,by rw[lm1,lm2,show 3+(3+v)=6+v by lia];rfl⟩
   ·exact ⟨p1,pt1,p2,pt2,rfl,Gp1.same s69,λxs hx=>⟨by rw[D1.pw xs hx,lm1],fp1 xs hx⟩,rfl,Gp2.same s69,λxs hx=>⟨by rw[D2.pw xs hx,lm2],fp2 xs hx⟩,by lia,by lia,by rw[lp1,lp2];rfl⟩
   ·exact ⟨l1,lk1,l2,lk2,rfl,Gl1.same s69,λxs hx=>⟨by rw[D1.lw xs hx,lm1],fl1 xs hx⟩,rfl,Gl2.same s69,λxs hx=>⟨by rw[D2.lw xs hx,lm2],fl2 xs hx⟩,by lia,by lia,by rw[ll1,ll2];rfl⟩
  walk_at "w";refine ⟨by decide,by decide,?_⟩;refine eL (n:=3) (λi σ' H'=>aG H9 H'/\∃x6 L,σ'=[some (.ref b),some (.ref r1),some (.ref r2),some (.ref ah),some (.ref bh),some (.ref fd),x6]/\Q3 K H9 H' (6+v) fd L/\L.length=i/\∀(j:Nat) (e:Addr×List V),L[j]?=some e->[6+v,2,2][j]?=some e.2.length) ⟨s10,none,[],rfl,⟨g10,n10,(λ_ z=>nomatch z),qF,(λ_ z=>nomatch z),qF⟩,rfl,λj e h=>by simp at h⟩ ?_ ?_
  ·rintro i σ' H' hi ⟨s',x6,L,rfl,T,lL,hL⟩;obtain ⟨q1,R1,q2,R2,e1,G1,w1,e2,G2,w2,b1,b2,hlen⟩:=X1 i hi;have gt1':=s' _ _ (s69 _ _ gt1);have gt2'':=s' _ _ (s69 _ _ gt2);obtain ⟨ux1,gx1,qx1,_⟩:=id (G1.same s');have gb:=s' _ _ g9;have ga:=s' _ _ g6';walk_at "w";refine ⟨.inl ⟨rfl,_,bO.of T.gf⟩,?_⟩;walk_at "w";refine Ho (kj.of gt1') (fz e1) ?_;walk_at "w";refine ⟨⟨_,bO.of gx1⟩,?_⟩;refine DD (K:=K) (F:=cP K H) (λH'' c x=>∃q,x=V.ref q/\cX K H'' q c) (λr=>r++List.replicate (3+v) 0) gx1 qx1 (by lia) (λa b=>a.same b) (λa b=>by obtain ⟨q,e,r⟩:=a;exact ⟨q,e,r.same b⟩) (λa=>by obtain ⟨q,e,_,gg,_⟩:=a;exact ⟨q,e,by rw[gg];exact λz=>nomatch z⟩) ?_ ?_
   ·rintro j ns x Hi NY NN en si ⟨q,rfl,_,zs,gz,qz⟩ k1;have ws:=(w1 ns (ar en)).1;have lz:=qz.length;walk_at "w";refine uh gz (si _ _ gb) (bg (bN (by rw[fX];lia))) λc Hj sj nj gj=>?_
    exact k1 _ _ sj ⟨c,rfl,_,gj,cM (Paired.imp' (λ_ _ z=>z.same sj) qz) (xa (((N1.same s').same si).same sj) _)⟩ ⟨c,rfl,nj⟩
   rintro ys1 Ha c1 hc1 sa ga1 nd1 ne1 pr1;obtain ⟨ux2,gx2,qx2,_⟩:=id ((G2.same s').same sa);have gt2a:=sa _ _ gt2'';walk_at "w";refine Ho (kj.of gt2a) (fz e2) ?_;walk_at "w";refine ⟨⟨_,bO.of gx2⟩,?_⟩;refine DD (K:=K) (F:=cP K H) (λH'' c x=>∃q,x=V.ref q/\cX K H'' q c) (λr=>List.replicate 3 0++r) gx2 qx2 (by lia) (λa b=>a.same b) (λa b=>by obtain ⟨q,e,r⟩:=a;exact ⟨q,e,r.same b⟩) (λa=>by obtain ⟨q,e,_,gg,_⟩:=a;exact ⟨q,e,by rw[gg];exact λz=>nomatch z⟩) ?_ ?_
   ·rintro j ns x Hi NY NN en si ⟨q,rfl,_,zs,gz,qz⟩ k1;have ws:=(w2 ns (ar en)).1;have lz:=qz.length;walk_at "w";refine uh ((sa.trans si) _ _ ga) gz (bg (bN (by rw[fX];lia))) λc Hj sj nj gj=>?_
    exact k1 _ _ sj ⟨c,rfl,_,gj,cM (xa ((((N0'.same s').same sa).same si).same sj) _) (Paired.imp' (λ_ _ z=>z.same sj) qz)⟩ ⟨c,rfl,nj⟩
   rintro ys2 Hb c2 hc2 sb gb2 nd2 ne2 pr2;have sab:=sa.trans sb;have ly1:=pr1.length;have ly2:=pr2.length;rw[ag] at ly1 ly2;walk_at "w";refine uh (sb _ _ ga1) gb2 (bg (bN (by lia))) λqn Hc sc nc gc=>?_
   have sac:=sab.trans sc;have gfc:=sac _ _ T.gf;walk_at "w";refine kJ gfc (bN (by rw[ag];lia)) ?_
   have rP:∀{c:List Rat} {x:V},(∃q,x=V.ref q/\cX K Hb q c)->(∃q,x=V.ref q/\H' q=none)->c.length=6+v->(∀y∈c,Fr 1 1 y)->fv K (λz=>H' z=none/\z≠qn) Hc (6+v) (Fr 1 1) x:=λ⟨q,e,r⟩ ⟨q',e',nq⟩ hl hf=>by
    rw[e] at e';cases e';exact ⟨q,_,e,⟨nq,λz=>by obtain ⟨_,gg,_⟩:=r;rw[z,nc] at gg;cases gg⟩,r.same sc,hl,hf⟩
   refine ⟨(s'.trans sac).after n10,some (.int i),L++[(qn,ys1++ys2)],rfl,T.snoc s' sac (sab.none nc) gc ?_ (λx hx=>?_),by rw[av,be,lL],λj e he=>?_⟩
   ·refine dB.mpr ⟨nd1,nd2,λx hx y hy z=>?_⟩;obtain ⟨_,_,q,e,_,gg,_⟩:=cF pr1 hx;obtain ⟨q',e',nq,_⟩:=ne2 y hy;rw[<- z,e] at e';cases e';rw[nq] at gg;cases gg
   ·rcases ax.mp hx with hx | hx
    ·obtain ⟨c,mc,q,e,r⟩:=cF pr1 hx;obtain ⟨ns,mn,rfl⟩:=az.mp mc;obtain ⟨q',e',nq,_⟩:=ne1 x hx;refine rP ⟨q,e,r.same sb⟩ ⟨q',e',nq⟩ (by rw[av,fX,(w1 ns mn).1];lia) λy hy=>?_
     rcases ax.mp hy with hy | hy
     ·exact (w1 ns mn).2 y hy
     ·rw[(List.mem_replicate.mp hy).2];exact Fr.zero
    ·obtain ⟨c,mc,q,e,r⟩:=cF pr2 hx;obtain ⟨ns,mn,rfl⟩:=az.mp mc;obtain ⟨q',e',nq,_⟩:=ne2 x hx;refine rP ⟨q,e,r⟩ ⟨q',e',sa.none nq⟩ (by rw[av,fX,(w2 ns mn).1];lia) λy hy=>?_
     rcases ax.mp hy with hy | hy
     ·rw[(List.mem_replicate.mp hy).2];exact Fr.zero
     ·exact (w2 ns mn).2 y hy
   ·rcases cb j L.length with z | z
    ·rw[cR z] at he;exact hL j e he
    ·have hj:=(aD.mp he).1;rw[av,be] at hj;have ej:j=L.length:=by lia
     subst ej;rw[b8 (au _),mC] at he;cases he;rw[lL,hlen,av,ly1,ly2]
  ·rintro σ' H' ⟨s',x6,L,rfl,T,lL,hL⟩
   obtain ⟨⟨m,us⟩,⟨p,ws⟩,⟨l,vs⟩,rfl⟩:∃a b c,L=[a,b,c]:=by
    rcases L with _ | ⟨a,_ | ⟨b,_ | ⟨c,_ | ⟨d,L⟩⟩⟩⟩
    ·cases lL
    ·cases lL
    ·cases lL
    ·exact ⟨a,b,c,rfl⟩
    ·simp at lL
   have lu:us.length=6+v:=by have:=hL 0 _ rfl;simpa using this.symm
   have lw:ws.length=2:=by have:=hL 1 _ rfl;simpa using this.symm
   have lv:vs.length=2:=by have:=hL 2 _ rfl;simpa using this.symm
   have gf:=T.gf;obtain ⟨mn,mf,gm⟩:=T.ls (m,us) (by simp);obtain ⟨pn,pf,gp⟩:=T.ls (p,ws) (by simp);obtain ⟨ln,lf,gl⟩:=T.ls (l,vs) (by simp);have nd:=T.nd;have rw':=T.rows;have rd:=T.rd;clear T hL;have gf:H' fd=some (.lst [.ref m,.ref p,.ref l]):=gf;have nd:[m,p,l].Nodup:=nd;have rd:(us++(ws++(vs++[]))).Nodup:=rd;have u0':=u09.same s';have B':=B9.same s';have hm0:H m=none:=u09.none B9 mn;have hp0:H p=none:=u09.none B9 pn;have hl0:H l=none:=u09.none B9 ln;obtain ⟨A,eA⟩:∃A:Addr->Prop,A=λq=>H q=none/\q≠m/\q≠p/\q≠l:=⟨_,rfl⟩
   have mkA:∀{q},H q=none->q≠m->q≠p->q≠l->A q:=λh1 h2 h3 h4=>by rw[eA];exact ⟨h1,h2,h3,h4⟩
   have unA:∀{q},A q->H q=none/\q≠m/\q≠p/\q≠l:=λh=>by rw[eA] at h;exact h
   have nb:∀{q},H q=none->q≠b:=λh z=>hB.at (by rw[<- z];exact h)
   have MA:Gx A m p l b q0:=⟨λz=>(unA z).2.1 rfl,λz=>(unA z).2.2.1 rfl,λz=>(unA z).2.2.2 rfl,λz=>hB.at (unA z).1,(λz=>by have z1:=(unA z).1;rw[gq0] at z1;cases z1),nb hm0,nb hp0,nb hl0,by intro z;subst z;simp at nd,by intro z;subst z;simp at nd,λz=>by rw[<- z,hm0] at gq0;cases gq0⟩;have X:ko K A H' (6+v) (λ_=>Fr 1 1) m p l b q0 us ws vs:=⟨B',u0'.2 _ I0,gm,gp,gl,lu,λx hx=>?_,?_⟩
   ·walk_at "w";refine ⟨b,m,p,l,q0,6+v,1,λ_=>1,A,us,ws,vs,rfl,MA,X,by lia,by lia,by lia,λ_=>Nat.zero_lt_one,λ_=>bQ,⟨1,λ_ _ _=>rfl⟩,by decide,λq hq=>?_,λr us' H'' g Y kp=>?_⟩
    ·exact mkA (u0'.none B' hq) (λz=>by rw[z,gm] at hq;cases hq) (λz=>by rw[z,gp] at hq;cases hq) (λz=>by rw[z,gl] at hq;cases hq)
    ·obtain ⟨mv,Gm,lmv,hmv⟩:=kR (H0:=H) (n:=6+v) (C:=Fr 1 (9^3*1)) (m:=6+v) ⟨us',Y.gm,Y.lm,MA.am,λx hx=>Y.row x (by simp [hx])⟩ λq h=>(unA h).1
     obtain ⟨pt,Gp,lpt,hpt⟩:=kR (H0:=H) (n:=6+v) (C:=Fr 1 (9^3*1)) (m:=2) ⟨ws,Y.gp,lw,MA.ap,λx hx=>Y.row x (by simp [hx])⟩ λq h=>(unA h).1
     obtain ⟨lk,Gl,llk,hlk⟩:=kR (H0:=H) (n:=6+v) (C:=Fr 1 (9^3*1)) (m:=2) ⟨vs,Y.gl,lv,MA.al,λx hx=>Y.row x (by simp [hx])⟩ λq h=>(unA h).1
     refine k r mv pt lk H'' ⟨m,p,l,g,hm0,hp0,hl0,Gm,Gp,Gl⟩ (by lia) ⟨by lia,by lia,by lia,λxs hx=>by rw[(hmv xs hx).1,lmv],λxs hx=>by rw[(hpt xs hx).1,lmv],λxs hx=>by rw[(hlk xs hx).1,lmv]⟩ (λxs hx=>(hmv xs hx).2) (λxs hx=>(hpt xs hx).2) (λxs hx=>(hlk xs hx).2) Y.bag ⟨λc' u e n1=>kp c' u (u0'.1 _ _ e n1) n1 (λz=>by have:=(unA z).1;rw[e] at this;cases this) (λz=>by rw[z,hm0] at e;cases e),λq h=>by rw[<- Inner.inj I0 h];exact Y.inn⟩
   ·have hx:∃e∈[(m,us),(p,ws),(l,vs)],x∈e.2:=by
     rcases ax.mp hx with hx | hx
     ·rcases ax.mp hx with hx | hx
      ·exact ⟨(m,us),by simp,hx⟩
      ·exact ⟨(l,vs),by simp,hx⟩
     ·exact ⟨(p,ws),by simp,hx⟩
    obtain ⟨e,he,hx⟩:=hx;refine (rw' e he x hx).weak (λq hq=>?_) (λ_ w=>w);obtain ⟨⟨h1,_⟩,h2⟩:=hq;have h2:q∉[m,p,l]:=h2;simp only[aE,aM,or_false,not_or] at h2;exact mkA (u09.none B9 h1) h2.1 h2.2.1 h2.2.2
   ·rw[Ci] at rd
    have e:(us++vs++ws).Perm (us++(ws++vs)):=by
     rw[ck];exact List.Perm.append_left _ List.perm_append_comm
    exact e.nodup_iff.mpr rd
theorem ue:bf ["_law_bag_here","_law_wide","_law_way"] ["_law_bag_here","_law_wide"] (ay gL):=by walk_at "d"
theorem Bm (T:Txt K mg Z):cJ P w K mg base gE 2 Z.ma Z.lJ ["_law_bag_here","_law_wide"] (AB K):=by
 refine T.qV.ok ue (λvs H Q E h=>?_) (λcdv A outer s H vs Q E hr h=>?_)
 ·obtain ⟨b,w,rfl,_⟩:=h;rfl
 ·obtain ⟨b,w,rfl,hB,w0,w1,k⟩:=h
  refine ⟨_,(aw (br (i:=2) ue.nd rfl (Or.inl rfl) (cN (bA T) hr T.aX T.bp.kp T.bu (ae (pv 0) (ae ao aj))))
   (aw (cQ (bE uq (pv 2) ao (bJ _)) (aA (aV (cY (ae ao (ae ao aj))))) bS)
   (aw (cQ (bE uq (pv 2) ao (bJ _)) (aA (aV (cY (ae (bK j4 (cN (bA T) hr T.aX T.bp.kp T.bu (ae (pv 0) (ae ao aj))) ao) (ae ao aj))))) bS)
   (aw (cQ (bE fF (pv 2) ao (bJ _)) (aA (aV (cN (fK T) hr T.eZ T.fo.kp T.fW (ae (bK j4 (cN (bA T) hr T.aX T.bp.kp T.bu (ae (pv 0) (ae ao aj))) ao) (ae (bK fG ao (cN (bA T) hr T.aX T.bp.kp T.bu (ae (pv 0) (ae ao aj)))) aj))))) bS)
   (aA (aV (cN (fK T) hr T.eZ T.fo.kp T.fW (ae (bK j4 (cN (bA T) hr T.aX T.bp.kp T.bu (ae (pv 0) (ae (bK fG (bK cS ao (pv 1)) ao) aj))) (pv 1)) (ae (bK fG ao (cN (bA T) hr T.aX T.bp.kp T.bu (ae (pv 0) (ae (pv 1) aj)))) aj))))))))),?_⟩
  refine aP (σ:=[some (.ref b),some (.int w),none]) rfl ?_;walk_at "w";refine ⟨b,8,rfl,hB,by decide,by decide,λv H1 v0 v1 B1 u1=>?_⟩;walk_at "w";refine il (λh0=>?_) (λh0=>?_)
  ·walk_at "w";refine cv λr H2 s2 g2=>?_
   exact k r 0 _ ⟨bo _,by show 1<=_;lia⟩ (cg.mk g2 rfl) (B1.same s2) (u1.same s2)
  walk_at "w";refine il (λh1=>?_) (λh1=>?_)
  ·walk_at "w";refine ⟨b,7,rfl,B1,by decide,by decide,λa H2 a0 a1 B2 u2=>?_⟩;walk_at "w";refine cv λr H3 s3 g3=>?_
   exact k r ((a - 3:Int):Rat) _ ⟨by show (a - 3).natAbs<=_;lia,by show 1<=_;lia⟩ (cg.mk g3 rfl) (B2.same s3) ((u1.trans u2).same s3)
  walk_at "w";refine il (λh2=>?_) (λh2=>?_)
  ·walk_at "w";refine ⟨b,13,rfl,B1,by decide,by decide,λa H2 a0 a1 B2 u2=>?_⟩;walk_at "w";refine ⟨b,6,rfl,B2,by decide,by decide,λc H3 c0 c1 B3 u3=>?_⟩;walk_at "w";refine ⟨_,_,rfl,by lia,(Kl (by lia)).mono (by decide),λr H4 s4 g4=>?_⟩;obtain ⟨q,e,d,_⟩:=La (t:=a - 6) (b:=1+c) (W:=max w 6) (by lia) (by lia) (by lia);exact k r q _ d (cg.mk g4 e) (B3.same s4) (((u1.trans u2).trans u3).same s4)
  walk_at "w";refine ⟨b,_,rfl,B1,by lia,by lia,λa H2 a0 a1 B2 u2=>?_⟩;walk_at "w";refine ⟨b,_,rfl,B2,by lia,by lia,λc H3 c0 c1 B3 u3=>?_⟩;walk_at "w";refine ⟨_,_,rfl,by lia,(Kl (by lia)).mono (by decide),λr H4 s4 g4=>?_⟩;obtain ⟨q,e,d,_⟩:=La (t:=a - w) (b:=1+c) (W:=max w 6) (by lia) (by lia) (by lia);exact k r q _ d (cg.mk g4 e) (B3.same s4) (((u1.trans u2).trans u3).same s4)
theorem Fz:bf ["_law_bag_here","_law_many","_law_wide"] ["_law_bag_here","_law_many","_law_wide"] (ay kF):=by walk_at "d"
theorem o8 (T:Txt K mg Z):cJ P w K mg base gE 3 Z.tw Z.sQ ["_law_bag_here","_law_many","_law_wide"] (Fu K):=by
 refine T.jq.ok Fz (λvs H Q E h=>?_) (λcdv A outer s H vs Q E hr h=>?_)
 ·obtain ⟨b,m,w,rfl,_⟩:=h;rfl
 ·obtain ⟨b,m,w,rfl,hB,hm,w0,w1,k⟩:=h;refine ⟨_,(aA (aV (bZ ["_law_k"] ["_law_bag_here","_law_wide"] [0,2] (cy rfl T.range (ae (pv 1) aj)) (λ_=>(aK (i:=0) (show List.Nodup (α:=PySem.Str) ["_law_k","_law_bag_here","_law_wide"] by decide +kernel))) (λ_=>cf) (λ_=>(cN (Bm T) hr T.uI T.qV.kp T.wI (ae (pv 1) (ae (pv 2) aj))))))),?_⟩;refine aP (σ:=[some (.ref b),some (.int m),some (.int w)]) rfl ?_;walk_at "w";refine ⟨by lia,by lia,?_⟩;refine zd (n:=m) (cg K) (Dr (max w 6)) hB hm (λa u B=>a.upto u B) ?_ ?_
  ·rintro i H' NY NN hi u B k1;walk_at "w";exact ⟨b,w,rfl,B,w0,w1,λr x H2 hx h2 B2 u2=>k1 _ x _ u2 B2 hx h2⟩
  ·rintro ys cs H' p hp u B g lc hc pr nx;exact k p cs H' hp ⟨ys,g,pr⟩ lc hc B u
theorem jW:bf ["_law_bag_here","_law_n","_law_way","_law_first","_law_wide","_law_move_here","_law_i","_law_row_here","_law_j"] ["_law_bag_here","_law_n","_law_way","_law_first","_law_wide"] (ay jD):=by walk_at "d"
theorem Er (T : Txt K mg Z) : cJ P w K mg base gE 4 Z.qh Z.pL ["_law_bag_here", "_law_n", "_law_way", "_law_first", "_law_wide"] (Fn K) := by
  have tE := o8 (P := P) (w := w) (base := base) T;have jR := bA (P := P) (w := w) (base := base) T;refine T.uZ.ok jW (λvs H Q E h => ?_) (λcdv A outer s H vs Q E hr h => ?_)
  · obtain ⟨b, n, w, way, first, rfl, _⟩ := h;rfl
  · obtain ⟨b, n, w, way, first, rfl, hB, n8, w0, w1, k⟩ := h
    refine ⟨_, (aw (br (i := 5) jW.nd rfl (Or.inl rfl) (eS aj))
      (aw (ee PassesOwn.never rfl (cy rfl T.range (ae (pv 1) aj)) (aK (i := 6) jW.nd)
        (aw (br (i := 7) jW.nd rfl (Or.inl rfl) (cN tE hr T.jM T.jq.kp T.kS (ae (pv 0) (ae (pv 1) (ae (pv 4) aj)))))
      (aw (ee PassesOwn.never rfl (cy rfl T.range (ae (pv 1) aj)) (aK (i := 8) jW.nd)
        (jK (cQ (PW.pt (kK (bE fF (pv 2) ao (bJ _)) (mZ (bE xK (cN jR hr T.aX T.bp.kp T.bu (ae (pv 0) (ae ao aj))) ao (bJ _))))) (aA (fh (cY (ae ao (ae ao aj))) (ie (pv 7) (pv 8) set_list))) bS)
      (jK (cQ (PW.pt (kK (bE fF (pv 2) ao (bJ _)) (mZ (bE uq (bK fG (pv 6) ao) (pv 1) (bJ _))))) (aA (fh (cY (ae (eX rB (by rfl) T.int PyProof.Rows.boot_int (ae (lD fF (pv 8) (bK fG (pv 6) ao) (bJ _)) aj)) (ae ao aj))) (ie (pv 7) (pv 8) set_list))) bS)
      (jK (cQ (PW.pt (oI (PW.pt (kK (bE fF (pv 2) ao (bJ _)) (kK (bE Dm (pv 6) (pv 3) (bJ _)) (mZ (bE uq (pv 8) (pv 3) (bJ _)))))) (jX (PW.pt (kK (bE fF (pv 2) ao (bJ _)) (kK (bE uq (pv 6) (pv 3) (bJ _)) (mZ (bE Dm (pv 8) (pv 3) (bJ _))))))))) (aA (fh (cY (ae ao (ae ao aj))) (ie (pv 7) (pv 8) set_list))) bS)
      (aA (cQ (bE fF (pv 2) ao (bJ _)) (aA (fh (cY (ae (bK cS (aY bW (eS (ae ao (ae ao (ae (AW wQ ao) (ae ao aj))))) (bK qJ (pv 3) ao)) (eX rB (by rfl) T.int PyProof.Rows.boot_int (ae (lD fF (pv 6) (pv 8) (bJ _)) aj))) (ae ao aj))) (ie (pv 7) (pv 8) set_list))) bS))))))
      (aA (jY (AX dE eO eN oz (pv 5) (ae (pv 7) aj)))))))
      (aA (aV (pv 5))))), ?_⟩
    refine aP (σ := [some (.ref b), some (.int n), some (.int way), some (.int first), some (.int w), none, none, none, none]) rfl ?_;have W1 : 1 ≤ max w 6 := by lia
    walk_at "w";refine dI λr H1 s1 n1 g1 => ?_
    have rb : r ≠ b := λz => hB.at (by rw [<- z]; exact n1)
    obtain ⟨q0, I0, xs0, gq0⟩ := hB.inner;have I1 : Inner H1 b q0 := (s1.upto (p := b)).2 _ I0;obtain ⟨A, eA⟩ : ∃ A : Addr → Prop, A = λq => H q = none /\ q ≠ r := ⟨_, rfl⟩
    have nb : ¬ A b := by rw [eA]; exact λz => hB.at z.1
    have nr : ¬ A r := by rw [eA]; exact λz => z.2 rfl
    have nq : ¬ A q0 := by rw [eA]; exact λz => by have z1 := z.1; rw [gq0] at z1; cases z1
    have rq : r ≠ q0 := λz => by rw [<- z, n1] at gq0; cases gq0
    walk_at "w";refine ⟨by lia, by lia, ?_⟩;refine eL (n := n) (λi σ' H' => ∃ (x1 x2 x3 : Option V) (us : List V), σ' = [some (.ref b), some (.int n), some (.int way), some (.int first), some (.int w), some (.ref r), x1, x2, x3] /\ H' r = some (.lst us) /\ us.length = i /\ us.Nodup /\ (∀ x ∈ us, fv K A H' n (Dr (max w 6)) x) /\ iV H' b /\ Inner H' b q0 /\ cO b H H') ⟨none, none, none, [], rfl, g1, rfl, qF, (λ_ z => nomatch z), hB.same s1, I1, s1.upto⟩ ?_ ?_
    · rintro i σ' H' hi ⟨x1, x2, x3, us, rfl, gu, lu, nd, ru, B', I', u'⟩;walk_at "w";refine ⟨b, n, w, rfl, B', by lia, w0, w1, λp xs Ha np Ra la da Ba ua => ?_⟩;have hp0 : H p = none := u'.none B' np
      have pn : V.ref p ∉ us := λz => by
        obtain ⟨q', _, _, e', _, g', _⟩ := (ru _ z).at;cases e';rw [np] at g';cases g'
      have ap' : H p = none /\ p ≠ r := ⟨hp0, λz => by rw [z, gu] at np; cases np⟩;have ap : A p := by rw [eA]; exact ap'
      have X0 : Jk K A n (Dr (max w 6)) r p b q0 us H Ha := ⟨ua.other rb gu, λx hx => (ru x hx).upto ua B' nb, ⟨p, xs, rfl, ap, Ra, la, da⟩, Ba, ua.2 _ I', u'.trans ua⟩;clear ru Ra gu;walk_at "w";refine ⟨by lia, by lia, ?_⟩;refine eL (n := n) (λj σ' H' => (∃ x3, σ' = [some (.ref b), some (.int n), some (.int way), some (.int first), some (.int w), some (.ref r), some (.int i), some (.ref p), x3]) /\ Jk K A n (Dr (max w 6)) r p b q0 us H H') ⟨⟨_, rfl⟩, X0⟩ ?_ ?_
      · rintro j σ' Hj hj ⟨⟨x3, rfl⟩, X⟩;walk_at "w";refine ⟨λσ' H' => σ' = [some (.ref b), some (.int n), some (.int way), some (.int first), some (.int w), some (.ref r), some (.int i), some (.ref p), some (.int j)] /\ Jk K A n (Dr (max w 6)) r p b q0 us H H', ?_, ?_⟩
        · walk_at "w";refine il (λ_ => ?_) (λ_ => ?_)
          · walk_at "w";refine ⟨b, 3, rfl, X.bag, by decide, by decide, λd Hd d0 d1 Bd ud => ?_⟩;replace X := X.upto ud Bd nb rb
            repeat' (first | walk_at "rd" | refine il (λ_ => ?_) (λ_ => ?_))
            all_goals first
              | exact ⟨rfl, X⟩
              | (refine cv λt Hb sb gb => ?_
                 walk_at "w";obtain ⟨zs, gz, lz, Xz⟩ := (X.same sb).put ap nr nb nq hp0 (cg.mk (q := 0) gb rfl) (uN (i := 0) (bo _) W1) j;refine eY gz (fw (by lia)) rfl ?_;exact ⟨rfl, Xz⟩)
          · walk_at "w";exact ⟨rfl, X⟩
        clear X;rintro σ' Hj ⟨rfl, X⟩;refine ⟨λσ' H' => σ' = [some (.ref b), some (.int n), some (.int way), some (.int first), some (.int w), some (.ref r), some (.int i), some (.ref p), some (.int j)] /\ Jk K A n (Dr (max w 6)) r p b q0 us H H', ?_, ?_⟩
        · repeat' (first | walk_at "rd" | refine il (λ_ => ?_) (λ_ => ?_))
          all_goals first
            | exact ⟨rfl, X⟩
            | (refine cv λt Hb sb gb => ?_
               walk_at "w";obtain ⟨zs, gz, lz, Xz⟩ := (X.same sb).put ap nr nb nq hp0 (cg.mk (q := ((if decide ((j : Int) = (i : Int) + 1) = true then (1 : Int) else 0 : Int) : Rat)) gb rfl) (uN (by split <;> lia) W1) j;refine eY gz (fw (by lia)) rfl ?_;exact ⟨rfl, Xz⟩)
        clear X;rintro σ' Hj ⟨rfl, X⟩;refine ⟨λσ' H' => σ' = [some (.ref b), some (.int n), some (.int way), some (.int first), some (.int w), some (.ref r), some (.int i), some (.ref p), some (.int j)] /\ Jk K A n (Dr (max w 6)) r p b q0 us H H', ?_, ?_⟩
        · repeat' (first | walk_at "rd" | refine il (λ_ => ?_) (λ_ => ?_))
          all_goals first
            | exact ⟨rfl, X⟩
            | (refine cv λt Hb sb gb => ?_
               walk_at "w";obtain ⟨zs, gz, lz, Xz⟩ := (X.same sb).put ap nr nb nq hp0 (cg.mk (q := 0) gb rfl) (uN (i := 0) (bo _) W1) j;refine eY gz (fw (by lia)) rfl ?_;exact ⟨rfl, Xz⟩)
        clear X;rintro σ' Hj ⟨rfl, X⟩;walk_at "w";refine il (λ_ => ?_) (λ_ => ?_)
        · walk_at "w";refine dI λl0 Hc sc nc gc => ?_
          walk_at "w";obtain ⟨x, ex, mx, _⟩ := mL (xs := [V.int 2, V.int 1, V.int (-1), V.int 0]) (i := first % 4) (oh _ (by decide)) (by have := jk first (show (0 : Int) < 4 by decide); simpa using this)
          obtain ⟨z, rfl, hz⟩ : ∃ z : Int, x = .int z /\ z.natAbs ≤ 2 := by
            simp only [aE, aM, or_false] at mx;rcases mx with rfl | rfl | rfl | rfl
            · exact ⟨2, rfl, by decide⟩
            · exact ⟨1, rfl, by decide⟩
            · exact ⟨-1, rfl, by decide⟩
            · exact ⟨0, rfl, by decide⟩
          refine cz (bO.of gc) ex ?_;walk_at "w";refine fD (Je (by lia) (by lia)) ?_;walk_at "w";refine cv λt Hb sb gb => ?_
          walk_at "w";obtain ⟨zs, gz, lz, Xz⟩ := ((X.same sc).same sb).put ap nr nb nq hp0 (cg.mk (q := ((z * (if decide ((i : Int) = (j : Int)) = true then (1 : Int) else 0) : Int) : Rat)) gb rfl) (uN (by split <;> lia) W1) j;refine eY gz (fw (by lia)) rfl ?_;exact ⟨⟨_, rfl⟩, Xz⟩
        · walk_at "w";exact ⟨⟨_, rfl⟩, X⟩
      · rintro σ' Hj ⟨⟨x3, rfl⟩, X⟩;walk_at "w";refine ⟨.inl ⟨rfl, _, bO.of X.gr⟩, ?_⟩;walk_at "w";refine kJ X.gr (bN (by lia)) ?_;refine ⟨_, _, _, us ++ [.ref p], rfl, aI, by simp [lu], rZ nd pn, λx hx => ?_, X.bag.upd X.inn rb rq, X.inn.upd rb, X.up.after n1⟩;rcases ax.mp hx with hx | hx
        · exact (X.ru x hx).other X.gr nr
        · have e : x = V.ref p := by simpa using hx
          rw [e]; exact X.rp.other X.gr nr
    · rintro σ' H' ⟨x1, x2, x3, us, rfl, gu, lu, nd, ru, B', I', u'⟩;walk_at "w";exact k r us H' n1 gu lu nd (by rw [eA] at ru; exact ru) B' u'
theorem dG:bf ["_law_bag_here","_law_n","_law_ins","_law_outs","_law_wide","_law_way","_law_first","_law_move_here","_law_put","_law_look","_law_k","_law_row_here"] ["_law_bag_here","_law_n","_law_ins","_law_outs","_law_wide"] (ay iF):=by walk_at "d"
theorem CC (T : Txt K mg Z) : cJ P w K mg base gE 5 Z.nQ Z.nE ["_law_bag_here", "_law_n", "_law_ins", "_law_outs", "_law_wide"] (CV K) := by
  have jR := bA (P := P) (w := w) (base := base) T;have Gy := Er (P := P) (w := w) (base := base) T;have tE := o8 (P := P) (w := w) (base := base) T;have EX := v8 (P := P) (w := w) (base := base) T;refine T.tP.ok dG (λvs H Q E h => ?_) (λcdv A outer s H vs Q E hr h => ?_)
  · obtain ⟨b, n, i, o, w, c, rfl, _⟩ := h;rfl
  · obtain ⟨b, n, i, o, w, c, rfl, hB, n8, i4, o4, w0, w1, hc, hc20, hcM, k⟩ := h
    refine ⟨_, (aw (br (i := 5) dG.nd rfl (Or.inl rfl) (cN jR hr T.aX T.bp.kp T.bu (ae (pv 0) (ae ao aj))))
      (aw (br (i := 6) dG.nd rfl (Or.inl rfl) (cN jR hr T.aX T.bp.kp T.bu (ae (pv 0) (ae (bK fG (pv 1) ao) aj))))
      (aw (br (i := 7) dG.nd rfl (Or.inl rfl) (cN Gy hr T.xX T.uZ.kp T.zM (ae (pv 0) (ae (pv 1) (ae (pv 5) (ae (pv 6) (ae (pv 4) aj)))))))
      (aw (lB 8 ["_law_k"] ["_law_bag_here", "_law_n", "_law_wide"] [0, 1, 4] dG.nd rfl rfl (cy rfl T.range (ae (pv 2) aj)) (λ_ => (aK (i := 0) (show List.Nodup (α := PySem.Str) ["_law_k", "_law_bag_here", "_law_n", "_law_wide"] by decide +kernel))) (λ_ => cf) (λ_ => (cN tE hr T.jM T.jq.kp T.kS (ae (pv 1) (ae (pv 2) (ae (pv 3) aj))))))
      (aw (lB 9 ["_law_k"] ["_law_bag_here", "_law_n", "_law_wide"] [0, 1, 4] dG.nd rfl rfl (cy rfl T.range (ae (pv 3) aj)) (λ_ => (aK (i := 0) (show List.Nodup (α := PySem.Str) ["_law_k", "_law_bag_here", "_law_n", "_law_wide"] by decide +kernel))) (λ_ => cf) (λ_ => (cN tE hr T.jM T.jq.kp T.kS (ae (pv 1) (ae (pv 2) (ae (pv 3) aj))))))
      (aw (ee PassesOwn.never rfl (cy rfl T.range (ae (pv 1) aj)) (aK (i := 10) dG.nd)
        (aw (ee PassesOwn.never rfl (b9 (pv 8)) (aK (i := 11) dG.nd)
        (aA (cQ (PW.pt (oI (PW.pt (kK (bE fF (pv 5) ao (bJ _)) (mZ (bE Dm (pv 10) (pv 6) (bJ _))))) (jX (PW.pt (kK (bE fF (pv 5) ao (bJ _)) (kK (bE uq (bK fG (pv 10) ao) (pv 1) (bJ _)) (mZ (bE fF (cN jR hr T.aX T.bp.kp T.bu (ae (pv 0) (ae ao aj))) ao (bJ _))))))))) (aA (fh (cY (ae ao (ae ao aj))) (ie (pv 11) (pv 10) set_list))) bS)))
      (aA (ee PassesOwn.never rfl (b9 (pv 9)) (aK (i := 11) dG.nd)
        (aA (cQ (PW.pt (oI (PW.pt (kK (bE fF (pv 5) ao (bJ _)) (mZ (bE Dm (pv 10) (pv 6) (bJ _))))) (jX (PW.pt (kK (bE fF (pv 5) ao (bJ _)) (kK (bE xK (pv 10) ao (bJ _)) (mZ (bE fF (cN jR hr T.aX T.bp.kp T.bu (ae (pv 0) (ae ao aj))) ao (bJ _))))))))) (aA (fh (cY (ae ao (ae ao aj))) (ie (pv 11) (pv 10) set_list))) bS))))))
      (aA (aV (cN EX hr T.qO T.nZ.kp T.sZ (ae (pv 0) (ae (pv 7) (ae (pv 8) (ae (pv 9) aj))))))))))))), ?_⟩
    refine aP (σ := [some (.ref b), some (.int n), some (.int i), some (.int o), some (.int w), none, none, none, none, none, none, none]) rfl ?_;have W1 : 1 ≤ max w 6 := by lia
    obtain ⟨q0, I0, xs0, gq0⟩ := hB.inner;walk_at "w";refine ⟨b, 6, rfl, hB, by decide, by decide, λway H1 a0 a1 B1 u1 => ?_⟩;walk_at "w";refine ⟨b, _, rfl, B1, by lia, by lia, λfirst H2 f0 f1 B2 u2 => ?_⟩;have u02 := u1.trans u2;walk_at "w";refine ⟨b, n, w, way, first, rfl, B2, n8, w0, w1, λm us H3 nm0 gm lm ndm rm B3 u3 => ?_⟩;have u03 := u02.trans u3;walk_at "w";refine ⟨by lia, by lia, ?_⟩;refine DF (n := i) (b := b) (cP K H3) (λxs => xs.length = n /\ ∀ x ∈ xs, Dr (max w 6) x) B3 (by lia) (λa u B => a.upto u B B3.at) (λ⟨q, e, _, _, g, _⟩ => ⟨q, e, by rw [g]; exact λz => nomatch z⟩) ?_ ?_
    · rintro s H' NY NN hi u B k1;walk_at "w";exact ⟨b, n, w, rfl, B, by lia, w0, w1, λr xs H2 nr R lx dx B2 u2 => k1 _ xs _ u2 B2 ⟨lx, dx⟩ ⟨r, rfl, u.none B nr, R⟩ ⟨r, rfl, nr⟩⟩
    rintro ws puts H4 p np u4 B4 gp lp ndp hp pr4 nx4;have u04 := u03.trans u4;walk_at "w";refine ⟨by lia, by lia, ?_⟩;refine DF (n := o) (b := b) (cP K H4) (λxs => xs.length = n /\ ∀ x ∈ xs, Dr (max w 6) x) B4 (by lia) (λa u B => a.upto u B B4.at) (λ⟨q, e, _, _, g, _⟩ => ⟨q, e, by rw [g]; exact λz => nomatch z⟩) ?_ ?_
    · rintro s H' NY NN hi u B k1;walk_at "w";exact ⟨b, n, w, rfl, B, by lia, w0, w1, λr xs H2 nr R lx dx B2 u2 => k1 _ xs _ u2 B2 ⟨lx, dx⟩ ⟨r, rfl, u.none B nr, R⟩ ⟨r, rfl, nr⟩⟩
    rintro vs looks H5 l nl u5 B5 gl ll ndl hl pr5 nx5;have u05 := u04.trans u5;have hm0 : H m = none := u02.none B2 nm0;have hp0 : H p = none := u03.none B3 np;have hl0 : H l = none := u04.none B4 nl;have mb : m ≠ b := λz => B2.at (by rw [<- z]; exact nm0)
    have pb : p ≠ b := λz => B3.at (by rw [<- z]; exact np)
    have lb : l ≠ b := λz => B4.at (by rw [<- z]; exact nl)
    have gm4 := u4.other mb gm;have gm5 := u5.other mb gm4;have gp5 := u5.other pb gp;have mp : m ≠ p := λz => by rw [z, np] at gm; cases gm
    have ml : m ≠ l := λz => by rw [z, nl] at gm4; cases gm4
    have pl : p ≠ l := λz => by rw [z, nl] at gp; cases gp
    have mq : m ≠ q0 := λz => Inner.at B2 (u02.2 _ I0) (by rw [<- z]; exact nm0)
    obtain ⟨A, eA⟩ : ∃ A : Addr → Prop, A = λq => H q = none /\ q ≠ m /\ q ≠ p /\ q ≠ l := ⟨_, rfl⟩
    have mkA : ∀ {q}, H q = none → q ≠ m → q ≠ p → q ≠ l → A q := λh1 h2 h3 h4 => by rw [eA]; exact ⟨h1, h2, h3, h4⟩
    have unA : ∀ {q}, A q → H q = none /\ q ≠ m /\ q ≠ p /\ q ≠ l := λh => by rw [eA] at h; exact h
    have MA : Gx A m p l b q0 := ⟨λz => (unA z).2.1 rfl, λz => (unA z).2.2.1 rfl, λz => (unA z).2.2.2 rfl, λz => hB.at (unA z).1, (λz => by have z1 := (unA z).1; rw [gq0] at z1; cases z1), mb, pb, lb, mp, ml, mq⟩;clear eA;have lws : ws.length = i := by rw [<- pr4.length]; exact lp
    have lvs : vs.length = o := by rw [<- pr5.length]; exact ll
    have alM : ∀ q, V.ref q ∈ us → H3 q ≠ none /\ q ≠ b /\ H4 q ≠ none := λq hq => by
      obtain ⟨q', qs, e, ⟨a1, a2⟩, r, z⟩ := rm _ hq;cases e;have qb : q ≠ b := λy => B2.at (by rw [<- y]; exact a1)
      obtain ⟨xq, gq, _⟩ := id r;obtain ⟨xq4, gq4, _⟩ := r.upto u4 B3 qb;exact ⟨(by rw [gq]; exact λz => nomatch z), qb, (by rw [gq4]; exact λz => nomatch z)⟩
    have alP : ∀ q, V.ref q ∈ ws → H3 q = none /\ H4 q ≠ none := λq hq => by
      obtain ⟨_, _, q', e, a, _, g, _⟩ := cF pr4 hq;cases e;exact ⟨a, by rw [g]; exact λz => nomatch z⟩
    have alL : ∀ q, V.ref q ∈ vs → H4 q = none := λq hq => by
      obtain ⟨_, _, q', e, a, _⟩ := cF pr5 hq;cases e;exact a
    have isR : ∀ x, x ∈ us \/ x ∈ ws \/ x ∈ vs → ∃ q, x = V.ref q := λx hx => by
      rcases hx with hx | hx | hx
      · obtain ⟨q, _, e, _⟩ := rm x hx; exact ⟨q, e⟩
      · obtain ⟨_, _, q, e, _⟩ := cF pr4 hx; exact ⟨q, e⟩
      · obtain ⟨_, _, q, e, _⟩ := cF pr5 hx; exact ⟨q, e⟩
    have nd : (us ++ vs ++ ws).Nodup := by
      refine dB.mpr ⟨dB.mpr ⟨ndm, ndl, λx hx y hy e => ?_⟩, ndp, λx hx y hy e => ?_⟩
      · subst e;obtain ⟨q, rfl⟩ := isR x (.inl hx);exact (alM q hx).2.2 (alL q hy)
      · subst e;obtain ⟨q, rfl⟩ := isR x (.inr (.inl hy));rcases ax.mp hx with hx | hx
        · exact (alM q hx).1 (alP q hy).1
        · exact (alP q hy).2 (alL q hx)
    have X5 : Ij K A n (Dr (max w 6)) m p l b q0 us ws vs H H5 := by
      refine ⟨⟨B5, u05.2 _ I0, gm5, gp5, gl, lm, λx hx => ?_, nd⟩, gp5, gl, λc u e n1 _ _ => u05.1 c u e n1⟩;rcases ax.mp hx with hx | hx
      · rcases ax.mp hx with hx | hx
        · obtain ⟨q, qs, e, ⟨a1, a2⟩, r, z⟩ := rm x hx;obtain ⟨xq, gq, _⟩ := id r;have qb : q ≠ b := λy => B2.at (by rw [<- y]; exact a1)
          have r4 := r.upto u4 B3 qb;obtain ⟨xq4, gq4, _⟩ := id r4;exact ⟨q, qs, e, mkA (u02.none B2 a1) a2 (λy => by rw [y, np] at gq; cases gq) (λy => by rw [y, nl] at gq4; cases gq4), r4.upto u5 B4 qb, z⟩
        · refine Kw (A := A) pr5 hl (λq hq a b' => ?_) x hx;exact mkA (u04.none B4 a) (λy => by rw [y, gm4] at a; cases a) (λy => by rw [y, gp] at a; cases a) (λy => j6 nx5 (by rw [<- y]; exact hq))
      · refine fv.upto (Kw (A := A) pr4 hp (λq hq a b' => ?_) x hx) u5 B4 MA.ab;exact mkA (u03.none B3 a) (λy => by rw [y, gm] at a; cases a) (λy => j6 nx4 (by rw [<- y]; exact hq)) (λy => b' (by rw [y]; exact nl))
    clear alM alP alL isR rm pr4 pr5 nx4 nx5 gm gm4 gm5 gp gp5 gl hp hl;walk_at "w";refine ⟨by lia, by lia, ?_⟩;refine eL (n := n) (λkk σ' H' => (∃ x1 x2, σ' = [some (.ref b), some (.int n), some (.int i), some (.int o), some (.int w), some (.int way), some (.int first), some (.ref m), some (.ref p), some (.ref l), x1, x2]) /\ Ij K A n (Dr (max w 6)) m p l b q0 us ws vs H H') ⟨⟨_, _, rfl⟩, X5⟩ ?_ ?_
    · rintro kk σ' Hj hk ⟨⟨x1, x2, rfl⟩, X⟩;walk_at "w";refine ⟨⟨_, bO.of X.gp⟩, ?_⟩;refine i5 (K := K) (a := p) (xs := ws) (λs σ' H' => (∃ x2, σ' = [some (.ref b), some (.int n), some (.int i), some (.int o), some (.int w), some (.int way), some (.int first), some (.ref m), some (.ref p), some (.ref l), some (.int kk), x2]) /\ Ij K A n (Dr (max w 6)) m p l b q0 us ws vs H H') ⟨⟨_, rfl⟩, X⟩ (λs σ' H' _ ⟨_, e⟩ => bO.of e.gp) ?_ ?_
      · rintro s x σ' Hk hx ⟨⟨y2, rfl⟩, X⟩;have mx := ar hx;obtain ⟨q, _, rfl, _⟩ := X.row (.inl mx)
        repeat' (first | walk_at "rd" | refine il (λ_ => ?_) (λ_ => ?_))
        all_goals first
          | exact ⟨⟨_, rfl⟩, X⟩
          | (refine cv λt Hb sb gb => ?_
             walk_at "w";obtain ⟨zs, gz, lz, Xz⟩ := (X.same sb).put MA (.inl mx) (cg.mk (q := 0) gb rfl) (uN (i := 0) (bo _) W1) kk;refine eY gz (fw (by lia)) rfl ?_;exact ⟨⟨_, rfl⟩, Xz⟩)
          | (refine ⟨b, 2, rfl, X.mix.bag, by decide, by decide, λd Hd d0 d1 Bd ud => ?_⟩
             replace X := X.upto MA ud Bd
             repeat' (first | walk_at "rd" | refine il (λ_ => ?_) (λ_ => ?_))
             all_goals first
               | exact ⟨⟨_, rfl⟩, X⟩
               | (refine cv λt Hb sb gb => ?_
                  walk_at "w";obtain ⟨zs, gz, lz, Xz⟩ := (X.same sb).put MA (.inl mx) (cg.mk (q := 0) gb rfl) (uN (i := 0) (bo _) W1) kk;refine eY gz (fw (by lia)) rfl ?_;exact ⟨⟨_, rfl⟩, Xz⟩))
      · rintro σ' Hk ⟨⟨y2, rfl⟩, X⟩;walk_at "w";refine ⟨⟨_, bO.of X.gl⟩, ?_⟩;refine i5 (K := K) (a := l) (xs := vs) (λs σ' H' => (∃ x2, σ' = [some (.ref b), some (.int n), some (.int i), some (.int o), some (.int w), some (.int way), some (.int first), some (.ref m), some (.ref p), some (.ref l), some (.int kk), x2]) /\ Ij K A n (Dr (max w 6)) m p l b q0 us ws vs H H') ⟨⟨_, rfl⟩, X⟩ (λs σ' H' _ ⟨_, e⟩ => bO.of e.gl) ?_ ?_
        · rintro s x σ' Hk hx ⟨⟨y2, rfl⟩, X⟩;have mx := ar hx;obtain ⟨q, _, rfl, _⟩ := X.row (.inr mx)
          repeat' (first | walk_at "rd" | refine il (λ_ => ?_) (λ_ => ?_))
          all_goals first
            | exact ⟨⟨_, rfl⟩, X⟩
            | (refine cv λt Hb sb gb => ?_
               walk_at "w";obtain ⟨zs, gz, lz, Xz⟩ := (X.same sb).put MA (.inr mx) (cg.mk (q := 0) gb rfl) (uN (i := 0) (bo _) W1) kk;refine eY gz (fw (by lia)) rfl ?_;exact ⟨⟨_, rfl⟩, Xz⟩)
            | (refine ⟨b, 2, rfl, X.mix.bag, by decide, by decide, λd Hd d0 d1 Bd ud => ?_⟩
               replace X := X.upto MA ud Bd
               repeat' (first | walk_at "rd" | refine il (λ_ => ?_) (λ_ => ?_))
               all_goals first
                 | exact ⟨⟨_, rfl⟩, X⟩
                 | (refine cv λt Hb sb gb => ?_
                    walk_at "w";obtain ⟨zs, gz, lz, Xz⟩ := (X.same sb).put MA (.inr mx) (cg.mk (q := 0) gb rfl) (uN (i := 0) (bo _) W1) kk;refine eY gz (fw (by lia)) rfl ?_;exact ⟨⟨_, rfl⟩, Xz⟩))
        · rintro σ' Hk ⟨⟨y2, rfl⟩, X⟩;exact ⟨⟨_, _, rfl⟩, X⟩
    · rintro σ' Hj ⟨⟨x1, x2, rfl⟩, X⟩
      obtain ⟨M1, M2, M3, V0, a1, a2, a3, V2, hcs, R1, R2, R3⟩ : ∃ M1 M2 M3 V0 : Nat, (0 < M1 /\ M1 ≤ 2 ^ 800) /\ (0 < M2 /\ M2 ≤ 2 ^ 800) /\ (0 < M3 /\ M3 ≤ 2 ^ 800) /\ V0 ≤ 2 ^ 20 /\ ((w ≤ 9 /\ M1 = 2520 /\ M2 = 2520 /\ M3 = 2520 /\ V0 = 9) \/ (9 < w /\ M1 ≤ 2 ^ (c * (n * n)) /\ M2 ≤ 2 ^ (c * (i * n)) /\ M3 ≤ 2 ^ (c * (o * n)) /\ V0 = 2 ^ c)) /\ (∀ x ∈ us, fv K A Hj n (Fr M1 V0) x) /\ (∀ x ∈ ws, fv K A Hj n (Fr M2 V0) x) /\ ∀ x ∈ vs, fv K A Hj n (Fr M3 V0) x := by
        by_cases w9 : w ≤ 9
        · have XM := X.mix.weak (C' := λ_ => Fr 2520 9) λ_ _ y h => LB ⟨ai h.1 (by lia), ai h.2 (by lia)⟩ (Jm _)
          have z : 0 < 2520 /\ 2520 ≤ 2 ^ 800 := ⟨by decide, ai (show 2520 ≤ 2 ^ 12 by decide) (ak (by decide) (by decide))⟩;exact ⟨2520, 2520, 2520, 9, z, z, z, by decide, .inl ⟨w9, rfl, rfl, rfl, rfl⟩, λx hx => XM.row x (by simp [hx]), λx hx => XM.row x (by simp [hx]), λx hx => XM.row x (by simp [hx])⟩
        · obtain ⟨M1, M2, M3, a1, a2, a3, b1, b2, b3, R1, R2, R3⟩ := (X.mix.weak (C' := λ_ => Dr (2 ^ c)) λ_ _ y h => ⟨ai h.1 hc, ai h.2 hc⟩).fr3;rw [lws] at b2;rw [lvs] at b3;have up : ∀ {M k : Nat}, M ≤ 2 ^ (c * k) → k ≤ (n + i + o) * n → M ≤ 2 ^ 800 := λh hk => ai h (ak (by decide) (ai (bx _ hk) hcM))
          exact ⟨M1, M2, M3, 2 ^ c, ⟨a1, up b1 (aB _ (by lia))⟩, ⟨a2, up b2 (aB _ (by lia))⟩, ⟨a3, up b3 (aB _ (by lia))⟩, ak (by decide) hc20, .inr ⟨by lia, b1, b2, b3, rfl⟩, R1, R2, R3⟩
      obtain ⟨μ, e2, e3, e1, e4⟩ := K3 ws vs M1 M2 M3;obtain ⟨ap1, ap2⟩ := X.mix.apart
      have XM : ko K A Hj n (λx => Fr (μ x) V0) m p l b q0 us ws vs := by
        refine ⟨X.mix.bag, X.mix.inn, X.mix.gm, X.mix.gp, X.mix.gl, X.mix.lm, λx hx => ?_, X.mix.nd⟩;rcases ax.mp hx with hx | hx
        · rcases ax.mp hx with hx | hx
          · rw [e1 x (ap1 x hx).1 (ap1 x hx).2]; exact R1 x hx
          · rw [e3 x hx (ap2 x hx)]; exact R3 x hx
        · rw [e2 x hx]; exact R2 x hx
      have p1 : ∀ x, 0 < μ x := λx => by
        rcases e4 x with e | e | e
        · rw [e]; exact a1.1
        · rw [e]; exact a2.1
        · rw [e]; exact a3.1
      have p2 : ∀ x, μ x ≤ 2 ^ 800 := λx => by
        rcases e4 x with e | e | e
        · rw [e]; exact a1.2
        · rw [e]; exact a2.2
        · rw [e]; exact a3.2
      have gmj := X.mix.gm;walk_at "w";refine ⟨b, m, p, l, q0, n, V0, μ, A, us, ws, vs, rfl, MA, XM, n8, by lia, by lia, p1, p2, ⟨M1, e1⟩, V2, λq hq => ?_, λr us' H' g Y kp => ?_⟩
      · refine mkA ?_ (λz => by rw [z, gmj] at hq; cases hq) (λz => by rw [z, X.gp] at hq; cases hq) (λz => by rw [z, X.gl] at hq; cases hq);cases e : H q with
        | none => rfl
        | some u =>
          have := X.kp q u e (λz => X.mix.bag.at (by rw [<- z]; exact hq)) (λz => by have := (unA z).1; rw [e] at this; cases this) (λz => by rw [z, hm0] at e; cases e);rw [hq] at this; cases this
      · obtain ⟨yp1, yp2⟩ := Y.apart;obtain ⟨mv, Gm, lmv, hmv⟩ := kR (H0 := H) (n := n) (C := Fr M1 (9 ^ 3 * V0)) (m := n) ⟨us', Y.gm, Y.lm, MA.am, λx hx => by have := Y.row x (by simp [hx]); rwa [e1 x (yp1 x hx).1 (yp1 x hx).2] at this⟩ λq h => (unA h).1
        obtain ⟨pt, Gp, lpt, hpt⟩ := kR (H0 := H) (n := n) (C := Fr M2 (9 ^ 3 * V0)) (m := i) ⟨ws, Y.gp, lws, MA.ap, λx hx => by have := Y.row x (by simp [hx]); rwa [e2 x hx] at this⟩ λq h => (unA h).1
        obtain ⟨lk, Gl, llk, hlk⟩ := kR (H0 := H) (n := n) (C := Fr M3 (9 ^ 3 * V0)) (m := o) ⟨vs, Y.gl, lvs, MA.al, λx hx => by have := Y.row x (by simp [hx]); rwa [e3 x hx (yp2 x hx)] at this⟩ λq h => (unA h).1
        refine k r mv pt lk H' ⟨m, p, l, g, hm0, hp0, hl0, Gm, Gp, Gl⟩ lmv lpt llk ⟨by lia, by lia, by lia, λxs hx => by rw [(hmv xs hx).1, lmv], λxs hx => by rw [(hpt xs hx).1, lmv], λxs hx => by rw [(hlk xs hx).1, lmv]⟩ ⟨M1, M2, M3, 9 ^ 3 * V0, a1.1, a2.1, a3.1, λxs hx => (hmv xs hx).2, λxs hx => (hpt xs hx).2, λxs hx => (hlk xs hx).2, ?_⟩ Y.bag ⟨λc' u e n1 => (X.kp.trans kp) c' u e n1 (λz => by have := (unA z).1; rw [e] at this; cases this) (λz => by rw [z, hm0] at e; cases e), λq h => by rw [<- Inner.inj I0 h]; exact Y.inn⟩;rcases hcs with ⟨b1, b2, b3, b4, b5⟩ | ⟨b1, b2, b3, b4, b5⟩
        · exact .inl ⟨b1, b2, b3, b4, by rw [b5]⟩
        · exact .inr ⟨b1, b2, b3, b4, by rw [b5]⟩
theorem ic:bf ["_law_bag_here","_law_n","_law_ins","_law_outs","_law_wide"] ["_law_bag_here"] (ay gK):=by walk_at "d"
theorem Bj (T:Txt K mg Z):cJ P w K mg base gE 6 Z.lZ Z.lI ["_law_bag_here"] (Mi K):=by
 refine T.qU.ok ic (λvs H Q E h=>?_) (λcdv A outer s H vs Q E hr h=>?_)
 ·obtain ⟨b,rfl,_⟩:=h;rfl
 ·obtain ⟨b,rfl,hB,k⟩:=h
  refine ⟨_,(aw (fh (cN (CB T) hr T.wB T.tO.kp T.yz (ae (pv 0) aj)) (w5 rfl (cV (aK (i:=1) ic.nd) (cV (aK (i:=2) ic.nd) (cV (aK (i:=3) ic.nd) (cV (aK (i:=4) ic.nd) lC))))))
   (aw (cQ (bE fF (cN (bA T) hr T.aX T.bp.kp T.bu (ae (pv 0) (ae ao aj))) ao (bJ _)) (aw (cQ (bE fF (cN (bA T) hr T.aX T.bp.kp T.bu (ae (pv 0) (ae ao aj))) ao (bJ _)) (aA (aV (cY (ae (cN (xO T) hr T.o9 T.kW.kp T.rE (ae (pv 0) aj)) (ae ao aj))))) bS)
   (aA (aV (cY (ae (cN (rX T) hr T.m9 T.mQ.kp T.pU (ae (pv 0) (ae (bK fG ao (cN (bA T) hr T.aX T.bp.kp T.bu (ae (pv 0) (ae ao aj)))) aj))) (ae ao aj)))))) bS)
   (aA (aV (cY (ae (cN (CC T) hr T.wC T.tP.kp T.yA (ae (pv 0) (ae (pv 1) (ae (pv 2) (ae (pv 3) (ae (pv 4) aj)))))) (ae (bG (vF rfl) (by rfl) T.min PyProof.Rows.boot_min (ae (pv 4) (ae ao aj))) aj))))))),?_⟩
  refine aP (σ:=[some (.ref b),none,none,none,none]) rfl ?_;have sf:∀{mv pt lk:LR9} {M V1:Nat},0 < M->M<=2^400->V1<=2^30->GF M V1 mv->GF M V1 pt->GF M V1 lk->QI mv pt lk:=λh0 h1 h2 a b c=>⟨_,_,h0,h1,ai h2 (ak (by decide) (by decide)),a,b,c⟩
  walk_at "w";refine ⟨b,rfl,hB,λr n i o w H1 g1 n5 i4 o4 hw h5 B1 u1=>?_⟩;walk_at "w";refine ⟨b,16,rfl,B1,by decide,by decide,λv H2 v0 v1 B2 u2=>?_⟩;have u02:=u1.trans u2;walk_at "w";refine il (λh0=>?_) (λh0=>?_)
  ·walk_at "w";refine ⟨b,2,rfl,B2,by decide,by decide,λv2 H3 _ _ B3 u3=>?_⟩;have u03:=u02.trans u3;walk_at "w";refine il (λh1=>?_) (λh1=>?_)
   ·walk_at "w";refine ⟨b,rfl,B3,λr4 mv pt lk H4 P4 l6 D fm fp fl B4 u4=>?_⟩;walk_at "w";refine cv λt H5 s5 g5=>?_
    exact k t r4 4 0 13 mv pt lk H5 g5 ((P4.weak λq h=>u03.none B3 h).same s5) D (sf (by decide) bQ (by decide) fm fp fl) (pz (n0:=8) (by decide) (by decide) D.n8 (by decide) fm fp (by decide)) (.inl ⟨by decide,by decide,by decide,by decide,by decide,fm,fp,ai (aB _ (show mv.length+4<=12 by have:=D.n8;lia)) (by decide)⟩) (by decide) (by decide) (B4.same s5) ((u03.trans u4).same s5)
   ·walk_at "w";refine ⟨b,3,rfl,B3,by decide,by decide,λv3 H4 v30 v31 B4 u4=>?_⟩;obtain ⟨v3,rfl⟩:=cD v30;have u04:=u03.trans u4;walk_at "w";rw[show ((6:Int)+(v3:Int))=((6+v3:Nat):Int) by lia];refine ⟨b,6+v3,rfl,B4,by lia,by lia,λr4 mv pt lk H5 P5 lm _ _ D fm fp fl B5 u5=>?_⟩;walk_at "w";refine cv λt H6 s6 g6=>?_
    exact k t r4 4 0 4 mv pt lk H6 g6 ((P5.weak λq h=>u04.none B4 h).same s6) D (sf (by decide) bQ (by decide) fm fp fl) (pz (n0:=8) (by decide) (by decide) D.n8 (by decide) fm fp (by decide)) (.inl ⟨by decide,by decide,by decide,by decide,by decide,(λxs hx x hx'=>(fm xs hx x hx').mono (by decide)),(λxs hx x hx'=>(fp xs hx x hx').mono (by decide)),ai (aB _ (show mv.length+4<=12 by have:=D.n8;lia)) (by decide)⟩) (by decide) (by decide) (B5.same s6) ((u04.trans u5).same s6)
  ·obtain ⟨c,hc,hc20,hcM⟩:∃c:Nat,max w 6<=2^c/\c<=20/\c*((n+i+o)*n)<=800/\(9 < w->c=20/\(n+i+o)*n<=20/\n<=2):=by
    have m1:(n+i+o)*n<=13*5:=aN (by lia) n5;rcases hw with rfl | rfl | ⟨rfl,n2⟩
    ·exact ⟨4,by decide,by decide,by lia,λz=>by lia⟩
    ·exact ⟨4,by decide,by decide,by lia,λz=>by lia⟩
    ·have m2:(n+i+o)*n<=10*2:=aN (by lia) n2;exact ⟨20,by decide,by decide,by lia,λ_=>⟨rfl,by lia,n2⟩⟩
   obtain ⟨hcM,hbig⟩:=hcM;walk_at "w";refine ⟨b,n,i,o,w,c,rfl,B2,by lia,i4,o4,by lia,by lia,hc,hc20,hcM,λr4 mv pt lk H4 P4 lm lp ll D PF B4 u4=>?_⟩;have hmin:(if (1000:Int) < (w:Int) then (1000:Int) else (w:Int))=((min w 1000:Nat):Int):=by split <;> lia
   have PG:=PF;obtain ⟨M,V1,M0,fm,fp,fl,hcs⟩:=PF.n
   obtain ⟨a',c',KF,SF⟩:∃a' c',mN mv pt a' c'/\QI mv pt lk:=by
    rcases hcs with ⟨w9,rfl,rfl⟩ | ⟨w9,M1,rfl⟩
    ·exact ⟨12,16,pz (n0:=5) (by decide) (by decide) (by lia) (by decide) fm fp (by decide),sf (by decide) (ai (show 2520<=2^12 by decide) (ak (by decide) (by decide))) (by decide) fm fp fl⟩
    ·obtain ⟨rfl,e1,e2⟩:=hbig w9;have M4:M<=2^400:=ai M1 (ak (by decide) (by lia));exact ⟨400,32,pz (n0:=2) M0 M4 (by lia) (by decide) fm fp (by decide),sf M0 M4 (by decide) fm fp fl⟩
   have RG:Rg mv pt (min w 1000):=by
    obtain ⟨M1,M2,M3,V1,a1,a2,a3,f1,f2,f3,hc'⟩:=PG;rcases hc' with ⟨w9,rfl,rfl,_,rfl⟩ | ⟨w9,b1,b2,_,rfl⟩
    ·exact .inr (.inl ⟨by lia,by lia,by decide,by decide,by decide,by decide,f1,f2,ai (aB _ (show mv.length+4<=9 by lia)) (by decide)⟩)
    ·obtain ⟨rfl,e1,e2⟩:=hbig w9;have q1:n*n<=2*2:=aN e2 e2;have q2:i*n<=4*2:=aN i4 e2;have w6:w=1000000:=by lia
     exact .inr (.inr ⟨by lia,by lia,M1,M2,a1,a2,ai b1 (ak (by decide) (by lia)),ai b2 (ak (by decide) (by lia)),f1,f2,ai (aB _ (show mv.length+4<=6 by lia)) (by decide)⟩)
   walk_at "w";refine cv λt H5 s5 g5=>?_
   rw[hmin] at g5;exact k t r4 (min w 1000) a' c' mv pt lk H5 g5 ((P4.weak λq h=>u02.none B2 h).same s5) D SF KF RG (by lia) (by lia) (B4.same s5) ((u02.trans u4).same s5)
theorem D7:bf ["thing","at","most"] ["thing","at","most"] (ay jt):=by walk_at "d"
theorem rW (T:Txt K mg Z):cJ P w K mg base gE 1 Z.pX Z.pA ["thing","at","most"] Iu:=by
 refine T.mO.ok D7 (λvs H Q E h=>?_) (λcdv A outer s H vs Q E hr h=>?_)
 ·obtain ⟨p,xs,a,m,rfl,_⟩:=h;rfl
 ·obtain ⟨p,xs,a,m,rfl,gx,hm,k⟩:=h
  refine ⟨_,(aw (cQ (jm (fE (ui rfl T.isinstance PyProof.Rows.boot_list T.list (pv 0)))) (aA KI) bS)
   (aA (cQ (bE xK (bG aT (by rfl) T.len aO (ae (pv 0) aj)) (pv 2) (bJ _)) (aA KI) bS))),?_⟩
  refine aP (σ:=[some (.ref p),some (.int a),some (.int m)]) rfl ?_;walk_at "w";refine ⟨_,_,.lst gx,rfl,?_⟩;walk_at "w";refine ⟨_,_,rfl,.inl (bO.of gx),?_⟩;walk_at "w";rw[decide_eq_false (show ¬m < (xs.length:Int) by lia)];walk_at "w";exact k
theorem Fx:bf ["thing"] ["thing"] (ay kD):=by walk_at "d"
theorem zD (T:Txt K mg Z):cJ P w K mg base gE 1 Z.tm Z.sO ["thing"] Jq:=by
 refine T.tH.ok Fx (λvs H Q E h=>?_) (λcdv A outer s H vs Q E hr h=>?_)
 ·obtain ⟨i,rfl,_⟩:=h;rfl
 ·obtain ⟨i,rfl,k⟩:=h;refine ⟨_,(aA (aV (Ek (ui rfl T.isinstance PyProof.Rows.boot_int T.int (pv 0)) (Ej (OP (ui rfl T.isinstance PyProof.Rows.boot_bool T.bool (pv 0))))))),?_⟩;refine aP (σ:=[some (.int i)]) rfl ?_;walk_at "w";refine ⟨_,_,.int i,rfl,?_⟩;walk_at "w";refine ⟨_,_,.int i,rfl,?_⟩;walk_at "w";exact k
theorem gP:bf ["one","other","rest"] ["one","other"] (ay eC):=by walk_at "d"
theorem j5 (T:Txt K mg Z):cJ P w K mg base gE 1 Z.iQ Z.iK ["one","other"] P0:=by
 refine T.fJ.ok gP (λvs H Q E h=>?_) (λcdv A outer s H vs Q E hr h=>?_)
 ·obtain ⟨a,b,rfl,_⟩:=h;rfl
 ·obtain ⟨a,b,rfl,k⟩:=h
  refine ⟨_,(aw (AR PassesOwn.never (bE uo (pv 1) ao (bJ _))
    (aw (br (i:=2) gP.nd rfl (Or.inl rfl) (bK MS (pv 0) (pv 1)))
   (aw (br (i:=0) gP.nd rfl (Or.inl rfl) (pv 1))
   (aA (br (i:=1) gP.nd rfl (Or.inl rfl) (pv 2))))))
   (aA (aV (bG yp (by rfl) T.abs PyProof.Rows.boot_abs (ae (pv 0) aj))))),?_⟩
  refine aP (σ:=[some (.int a),some (.int b),none]) rfl ?_;walk_at "w";refine DV (λσ' H'=>∃(u v:Int) (r:Option V),σ'=[some (.int u),some (.int v),r]/\H'=H/\Int.gcd u v=Int.gcd a b) (λσ' _=>match σ' with | [_,some (.int v),_]=>v.natAbs | _=>0) ⟨a,b,none,rfl,rfl,rfl⟩ ?_;rintro σ' H' ⟨u,v,r,rfl,rfl,hg⟩;walk_at "w";refine il (λh=>?_) (λh=>?_)
  ·have hv:v≠0:=λz=>by subst z;simp at h
   walk_at "w";refine fD (show v≠0 from hv) ?_;walk_at "w";exact ⟨⟨v,u.fmod v,_,rfl,rfl,(Lq u v).trans hg⟩,Nb u v hv⟩
  ·have hv:v=0:=by
    by_cases z:v=0
    ·exact z
    ·exfalso;apply h;simp [z]
   subst hv;walk_at "w"
   have e:(if u < 0 then -u else u)=g a b:=by
    unfold g;rw[<- hg,Int.gcd_zero_right]
    split <;> lia
   rw[e];exact k
theorem Ea:bf ["thing"] ["thing"] (ay jw):=by walk_at "d"
theorem Em (T:Txt K mg Z):cJ P w K mg base gE 2 Z.p0 Z.pE ["thing"] (Jt K):=by
 refine T.uV.ok Ea (λvs H Q E h=>?_) (λcdv A outer s H vs Q E hr h=>?_)
 ·obtain ⟨x,n,rfl,_⟩:=h;rfl
 ·obtain ⟨x,n,rfl,⟨p,rfl,hp⟩,hn,k⟩:=h
  refine ⟨_,(aw (cQ (PW.pt (oI (jm (fE (o6 rfl T.isinstance PyProof.Rows.boot_tuple T.tuple (pv 0)))) (jX (bE uo (bG aT (by rfl) T.len aO (ae (pv 0) aj)) ao (bJ _))))) (aA (aV oJ)) bS)
   (aw (cQ (PW.pt (oI (jm (fE (cN (zD T) hr T.uF T.tH.kp T.xn (ae (aY bU (pv 0) ao) aj)))) (jX (jm (fE (cN (zD T) hr T.uF T.tH.kp T.xn (ae (aY bU (pv 0) ao) aj))))))) (aA (aV oJ)) bS)
   (aA (aV (Ek (lD Dm (aY bU (pv 0) ao) ao (bJ _)) (Ej (lD fF (cN (j5 T) hr T.gQ T.fJ.kp T.iP (ae (aY bU (pv 0) ao) (ae (aY bU (pv 0) ao) aj))) ao (bJ _)))))))),?_⟩
  refine aP (σ:=[some (.ref p)]) rfl ?_;obtain ⟨hb,hg,s1,s2⟩:=hn;walk_at "w";refine .inr ⟨p,_,_,rfl,hp,rfl,?_⟩;walk_at "w";refine ⟨_,_,rfl,.inr hp,?_⟩;walk_at "w"
  try refine Lf ?_
  walk_at "w";refine ⟨n.1,rfl,?_⟩;walk_at "w";refine ⟨n.2,rfl,?_⟩;walk_at "w";rw[decide_eq_true (show (1:Int)<=n.2 by lia)];walk_at "w";refine ⟨n.1,n.2,rfl,?_⟩;walk_at "w";have e:g n.1 n.2=1:=by unfold g;rw[hg];rfl
  rw[e,decide_eq_true rfl];exact k _ (aG.refl _)
theorem Jw:bf ["thing","many"] ["thing","many"] (ay rg):=by walk_at "d"
theorem JE (T:Txt K mg Z):cJ P w K mg base gE 3 Z.yD Z.ym ["thing","many"] (yP K):=by
 refine T.Cb.ok Jw (λvs H Q E h=>?_) (λcdv A outer s H vs Q E hr h=>?_)
 ·obtain ⟨p,ns,rfl,_⟩:=h;rfl
 ·obtain ⟨p,ns,rfl,hp,hl,hn,k⟩:=h
  refine ⟨_,(aw (cQ (PW.pt (oI (jm (fE (ui rfl T.isinstance PyProof.Rows.boot_list T.list (pv 0)))) (jX (bE uo (bG aT (by rfl) T.len aO (ae (pv 0) aj)) (pv 1) (bJ _))))) (aA (aV oJ)) bS)
   (aA (aV (bG (BQ rfl) (by rfl) T.all PyProof.Rows.boot_all (ae (bZ ["value"] [] [] (b9 (pv 0)) (λ_=>(aK (i:=0) (show List.Nodup (α:=PySem.Str) ["value"] by decide +kernel))) (λ_=>cf) (λ_=>(cN (Em T) hr T.xT T.uV.kp T.zI (ae (pv 0) aj)))) aj))))),?_⟩
  refine aP (σ:=[some (.ref p),some (.int ns.length)]) rfl ?_;obtain ⟨xs,gx,qx⟩:=id hp;have lx:=qx.length;walk_at "w";refine ⟨_,_,.lst gx,rfl,?_⟩;walk_at "w";refine ⟨_,_,rfl,.inl (bO.of gx),?_⟩;walk_at "w";rw[show ((xs.length:Nat):Int)=(ns.length:Nat) by rw[lx],decide_eq_true rfl];walk_at "w";refine ⟨⟨_,bO.of gx⟩,?_⟩;refine eH (K:=K) (xs:=xs) (λi ys H'=>aG H H'/\ys=List.replicate i (.bl true)) (bg (bN (by lia))) ⟨aG.refl _,rfl⟩ (λi ys H' _ ⟨s,_⟩=>bO.of (s _ _ gx)) ?_ ?_
  ·rintro i x ys H' hx hlen ⟨s,rfl⟩;obtain ⟨n,en,z⟩:=cL qx hx;walk_at "w";exact ⟨x,n,rfl,s.num z,hn n (ar en),λH2 s2=>⟨s.trans s2,by rw[DS]⟩⟩
  ·rintro ys H' hy ⟨s,rfl⟩ l hl';walk_at "w";refine ⟨l,List.replicate xs.length true,rfl,bO.of (by rw[aI];simp),?_⟩;have e4:(List.replicate xs.length true).all id=true:=by simp
   rw[e4];exact k _ (s.trans (aG.new hl'))
theorem oH:bf ["things","wide","place","thing"] ["things","wide"] (ay gJ):=by walk_at "d"
theorem oM (T:Txt K mg Z):cJ P w K mg base gE 4 Z.lY Z.lH ["things","wide"] (Iy K):=by
 refine T.ja.ok oH (λvs H Q E h=>?_) (λcdv A outer s H vs Q E hr h=>?_)
 ·obtain ⟨p,H0,rows,w,rfl,_⟩:=h;rfl
 ·obtain ⟨p,H0,rows,w,rfl,hp,hl,hw,hn,k⟩:=h
  refine ⟨_,(aw (ee PassesOwn.never rfl (IG rfl T.enumerate (ae (pv 0) aj)) (w5 rfl (cV (aK (i:=2) oH.nd) (cV (aK (i:=3) oH.nd) lC)))
    (aA (cQ (jm (fE (cN (JE T) hr T.Ds T.Cb.kp T.Gu (ae (pv 3) (ae (pv 1) aj))))) (aA KI) bS)))
   (aA (aV (bZ ["row"] [] [] (b9 (pv 0)) (λ_=>(aK (i:=0) (show List.Nodup (α:=PySem.Str) ["row"] by decide +kernel))) (λ_=>cf) (λ_=>(eX (i8 K (by rfl)) (by rfl) T.list PyProof.Rows.boot_list (ae (pv 0) aj))))))),?_⟩
  refine aP (σ:=[some (.ref p),some (.int w),none,none]) rfl ?_;obtain ⟨xs,gx,qx,_⟩:=id hp;walk_at "w";refine ⟨⟨_,bO.of gx⟩,?_⟩;refine Lu (K:=K) (l:=p) (xs:=xs) (λi σ' H'=>aG H H'/\∃x y,σ'=[some (.ref p),some (.int w),x,y]) ⟨aG.refl _,none,none,rfl⟩ (λi σ' H' _ ⟨s,_⟩=>bO.of (s _ _ gx)) ?_ ?_
  ·rintro i x σ' H' t hx ⟨s,x1,y1,rfl⟩ ht;obtain ⟨qs,eq,q,rfl,_,Rq⟩:=cL qx hx;have hm:=ar eq;have st:aG H' (upd H' t (.tup [.int i,.ref q])):=aG.new ht;have gt:(upd H' t (.tup [.int i,.ref q])) t=some (.tup [.int i,.ref q]):=aI;have s2:=s.trans st;generalize upd H' t (.tup [.int i,.ref q])=H2 at st gt s2 ⊢;have lq:(qs.map nm).length=w:=by rw[ag];exact (hn qs hm).1
   walk_at "w";refine ⟨q,_,by rw[lq],(Rq.same s2).rowK,by rw[lq];exact hw,λn hn'=>?_,λH3 s3=>?_⟩
   ·obtain ⟨y,hy,rfl⟩:=az.mp hn';exact (hn qs hm).2 y hy
   walk_at "w";exact ⟨s2.trans s3,_,_,rfl⟩
  ·rintro σ' H' ⟨s,x1,y1,rfl⟩;walk_at "w";refine ⟨⟨_,bO.of (s _ _ gx)⟩,?_⟩;refine cB (K:=K) (F:=cP K H0) (cP K H) id (s _ _ gx) (Paired.imp' (λ_ _ z=>z.same s) qx) hl (λa b=>a.same b) (λa b=>a.same b) ?_ ?_
   ·rintro i ns x H2 NY NN en s2 ⟨u,rfl,_,zs,gz,qz⟩ k1;walk_at "w";refine ⟨u,zs,rfl,.inl (bO.of gz),λl1 hl1=>?_⟩;exact k1 _ _ (aG.new hl1) ⟨l1,rfl,s.none (s2.none hl1),zs,aI,Paired.imp' (λ_ _ z=>z.same (aG.new hl1)) qz⟩
   ·rintro ys' H2 r hr s2 g pr nx;rw[jc] at pr nx;exact k r H2 (s.none hr) (s.trans s2) ⟨ys',g,pr,j6 nx⟩
theorem wY:bf ["self","move","put","look"] ["self","move","put","look"] (ay dR):=by walk_at "d"
theorem xf (T:Txt K mg Z):cJ P w K mg base gE 5 Z.gX Z.gV ["self","move","put","look"] (Iw K Z.a_System):=by
 refine T.qE.ok wY (λvs H Q E h=>?_) (λcdv A outer s H vs Q E hr h=>?_)
 ·obtain ⟨x,dx,p,q,r,Hb,H0,H1,H2,mv,pt,lk,rfl,_⟩:=h;rfl
 ·obtain ⟨x,dx,p,q,r,Hb,H0,H1,H2,mv,pt,lk,rfl,nx,ndx,nex,rfl,gp,gq,gr,D,om,op,ol,k⟩:=h
  refine ⟨_,(aw (jY (cN (rW T) hr T.m7 T.mO.kp T.pR (ae (pv 1) (ae ao (ae (rV (v:=.int 8) rfl T.mg_MOST_STATES ⟨_,rfl⟩) aj)))))
   (aw (yU (pv 0) (cN (oM T) hr T.j7 T.ja.kp T.lQ (ae (pv 1) (ae (bG aT (by rfl) T.len aO (ae (pv 1) aj)) aj))) rfl)
   (aw (yU (pv 0) (bG aT (by rfl) T.len aO (ae (kL (pv 0) rfl) aj)) rfl)
   (aw (jY (cN (rW T) hr T.m7 T.mO.kp T.pR (ae (pv 2) (ae ao (ae (rV (v:=.int 4) rfl T.mg_MOST_PUTS ⟨_,rfl⟩) aj)))))
   (aw (yU (pv 0) (cN (oM T) hr T.j7 T.ja.kp T.lQ (ae (pv 2) (ae (kL (pv 0) rfl) aj))) rfl)
   (aw (yU (pv 0) (bG aT (by rfl) T.len aO (ae (kL (pv 0) rfl) aj)) rfl)
   (aw (jY (cN (rW T) hr T.m7 T.mO.kp T.pR (ae (pv 3) (ae ao (ae (rV (v:=.int 4) rfl T.mg_MOST_LOOKS ⟨_,rfl⟩) aj)))))
   (aw (yU (pv 0) (cN (oM T) hr T.j7 T.ja.kp T.lQ (ae (pv 3) (ae (kL (pv 0) rfl) aj))) rfl)
   (aA (yU (pv 0) (bG aT (by rfl) T.len aO (ae (kL (pv 0) rfl) aj)) rfl)))))))))),?_⟩
  refine aP (σ:=[some (.ref x),some (.ref p),some (.ref q),some (.ref r)]) rfl ?_
  have s0:aG Hb (upd (upd Hb dx (.own x)) x (.ins Z.a_System dx [])):=λb o e=>by
   rw[bF (fj e nx),bF (fj e ndx)];exact e
  have hx:(upd (upd Hb dx (.own x)) x (.ins Z.a_System dx [])) x=some (.ins Z.a_System dx []):=aI;have back:∀{b},(upd (upd Hb dx (.own x)) x (.ins Z.a_System dx [])) b=none->Hb b=none:=λh=>s0.none h
  generalize upd (upd Hb dx (.own x)) x (.ins Z.a_System dx [])=Ha at s0 hx back ⊢;obtain ⟨xs,gx,qx,_⟩:=id gp;obtain ⟨ys,gy,qy,_⟩:=id gq;obtain ⟨zs,gz,qz,_⟩:=id gr;have lx:=qx.length;have ly:=qy.length;have lz:=qz.length;have d1:=D.n8;have d2:=D.i4;have d3:=D.o4;walk_at "w";refine ⟨p,xs,0,8,rfl,s0 _ _ gx,by lia,?_⟩;walk_at "w";refine ⟨_,_,rfl,.inl (bO.of (s0 _ _ gx)),?_⟩;walk_at "w";refine ⟨p,H0,mv,mv.length,by rw[lx],gp.same s0,by lia,by lia,λws hw=>⟨D.mw ws hw,om ws hw⟩,λa H3 na s3 Ga=>?_⟩;have hx3:=s3 _ _ hx;walk_at "w";refine ⟨x,Z.a_System,dx,_,rfl,hx3,T.cl_System,T.na_move,(by show 0 < 1000;decide),?_⟩;have e3:E2 x H3 (upd H3 x (.ins Z.a_System dx (cn "move" (.ref a) []))):=E2.upd;have i3:wK H3 x:=⟨_,_,_,hx3⟩;have hx4:(upd H3 x (.ins Z.a_System dx (cn "move" (.ref a) []))) x=some (.ins Z.a_System dx (cn "move" (.ref a) [])):=aI;have Ga4:=Ga.exc e3 i3;have k4:aG Hb (upd H3 x (.ins Z.a_System dx (cn "move" (.ref a) []))):=(s0.trans s3).after nx;generalize upd H3 x (.ins Z.a_System dx (cn "move" (.ref a) []))=H4 at e3 hx4 Ga4 k4 ⊢;walk_at "w";refine ⟨x,Z.a_System,dx,_,_,rfl,hx4,T.cl_System,T.na_move,(by rw[b7,if_pos rfl]),?_⟩;obtain ⟨as,ga,qa,_⟩:=id Ga4;have la:=qa.length;walk_at "w";refine ⟨_,_,rfl,.inl (bO.of ga),?_⟩;walk_at "w";refine ⟨x,Z.a_System,dx,_,rfl,hx4,T.cl_System,T.na_states,bB dZ (by show 1 < 1000;decide),?_⟩;rw[show ((as.length:Nat):Int)=((mv.length:Nat):Int) by rw[la]];have e4:E2 x H4 (upd H4 x (.ins Z.a_System dx (cn "states" (.int mv.length) (cn "move" (.ref a) [])))):=E2.upd;have i4:wK H4 x:=⟨_,_,_,hx4⟩;have hx5:(upd H4 x (.ins Z.a_System dx (cn "states" (.int mv.length) (cn "move" (.ref a) [])))) x=some (.ins Z.a_System dx (cn "states" (.int mv.length) (cn "move" (.ref a) []))):=aI;have Ga5:=Ga4.exc e4 i4;have k5:aG Hb (upd H4 x (.ins Z.a_System dx (cn "states" (.int mv.length) (cn "move" (.ref a) [])))):=k4.after nx;generalize upd H4 x (.ins Z.a_System dx (cn "states" (.int mv.length) (cn "move" (.ref a) [])))=H5 at e4 hx5 Ga5 k5 ⊢;clear e3 e4 i3 i4 hx4 Ga4 ga qa;walk_at "w";refine ⟨q,ys,1,4,rfl,k5 _ _ gy,by lia,?_⟩;walk_at "w";refine ⟨x,Z.a_System,dx,_,_,rfl,hx5,T.cl_System,T.na_states,(by rw[b7,if_pos rfl]),?_⟩;walk_at "w";refine ⟨q,H1,pt,mv.length,rfl,gq.same k5,by lia,by lia,λws hw=>⟨D.pw ws hw,op ws hw⟩,λb H6 nb s6 Gb=>?_⟩;have hx6:=s6 _ _ hx5;have i6:wK H6 x:=⟨_,_,_,hx6⟩;walk_at "w";refine ⟨x,Z.a_System,dx,_,rfl,hx6,T.cl_System,T.na_put,bB dZ (bB (dn dZ) (by show 2 < 1000;decide)),?_⟩;have e6:E2 x H6 (upd H6 x (.ins Z.a_System dx (cn "put" (.ref b) (cn "states" (.int mv.length) (cn "move" (.ref a) []))))):=E2.upd;have hx7:(upd H6 x (.ins Z.a_System dx (cn "put" (.ref b) (cn "states" (.int mv.length) (cn "move" (.ref a) []))))) x=some (.ins Z.a_System dx (cn "put" (.ref b) (cn "states" (.int mv.length) (cn "move" (.ref a) [])))):=aI;have Ga7:=(Ga5.same s6).exc e6 i6;have Gb7:=(Gb.weak k5).exc e6 i6;have k7:aG Hb (upd H6 x (.ins Z.a_System dx (cn "put" (.ref b) (cn "states" (.int mv.length) (cn "move" (.ref a) []))))):=(k5.trans s6).after nx;generalize upd H6 x (.ins Z.a_System dx (cn "put" (.ref b) (cn "states" (.int mv.length) (cn "move" (.ref a) []))))=H7 at e6 hx7 Ga7 Gb7 k7 ⊢;obtain ⟨bs,gb,qb,_⟩:=id Gb7;have lb:=qb.length;walk_at "w";refine ⟨x,Z.a_System,dx,_,_,rfl,hx7,T.cl_System,T.na_put,(by rw[b7,if_pos rfl]),?_⟩;walk_at "w";refine ⟨_,_,rfl,.inl (bO.of gb),?_⟩;walk_at "w";refine ⟨x,Z.a_System,dx,_,rfl,hx7,T.cl_System,T.na_ins,bB dZ (bB (dn (ai dZ (dn dZ))) (by show 3 < 1000;decide)),?_⟩;rw[show ((bs.length:Nat):Int)=((pt.length:Nat):Int) by rw[lb]];have i7:wK H7 x:=⟨_,_,_,hx7⟩;have e7:E2 x H7 (upd H7 x (.ins Z.a_System dx (cn "ins" (.int pt.length) (cn "put" (.ref b) (cn "states" (.int mv.length) (cn "move" (.ref a) [])))))):=E2.upd;have hx8:(upd H7 x (.ins Z.a_System dx (cn "ins" (.int pt.length) (cn "put" (.ref b) (cn "states" (.int mv.length) (cn "move" (.ref a) [])))))) x=some (.ins Z.a_System dx (cn "ins" (.int pt.length) (cn "put" (.ref b) (cn "states" (.int mv.length) (cn "move" (.ref a) []))))):=aI;have Ga8:=Ga7.exc e7 i7;have Gb8:=Gb7.exc e7 i7;have k8:aG Hb (upd H7 x (.ins Z.a_System dx (cn "ins" (.int pt.length) (cn "put" (.ref b) (cn "states" (.int mv.length) (cn "move" (.ref a) [])))))):=k7.after nx;generalize upd H7 x (.ins Z.a_System dx (cn "ins" (.int pt.length) (cn "put" (.ref b) (cn "states" (.int mv.length) (cn "move" (.ref a) [])))))=H8 at e7 hx8 Ga8 Gb8 k8 ⊢;clear e6 e7 i6 i7 hx7 Ga7 Gb7 gb qb;walk_at "w";refine ⟨r,zs,2,4,rfl,k8 _ _ gz,by lia,?_⟩;walk_at "w";refine ⟨x,Z.a_System,dx,_,_,rfl,hx8,T.cl_System,T.na_states,(by rw[b7,if_neg (by decide +kernel),b7,if_neg (by decide +kernel),b7,if_pos rfl]),?_⟩;walk_at "w";refine ⟨r,H2,lk,mv.length,rfl,gr.same k8,by lia,by lia,λws hw=>⟨D.lw ws hw,ol ws hw⟩,λc H9 nc s9 Gc=>?_⟩;have hx9:=s9 _ _ hx8;have i9:wK H9 x:=⟨_,_,_,hx9⟩;walk_at "w";refine ⟨x,Z.a_System,dx,_,rfl,hx9,T.cl_System,T.na_look,bB dZ (bB (dn (ai dZ (dn (ai dZ (dn dZ))))) (by show 4 < 1000;decide)),?_⟩;have e9:E2 x H9 (upd H9 x (.ins Z.a_System dx (cn "look" (.ref c) (cn "ins" (.int pt.length) (cn "put" (.ref b) (cn "states" (.int mv.length) (cn "move" (.ref a) []))))))):=E2.upd;have hxA:(upd H9 x (.ins Z.a_System dx (cn "look" (.ref c) (cn "ins" (.int pt.length) (cn "put" (.ref b) (cn "states" (.int mv.length) (cn "move" (.ref a) []))))))) x=some (.ins Z.a_System dx (cn "look" (.ref c) (cn "ins" (.int pt.length) (cn "put" (.ref b) (cn "states" (.int mv.length) (cn "move" (.ref a) [])))))):=aI;have GaA:=(Ga8.same s9).exc e9 i9;have GbA:=(Gb8.same s9).exc e9 i9;have GcA:=(Gc.weak k8).exc e9 i9;have kA:aG Hb (upd H9 x (.ins Z.a_System dx (cn "look" (.ref c) (cn "ins" (.int pt.length) (cn "put" (.ref b) (cn "states" (.int mv.length) (cn "move" (.ref a) []))))))):=(k8.trans s9).after nx;generalize upd H9 x (.ins Z.a_System dx (cn "look" (.ref c) (cn "ins" (.int pt.length) (cn "put" (.ref b) (cn "states" (.int mv.length) (cn "move" (.ref a) []))))))=HA at e9 hxA GaA GbA GcA kA ⊢;obtain ⟨cs,gc,qc,_⟩:=id GcA;have lc:=qc.length;walk_at "w";refine ⟨x,Z.a_System,dx,_,_,rfl,hxA,T.cl_System,T.na_look,(by rw[b7,if_pos rfl]),?_⟩;walk_at "w";refine ⟨_,_,rfl,.inl (bO.of gc),?_⟩;walk_at "w";refine ⟨x,Z.a_System,dx,_,rfl,hxA,T.cl_System,T.na_outs,bB dZ (bB (dn (ai dZ (dn (ai dZ (dn (ai dZ (dn dZ))))))) (by show 5 < 1000;decide)),?_⟩;rw[show ((cs.length:Nat):Int)=((lk.length:Nat):Int) by rw[lc]];have iA:wK HA x:=⟨_,_,_,hxA⟩;exact k _ (kA.after nx) ⟨dx,a,b,c,aI,back na,k5.none nb,k8.none nc,(GaA.exc E2.upd iA).weak s0,GbA.exc E2.upd iA,GcA.exc E2.upd iA⟩
theorem AN:bf ["_law_grid"] ["_law_grid"] (ay gN):=by walk_at "d"
theorem oN (T:Txt K mg Z):cJ P w K mg base gE 1 Z.mh Z.lM ["_law_grid"] (AJ K):=by
 refine T.jb.ok AN (λvs H Q E h=>?_) (λcdv A outer s H vs Q E hr h=>?_)
 ·obtain ⟨p,H0,rows,rfl,_⟩:=h;rfl
 ·obtain ⟨p,H0,rows,rfl,hp,hl,hm,k⟩:=h;refine ⟨_,(aA (aV (bZ ["_law_row_here"] [] [] (b9 (pv 0)) (λ_=>(aK (i:=0) (show List.Nodup (α:=PySem.Str) ["_law_row_here"] by decide +kernel))) (λ_=>cf) (λ_=>(eX (i8 K (by rfl)) (by rfl) T.list PyProof.Rows.boot_list (ae (pv 0) aj)))))),?_⟩;refine aP (σ:=[some (.ref p)]) rfl ?_;obtain ⟨xs,gx,qx,_⟩:=id hp;walk_at "w";refine ⟨⟨_,bO.of gx⟩,?_⟩;refine cB (K:=K) (F:=cP K H0) (cP K H) id gx qx hl (λa b=>a.same b) (λa b=>a.same b) ?_ ?_
  ·rintro i ns x H' NY NN en s ⟨u,rfl,_,zs,gz,qz⟩ k1;walk_at "w";refine ⟨u,zs,rfl,.inl (bO.of gz),λl1 hl1=>?_⟩;exact k1 _ _ (aG.new hl1) ⟨l1,rfl,s.none hl1,zs,aI,Paired.imp' (λ_ _ z=>z.same (aG.new hl1)) qz⟩
  ·rintro ys' H' r hr s g pr nx;rw[jc] at pr nx;exact k r H' hr s ⟨ys',g,pr,j6 nx⟩
theorem Eg:bf ["_law_parts_here"] ["_law_parts_here"] (ay jE):=by walk_at "d"
theorem Es (T:Txt K mg Z):cJ P w K mg base gE 7 Z.qi Z.pM ["_law_parts_here"] (Az K Z.a_System):=by
 refine T.va.ok Eg (λvs H Q E h=>?_) (λcdv A outer s H vs Q E hr h=>?_)
 ·obtain ⟨r,H0,mv,pt,lk,rfl,_⟩:=h;rfl
 ·obtain ⟨r,H0,mv,pt,lk,rfl,PQ,D,F,k⟩:=h;refine ⟨_,(aA (aV (MO T.mk_System (xf T) (hr.mono (by decide)) rfl T.mg_System T.pW .nil FK (ae (cN (oN T) hr T.j9 T.jb.kp T.lS (ae (aY bU (pv 0) ao) aj)) (ae (cN (oN T) hr T.j9 T.jb.kp T.lS (ae (aY bU (pv 0) ao) aj)) (ae (cN (oN T) hr T.j9 T.jb.kp T.lS (ae (aY bU (pv 0) ao) aj)) aj)))))),?_⟩;refine aP (σ:=[some (.ref r)]) rfl ?_;obtain ⟨m,p,l,g,n1,n2,n3,Gm,Gp,Gl⟩:=id PQ;have d1:=D.n8;have d2:=D.i4;have d3:=D.o4;walk_at "w";refine ⟨m,H0,mv,rfl,Gm,by lia,λxs hx=>by rw[D.mw xs hx];lia,λa H1 na s1 Ga=>?_⟩;have g1:=s1 _ _ g;walk_at "w";refine ⟨p,H0,pt,rfl,Gp.same s1,by lia,λxs hx=>by rw[D.pw xs hx];lia,λb H2 nb s2 Gb=>?_⟩;have s12:=s1.trans s2;have g2:=s12 _ _ g;walk_at "w";refine ⟨l,H0,lk,rfl,Gl.same s12,by lia,λxs hx=>by rw[D.lw xs hx];lia,λc H3 nc s3 Gc=>?_⟩;have s13:=s12.trans s3;walk_at "w";intro x dx nx ndx nex;exact ⟨x,dx,a,b,c,H3,H,H1,H2,mv,pt,lk,rfl,nx,ndx,nex,rfl,(Ga.same s2).same s3,Gb.same s3,Gc,D,F.ok.1,F.ok.2.1,F.ok.2.2,λH' s' S'=>⟨rfl,k x H' (s13.none nx) (s13.trans s') (S'.weak s13)⟩⟩
theorem D9:bf ["row","bottom"] ["row","bottom"] (ay jv):=by walk_at "d"
theorem xN (T:Txt K mg Z):cJ P w K mg base gE 1 Z.pZ Z.pC ["row","bottom"] (Fi K):=by
 refine T.mP.ok D9 (λvs H Q E h=>?_) (λcdv A outer s H vs Q E hr h=>?_)
 ·obtain ⟨p,ns,M,B,rfl,_⟩:=h;rfl
 ·obtain ⟨p,ns,M,B,rfl,hp,hl,hz,hB,sB,q⟩:=h;refine ⟨_,(aA (aV (bZ ["value"] ["bottom"] [1] (b9 (pv 0)) (λ_=>(aK (i:=0) (show List.Nodup (α:=PySem.Str) ["value","bottom"] by decide +kernel))) (λ_=>cf) (λ_=>(bK cS (aY (sH K (by rfl)) (pv 0) ao) (bK iZ (pv 1) (aY (sH K (by rfl)) (pv 0) ao))))))),?_⟩;refine aP (σ:=[some (.ref p),some (.int B)]) rfl ?_;obtain ⟨xs,gx,qx⟩:=id hp;have lx:=qx.length;walk_at "w";refine ⟨⟨_,bO.of gx⟩,?_⟩;refine eH (K:=K) (xs:=xs) (λi ys H'=>H'=H/\ys=(fu (ns.take i) B).map V.int) (bg (bN (by lia))) ⟨rfl,rfl⟩ (λi ys H' _ ⟨e,_⟩=>by subst e;exact bO.of gx) ?_ ?_
  ·rintro i x ys H' hx hlen ⟨rfl,rfl⟩;obtain ⟨n,en,r,rfl,hr1⟩:=cL qx hx;have nz:=hz.2.2 n (ar en);have sn:Sz 4400 n.2:=EH hz.1 nz.2.1 hz.2.1;walk_at "w";refine fD (show rK _ _ from ⟨by lia,sn.mono (by decide)⟩) ?_;rw[cu _ (by lia)]
   have sq:Sz 4400 (B / n.2):=sB.le (by
    rw[Pp (by lia)];exact Nat.div_le_self ..)
   walk_at "w";refine fD (show fL _ _ from .inr ⟨_,_,nz.2.2,sq,by decide⟩) ?_;exact ⟨rfl,by rw[take_snoc en];simp [fu]⟩
  ·rintro ys H' hy ⟨rfl,rfl⟩ l hl';exact q l _ hl' (aG.new hl') (by rw[aI,aL (by lia)])
theorem fM:bf ["wholes","multiple","whole"] ["wholes"] (ay dQ):=by walk_at "d"
theorem xc (T:Txt K mg Z):cJ P w K mg base gE 2 Z.gW Z.gU ["wholes"] (Ko K):=by
 refine T.kq.ok fM (λvs H Q E h=>?_) (λcdv A outer s H vs Q E hr h=>?_)
 ·obtain ⟨p,bs,M,rfl,_⟩:=h;rfl
 ·obtain ⟨p,bs,M,rfl,hp,hM,sM,hb,q⟩:=h
  refine ⟨_,(aw (br (i:=1) fM.nd rfl (Or.inl rfl) ao)
   (aw (ee PassesOwn.never rfl (b9 (pv 0)) (aK (i:=2) fM.nd)
    (aA (br (i:=1) fM.nd rfl (Or.inl rfl) (bK cS (pv 1) (bK iZ (pv 2) (cN (j5 T) hr T.gQ T.fJ.kp T.iP (ae (pv 1) (ae (pv 2) aj))))))))
   (aA (aV (pv 1))))),?_⟩
  refine aP (σ:=[some (.ref p),none,none]) rfl ?_;walk_at "w";refine ⟨⟨_,hp⟩,?_⟩;refine i5 (K:=K) (a:=p) (xs:=bs.map V.int) (λi σ' H'=>H'=H/\∃x,σ'=[some (.ref p),some (.int (y8 (bs.take i) 1)),x]) ⟨rfl,none,rfl⟩ (λi σ' H' _ ⟨e,_⟩=>by subst e;exact hp) ?_ ?_
  ·rintro i x σ' H' hx ⟨rfl,y,rfl⟩;rw[aF] at hx
   obtain ⟨b,eb,rfl⟩:∃b,bs[i]?=some b/\x=.int b:=by
    cases e:bs[i]? with
    | none=>rw[e] at hx;cases hx
    | some b=>rw[e] at hx;cases hx;exact ⟨b,rfl,rfl⟩
   have b1:=hb b (ar eb);have sb:Sz 4400 b:=EH hM b1.2 sM;have ht:∀c∈bs.take i,0 < c/\c∣M:=λc hc=>hb c (cI hc)
   have msz:Sz 4400 (y8 (bs.take i) 1):=EH hM (Af (by decide) (Int.one_dvd _) ht) sM;generalize hm:y8 (bs.take i) 1=m at msz ⊢;have gp:0 < g m b:=BJ (by lia);walk_at "w";refine ⟨m,b,rfl,?_⟩;walk_at "w";refine fD (show rK _ _ from ⟨by lia,(RA b1.1 sb).mono (by decide)⟩) ?_;rw[cu _ (by lia)];walk_at "w";refine fD (show fL _ _ from .inr ⟨_,_,msz,sb.hi (t:=m) (by lia),by decide⟩) ?_;walk_at "w";exact ⟨rfl,_,by rw[take_snoc eb,Dv,hm];rfl⟩
  ·rintro σ' H' ⟨rfl,y,rfl⟩;walk_at "w";rw[aL (by simp)];exact q
theorem yS:bf ["row"] ["row"] (ay eV):=by walk_at "d"
theorem rh (T:Txt K mg Z):cJ P w K mg base gE 3 Z.ji Z.jf ["row"] (Kq K):=by
 refine T.gA.ok yS (λvs H Q E h=>?_) (λcdv A outer s H vs Q E hr h=>?_)
 ·obtain ⟨p,ns,M,rfl,_⟩:=h;rfl
 ·obtain ⟨p,ns,M,rfl,hp,hl,hz,q⟩:=h;refine ⟨_,(aA (aV (cN (xc T) hr T.oQ T.kq.kp T.pT (ae (bZ ["value"] [] [] (b9 (pv 0)) (λ_=>(aK (i:=0) (show List.Nodup (α:=PySem.Str) ["value"] by decide +kernel))) (λ_=>cf) (λ_=>(aY (sH K (by rfl)) (pv 0) ao))) aj)))),?_⟩;refine aP (σ:=[some (.ref p)]) rfl ?_;obtain ⟨xs,gx,qx⟩:=id hp;have lx:=qx.length;walk_at "w";refine ⟨⟨_,bO.of gx⟩,?_⟩;refine eH (K:=K) (xs:=xs) (λi ys H'=>H'=H/\ys=((ns.take i).map (·.2)).map V.int) (bg (bN (by lia))) ⟨rfl,rfl⟩ (λi ys H' _ ⟨e,_⟩=>by subst e;exact bO.of gx) ?_ ?_
  ·rintro i x ys H' hx hlen ⟨rfl,rfl⟩;obtain ⟨n,en,r,rfl,hr1⟩:=cL qx hx;walk_at "w";exact ⟨rfl,by rw[take_snoc en];simp⟩
  ·rintro ys H' hy ⟨rfl,rfl⟩ l hl';walk_at "w";refine ⟨l,ns.map (·.2),M,rfl,bO.of (by rw[aI,aL (by lia)]),hz.1,hz.2.1,λb hb=>?_,?_⟩
   ·obtain ⟨n,hn,rfl⟩:=az.mp hb;exact ⟨(hz.2.2 n hn).1,(hz.2.2 n hn).2.1⟩
   ·exact q _ (aG.new hl')
theorem vY:bf ["lines","begin","place","at"] ["lines","begin","place"] (ay iB):=by walk_at "d"
theorem Cw (T:Txt K mg Z):cJ P w K mg base gE 1 Z.nM Z.nA ["lines","begin","place"] Dg:=by
 refine T.tJ.ok vY (λvs H Q E h=>?_) (λcdv A outer s H vs Q E hr h=>?_)
 ·obtain ⟨l,p,ls,b,c,rfl,_⟩:=h;rfl
 ·obtain ⟨l,p,ls,b,c,rfl,G,l1000,b1000,hc,k1,k2⟩:=h
  refine ⟨_,(aw (ee PassesOwn.never rfl (JC rfl T.range (ae (pv 1) (ae (bG aT (by rfl) T.len aO (ae (pv 0) aj)) aj))) (aK (i:=3) vY.nd)
    (aA (cQ (bE uo (aY bW (aY bW (pv 0) (pv 3)) (pv 2)) ao (bJ _)) (aA (aV (pv 3))) bS)))
   (aA (aV KN))),?_⟩
  refine aP (σ:=[some (.ref p),some (.int b),some (.int c),none]) rfl ?_;obtain ⟨_,xs,gx,qx⟩:=id G;have lx:=qx.length;walk_at "w";refine ⟨_,_,rfl,.inl (bO.of gx),?_⟩;rw[<- lx];walk_at "w";refine ⟨⟨by lia,by lia,by lia,by lia⟩,?_⟩;refine Dy (lo:=(b:Int)) (n:=((ls.length:Int) - (b:Int)).toNat) (λi σ' H'=>H'=H/\(∃y,σ'=[some (.ref p),some (.int b),some (.int c),y])/\∀s,b<=s->s < b+i->dO ls s c=0) ⟨rfl,⟨_,rfl⟩,λs h1 h2=>absurd h2 (by lia)⟩ ?_ ?_
  ·rintro i σ' H' hi ⟨rfl,⟨y,rfl⟩,hz⟩;rw[show ((b:Int)+(i:Int))=((b+i:Nat):Int) by lia];obtain ⟨zs,v,ez,ev,mz,q,rfl,_,gq⟩:=ig qx (i:=b+i) (by lia);walk_at "w";refine cz (bO.of gx) (fz ev) ?_;walk_at "w";refine cz (bO.of gq) (E6 (hc zs mz)) ?_;walk_at "w";have ef:=Ob (c:=c) ez;by_cases e:zs.getD c 0=0
   ·rw[decide_eq_true e];walk_at "w";refine ⟨rfl,⟨_,rfl⟩,λs h1 h2=>?_⟩;by_cases e2:s=b+i
    ·rw[e2,ef,e];rfl
    ·exact hz s h1 (by lia)
   ·rw[decide_eq_false e];walk_at "w";exact k1 (b+i) (by lia) (by lia) (by rw[ef];exact Q7.mpr e)
  ·rintro σ' H' ⟨rfl,⟨y,rfl⟩,hz⟩;walk_at "w";exact k2 λt h1 h2=>hz t h1 (by lia)
theorem rT:bf ["lines","at","place","before","used","by","swept"] ["lines","at","place","before"] (ay ow):=by walk_at "d"
theorem Hv (T:Txt K mg Z):cJ P w K mg base gE 1 Z.vL Z.vC ["lines","at","place","before"] Dh:=by
 refine T.zx.ok rT (λvs H Q E h=>?_) (λcdv A outer s H vs Q E hr h=>?_)
 ·obtain ⟨l,p,ls,kk,c,n,b,rfl,_⟩:=h;rfl
 ·obtain ⟨l,p,ls,kk,c,n,b,rfl,hl,G,l1000,hk,hw,n1000,hc,b0,sb,hs,k⟩:=h
  refine ⟨_,(aw (br (i:=4) rT.nd rfl (Or.inr rfl) (aY bW (pv 0) (pv 1)))
   (aw (br (i:=5) rT.nd rfl (Or.inr rfl) (aY bW (pv 4) (pv 2)))
   (aw (lB 6 ["line"] ["used","by","place","before"] [4,5,2,3] rT.nd rfl rfl (b9 (pv 0)) (λ_=>(aK (i:=0) (show List.Nodup (α:=PySem.Str) ["line","used","by","place","before"] by decide +kernel) rfl (Or.inr rfl) (Or.inl rfl))) (λ_=>cf) (λ_=>(bZ ["mine","yours"] ["by","line","place","before"] [2,0,3,4] (KJ K rfl T.zip (ae (pv 0) (ae (pv 1) aj))) (λ_=>(Aa K 2 (cV (aK (i:=0) (show List.Nodup (α:=PySem.Str) ["mine","yours","by","line","place","before"] by decide +kernel)) (cV (aK (i:=1) (show List.Nodup (α:=PySem.Str) ["mine","yours","by","line","place","before"] by decide +kernel)) lC)))) (λ_=>cf) (λ_=>(bK iZ (bK j4 (bK cS (pv 2) (pv 0)) (bK cS (aY (fZ K (by rfl)) (pv 3) (pv 4)) (pv 1))) (pv 5))))))
   (aw (fh (pv 4) (ie (pv 6) (pv 1) set_list))
   (aA (aV (pv 6))))))),?_⟩
  refine aP (σ:=[some (.ref p),some (.int kk),some (.int c),some (.int b),none,none,none]) rfl ?_;obtain ⟨pl,xs,gx,qx⟩:=id G;have lx:=qx.length;obtain ⟨zk,vk,ek,evk,mk,qk,rfl,qkl,gk⟩:=ig qx hk;have wk:=hw zk mk;have ek':ls.getD kk []=zk:=by rw[aa,ek];rfl
  walk_at "w";refine cz (bO.of gx) (fz evk) ?_;walk_at "w";refine cz (bO.of gk) (E6 (by lia)) ?_;walk_at "w";refine ⟨⟨_,bO.of gx⟩,?_⟩;refine eH (K:=K) (xs:=xs) (λi ys H'=>aG H H'/\Paired (Jj l H') ((ls.take i).map λzs=>List.zipWith (λx y=>(zk.getD c 0*x - zs.getD c 0*y).fdiv b) zs zk) ys) (bg (bN (by lia))) ⟨aG.refl _,.nil⟩ (λi ys H' _ ⟨s,_⟩=>bO.of (s _ _ gx)) ?_ ?_
  ·rintro i v ys0 H' hx hlen ⟨s',pr⟩;obtain ⟨zs,ec,q,rfl,ql,gq⟩:=cL qx hx;have mz:=ar ec;have wz:=hw zs mz;have gq':=s' _ _ gq;have gk':=s' _ _ gk;walk_at "w";refine ⟨⟨_,bO.of gq'⟩,⟨_,bO.of gk'⟩,?_⟩;refine Gh (K:=K) (xs:=zs.map V.int) (ws:=zk.map V.int) (λj ys H2=>aG H' H2/\ys=((List.zipWith (λx y=>(zk.getD c 0*x - zs.getD c 0*y).fdiv b) zs zk).take j).map V.int) (bg (bN (by rw[ag];lia))) (by rw[ag,ag];lia) ⟨aG.refl _,rfl⟩ (λj ys H2 _ ⟨s2,_⟩=>⟨bO.of (s2 _ _ gq'),bO.of (s2 _ _ gk')⟩) ?_ ?_
   ·rintro j v1 v2 ys H2 r h1 h2 hy ⟨s2,rfl⟩ hr
    obtain ⟨x,ex,rfl⟩:∃x,zs[j]?=some x/\V.int x=v1:=by
     rw[aF] at h1;cases e:zs[j]? with
     | none=>rw[e] at h1;cases h1
     | some x=>rw[e] at h1;exact ⟨x,rfl,bY h1⟩
    obtain ⟨y,ey,rfl⟩:∃y,zk[j]?=some y/\V.int y=v2:=by
     rw[aF] at h2;cases e:zk[j]? with
     | none=>rw[e] at h2;cases h2
     | some x=>rw[e] at h2;exact ⟨x,rfl,bY h2⟩
    have sr:aG H2 (upd H2 r (.tup [.int x,.int y])):=aG.new hr;have gr:(upd H2 r (.tup [.int x,.int y])) r=some (.tup [.int x,.int y]):=aI;generalize upd H2 r (.tup [.int x,.int y])=H3 at sr gr ⊢;have gq3:=sr _ _ (s2 _ _ gq');have sx:=hs zs mz x (ar ex);have sy:=hs zk mk y (ar ey);have s1:=hs zk mk _ (getD_in (e:=0) (show c < zk.length by lia));have s3:=hs zs mz _ (getD_in (e:=0) (show c < zs.length by lia));walk_at "w";refine fD (show fL _ _ from .inr ⟨_,_,s1,sx,by decide⟩) ?_;walk_at "w";refine cz (bO.of gq3) (E6 (by lia)) ?_;walk_at "w";refine fD (show fL _ _ from .inr ⟨_,_,s3,sy,by decide⟩) ?_;walk_at "w";refine fD (show rK _ _ from ⟨b0,sb⟩) ?_;have ez:(List.zipWith (λx y=>(zk.getD c 0*x - zs.getD c 0*y).fdiv b) zs zk)[j]?=some ((zk.getD c 0*x - zs.getD c 0*y).fdiv b):=by rw[cC,ex,ey]
    exact ⟨s2.trans sr,by rw[take_snoc ez];simp⟩
   ·rintro ys H2 hy ⟨s2,rfl⟩ r hr;have sn:aG H2 (upd H2 r (.lst (((List.zipWith (λx y=>(zk.getD c 0*x - zs.getD c 0*y).fdiv b) zs zk).take (zs.map V.int).length).map V.int))):=aG.new hr;refine ⟨(s'.trans s2).trans sn,?_⟩;rw[take_snoc ec,cm];refine cM (Paired.imp' (λ_ _ z=>(Jj.same z s2).same sn) pr) (.cons ⟨r,rfl,ne_old (λz=>hl (s'.none (s2.none z))) hr,?_⟩ .nil);rw[aI,aL (by rw[dX,ag];lia)]
  ·rintro ys H1 hy ⟨s1,pr⟩ r hr;have sn:aG H1 (upd H1 r (.lst ys)):=aG.new hr;have gn:(upd H1 r (.lst ys)) r=some (.lst ys):=aI;have ly:=pr.length;rw[ag,dq] at ly;generalize upd H1 r (.lst ys)=H2 at sn gn ⊢;walk_at "w";refine eY gn (fw (by lia)) rfl ?_;have s2:aG H1 (upd H2 r (.lst (ys.set kk (.ref qk)))):=sn.after hr;walk_at "w";refine k r _ (s1.none hr) (s1.trans s2) ⟨ne_old (λz=>hl (s1.none z)) hr,_,aI,?_⟩;unfold Gi;rw[ek'];rw[aL (by lia)] at pr;exact kN (Paired.imp' (λ_ _ z=>Jj.same z s2) pr) kk ⟨qk,rfl,qkl,(s1.trans s2) _ _ gk⟩
theorem vZ:bf ["lines","at","to","swapped"] ["lines","at","to"] (ay iC):=by walk_at "d"
theorem Cy (T:Txt K mg Z):cJ P w K mg base gE 1 Z.nN Z.nB ["lines","at","to"] zA:=by
 refine T.tK.ok vZ (λvs H Q E h=>?_) (λcdv A outer s H vs Q E hr h=>?_)
 ·obtain ⟨l,p,ls,t,kk,rfl,_⟩:=h;rfl
 ·obtain ⟨l,p,ls,t,kk,rfl,hl,G,l1000,ht,hk,k⟩:=h
  refine ⟨_,(aw (br (i:=3) vZ.nd rfl (Or.inl rfl) (eX yo (by rfl) T.list PyProof.Rows.boot_list (ae (pv 0) aj)))
   (aw (fh (aY bW (pv 0) (pv 1)) (ie (pv 3) (pv 2) set_list))
   (aw (fh (aY bW (pv 0) (pv 2)) (ie (pv 3) (pv 1) set_list))
   (aA (aV (pv 3)))))),?_⟩
  refine aP (σ:=[some (.ref p),some (.int t),some (.int kk),none]) rfl ?_;obtain ⟨pl,xs,gx,qx⟩:=id G;have lx:=qx.length;obtain ⟨zt,vt,et,evt,_,Ft⟩:=ig qx ht;obtain ⟨zk,vk,ek,evk,_,Fk⟩:=ig qx hk;walk_at "w";refine ⟨p,xs,rfl,.inl (bO.of gx),λc hc=>?_⟩;have sc:aG H (upd H c (.lst xs)):=aG.new hc;have gc:(upd H c (.lst xs)) c=some (.lst xs):=aI;generalize upd H c (.lst xs)=Hc at sc gc ⊢;walk_at "w";refine cz (bO.of (sc _ _ gx)) (fz evt) ?_;walk_at "w";refine eY gc (fw (by lia)) rfl ?_;have s1:aG H (upd Hc c (.lst (xs.set kk vt))):=sc.after hc;have g1:(upd Hc c (.lst (xs.set kk vt))) c=some (.lst (xs.set kk vt)):=aI;generalize upd Hc c (.lst (xs.set kk vt))=H1 at s1 g1 ⊢;walk_at "w";refine cz (bO.of (s1 _ _ gx)) (fz evk) ?_;walk_at "w";refine eY g1 (fw (by rw[d7];lia)) rfl ?_;have s2:aG H (upd H1 c (.lst ((xs.set kk vt).set t vk))):=s1.after hc;walk_at "w";refine k c _ hc s2 ⟨ne_old hl hc,_,aI,?_⟩;have et':ls.getD t []=zt:=by rw[aa,et];rfl
  have ek':ls.getD kk []=zk:=by rw[aa,ek];rfl
  unfold rO;rw[et',ek'];exact kN (kN (Paired.imp' (λ_ _ z=>Jj.same z s2) qx) kk (Jj.same Ft s2)) t (Jj.same Fk s2)
theorem jV:bf ["rows","wide","lines","leads","before","place","many","at"] ["rows","wide"] (ay vm):=by walk_at "d"
theorem KS (T:Txt K mg Z):cJ P w K mg base gE 4 Z.Al Z.Ah ["rows","wide"] (CQ K):=by
 refine T.EY.ok jV (λvs H Q E h=>?_) (λcdv A outer s H vs Q E hr h=>?_)
 ·obtain ⟨p,n,w,H0,rows,rfl,_⟩:=h;rfl
 ·obtain ⟨p,n,w,H0,rows,rfl,G,r100,n100,hw,F,k⟩:=h
  refine ⟨_,(aw (lB 2 ["row"] [] [] jV.nd rfl rfl (b9 (pv 0)) (λ_=>(aK (i:=0) (show List.Nodup (α:=PySem.Str) ["row"] by decide +kernel))) (λ_=>cf) (λ_=>(cN (xN T) hr T.m8 T.mP.kp T.pS (ae (pv 0) (ae (cN (rh T) hr T.iJ T.gA.kp T.jg (ae (pv 0) aj)) aj)))))
   (aw (br (i:=3) jV.nd rfl (Or.inl rfl) (eS aj))
   (aw (br (i:=4) jV.nd rfl (Or.inl rfl) ao)
   (aw (ee PassesOwn.never rfl (cy rfl T.range (ae (pv 1) aj)) (aK (i:=5) jV.nd)
    (aw (br (i:=6) jV.nd rfl (Or.inl rfl) (bG aT (by rfl) T.len aO (ae (pv 3) aj)))
   (aw (br (i:=7) jV.nd rfl (Or.inl rfl) (cN (Cw T) hr T.we T.tJ.kp T.yw (ae (pv 2) (ae (pv 6) (ae (pv 5) aj)))))
   (aA (cQ (bE MR (pv 7) KN (bJ _)) (aw (br (i:=2) jV.nd rfl (Or.inl rfl) (cN (Hv T) hr T.Bt T.zx.kp T.DN (ae (cN (Cy T) hr T.wg T.tK.kp T.yx (ae (pv 2) (ae (pv 7) (ae (pv 6) aj)))) (ae (pv 6) (ae (pv 5) (ae (pv 4) aj))))))
   (aw (br (i:=4) jV.nd rfl (Or.inl rfl) (aY bW (aY bW (pv 2) (pv 6)) (pv 5)))
   (aA (jY (AX dE eO eN oz (pv 3) (ae (pv 5) aj)))))) bS)))))
   (aA (aV (cY (ae (FJ IA (pv 2) IF (IE (bG aT (by rfl) T.len aO (ae (pv 3) aj)))) (ae (pv 3) aj))))))))),?_⟩
  refine aP (σ:=[some (.ref p),some (.int n),none,none,none,none,none,none]) rfl ?_;obtain ⟨xs,gx,qx,_⟩:=id G;obtain ⟨W,hW,W2,ent⟩:=F.ent;obtain ⟨_,_,_,_,_,_,_,_,r15,r89⟩:=id F;walk_at "w";refine ⟨⟨_,bO.of gx⟩,?_⟩;refine cB (K:=K) (as:=rows) (F:=cP K H0) (λ(H:Hp) (zs:List Int) (v:V)=>∃q,v=V.ref q/\H q=some (.lst (zs.map V.int))) h7 gx qx (by lia) (λa b=>a.same b) (λ⟨q,a,b⟩ s=>⟨q,a,s _ _ b⟩) ?_ ?_
  ·rintro i qs v H' NY NN ec s' ⟨u,rfl,_,R⟩ k1;have mx:=ar ec;obtain ⟨M,hM⟩:=F.rowM mx;obtain ⟨b1,sb⟩:=hM.bot;have lq:(qs.map nm).length<=1000:=by rw[ag,hw qs mx];lia
   walk_at "w";refine ⟨u,_,M,rfl,R.rowK,lq,hM,λH2 s2=>?_⟩;walk_at "w";exact ⟨u,_,M,_,rfl,(R.same s2).rowK,lq,hM,b1,sb,λr H3 n3 s3 g3=>k1 _ _ (s2.trans s3) ⟨r,rfl,g3⟩⟩
  rintro ys H1 lp0 hlp s1 g1 pr1 nx1;walk_at "w";refine dI λqp H2 s2 nq gq=>?_
  have G2:uT qp H2 lp0 (rows.map h7):=⟨(λz=>by rw[z,nq] at g1;cases g1),ys,s2 _ _ g1,Paired.imp' (λ_ _ ⟨q,a,b⟩=>⟨q,a,(λz=>by rw[z,nq] at b;cases b),s2 _ _ b⟩) pr1⟩;have hq0:H qp=none:=s1.none nq;have s02:=s1.trans s2;have hm:(rows.map h7).length=rows.length:=ag ..;clear g1 pr1 nx1;walk_at "w";refine ⟨by lia,by lia,?_⟩;refine eL (n:=n) (λP σ' H'=>aG H H'/\∃lp ls ps d y1 y2 y3,σ'=[some (.ref p),some (.int n),some (.ref lp),some (.ref qp),some (.int d),y1,y2,y3]/\H' qp=some (.lst (df ps))/\uT qp H' lp ls/\DO (rows.map h7) n P ls ps d) ⟨s02,lp0,rows.map h7,[],1,_,_,_,rfl,gq,G2,DO.start λzs hz=>by obtain ⟨x,hx,rfl⟩:=az.mp hz;rw[qX];exact hw x hx⟩ ?_ ?_
  ·rintro P σ' H' hP ⟨s',lp,ls,ps,d,y1,y2,y3,rfl,gq',G',I⟩;have hl:=I.len;have kP:=I.el.kP;have km:=I.el.km;have lps:(df ps).length=ps.length:=ag ..;have hqp:H' qp≠none:=by rw[gq'];exact λz=>nomatch z
   obtain ⟨z1,z2⟩:=I.sz (r:=min rows.length n) hW ent (by lia) (by rw[hm];exact au _) r15;have big:(16*W)^min rows.length n < 2^8999:=bB (yX W2) (eP (by decide) (by lia));walk_at "w";refine ⟨_,_,rfl,.inl (bO.of gq'),?_⟩;rw[lps];walk_at "w";refine ⟨qp,lp,ls,ps.length,P,rfl,G',by lia,by lia,λzs hz=>by rw[I.wide zs hz];exact hP,λt h1 h2 h3=>?_,λhz=>?_⟩
   ·walk_at "w";refine ⟨rfl,_,rfl,?_⟩;rw[show decide (V.int (t:Int)=V.non)=false from decide_eq_false (λz=>nomatch z)];walk_at "w";refine ⟨qp,lp,ls,t,ps.length,rfl,hqp,G',by lia,h2,by lia,λl1 Ha na sa Ga=>?_⟩;walk_at "w";refine ⟨qp,l1,_,ps.length,P,n,d,rfl,λz=>hqp (sa.none z),Ga,by rw[yN];lia,by rw[yN];lia,Iq I.wide (by lia) h2,by lia,hP,I.d0,bB z1 big,λzs hz z hz'=>?_,λl2 Hb nb sb Gb=>?_⟩
    ·unfold rO at hz;have key:∀ys,ys∈ls->∀z∈ys,Sz 8999 z:=λys hy z hz=>bB (z2 ys hy z hz) big
     rcases cx hz with h | h
     ·rcases cx h with h | h
      ·exact key zs h z hz'
      ·rw[h] at hz';exact key _ (getD_in h2) z hz'
     ·rw[h] at hz';exact key _ (getD_in (by lia)) z hz'
    have sab:=sa.trans sb;have I2:=I.step hW ent h1 h2 h3;have hk2:ps.length < (Gi (rO ls ps.length t) ps.length P d).length:=by rw[LL,yN];lia
    obtain ⟨n2,xs2,gx2,qx2⟩:=id Gb;obtain ⟨zk,vk,ek,evk,mk,qk,rfl,_,gk⟩:=ig qx2 hk2;have wk:=I2.wide zk mk;walk_at "w";refine cz (bO.of gx2) (fz evk) ?_;walk_at "w";refine cz (bO.of gk) (E6 (by lia)) ?_;have gqb:=sab _ _ gq';walk_at "w";refine ⟨.inl ⟨rfl,_,bO.of gqb⟩,?_⟩;walk_at "w";refine kJ gqb (bN (by lia)) ?_;refine ⟨(s'.trans sab).after hq0,l2,_,ps++[P],_,_,_,_,rfl,?_,Gb.upd,?_⟩
    ·rw[aI];unfold df;rw[cm];rfl
    ·have e:(Gi (rO ls ps.length t) ps.length P d).getD ps.length []=zk:=by rw[aa,ek];rfl
     rw[e] at I2;exact I2
   ·walk_at "w";refine ⟨rfl,_,rfl,?_⟩;rw[show decide (V.non=V.non)=true from decide_eq_true rfl];walk_at "w";exact ⟨s',lp,ls,ps,d,_,_,_,rfl,gq',G',I.skip hz⟩
  rintro σ' H' ⟨s',lp,ls,ps,d,y1,y2,y3,rfl,gq',G',I⟩;obtain ⟨R,hR⟩:=I.done hw F;have lps:(df ps).length=ps.length:=ag ..;obtain ⟨nl,xs',gx',qx'⟩:=id G';walk_at "w";refine ⟨_,_,rfl,.inl (bO.of gq'),?_⟩;rw[lps];walk_at "w";refine Ot (bO.of gx') λsl H3 s3 n3 g3=>?_
  rw[LI] at g3;walk_at "w";refine cv λt H4 s4 g4=>?_
  have s34:=s3.trans s4;exact k t sl qp R ps d _ H4 g4 (s34 _ _ gq') ⟨(λz=>by rw[z,gq'] at n3;cases n3),_,s4 _ _ g3,Paired.imp' (λ_ _ z=>Jj.same z s34) (zB qx' ps.length)⟩ (s'.trans s34) hR
theorem yQ:bf ["top","bottom","divisor"] ["top","bottom"] (ay rf):=by walk_at "d"
theorem yY (T:Txt K mg Z):cJ P w K mg base gE 2 Z.yC Z.yj ["top","bottom"] Js:=by
 refine T.uU.ok yQ (λvs H Q E h=>?_) (λcdv A outer s H vs Q E hr h=>?_)
 ·obtain ⟨t,b,rfl,_⟩:=h;rfl
 ·obtain ⟨t,b,rfl,hb,hs,k⟩:=h
  refine ⟨_,(aw (br (i:=2) yQ.nd rfl (Or.inl rfl) (cN (j5 T) hr T.gQ T.fJ.kp T.iP (ae (pv 0) (ae (pv 1) aj))))
   (aw (cQ (bE uq (pv 1) ao (bJ _)) (aA (br (i:=2) yQ.nd rfl (Or.inl rfl) (AW wQ (pv 2)))) bS)
   (aA (aV (cY (ae (bK iZ (pv 0) (pv 2)) (ae (bK iZ (pv 1) (pv 2)) aj))))))),?_⟩
  refine aP (σ:=[some (.int t),some (.int b),none]) rfl ?_;walk_at "w";refine ⟨t,b,rfl,?_⟩;have hg:=BJ (t:=t) hb
  have hgs:Sz 8999 (g t b):=hs.le (by
   have h1:(g t b).natAbs=Int.gcd t b:=by unfold g;simp
   rw[h1];exact ia (by lia) (by have:=ff (a:=t) (b:=b);exact eB.mpr this |> λz=>by simpa using z))
  have hgn:g (-t) (-b)=g t b:=by unfold g;rw[Int.gcd_neg,Int.neg_gcd]
  walk_at "w";refine il (λh=>?_) (λh=>?_)
  ·have hb0:b < 0:=of_decide_eq_true h;walk_at "w";refine fD (show rK _ _ from ⟨by lia,hgs.neg⟩) ?_;walk_at "w";refine fD (show rK _ _ from ⟨by lia,hgs.neg⟩) ?_;walk_at "w";refine cv λr H' s' h'=>?_
   have e1:t.fdiv (-g t b)=lo (-t) (-b):=by
    unfold Nm.lo;rw[hgn,<- cu _ (by lia),<- Int.neg_fdiv_neg (-t),Int.neg_neg]
   have e2:b.fdiv (-g t b)=hi (-t) (-b):=by
    unfold Nm.hi;rw[hgn,<- cu _ (by lia),<- Int.neg_fdiv_neg (-b),Int.neg_neg]
   exact k r H' s' (by rw[if_pos hb0,if_pos hb0,<- e1,<- e2];exact h')
  ·have hb0:¬b < 0:=λz=>h (decide_eq_true z)
   walk_at "w";refine fD (show rK _ _ from ⟨by lia,hgs⟩) ?_;walk_at "w";refine fD (show rK _ _ from ⟨by lia,hgs⟩) ?_;walk_at "w";refine cv λr H' s' h'=>?_
   rw[cu _ (by lia),cu _ (by lia)] at h';exact k r H' s' (by rw[if_neg hb0,if_neg hb0];exact h')
theorem AK:bf ["rows","wide","found"] ["rows","wide"] (ay oo):=by walk_at "d"
theorem Be (T:Txt K mg Z):cJ P w K mg base gE 5 Z.vH Z.vw ["rows","wide"] (zz K):=by
 refine T.vP.ok AK (λvs H Q E h=>?_) (λcdv A outer s H vs Q E hr h=>?_)
 ·obtain ⟨p,n,w,H0,rows,rfl,_⟩:=h;rfl
 ·obtain ⟨p,n,w,H0,rows,rfl,G,r100,n100,hw,F,k⟩:=h
  refine ⟨_,(aw (br (i:=2) AK.nd rfl (Or.inl rfl) (cN (KS T) hr T.FU T.EY.kp T.Jg (ae (pv 0) (ae (pv 1) aj))))
   (aA (aV (bZ ["line","lead"] [] [] (Ei rfl T.zip (ae (aY bU (pv 2) ao) (ae (aY bU (pv 2) ao) aj))) (λ_=>(Aa K 2 (cV (aK (i:=0) (show List.Nodup (α:=PySem.Str) ["line","lead"] by decide +kernel) rfl (Or.inr rfl) (Or.inl rfl)) (cV (aK (i:=1) (show List.Nodup (α:=PySem.Str) ["line","lead"] by decide +kernel) rfl (Or.inr rfl) (Or.inl rfl)) lC)))) (λ_=>cf) (λ_=>(bZ ["top"] ["line","lead"] [0,1] (AV K (pv 0)) (λ_=>(aK (i:=0) (show List.Nodup (α:=PySem.Str) ["top","line","lead"] by decide +kernel))) (λ_=>cf) (λ_=>(cN (yY T) hr T.vq T.uU.kp T.yu (ae (pv 0) (ae (aY (fZ K (by rfl)) (pv 1) (pv 2)) aj)))))))))),?_⟩
  refine aP (σ:=[some (.ref p),some (.int n),none]) rfl ?_;obtain ⟨_,_,_,_,_,_,_,_,r15,r89⟩:=id F;walk_at "w";refine ⟨p,n,w,H0,rows,rfl,G,r100,n100,hw,F,λt lp qp R ps d ls H1 gt gq G1 s1 S=>?_⟩;obtain ⟨lR,wR,RR⟩:=id S.rr;have hl:=S.len;obtain ⟨_,xs,gx,qx⟩:=id G1;have lx:=qx.length;have lps:(df ps).length=ps.length:=ag ..;have d0:(d:Rat)≠0:=λz=>S.d0 (uP z)
  have dsz:Sz 8999 d:=bB S.dsz (eP (by decide) (by lia))
  have km:ps.length<=n:=by
   rcases cb n ps.length with z | z
   ·have inc:∀j,j < ps.length->j<=ps.getD j 0:=by
     intro j
     induction j with
     | zero=>intro _;exact bo _
     | succ j ih =>
      intro hj;have:=ih (by lia);have:=RR.inc j (j+1) (by lia) hj
      lia
    have h1:=inc (ps.length - 1) (by lia);have h2:=RR.low (ps.length - 1) (by lia)
    lia
   ·exact z
  walk_at "w";refine ⟨⟨_,bO.of gx⟩,⟨_,bO.of gq⟩,?_⟩;refine Gh (K:=K) (xs:=xs) (ws:=df ps) (λi ys H'=>aG H1 H'/\Paired (cP K H1 H') (R.take i) ys) (bg (bN (by lia))) (by lia) ⟨aG.refl _,.nil⟩ (λi ys H' _ ⟨s,_⟩=>⟨bO.of (s _ _ gx),bO.of (s _ _ gq)⟩) ?_ ?_
  ·rintro i v1 v2 ys H' r h1 h2 hy ⟨s,pr⟩ hr;obtain ⟨zs,ez,q,rfl,_,gq1⟩:=cL qx h1;have hi:i < ls.length:=(aD.mp ez).1;have mz:=ar ez;have wz:=S.wide zs mz
   obtain ⟨j,ej,rfl⟩:∃j:Nat,ps[i]?=some j/\V.int (j:Int)=v2:=by
    unfold df at h2;rw[aF] at h2;cases e:ps[i]? with
    | none=>rw[e] at h2;cases h2
    | some x=>rw[e] at h2;exact ⟨x,rfl,bY h2⟩
   have ej':ps.getD i 0=j:=by rw[aa,ej];rfl
   have jn:j < n:=by have:=RR.low i (by lia);rw[ej'] at this;exact this
   have sr:aG H' (upd H' r (.tup [.ref q,.int j])):=aG.new hr;have gr:(upd H' r (.tup [.ref q,.int j])) r=some (.tup [.ref q,.int j]):=aI;generalize upd H' r (.tup [.ref q,.int j])=H2 at sr gr ⊢;have s2:=s.trans sr;have iR:i < R.length:=by lia
   have eR:=af iR;have wRi:=wR _ (aS iR)
   have ed:zs.getD j 0=d:=by
    have h:=S.val i j;rw[Ob ez] at h;have u:=RR.unit i (by lia) i (by lia);rw[if_pos rfl,ej'] at u;rw[u,Rat.mul_one] at h;exact dD.mp h
   have val:∀c,((zs.getD c 0:Int):Rat)=(d:Rat)*(R[i]).getD c 0:=λc=>by
    have h:=S.val i c;rw[Ob ez] at h;rw[h];unfold b6;rw[aa (l:=R),eR];rfl
   walk_at "w";refine ⟨⟨_,bO.of (s2 _ _ gq1)⟩,?_⟩;refine eH (K:=K) (xs:=zs.map V.int) (λc ys' H3=>aG H2 H3/\Paired (cg K H3) ((R[i]).take c) ys') (bg (bN (by rw[ag];lia))) ⟨aG.refl _,.nil⟩ (λc ys' H3 _ ⟨s3,_⟩=>bO.of ((s2.trans s3) _ _ gq1)) ?_ ?_
   ·rintro c x ys' H3 hx hlen ⟨s3,pr3⟩
    obtain ⟨z,ec,rfl⟩:∃z,zs[c]?=some z/\V.int z=x:=by
     rw[aF] at hx;cases e:zs[c]? with
     | none=>rw[e] at hx;cases hx
     | some x=>rw[e] at hx;exact ⟨x,rfl,bY hx⟩
    have hc:c < zs.length:=(aD.mp ec).1;have vc:=val c;have e1:zs.getD c 0=z:=by rw[aa,ec];rfl
    rw[e1] at vc;walk_at "w";refine cz (bO.of ((s2.trans s3) _ _ gq1)) (E6 (by lia)) ?_;rw[ed];walk_at "w";refine ⟨z,d,rfl,S.d0,dsz,λr4 H4 s4 g4=>?_⟩;have ec':(R[i])[c]?=some ((R[i]).getD c 0):=by rw[aa,af (show c < (R[i]).length by lia)];rfl
    refine ⟨s3.trans s4,?_⟩;rw[take_snoc ec'];refine cM (Paired.imp' (λ_ _ z=>cg.same z s4) pr3) (.cons (cg.mk g4 ?_) .nil);rcases Int.lt_or_lt_of_ne S.d0 with hd | hd
    ·rw[if_pos hd,if_pos hd];refine sG (by lia) ?_;rw[di,di,vc];grind
    ·rw[if_neg (by lia),if_neg (by lia)];refine sG hd ?_;rw[vc];grind
   ·rintro ys' H3 hy' ⟨s3,pr3⟩ l4 hl4;have sn:aG H3 (upd H3 l4 (.lst ys')):=aG.new hl4;refine ⟨(s2.trans s3).trans sn,?_⟩;rw[take_snoc eR];rw[aL (by rw[ag];lia)] at pr3;exact cM (Paired.imp' (λ_ _ z=>cP.same z ((sr.trans s3).trans sn)) pr) (.cons ⟨l4,rfl,(s2.trans s3).none hl4,ys',aI,Paired.imp' (λ_ _ z=>cg.same z sn) pr3⟩ .nil)
  ·rintro ys H' hy ⟨s,pr⟩ r hr;have sn:aG H' (upd H' r (.lst ys)):=aG.new hr;rw[aL (by lia)] at pr;refine k r R ps d.natAbs _ (s1.none (s.none hr)) ((s1.trans s).trans sn) ⟨ys,aI,Paired.imp' (λ_ _ z=>(cP.weak z s1).same sn) pr,j6 (H0:=H1) (rows:=R) ⟨H',hr,pr⟩⟩ S.rr S.km ?_ S.dsz S.tp;have:=S.d0
   lia
theorem rR:bf ["one","other","one_bottom","other_bottom","pairs"] ["one","other"] (ay oj):=by walk_at "d"
theorem Ht (T : Txt K mg Z) : cJ P w K mg base gE 4 Z.vG Z.vv ["one", "other"] (D5 K) := by
  have tV := rh (P := P) (w := w) (base := base) T;have zS := xN (P := P) (w := w) (base := base) T;have LR := yY (P := P) (w := w) (base := base) T;refine T.zv.ok rR (λvs H Q E h => ?_) (λcdv A outer s H vs Q E hr h => ?_)
  · obtain ⟨p, q, xs, ys, rfl, _⟩ := h;rfl
  · obtain ⟨p, q, xs, ys, rfl, hp, hq, hl, hz, ⟨k1, j1, k2, j2, h1, h2, hkj⟩, kk⟩ := h
    refine ⟨_, (aw (br (i := 2) rR.nd rfl (Or.inl rfl) (cN tV hr T.iJ T.gA.kp T.jg (ae (pv 0) aj)))
      (aw (br (i := 3) rR.nd rfl (Or.inl rfl) (cN tV hr T.iJ T.gA.kp T.jg (ae (pv 1) aj)))
      (aw (br (i := 4) rR.nd rfl (Or.inl rfl) (Hr rfl T.list rfl T.zip (ae (cN zS hr T.m8 T.mP.kp T.pS (ae (pv 0) (ae (pv 2) aj))) (ae (cN zS hr T.m8 T.mP.kp T.pS (ae (pv 1) (ae (pv 3) aj))) aj))))
      (aA (aV (cN LR hr T.vq T.uU.kp T.yu (ae (bG (LM rfl) (by rfl) T.sum PyProof.Rows.boot_sum (ae (bZ ["mine", "yours"] [] [] (b9 (pv 4)) (λ_ => (Aa K 2 (cV (aK (i := 0) (show List.Nodup (α := PySem.Str) ["mine", "yours"] by decide +kernel)) (cV (aK (i := 1) (show List.Nodup (α := PySem.Str) ["mine", "yours"] by decide +kernel)) lC)))) (λ_ => cf) (λ_ => (bK cS (pv 0) (pv 1)))) aj)) (ae (bK cS (pv 2) (pv 3)) aj)))))))), ?_⟩
    refine aP (σ := [some (.ref p), some (.ref q), none, none, none]) rfl ?_;obtain ⟨M, h1⟩ := h1.rowM (by lia);obtain ⟨N, h2⟩ := h2.rowM (by lia);replace hp := hp.rowK;replace hq := hq.rowK;replace hl : (ys.map nm).length = (xs.map nm).length := by simpa using hl
    replace hz : (xs.map nm).length ≤ 1000 := by simpa using hz
    obtain ⟨b1, s1⟩ := h1.bot;obtain ⟨b2, s2⟩ := h2.bot;have k2 : ∀ r H', aG H H' → H' r = some (.tup [.int (lo (LD (xs.map nm) (ys.map nm)) (h8 (xs.map nm) * h8 (ys.map nm))), .int (hi (LD (xs.map nm) (ys.map nm)) (h8 (xs.map nm) * h8 (ys.map nm)))]) → Q (.ref r) H' := λr H' s g => kk r H' s (cg.mk g (Ng b1 b2))
    clear kk;generalize xs.map nm = ns at hp hq hl hz h1 h2 b1 b2 s1 s2 k2;generalize ys.map nm = ms at hp hq hl hz h1 h2 b1 b2 s1 s2 k2;have hb : 0 < h8 ns * h8 ms := jd b1 b2;walk_at "w";refine ⟨p, ns, M, rfl, hp, hz, h1, λH1 t1 => ?_⟩;walk_at "w";refine ⟨q, ms, N, rfl, hq.same t1, by lia, h2, λH2 t2 => ?_⟩;have u2 := t1.trans t2;walk_at "w";refine ⟨p, ns, M, _, rfl, hp.same u2, hz, h1, b1, s1, λr1 H3 n3 t3 g3 => ?_⟩;walk_at "w";refine ⟨q, ms, N, _, rfl, (hq.same u2).same t3, by lia, h2, b2, s2, λr2 H4 n4 t4 g4 => ?_⟩;walk_at "w";refine ⟨r1, r2, _, _, rfl, bO.of (t4 _ _ g3), bO.of g4, by simp [fu, hl], λL ts H5 t5 n5 g5 pr => ?_⟩;have lt := pr.length;have ll : (fu ns (h8 ns)).length = ns.length := by simp [fu]
    have lm : (fu ms (h8 ms)).length = ns.length := by simp [fu, hl]
    rw [Cg, ag, ag, ll, lm] at lt;walk_at "w";refine ⟨⟨_, bO.of g5⟩, ?_⟩;refine eH (K := K) (xs := ts) (λi ys H' => H' = H5 /\ ys = ((List.zipWith (· * ·) (fu ns (h8 ns)) (fu ms (h8 ms))).take i).map V.int) (bg (bN (by lia))) ⟨rfl, rfl⟩ (λi ys H' _ ⟨e, _⟩ => by subst e; exact bO.of g5) ?_ ?_
    · rintro i x ys H' hx hlen ⟨rfl, rfl⟩;obtain ⟨pq, epq, T, rfl, gT⟩ := cL pr hx;obtain ⟨t, u, et, eu, rfl⟩ := L7 epq;walk_at "w";refine fD (show fL _ _ from .inr ⟨_, _, Fb h1 b1 s1 (ar et), Fb h2 b2 s2 (ar eu), by decide⟩) ?_;have ez : (List.zipWith (· * ·) (fu ns (h8 ns)) (fu ms (h8 ms)))[i]? = some (t * u) := by rw [cC, et, eu]
      exact ⟨rfl, by rw [take_snoc ez]; simp⟩
    · rintro ys H' hy ⟨rfl, rfl⟩ l hl';walk_at "w";refine ⟨l, List.zipWith (· * ·) (fu ns (h8 ns)) (fu ms (h8 ms)), rfl, bO.of (by rw [aI, aL (by rw [dX]; lia)]), ?_⟩;walk_at "w";refine fD (show fL _ _ from .inr ⟨_, _, s1, s2, by decide⟩) ?_;walk_at "w";refine ⟨_, _, rfl, by lia, (s1.mul s2).mono (by decide), λr H6 t6 g6 => ?_⟩;rw [if_neg (by lia), if_neg (by lia)] at g6;exact k2 r H6 ((((u2.trans t3).trans t4).trans t5).trans ((aG.new hl').trans t6)) g6
theorem GS:bf ["grid","row"] ["grid","row"] (ay ou):=by walk_at "d"
theorem Bi (T:Txt K mg Z):cJ P w K mg base gE 5 Z.vK Z.vB ["grid","row"] (D4 K):=by
 refine T.vR.ok GS (λvs H Q E h=>?_) (λcdv A outer s H vs Q E hr h=>?_)
 ·obtain ⟨p,q,H0,rows,ys,rfl,_⟩:=h;rfl
 ·obtain ⟨p,q,H0,rows,ys,rfl,hp,hq,hz,hl,hr1,kk⟩:=h;refine ⟨_,(aA (aV (bZ ["line"] ["row"] [1] (b9 (pv 0)) (λ_=>(aK (i:=0) (show List.Nodup (α:=PySem.Str) ["line","row"] by decide +kernel))) (λ_=>cf) (λ_=>(cN (Ht T) hr T.Bq T.zv.kp T.DL (ae (pv 0) (ae (pv 1) aj))))))),?_⟩;refine aP (σ:=[some (.ref p),some (.ref q)]) rfl ?_;obtain ⟨xs,gx,qx,_⟩:=id hp;walk_at "w";refine ⟨⟨_,bO.of gx⟩,?_⟩;refine cB (K:=K) (F:=cP K H0) (cg K) (λxs=>dh xs ys) gx qx hz (λa b=>a.same b) (λa b=>a.same b) ?_ ?_
  ·rintro i ns x H' NY NN en s ⟨u,rfl,_,hu⟩ k;obtain ⟨e1,e2⟩:=hr1 ns (ar en);walk_at "w";exact ⟨u,q,ns,ys,rfl,hu,hq.same s,e1.symm,by lia,e2,λr H2 s2 h2'=>k _ _ s2 h2'⟩
  ·rintro ys' H' r hr s g pr nx;exact kk r H' hr s ⟨ys',g,pr⟩
theorem Cq:bf ["system","rows"] ["system","rows"] (ay iu):=by walk_at "d"
theorem Cu (T:Txt K mg Z):cJ P w K mg base gE 6 Z.nK Z.nk ["system","rows"] (CZ K Z.a_System):=by
 refine T.tG.ok Cq (λvs H Q E h=>?_) (λcdv A outer s H vs Q E hr h=>?_)
 ·obtain ⟨x,p,H0,H1,mv,pt,lk,R,rfl,_⟩:=h;rfl
 ·obtain ⟨x,p,H0,H1,mv,pt,lk,R,rfl,S,D,G,l100,wR,hf,k⟩:=h;refine ⟨_,(aA (aV (bZ ["row"] ["system"] [0] (b9 (pv 1)) (λ_=>(aK (i:=0) (show List.Nodup (α:=PySem.Str) ["row","system"] by decide +kernel))) (λ_=>cf) (λ_=>(cN (Bi T) hr T.xi T.vR.kp T.zj (ae (MP K (pv 1) rfl) (ae (pv 0) aj))))))),?_⟩;refine aP (σ:=[some (.ref x),some (.ref p)]) rfl ?_;obtain ⟨dx,a',b',c',gx,_,_,_,Ga,Gb,Gc⟩:=id S;have d8:=D.n8;obtain ⟨xs,gxs,qx,_⟩:=id G;walk_at "w";refine ⟨⟨_,bO.of gxs⟩,?_⟩;refine cB (K:=K) (F:=cP K H1) (cP K H) (yI mv) gxs qx (by lia) (λa b=>a.same b) (λa b=>a.same b) ?_ ?_
  ·rintro i ns v H' NY NN en s ⟨u,rfl,_,hu⟩ k1;have mn:=ar en;walk_at "w";refine ⟨x,Z.a_System,dx,_,_,rfl,s _ _ gx,T.cl_System,T.na_move,Ff,?_⟩;walk_at "w";exact ⟨a',u,H0,mv,ns,rfl,Ga.same s,hu,by lia,by rw[wR ns mn];lia,λxs hx=>⟨by rw[D.mw xs hx,wR ns mn],hf xs hx ns mn⟩,λr H2 nr s2 R2=>k1 _ _ s2 ⟨r,rfl,s.none nr,R2⟩⟩
  ·rintro ys H' r hr s g pr nx;exact k r H' hr s ⟨ys,g,pr,j6 nx⟩
theorem oG:bf ["system","steps","lists","rows"] ["system","steps"] (ay gG):=by walk_at "d"
theorem Bf (T:Txt K mg Z):cJ P w K mg base gE 7 Z.lV Z.lE ["system","steps"] (De K Z.a_System):=by
 refine T.qS.ok oG (λvs H Q E h=>?_) (λcdv A outer s H vs Q E hr h=>?_)
 ·obtain ⟨x,a,c,st,H0,mv,pt,lk,rfl,_⟩:=h;rfl
 ·obtain ⟨x,a,c,st,H0,mv,pt,lk,rfl,s1000,S,D,F,k⟩:=h
  refine ⟨_,(aw (br (i:=2) oG.nd rfl (Or.inl rfl) (eS (ae (eS aj) aj)))
   (aw (AR PassesOwn.never (bE Qq (bG aT (by rfl) T.len aO (ae (pv 2) aj)) (pv 1) (bJ _))
    (aw (br (i:=3) oG.nd rfl (Or.inl rfl) (cN (Be T) hr T.xg T.vP.kp T.zg (ae (bK uu (kL (pv 0) rfl) (cN (Cu T) hr T.wb T.tG.kp T.yt (ae (pv 0) (ae (aY bW (pv 2) (AW wQ ao)) aj)))) (ae (kL (pv 0) rfl) aj))))
   (aw (cQ (bE fF (bG aT (by rfl) T.len aO (ae (pv 3) aj)) (bG aT (by rfl) T.len aO (ae (aY bW (pv 2) (AW wQ ao)) aj)) (bJ _)) (aA (aV (pv 2))) bS)
   (aA (jY (AX dE eO eN oz (pv 2) (ae (pv 3) aj)))))))
   (aA (aV (pv 2))))),?_⟩
  refine aP (σ:=[some (.ref x),some (.int st),none,none]) rfl ?_;obtain ⟨dx,a',b',c',gx,_,_,_,Ga,Gb,Gc⟩:=id S;have d8:=D.n8;have i4:=D.i4;have lP:=ik (mv:=mv) (pt:=pt) rfl D.pw;walk_at "w";refine dI λq0 H1 s1 nq0 g1=>?_
  walk_at "w";refine dI λl H2 s2 nl g2=>?_
  have s02:=s1.trans s2;have nl0:H l=none:=s1.none nl;obtain ⟨Hz,eHz⟩:∃Hz,Hz=upd H l (.lst []):=⟨_,rfl⟩;have zl:Hz l≠none:=by rw[eHz,aI];exact λz=>nomatch z
  have zn:∀q,Hz q=none->H q=none/\q≠l:=λq h=>by
   have ne:q≠l:=λz=>zl (by rw[<- z];exact h)
   rw[eHz,bF ne] at h;exact ⟨h,ne⟩
  have nz:∀q,H q=none->q≠l->Hz q=none:=λq h ne=>by rw[eHz,bF ne];exact h
  clear eHz;have q0l:q0≠l:=λz=>by rw[z,nl] at g1;cases g1
  have G0:bI K Hz H2 q0 []:=⟨[],s2 _ _ g1,.nil,λz=>nomatch z⟩;walk_at "w";refine DV (λσ' H'=>aG H H'/\∃Rs R us y,σ'=[some (.ref x),some (.int st),some (.ref l),y]/\H' l=some (.lst us)/\Paired (λR v=>∃q,v=V.ref q/\Hz q=none/\bI K Hz H' q R) (Rs++[R]) us/\BZ mv pt (Rs++[R])/\Rs.length<=st) (λ_ H'=>match H' l with | some (.lst us)=>st+1 - us.length | _=>0) ⟨s02,[],[],_,_,rfl,g2,.cons ⟨q0,rfl,nz q0 nq0 q0l,G0⟩ .nil,⟨by simp,λt R e=>?_,λt R R' e e'=>?_⟩,bo _⟩ ?_
  ·have ht:=(aD.mp e).1;have:t=0:=by simpa using ht
   subst this;cases e;exact ⟨[],GX⟩
  ·have ht:=(aD.mp e').1;simp at ht
  rintro σ' Ha ⟨sa,Rs,R,us,y,rfl,gu,pa,Gw,hst⟩;have lu:=pa.length;rw[av,be] at lu;have eR:(Rs++[R])[Rs.length]?=some R:=by rw[b8 (au _),mC];rfl
  obtain ⟨ps,RR⟩:=Gw.rr _ _ eR;have tn:Rs.length<=mv.length:=by have:=Gw.len _ _ eR;have:=RR.le;have:=RR.1;lia
  have fin:∀(Hx:Hp) (sx:aG Ha Hx) (hh:∀s,(Rs.length=st/\s=st\/Rs.length < st/\Rs.length<=s)->∃ps,bX (kry mv pt s) mv.length R ps),Q (.ref l) Hx:=λHx sx hh=>by
   refine k l (Rs++[R]) Hx nl0 (sa.trans sx) ⟨us,sx _ _ gu,Paired.imp' (λ_ _ ⟨q,e1,e2,e3⟩=>⟨q,e1,(zn q e2).1,(zn q e2).2,bI.weakN (bI.same e3 sx) λq h=>(zn q h).1⟩) pa⟩ Gw (by rw[av,be];lia) λR2 e2 s hs=>?_
   rw[List.getLast?_concat] at e2;cases e2;rw[av,be,Nat.add_sub_cancel] at hs;exact hh s hs
  walk_at "w";refine ⟨_,_,rfl,.inl (bO.of gu),?_⟩;walk_at "w";refine il (λh0=>?_) (λh0=>?_)
  ·have h0:=of_decide_eq_true h0;refine NH ?_
   obtain ⟨zs,gS⟩:∃zs q,us=zs++[V.ref q]/\Hz q=none/\bI K Hz Ha q R:=by
    obtain ⟨v,ev,q,rfl,e2,e3⟩:∃v,us[Rs.length]?=some v/\∃q,v=V.ref q/\Hz q=none/\bI K Hz Ha q R:=by
     have ev:=af (show Rs.length < us.length by lia);obtain ⟨R2,e2,w⟩:=cL pa ev;rw[eR] at e2;cases e2;exact ⟨_,ev,w⟩
    refine ⟨us.take Rs.length,q,?_,e2,e3⟩;rw[<- take_snoc ev,aL (by lia)]
   obtain ⟨q,rfl,zq,Gq⟩:=gS;have gxa:=sa _ _ gx;walk_at "w";refine ⟨x,Z.a_System,dx,_,_,rfl,gxa,T.cl_System,T.na_put,Me,?_⟩;walk_at "w";refine cz (bO.of gu) (BV _ _) ?_;have wR:=RR.2.1;have lR:=RR.1;have pn:=RR.le;walk_at "w";refine ⟨x,q,H0,Hz,mv,pt,lk,R,rfl,S.same sa,D,Gq,by lia,wR,F.fit d8 D.mw D.pw tn RR,λmr Hb nmr sb Gm=>?_⟩;obtain ⟨pv,gpv,qpv,_⟩:=Gb.same (sa.trans sb);obtain ⟨mvs,gmv,qmv,_⟩:=id Gm;have lpv:=qpv.length;have lmv:=qmv.length;rw[ag] at lmv;walk_at "w";refine uh gpv gmv (bg (bN (by lia))) λcr Hc sc nc gc=>?_
   have sab:=sa.trans (sb.trans sc);have Gc':bI K (λ_=>none) Hc cr (pt++R.map (yI mv)):=JR (H:=Hb) (cM (Paired.imp' (λ_ _ ⟨q,e1,e2,e3⟩=>⟨q,e1,rfl,e3⟩) qpv) (Paired.imp' (λ_ _ ⟨q,e1,e2,e3⟩=>⟨q,e1,rfl,e3⟩) qmv)) sc nc gc;walk_at "w";refine ⟨x,Z.a_System,dx,_,_,rfl,sab _ _ gx,T.cl_System,T.na_states,oE,?_⟩;walk_at "w";refine ⟨cr,mv.length,_,_,_,rfl,Gc',by rw[av,ag];lia,by lia,λxs hx=>?_,F.step d8 D.mw D.pw tn RR,λrr R' ps' M' Hd nrr sd G' RR' pm' _ _ _=>?_⟩
   ·rcases ax.mp hx with hx | hx
    ·exact D.pw xs hx
    ·obtain ⟨y,_,rfl⟩:=az.mp hx;exact Bc
   have sbd:=sb.trans (sc.trans sd);have sad:=sa.trans sbd;have K1:=yd rfl D.mw D.pw RR RR';have gud:=sbd _ _ gu;obtain ⟨rv,grv,qrv,_⟩:=id G';have lrv:=qrv.length;have lR':=RR'.1;have pn':=RR'.le;walk_at "w";refine ⟨_,_,rfl,.inl (bO.of grv),?_⟩;walk_at "w";refine cz (bO.of gud) (BV _ _) ?_;obtain ⟨ov,gov,qov,_⟩:=Gq.same sbd;have lov:=qov.length;walk_at "w";refine ⟨_,_,rfl,.inl (bO.of gov),?_⟩;walk_at "w";refine il (λh1=>?_) (λh1=>?_)
   ·have h1:=of_decide_eq_true h1;walk_at "w";refine fin Hd sbd λs hs=>⟨ps,?_⟩
    obtain ⟨s',rfl⟩:∃s',s=Rs.length+s':=⟨s - Rs.length,by lia⟩;exact Dw rfl D.mw D.pw RR RR' (by lia) s'
   ·have h1:¬((rv.length:Int)=ov.length):=λz=>h1 (decide_eq_true z)
    have gr:=FY rfl D.mw D.pw RR K1;have rl:rr≠l:=λz=>by rw[z,(sb.trans sc) _ _ gu] at nrr;cases nrr
    have zc:∀q,Hc q=none->Hz q=none:=λq h=>nz q (sab.none h) (λz=>by rw[z,(sb.trans sc) _ _ gu] at h;cases h)
    walk_at "w";refine ⟨.inl ⟨rfl,_,bO.of gud⟩,?_⟩;walk_at "w";refine kJ gud (bN (by lia)) ?_;refine ⟨⟨sad.after nl0,Rs++[R],R',_,_,rfl,aI,cM (Paired.imp' (λ_ _ ⟨q,e1,e2,e3⟩=>⟨q,e1,e2,bI.updL (bI.same e3 sbd) gud zl (zn q e2).2⟩) pa) (.cons ⟨rr,rfl,zc rr nrr,bI.updL (G'.weakN zc) gud zl rl⟩ .nil),Gw.snoc K1 (by lia),by rw[av,be];lia⟩,?_⟩;simp only[gu,aI,av,be] at lu h0 ⊢
    lia
  ·have h0:¬((us.length:Int)<=st):=λz=>h0 (decide_eq_true z)
   walk_at "w"
   exact fin Ha (aG.refl _) λs hs=>⟨ps,by
    have:s=Rs.length:=by lia
    rw[this];exact RR⟩
theorem Cp:bf ["system","steps"] ["system","steps"] (ay ir):=by walk_at "d"
theorem v7 (T:Txt K mg Z):cJ P w K mg base gE 8 Z.nJ Z.ni ["system","steps"] (CU K Z.a_System):=by
 refine T.nY.ok Cp (λvs H Q E h=>?_) (λcdv A outer s H vs Q E hr h=>?_)
 ·obtain ⟨x,a,c,st,H0,mv,pt,lk,rfl,_⟩:=h;rfl
 ·obtain ⟨x,a,c,st,H0,mv,pt,lk,rfl,s1000,S,D,F,k⟩:=h;refine ⟨_,(aA (aV (aY bW (cN (Bf T) hr T.uy T.qS.kp T.wF (ae (pv 0) (ae (pv 1) aj))) (AW wQ ao)))),?_⟩;refine aP (σ:=[some (.ref x),some (.int st)]) rfl ?_;walk_at "w";refine ⟨x,a,c,st,H0,mv,pt,lk,rfl,s1000,S,D,F,λr Rs H1 nr s1 ⟨us,gu,pa⟩ Gw hl hh=>?_⟩;have lu:=pa.length;obtain ⟨Rs',R,rfl⟩:∃Rs' R,Rs=Rs'++[R]:=⟨Rs.dropLast,Rs.getLast Gw.ne,(List.dropLast_concat_getLast Gw.ne).symm⟩;rw[av,be] at lu hl;have eR:(Rs'++[R])[Rs'.length]?=some R:=by rw[b8 (au _),mC];rfl
  obtain ⟨zs,q,rfl,zq,ql,Gq⟩:∃zs q,us=zs++[V.ref q]/\H q=none/\q≠r/\bI K H H1 q R:=by
   have ev:=af (show Rs'.length < us.length by lia);obtain ⟨R2,e2,q,e3,e4,e5,e6⟩:=cL pa ev;rw[eR] at e2;cases e2;rw[e3] at ev;refine ⟨us.take Rs'.length,q,?_,e4,e5,e6⟩;rw[<- take_snoc ev,aL (by lia)]
  obtain ⟨ps,RR⟩:=hh R (by rw[List.getLast?_concat]) st (by rw[av,be,Nat.add_sub_cancel];lia);walk_at "w";refine cz (bO.of gu) (BV _ _) ?_;exact k q R ps H1 zq s1 Gq RR
theorem Fv:bf ["many","at"] ["many","at"] (ay kC):=by walk_at "d"
theorem FL (T:Txt K mg Z):cJ P w K mg base gE 1 Z.tj Z.sN ["many","at"] (Fg K):=by
 refine T.xp.ok Fv (λvs H Q E h=>?_) (λcdv A outer s H vs Q E hr h=>?_)
 ·obtain ⟨m,a',rfl,_⟩:=h;rfl
 ·obtain ⟨m,a',rfl,hm,k⟩:=h;refine ⟨_,(aA (aV (bZ ["place"] ["at"] [1] (cy rfl T.range (ae (pv 0) aj)) (λ_=>(aK (i:=0) (show List.Nodup (α:=PySem.Str) ["place","at"] by decide +kernel))) (λ_=>cf) (λ_=>(KO (bE fF (pv 0) (pv 1) (bJ _)) (rV (v:=.ref Z.a_ONE) rfl T.mg_ONE rfl) (rV (v:=.ref Z.a_NOUGHT) rfl T.mg_NOUGHT rfl)))))),?_⟩;refine aP (σ:=[some (.int m),some (.int a')]) rfl ?_;walk_at "w";refine ⟨by lia,by lia,?_⟩;refine jO (n:=m) (cg K) (λi=>if ((i:Nat):Int)=a' then 1 else 0) hm (λa b=>a.same b) ?_ ?_
  ·rintro i H' NY NN hi s k1;walk_at "w";refine il (λh0=>?_) (λh0=>?_)
   ·walk_at "w";exact k1 _ _ (aG.refl _) (by rw[if_pos (of_decide_eq_true h0)];exact ⟨_,rfl,T.sq_ONE _⟩)
   ·walk_at "w";exact k1 _ _ (aG.refl _) (by rw[if_neg (λz=>h0 (decide_eq_true z))];exact ⟨_,rfl,T.sq_NOUGHT _⟩)
  ·rintro ys H' l hl s g pr nx;exact k l _ hl s ⟨ys,g,pr⟩
theorem yR:bf ["row"] ["row"] (ay eU):=by walk_at "d"
theorem yZ (T:Txt K mg Z):cJ P w K mg base gE 1 Z.jh Z.je ["row"] (Fp K):=by
 refine T.mW.ok yR (λvs H Q E h=>?_) (λcdv A outer s H vs Q E hr h=>?_)
 ·obtain ⟨p,xs,j,rfl,_⟩:=h;rfl
 ·obtain ⟨p,xs,j,rfl,R,x1000,hj,hne,hz,k⟩:=h;refine ⟨_,(aA (aV (bG (JW rfl) (by rfl) T.min PyProof.Rows.boot_min (ae (bZ ["place","value"] [] [] (IG rfl T.enumerate (ae (pv 0) aj)) (λ_=>(Aa K 2 (cV (aK (i:=0) (show List.Nodup (α:=PySem.Str) ["place","value"] by decide +kernel)) (cV (aK (i:=1) (show List.Nodup (α:=PySem.Str) ["place","value"] by decide +kernel)) lC)))) (λ_=>Hq (bE (IH K (by rfl) (Ge hr)) (pv 1) (rV (v:=.ref Z.a_NOUGHT) rfl T.mg_NOUGHT rfl) (bJ _))) (λ_=>(pv 0))) aj)))),?_⟩;refine aP (σ:=[some (.ref p)]) rfl ?_;obtain ⟨zs,gz,qz⟩:=id R;have lz:=qz.length;walk_at "w";refine ⟨⟨_,bO.of gz⟩,?_⟩;refine JV (K:=K) (xs:=zs) (λi ys H'=>aG H H'/\ys=df (FP xs i)) (bg (bN (by lia))) ⟨aG.refl _,rfl⟩ (λi ys H' _ ⟨s,_⟩=>bO.of (s _ _ gz)) ?_ ?_
  ·rintro i v ys H' r hx hlen ⟨s',rfl⟩ hr;obtain ⟨y,ey,ny⟩:=cL qz hx;have ey':xs.getD i 0=y:=by rw[aa,ey];rfl
   have sr:aG H' (upd H' r (.tup [.int i,v])):=aG.new hr;have gr:(upd H' r (.tup [.int i,v])) r=some (.tup [.int i,v]):=aI;generalize upd H' r (.tup [.int i,v])=H2 at sr gr ⊢;walk_at "w";refine ⟨_,_,Le,y,0,by decide,(ny.same s').same sr,⟨_,rfl,T.sq_NOUGHT _⟩,?_⟩;by_cases e:y=0
   ·rw[decide_eq_true e];walk_at "w";refine ⟨s'.trans sr,?_⟩;rw[Ad,ey',if_neg (by simpa using e)]
   ·rw[decide_eq_false e];walk_at "w";refine ⟨s'.trans sr,?_⟩;rw[Ad,ey',if_pos e];unfold df;rw[cm];rfl
  ·rintro ys H1 hy ⟨s1,rfl⟩ l hl;have sn:aG H1 (upd H1 l (.lst (df (FP xs zs.length)))):=aG.new hl;have gn:(upd H1 l (.lst (df (FP xs zs.length)))) l=some (.lst (df (FP xs zs.length))):=aI;generalize upd H1 l (.lst (df (FP xs zs.length)))=H2 at sn gn ⊢
   have mj:j∈FP xs zs.length:=by
    unfold FP;exact og.mpr ⟨wM.mpr (by lia),by simpa using hne⟩
   walk_at "w";refine ⟨l,ye (FP xs zs.length),rfl,bO.of (by rw[<- Dq];exact gn),?_,λM hM hle=>?_⟩
   ·unfold ye;rw[ag];exact List.length_pos_of_mem mj
   ·obtain ⟨c,hc,rfl⟩:=az.mp hM;have h1:=hle j (az.mpr ⟨j,mj,rfl⟩);have h2:=(og.mp hc).2
    have e:c=j:=by
     rcases dU c j with z | z | z
     ·exact absurd (hz c z) (of_decide_eq_true h2)
     ·exact z
     ·lia
    rw[e];exact k _ (s1.trans sn)
theorem GR:bf ["rows"] ["rows"] (ay ot):=by walk_at "d"
theorem Bg (T:Txt K mg Z):cJ P w K mg base gE 2 Z.vJ Z.vA ["rows"] (Fq K):=by
 refine T.vQ.ok GR (λvs H Q E h=>?_) (λcdv A outer s H vs Q E hr h=>?_)
 ·obtain ⟨p,n,H0,R,ps,rfl,_⟩:=h;rfl
 ·obtain ⟨p,n,H0,R,ps,rfl,G,r100,n100,⟨rows,RR⟩,k⟩:=h;refine ⟨_,(aA (aV (bZ ["row"] [] [] (b9 (pv 0)) (λ_=>(aK (i:=0) (show List.Nodup (α:=PySem.Str) ["row"] by decide +kernel))) (λ_=>cf) (λ_=>(cN (yZ T) hr T.rn T.mW.kp T.tU (ae (pv 0) aj)))))),?_⟩;refine aP (σ:=[some (.ref p)]) rfl ?_;obtain ⟨lR,wR,rr⟩:=id RR;obtain ⟨xs,gx,qx,_⟩:=id G;have lx:=qx.length;walk_at "w";refine ⟨⟨_,bO.of gx⟩,?_⟩;refine eH (K:=K) (xs:=xs) (λi ys H'=>aG H H'/\ys=df (ps.take i)) (bg (bN (by lia))) ⟨aG.refl _,rfl⟩ (λi ys H' _ ⟨s,_⟩=>bO.of (s _ _ gx)) ?_ ?_
  ·rintro i v ys H' hx hlen ⟨s',rfl⟩;obtain ⟨row,er,q,rfl,_,Rr⟩:=cL qx hx;have wr:=wR row (ar er);have hi:i < ps.length:=by have:=(aD.mp er).1;lia
   have ef:∀c,b6 R i c=row.getD c 0:=λc=>by unfold b6;rw[aa (l:=R),er];rfl
   have ep:ps[i]?=some (ps.getD i 0):=by rw[aa,af hi];rfl
   have lowp:=rr.low i hi;have u:=rr.unit i hi i hi;rw[if_pos rfl,ef] at u;walk_at "w";refine ⟨q,row,ps.getD i 0,rfl,Rr.same s',by lia,by lia,by rw[u];decide,λc hc=>by rw[<- ef];exact rr.lead i hi c hc,λH2 s2=>?_⟩;refine ⟨s'.trans s2,?_⟩;unfold df;rw[take_snoc ep,cm];rfl
  ·rintro ys H1 hy ⟨s1,rfl⟩ r hr;refine k r _ (s1.none hr) (s1.trans (aG.new hr)) ?_;rw[aI,aL (by lia)]
theorem Kt:bf ["one","other"] ["one","other"] (ay vo):=by walk_at "d"
theorem KU (T:Txt K mg Z):cJ P w K mg base gE 3 Z.An Z.Aj ["one","other"] (rQ K (λx y=>x - y)):=by
 refine T.EZ.ok Kt (λvs H Q E h=>?_) (λcdv A outer s H vs Q E hr h=>?_)
 ·obtain ⟨p,q,a,b,c,d,rfl,hp,hq,hb,hd,sa,sb,sc,sd,k⟩:=z9 h;rfl
 ·obtain ⟨p,q,a,b,c,d,rfl,hp,hq,hb,hd,sa,sb,sc,sd,k⟩:=z9 h;refine ⟨_,(aA (aV (cN (yY T) hr T.vq T.uU.kp T.yu (ae (bK j4 (bK cS (aY bU (pv 0) ao) (aY bU (pv 1) ao)) (bK cS (aY bU (pv 1) ao) (aY bU (pv 0) ao))) (ae (bK cS (aY bU (pv 0) ao) (aY bU (pv 1) ao)) aj))))),?_⟩;refine aP (σ:=[some (.ref p),some (.ref q)]) rfl ?_;have hbd:0 < b*d:=jd hb hd;have sbd:Sz 8999 (b*d):=(sb.mul sd).mono (by decide);walk_at "w";refine fD (show fL _ _ from .inr ⟨_,_,sa,sd,by decide⟩) ?_;walk_at "w";refine fD (show fL _ _ from .inr ⟨_,_,sc,sb,by decide⟩) ?_;walk_at "w";refine fD (show fL _ _ from .inr ⟨_,_,sb,sd,by decide⟩) ?_;walk_at "w";walk_at "w";refine ⟨_,_,rfl,by lia,sbd,λr H' s' h'=>?_⟩;rw[if_neg (by lia),if_neg (by lia)] at h';exact k r H' s' h'
theorem rS:bf ["rows","wide","at","answer","lead","row"] ["rows","wide","at"] (ay oq):=by walk_at "d"
theorem Hu (T:Txt K mg Z):cJ P w K mg base gE 4 Z.vI Z.vz ["rows","wide","at"] (CY K):=by
 refine T.zw.ok rS (λvs H Q E h=>?_) (λcdv A outer s H vs Q E hr h=>?_)
 ·obtain ⟨p,n,a,H0,R,ps,rfl,_⟩:=h;rfl
 ·obtain ⟨p,n,a,H0,R,ps,rfl,G,r100,n100,⟨rows,RR⟩,ha,hp,hz,k⟩:=h
  refine ⟨_,(aw (br (i:=3) rS.nd rfl (Or.inl rfl) (cN (FL T) hr T.zE T.xp.kp T.BS (ae (pv 1) (ae (pv 2) aj))))
   (aw (ee PassesOwn.never rfl (Ei rfl T.zip (ae (cN (Bg T) hr T.xh T.vQ.kp T.zh (ae (pv 0) aj)) (ae (pv 0) aj))) (w5 rfl (cV (aK (i:=4) rS.nd) (cV (aK (i:=5) rS.nd) lC)))
    (aA (fh (cN (KU T) hr T.FV T.EZ.kp T.Jh (ae (rV (v:=.ref Z.a_NOUGHT) rfl T.mg_NOUGHT rfl) (ae (aY bW (pv 5) (pv 2)) aj))) (ie (pv 3) (pv 4) set_list))))
   (aA (aV (pv 3))))),?_⟩
  refine aP (σ:=[some (.ref p),some (.int n),some (.int a),none,none,none]) rfl ?_;obtain ⟨lR,wR,rr⟩:=id RR;walk_at "w";refine ⟨n,a,rfl,by lia,λan H1 na s1 R1=>?_⟩;rw[<- MW (R:=R) (ps:=ps)] at R1;obtain ⟨vs0,g0,q0⟩:=id R1;walk_at "w";refine ⟨p,n,H0,R,ps,rfl,G.same s1,r100,n100,⟨rows,RR⟩,λle H2 nl s2 g2=>?_⟩;have anl:le≠an:=λz=>by rw[z,g0] at nl;cases nl
  obtain ⟨rs,grs,qrs,_⟩:=id G;have lrs:=qrs.length;have lps:=Bp (ps:=ps);walk_at "w";refine ⟨⟨_,bO.of g2⟩,⟨_,bO.of ((s1.trans s2) _ _ grs)⟩,?_⟩;refine Na (K:=K) (xs:=df ps) (ws:=rs) (λj σ' H'=>aG H H'/\H' le=some (.lst (df ps))/\∃y1 y2 vs,σ'=[some (.ref p),some (.int n),some (.int a),some (.ref an),y1,y2]/\H' an=some (.lst vs)/\Paired (cg K H') (II R ps n a j) vs) (by lia) ⟨s1.trans s2,g2,_,_,vs0,rfl,s2 _ _ g0,Paired.imp' (λ_ _ z=>cg.same z s2) q0⟩ (λj σ' H' _ ⟨e,e2,_⟩=>⟨bO.of e2,bO.of (e _ _ grs)⟩) ?_ ?_
  ·rintro j v1 v2 σ' H' r h1 h2 ⟨s',gl,y1,y2,vs,rfl,ga,qa⟩ hr;obtain ⟨row,er,q,rfl,_,Rr⟩:=cL qrs h2;have mr:=ar er;have wr:=wR row mr;obtain ⟨pj,ej,rfl⟩:=IJ h1;have hj:j < ps.length:=(aD.mp ej).1;have ejD:ps.getD j 0=pj:=by rw[aa,ej];rfl
   have pjn:pj < n:=by have:=rr.low j hj;rw[ejD] at this;exact this
   have fr:b6 R j a=row.getD a 0:=by unfold b6;rw[aa (l:=R),er];rfl
   have sr:aG H' (upd H' r (.tup [.int pj,.ref q])):=aG.new hr;have gr:(upd H' r (.tup [.int pj,.ref q])) r=some (.tup [.int pj,.ref q]):=aI;generalize upd H' r (.tup [.int pj,.ref q])=H3 at sr gr ⊢;have s03:=s'.trans sr;obtain ⟨us,gu,qu⟩:=Rr.same s03;obtain ⟨vx,ex,nx⟩:=E3 qu (j:=a) (by lia);walk_at "w";refine cz (bO.of gu) ex ?_;walk_at "w";refine ⟨_,_,0,row.getD a 0,rfl,⟨_,rfl,T.sq_NOUGHT _⟩,nx,Kj,hz row mr _ (getD_in (by lia)),λr4 H4 s4 n4=>?_⟩;have ga4:=(sr.trans s4) _ _ ga;have gl4:=(sr.trans s4) _ _ gl;have la:=qa.length;rw[qK] at la;walk_at "w";refine eY ga4 (fw (by lia)) rfl ?_;refine ⟨(s03.trans s4).after na,by rw[bF anl];exact gl4,_,_,_,rfl,aI,?_⟩;rw[<- MX RR hj hp,ejD,fr,show -(row.getD a 0)=0 - row.getD a 0 by grind];exact kN (Paired.imp' (λ_ _ z=>(cg.same z (sr.trans s4)).updL ga4) qa) pj (n4.updL ga4)
  ·rintro σ' H' ⟨s',gl,y1,y2,vs,rfl,ga,qa⟩;rw[lps] at qa;walk_at "w";exact k an H' na s' ⟨vs,ga,qa⟩
theorem uc:bf ["rows","wide","leads"] ["rows","wide"] (ay gI):=by walk_at "d"
theorem uw (T:Txt K mg Z):cJ P w K mg base gE 3 Z.lX Z.lG ["rows","wide"] (Fs K):=by
 refine T.mi.ok uc (λvs H Q E h=>?_) (λcdv A outer s H vs Q E hr h=>?_)
 ·obtain ⟨p,n,H0,R,ps,rfl,_⟩:=h;rfl
 ·obtain ⟨p,n,H0,R,ps,rfl,G,r100,n100,RR,k⟩:=h
  refine ⟨_,(aw (br (i:=2) uc.nd rfl (Or.inr rfl) (cN (Bg T) hr T.xh T.vQ.kp T.zh (ae (pv 0) aj)))
   (aA (aV (bZ ["place"] ["leads"] [2] (cy rfl T.range (ae (pv 1) aj)) (λ_=>(aK (i:=0) (show List.Nodup (α:=PySem.Str) ["place","leads"] by decide +kernel))) (λ_=>Hq (bE (Cs K (by rfl)) (pv 0) (pv 1) (by with_unfolding_all rfl))) (λ_=>(pv 0)))))),?_⟩
  refine aP (σ:=[some (.ref p),some (.int n),none]) rfl ?_;walk_at "w";refine ⟨p,n,H0,R,ps,rfl,G,r100,n100,RR,λl H1 nl s1 g1=>?_⟩;walk_at "w";refine ⟨by lia,by lia,?_⟩;refine oS (n:=n) (λi ys H'=>aG H1 H'/\ys=df (gR ps i)) (bg (bN (by lia))) ⟨aG.refl _,rfl⟩ ?_ ?_
  ·rintro i ys H' hi hlen ⟨s',rfl⟩;rw[vV];walk_at "w";refine ⟨l,df ps,rfl,.inl (bO.of (s' _ _ g1)),rfl,JK,?_⟩;rw[Li];by_cases e:i∈ps
   ·rw[decide_eq_true e];walk_at "w";refine ⟨s',?_⟩;rw[BL,if_neg (by simpa using e)]
   ·rw[decide_eq_false e,show (if true=true then !false else false)=true from rfl];walk_at "w";refine ⟨s',?_⟩;rw[BL,if_pos e];unfold df;rw[cm];rfl
  ·rintro ys H2 hy ⟨s2,rfl⟩ r hr;exact k r _ (s1.none (s2.none hr)) ((s1.trans s2).trans (aG.new hr)) aI
theorem Fw:bf ["rows","wide","basis"] ["rows","wide"] (ay vn):=by walk_at "d"
theorem FN (T:Txt K mg Z):cJ P w K mg base gE 6 Z.Am Z.Ai ["rows","wide"] (CW K):=by
 refine T.Ap.ok Fw (λvs H Q E h=>?_) (λcdv A outer s H vs Q E hr h=>?_)
 ·obtain ⟨p,n,w,H0,rows,R,ps,rfl,_⟩:=h;rfl
 ·obtain ⟨p,n,w,H0,rows,R,ps,rfl,G,r100,n100,RR,F,szR,k⟩:=h
  refine ⟨_,(aw (br (i:=2) Fw.nd rfl (Or.inr rfl) (cN (Be T) hr T.xg T.vP.kp T.zg (ae (pv 0) (ae (pv 1) aj))))
   (aA (aV (bZ ["at"] ["basis","wide"] [2,1] (b9 (cN (uw T) hr T.oP T.mi.kp T.qQ (ae (pv 2) (ae (pv 1) aj)))) (λ_=>(aK (i:=0) (show List.Nodup (α:=PySem.Str) ["at","basis","wide"] by decide +kernel))) (λ_=>cf) (λ_=>(cN (Hu T) hr T.Bs T.zw.kp T.DM (ae (pv 1) (ae (pv 2) (ae (pv 0) aj))))))))),?_⟩
  refine aP (σ:=[some (.ref p),some (.int n),none]) rfl ?_;walk_at "w";refine ⟨p,n,w,H0,R,rfl,G,r100,n100,RR.2.1,F,λba R2 ps2 M H1 nb s1 G1 RR2 pm M0 M1 tM=>?_⟩;obtain ⟨rfl,rfl⟩:=RR2.same (xG RR);have pn:=RR.le;have lR:=RR.1;have fl:=HX (ps:=ps2) (i:=n);walk_at "w";refine ⟨ba,n,H,R2,ps2,rfl,G1,by lia,by lia,⟨rows,RR⟩,λfr H2 nf s2 g2=>?_⟩;walk_at "w";refine ⟨⟨_,bO.of g2⟩,?_⟩;refine eH (K:=K) (xs:=df (gR ps2 n)) (λi ys H'=>aG H2 H'/\Paired (cP K H H') ((gR ps2 n).take i |>.map (HH R2 ps2 n)) ys) (bg (bN (by rw[Bp];lia))) ⟨aG.refl _,.nil⟩ (λi ys H' _ ⟨s,_⟩=>bO.of (s _ _ g2)) ?_ ?_
  ·rintro i v ys H' hx hlen ⟨s',pr⟩;obtain ⟨a,ea,rfl⟩:=IJ hx;obtain ⟨an,ap⟩:=sI.mp (ar ea);have s02:=(s1.trans s2).trans s';walk_at "w";refine ⟨ba,n,a,H,R2,ps2,rfl,(G1.same s2).same s',by lia,by lia,⟨rows,RR⟩,an,ap,szR,λr H3 nr s3 R3=>?_⟩;refine ⟨s'.trans s3,?_⟩;rw[take_snoc ea,cm];exact cM (Paired.imp' (λ_ _ z=>cP.same z s3) pr) (.cons ⟨r,rfl,s02.none nr,R3⟩ .nil)
  ·rintro ys H3 hy ⟨s3,pr⟩ r hr;rw[aL (by rw[Bp];exact au _)] at pr;have sn:aG H3 (upd H3 r (.lst ys)):=aG.new hr;have s03:=(s1.trans s2).trans s3;exact k r _ (s03.none hr) (s03.trans sn) ⟨ys,aI,Paired.imp' (λ_ _ z=>cP.same z sn) pr,j6 (H0:=H) (rows:=aH R2 ps2 n) ⟨H3,hr,pr⟩⟩
theorem AL:bf ["grid","wide"] ["grid","wide"] (ay gH):=by walk_at "d"
theorem Bh (T:Txt K mg Z):cJ P w K mg base gE 1 Z.lW Z.lF ["grid","wide"] (Fh K):=by
 refine T.qT.ok AL (λvs H Q E h=>?_) (λcdv A outer s H vs Q E hr h=>?_)
 ·obtain ⟨p,w,H0,rows,rfl,_⟩:=h;rfl
 ·obtain ⟨p,w,H0,rows,rfl,hp,hz,hw,hl,kk⟩:=h;refine ⟨_,(aA (aV (bZ ["place"] ["grid"] [0] (cy rfl T.range (ae (pv 1) aj)) (λ_=>(aK (i:=0) (show List.Nodup (α:=PySem.Str) ["place","grid"] by decide +kernel) rfl (Or.inr rfl) (Or.inl rfl))) (λ_=>cf) (λ_=>(bZ ["line"] ["place"] [0] (AV K (pv 1)) (λ_=>(aK (i:=0) (show List.Nodup (α:=PySem.Str) ["line","place"] by decide +kernel))) (λ_=>cf) (λ_=>(aY (fZ K (by rfl)) (pv 0) (pv 1)))))))),?_⟩;refine aP (σ:=[some (.ref p),some (.int w)]) rfl ?_;walk_at "w";refine ⟨by lia,by lia,?_⟩;refine jO (n:=w) (cP K H) (λj=>rows.map λxs=>xs.getD j 0) hw (λa b=>a.same b) ?_ ?_
  ·rintro j H1 NY NN hj s1 k1;obtain ⟨xs,gx,qx,_⟩:=hp.same s1;walk_at "w";refine ⟨⟨_,bO.of gx⟩,?_⟩;refine cB (K:=K) (F:=cP K H0) (cg K) (λxs=>xs.getD j 0) gx qx hz (λa b=>a.same b) (λa b=>a.same b) ?_ ?_
   ·rintro i ns x H2 NY2 NN2 en s2 ⟨u,rfl,_,zs,gz,qz⟩ k2;obtain ⟨v,ev,hv⟩:=E3 qz (j:=j) (by rw[hl ns (ar en)];exact hj);walk_at "w";refine cz (bO.of gz) ev ?_;exact k2 _ _ (aG.refl _) hv
   ·rintro ys' H2 r hr s2 g pr nx;exact k1 _ _ s2 ⟨r,rfl,s1.none hr,ys',g,pr⟩
  ·rintro ys' H1 r hr s1 g pr nx;exact kk r H1 hr s1 ⟨ys',g,pr,j6 nx⟩
theorem vX:bf ["one","other","wide","columns"] ["one","other","wide"] (ay iw):=by walk_at "d"
theorem Cv (T:Txt K mg Z):cJ P w K mg base gE 6 Z.nL Z.nv ["one","other","wide"] (AI K):=by
 refine T.tI.ok vX (λvs H Q E h=>?_) (λcdv A outer s H vs Q E hr h=>?_)
 ·obtain ⟨p,q,w,H0,H1,one,other,rfl,_⟩:=h;rfl
 ·obtain ⟨p,q,w,H0,H1,one,other,rfl,hp,hq,z1,z2,hw,h1,h2,kk⟩:=h
  refine ⟨_,(aw (br (i:=3) vX.nd rfl (Or.inr rfl) (cN (Bh T) hr T.uG T.qT.kp T.wG (ae (pv 1) (ae (pv 2) aj))))
   (aA (aV (bZ ["line"] ["columns"] [3] (b9 (pv 0)) (λ_=>(aK (i:=0) (show List.Nodup (α:=PySem.Str) ["line","columns"] by decide +kernel))) (λ_=>cf) (λ_=>(cN (Bi T) hr T.xi T.vR.kp T.zj (ae (pv 1) (ae (pv 0) aj)))))))),?_⟩
  refine aP (σ:=[some (.ref p),some (.ref q),some (.int w),none]) rfl ?_;walk_at "w";refine ⟨q,w,H1,other,rfl,hq,z2,hw,h2,λc H2 nc s2 hc=>?_⟩;obtain ⟨xs,gx,qx,_⟩:=hp.same s2;walk_at "w";refine ⟨⟨_,bO.of gx⟩,?_⟩;refine cB (K:=K) (F:=cP K H0) (cP K H) (λxs=>(js other w).map λys=>dh ys xs) gx qx z1 (λa b=>a.same b) (λa b=>a.same b) ?_ ?_
  ·rintro i ns x H3 NY NN en s3 ⟨u,rfl,_,hu⟩ k;obtain ⟨e1,e2⟩:=h1 ns (ar en);walk_at "w";refine ⟨c,u,H,js other w,ns,rfl,hc.same s3,hu,by simp [js];lia,by lia,λys hy=>⟨?_,e2 ys hy⟩,λr H4 nr s4 hr=>k _ _ s4 ⟨r,rfl,s2.none (s3.none nr),hr⟩⟩;obtain ⟨j,_,rfl⟩:=az.mp hy;rw[ag];exact e1.symm
  ·rintro ys' H3 r hr s3 g pr nx;exact kk r H3 (s2.none hr) (s2.trans s3) ⟨ys',g,pr,j6 nx⟩
theorem Co:bf ["system","rows"] ["system","rows"] (ay iq):=by walk_at "d"
theorem Ct (T:Txt K mg Z):cJ P w K mg base gE 7 Z.nI Z.nh ["system","rows"] (Ay K Z.a_System):=by
 refine T.tF.ok Co (λvs H Q E h=>?_) (λcdv A outer s H vs Q E hr h=>?_)
 ·obtain ⟨x,p,H0,H1,mv,pt,lk,N,rfl,_⟩:=h;rfl
 ·obtain ⟨x,p,H0,H1,mv,pt,lk,N,rfl,S,D,GN,n100,hN,k⟩:=h;refine ⟨_,(aA (aV (cN (Cv T) hr T.wd T.tI.kp T.yv (ae (pv 1) (ae (kL (pv 0) rfl) (ae (kL (pv 0) rfl) aj)))))),?_⟩;refine aP (σ:=[some (.ref x),some (.ref p)]) rfl ?_;obtain ⟨dx,am,ap,al,gx,_,_,_,Gm,_,_⟩:=id S;have d1:=D.n8;walk_at "w";refine ⟨x,Z.a_System,dx,_,_,rfl,gx,T.cl_System,T.na_move,Ff,?_⟩;walk_at "w";refine ⟨x,Z.a_System,dx,_,_,rfl,gx,T.cl_System,T.na_states,oE,?_⟩;walk_at "w";exact ⟨p,am,mv.length,H1,H0,N,mv,rfl,GN,Gm,by lia,by lia,by lia,hN,D.mw,k⟩
theorem mY:bf ["system","reach","rows","places"] ["system"] (ay ju):=by walk_at "d"
theorem xM (T:Txt K mg Z):cJ P w K mg base gE 9 Z.pY Z.pB ["system"] (CP K Z.a_System):=by
 refine T.qB.ok mY (λvs H Q E h=>?_) (λcdv A outer s H vs Q E hr h=>?_)
 ·obtain ⟨x,a,c,H0,mv,pt,lk,rfl,_⟩:=h;rfl
 ·obtain ⟨x,a,c,H0,mv,pt,lk,rfl,S,D,KF,k⟩:=h
  refine ⟨_,(aw (br (i:=1) mY.nd rfl (Or.inl rfl) (cN (v7 T) hr T.qM T.nY.kp T.sX (ae (pv 0) (ae (kL (pv 0) rfl) aj))))
   (aw (br (i:=2) mY.nd rfl (Or.inl rfl) (cN (FN T) hr T.Br T.Ap.kp T.EN (ae (pv 1) (ae (kL (pv 0) rfl) aj))))
   (aw (br (i:=3) mY.nd rfl (Or.inr rfl) (cN (uw T) hr T.oP T.mi.kp T.qQ (ae (pv 1) (ae (kL (pv 0) rfl) aj))))
   (aA (aV (cY (ae (pv 2) (ae (bZ ["row"] ["places"] [3] (b9 (cN (Ct T) hr T.wa T.tF.kp T.yr (ae (pv 0) (ae (pv 2) aj)))) (λ_=>(aK (i:=0) (show List.Nodup (α:=PySem.Str) ["row","places"] by decide +kernel) rfl (Or.inr rfl) (Or.inl rfl))) (λ_=>cf) (λ_=>(bZ ["place"] ["row"] [0] (AV K (pv 1)) (λ_=>(aK (i:=0) (show List.Nodup (α:=PySem.Str) ["place","row"] by decide +kernel))) (λ_=>cf) (λ_=>(aY (fZ K (by rfl)) (pv 1) (pv 0)))))) aj)))))))),?_⟩
  refine aP (σ:=[some (.ref x),none,none,none]) rfl ?_;obtain ⟨dx,am,ap,al,gx,_,_,_,Gm,_,_⟩:=id S;have d1:=D.n8;walk_at "w";refine ⟨x,Z.a_System,dx,_,_,rfl,gx,T.cl_System,T.na_states,oE,?_⟩;walk_at "w";refine ⟨x,a,c,mv.length,H0,mv,pt,lk,rfl,by lia,S,D,KF,λrr R ps H1 nr s1 G1 RR=>?_⟩;obtain ⟨Mq,q0,q1,tR⟩:=KF.tp d1 D.mw D.pw (au _) RR;obtain ⟨Mk,Vk,k0,ka,kc,gm,gp,a4,c4,k17,k89⟩:=id KF;have e17:(2:Nat)^(mv.length*(mv.length*(a+c)+4))<=2^1740:=ak (by decide) k17;have pn:=RR.le;have lR:=RR.1
  have SR:Ig R mv.length (mv.length*(mv.length*(a+c)+4)):=Km q0 (ai q1 (ak (by decide) (by lia))) (by lia) tR (m:=mv.length) (by lia) (by lia) (by
   refine ai (bx _ ?_) k89
   lia)
  have szR:∀xs∈R,∀x∈xs,mV x:=λxs hx x hx'=>wW (tR xs hx x hx') q0 (ai q1 (ai e17 (ak (by decide) (by decide)))) (ai e17 (ak (by decide) (by decide)))
  have gx1:=s1 _ _ gx;walk_at "w";refine ⟨x,Z.a_System,dx,_,_,rfl,gx1,T.cl_System,T.na_states,oE,?_⟩;walk_at "w";refine ⟨rr,mv.length,_,H,_,R,ps,rfl,G1,by lia,by lia,RR,SR,szR,λnn H2 nn0 s2 G2=>?_⟩;have s12:=s1.trans s2;have gx2:=s12 _ _ gx
  have lN:(aH R ps mv.length).length<=mv.length:=by
   have e:(aH R ps mv.length).length=(gR ps mv.length).length:=ag ..;rw[e];exact HX
  have fl:=HX (ps:=ps) (i:=mv.length);walk_at "w";refine ⟨x,Z.a_System,dx,_,_,rfl,gx2,T.cl_System,T.na_states,oE,?_⟩;walk_at "w";refine ⟨rr,mv.length,H,R,ps,rfl,G1.same s2,by lia,by lia,⟨_,RR⟩,λfr H3 nf s3 g3=>?_⟩;have s13:=s12.trans s3;walk_at "w";refine ⟨x,nn,H0,H1,mv,pt,lk,aH R ps mv.length,rfl,S.same s13,D,G2.same s3,by lia,λxs hx=>⟨m6 xs hx,λys hy=>?_⟩,λtk H4 nt s4 G4=>?_⟩
  ·obtain ⟨b,h1,h2,rfl⟩:=rj hx;refine ⟨400,40,1740,1740,⟨Mk,Vk,k0,ai ka (ak (by decide) a4),?_,λy hy'=>Im gm ys hy y hy'⟩,⟨Mq,2^1740,q0,ai q1 e17,au _,λy hy'=>((NK q0 q1 tR RR y hy').mono e17).fr q0⟩,by decide⟩;exact ai (ai (cH _ (by lia)) kc) (ak (by decide) c4)
  have s14:=s13.trans s4;obtain ⟨ts,gt,qt,_⟩:=id G4;have lt:=qt.length;have lT:(dJ (aH R ps mv.length) mv mv.length).length=(aH R ps mv.length).length:=ag ..
  have wT:∀xs∈dJ (aH R ps mv.length) mv mv.length,xs.length=mv.length:=λxs hx=>by
   obtain ⟨z,_,rfl⟩:=az.mp hx;rw[ag,vh]
  have g4f:=s4 _ _ g3;walk_at "w";refine ⟨⟨_,bO.of gt⟩,?_⟩;refine cB (K:=K) (as:=dJ (aH R ps mv.length) mv mv.length) (F:=cP K H3) (cP K H2) (λrow=>(gR ps mv.length).map λpl=>row.getD pl 0) gt qt (by lia) (λa b=>a.same b) (λa b=>a.same b) ?_ ?_
  ·rintro i row v H5 NY NN er s5 ⟨u,rfl,_,Ru⟩ k1;have lr:=wT row (ar er);have g5f:=s5 _ _ g4f;walk_at "w";refine ⟨⟨_,bO.of g5f⟩,?_⟩;refine cB (K:=K) (as:=gR ps mv.length) (F:=λ_ j x=>x=V.int ((j:Nat):Int)) (cg K) (λpl=>row.getD pl 0) g5f zC (by lia) (λh _=>h) (λh s=>h.same s) ?_ ?_
   ·rintro j pl w H6 NY6 NN6 ej s6 rfl k6;have hp:=(sI.mp (ar ej)).1;obtain ⟨zs,gz,qz⟩:=Ru.same s6;obtain ⟨vx,ex,nx⟩:=E3 qz (j:=pl) (by lia);walk_at "w";refine cz (bO.of gz) ex ?_;exact k6 _ _ (aG.refl _) nx
   rintro ys6 H6 l6 hl6 s6 g6 pr6 _;exact k1 _ _ s6 ⟨l6,rfl,(s3.trans s4).none (s5.none hl6),⟨ys6,g6,pr6⟩⟩
  rintro ys5 H5 q5 n5 s5 g5 pr5 nx5;have GU:bI K H2 H5 q5 (mX mv R ps):=⟨ys5,g5,pr5,j6 nx5⟩;walk_at "w";refine cv λt6 H6 s6 g6=>?_
  exact k t6 nn q5 R ps H2 H6 g6 s12 (((s3.trans s4).trans s5).trans s6) (s1.none nn0) (G2.weak s1) ((s3.trans s4).none n5) (GU.same s6) RR
theorem o3:bf ["_law_thing","_law_part"] ["_law_thing"] (ay eG):=by walk_at "d"
theorem xS (T:Txt K mg Z):cJ P w K mg base gE 2 Z.iU Z.iN ["_law_thing"] (Ju K):=by
 refine T.kZ.ok o3 (λvs H Q E h=>?_) (λcdv A outer s H vs Q E hr h=>?_)
 ·obtain ⟨x,n,rfl,_⟩:=h;rfl
 ·obtain ⟨x,n,rfl,⟨p,rfl,hp⟩,hn,k⟩:=h
  refine ⟨_,(aw (cQ (PW.pt (oI (jm (fE (o6 rfl T.isinstance PyProof.Rows.boot_tuple T.tuple (pv 0)))) (jX (bE uo (bG aT (by rfl) T.len aO (ae (pv 0) aj)) ao (bJ _))))) (aA (aV oJ)) bS)
   (aw (ee PassesOwn.never rfl (KL (pv 0)) (aK (i:=1) o3.nd)
    (aA (cQ (PW.pt (oI (jm (fE (o6 rfl T.isinstance PyProof.Rows.boot_int T.int (pv 1)))) (jX (fE (o6 rfl T.isinstance PyProof.Rows.boot_bool T.bool (pv 1)))))) (aA (aV oJ)) bS)))
   (aA (aV (Ek (lD xK (aY bU (pv 0) ao) ao (bJ _)) (Ej (lD (KQ (Ge hr)) (cN (fK T) hr T.eZ T.fo.kp T.fW (ae (aY bU (pv 0) ao) (ae (aY bU (pv 0) ao) aj))) (pv 0) (bJ _)))))))),?_⟩
  refine aP (σ:=[some (.ref p),none]) rfl ?_;obtain ⟨hb,hg,_,hs⟩:=hn;walk_at "w";refine .inr ⟨p,_,_,rfl,hp,rfl,?_⟩;walk_at "w";refine ⟨_,_,rfl,.inr hp,?_⟩;walk_at "w"
  try refine Lf ?_
  walk_at "w";refine ⟨⟨_,hp⟩,?_⟩;refine EG (K:=K) (a:=p) (xs:=[.int n.1,.int n.2]) (λi σ' H'=>H'=H/\∃x,σ'=[some (.ref p),x]) ⟨rfl,none,rfl⟩ (λi σ' H' _ ⟨e,_⟩=>by subst e;exact hp) ?_ ?_
  ·rintro i x σ' H' hx ⟨rfl,y,rfl⟩
   obtain ⟨z,rfl⟩:∃z,x=V.int z:=by
    have hm:x∈[V.int n.1,V.int n.2]:=ar hx;simp only[aE,aM,or_false] at hm;rcases hm with e | e
    ·exact ⟨_,e⟩
    ·exact ⟨_,e⟩
   walk_at "w";refine .inl ⟨_,_,.int z,rfl,?_⟩;walk_at "w";refine .inl ⟨_,_,.int z,rfl,?_⟩;walk_at "w";exact ⟨rfl,_,rfl⟩
  ·rintro σ' H' ⟨rfl,x,rfl⟩;walk_at "w";rw[decide_eq_true hb];walk_at "w";refine ⟨n.1,n.2,rfl,hb,hs.mono (by decide),λr H' s1 h'=>?_⟩;obtain ⟨e1,e2⟩:=OU hb hg;walk_at "w";refine ⟨_,_,Qu,(lo n.1 n.2,hi n.1 n.2),n,by decide,⟨r,rfl,kj.of h'⟩,⟨p,rfl,s1.sqt hp⟩,?_⟩;rw[e1,e2,decide_eq_true rfl];exact k _ s1
theorem AM:bf ["_law_thing","_law_many"] ["_law_thing","_law_many"] (ay gM):=by walk_at "d"
theorem Bn (T:Txt K mg Z):cJ P w K mg base gE 3 Z.md Z.lK ["_law_thing","_law_many"] (yP K):=by
 refine T.qW.ok AM (λvs H Q E h=>?_) (λcdv A outer s H vs Q E hr h=>?_)
 ·obtain ⟨p,ns,rfl,_⟩:=h;rfl
 ·obtain ⟨p,ns,rfl,hp,hl,hn,k⟩:=h
  refine ⟨_,(aw (cQ (PW.pt (oI (jm (fE (ui rfl T.isinstance PyProof.Rows.boot_list T.list (pv 0)))) (jX (bE uo (bG aT (by rfl) T.len aO (ae (pv 0) aj)) (pv 1) (bJ _))))) (aA (aV oJ)) bS)
   (aA (aV (bG (BQ rfl) (by rfl) T.all PyProof.Rows.boot_all (ae (bZ ["_law_one"] [] [] (b9 (pv 0)) (λ_=>(aK (i:=0) (show List.Nodup (α:=PySem.Str) ["_law_one"] by decide +kernel))) (λ_=>cf) (λ_=>(cN (xS T) hr T.ph T.kZ.kp T.rG (ae (pv 0) aj)))) aj))))),?_⟩
  refine aP (σ:=[some (.ref p),some (.int ns.length)]) rfl ?_;obtain ⟨xs,gx,qx⟩:=id hp;have lx:=qx.length;walk_at "w";refine ⟨_,_,.lst gx,rfl,?_⟩;walk_at "w";refine ⟨_,_,rfl,.inl (bO.of gx),?_⟩;walk_at "w";rw[show ((xs.length:Nat):Int)=(ns.length:Nat) by rw[lx],decide_eq_true rfl];walk_at "w";refine ⟨⟨_,bO.of gx⟩,?_⟩;refine eH (K:=K) (xs:=xs) (λi ys H'=>aG H H'/\ys=List.replicate i (.bl true)) (bg (bN (by lia))) ⟨aG.refl _,rfl⟩ (λi ys H' _ ⟨s,_⟩=>bO.of (s _ _ gx)) ?_ ?_
  ·rintro i x ys H' hx hlen ⟨s,rfl⟩;obtain ⟨n,en,z⟩:=cL qx hx;walk_at "w";exact ⟨x,n,rfl,s.num z,hn n (ar en),λH2 s2=>⟨s.trans s2,by rw[DS]⟩⟩
  ·rintro ys H' hy ⟨s,rfl⟩ l hl';walk_at "w";refine ⟨l,List.replicate xs.length true,rfl,bO.of (by rw[aI];simp),?_⟩;have e4:(List.replicate xs.length true).all id=true:=by simp
   rw[e4];exact k _ (s.trans (aG.new hl'))
theorem zX:bf ["_law_thing","_law_many","_law_wide"] ["_law_thing","_law_many","_law_wide"] (ay fB):=by walk_at "d"
theorem tT (T:Txt K mg Z):cJ P w K mg base gE 4 Z.kh Z.ke ["_law_thing","_law_many","_law_wide"] (AH K):=by
 refine T.kv.ok zX (λvs H Q E h=>?_) (λcdv A outer s H vs Q E hr h=>?_)
 ·obtain ⟨p,rows,m,rfl,_⟩:=h;rfl
 ·obtain ⟨p,rows,m,rfl,hp,hl,hm,hn,k⟩:=h
  refine ⟨_,(aw (cQ (PW.pt (oI (jm (fE (ui rfl T.isinstance PyProof.Rows.boot_list T.list (pv 0)))) (jX (bE uo (bG aT (by rfl) T.len aO (ae (pv 0) aj)) (pv 1) (bJ _))))) (aA (aV oJ)) bS)
   (aA (aV (bG (BQ rfl) (by rfl) T.all PyProof.Rows.boot_all (ae (bZ ["_law_row_here"] ["_law_wide"] [2] (b9 (pv 0)) (λ_=>(aK (i:=0) (show List.Nodup (α:=PySem.Str) ["_law_row_here","_law_wide"] by decide +kernel))) (λ_=>cf) (λ_=>(cN (Bn T) hr T.uJ T.qW.kp T.wJ (ae (pv 0) (ae (pv 1) aj))))) aj))))),?_⟩
  refine aP (σ:=[some (.ref p),some (.int rows.length),some (.int m)]) rfl ?_;obtain ⟨xs,gx,qx⟩:=id hp;have lx:=qx.length;walk_at "w";refine ⟨_,_,.lst gx,rfl,?_⟩;walk_at "w";refine ⟨_,_,rfl,.inl (bO.of gx),?_⟩;walk_at "w";rw[show ((xs.length:Nat):Int)=(rows.length:Nat) by rw[lx],decide_eq_true rfl];walk_at "w";refine ⟨⟨_,bO.of gx⟩,?_⟩;refine eH (K:=K) (xs:=xs) (λi ys H'=>aG H H'/\ys=List.replicate i (.bl true)) (bg (bN (by lia))) ⟨aG.refl _,rfl⟩ (λi ys H' _ ⟨s,_⟩=>bO.of (s _ _ gx)) ?_ ?_
  ·rintro i x ys H' hx hlen ⟨s,rfl⟩;obtain ⟨ns,en,q,rfl,z⟩:=cL qx hx;obtain ⟨e1,e2⟩:=hn ns (ar en);walk_at "w";exact ⟨q,ns,by rw[e1],z.same s,by lia,e2,λH2 s2=>⟨s.trans s2,by rw[DS]⟩⟩
  ·rintro ys H' hy ⟨s,rfl⟩ l hl';walk_at "w";refine ⟨l,List.replicate xs.length true,rfl,bO.of (by rw[aI];simp),?_⟩;have e4:(List.replicate xs.length true).all id=true:=by simp
   rw[e4];exact k _ (s.trans (aG.new hl'))
theorem xC:bf ["_law_rows","_law_weights","_law_n"] ["_law_rows","_law_weights","_law_n"] (ay eF):=by walk_at "d"
theorem xP (T:Txt K mg Z):cJ P w K mg base gE 5 Z.iT Z.iM ["_law_rows","_law_weights","_law_n"] (CO K):=by
 refine T.kY.ok xC (λvs H Q E h=>?_) (λcdv A outer s H vs Q E hr h=>?_)
 ·obtain ⟨p,q,n,H0,H1,N,U,rfl,_⟩:=h;rfl
 ·obtain ⟨p,q,n,H0,H1,N,U,rfl,GN,GU,lN,n100,lU,hN,hU,k⟩:=h
  refine ⟨_,(aw (cQ (PW.pt (oI (jm (fE (ui rfl T.isinstance PyProof.Rows.boot_list T.list (pv 0)))) (jX (jm (fE (ui rfl T.isinstance PyProof.Rows.boot_list T.list (pv 1))))))) (aA (aV oJ)) bS)
   (aA (aV (Ek (cN (tT T) hr T.mU T.kv.kp T.oU (ae (pv 0) (ae (bG aT (by rfl) T.len aO (ae (pv 0) aj)) (ae (pv 2) aj)))) (Ej (cN (tT T) hr T.mU T.kv.kp T.oU (ae (pv 1) (ae (bG aT (by rfl) T.len aO (ae (pv 0) aj)) (ae (bG aT (by rfl) T.len aO (ae (pv 0) aj)) aj))))))))),?_⟩
  refine aP (σ:=[some (.ref p),some (.ref q),some (.int n)]) rfl ?_;obtain ⟨us,gu,qu,_⟩:=id GN;obtain ⟨ws,gw,qw,_⟩:=id GU;have lu:=qu.length;have lw:=qw.length;walk_at "w";refine ⟨_,_,.lst gu,rfl,?_⟩;walk_at "w";refine ⟨_,_,.lst gw,rfl,?_⟩;walk_at "w";refine ⟨_,_,rfl,.inl (bO.of gu),?_⟩;rw[<- lu];walk_at "w";refine ⟨p,_,n,by rw[ag],GN.gridK,by rw[ag];lia,by lia,λns hn=>?_,λH2 s2=>?_⟩
  ·obtain ⟨xs,hx,rfl⟩:=az.mp hn;refine ⟨by rw[ag];exact (hN xs hx).1,λz hz=>?_⟩;obtain ⟨y,hy,rfl⟩:=az.mp hz;exact Kk ((hN xs hx).2 y hy)
  walk_at "w";refine ⟨_,_,rfl,.inl (bO.of (s2 _ _ gu)),?_⟩;rw[<- lu];walk_at "w";refine ⟨_,_,rfl,.inl (bO.of (s2 _ _ gu)),?_⟩;rw[<- lu];walk_at "w";refine ⟨q,_,N.length,by rw[ag,lU],(GU.same s2).gridK,by rw[ag];lia,by lia,λns hn=>?_,λH3 s3=>?_⟩
  ·obtain ⟨xs,hx,rfl⟩:=az.mp hn;refine ⟨by rw[ag];exact (hU xs hx).1,λz hz=>?_⟩;obtain ⟨y,hy,rfl⟩:=az.mp hz;exact Kk ((hU xs hx).2 y hy)
  exact k _ (s2.trans s3)
theorem Eb:bf ["_law_one","_law_other"] ["_law_one","_law_other"] (ay jy):=by walk_at "d"
theorem En (T:Txt K mg Z):cJ P w K mg base gE 2 Z.p5 Z.pG ["_law_one","_law_other"] (AA K):=by
 refine T.uW.ok Eb (λvs H Q E h=>?_) (λcdv A outer s H vs Q E hr h=>?_)
 ·obtain ⟨p,q,a,b,c,d,rfl,hp,hq,hb,hd,hc,sa,sb,sc,sd,k⟩:=FI h;rfl
 ·obtain ⟨p,q,a,b,c,d,rfl,hp,hq,hb,hd,hc,sa,sb,sc,sd,k⟩:=FI h
  refine ⟨_,(aw (cQ (bE uq (aY bU (pv 1) ao) ao (bJ _)) (aA (aV (cN (fK T) hr T.eZ T.fo.kp T.fW (ae (bK j4 ao (bK cS (aY bU (pv 0) ao) (aY bU (pv 1) ao))) (ae (bK j4 ao (bK cS (aY bU (pv 0) ao) (aY bU (pv 1) ao))) aj))))) bS)
   (aA (aV (cN (fK T) hr T.eZ T.fo.kp T.fW (ae (bK cS (aY bU (pv 0) ao) (aY bU (pv 1) ao)) (ae (bK cS (aY bU (pv 0) ao) (aY bU (pv 1) ao)) aj)))))),?_⟩
  refine aP (σ:=[some (.ref p),some (.ref q)]) rfl ?_;have sbc:Sz 8999 (b*c):=(sb.mul sc).mono (by decide);walk_at "w";refine il (λh=>?_) (λh=>?_)
  ·have h0:c < 0:=of_decide_eq_true h;have hbc:b*c < 0:=xv hb h0;walk_at "w";refine fD (show fL _ _ from .inr ⟨_,_,sa,sd,by decide⟩) ?_;walk_at "w";refine fD (show fL _ _ from .inr ⟨_,_,sb,sc,by decide⟩) ?_;walk_at "w";refine ⟨_,_,rfl,by lia,by rw[Int.zero_sub];exact sbc.neg,λr H' s' h'=>?_⟩;exact k r H' s' (by rw[if_pos h0,if_pos h0];exact h')
  ·have h0:¬c < 0:=λz=>h (decide_eq_true z)
   have hbc:0 < b*c:=jd hb (by lia);walk_at "w";refine fD (show fL _ _ from .inr ⟨_,_,sa,sd,by decide⟩) ?_;walk_at "w";refine fD (show fL _ _ from .inr ⟨_,_,sb,sc,by decide⟩) ?_;walk_at "w";refine ⟨_,_,rfl,hbc,sbc,λr H' s' h'=>?_⟩;exact k r H' s' (by rw[if_neg h0,if_neg h0];exact h')
theorem Eh:bf ["_law_one","_law_other"] ["_law_one","_law_other"] (ay jG):=by walk_at "d"
theorem Et (T:Txt K mg Z):cJ P w K mg base gE 2 Z.qo Z.pO ["_law_one","_law_other"] (rQ K (λx y=>x - y)):=by
 refine T.vd.ok Eh (λvs H Q E h=>?_) (λcdv A outer s H vs Q E hr h=>?_)
 ·obtain ⟨p,q,a,b,c,d,rfl,hp,hq,hb,hd,sa,sb,sc,sd,k⟩:=z9 h;rfl
 ·obtain ⟨p,q,a,b,c,d,rfl,hp,hq,hb,hd,sa,sb,sc,sd,k⟩:=z9 h;refine ⟨_,(aA (aV (cN (fK T) hr T.eZ T.fo.kp T.fW (ae (bK j4 (bK cS (aY bU (pv 0) ao) (aY bU (pv 1) ao)) (bK cS (aY bU (pv 1) ao) (aY bU (pv 0) ao))) (ae (bK cS (aY bU (pv 0) ao) (aY bU (pv 1) ao)) aj))))),?_⟩;refine aP (σ:=[some (.ref p),some (.ref q)]) rfl ?_;have hbd:0 < b*d:=jd hb hd;have sbd:Sz 8999 (b*d):=(sb.mul sd).mono (by decide);walk_at "w";refine fD (show fL _ _ from .inr ⟨_,_,sa,sd,by decide⟩) ?_;walk_at "w";refine fD (show fL _ _ from .inr ⟨_,_,sc,sb,by decide⟩) ?_;walk_at "w";refine fD (show fL _ _ from .inr ⟨_,_,sb,sd,by decide⟩) ?_;walk_at "w";walk_at "w";refine ⟨_,_,rfl,hbd,sbd,k⟩
theorem Cr:bf ["_law_one","_law_other"] ["_law_one","_law_other"] (ay iH):=by walk_at "d"
theorem v9 (T:Txt K mg Z):cJ P w K mg base gE 3 Z.nU Z.nG ["_law_one","_law_other"] (Dd K):=by
 refine T.oa.ok Cr (λvs H Q E h=>?_) (λcdv A outer s H vs Q E hr h=>?_)
 ·obtain ⟨p,q,xs,ys,rfl,_⟩:=h;rfl
 ·obtain ⟨p,q,xs,ys,rfl,hp,hq,hl,hz,h1,h2,kk⟩:=h;refine ⟨_,(aA (aV (bZ ["_law_k"] ["_law_one","_law_other"] [0,1] (cy rfl T.range (ae (bG aT (by rfl) T.len aO (ae (pv 0) aj)) aj)) (λ_=>(aK (i:=0) (show List.Nodup (α:=PySem.Str) ["_law_k","_law_one","_law_other"] by decide +kernel))) (λ_=>cf) (λ_=>(cN (Et T) hr T.xZ T.vd.kp T.zO (ae (aY (fZ K (by rfl)) (pv 1) (pv 0)) (ae (aY (fZ K (by rfl)) (pv 2) (pv 0)) aj))))))),?_⟩;refine aP (σ:=[some (.ref p),some (.ref q)]) rfl ?_;obtain ⟨us,gu,qu⟩:=id hp;obtain ⟨ws,gw,qw⟩:=id hq;have lu:=qu.length;walk_at "w";refine ⟨_,_,rfl,.inl (bO.of gu),?_⟩;walk_at "w";refine ⟨by lia,by lia,?_⟩;refine jO (n:=us.length) (cg K) (λi=>xs.getD i 0 - ys.getD i 0) (by lia) (λa b=>a.same b) ?_ ?_
  ·rintro i H' NY NN hi s k1;have ix:i < xs.length:=by lia
   have iy:i < ys.length:=by lia
   obtain ⟨vx,ex,nx⟩:=E3 (Paired.imp' (λ_ _ z=>z.same s) qu) ix;obtain ⟨vy,ey,ny⟩:=E3 (Paired.imp' (λ_ _ z=>z.same s) qw) iy;walk_at "w";refine cz (bO.of (s _ _ gu)) ex ?_;walk_at "w";refine cz (bO.of (s _ _ gw)) ey ?_;walk_at "w";exact ⟨_,_,_,_,rfl,nx,ny,h1 _ (getD_mem ix),h2 _ (getD_mem iy),λr3 H3 s3 n3=>k1 _ _ s3 n3⟩
  ·rintro ys' H' l hl' s g pr nx;exact kk l H' hl' s ⟨ys',g,by rw[GI (by lia)];rw[<- lu] at pr;exact pr⟩
theorem d9:bf ["_law_rows","_law_wide","_law_left","_law_found","_law_place","_law_heads","_law_head"] ["_law_rows","_law_wide"] (ay jH):=by walk_at "d"
theorem xR (T:Txt K mg Z):cJ P w K mg base gE 4 Z.qv Z.pP ["_law_rows","_law_wide"] (AE K):=by
 refine T.qD.ok d9 (λvs H Q E h=>?_) (λcdv A outer s H vs Q E hr h=>?_)
 ·obtain ⟨p,n,S,H0,rows,rfl,_⟩:=h;rfl
 ·obtain ⟨p,n,S,H0,rows,rfl,G,r100,n100,hw,⟨e39,J,j0,jskip,jlean,jlw,jsz⟩,k⟩:=h
  refine ⟨_,(aw (br (i:=2) d9.nd rfl (Or.inr rfl) (bZ ["_law_row_here"] [] [] (b9 (pv 0)) (λ_=>(aK (i:=0) (show List.Nodup (α:=PySem.Str) ["_law_row_here"] by decide +kernel))) (λ_=>cf) (λ_=>(eX (i8 K (by rfl)) (by rfl) T.list PyProof.Rows.boot_list (ae (pv 0) aj)))))
   (aw (br (i:=3) d9.nd rfl (Or.inl rfl) (eS aj))
   (aw (ee PassesOwn.never rfl (cy rfl T.range (ae (pv 1) aj)) (aK (i:=4) d9.nd rfl (Or.inr rfl) (Or.inl rfl))
    (aw (lB 5 ["_law_k"] ["_law_left","_law_place"] [2,4] d9.nd rfl rfl (cy rfl T.range (ae (bG aT (by rfl) T.len aO (ae (pv 2) aj)) aj)) (λ_=>(aK (i:=0) (show List.Nodup (α:=PySem.Str) ["_law_k","_law_left","_law_place"] by decide +kernel))) (λ_=>Hq (bE (IH K (by rfl) (Ge hr)) (aY (fZ K (by rfl)) (aY (fZ K (by rfl)) (pv 1) (pv 0)) (pv 2)) (cY (ae ao (ae ao aj))) (bJ _))) (λ_=>(pv 0)))
   (aA (cQ (bE (A0 (Ge hr)) (pv 5) (eS aj) (bJ _)) (aw (br (i:=6) d9.nd rfl (Or.inr rfl) (AX dE PySem.F.slot_list_pop PySem.F.type_list_pop K4 (pv 2) (ae (aY bW (pv 5) ao) aj)))
   (aw (br (i:=6) d9.nd rfl (Or.inr rfl) (cN (oO T) hr T.kQ T.lg.kp T.oA (ae (cN (En T) hr T.xU T.uW.kp T.zJ (ae (cY (ae ao (ae ao aj))) (ae (aY bW (pv 6) (pv 4)) aj))) (ae (pv 6) aj))))
   (aw (br (i:=2) d9.nd rfl (Or.inr rfl) (bZ ["_law_row_here"] ["_law_place","_law_head"] [4,6] (b9 (pv 2)) (λ_=>(aK (i:=0) (show List.Nodup (α:=PySem.Str) ["_law_row_here","_law_place","_law_head"] by decide +kernel))) (λ_=>cf) (λ_=>(cN (v9 T) hr T.qP T.oa.kp T.td (ae (pv 0) (ae (cN (oO T) hr T.kQ T.lg.kp T.oA (ae (aY (fZ K (by rfl)) (pv 0) (pv 1)) (ae (pv 2) aj))) aj))))))
   (aw (lB 3 ["_law_row_here"] ["_law_place","_law_head"] [4,6] d9.nd rfl rfl (b9 (pv 3)) (λ_=>(aK (i:=0) (show List.Nodup (α:=PySem.Str) ["_law_row_here","_law_place","_law_head"] by decide +kernel))) (λ_=>cf) (λ_=>(cN (v9 T) hr T.qP T.oa.kp T.td (ae (pv 0) (ae (cN (oO T) hr T.kQ T.lg.kp T.oA (ae (aY (fZ K (by rfl)) (pv 0) (pv 1)) (ae (pv 2) aj))) aj)))))
   (aA (jY (AX dE eO eN oz (pv 3) (ae (pv 6) aj)))))))) bS))))
   (aA (aV (pv 3)))))),?_⟩
  refine aP (σ:=[some (.ref p),some (.int n),none,none,none,none,none]) rfl ?_;obtain ⟨xs,gx,qx,_⟩:=id G;have szT:∀{D:Nat} {x:Rat},0 < D->D<=2^S->Tp D (2^S) x->mV x:=λh0 h1 t=>wW t h0 (ai h1 (ak (by decide) (by lia))) (ak (by decide) (by lia))
  have szP:∀{D D':Nat} {x y:Rat},0 < D->0 < D'->D<=2^S->D'<=2^S->Tp D (2^S) x->Tp D' (2^S) y->mV (x*y):=λh0 h0' h1 h1' t t'=>wW (t.mul t') (cp h0 h0') (ai (aN h1 h1') (by rw[<- bC];exact ak (by decide) (by lia))) (by rw[<- bC];exact ak (by decide) (by lia))
  walk_at "w";refine ⟨⟨_,bO.of gx⟩,?_⟩;refine cB (K:=K) (F:=cP K H0) (cP K H) id gx qx (by lia) (λa b=>a.same b) (λa b=>a.same b) ?_ ?_
  ·rintro i ns x H' NY NN en s ⟨u,rfl,_,zs,gz,qz⟩ k1;walk_at "w";refine ⟨u,zs,rfl,.inl (bO.of gz),λl1 hl1=>?_⟩;exact k1 _ _ (aG.new hl1) ⟨l1,rfl,s.none hl1,zs,aI,Paired.imp' (λ_ _ z=>z.same (aG.new hl1)) qz⟩
  rintro ys1 H1 L hL s1 g1 pr1 nx1;rw[jc] at pr1 nx1;have GL1:bI K H H1 L rows:=⟨ys1,g1,pr1,j6 nx1⟩;walk_at "w";refine dI λfd H2 s2 nf gf=>?_
  have fdL:fd≠L:=λz=>by rw[z,g1] at nf;cases nf
  clear g1 pr1 nx1;walk_at "w";refine ⟨by lia,by lia,?_⟩;refine eL (n:=n) (λP σ' H'=>aG H H'/\∃lp fp ls fs ps vs y1 y2 y3,σ'=[some (.ref p),some (.int n),some (.ref lp),some (.ref fp),y1,y2,y3]/\H lp=none/\H fp=none/\fp≠lp/\bI K H H' lp ls/\H' fp=some (.lst vs)/\Paired (qR K (λq=>(H q=none/\q≠fp)/\q≠lp) H') fs vs/\fs.length=ps.length/\J P (fs++ls) ps) ⟨s1.trans s2,L,fd,rows,[],[],[],_,_,_,rfl,hL,s1.none nf,fdL,GL1.same s2,gf,.nil,rfl,j0⟩ ?_ ?_
  ·rintro P σ' H' hP ⟨s',lp,fp,ls,fs,ps,vs,y1,y2,y3,rfl,nlp,nfp,fl,GL,gv,pv,hf,JI⟩;have I:=jlw _ _ _ JI;have len:=I.len;rw[av] at len;have wide:=I.wide;obtain ⟨us,gu,qu,nu⟩:=id GL;have lu:=qu.length;have lv:=pv.length
   have szI:∀{i:Nat},i < rows.length->∀c,mV (b6 (fs++ls) i c):=λhi c=>by
    obtain ⟨D,D0,D1,D2⟩:=jsz _ _ _ JI (by lia) _ hi;exact szT D0 D1 (D2 c)
   have ez:∀i,(ls.map λr=>r.getD P 0).getD i 0=b6 ls i P:=λi=>K7
   walk_at "w";refine ⟨_,_,rfl,.inl (bO.of gu),?_⟩;rw[<- lu];walk_at "w";refine ⟨by lia,by lia,?_⟩;refine oS (n:=ls.length) (λi ys H''=>aG H' H''/\ys=df (FP (ls.map λr=>r.getD P 0) i)) (bg (bN (by lia))) ⟨aG.refl _,rfl⟩ ?_ ?_
   ·rintro i ys Hb hi hlen ⟨sb,rfl⟩;rw[vV];obtain ⟨xt,vt,et,evt,mt,qt,rfl,nqt,Rt⟩:=ig (Paired.imp' (λ_ _ z=>cP.same z sb) qu) hi;have wt:=wide xt (ax.mpr (.inr mt));obtain ⟨zs,gz,qz⟩:=id Rt;obtain ⟨vx,ex,nx⟩:=E3 qz (j:=P) (by lia);have fx:(ls.map λr=>r.getD P 0).getD i 0=xt.getD P 0:=by rw[ez];unfold b6;rw[aa (l:=ls),et];rfl
    walk_at "w";refine cz (bO.of (sb _ _ gu)) (fz evt) ?_;walk_at "w";refine cz (bO.of gz) ex ?_;walk_at "w";refine cv λt0 Hc sc gc=>?_
    walk_at "w";refine ⟨_,_,Le,xt.getD P 0,0,by decide,nx.same sc,cg.mk (q:=0) gc rfl,?_⟩;by_cases e:xt.getD P 0=0
    ·rw[decide_eq_true e];walk_at "w";refine ⟨sb.trans sc,?_⟩;rw[Ad,fx,if_neg (by simpa using e)]
    ·rw[decide_eq_false e];walk_at "w";refine ⟨sb.trans sc,?_⟩;rw[Ad,fx,if_pos e];unfold df;rw[cm];rfl
   rintro ys Hb hy ⟨sb,rfl⟩ hd hhd;have nzm:∀c,c∈FP (ls.map λr=>r.getD P 0) ls.length↔c < ls.length/\b6 ls c P≠0:=λc=>by rw[OR,ez]
   generalize FP (ls.map λr=>r.getD P 0) ls.length=hs at hy hhd nzm;have sn:aG Hb (upd Hb hd (.lst (df hs))):=aG.new hhd;have gh:(upd Hb hd (.lst (df hs))) hd=some (.lst (df hs)):=aI;generalize upd Hb hd (.lst (df hs))=Hc at sn gh ⊢;have sbc:=sb.trans sn;walk_at "w";refine dI λem Hd sd nd gd=>?_
   walk_at "w";refine ⟨_,_,MZ M5,ye hs,ye [],by decide,Dp (sd _ _ gh),Dp gd,?_⟩;have sbd:=sbc.trans sd;by_cases e0:hs=[]
   ·subst e0;rw[decide_eq_true rfl];walk_at "w";refine ⟨s'.trans sbd,lp,fp,ls,fs,ps,vs,_,_,_,rfl,nlp,nfp,fl,GL.same sbd,sbd _ _ gv,Paired.imp' (λ_ _ z=>qR.same z sbd) pv,hf,jskip _ _ _ JI λi h1 h2=>?_⟩;rw[av] at h2;obtain ⟨j,rfl⟩:∃j,i=fs.length+j:=⟨i - fs.length,by lia⟩;rw[zo];by_cases z:b6 ls j P=0
    ·exact z
    ·exact absurd ((nzm j).mpr ⟨by lia,z⟩) (by simp)
   ·rw[decide_eq_false (λz=>e0 (Lg z))]
    obtain ⟨t,hs',rfl⟩:∃t hs',hs=t :: hs':=by cases hs with
     | nil=>exact absurd rfl e0
     | cons t r=>exact ⟨t,r,rfl⟩
    obtain ⟨tl,hne⟩:=(nzm t).mp (.head _);have gud:=sbd _ _ gu;obtain ⟨xt,vt,et,evt,mt,qt,rfl,nqt,Rt⟩:=ig (Paired.imp' (λ_ _ z=>cP.same z sbd) qu) tl;have ext:ls.getD t []=xt:=by rw[aa,et];rfl
    have hne':xt.getD P 0≠0:=by unfold b6 at hne;rw[ext] at hne;exact hne
    have wt:=wide xt (ax.mpr (.inr mt));have qtl:qt≠lp:=λz=>nu (by rw[<- z];exact ar evt)
    walk_at "w";refine ⟨.inl ⟨rfl,_,bO.of gud⟩,?_⟩;walk_at "w";refine cz (bO.of (sd _ _ gh)) (fz (j:=0) rfl) ?_;walk_at "w";refine ⟨lp,us,t,t,_,rfl,rfl,gud,by lia,by lia,PySem.StrLaws.seqIndex_nonneg (by lia) (by lia),evt,?_⟩;have s0e:aG H (upd Hd lp (.lst (us.eraseIdx t))):=(s'.trans sbd).after nlp;obtain ⟨us',gu',pu'⟩:=(GL.same sbd).toE;have eus:us'=us:=by rw[gud] at gu';cases gu';rfl
    subst eus;have ple:Paired (qR K (λq=>H q=none/\q≠lp) (upd Hd lp (.lst (us'.eraseIdx t)))) (ls.eraseIdx t) (us'.eraseIdx t):=xJ (Paired.imp' (λ_ _ z=>qR.updL z gud (λq h=>h.2)) pu') t;have gle:(upd Hd lp (.lst (us'.eraseIdx t))) lp=some (.lst (us'.eraseIdx t)):=aI;have gve:(upd Hd lp (.lst (us'.eraseIdx t))) fp=some (.lst vs):=by rw[bF fl];exact sbd _ _ gv
    have pve:Paired (qR K (λq=>(H q=none/\q≠fp)/\q≠lp) (upd Hd lp (.lst (us'.eraseIdx t)))) fs vs:=Paired.imp' (λ_ _ z=>qR.updL (qR.same z sbd) gud (λq h=>h.2)) pv;have Re:cX K (upd Hd lp (.lst (us'.eraseIdx t))) qt xt:=Rt.updL gud qtl;generalize upd Hd lp (.lst (us'.eraseIdx t))=He at s0e ple gle gve pve Re ⊢;clear pu' gu' gud Rt;have I2:=jlean _ _ _ _ _ JI hf tl hP (by rw[ext];exact hne');rw[ext] at I2
    have rowD:∀r∈fs++ls,∃D:Nat,0 < D/\D<=2^S/\∀c,Tp D (2^S) (r.getD c 0):=λr hr=>by
     obtain ⟨i,hi,rfl⟩:=bR hr;obtain ⟨D,D0,D1,D2⟩:=jsz _ _ _ JI (by lia) i (by rw[av] at hi;lia);refine ⟨D,D0,D1,λc=>?_⟩;have:=D2 c;unfold b6 at this;rw[aa (l:=fs++ls),af hi] at this;exact this
    have szr:∀r∈fs++ls,∀y∈r,mV y:=λr hr y hy=>by
     obtain ⟨D,D0,D1,D2⟩:=rowD r hr;obtain ⟨c,hc,rfl⟩:=bR hy;have:=D2 c;rw[aa,af hc] at this;exact szT D0 D1 this
    have mxt:xt∈fs++ls:=ax.mpr (.inr mt);have lu2:(rz P xt).length=n:=by unfold rz;rw[ag];exact wt
    obtain ⟨Du,Du0,Du1,Du2⟩:∃D:Nat,0 < D/\D<=2^S/\∀y∈rz P xt,Tp D (2^S) y:=by
     obtain ⟨D,D0,D1,D2⟩:=jsz _ _ _ I2 (by lia) ps.length (by lia);refine ⟨D,D0,D1,λy hy=>?_⟩;obtain ⟨c,hc,rfl⟩:=bR hy;have:=D2 c;rw[ck,show ps.length=(fs.map (Bv P (rz P xt))).length+0 by rw[ag];lia,zo] at this
     have e:b6 ([rz P xt]++(ls.eraseIdx t).map (Bv P (rz P xt))) 0 c=(rz P xt)[c]:=by
      show (rz P xt).getD c 0=_
      rw[aa,af hc];rfl
     rw[e] at this;exact this
    have szu:∀y∈rz P xt,mV y:=λy hy=>szT Du0 Du1 (Du2 y hy)
    have szp:∀r∈fs++ls,∀y∈rz P xt,mV (r.getD P 0*y):=λr hr y hy=>by
     obtain ⟨D,D0,D1,D2⟩:=rowD r hr;exact szP D0 Du0 D1 Du1 (D2 P) (Du2 y hy)
    obtain ⟨zs,gz,qz⟩:=id Re;obtain ⟨vx,ex,nx⟩:=E3 qz (j:=P) (by lia);have szx:mV (xt.getD P 0):=szr xt mxt _ (getD_in (by lia));walk_at "w";refine cv λtq Hf sf gf=>?_
    walk_at "w";refine cz (bO.of (sf _ _ gz)) ex ?_;walk_at "w";refine ⟨_,_,1,xt.getD P 0,rfl,cg.mk (q:=1) gf rfl,nx.same sf,Mc,szx,hne',λqr Hg sg nq=>?_⟩;have sfg:=sf.trans sg;walk_at "w";refine ⟨_,qt,1 / xt.getD P 0,xt,rfl,nq,Md szx hne',Re.same sfg,by lia,szr xt mxt,λur Hh nur sh Rur=>?_⟩;have Rur:cX K Hh ur (rz P xt):=Rur;have seh:=sfg.trans sh;have s0h:=s0e.trans seh;have nur0:H ur=none:=(s0e.trans sfg).none nur;walk_at "w";refine ⟨⟨_,bO.of (seh _ _ gle)⟩,?_⟩;refine cB (K:=K) (F:=qR K (λq=>H q=none/\q≠lp)) (cP K H) (Bv P (rz P xt)) (seh _ _ gle) (Paired.imp' (λ_ _ z=>qR.same z seh) ple) (by rw[N9 tl];lia) (λa b=>a.same b) (λa b=>a.same b) ?_ ?_
    ·rintro i ns x Hi NY NN en si ⟨q,rfl,nq0,Rq⟩ k1;have mn:ns∈fs++ls:=ax.mpr (.inr (Pw (ar en)));have wn:=wide ns mn;obtain ⟨zs2,gz2,qz2⟩:=id Rq;obtain ⟨vx2,ex2,nx2⟩:=E3 qz2 (j:=P) (by lia);walk_at "w";refine cz (bO.of gz2) ex2 ?_;walk_at "w";refine ⟨_,ur,ns.getD P 0,rz P xt,rfl,nx2,szr ns mn _ (getD_in (by lia)),Rur.same si,by lia,szu,λb1 Hj nb1 sj Rb=>?_⟩;walk_at "w";refine ⟨q,b1,ns,_,rfl,Rq.same sj,Rb,by rw[ag];lia,by lia,szr ns mn,λy hy=>?_,λr2 Hk nr2 sk Rk=>?_⟩
     ·obtain ⟨y',hy',rfl⟩:=az.mp hy;exact szp ns mn y' hy'
     ·exact k1 _ _ (sj.trans sk) ⟨r2,rfl,s0h.none (si.none (sj.none nr2)),Rk⟩
    rintro yl Hk lp2 hlp2 sk gk prk nxk;have s0k:=s0h.trans sk;have Gk:bI K H Hk lp2 ((ls.eraseIdx t).map (Bv P (rz P xt))):=⟨yl,gk,prk,j6 nxk⟩;have Ruk:=Rur.same sk;walk_at "w";refine ⟨⟨_,bO.of (sk _ _ (seh _ _ gve))⟩,?_⟩;refine cB (K:=K) (F:=qR K (λq=>(H q=none/\q≠fp)/\q≠lp)) (cP K Hk) (Bv P (rz P xt)) (sk _ _ (seh _ _ gve)) (Paired.imp' (λ_ _ z=>qR.same (qR.same z seh) sk) pve) (by lia) (λa b=>a.same b) (λa b=>a.same b) ?_ ?_
    ·rintro i ns x Hi NY NN en si ⟨q,rfl,nq0,Rq⟩ k1;have mn:ns∈fs++ls:=ax.mpr (.inl (ar en));have wn:=wide ns mn;obtain ⟨zs2,gz2,qz2⟩:=id Rq;obtain ⟨vx2,ex2,nx2⟩:=E3 qz2 (j:=P) (by lia);walk_at "w";refine cz (bO.of gz2) ex2 ?_;walk_at "w";refine ⟨_,ur,ns.getD P 0,rz P xt,rfl,nx2,szr ns mn _ (getD_in (by lia)),Ruk.same si,by lia,szu,λb1 Hj nb1 sj Rb=>?_⟩;walk_at "w";refine ⟨q,b1,ns,_,rfl,Rq.same sj,Rb,by rw[ag];lia,by lia,szr ns mn,λy hy=>?_,λr2 Hl nr2 sl Rl=>?_⟩
     ·obtain ⟨y',hy',rfl⟩:=az.mp hy;exact szp ns mn y' hy'
     ·exact k1 _ _ (sj.trans sl) ⟨r2,rfl,si.none (sj.none nr2),Rl⟩
    rintro yf Hl fp2 hfp2 sl gl prl nxl;have lyf:=prl.length;rw[ag] at lyf;have nfp2:H fp2=none:=s0k.none hfp2;have nlp2:H lp2=none:=s0h.none hlp2;have fl2:fp2≠lp2:=λz=>by rw[z,gk] at hfp2;cases hfp2
    have urk:Hk ur≠none:=by obtain ⟨_,gg,_⟩:=Ruk;rw[gg];exact λz=>nomatch z
    have urf:ur≠fp2:=λz=>urk (by rw[z];exact hfp2)
    have url:ur≠lp2:=λz=>by obtain ⟨_,gg,_⟩:=Rur;rw[z,hlp2] at gg;cases gg
    walk_at "w";refine ⟨.inl ⟨rfl,_,bO.of gl⟩,?_⟩;walk_at "w";refine kJ gl (bN (by lia)) ?_;refine ⟨(s0k.trans sl).after nfp2,lp2,fp2,_,_,ps++[P],_,_,_,_,rfl,nlp2,nfp2,fl2,?_,aI,?_,by rw[av,av,ag];show fs.length+1=ps.length+1;lia,I2⟩
    ·obtain ⟨ul,gul,pul⟩:=Gk.toE;refine bI.ofE (P:=λq=>(H q=none/\q≠lp2)/\q≠fp2) (by rw[bF (Ne.symm fl2)];exact sl _ _ gul) (Paired.imp' (λ_ _ ⟨q,e1,e2,e3⟩=>?_) pul) (λq h=>h.1.1) (λq h=>h.1.2);have qf:q≠fp2:=λz=>by obtain ⟨_,gg,_⟩:=e3;rw[z,hfp2] at gg;cases gg
     exact ⟨q,e1,⟨e2,qf⟩,(cX.same e3 sl).updL gl qf⟩
    ·have nn:=j6 nxl;refine cM (uk (λxs v hv ⟨q,e1,e2,e3⟩=>?_) prl) (.cons ⟨ur,rfl,⟨⟨nur0,urf⟩,url⟩,(Ruk.same sl).updL gl urf⟩ .nil);have qf:q≠fp2:=λz=>nn (by rw[<- z,<- e1];exact hv)
     exact ⟨q,e1,⟨⟨s0k.none e2,qf⟩,λz=>by rw[z,gk] at e2;cases e2⟩,cX.updL e3 gl qf⟩
  ·rintro σ' H' ⟨s',lp,fp,ls,fs,ps,vs,y1,y2,y3,rfl,nlp,nfp,fl,GL,gv,pv,hf,JI⟩;have I:=jlw _ _ _ JI;have D:=I.done hw;rw[List.take_left' hf] at D;obtain ⟨km,_⟩:=I.km;walk_at "w";exact k fp fs ps H' nfp s' (bI.ofE gv pv (λq h=>h.1.1) (λq h=>h.1.2)) D km
theorem o5:bf ["_law_one","_law_other","_law_total","_law_k"] ["_law_one","_law_other"] (ay kH):=by walk_at "d"
theorem mH (T:Txt K mg Z):cJ P w K mg base gE 3 Z.tz Z.sS ["_law_one","_law_other"] (D5 K):=by
 refine T.jr.ok o5 (λvs H Q E h=>?_) (λcdv A outer s H vs Q E hr h=>?_)
 ·obtain ⟨p,q,xs,ys,rfl,_⟩:=h;rfl
 ·obtain ⟨p,q,xs,ys,rfl,hp,hq,hl,hz,⟨k1,j1,k2,j2,h1,h2,hkj⟩,kk⟩:=h
  refine ⟨_,(aw (br (i:=2) o5.nd rfl (Or.inl rfl) (cY (ae ao (ae ao aj))))
   (aw (ee PassesOwn.never rfl (cy rfl T.range (ae (bG aT (by rfl) T.len aO (ae (pv 0) aj)) aj)) (aK (i:=3) o5.nd)
    (aA (br (i:=2) o5.nd rfl (Or.inl rfl) (cN (o7 T) hr T.mI T.kX.kp T.oT (ae (pv 2) (ae (cN (m4 T) hr T.j8 T.jS.kp T.mK (ae (aY bW (pv 0) (pv 3)) (ae (aY bW (pv 1) (pv 3)) aj))) aj))))))
   (aA (aV (pv 2))))),?_⟩
  refine aP (σ:=[some (.ref p),some (.ref q),none,none]) rfl ?_;obtain ⟨us,gu,qu⟩:=id hp;obtain ⟨ws,gw,qw⟩:=id hq;have lu:=qu.length;have lw:=qw.length;walk_at "w";refine cv λr0 H0 s0 g0=>?_
  walk_at "w";refine ⟨_,_,rfl,.inl (bO.of (s0 _ _ gu)),?_⟩;walk_at "w";refine ⟨by lia,by lia,?_⟩;refine eL (n:=us.length) (λi σ' H'=>aG H H'/\∃(r:V) (v:Option V),σ'=[some (.ref p),some (.ref q),some r,v]/\cg K H' (dh (xs.take i) (ys.take i)) r) ⟨s0,_,none,rfl,cg.mk g0 rfl⟩ ?_ ?_
  ·rintro i σ' H' hi ⟨s,r,v,rfl,hr⟩;have ix:i < xs.length:=by lia
   have iy:i < ys.length:=by lia
   obtain ⟨vx,ex,nx⟩:=E3 (Paired.imp' (λ_ _ z=>z.same s) qu) ix;obtain ⟨vy,ey,ny⟩:=E3 (Paired.imp' (λ_ _ z=>z.same s) qw) iy;walk_at "w";refine cz (bO.of (s _ _ gu)) ex ?_;walk_at "w";refine cz (bO.of (s _ _ gw)) ey ?_;walk_at "w";refine ⟨_,_,_,_,rfl,nx,ny,h1.szn (getD_mem ix) (by lia),h2.szn (getD_mem iy) (by lia),λr3 H3 s3 n3=>?_⟩;walk_at "w";refine ⟨_,_,_,_,rfl,hr.same s3,n3,LC h1 h2 hz i hkj,K2 (h1.one (getD_mem ix)) (h2.one (getD_mem iy)) hkj,λr4 H4 s4 n4=>?_⟩;walk_at "w";exact ⟨(s.trans s3).trans s4,_,_,rfl,by rw[DB ix iy];exact n4⟩
  ·rintro σ' H' ⟨s,r,v,rfl,hr⟩;rw[aL (by lia),aL (by lia)] at hr;obtain ⟨t,rfl,ht⟩:=hr;walk_at "w";exact kk _ H' s ⟨t,rfl,ht⟩
theorem GV:bf ["_law_grid","_law_row_here"] ["_law_grid","_law_row_here"] (ay ox):=by walk_at "d"
theorem Bl (T:Txt K mg Z):cJ P w K mg base gE 4 Z.vM Z.vD ["_law_grid","_law_row_here"] (D4 K):=by
 refine T.vS.ok GV (λvs H Q E h=>?_) (λcdv A outer s H vs Q E hr h=>?_)
 ·obtain ⟨p,q,H0,rows,ys,rfl,_⟩:=h;rfl
 ·obtain ⟨p,q,H0,rows,ys,rfl,hp,hq,hz,hl,hr1,kk⟩:=h;refine ⟨_,(aA (aV (bZ ["_law_one"] ["_law_row_here"] [1] (b9 (pv 0)) (λ_=>(aK (i:=0) (show List.Nodup (α:=PySem.Str) ["_law_one","_law_row_here"] by decide +kernel))) (λ_=>cf) (λ_=>(cN (mH T) hr T.jN T.jr.kp T.kT (ae (pv 0) (ae (pv 1) aj))))))),?_⟩;refine aP (σ:=[some (.ref p),some (.ref q)]) rfl ?_;obtain ⟨xs,gx,qx,_⟩:=id hp;walk_at "w";refine ⟨⟨_,bO.of gx⟩,?_⟩;refine cB (K:=K) (F:=cP K H0) (cg K) (λxs=>dh xs ys) gx qx hz (λa b=>a.same b) (λa b=>a.same b) ?_ ?_
  ·rintro i ns x H' NY NN en s ⟨u,rfl,_,hu⟩ k;obtain ⟨e1,e2⟩:=hr1 ns (ar en);walk_at "w";exact ⟨u,q,ns,ys,rfl,hu,hq.same s,e1.symm,by lia,e2,λr H2 s2 h2'=>k _ _ s2 h2'⟩
  ·rintro ys' H' r hr s g pr nx;exact kk r H' hr s ⟨ys',g,pr⟩
theorem gF:bf ["_law_parts_here","_law_steps_here","_law_rows","_law_some","_law_turn"] ["_law_parts_here","_law_steps_here"] (ay iI):=by walk_at "d"
theorem CD (T:Txt K mg Z):cJ P w K mg base gE 5 Z.nV Z.nH ["_law_parts_here","_law_steps_here"] (Di K):=by
 refine T.tQ.ok gF (λvs H Q E h=>?_) (λcdv A outer s H vs Q E hr h=>?_)
 ·obtain ⟨r,tt,H0,mv,pt,lk,rfl,_⟩:=h;rfl
 ·obtain ⟨r,tt,H0,mv,pt,lk,rfl,hT,PQ,D,AF,k⟩:=h
  refine ⟨_,(aw (lB 2 ["_law_row_here"] [] [] gF.nd rfl rfl (b9 (aY bU (pv 0) ao)) (λ_=>(aK (i:=0) (show List.Nodup (α:=PySem.Str) ["_law_row_here"] by decide +kernel))) (λ_=>cf) (λ_=>(eX (i8 K (by rfl)) (by rfl) T.list PyProof.Rows.boot_list (ae (pv 0) aj))))
   (aw (br (i:=3) gF.nd rfl (Or.inl rfl) (eS aj))
   (aw (ee PassesOwn.never rfl (cy rfl T.range (ae (pv 1) aj)) (aK (i:=4) gF.nd)
    (aw (br (i:=3) gF.nd rfl (Or.inl rfl) (bK uu (pv 3) (pv 2)))
   (aA (lB 2 ["_law_row_here"] ["_law_parts_here"] [0] gF.nd rfl rfl (b9 (pv 2)) (λ_=>(aK (i:=0) (show List.Nodup (α:=PySem.Str) ["_law_row_here","_law_parts_here"] by decide +kernel))) (λ_=>cf) (λ_=>(cN (Bl T) hr T.xj T.vS.kp T.zm (ae (aY (sH K (by rfl)) (pv 1) ao) (ae (pv 0) aj))))))))
   (aA (aV (pv 3)))))),?_⟩
  refine aP (σ:=[some (.ref r),some (.int tt),none,none,none]) rfl ?_;have d1:=D.n8;have i4:=D.i4;obtain ⟨m,p,l,g,n1,n2,n3,Gm,Gp,Gl⟩:=id PQ;obtain ⟨up,gp,qp,_⟩:=id Gp;have lup:=qp.length;walk_at "w";refine ⟨⟨_,bO.of gp⟩,?_⟩;refine cB (K:=K) (F:=cP K H0) (cP K H) id gp qp (by lia) (λa b=>a.same b) (λa b=>a.same b) ?_ ?_
  ·rintro i ns x H' NY NN en s ⟨u,rfl,_,zs,gz,qz⟩ k1;walk_at "w";refine ⟨u,zs,rfl,.inl (bO.of gz),λl1 hl1=>?_⟩;exact k1 _ _ (aG.new hl1) ⟨l1,rfl,s.none hl1,zs,aI,Paired.imp' (λ_ _ z=>z.same (aG.new hl1)) qz⟩
  rintro ys1 H1 rq1 hr1 s1 g1 pr1 nx1;rw[jc] at pr1 nx1;have G1:bI K H H1 rq1 pt:=⟨ys1,g1,pr1,j6 nx1⟩;walk_at "w";refine dI λsm0 H2 s2 nf gf=>?_
  have s02:=s1.trans s2;walk_at "w";refine ⟨by lia,by lia,?_⟩;refine eL (n:=tt) (λt σ' H'=>aG H H'/\∃rq sm y,σ'=[some (.ref r),some (.int tt),some (.ref rq),some (.ref sm),y]/\H sm=none/\bI K H H' sm (kry mv pt t)/\bI K H H' rq (pt.map (wZ mv t))) ⟨s02,rq1,sm0,_,rfl,s1.none nf,⟨[],gf,.nil,λz=>nomatch z⟩,by rw[show pt.map (wZ mv 0)=pt from jc pt];exact G1.same s2⟩ ?_ ?_
  ·rintro t σ' H' ht ⟨s',rq,sm,y,rfl,nsm,Gs,Gq⟩;obtain ⟨us,gu,pu,_⟩:=id Gs;obtain ⟨zs,gz,qz,_⟩:=id Gq;have lz:=qz.length;rw[ag] at lz;have lu:=pu.length;rw[EB] at lu;have lb:t*pt.length<=20*4:=aN (by lia) i4;walk_at "w";refine uh gu gz (bg (bN (by lia))) λcc H3 s3 nc gc=>?_
   have ek:kry mv pt (t+1)=kry mv pt t++pt.map (wZ mv t):=by
    rw[<- ET,Nq,List.flatten_append,ET];simp
   have Gc:bI K H H3 cc (kry mv pt (t+1)):=by
    rw[ek];exact ⟨_,gc,Paired.imp' (λ_ _ z=>cP.same z s3) (cM pu qz),j6 ⟨H',nc,cM pu qz⟩⟩
   have s03:=s'.trans s3;have g3:=s03 _ _ g;walk_at "w";refine ⟨⟨_,bO.of (s3 _ _ gz)⟩,?_⟩;refine cB (K:=K) (F:=cP K H) (cP K H) (yI mv) (s3 _ _ gz) (Paired.imp' (λ_ _ z=>cP.same z s3) qz) (by rw[ag];lia) (λa b=>a.same b) (λa b=>a.same b) ?_ ?_
   ·rintro i ns v Ha NY NN en sa ⟨u,rfl,_,Ru⟩ k1;have mn:=ar en;obtain ⟨y0,hy0,rfl⟩:=az.mp mn;have wy:=D.pw y0 hy0;have ga:=sa _ _ g3;walk_at "w";exact ⟨m,u,H0,mv,_,rfl,(Gm.same s03).same sa,Ru,by lia,by rw[ID wy];lia,λxs hx=>⟨by rw[D.mw xs hx,ID wy],((AF.row D.mw D.pw y0 hy0).fit D.mw wy (show t<=tt by lia)).1 xs hx⟩,λz Hj nz sj Rz=>k1 _ _ sj ⟨z,rfl,s03.none (sa.none nz),Rz⟩⟩
   ·rintro ys Hb rr hrr sb gb prb nxb;have e:(pt.map (wZ mv t)).map (yI mv)=pt.map (wZ mv (t+1)):=by rw[vU];rfl
    rw[e] at prb nxb;exact ⟨s03.trans sb,rr,cc,_,rfl,s'.none nc,Gc.same sb,ys,gb,prb,j6 nxb⟩
  ·rintro σ' H' ⟨s',rq,sm,y,rfl,nsm,Gs,Gq⟩;walk_at "w";exact k sm H' nsm s' Gs
theorem fP:bf ["_law_parts_here","_law_state","_law_puts_here","_law_move_here","_law_put","_law_look","_law_found","_law_k"] ["_law_parts_here","_law_state","_law_puts_here"] (ay jC):=by walk_at "d"
theorem Ep (T:Txt K mg Z):cJ P w K mg base gE 5 Z.qg Z.pK ["_law_parts_here","_law_state","_law_puts_here"] (Fm K):=by
 refine T.uY.ok fP (λvs H Q E h=>?_) (λcdv A outer s H vs Q E hr h=>?_)
 ·obtain ⟨r,s0,u0,H0,mv,pt,lk,st,pu,rfl,_⟩:=h;rfl
 ·obtain ⟨r,s0,u0,H0,mv,pt,lk,st,pu,rfl,PQ,D,hs,hu,l1,l2,NX,k⟩:=h
  refine ⟨_,(aw (fh (pv 0) (w5 rfl (cV (aK (i:=3) fP.nd) (cV (aK (i:=4) fP.nd) (cV (aK (i:=5) fP.nd) lC)))))
   (aw (br (i:=6) fP.nd rfl (Or.inl rfl) (cN (Bl T) hr T.xj T.vS.kp T.zm (ae (pv 3) (ae (pv 1) aj))))
   (aw (ee PassesOwn.never rfl (cy rfl T.range (ae (bG aT (by rfl) T.len aO (ae (pv 4) aj)) aj)) (aK (i:=7) fP.nd)
    (aA (br (i:=6) fP.nd rfl (Or.inl rfl) (cN (xQ T) hr T.so T.qC.kp T.uR (ae (pv 6) (ae (cN (oO T) hr T.kQ T.lg.kp T.oA (ae (aY bW (pv 2) (pv 7)) (ae (aY bW (pv 4) (pv 7)) aj))) aj))))))
   (aA (aV (pv 6)))))),?_⟩
  refine aP (σ:=[some (.ref r),some (.ref s0),some (.ref u0),none,none,none,none,none]) rfl ?_;obtain ⟨m,p,l,g,n1,n2,n3,Gm,Gp,Gl⟩:=id PQ;have d1:=D.n8;have d2:=D.i4;walk_at "w";refine ⟨m,s0,H0,mv,st,rfl,Gm,hs,by lia,by lia,λxs hx=>⟨by rw[D.mw xs hx,l1],NX.f2 xs hx⟩,λf H1 nf s1 R1=>?_⟩;obtain ⟨ps,gp,qp,_⟩:=Gp.same s1;have lp:=qp.length;walk_at "w";refine ⟨_,_,rfl,.inl (bO.of gp),?_⟩;walk_at "w";refine ⟨by lia,by lia,?_⟩;refine eL (n:=ps.length) (λkk σ' H'=>∃(f:Addr) (x:Option V),σ'=[some (.ref r),some (.ref s0),some (.ref u0),some (.ref m),some (.ref p),some (.ref l),some (.ref f),x]/\H f=none/\aG H1 H'/\cX K H' f (nextK mv pt st pu kk)) ⟨f,none,rfl,nf,aG.refl _,by rw[HI];exact R1⟩ ?_ ?_
  ·rintro kk σ' H' hk ⟨f',x,rfl,nf',s',R'⟩;have kp:kk < pt.length:=by lia
   have ku:kk < pu.length:=by lia
   obtain ⟨zs,gz,qz⟩:=(hu.same s1).same s';have lz:=qz.length;obtain ⟨vu,eu,nu⟩:=E3 qz ku;obtain ⟨row,vr,er,ev,mr,q,rfl,_,Rq⟩:=ig qp kp
   have er':pt[kk]=row:=by
    rw[af kp] at er;exact bY er
   have eu':pu.getD kk 0=pu[kk]:=by rw[aa,af ku];rfl
   have mu:pu.getD kk 0∈pu:=getD_mem ku;walk_at "w";refine cz (bO.of gz) eu ?_;walk_at "w";refine cz (bO.of (s' _ _ gp)) (fz ev) ?_;walk_at "w";refine ⟨vu,q,_,row,rfl,nu,NX.su _ mu,Rq.same s',by rw[D.pw row mr];lia,NX.sp row mr,λr1 H2 n1' s2 R2=>?_⟩;walk_at "w";refine ⟨f',r1,_,_,rfl,R'.same s2,R2,by rw[ag,jL,D.pw row mr],by rw[jL];lia,NX.part kk,λy hy=>?_,λr2 H3 n2' s3 R3=>?_⟩
   ·obtain ⟨y',hy',rfl⟩:=az.mp hy;exact NX.mul _ mu row mr y' hy'
   ·walk_at "w";refine ⟨s1.none (s'.none (s2.none n2')),(s'.trans s2).trans s3,?_⟩;have e:=HJ (st:=st) (pu:=pu) (λxs hx=>by rw[D.mw xs hx,l1]) kp ku (by rw[er'];exact D.pw row mr);rw[er',<- eu'] at e;rw[<- e];exact R3
  ·rintro σ' H' ⟨f',x,rfl,nf',s',R'⟩;rw[vp (by lia) (by lia)] at R';walk_at "w";exact k f' H' nf' (s1.trans s') R'
theorem fQ:bf ["_law_parts_here","_law_rows","_law_weights","_law_start","_law_puts_here","_law_state","_law_dots","_law_some","_law_due"] ["_law_parts_here","_law_rows","_law_weights","_law_start","_law_puts_here"] (ay jJ):=by walk_at "d"
theorem Ew (T:Txt K mg Z):cJ P w K mg base gE 6 Z.qA Z.pQ ["_law_parts_here","_law_rows","_law_weights","_law_start","_law_puts_here"] (Df K):=by
 refine T.ve.ok fQ (λvs H Q E h=>?_) (λcdv A outer s H vs Q E hr h=>?_)
 ·obtain ⟨r,p,q,s,o,H0,H1,H2,H3,mv,pt,lk,N,U,pus,st,rfl,_⟩:=h;rfl
 ·obtain ⟨r,p,q,s,o,H0,H1,H2,H3,mv,pt,lk,N,U,pus,st,rfl,PQ,D,GN,GU,lN,lU,wN,wU,Rs,ls,Gp,lp,wp,G,k⟩:=h
  refine ⟨_,(aw (br (i:=5) fQ.nd rfl (Or.inr rfl) (eX (i8 K (by rfl)) (by rfl) T.list PyProof.Rows.boot_list (ae (pv 3) aj)))
   (aw (br (i:=6) fQ.nd rfl (Or.inr rfl) (bZ ["_law_row_here"] ["_law_state"] [5] (b9 (pv 1)) (λ_=>(aK (i:=0) (show List.Nodup (α:=PySem.Str) ["_law_row_here","_law_state"] by decide +kernel))) (λ_=>cf) (λ_=>(cN (mH T) hr T.jN T.jr.kp T.kT (ae (pv 0) (ae (pv 1) aj))))))
   (aw (ee PassesOwn.never rfl (b9 (pv 4)) (aK (i:=7) fQ.nd)
    (aw (br (i:=5) fQ.nd rfl (Or.inr rfl) (cN (Ep T) hr T.xW T.uY.kp T.zL (ae (pv 0) (ae (pv 5) (ae (pv 7) aj)))))
   (aw (lB 8 ["_law_own"] ["_law_dots"] [6] fQ.nd rfl rfl (b9 (pv 2)) (λ_=>(aK (i:=0) (show List.Nodup (α:=PySem.Str) ["_law_own","_law_dots"] by decide +kernel))) (λ_=>cf) (λ_=>(cN (mH T) hr T.jN T.jr.kp T.kT (ae (pv 0) (ae (pv 1) aj)))))
   (aw (br (i:=6) fQ.nd rfl (Or.inr rfl) (bZ ["_law_row_here"] ["_law_state"] [5] (b9 (pv 1)) (λ_=>(aK (i:=0) (show List.Nodup (α:=PySem.Str) ["_law_row_here","_law_state"] by decide +kernel))) (λ_=>cf) (λ_=>(cN (mH T) hr T.jN T.jr.kp T.kT (ae (pv 0) (ae (pv 1) aj))))))
   (aA (cQ (bE (A0 (Ge hr)) (pv 6) (pv 8) (bJ _)) (aA (aV oJ)) bS))))))
   (aA (aV oJ))))),?_⟩
  refine aP (σ:=[some (.ref r),some (.ref p),some (.ref q),some (.ref s),some (.ref o),none,none,none,none]) rfl ?_;have d1:=D.n8;obtain ⟨ss,gs,qs⟩:=id Rs;obtain ⟨ps,gp,qp,_⟩:=id Gp;obtain ⟨us,gu,qu,_⟩:=id GN;obtain ⟨ws,gw,qw,_⟩:=id GU;have lps:=qp.length;have lus:=qu.length;have lws:=qw.length;walk_at "w";refine ⟨s,ss,rfl,.inl (bO.of gs),λc hc=>?_⟩;have sc:aG H (upd H c (.lst ss)):=aG.new hc;have Rc:cX K (upd H c (.lst ss)) c st:=⟨ss,aI,Paired.imp' (λ_ _ z=>z.same sc) qs⟩;generalize upd H c (.lst ss)=Hc at sc Rc ⊢;have guc:=sc _ _ gu;have quc:Paired (cP K H1 Hc) N us:=Paired.imp' (λ_ _ z=>cP.same z sc) qu;walk_at "w";refine ⟨⟨_,bO.of guc⟩,?_⟩;refine cB (K:=K) (as:=N) (F:=cP K H1) (cg K) (λz=>dh z st) guc quc (by lia) (λh s=>h.same s) (λh s=>h.same s) ?_ ?_
  ·rintro i z v H4 NY NN ez s4 ⟨u,rfl,_,Ru⟩ k1;have mz:=ar ez;walk_at "w";refine ⟨u,c,z,st,rfl,Ru,Rc.same s4,by rw[ls,wN z mz],by rw[wN z mz];lia,G.f1 0 (bo _) z mz,λd H5 s5 N5=>?_⟩;exact k1 _ _ s5 N5
  rintro ys H4 dd hdd s4 g4 pr4 _;have sH4:=sc.trans s4;have Rd0:cX K H4 dd (N.map λz=>dh z st):=⟨ys,g4,pr4⟩;have Rc4:=Rc.same s4;clear g4 pr4;walk_at "w";refine ⟨⟨_,bO.of (sH4 _ _ gp)⟩,?_⟩;refine i5 (K:=K) (a:=o) (xs:=ps) (λi σ' H'=>aG H H'/\∃c dd y1 y2,σ'=[some (.ref r),some (.ref p),some (.ref q),some (.ref s),some (.ref o),some (.ref c),some (.ref dd),y1,y2]/\cX K H' c (Cj mv pt st pus i)/\cX K H' dd (N.map λz=>dh z (Cj mv pt st pus i))) ⟨sH4,c,dd,_,_,rfl,Rc4,Rd0⟩ (λi σ' H' _ ⟨e,_⟩=>bO.of (e _ _ gp)) ?_ ?_
  ·rintro i v σ' H' hv ⟨e,c,dd,y1,y2,rfl,Rq,Rd⟩;obtain ⟨pu,epu,u,rfl,_,Ru⟩:=cL qp hv;have hi:i < pus.length:=(aD.mp epu).1;have mp:=ar epu;walk_at "w";refine ⟨r,c,u,H0,mv,pt,lk,_,pu,rfl,PQ.same e,D,Rq,cX.same Ru e,D3 ls (by lia),wp pu mp,G.en.nx D ls wp (by lia) epu,λc2 H5 n2 s5 R5=>?_⟩;have e5:=e.trans s5;have gw5:=e5 _ _ gw;have qw5:Paired (cP K H2 H5) U ws:=Paired.imp' (λ_ _ z=>cP.same z e5) qw;walk_at "w";refine ⟨⟨_,bO.of gw5⟩,?_⟩;refine cB (K:=K) (as:=U) (F:=cP K H2) (cg K) (λw=>dh w (N.map λz=>dh z (Cj mv pt st pus i))) gw5 qw5 (by lia) (λh s=>h.same s) (λh s=>h.same s) ?_ ?_
   ·rintro j w v H6 NY NN ew s6 ⟨u6,rfl,_,Ru6⟩ k1;have mw:=ar ew;walk_at "w";refine ⟨u6,dd,w,_,rfl,Ru6,(Rd.same s5).same s6,by rw[ag,wU w mw],by rw[wU w mw];lia,G.f2 i (by lia) w mw,λd H7 s7 N7=>?_⟩;exact k1 _ _ s7 N7
   rintro ys6 H6 du hdu s6 g6 pr6 _;have Rdu:cX K H6 du (U.map λw=>dh w (N.map λz=>dh z (Cj mv pt st pus i))):=⟨ys6,g6,pr6⟩;have e6:=e5.trans s6;have R6:=R5.same s6;clear g6 pr6;have gu6:=e6 _ _ gu;have qu6:Paired (cP K H1 H6) N us:=Paired.imp' (λ_ _ z=>cP.same z e6) qu;walk_at "w";refine ⟨⟨_,bO.of gu6⟩,?_⟩;refine cB (K:=K) (as:=N) (F:=cP K H1) (cg K) (λz=>dh z (fV mv pt (Cj mv pt st pus i) pu)) gu6 qu6 (by lia) (λh s=>h.same s) (λh s=>h.same s) ?_ ?_
   ·rintro j z v H7 NY NN ez s7 ⟨u7,rfl,_,Ru7⟩ k1;have mz:=ar ez;have lm:(fV mv pt (Cj mv pt st pus i) pu).length=mv.length:=y7;walk_at "w";refine ⟨u7,c2,z,_,rfl,Ru7,R6.same s7,by rw[lm,wN z mz],by rw[wN z mz];lia,by rw[<- xA epu];exact G.f1 (i+1) (by lia) z mz,λd H8 s8 N8=>?_⟩;exact k1 _ _ s8 N8
   rintro ys7 H7 d2 hd2 s7 g7 pr7 _;have Rd2:cX K H7 d2 (N.map λz=>dh z (fV mv pt (Cj mv pt st pus i) pu)):=⟨ys7,g7,pr7⟩;clear g7 pr7;walk_at "w";refine ⟨_,_,IT,_,_,by decide,Rd2.kind,(Rdu.same s7).kind,?_⟩;rw[decide_eq_true (G.go i pu epu)];walk_at "w";rw[<- xA epu] at Rd2 R6;exact ⟨e6.trans s7,c2,d2,_,_,rfl,R6.same s7,Rd2⟩
  ·rintro σ' H' ⟨e,c,dd,y1,y2,rfl,Rq,Rd⟩;walk_at "w";exact k H' e
theorem Ec:bf ["_law_bag_here","_law_parts_here","_law_steps_here","_law_wide"] ["_law_bag_here","_law_parts_here","_law_steps_here","_law_wide"] (ay jz):=by walk_at "d"
theorem Eo (T:Txt K mg Z):cJ P w K mg base gE 4 Z.p6 Z.pH ["_law_bag_here","_law_parts_here","_law_steps_here","_law_wide"] (Fj K):=by
 refine T.uX.ok Ec (λvs H Q E h=>?_) (λcdv A outer s H vs Q E hr h=>?_)
 ·obtain ⟨b,r,tt,w,H0,mv,pt,lk,rfl,_⟩:=h;rfl
 ·obtain ⟨b,r,tt,w,H0,mv,pt,lk,rfl,hT,w1,w2,hB,nb,PQ,D,k⟩:=h;refine ⟨_,(aA (aV (bZ ["_law_turn"] ["_law_bag_here","_law_parts_here","_law_wide"] [0,1,3] (cy rfl T.range (ae (pv 2) aj)) (λ_=>(aK (i:=0) (show List.Nodup (α:=PySem.Str) ["_law_turn","_law_bag_here","_law_parts_here","_law_wide"] by decide +kernel))) (λ_=>cf) (λ_=>(cN (o8 T) hr T.jM T.jq.kp T.kS (ae (pv 1) (ae (bG (CG K (by rfl)) (by rfl) T.len aO (ae (aY (sH K (by rfl)) (pv 2) ao) aj)) (ae (pv 3) aj)))))))),?_⟩;refine aP (σ:=[some (.ref b),some (.ref r),some (.int tt),some (.int w)]) rfl ?_;have i4:=D.i4;walk_at "w";refine ⟨by lia,by lia,?_⟩
  refine zd (n:=tt) (b:=b) (cP K H) (λxs=>xs.length=pt.length/\∀x∈xs,Dr (max w 6) x) hB (by lia) (λ{H' H'' c x} a u B=>by
   obtain ⟨q,e,nq,R⟩:=a;exact ⟨q,e,nq,R.upto u B (λz=>hB.at (by rw[<- z];exact nq))⟩) ?_ ?_
  ·rintro i Ha NY NN hi ua Ba k1;obtain ⟨m,p,l,g,n1,n2,n3,Gm,Gp,Gl⟩:=PQ.upto ua hB nb;obtain ⟨up,gp,qp,_⟩:=id Gp;have lup:=qp.length;walk_at "w";refine ⟨_,_,rfl,.inl (bO.of gp),?_⟩;rw[<- lup];walk_at "w";refine ⟨b,pt.length,w,rfl,Ba,by lia,w1,by lia,λq xs Hb nq R lx dx Bb ub=>?_⟩;exact k1 _ xs _ ub Bb ⟨lx,dx⟩ ⟨q,rfl,ua.none Ba nq,R⟩
  ·rintro ys cs Hz t ht uz Bz gz lc hc prz nx;exact k t cs Hz ht ⟨ys,gz,prz,j6 nx⟩ lc hc Bz uz
theorem lA:bf ["_law_bag_here","_law_parts_here","_law_bottoms","_law_row_here"] ["_law_bag_here","_law_parts_here"] (ay iD):=by walk_at "d"
theorem Cz (T:Txt K mg Z):cJ P w K mg base gE 2 Z.nO Z.nC ["_law_bag_here","_law_parts_here"] (CS K):=by
 refine T.tL.ok lA (λvs H Q E h=>?_) (λcdv A outer s H vs Q E hr h=>?_)
 ·obtain ⟨b,r,H0,mv,pt,lk,rfl,_⟩:=h;rfl
 ·obtain ⟨b,r,H0,mv,pt,lk,rfl,hB,nb,PQ,D,sz,k⟩:=h
  refine ⟨_,(aw (br (i:=2) lA.nd rfl (Or.inl rfl) (eS (ae ao aj)))
   (aw (ee PassesOwn.never rfl (b9 (bK uu (aY bU (pv 1) ao) (aY bU (pv 1) ao))) (aK (i:=3) lA.nd)
    (aA (br (i:=2) lA.nd rfl (Or.inl rfl) (bK uu (pv 2) (bZ ["_law_one"] [] [] (b9 (pv 3)) (λ_=>(aK (i:=0) (show List.Nodup (α:=PySem.Str) ["_law_one"] by decide +kernel))) (λ_=>cf) (λ_=>(bK fG (aY (sH K (by rfl)) (pv 0) ao) (bK cS (bK iZ (bG yp (by rfl) T.abs PyProof.Rows.boot_abs (ae (aY (sH K (by rfl)) (pv 0) ao) aj)) ao) ao))))))))
   (aw (cQ (bE xK (bG (JX rfl) (by rfl) T.max PyProof.Rows.boot_max (ae (pv 2) aj)) ao (bJ _)) (aA (aV (cN (bA T) hr T.aX T.bp.kp T.bu (ae (pv 0) (ae ao aj))))) bS)
   (aw (cQ (bE xK (bG aT (by rfl) T.len aO (ae (aY bU (pv 1) ao) aj)) ao (bJ _)) (aA (aV (aY bW (eS (ae (cN (bA T) hr T.aX T.bp.kp T.bu (ae (pv 0) (ae ao aj))) (ae (bG aT (by rfl) T.len aO (ae (aY bU (pv 1) ao) aj)) aj))) (cN (bA T) hr T.aX T.bp.kp T.bu (ae (pv 0) (ae ao aj)))))) bS)
   (aw (cQ (PW.pt (kK (bE uq (bG aT (by rfl) T.len aO (ae (aY bU (pv 1) ao) aj)) ao (bJ _)) (mZ (bE fF (cN (bA T) hr T.aX T.bp.kp T.bu (ae (pv 0) (ae ao aj))) ao (bJ _))))) (aA (aV (cN (bA T) hr T.aX T.bp.kp T.bu (ae (pv 0) (ae ao aj))))) bS)
   (aA (aV (cN (bA T) hr T.aX T.bp.kp T.bu (ae (pv 0) (ae (bK fG ao (bG aT (by rfl) T.len aO (ae (aY bU (pv 1) ao) aj))) aj)))))))))),?_⟩
  refine aP (σ:=[some (.ref b),some (.ref r),none,none]) rfl ?_;have d8:=D.n8;have i4:=D.i4;obtain ⟨m,p,l,g,n1,n2,n3,Gm,Gp,Gl⟩:=id PQ;obtain ⟨um,gm,qm,_⟩:=id Gm;obtain ⟨up,gp,qp,_⟩:=id Gp;have lum:=qm.length;have lup:=qp.length;walk_at "w";refine dI λbl0 H1 s1 nbl g1=>?_
  have g':=s1 _ _ g;walk_at "w";refine uh (s1 _ _ gm) (s1 _ _ gp) (bg (bN (by lia))) λcc H2 s2 nc gc=>?_
  have s02:=s1.trans s2;have qc:Paired (cP K H0 H2) (mv++pt) (um++up):=Paired.imp' (λ_ _ z=>cP.same z s02) (cM qm qp)
  have wc:∀xs∈mv++pt,xs.length=mv.length:=λxs hx=>by
   rcases ax.mp hx with hx | hx
   ·exact D.mw xs hx
   ·exact D.pw xs hx
  have lc:(mv++pt).length=(um++up).length:=qc.length;rw[av,av] at lc;walk_at "w";refine ⟨⟨_,bO.of gc⟩,?_⟩;refine i5 (K:=K) (a:=cc) (xs:=um++up) (λi σ' H'=>aG H2 H'/\∃bl ns y,σ'=[some (.ref b),some (.ref r),some (.ref bl),y]/\H' bl=some (.lst (ns.map V.int))/\1<=ns.length/\ns.length<=1+i*8/\∀j xs,j < i->(mv++pt)[j]?=some xs->∀x∈xs,Pq x∈ns) ⟨aG.refl _,bl0,[1],_,rfl,s2 _ _ g1,by decide,by decide,λj xs h=>absurd h (fg _)⟩ (λi σ' H' _ ⟨e,_⟩=>bO.of (e _ _ gc)) ?_ ?_
  ·rintro i v σ' H' hv ⟨e,bl,ns,y,rfl,gb,b1,b2,hn⟩;obtain ⟨xs,exs,u,rfl,_,zs,gz,qz⟩:=cL qc hv;have mx:=ar exs;have wx:=wc xs mx;have hi:i < (um++up).length:=(aD.mp hv).1;rw[av] at hi;walk_at "w";refine ⟨⟨_,bO.of (e _ _ gz)⟩,?_⟩;refine cB (K:=K) (F:=cg K) (λ_ c x=>x=V.int (Pq c)) id (e _ _ gz) (Paired.imp' (λ_ _ z=>z.same e) qz) (by lia) (λa b=>a.same b) (λa _=>a) ?_ ?_
   ·rintro j c x Ha NY NN ec sa ⟨pp,rfl,hp⟩ k1;have mc:=ar ec;have szc:=sz xs mx c mc;walk_at "w"
    have e1:(if (nm c).1 < 0 then -(nm c).1 else (nm c).1)=(c.num.natAbs:Int):=by
     show (if c.num < 0 then -c.num else c.num)=_
     split <;> lia
    have e2:(c.num.natAbs:Int).fdiv 1000=(c.num.natAbs:Int) / 1000:=cu _ (by decide);rw[e1];refine fD (show rK _ _ from ⟨by decide,bH (show (1000:Int).natAbs < 2^20 by decide) (ak (by decide) (by decide))⟩) ?_;rw[e2];walk_at "w";exact k1 _ _ (aG.refl _) rfl
   rintro ys Hb cl hcl sb gcl prl _
   have ey:ys=(xs.map Pq).map V.int:=by
    rw[jc] at prl;rw[vU];exact Dl prl
   have ly:=prl.length;rw[ag] at ly;have gbb:=sb _ _ gb;rw[ey] at gcl;walk_at "w";refine uh gbb gcl (bg (bN (by rw[ag,ag,ag];lia))) λc2 Hc sc nc2 gc2=>?_
   rw[<- cm] at gc2;refine ⟨(e.trans sb).trans sc,c2,ns++xs.map Pq,_,rfl,gc2,by rw[av];lia,by rw[av,ag];lia,λj ys' hj ej x hx=>?_⟩;rcases cb j i with z | z
   ·exact hJ _ (hn j ys' z ej x hx)
   ·have:j=i:=by lia
    subst this;rw[exs] at ej;cases ej;exact bP _ (az.mpr ⟨x,hx,rfl⟩)
  ·rintro σ' H' ⟨e,bl,ns,y,rfl,gb,b1,b2,hn⟩;have e0:=s02.trans e;have B':=hB.same e0;have PQ':=PQ.same e0;obtain ⟨m',p',l',g2,_,_,_,Gm',_,_⟩:=id PQ'
   have em:m'=m:=by
    have:=e0 _ _ g;rw[this] at g2;cases g2;rfl
   subst em;obtain ⟨um',gm',qm',_⟩:=id Gm';have lum':=qm'.length;have u0:cO b H H':=e0.upto;walk_at "w";refine ⟨bl,ns,rfl,bO.of gb,by lia,λM hM hmax=>?_⟩;walk_at "w";refine il (λh=>?_) (λh=>?_)
   ·walk_at "w";refine ⟨b,4,rfl,B',by decide,by decide,λv H3 v0 v1 B3 u3=>?_⟩;obtain ⟨v,rfl⟩:=cD v0;exact k v H3 ⟨by lia,.inl (by lia)⟩ B3 (u0.trans u3)
   ·have M9:M<=9:=by rw[decide_eq_true_eq] at h;lia
    have sm:∀xs∈mv++pt,∀x∈xs,x.den<=9/\x.num.natAbs < 1000:=λxs hx x hx'=>by
     obtain ⟨j,hj,rfl⟩:=bR hx;have:=hn j _ (by rw[av,<- lum,<- lup];rw[av] at hj;exact hj) (af hj) x hx';exact Ni (Int.le_trans (hmax _ this) M9)
    walk_at "w";refine ⟨_,_,rfl,.inl (bO.of gm'),?_⟩;rw[<- lum'];walk_at "w";refine il (λh1=>?_) (λh1=>?_)
    ·have n5:5 < mv.length:=by have:=of_decide_eq_true h1;lia
     walk_at "w";refine ⟨b,4,rfl,B',by decide,by decide,λv H3 v0 v1 B3 u3=>?_⟩;obtain ⟨v,rfl⟩:=cD v0;obtain ⟨m3,p3,l3,g3,_,_,_,Gm3,_,_⟩:=PQ'.upto u3 B' nb;obtain ⟨um3,gm3,qm3,_⟩:=id Gm3;have lum3:=qm3.length;walk_at "w";refine ⟨_,_,rfl,.inl (bO.of gm3),?_⟩;rw[<- lum3];walk_at "w";refine dI λl4 H4 s4 n4 g4=>?_
     walk_at "w";refine ⟨b,2,rfl,B3.same s4,by decide,by decide,λv2 H5 v20 v21 B5 u5=>?_⟩;have g5:=u5.other (λz=>B3.at (by rw[<- z];exact n4)) g4;obtain ⟨x,ex,mx,_⟩:=mL (xs:=[V.int (v:Int),V.int (mv.length:Int)]) v20 (by simpa using v21);walk_at "w";refine cz (bO.of g5) ex ?_;have u05:=(u0.trans (u3.same s4)).trans u5;simp only[aE,aM,or_false] at mx;rcases mx with rfl | rfl
     ·exact k v H5 ⟨by lia,.inl (by lia)⟩ B5 u05
     ·exact k mv.length H5 ⟨by lia,.inr ⟨sm,λ_=>au _,λ_ _=>tX _⟩⟩ B5 u05
    ·have n5:mv.length<=5:=by rw[decide_eq_true_eq] at h1;lia
     walk_at "w";refine ⟨_,_,rfl,.inl (bO.of gm'),?_⟩;rw[<- lum'];have last:∀(Hx:Hp),iV Hx b->cO b H Hx->∀(v:Nat),v < 2+mv.length->Q (.int v) Hx:=λHx Bx ux v hv=>k v Hx ⟨by lia,.inr ⟨sm,λz=>by lia,λ_ _=>by lia⟩⟩ Bx ux
     walk_at "w";refine il (λh2=>?_) (λh2=>?_)
     ·have n3':mv.length < 3:=by have:=of_decide_eq_true h2;lia
      walk_at "w";refine ⟨b,8,rfl,B',by decide,by decide,λv H3 v0 v1 B3 u3=>?_⟩;walk_at "w";refine il (λh3=>?_) (λh3=>?_)
      ·walk_at "w";refine ⟨b,13,rfl,B3,by decide,by decide,λv4 H4 v40 v41 B4 u4=>?_⟩;obtain ⟨v4,rfl⟩:=cD v40;exact k v4 H4 ⟨by lia,.inr ⟨sm,λz=>by lia,λz _=>by lia⟩⟩ B4 ((u0.trans u3).trans u4)
      ·obtain ⟨m3,p3,l3,g3,_,_,_,Gm3,_,_⟩:=PQ'.upto u3 B' nb;obtain ⟨um3,gm3,qm3,_⟩:=id Gm3;have lum3:=qm3.length;walk_at "w";refine ⟨_,_,rfl,.inl (bO.of gm3),?_⟩;rw[<- lum3];walk_at "w";rw[show ((2:Int)+(mv.length:Int))=((2+mv.length:Nat):Int) by lia];refine ⟨b,2+mv.length,rfl,B3,by lia,by lia,λv4 H4 v40 v41 B4 u4=>?_⟩;obtain ⟨v4,rfl⟩:=cD v40;exact last H4 B4 ((u0.trans u3).trans u4) v4 (by lia)
     ·walk_at "w";refine ⟨_,_,rfl,.inl (bO.of gm'),?_⟩;rw[<- lum'];walk_at "w";rw[show ((2:Int)+(mv.length:Int))=((2+mv.length:Nat):Int) by lia];refine ⟨b,2+mv.length,rfl,B',by lia,by lia,λv4 H4 v40 v41 B4 u4=>?_⟩;obtain ⟨v4,rfl⟩:=cD v40;exact last H4 B4 (u0.trans u4) v4 (by lia)
theorem xD:bf ["_law_thing"] ["_law_thing"] (ay jI):=by walk_at "d"
theorem v5 (T:Txt K mg Z):∀i:Nat,cJ P w K mg base gE (0+i+1) Z.mM Z.mJ ["_law_thing"] (Iv K i)
| 0=>T.jT.ok xD (λvs H Q E h=>(show False from h).elim) (λcdv A outer s H vs Q E hr h=>(show False from h).elim)
| i+1=>by
 have zT:=v5 T i;refine T.jT.ok xD (λvs H Q E h=>?_) (λcdv A outer s H vs Q E hr h=>?_)
 ·obtain ⟨x,rfl,_⟩:=h;rfl
 ·obtain ⟨x,rfl,h⟩:=h
  refine ⟨_,(aw (cQ (fE (o6 rfl T.isinstance PyProof.Rows.boot_list T.list (pv 0))) (aA (aV (bZ ["_law_one"] [] [] (b9 (pv 0)) (λ_=>(aK (i:=0) (show List.Nodup (α:=PySem.Str) ["_law_one"] by decide +kernel))) (λ_=>cf) (λ_=>(Ab zT (hr.mono (by lia)) rfl T.ng T.jT.kp T.pV .nil FK (ae (pv 0) aj)))))) bS)
   (aw (cQ (fE (o6 rfl T.isinstance PyProof.Rows.boot_tuple T.tuple (pv 0))) (aA (aV (eX CF (by rfl) T.tuple PyProof.Rows.boot_tuple (ae (bZ ["_law_one"] [] [] (KL (pv 0)) (λ_=>(aK (i:=0) (show List.Nodup (α:=PySem.Str) ["_law_one"] by decide +kernel))) (λ_=>cf) (λ_=>(Ab zT (hr.mono (by lia)) rfl T.ng T.jT.kp T.pV .nil FK (ae (pv 0) aj)))) aj)))) bS)
   (aA (aV (pv 0))))),?_⟩
  refine aP (σ:=[some x]) rfl ?_;rcases h with ⟨fx,k⟩ | ⟨hi,q,nq,k⟩ | ⟨hi,p,qs,rfl,Rp,l100,k⟩ | ⟨hi,p,H0,rs,rfl,Gp,l100,w100,k⟩ | ⟨hi,t,xs,H0,ds,rfl,st,pd,l10,hok,k⟩
  ·walk_at "w";cases x with
   | non =>
    refine .inl ⟨_,false,.non,rfl,?_⟩;walk_at "w";refine .inl ⟨_,false,.non,rfl,?_⟩;walk_at "w";exact k _ (aG.refl _)
   | bl v =>
    refine .inl ⟨_,false,.bl v,rfl,?_⟩;walk_at "w";refine .inl ⟨_,false,.bl v,rfl,?_⟩;walk_at "w";exact k _ (aG.refl _)
   | int v =>
    refine .inl ⟨_,false,.int v,rfl,?_⟩;walk_at "w";refine .inl ⟨_,false,.int v,rfl,?_⟩;walk_at "w";exact k _ (aG.refl _)
   | str v =>
    refine .inl ⟨_,false,.str v,rfl,?_⟩;walk_at "w";refine .inl ⟨_,false,.str v,rfl,?_⟩;walk_at "w";exact k _ (aG.refl _)
   | _=>exact absurd (show false=true from fx) aU
  ·obtain ⟨j,rfl⟩:∃j,i=j+1:=⟨i - 1,by lia⟩;obtain ⟨p,rfl,sq⟩:=id nq;walk_at "w";refine .inr ⟨p,_,false,rfl,sq,rfl,?_⟩;walk_at "w";refine .inr ⟨p,_,true,rfl,sq,rfl,?_⟩;walk_at "w";refine ⟨⟨_,sq⟩,?_⟩;refine DC (K:=K) (as:=[(nm q).1,(nm q).2]) (F:=λ_ c x=>x=V.int c) (λ_ c x=>x=V.int c) id sq (.cons rfl (.cons rfl .nil)) (by simp) (λh _=>h) (λh _=>h) ?_ ?_
   ·rintro i2 c x H' NY NN ec s' rfl k1;walk_at "w";exact ⟨_,rfl,.inl ⟨rfl,λH2 s2=>k1 _ _ s2 rfl⟩⟩
   rintro ys H2 l hl s2 g2 pr _
   obtain rfl:ys=[V.int (nm q).1,V.int (nm q).2]:=by
    cases pr with
    | cons h1 t=>cases t with
     | cons h2 t'=>cases t';rw[h1,h2];rfl
   walk_at "w";refine ⟨l,_,rfl,.inl ⟨bO.of g2,λr hr=>?_⟩⟩;exact k r _ (s2.trans (aG.new hr)) ⟨r,rfl,kj.of aI⟩
  ·obtain ⟨j,rfl⟩:∃j,i=j+1:=⟨i - 1,by lia⟩;obtain ⟨xs,g,qx⟩:=id Rp;have lx:=qx.length;walk_at "w";refine .inl ⟨_,true,.lst g,rfl,?_⟩;walk_at "w";refine ⟨⟨_,bO.of g⟩,?_⟩;refine cB (K:=K) (as:=qs) (F:=cg K) (cg K) id g qx (by lia) (λh s=>h.same s) (λh s=>h.same s) ?_ ?_
   ·rintro i2 c x H' NY NN ec s' nc k1;walk_at "w";exact ⟨_,rfl,.inr (.inl ⟨by lia,c,nc,λr H2 s2 n2=>k1 _ _ s2 n2⟩)⟩
   rintro ys H2 l hl s2 g2 pr _;rw[jc] at pr;exact k l H2 hl s2 ⟨ys,g2,pr⟩
  ·obtain ⟨j,rfl⟩:∃j,i=j+1:=⟨i - 1,by lia⟩;obtain ⟨xs,g,qx,_⟩:=id Gp;have lx:=qx.length;walk_at "w";refine .inl ⟨_,true,.lst g,rfl,?_⟩;walk_at "w";refine ⟨⟨_,bO.of g⟩,?_⟩;refine cB (K:=K) (as:=rs) (F:=cP K H0) (cP K H) id g qx (by lia) (λh s=>h.same s) (λh s=>h.same s) ?_ ?_
   ·rintro i2 c x H' NY NN ec s' ⟨q,rfl,nq,Rq⟩ k1;walk_at "w";exact ⟨_,rfl,.inr (.inr (.inl ⟨by lia,q,c,rfl,Rq,w100 c (ar ec),λr H2 nr s2 R2=>k1 _ _ s2 ⟨r,rfl,s'.none nr,R2⟩⟩))⟩
   rintro ys H2 l hl s2 g2 pr nx;rw[jc] at pr nx;exact k l H2 hl s2 ⟨ys,g2,pr,j6 nx⟩
  ·obtain ⟨j,rfl⟩:∃j,i=j+1:=⟨i - 1,by lia⟩;walk_at "w";refine .inr ⟨t,_,false,rfl,st,rfl,?_⟩;walk_at "w";refine .inr ⟨t,_,true,rfl,st,rfl,?_⟩;walk_at "w";refine ⟨⟨_,st⟩,?_⟩;refine DC (K:=K) (as:=ds) (F:=Gz K H0) (Gz K H) id st pd (by lia) (λh s=>h.same s) (λh s=>h.same s) ?_ ?_
   ·rintro i2 c x H' NY NN ec s' ec' k1;have ok:=hok c (ar ec);walk_at "w";cases c with
    | fl v =>
     obtain rfl:x=v:=ec';exact ⟨_,rfl,.inl ⟨ok,λH2 s2=>k1 _ _ s2 rfl⟩⟩
    | row qs =>
     obtain ⟨p,rfl,np,Rp⟩:=ec';exact ⟨_,rfl,.inr (.inr (.inl ⟨by lia,p,qs,rfl,Rp,ok,λr H2 nr s2 R2=>k1 _ _ s2 ⟨r,rfl,s'.none nr,R2⟩⟩))⟩
    | grid rs =>
     obtain ⟨p,rfl,np,Gp⟩:=ec';exact ⟨_,rfl,.inr (.inr (.inr (.inl ⟨by lia,p,H0,rs,rfl,Gp,ok.1,ok.2,λr H2 nr s2 G2=>k1 _ _ s2 ⟨r,rfl,s'.none nr,G2.weak s'⟩⟩)))⟩
   rintro ys H2 l hl s2 g2 pr _;rw[jc] at pr;have ly:=pr.length;walk_at "w";refine ⟨l,_,rfl,.inl ⟨bO.of g2,λr hr=>?_⟩⟩;exact k r ys _ (s2.trans (aG.new hr)) aI (Paired.imp' (λ_ _ z=>Gz.same z (aG.new hr)) pr)
theorem Eu (T:Txt K mg Z):cJ P w K mg base gE 6 Z.mM Z.mJ ["_law_thing"] (Iv K 5):=v5 T 5
theorem qH:bf ["_law_thing","_law_one"] ["_law_thing"] (ay iE):=by walk_at "d"
theorem uv (T:Txt K mg Z):∀i:Nat,cJ P w K mg base gE (0+i+1) Z.kg Z.kd ["_law_thing"] (CT K i)
| 0=>T.ks.ok qH (λvs H Q E h=>(show False from h).elim) (λcdv A outer s H vs Q E hr h=>(show False from h).elim)
| i+1=>by
 have EW:=uv T i;refine T.ks.ok qH (λvs H Q E h=>?_) (λcdv A outer s H vs Q E hr h=>?_)
 ·obtain ⟨x,rfl,_⟩:=h;rfl
 ·obtain ⟨x,rfl,h⟩:=h
  refine ⟨_,(aw (cQ (fE (bG JY (by rfl) T.isinstance PyProof.Rows.boot_isinstance (ae (pv 0) (ae (cY (ae (Ac (v:=.ty "list") rfl T.list PyProof.Rows.boot_list rfl) (ae (Ac (v:=.ty "tuple") rfl T.tuple PyProof.Rows.boot_tuple rfl) aj))) aj)))) (aA (ee PassesOwn.never rfl (ON (pv 0)) (aK (i:=1) qH.nd)
    (aA (jY (Ab EW (hr.mono (by lia)) rfl T.qN T.ks.kp T.sY .nil FK (ae (pv 1) aj)))))) bS)
   (aA (cQ (fE (o6 rfl T.isinstance PyProof.Rows.boot_list T.list (pv 0))) (aA (jY (AX dE eO eN oz (pv 0) (ae (cY (ae ao (ae ao aj))) aj)))) bS))),?_⟩
  refine aP (σ:=[some x,none]) rfl ?_;walk_at "w";refine cv λtp H1 s1 g1=>?_
  rcases h with ⟨fx,k⟩ | ⟨hi,n,nq,k⟩ | ⟨hi,p,zs,rfl,gp,l500,hz,k⟩ | ⟨hi,p,us,rfl,gp,l100,pu,hu,k⟩ | ⟨hi,t,xs,ews,rfl,st,pd,l10,hok,dj,k⟩
  ·walk_at "w";cases x with
   | non =>
    refine ⟨_,tp,rfl,g1,.inl ⟨_,false,.non,rfl,?_⟩⟩;walk_at "w";refine .inl ⟨_,false,.non,rfl,?_⟩;walk_at "w";exact k _ s1
   | bl v =>
    refine ⟨_,tp,rfl,g1,.inl ⟨_,false,.bl v,rfl,?_⟩⟩;walk_at "w";refine .inl ⟨_,false,.bl v,rfl,?_⟩;walk_at "w";exact k _ s1
   | int v =>
    refine ⟨_,tp,rfl,g1,.inl ⟨_,false,.int v,rfl,?_⟩⟩;walk_at "w";refine .inl ⟨_,false,.int v,rfl,?_⟩;walk_at "w";exact k _ s1
   | str v =>
    refine ⟨_,tp,rfl,g1,.inl ⟨_,false,.str v,rfl,?_⟩⟩;walk_at "w";refine .inl ⟨_,false,.str v,rfl,?_⟩;walk_at "w";exact k _ s1
   | _=>exact absurd (show false=true from fx) aU
  ·obtain ⟨j,rfl⟩:∃j,i=j+1:=⟨i - 1,by lia⟩;obtain ⟨p,rfl,sq⟩:=id nq;have sq1:=s1.sqt sq;walk_at "w";refine ⟨_,tp,rfl,g1,.inr ⟨p,_,rfl,sq1,?_⟩⟩;walk_at "w";unfold Lj;walk_at "w";refine .inr ⟨⟨_,sq1⟩,?_⟩;refine EG (K:=K) (a:=p) (xs:=[V.int n.1,V.int n.2]) (λi σ' H'=>aG H1 H'/\∃y,σ'=[some (.ref p),y]) ⟨aG.refl _,_,rfl⟩ (λi σ' H' _ ⟨s,_⟩=>s.sqt sq1) ?_ ?_
   ·rintro i2 x σ' H2 hx ⟨s2,y,rfl⟩;have hm:=ar hx
    have fx:rA x=true:=by
     simp only[aE,aM,or_false] at hm;rcases hm with rfl | rfl <;> rfl
    walk_at "w";exact ⟨_,rfl,.inl ⟨fx,λH3 s3=>⟨s2.trans s3,_,rfl⟩⟩⟩
   rintro σ' H2 ⟨s2,y,rfl⟩;walk_at "w";refine .inr ⟨p,_,false,rfl,s2.sqt sq1,rfl,?_⟩;walk_at "w";exact k _ (s1.trans s2)
  ·obtain ⟨j,rfl⟩:∃j,i=j+1:=⟨i - 1,by lia⟩;have gp1:=s1 _ _ gp;walk_at "w";refine ⟨_,tp,rfl,g1,.inl ⟨_,true,.lst gp1,rfl,?_⟩⟩;walk_at "w";unfold Lj;walk_at "w";refine .inl ⟨⟨_,bO.of gp1⟩,?_⟩;refine i5 (K:=K) (a:=p) (xs:=zs) (λi σ' H'=>aG H1 H'/\∃y,σ'=[some (.ref p),y]) ⟨aG.refl _,_,rfl⟩ (λi σ' H' _ ⟨s,_⟩=>bO.of (s _ _ gp1)) ?_ ?_
   ·rintro i2 x σ' H2 hx ⟨s2,y,rfl⟩;obtain ⟨n,nx⟩:=hz x (ar hx);walk_at "w";exact ⟨_,rfl,.inr (.inl ⟨by lia,n,(s1.trans s2).num nx,λH3 s3=>⟨s2.trans s3,_,rfl⟩⟩)⟩
   rintro σ' H2 ⟨s2,y,rfl⟩;have gp2:=s2 _ _ gp1;walk_at "w";refine .inl ⟨_,true,.lst gp2,rfl,?_⟩;walk_at "w";refine ⟨.inl ⟨rfl,_,bO.of gp2⟩,?_⟩;walk_at "w";refine cv λt7 H3 s3 g3=>?_
   walk_at "w";have gp3:=s3 _ _ gp2;refine kJ gp3 (bN (by lia)) ?_;walk_at "w";exact k t7 _ ((Kp.of ((s1.trans s2).trans s3)).trans (Kp.upd gp3 rfl)) (by rw[bF λz=>by rw[z,gp3] at g3;cases g3];exact g3) aI
  ·obtain ⟨j,rfl⟩:∃j,i=j+1:=⟨i - 1,by lia⟩;have gp1:=s1 _ _ gp;walk_at "w";refine ⟨_,tp,rfl,g1,.inl ⟨_,true,.lst gp1,rfl,?_⟩⟩;walk_at "w";unfold Lj;walk_at "w";refine .inl ⟨⟨_,bO.of gp1⟩,?_⟩;refine i5 (K:=K) (a:=p) (xs:=us) (λi σ' H'=>Kp (λa=>V.ref a∈us) H H'/\H' p=some (.lst us)/\(∀y∈us,∃q zs,y=.ref q/\H' q=some (.lst zs)/\zs.length<=100+i/\∀z∈zs,∃n,yE K H' z n)/\∃y,σ'=[some (.ref p),y]) ⟨.of s1,gp1,λy hy=>?_,_,rfl⟩ (λi σ' H' _ ⟨_,g,_⟩=>bO.of g) ?_ ?_
   ·obtain ⟨q,zs,a1,a2,a3,a4⟩:=hu y hy;exact ⟨q,zs,a1,s1 _ _ a2,a3,λz hz=>by obtain ⟨n,hn⟩:=a4 z hz;exact ⟨n,s1.num hn⟩⟩
   ·rintro i2 x σ' H2 hx ⟨k2,g2,hu2,y,rfl⟩;have mx:=ar hx;have hi2:i2 < us.length:=(aD.mp hx).1;obtain ⟨q,zs,rfl,gq,lz,hz⟩:=hu2 x mx;have qp:p≠q:=λz=>pu (by rw[z];exact mx)
    walk_at "w";refine ⟨_,rfl,.inr (.inr (.inl ⟨by lia,q,zs,rfl,gq,by lia,hz,λt7 H3 k3 g7 gq3=>?_⟩))⟩;refine ⟨k2.trans (k3.mono λa e=>by rw[e];exact mx),k3 _ _ g2 (.inl qp),λy' hy'=>?_,_,rfl⟩;obtain ⟨q',zs',rfl,gq',lz',hz'⟩:=hu2 y' hy';by_cases e:q'=q
    ·subst e;refine ⟨q',_,rfl,gq3,by rw[av,be];rw[gq] at gq';cases gq';lia,λz mz=>?_⟩;rcases ax.mp mz with mz | mz
     ·obtain ⟨n,hn⟩:=hz z mz;exact ⟨n,k3.numR hn⟩
     ·rw[cw.mp mz];exact ⟨(7,1),t7,rfl,kj.of g7⟩
    ·exact ⟨q',zs',rfl,k3 _ _ gq' (.inl e),by lia,λz mz=>by obtain ⟨n,hn⟩:=hz' z mz;exact ⟨n,k3.numR hn⟩⟩
   rintro σ' H2 ⟨k2,gp2,_,y,rfl⟩;walk_at "w";refine .inl ⟨_,true,.lst gp2,rfl,?_⟩;walk_at "w";refine ⟨.inl ⟨rfl,_,bO.of gp2⟩,?_⟩;walk_at "w";refine cv λt7 H3 s3 g3=>?_
   walk_at "w";have gp3:=s3 _ _ gp2;refine kJ gp3 (bN (by lia)) ?_;walk_at "w";exact k _ (((k2.mono λa e=>.inr e).trans (Kp.of s3)).trans (Kp.upd gp3 (.inl rfl)))
  ·obtain ⟨j,rfl⟩:∃j,i=j+1:=⟨i - 1,by lia⟩;have st1:=s1.sqt st;have lx:=pd.length;walk_at "w";refine ⟨_,tp,rfl,g1,.inr ⟨t,_,rfl,st1,?_⟩⟩;walk_at "w";unfold Lj;walk_at "w";refine .inr ⟨⟨_,st1⟩,?_⟩;refine EG (K:=K) (a:=t) (xs:=xs) (λi σ' H'=>Kp (λa=>∃e∈ews,e.2 a) H H'/\(∀m e v,i<=m->ews[m]?=some e->xs[m]?=some v->Pk K e.2 H' e.1 v)/\∃y,σ'=[some (.ref t),y]) ⟨.of s1,λm e v _ he hv=>?_,_,rfl⟩ (λi σ' H' _ ⟨k2,_⟩=>k2.sqt st) ?_ ?_
   ·obtain ⟨e',he',el⟩:=cL pd hv;rw[he] at he';cases he';exact el.kp (S:=λ_=>False) (.of s1) (λ_ _ z=>z)
   ·rintro i2 x σ' H2 hx ⟨k2,hel,y,rfl⟩;obtain ⟨e,he,_⟩:=cL pd hx;have el:=hel i2 e x (au _) he hx;have me:=ar he;have ok:=hok e me;have nxt:∀H3,Kp e.2 H2 H3->∀m e' v,i2+1<=m->ews[m]?=some e'->xs[m]?=some v->Pk K e'.2 H3 e'.1 v:=λH3 k3 m e' v hm he' hv=>(hel m e' v (by lia) he' hv).kp k3 λa h1 h2=>dj i2 m e e' (by lia) he he' a h1 h2
    have upk:∀H3,Kp e.2 H2 H3->Kp (λa=>∃e∈ews,e.2 a) H H3:=λH3 k3=>k2.trans (k3.mono λa h=>⟨e,me,h⟩)
    walk_at "w";obtain ⟨d,W⟩:=e;cases d with
    | fl v =>
     obtain rfl:x=v:=el;exact ⟨_,rfl,.inl ⟨ok,λH3 s3=>⟨upk H3 (.of s3),nxt H3 (.of s3),_,rfl⟩⟩⟩
    | row qs =>
     obtain ⟨p,rfl,wp,zs,gz,qz⟩:=el;have lz:=qz.length;have ok:qs.length<=100:=ok;refine ⟨_,rfl,.inr (.inr (.inl ⟨by lia,p,zs,rfl,gz,by lia,λz mz=>?_,λt7 H3 k3 _ _=>?_⟩))⟩
     ·obtain ⟨c,_,nc⟩:=cF qz mz;exact ⟨_,nc⟩
     ·have k3':Kp W H2 H3:=k3.mono λa e=>by rw[e];exact wp
      exact ⟨upk H3 k3',nxt H3 k3',_,rfl⟩
    | grid rs =>
     obtain ⟨p,us,rfl,wp,gu,nu,qu⟩:=el;have lu:=qu.length;have ok1:rs.length<=100:=ok.1;refine ⟨_,rfl,.inr (.inr (.inr (.inl ⟨by lia,p,us,rfl,gu,by lia,nu,λy my=>?_,λH3 k3=>?_⟩)))⟩
     ·obtain ⟨qs,mq,q,rfl,_,zs,gz,qz⟩:=cF qu my;have lz:=qz.length;have:=ok.2 qs mq;exact ⟨q,zs,rfl,gz,by lia,λz mz=>by obtain ⟨c,_,nc⟩:=cF qz mz;exact ⟨_,nc⟩⟩
     ·have k3':Kp W H2 H3:=k3.mono λa e=>by
       rcases e with e | e
       ·rw[e];exact wp
       ·obtain ⟨qs,_,q,eq,wq,_⟩:=cF qu e;cases eq;exact wq
      exact ⟨upk H3 k3',nxt H3 k3',_,rfl⟩
   rintro σ' H2 ⟨k2,_,y,rfl⟩;walk_at "w";refine .inr ⟨t,_,false,rfl,k2.sqt st,rfl,?_⟩;walk_at "w";exact k _ k2
theorem CA (T:Txt K mg Z):cJ P w K mg base gE 6 Z.kg Z.kd ["_law_thing"] (CT K 5):=uv T 5
theorem kB:bf ["_law_script","_law_bag_here","_law_parts_here","_law_wide","_law_n","_law_system_here","_law_found","_law_rows","_law_weights","_law_row_here","_law_k","_law_start","_law_kept_here"] ["_law_script"] (ay Dj):=by walk_at "d"
theorem OQ (T:Txt K mg Z):cJ P w K mg base gE 10 Z.LP Z.LG ["_law_script"] (AG K):=by
 refine T.N6.ok kB (λvs H Q E h=>?_) (λcdv A outer s H vs Q E hr h=>?_)
 ·obtain ⟨a,ns,rfl,_⟩:=h;rfl
 ·obtain ⟨a,ns,rfl,hS,hlen,k⟩:=h
  refine ⟨_,(aw (br (i:=1) kB.nd rfl (Or.inl rfl) (cN (FO T) hr T.zF T.xr.kp T.BU (ae (pv 0) aj)))
   (aw (fh (cN (Bj T) hr T.uH T.qU.kp T.wH (ae (pv 1) aj)) (w5 rfl (cV (aK (i:=2) kB.nd) (cV (aK (i:=3) kB.nd) lC))))
   (aw (br (i:=4) kB.nd rfl (Or.inl rfl) (bG aT (by rfl) T.len aO (ae (aY bU (pv 2) ao) aj)))
   (aw (br (i:=5) kB.nd rfl (Or.inl rfl) (cN (Es T) hr T.xY T.va.kp T.zN (ae (pv 2) aj)))
   (aw (br (i:=6) kB.nd rfl (Or.inl rfl) (cN (xM T) hr T.r8 T.qB.kp T.uQ (ae (pv 5) aj)))
   (aw (cQ (PW.pt (oI (jm (fE (o6 rfl T.isinstance PyProof.Rows.boot_tuple T.tuple (pv 6)))) (oI (bE uo (bG aT (by rfl) T.len aO (ae (pv 6) aj)) ao (bJ _)) (jX (jm (fE (cN (xP T) hr T.pe T.kY.kp T.rF (ae (aY bU (pv 6) ao) (ae (aY bU (pv 6) ao) (ae (pv 4) aj)))))))))) (aA (aV oJ)) bS)
   (aw (fh (pv 6) (w5 rfl (cV (aK (i:=7) kB.nd) (cV (aK (i:=8) kB.nd) lC))))
   (aw (cQ (bE (A0 (Ge hr)) (pv 7) (cN (FN T) hr T.Br T.Ap.kp T.EN (ae (cN (v7 T) hr T.qM T.nY.kp T.sX (ae (pv 5) (ae (pv 4) aj))) (ae (pv 4) aj))) (bJ _)) (aA (aV oJ)) bS)
   (aw (cQ (PW.pt (oI (bE uo (bG aT (by rfl) T.len aO (ae (pv 7) aj)) (bK j4 (pv 4) (bG aT (by rfl) T.len aO (ae (cN (xR T) hr T.sv T.qD.kp T.uS (ae (cN (CD T) hr T.wD T.tQ.kp T.yB (ae (pv 2) (ae (pv 4) aj))) (ae (pv 4) aj))) aj))) (bJ _)) (jX (bE uo (bG aT (by rfl) T.len aO (ae (cN (xR T) hr T.sv T.qD.kp T.uS (ae (pv 7) (ae (pv 4) aj))) aj)) (bG aT (by rfl) T.len aO (ae (pv 7) aj)) (bJ _))))) (aA (aV oJ)) bS)
   (aw (ee PassesOwn.never rfl (b9 (pv 7)) (aK (i:=9) kB.nd rfl (Or.inr rfl) (Or.inl rfl))
    (aA (cQ (bE (A0 (Ge hr)) (bZ ["_law_put"] ["_law_row_here"] [9] (b9 (aY bU (pv 2) ao)) (λ_=>(aK (i:=0) (show List.Nodup (α:=PySem.Str) ["_law_put","_law_row_here"] by decide +kernel))) (λ_=>cf) (λ_=>(cN (mH T) hr T.jN T.jr.kp T.kT (ae (pv 1) (ae (pv 0) aj))))) (bZ ["_law_put"] [] [] (b9 (aY bU (pv 2) ao)) (λ_=>(aK (i:=0) (show List.Nodup (α:=PySem.Str) ["_law_put"] by decide +kernel))) (λ_=>cf) (λ_=>(cY (ae ao (ae ao aj))))) (bJ _)) (aA (aV oJ)) bS)))
   (aw (ee PassesOwn.never rfl (cy rfl T.range (ae ao aj)) (aK (i:=10) kB.nd)
    (aw (br (i:=11) kB.nd rfl (Or.inl rfl) (cN (o8 T) hr T.jM T.jq.kp T.kS (ae (pv 1) (ae (pv 4) (ae (pv 3) aj)))))
   (aA (cQ (jm (fE (cN (Ew T) hr T.ya T.ve.kp T.zP (ae (pv 2) (ae (pv 7) (ae (pv 8) (ae (pv 11) (ae (cN (Eo T) hr T.xV T.uX.kp T.zK (ae (pv 1) (ae (pv 2) (ae (bK fG ao (cN (Cz T) hr T.wA T.tL.kp T.yy (ae (pv 1) (ae (pv 2) aj)))) (ae (pv 3) aj))))) aj)))))))) (aA (aV oJ)) bS))))
   (aw (br (i:=12) kB.nd rfl (Or.inl rfl) (cN (Eu T) hr T.ng T.jT.kp T.pV (ae (pv 6) aj)))
   (aw (jY (cN (CA T) hr T.qN T.ks.kp T.sY (ae (pv 6) aj)))
   (aA (aV (lD (KQ (Ge hr)) (cN (xM T) hr T.r8 T.qB.kp T.uQ (ae (pv 5) aj)) (pv 12) (bJ _))))))))))))))))),?_⟩
  refine aP (σ:=[some (.ref a),none,none,none,none,none,none,none,none,none,none,none,none]) rfl ?_;walk_at "w";refine ⟨a,ns,rfl,hS,hlen,λb H0 hb0 B0 s0=>?_⟩;walk_at "w";refine ⟨b,rfl,B0,λt r w a' c mv pt lk H1 g1 P1 D F KF RG w1 w2 B1 u1=>?_⟩;have d8:=D.n8;have d4:=D.i4;obtain ⟨m,p,l,gt,mn,pn,ln,Gm,Gp,Gl⟩:=id P1;obtain ⟨um,gm,qm,_⟩:=id Gm;have lum:=qm.length;walk_at "w";refine ⟨_,_,rfl,.inl (bO.of gm),?_⟩;rw[<- lum];clear gm qm lum Gm Gl;walk_at "w";refine ⟨r,H0,mv,pt,lk,rfl,P1,D,F.sf,λx H2 nx s2 S2=>?_⟩;replace S2:rH K H0 H2 Z.a_System x mv pt lk:=S2.weakN λq h=>u1.none B1 h
  replace P1:=P1.same s2;replace Gp:=Gp.same s2;replace gt:=s2 _ _ gt;have B2:=B1.same s2
  have szE:∀xs∈mv++pt,∀x∈xs,mV x:=λxs hx y hy=>by
   obtain ⟨M,V,h0,h1,h2,f1,f2,_⟩:=F;refine M8 h0 (ai h1 (ak (by decide) (by decide))) (ai h2 (ak (by decide) (by decide))) ?_;rcases ax.mp hx with hx | hx
   ·exact f1 xs hx y hy
   ·exact f2 xs hx y hy
  obtain ⟨A1,A2,A3,A4,A5,A6,A7,A8,A9,Y0⟩:=NG RG D (T:=0) ⟨by decide,.inl (by decide)⟩;obtain ⟨AD,SK,LK⟩:=Y0.kry D (by decide);walk_at "w";refine ⟨x,a',c,H0,mv,pt,lk,rfl,S2,D,KF,λft fp fq R ps Hm H3 gft sm sm3 nfp GNm nfq GU RR=>?_⟩;have s3:=sm.trans sm3;have GN:=GNm.same sm3;have NU:=Y0.nu D RR;obtain ⟨SN,LN⟩:=NU.lw;have nc:=y4 RR;have wN:∀xs∈aH R ps mv.length,xs.length=mv.length:=m6;have lUN:(mX mv R ps).length=(aH R ps mv.length).length:=z8;have wU:∀xs∈mX mv R ps,xs.length=(aH R ps mv.length).length:=Py;clear Y0;walk_at "w";refine .inr ⟨ft,_,_,rfl,kj.of gft,rfl,?_⟩;walk_at "w";refine ⟨_,_,rfl,.inr (kj.of gft),?_⟩;walk_at "w"
  try refine Lf ?_
  walk_at "w";refine ⟨fp,fq,mv.length,H2,Hm,_,_,rfl,GN,GU,by lia,by lia,lUN,λxs hx=>⟨wN xs hx,NU.sz xs hx⟩,λxs hx=>⟨wU xs hx,NU.su xs hx⟩,λH4 s4=>?_⟩;have s24:=s3.trans s4;have gf4:=s4 _ _ gft;walk_at "w";obtain ⟨Mq,q0,q1,tR⟩:=KF.tp d8 D.mw D.pw (au _) RR;obtain ⟨Mk,Vk,k0,ka,kc,_,_,a4,c4,k17,k89⟩:=id KF;have e17:(2:Nat)^(mv.length*(mv.length*(a'+c)+4))<=2^1740:=ak (by decide) k17;have pn:=RR.le;have lR:=RR.1
  have SR:Ig R mv.length (mv.length*(mv.length*(a'+c)+4)):=Km q0 (ai q1 (ak (by decide) (by lia))) (by lia) tR (m:=mv.length) (by lia) (by lia) (by
   refine ai (bx _ ?_) k89
   lia)
  have szR:∀xs∈R,∀x∈xs,mV x:=λxs hx x hx'=>wW (tR xs hx x hx') q0 (ai q1 (ai e17 (ak (by decide) (by decide)))) (ai e17 (ak (by decide) (by decide)))
  clear q0 q1 tR k0 ka kc e17;refine ⟨x,a',c,mv.length,H0,mv,pt,lk,rfl,by lia,S2.same s24,D,KF,λrr R2 ps2 H5 nrr s5 G5 RR2=>?_⟩;obtain ⟨rfl,rfl⟩:=RR2.same RR;walk_at "w";refine ⟨rr,mv.length,_,H4,_,R2,ps2,rfl,G5,by lia,by lia,RR,SR,szR,λnn H6 nnn s6 G6=>?_⟩;have s46:=s5.trans s6;have s36:=s4.trans s46;walk_at "w";refine ⟨_,_,EC,_,_,by decide,(GN.same s36).kind,G6.kind,?_⟩;rw[decide_eq_true rfl];clear G5 G6 SR szR;obtain ⟨us,gu,qu,_⟩:=id GN;have lu:=qu.length;have s26:=s3.trans s36;have kl:=EB (mv:=mv) (pt:=pt) mv.length;have kb:mv.length*pt.length<=8*4:=aN d8 d4;walk_at "w";refine ⟨_,_,rfl,.inl (bO.of (s36 _ _ gu)),?_⟩;rw[<- lu];walk_at "w";refine ⟨r,mv.length,H0,mv,pt,lk,rfl,by lia,P1.same s26,D,AD,λka H7 nka s7 G7=>?_⟩;walk_at "w";refine ⟨ka,mv.length,SK,H6,_,rfl,G7,by lia,by lia,ik rfl D.pw _,LK,λdu R3 ps3 H8 ndu s8 G8 RR3 _=>?_⟩;obtain ⟨rfl,rfl⟩:=RR3.same RR;obtain ⟨ds,gd,qd,_⟩:=id G8;have ld:=qd.length;walk_at "w";refine ⟨_,_,rfl,.inl (bO.of gd),?_⟩;rw[<- ld];walk_at "w";rw[decide_eq_true (show (((aH R3 ps3 mv.length).length:Nat):Int)=(mv.length:Int) - (R3.length:Nat) by lia)];have s38:=(s36.trans s7).trans s8;walk_at "w";refine ⟨fp,mv.length,SN,H2,_,rfl,GN.same s38,by lia,by lia,wN,LN,λd2 R4 ps4 H9 nd2 s9 G9 RR4 _=>?_⟩;have r4:=NU.rk R4 ps4 RR4;have lR4:=RR4.1;obtain ⟨es,ge,qe,_⟩:=id G9;have lde:=qe.length;have s39:=s38.trans s9;walk_at "w";refine ⟨_,_,rfl,.inl (bO.of ge),?_⟩;rw[<- lde];walk_at "w";refine ⟨_,_,rfl,.inl (bO.of (s39 _ _ gu)),?_⟩;rw[<- lu];walk_at "w";rw[decide_eq_true (show ((R4.length:Nat):Int)=((aH R3 ps3 mv.length).length:Nat) by lia)];clear G7 G8 G9 gd qd ld ge qe lde RR4 r4 lR4;walk_at "w";refine ⟨⟨_,bO.of (s39 _ _ gu)⟩,?_⟩;refine i5 (K:=K) (a:=fp) (xs:=us) (λi σ' H'=>aG H3 H'/\∃y1,σ'=[some (.ref a),some (.ref b),some (.ref r),some (.int w),some (.int mv.length),some (.ref x),some (.ref ft),some (.ref fp),some (.ref fq),y1,none,none,none]) ⟨s39,_,rfl⟩ (λi σ' H' _ ⟨e,_⟩=>bO.of (e _ _ gu)) ?_ ?_
  ·rintro i v σ' HA hv ⟨sA,y1,rfl⟩;obtain ⟨z,ez,u,rfl,_,Ru⟩:=cL qu hv;have mz:=ar ez;obtain ⟨pp,gpp,qpp,_⟩:=(Gp.same s3).same sA;have lpp:=qpp.length;have gtA:=sA _ _ (s3 _ _ gt);walk_at "w";refine ⟨⟨_,bO.of gpp⟩,?_⟩;refine cB (K:=K) (as:=pt) (F:=cP K H0) (cg K) (λxs=>dh z xs) gpp qpp (by lia) (λh s=>h.same s) (λh s=>h.same s) ?_ ?_
   ·rintro j xs v HB NY NN ex sB ⟨u2,rfl,_,Ru2⟩ k1;have mx:=ar ex;walk_at "w";refine ⟨u,u2,z,xs,rfl,(cX.same Ru sA).same sB,Ru2,by rw[wN z mz,D.pw xs mx],by rw[wN z mz];lia,NU.fp z mz xs mx,λd HC sC NC=>?_⟩;exact k1 _ _ sC NC
   rintro ys HB l1 hl1 sB gB prB _;have R1:cX K HB l1 (pt.map λxs=>dh z xs):=⟨ys,gB,prB⟩;clear gB prB;have gtB:=sB _ _ gtA;have gpB:=sB _ _ gpp;have qpB:Paired (cP K H0 HB) pt pp:=Paired.imp' (λ_ _ z=>cP.same z sB) qpp;walk_at "w";refine ⟨⟨_,bO.of gpB⟩,?_⟩;refine cB (K:=K) (as:=pt) (F:=cP K H0) (cg K) (λ_=>(0:Rat)) gpB qpB (by lia) (λh s=>h.same s) (λh s=>h.same s) ?_ ?_
   ·rintro j xs v HC NY NN ex sC _ k1;walk_at "w";refine cv λt0 HD sD gD=>?_
    exact k1 _ _ sD (cg.mk (q:=0) gD rfl)
   rintro ys2 HC l2 hl2 sC gC prC _;have R2':cX K HC l2 (pt.map λ_=>(0:Rat)):=⟨ys2,gC,prC⟩;walk_at "w";refine ⟨_,_,IT,_,_,by decide,(R1.same sC).kind,R2'.kind,?_⟩;rw[decide_eq_true (MV KF D RR mz)];walk_at "w";exact ⟨(sA.trans sB).trans sC,_,rfl⟩
  rintro σ' HA ⟨sA,y1,rfl⟩;have s2A:=s3.trans sA;have BA:=B2.same s2A;have bH2:H2 b≠none:=B2.at;have bHm:Hm b≠none:=λz=>bH2 (sm.none z)
  have fpb:fp≠b:=λz=>bH2 (by rw[<- z];exact nfp)
  have fqb:fq≠b:=λz=>bHm (by rw[<- z];exact nfq)
  have uA:cO b Hm HA:=(sm3.trans sA).upto;have gfA:=sA _ _ gft;have GNA:=GN.same sA;have GUA:=GU.same sA;replace P1:=P1.same s2A;have S2A:=S2.same s2A;clear GN GU gft Gp gt qu gu;walk_at "w";refine ⟨by lia,by lia,?_⟩;refine eL (n:=2) (λi σ' H'=>iV H' b/\cO b HA H'/\∃y2 y3,σ'=[some (.ref a),some (.ref b),some (.ref r),some (.int w),some (.int mv.length),some (.ref x),some (.ref ft),some (.ref fp),some (.ref fq),y1,y2,y3,none]) ⟨BA,cO.refl _,_,_,rfl⟩ ?_ ?_
  ·rintro i σ' HB hi ⟨BB,uB,y2,y3,rfl⟩;walk_at "w";refine ⟨b,mv.length,w,rfl,BB,by lia,w1,by lia,λq1 st HC nq1 Rst ls dst BC uC=>?_⟩;have q1b:q1≠b:=λz=>BB.at (by rw[<- z];exact nq1)
   have uAC:=uB.trans uC;have PC:=P1.upto uAC BA B0.at;walk_at "w";refine ⟨b,r,H0,mv,pt,lk,rfl,BC,B0.at,PC,D,szE,λtt HD hT BD uD=>?_⟩;have PD:=PC.upto uD BC B0.at;have t12:=hT.1;obtain ⟨C1,C2,C3,C4,C5,C6,C7,C8,C9,Y⟩:=NG RG D hT;walk_at "w";refine ⟨b,r,tt+1,w,H0,mv,pt,lk,by rw[show ((tt+1:Nat):Int)=1+(tt:Int) by lia],by lia,w1,w2,BD,B0.at,PD,D,λo pus HE no GO lo wo BE uE=>?_⟩;have uAE:=(uAC.trans uD).trans uE;walk_at "w";refine ⟨r,fp,fq,q1,o,H0,H2,Hm,HD,mv,pt,lk,_,_,pus,st,rfl,PD.upto uE BD B0.at,D,GNA.upto uAE BA fpb bH2,GUA.upto uAE BA fqb bHm,by lia,lUN,wN,wU,(Rst.upto uD BC q1b).upto uE BD q1b,ls,GO,by lia,λxs hx=>(wo xs hx).1,Y.go D RR ls dst lo wo,λHF sF=>?_⟩;walk_at "w";exact ⟨BE.same sF,uAE.same sF,_,_,rfl⟩
  rintro σ' HK ⟨BK,uK,y2,y3,rfl⟩;have gfK:=uK.tup BA gfA;have GNK:=GNA.upto uK BA fpb bH2;have GUK:=GUA.upto uK BA fqb bHm;have S2K:=S2A.upto uK BA B0.at;have umK:=uA.trans uK
  have kmK:Kp (λa=>a=b) Hm HK:=λa o h hn=>by
   by_cases z:a=b
   ·exfalso
    rcases hn with hn | hn
    ·exact hn z
    ·obtain ⟨qq,z1,z2,z3,_,e1,_⟩:=id (B2.same sm);rw[z,e1] at h;cases h;exact hn _ rfl
   ·exact umK.1 a o h z
  clear GUA S2A GNA gfA;have o1:Ed.ok (.grid (aH R3 ps3 mv.length)):=⟨by lia,λxs hx=>by rw[wN xs hx];lia⟩;have o2:Ed.ok (.grid (mX mv R3 ps3)):=⟨by lia,λxs hx=>by rw[wU xs hx];lia⟩;walk_at "w";refine ⟨_,rfl,.inr (.inr (.inr (.inr ⟨by decide,ft,_,H2,[.grid (aH R3 ps3 mv.length),.grid (mX mv R3 ps3)],rfl,kj.of gfK,.cons ⟨fp,rfl,nfp,GNK⟩ (.cons ⟨fq,rfl,sm.none nfq,GUK.weak sm⟩ .nil),by simp,λd hd=>?_,λkt yk HL sL gkt pk=>?_⟩)))⟩
  ·simp only[aE,aM,or_false] at hd;rcases hd with rfl | rfl
   ·exact o1
   ·exact o2
  walk_at "w";refine ⟨_,rfl,.inr (.inr (.inr (.inr ⟨by decide,ft,_,[(.grid (aH R3 ps3 mv.length),λa=>H2 a=none/\Hm a≠none),(.grid (mX mv R3 ps3),λa=>Hm a=none/\HK a≠none)],rfl,kj.of (sL _ _ gfK),.cons ?_ (.cons (Gz.elW (d:=.grid (mX mv R3 ps3)) ⟨fq,rfl,nfq,GUK⟩ sL) .nil),by simp,λe he=>?_,λi j e e' hij hi hj a h1 h2=>?_,λHM kM=>?_⟩)))⟩
  ·exact ((Gz.elW (d:=.grid (aH R3 ps3 mv.length)) ⟨fp,rfl,nfp,GNm⟩ (aG.refl _)).kp kmK (λa h z=>bH2 (by rw[<- z];exact h.1))).kp (S:=λ_=>False) (.of sL) (λ_ _ z=>z)
  ·simp only[aE,aM,or_false] at he;rcases he with rfl | rfl
   ·exact o1
   ·exact o2
  ·have j3:j < 2:=(aD.mp hj).1;obtain ⟨rfl,rfl⟩:i=0/\j=1:=by lia
   cases hi;cases hj;exact h2.2 h1.1
  have nW:∀a,H2 a≠none->¬∃e∈([(.grid (aH R3 ps3 mv.length),λa=>H2 a=none/\Hm a≠none),(.grid (mX mv R3 ps3),λa=>Hm a=none/\HK a≠none)]:List (Ed×(Addr->Prop))),e.2 a:=λa ha ⟨e,he,z⟩=>by
   simp only[aE,aM,or_false] at he;rcases he with rfl | rfl
   ·exact ha z.1
   ·exact ha (sm.none z.1)
  have nW3:∀a,HK a=none->¬∃e∈([(.grid (aH R3 ps3 mv.length),λa=>H2 a=none/\Hm a≠none),(.grid (mX mv R3 ps3),λa=>Hm a=none/\HK a≠none)]:List (Ed×(Addr->Prop))),e.2 a:=λa ha ⟨e,he,z⟩=>by
   simp only[aE,aM,or_false] at he;rcases he with rfl | rfl
   ·exact z.2 (umK.none BK ha)
   ·exact z.2 ha
  have u2K:cO b H2 HK:=s2A.upto.trans uK
  have uM:cO b H2 HM:=⟨λc o h n=>kM c o (sL c o (u2K.1 c o h n)) (.inl (nW c (by rw[h];exact λz=>nomatch z))),λq hi=>by
   obtain ⟨z1,z2,z3,e⟩:=u2K.2 q hi;exact ⟨z1,z2,z3,kM _ _ (sL _ _ e) (.inl (nW b bH2))⟩⟩
  have SM:=S2.upto uM B2 B0.at;have gktM:HM kt=some (.tup yk):=kM _ _ gkt (.inr λ_ z=>nomatch z);have pkM:Paired (Gz K HK HM) [.grid (aH R3 ps3 mv.length),.grid (mX mv R3 ps3)] yk:=Paired.imp' (λ_ _ z=>Gz.kp z kM nW3) pk;walk_at "w";refine ⟨x,a',c,H0,mv,pt,lk,rfl,SM,D,KF,λft2 fp2 fq2 R5 ps5 Hn HO gft2 sn sn3 nfp2 GN2 nfq2 GU2 RR5=>?_⟩;obtain ⟨rfl,rfl⟩:=RR5.same RR;have sMO:=sn.trans sn3
  obtain ⟨kp,kr,rfl,Gkp,Gkr⟩:∃kp kr,yk=[V.ref kp,V.ref kr]/\bI K HK HO kp (aH R5 ps5 mv.length)/\bI K HK HO kr (mX mv R5 ps5):=by
   cases pkM with
   | cons h2 t=>cases t with
    | cons h3 t' =>
     cases t';obtain ⟨kp,rfl,_,Gkp⟩:=h2;obtain ⟨kr,rfl,_,Gkr⟩:=h3;exact ⟨kp,kr,rfl,Gkp.same sMO,Gkr.same sMO⟩
  have gkO:=sMO _ _ gktM;walk_at "w";refine ⟨_,_,Qt EC EC,(aH R5 ps5 mv.length,mX mv R5 ps5),(aH R5 ps5 mv.length,mX mv R5 ps5),by decide,⟨ft2,_,_,rfl,kj.of gft2,(GN2.same sn3).kind,GU2.kind⟩,⟨kt,_,_,rfl,kj.of gkO,Gkp.kind,Gkr.kind⟩,?_⟩;rw[decide_eq_true rfl];exact k _
end
theorem GC {P:List Value->Prop} (h:∀x0,P [x0]):∀us:List Value,us.length=1->P us
 | [x0],_=>h x0
theorem ln2 {P:List Value->Prop} (h:∀x0 x1,P [x0,x1]):∀us:List Value,us.length=2->P us
 | [x0,x1],_=>h x0 x1
theorem MY {P:List Value->Prop} (h:∀x0 x1 x2,P [x0,x1,x2]):∀us:List Value,us.length=3->P us
 | [x0,x1,x2],_=>h x0 x1 x2
theorem Q0 {P:List Value->Prop} (h:∀x0 x1 x2 x3,P [x0,x1,x2,x3]):∀us:List Value,us.length=4->P us
 | [x0,x1,x2,x3],_=>h x0 x1 x2 x3
theorem Rw {P:List Value->Prop} (h:∀x0 x1 x2 x3 x4,P [x0,x1,x2,x3,x4]):∀us:List Value,us.length=5->P us
 | [x0,x1,x2,x3,x4],_=>h x0 x1 x2 x3 x4
theorem all_mk {l:W.OpenLaw} {w:World} {K:W.Frag} {h:Heap} {mg:Str->Option Value} {fa:Addr}
  {f0 f1 f2 f3 f4 f5 f6 f7 f8 f9 f10 f11 f12 f13 f14 f15 f16 f17 f18 f19 f20 f21 f22 f23 f24 f25 f26 f27 f28 f29 f30 f31 f32 f33 f34 f35 f36 f37 f38 f39 f40 f41 f42 f43 f44 f45 f46 f47 f48 f49 f50 f51 f52 f53 f54 f55 f56 f57 f58 f59 f60 f61 f62 f63 f64 f65 f66 f67:Addr} {od0 od1 od2 od3 od4 od5 od6 od7 od8 od9 od10 od11 od12 od13 od14 od15 od16 od17 od18 od19 od20 od21 od22 od23 od24 od25 od26 od27 od28 od29 od30 od31 od32 od33 od34 od35 od36 od37 od38 od39 od40 od41 od42 od43 od44 od45 od46 od47 od48 od49 od50 od51 od52 od53 od54 od55 od56 od57 od58 od59 od60 od61 od62 od63 od64 od65 od66 od67 an0 an1 an2 an3 an4 an5 an6 an7 an8 an9 an10 an11 an12 an13 an14 an15 an16 an17 an18 an19 an20 an21 an22 an23 an24 an25 an26 an27 an28 an29 an30 an31 an32 an33 an34 an35 an36 an37 an38 an39 an40 an41 an42 an43 an44 an45 an46 an47 an48 an49 an50 an51 an52 an53 an54 an55 an56 an57 an58 an59 an60 an61 an62 an63 an64 an65 an66 an67:Option Addr} {sl0 sl1 sl2 sl3 sl4 sl5 sl6 sl7 sl8 sl9 sl10 sl11 sl12 sl13 sl14 sl15 sl16 sl17 sl18 sl19 sl20 sl21 sl22 sl23 sl24 sl25 sl26 sl27 sl28 sl29 sl30 sl31 sl32 sl33 sl34 sl35 sl36 sl37 sl38 sl39 sl40 sl41 sl42 sl43 sl44 sl45 sl46 sl47 sl48 sl49 sl50 sl51 sl52 sl53 sl54 sl55 sl56 sl57 sl58 sl59 sl60 sl61 sl62 sl63 sl64 sl65 sl66 sl67:Array (Option Value)} {oc0 oc1 oc2 oc3 oc4 oc5 oc6 oc7 oc8 oc9 oc10 oc11 oc12 oc13 oc14 oc15 oc16 oc17 oc18 oc19 oc20 oc21 oc22 oc23 oc24 oc25 oc26 oc27 oc28 oc29 oc30 oc31 oc32 oc33 oc34 oc35 oc36 oc37 oc38 oc39 oc40 oc41 oc42 oc43 oc44 oc45 oc46 oc47 oc48 oc49 oc50 oc51 oc52 oc53 oc54 oc55 oc56 oc57 oc58 oc59 oc60 oc61 oc62 oc63 oc64 oc65 oc66 oc67 kV0 kV1 kV2 kV3 kV4 kV5 kV6 kV7 kV8 kV9 kV10 kV11 kV12 kV13 kV14 kV15 kV16 kV17 kV18 kV19 kV20 kV21 kV22 kV23 kV24 kV25 kV26 kV27 kV28 kV29 kV30 kV31 kV32 kV33 kV34 kV35 kV36 kV37 kV38 kV39 kV40 kV41 kV42 kV43 kV44 kV45 kV46 kV47 kV48 kV49 kV50 kV51 kV52 kV53 kV54 kV55 kV56 kV57 kV58 kV59 kV60 kV61 kV62 kV63 kV64 kV65 kV66 kV67 dc0 dc1 dc2 dc3 dc4 dc5 dc6 dc7 dc8 dc9 dc10 dc11 dc12 dc13 dc14 dc15 dc16 dc17 dc18 dc19 dc20 dc21 dc22 dc23 dc24 dc25 dc26 dc27 dc28 dc29 dc30 dc31 dc32 dc33 dc34 dc35 dc36 dc37 dc38 dc39 dc40 dc41 dc42 dc43 dc44 dc45 dc46 dc47 dc48 dc49 dc50 dc51 dc52 dc53 dc54 dc55 dc56 dc57 dc58 dc59 dc60 dc61 dc62 dc63 dc64 dc65 dc66 dc67 pm0 pm1 pm2 pm3 pm4 pm5 pm6 pm7 pm8 pm9 pm10 pm11 pm12 pm13 pm14 pm15 pm16 pm17 pm18 pm19 pm20 pm21 pm22 pm23 pm24 pm25 pm26 pm27 pm28 pm29 pm30 pm31 pm32 pm33 pm34 pm35 pm36 pm37 pm38 pm39 pm40 pm41 pm42 pm43 pm44 pm45 pm46 pm47 pm48 pm49 pm50 pm51 pm52 pm53 pm54 pm55 pm56 pm57 pm58 pm59 pm60 pm61 pm62 pm63 pm64 pm65 pm66 pm67 cd0 cd1 cd2 cd3 cd4 cd5 cd6 cd7 cd8 cd9 cd10 cd11 cd12 cd13 cd14 cd15 cd16 cd17 cd18 cd19 cd20 cd21 cd22 cd23 cd24 cd25 cd26 cd27 cd28 cd29 cd30 cd31 cd32 cd33 cd34 cd35 cd36 cd37 cd38 cd39 cd40 cd41 cd42 cd43 cd44 cd45 cd46 cd47 cd48 cd49 cd50 cd51 cd52 cd53 cd54 cd55 cd56 cd57 cd58 cd59 cd60 cd61 cd62 cd63 cd64 cd65 cd66 cd67 ct0 ct1 ct2 ct3 ct4 ct5 ct6 ct7 ct8 ct9 ct10 ct11 ct12 ct13 ct14 ct15 ct16 ct17 ct18 ct19 ct20 ct21 ct22 ct23 ct24 ct25 ct26 ct27 ct28 ct29 ct30 ct31 ct32 ct33 ct34 ct35 ct36 ct37 ct38 ct39 ct40 ct41 ct42 ct43 ct44 ct45 ct46 ct47 ct48 ct49 ct50 ct51 ct52 ct53 ct54 ct55 ct56 ct57 ct58 ct59 ct60 ct61 ct62 ct63 ct64 ct65 ct66 ct67:Value}
  (X:K.In h) (G:h.Ns mainGlobals mg) (hfa:mg "law"=some (.ref fa))
  {C:Addr} (aC:W.nsIn K mainGlobals "System"=some (some (.ref C)))
  (a0:W.nsIn K mainGlobals "_law_bag"=some (some (.ref f0))) (l0:K.lookup f0=some ⟨oc0,od0,.func (W.fnOf "_law_bag" "_law_bag" (bc kI) (aZ kI) (ay kI) .none kV0 dc0 pm0 an0 cd0 ct0),sl0⟩) (c0:W.codeIn K cd0 "_law_bag"=true) (k0:W.keepIn K (.ref f0)=true)
  (a1:W.nsIn K mainGlobals "_law_take"=some (some (.ref f1))) (l1:K.lookup f1=some ⟨oc1,od1,.func (W.fnOf "_law_take" "_law_take" (bc jx) (aZ jx) (ay jx) .none kV1 dc1 pm1 an1 cd1 ct1),sl1⟩) (c1:W.codeIn K cd1 "_law_take"=true) (k1:W.keepIn K (.ref f1)=true)
  (a2:W.nsIn K mainGlobals "_law_sizes"=some (some (.ref f2))) (l2:K.lookup f2=some ⟨oc2,od2,.func (W.fnOf "_law_sizes" "_law_sizes" (bc fR) (aZ fR) (ay fR) .none kV2 dc2 pm2 an2 cd2 ct2),sl2⟩) (c2:W.codeIn K cd2 "_law_sizes"=true) (k2:W.keepIn K (.ref f2)=true)
  (a3:W.nsIn K mainGlobals "_law_line"=some (some (.ref f3))) (l3:K.lookup f3=some ⟨oc3,od3,.func (W.fnOf "_law_line" "_law_line" (bc jF) (aZ jF) (ay jF) .none kV3 dc3 pm3 an3 cd3 ct3),sl3⟩) (c3:W.codeIn K cd3 "_law_line"=true) (k3:W.keepIn K (.ref f3)=true)
  (a4:W.nsIn K mainGlobals "_law_low"=some (some (.ref f4))) (l4:K.lookup f4=some ⟨oc4,od4,.func (W.fnOf "_law_low" "_law_low" (bc kG) (aZ kG) (ay kG) .none kV4 dc4 pm4 an4 cd4 ct4),sl4⟩) (c4:W.codeIn K cd4 "_law_low"=true) (k4:W.keepIn K (.ref f4)=true)
  (a5:W.nsIn K mainGlobals "_law_sum"=some (some (.ref f5))) (l5:K.lookup f5=some ⟨oc5,od5,.func (W.fnOf "_law_sum" "_law_sum" (bc kE) (aZ kE) (ay kE) .none kV5 dc5 pm5 an5 cd5 ct5),sl5⟩) (c5:W.codeIn K cd5 "_law_sum"=true) (k5:W.keepIn K (.ref f5)=true)
  (a6:W.nsIn K mainGlobals "_law_plus"=some (some (.ref f6))) (l6:K.lookup f6=some ⟨oc6,od6,.func (W.fnOf "_law_plus" "_law_plus" (bc jB) (aZ jB) (ay jB) .none kV6 dc6 pm6 an6 cd6 ct6),sl6⟩) (c6:W.codeIn K cd6 "_law_plus"=true) (k6:W.keepIn K (.ref f6)=true)
  (a7:W.nsIn K mainGlobals "_law_prod"=some (some (.ref f7))) (l7:K.lookup f7=some ⟨oc7,od7,.func (W.fnOf "_law_prod" "_law_prod" (bc jA) (aZ jA) (ay jA) .none kV7 dc7 pm7 an7 cd7 ct7),sl7⟩) (c7:W.codeIn K cd7 "_law_prod"=true) (k7:W.keepIn K (.ref f7)=true)
  (a8:W.nsIn K mainGlobals "_law_by"=some (some (.ref f8))) (l8:K.lookup f8=some ⟨oc8,od8,.func (W.fnOf "_law_by" "_law_by" (bc oy) (aZ oy) (ay oy) .none kV8 dc8 pm8 an8 cd8 ct8),sl8⟩) (c8:W.codeIn K cd8 "_law_by"=true) (k8:W.keepIn K (.ref f8)=true)
  (a9:W.nsIn K mainGlobals "_law_mixed"=some (some (.ref f9))) (l9:K.lookup f9=some ⟨oc9,od9,.func (W.fnOf "_law_mixed" "_law_mixed" (bc iG) (aZ iG) (ay iG) .none kV9 dc9 pm9 an9 cd9 ct9),sl9⟩) (c9:W.codeIn K cd9 "_law_mixed"=true) (k9:W.keepIn K (.ref f9)=true)
  (a10:W.nsIn K mainGlobals "_law_two_lines"=some (some (.ref f10))) (l10:K.lookup f10=some ⟨oc10,od10,.func (W.fnOf "_law_two_lines" "_law_two_lines" (bc eE) (aZ eE) (ay eE) .none kV10 dc10 pm10 an10 cd10 ct10),sl10⟩) (c10:W.codeIn K cd10 "_law_two_lines"=true) (k10:W.keepIn K (.ref f10)=true)
  (a11:W.nsIn K mainGlobals "_law_number"=some (some (.ref f11))) (l11:K.lookup f11=some ⟨oc11,od11,.func (W.fnOf "_law_number" "_law_number" (bc gL) (aZ gL) (ay gL) .none kV11 dc11 pm11 an11 cd11 ct11),sl11⟩) (c11:W.codeIn K cd11 "_law_number"=true) (k11:W.keepIn K (.ref f11)=true)
  (a12:W.nsIn K mainGlobals "_law_row"=some (some (.ref f12))) (l12:K.lookup f12=some ⟨oc12,od12,.func (W.fnOf "_law_row" "_law_row" (bc kF) (aZ kF) (ay kF) .none kV12 dc12 pm12 an12 cd12 ct12),sl12⟩) (c12:W.codeIn K cd12 "_law_row"=true) (k12:W.keepIn K (.ref f12)=true)
  (a13:W.nsIn K mainGlobals "_law_move"=some (some (.ref f13))) (l13:K.lookup f13=some ⟨oc13,od13,.func (W.fnOf "_law_move" "_law_move" (bc jD) (aZ jD) (ay jD) .none kV13 dc13 pm13 an13 cd13 ct13),sl13⟩) (c13:W.codeIn K cd13 "_law_move"=true) (k13:W.keepIn K (.ref f13)=true)
  (a14:W.nsIn K mainGlobals "_law_parts"=some (some (.ref f14))) (l14:K.lookup f14=some ⟨oc14,od14,.func (W.fnOf "_law_parts" "_law_parts" (bc iF) (aZ iF) (ay iF) .none kV14 dc14 pm14 an14 cd14 ct14),sl14⟩) (c14:W.codeIn K cd14 "_law_parts"=true) (k14:W.keepIn K (.ref f14)=true)
  (a15:W.nsIn K mainGlobals "_law_system"=some (some (.ref f15))) (l15:K.lookup f15=some ⟨oc15,od15,.func (W.fnOf "_law_system" "_law_system" (bc gK) (aZ gK) (ay gK) .none kV15 dc15 pm15 an15 cd15 ct15),sl15⟩) (c15:W.codeIn K cd15 "_law_system"=true) (k15:W.keepIn K (.ref f15)=true)
  (a16:W.nsIn K mainGlobals "want_list"=some (some (.ref f16))) (l16:K.lookup f16=some ⟨oc16,od16,.func (W.fnOf "want_list" "want_list" (bc jt) (aZ jt) (ay jt) .none kV16 dc16 pm16 an16 cd16 ct16),sl16⟩) (c16:W.codeIn K cd16 "want_list"=true) (k16:W.keepIn K (.ref f16)=true)
  (a17:W.nsIn K mainGlobals "is_whole"=some (some (.ref f17))) (l17:K.lookup f17=some ⟨oc17,od17,.func (W.fnOf "is_whole" "is_whole" (bc kD) (aZ kD) (ay kD) .none kV17 dc17 pm17 an17 cd17 ct17),sl17⟩) (c17:W.codeIn K cd17 "is_whole"=true) (k17:W.keepIn K (.ref f17)=true)
  (a18:W.nsIn K mainGlobals "common_divisor"=some (some (.ref f18))) (l18:K.lookup f18=some ⟨oc18,od18,.func (W.fnOf "common_divisor" "common_divisor" (bc eC) (aZ eC) (ay eC) .none kV18 dc18 pm18 an18 cd18 ct18),sl18⟩) (c18:W.codeIn K cd18 "common_divisor"=true) (k18:W.keepIn K (.ref f18)=true)
  (a19:W.nsIn K mainGlobals "is_number"=some (some (.ref f19))) (l19:K.lookup f19=some ⟨oc19,od19,.func (W.fnOf "is_number" "is_number" (bc jw) (aZ jw) (ay jw) .none kV19 dc19 pm19 an19 cd19 ct19),sl19⟩) (c19:W.codeIn K cd19 "is_number"=true) (k19:W.keepIn K (.ref f19)=true)
  (a20:W.nsIn K mainGlobals "is_row"=some (some (.ref f20))) (l20:K.lookup f20=some ⟨oc20,od20,.func (W.fnOf "is_row" "is_row" (bc rg) (aZ rg) (ay rg) .none kV20 dc20 pm20 an20 cd20 ct20),sl20⟩) (c20:W.codeIn K cd20 "is_row"=true) (k20:W.keepIn K (.ref f20)=true)
  (a21:W.nsIn K mainGlobals "copied_rows"=some (some (.ref f21))) (l21:K.lookup f21=some ⟨oc21,od21,.func (W.fnOf "copied_rows" "copied_rows" (bc gJ) (aZ gJ) (ay gJ) .none kV21 dc21 pm21 an21 cd21 ct21),sl21⟩) (c21:W.codeIn K cd21 "copied_rows"=true) (k21:W.keepIn K (.ref f21)=true)
  (a22:W.findIn K (.ref C) "__init__"=some (some (.ref f22))) (i22:W.isFn K (.ref f22)=true) (l22:K.lookup f22=some ⟨oc22,od22,.func (W.fnOf "__init__" "System.__init__" (bc dR) (aZ dR) (ay dR) .none kV22 dc22 pm22 an22 cd22 ct22),sl22⟩) (c22:W.codeIn K cd22 "System.__init__"=true) (k22:W.keepIn K (.ref f22)=true)
  (a23:W.nsIn K mainGlobals "_law_copied"=some (some (.ref f23))) (l23:K.lookup f23=some ⟨oc23,od23,.func (W.fnOf "_law_copied" "_law_copied" (bc gN) (aZ gN) (ay gN) .none kV23 dc23 pm23 an23 cd23 ct23),sl23⟩) (c23:W.codeIn K cd23 "_law_copied"=true) (k23:W.keepIn K (.ref f23)=true)
  (a24:W.nsIn K mainGlobals "_law_made"=some (some (.ref f24))) (l24:K.lookup f24=some ⟨oc24,od24,.func (W.fnOf "_law_made" "_law_made" (bc jE) (aZ jE) (ay jE) .none kV24 dc24 pm24 an24 cd24 ct24),sl24⟩) (c24:W.codeIn K cd24 "_law_made"=true) (k24:W.keepIn K (.ref f24)=true)
  (a25:W.nsIn K mainGlobals "tops_over"=some (some (.ref f25))) (l25:K.lookup f25=some ⟨oc25,od25,.func (W.fnOf "tops_over" "tops_over" (bc jv) (aZ jv) (ay jv) .none kV25 dc25 pm25 an25 cd25 ct25),sl25⟩) (c25:W.codeIn K cd25 "tops_over"=true) (k25:W.keepIn K (.ref f25)=true)
  (a26:W.nsIn K mainGlobals "common_multiple"=some (some (.ref f26))) (l26:K.lookup f26=some ⟨oc26,od26,.func (W.fnOf "common_multiple" "common_multiple" (bc dQ) (aZ dQ) (ay dQ) .none kV26 dc26 pm26 an26 cd26 ct26),sl26⟩) (c26:W.codeIn K cd26 "common_multiple"=true) (k26:W.keepIn K (.ref f26)=true)
  (a27:W.nsIn K mainGlobals "common_bottom"=some (some (.ref f27))) (l27:K.lookup f27=some ⟨oc27,od27,.func (W.fnOf "common_bottom" "common_bottom" (bc eV) (aZ eV) (ay eV) .none kV27 dc27 pm27 an27 cd27 ct27),sl27⟩) (c27:W.codeIn K cd27 "common_bottom"=true) (k27:W.keepIn K (.ref f27)=true)
  (a28:W.nsIn K mainGlobals "first_with"=some (some (.ref f28))) (l28:K.lookup f28=some ⟨oc28,od28,.func (W.fnOf "first_with" "first_with" (bc iB) (aZ iB) (ay iB) .none kV28 dc28 pm28 an28 cd28 ct28),sl28⟩) (c28:W.codeIn K cd28 "first_with"=true) (k28:W.keepIn K (.ref f28)=true)
  (a29:W.nsIn K mainGlobals "cleared"=some (some (.ref f29))) (l29:K.lookup f29=some ⟨oc29,od29,.func (W.fnOf "cleared" "cleared" (bc ow) (aZ ow) (ay ow) .none kV29 dc29 pm29 an29 cd29 ct29),sl29⟩) (c29:W.codeIn K cd29 "cleared"=true) (k29:W.keepIn K (.ref f29)=true)
  (a30:W.nsIn K mainGlobals "brought_up"=some (some (.ref f30))) (l30:K.lookup f30=some ⟨oc30,od30,.func (W.fnOf "brought_up" "brought_up" (bc iC) (aZ iC) (ay iC) .none kV30 dc30 pm30 an30 cd30 ct30),sl30⟩) (c30:W.codeIn K cd30 "brought_up"=true) (k30:W.keepIn K (.ref f30)=true)
  (a31:W.nsIn K mainGlobals "swept"=some (some (.ref f31))) (l31:K.lookup f31=some ⟨oc31,od31,.func (W.fnOf "swept" "swept" (bc vm) (aZ vm) (ay vm) .none kV31 dc31 pm31 an31 cd31 ct31),sl31⟩) (c31:W.codeIn K cd31 "swept"=true) (k31:W.keepIn K (.ref f31)=true)
  (a32:W.nsIn K mainGlobals "lowest"=some (some (.ref f32))) (l32:K.lookup f32=some ⟨oc32,od32,.func (W.fnOf "lowest" "lowest" (bc rf) (aZ rf) (ay rf) .none kV32 dc32 pm32 an32 cd32 ct32),sl32⟩) (c32:W.codeIn K cd32 "lowest"=true) (k32:W.keepIn K (.ref f32)=true)
  (a33:W.nsIn K mainGlobals "reduced"=some (some (.ref f33))) (l33:K.lookup f33=some ⟨oc33,od33,.func (W.fnOf "reduced" "reduced" (bc oo) (aZ oo) (ay oo) .none kV33 dc33 pm33 an33 cd33 ct33),sl33⟩) (c33:W.codeIn K cd33 "reduced"=true) (k33:W.keepIn K (.ref f33)=true)
  (a34:W.nsIn K mainGlobals "row_dot"=some (some (.ref f34))) (l34:K.lookup f34=some ⟨oc34,od34,.func (W.fnOf "row_dot" "row_dot" (bc oj) (aZ oj) (ay oj) .none kV34 dc34 pm34 an34 cd34 ct34),sl34⟩) (c34:W.codeIn K cd34 "row_dot"=true) (k34:W.keepIn K (.ref f34)=true)
  (a35:W.nsIn K mainGlobals "grid_on"=some (some (.ref f35))) (l35:K.lookup f35=some ⟨oc35,od35,.func (W.fnOf "grid_on" "grid_on" (bc ou) (aZ ou) (ay ou) .none kV35 dc35 pm35 an35 cd35 ct35),sl35⟩) (c35:W.codeIn K cd35 "grid_on"=true) (k35:W.keepIn K (.ref f35)=true)
  (a36:W.nsIn K mainGlobals "moved_rows"=some (some (.ref f36))) (l36:K.lookup f36=some ⟨oc36,od36,.func (W.fnOf "moved_rows" "moved_rows" (bc iu) (aZ iu) (ay iu) .none kV36 dc36 pm36 an36 cd36 ct36),sl36⟩) (c36:W.codeIn K cd36 "moved_rows"=true) (k36:W.keepIn K (.ref f36)=true)
  (a37:W.nsIn K mainGlobals "reach_grown"=some (some (.ref f37))) (l37:K.lookup f37=some ⟨oc37,od37,.func (W.fnOf "reach_grown" "reach_grown" (bc gG) (aZ gG) (ay gG) .none kV37 dc37 pm37 an37 cd37 ct37),sl37⟩) (c37:W.codeIn K cd37 "reach_grown"=true) (k37:W.keepIn K (.ref f37)=true)
  (a38:W.nsIn K mainGlobals "reach_rows"=some (some (.ref f38))) (l38:K.lookup f38=some ⟨oc38,od38,.func (W.fnOf "reach_rows" "reach_rows" (bc ir) (aZ ir) (ay ir) .none kV38 dc38 pm38 an38 cd38 ct38),sl38⟩) (c38:W.codeIn K cd38 "reach_rows"=true) (k38:W.keepIn K (.ref f38)=true)
  (a39:W.nsIn K mainGlobals "unit_row"=some (some (.ref f39))) (l39:K.lookup f39=some ⟨oc39,od39,.func (W.fnOf "unit_row" "unit_row" (bc kC) (aZ kC) (ay kC) .none kV39 dc39 pm39 an39 cd39 ct39),sl39⟩) (c39:W.codeIn K cd39 "unit_row"=true) (k39:W.keepIn K (.ref f39)=true)
  (a40:W.nsIn K mainGlobals "leading_place"=some (some (.ref f40))) (l40:K.lookup f40=some ⟨oc40,od40,.func (W.fnOf "leading_place" "leading_place" (bc eU) (aZ eU) (ay eU) .none kV40 dc40 pm40 an40 cd40 ct40),sl40⟩) (c40:W.codeIn K cd40 "leading_place"=true) (k40:W.keepIn K (.ref f40)=true)
  (a41:W.nsIn K mainGlobals "leading"=some (some (.ref f41))) (l41:K.lookup f41=some ⟨oc41,od41,.func (W.fnOf "leading" "leading" (bc ot) (aZ ot) (ay ot) .none kV41 dc41 pm41 an41 cd41 ct41),sl41⟩) (c41:W.codeIn K cd41 "leading"=true) (k41:W.keepIn K (.ref f41)=true)
  (a42:W.nsIn K mainGlobals "minus"=some (some (.ref f42))) (l42:K.lookup f42=some ⟨oc42,od42,.func (W.fnOf "minus" "minus" (bc vo) (aZ vo) (ay vo) .none kV42 dc42 pm42 an42 cd42 ct42),sl42⟩) (c42:W.codeIn K cd42 "minus"=true) (k42:W.keepIn K (.ref f42)=true)
  (a43:W.nsIn K mainGlobals "null_at"=some (some (.ref f43))) (l43:K.lookup f43=some ⟨oc43,od43,.func (W.fnOf "null_at" "null_at" (bc oq) (aZ oq) (ay oq) .none kV43 dc43 pm43 an43 cd43 ct43),sl43⟩) (c43:W.codeIn K cd43 "null_at"=true) (k43:W.keepIn K (.ref f43)=true)
  (a44:W.nsIn K mainGlobals "free_places"=some (some (.ref f44))) (l44:K.lookup f44=some ⟨oc44,od44,.func (W.fnOf "free_places" "free_places" (bc gI) (aZ gI) (ay gI) .none kV44 dc44 pm44 an44 cd44 ct44),sl44⟩) (c44:W.codeIn K cd44 "free_places"=true) (k44:W.keepIn K (.ref f44)=true)
  (a45:W.nsIn K mainGlobals "nulls"=some (some (.ref f45))) (l45:K.lookup f45=some ⟨oc45,od45,.func (W.fnOf "nulls" "nulls" (bc vn) (aZ vn) (ay vn) .none kV45 dc45 pm45 an45 cd45 ct45),sl45⟩) (c45:W.codeIn K cd45 "nulls"=true) (k45:W.keepIn K (.ref f45)=true)
  (a46:W.nsIn K mainGlobals "grid_turned"=some (some (.ref f46))) (l46:K.lookup f46=some ⟨oc46,od46,.func (W.fnOf "grid_turned" "grid_turned" (bc gH) (aZ gH) (ay gH) .none kV46 dc46 pm46 an46 cd46 ct46),sl46⟩) (c46:W.codeIn K cd46 "grid_turned"=true) (k46:W.keepIn K (.ref f46)=true)
  (a47:W.nsIn K mainGlobals "grid_times"=some (some (.ref f47))) (l47:K.lookup f47=some ⟨oc47,od47,.func (W.fnOf "grid_times" "grid_times" (bc iw) (aZ iw) (ay iw) .none kV47 dc47 pm47 an47 cd47 ct47),sl47⟩) (c47:W.codeIn K cd47 "grid_times"=true) (k47:W.keepIn K (.ref f47)=true)
  (a48:W.nsIn K mainGlobals "taken_over"=some (some (.ref f48))) (l48:K.lookup f48=some ⟨oc48,od48,.func (W.fnOf "taken_over" "taken_over" (bc iq) (aZ iq) (ay iq) .none kV48 dc48 pm48 an48 cd48 ct48),sl48⟩) (c48:W.codeIn K cd48 "taken_over"=true) (k48:W.keepIn K (.ref f48)=true)
  (a49:W.nsIn K mainGlobals "unsteered"=some (some (.ref f49))) (l49:K.lookup f49=some ⟨oc49,od49,.func (W.fnOf "unsteered" "unsteered" (bc ju) (aZ ju) (ay ju) .none kV49 dc49 pm49 an49 cd49 ct49),sl49⟩) (c49:W.codeIn K cd49 "unsteered"=true) (k49:W.keepIn K (.ref f49)=true)
  (a50:W.nsIn K mainGlobals "_law_is_number"=some (some (.ref f50))) (l50:K.lookup f50=some ⟨oc50,od50,.func (W.fnOf "_law_is_number" "_law_is_number" (bc eG) (aZ eG) (ay eG) .none kV50 dc50 pm50 an50 cd50 ct50),sl50⟩) (c50:W.codeIn K cd50 "_law_is_number"=true) (k50:W.keepIn K (.ref f50)=true)
  (a51:W.nsIn K mainGlobals "_law_is_row"=some (some (.ref f51))) (l51:K.lookup f51=some ⟨oc51,od51,.func (W.fnOf "_law_is_row" "_law_is_row" (bc gM) (aZ gM) (ay gM) .none kV51 dc51 pm51 an51 cd51 ct51),sl51⟩) (c51:W.codeIn K cd51 "_law_is_row"=true) (k51:W.keepIn K (.ref f51)=true)
  (a52:W.nsIn K mainGlobals "_law_is_grid"=some (some (.ref f52))) (l52:K.lookup f52=some ⟨oc52,od52,.func (W.fnOf "_law_is_grid" "_law_is_grid" (bc fB) (aZ fB) (ay fB) .none kV52 dc52 pm52 an52 cd52 ct52),sl52⟩) (c52:W.codeIn K cd52 "_law_is_grid"=true) (k52:W.keepIn K (.ref f52)=true)
  (a53:W.nsIn K mainGlobals "_law_rows_well"=some (some (.ref f53))) (l53:K.lookup f53=some ⟨oc53,od53,.func (W.fnOf "_law_rows_well" "_law_rows_well" (bc eF) (aZ eF) (ay eF) .none kV53 dc53 pm53 an53 cd53 ct53),sl53⟩) (c53:W.codeIn K cd53 "_law_rows_well"=true) (k53:W.keepIn K (.ref f53)=true)
  (a54:W.nsIn K mainGlobals "_law_quot"=some (some (.ref f54))) (l54:K.lookup f54=some ⟨oc54,od54,.func (W.fnOf "_law_quot" "_law_quot" (bc jy) (aZ jy) (ay jy) .none kV54 dc54 pm54 an54 cd54 ct54),sl54⟩) (c54:W.codeIn K cd54 "_law_quot"=true) (k54:W.keepIn K (.ref f54)=true)
  (a55:W.nsIn K mainGlobals "_law_less"=some (some (.ref f55))) (l55:K.lookup f55=some ⟨oc55,od55,.func (W.fnOf "_law_less" "_law_less" (bc jG) (aZ jG) (ay jG) .none kV55 dc55 pm55 an55 cd55 ct55),sl55⟩) (c55:W.codeIn K cd55 "_law_less"=true) (k55:W.keepIn K (.ref f55)=true)
  (a56:W.nsIn K mainGlobals "_law_minus"=some (some (.ref f56))) (l56:K.lookup f56=some ⟨oc56,od56,.func (W.fnOf "_law_minus" "_law_minus" (bc iH) (aZ iH) (ay iH) .none kV56 dc56 pm56 an56 cd56 ct56),sl56⟩) (c56:W.codeIn K cd56 "_law_minus"=true) (k56:W.keepIn K (.ref f56)=true)
  (a57:W.nsIn K mainGlobals "_law_lean"=some (some (.ref f57))) (l57:K.lookup f57=some ⟨oc57,od57,.func (W.fnOf "_law_lean" "_law_lean" (bc jH) (aZ jH) (ay jH) .none kV57 dc57 pm57 an57 cd57 ct57),sl57⟩) (c57:W.codeIn K cd57 "_law_lean"=true) (k57:W.keepIn K (.ref f57)=true)
  (a58:W.nsIn K mainGlobals "_law_dot"=some (some (.ref f58))) (l58:K.lookup f58=some ⟨oc58,od58,.func (W.fnOf "_law_dot" "_law_dot" (bc kH) (aZ kH) (ay kH) .none kV58 dc58 pm58 an58 cd58 ct58),sl58⟩) (c58:W.codeIn K cd58 "_law_dot"=true) (k58:W.keepIn K (.ref f58)=true)
  (a59:W.nsIn K mainGlobals "_law_on"=some (some (.ref f59))) (l59:K.lookup f59=some ⟨oc59,od59,.func (W.fnOf "_law_on" "_law_on" (bc ox) (aZ ox) (ay ox) .none kV59 dc59 pm59 an59 cd59 ct59),sl59⟩) (c59:W.codeIn K cd59 "_law_on"=true) (k59:W.keepIn K (.ref f59)=true)
  (a60:W.nsIn K mainGlobals "_law_added"=some (some (.ref f60))) (l60:K.lookup f60=some ⟨oc60,od60,.func (W.fnOf "_law_added" "_law_added" (bc iI) (aZ iI) (ay iI) .none kV60 dc60 pm60 an60 cd60 ct60),sl60⟩) (c60:W.codeIn K cd60 "_law_added"=true) (k60:W.keepIn K (.ref f60)=true)
  (a61:W.nsIn K mainGlobals "_law_next"=some (some (.ref f61))) (l61:K.lookup f61=some ⟨oc61,od61,.func (W.fnOf "_law_next" "_law_next" (bc jC) (aZ jC) (ay jC) .none kV61 dc61 pm61 an61 cd61 ct61),sl61⟩) (c61:W.codeIn K cd61 "_law_next"=true) (k61:W.keepIn K (.ref f61)=true)
  (a62:W.nsIn K mainGlobals "_law_goes"=some (some (.ref f62))) (l62:K.lookup f62=some ⟨oc62,od62,.func (W.fnOf "_law_goes" "_law_goes" (bc jJ) (aZ jJ) (ay jJ) .none kV62 dc62 pm62 an62 cd62 ct62),sl62⟩) (c62:W.codeIn K cd62 "_law_goes"=true) (k62:W.keepIn K (.ref f62)=true)
  (a63:W.nsIn K mainGlobals "_law_puts"=some (some (.ref f63))) (l63:K.lookup f63=some ⟨oc63,od63,.func (W.fnOf "_law_puts" "_law_puts" (bc jz) (aZ jz) (ay jz) .none kV63 dc63 pm63 an63 cd63 ct63),sl63⟩) (c63:W.codeIn K cd63 "_law_puts"=true) (k63:W.keepIn K (.ref f63)=true)
  (a64:W.nsIn K mainGlobals "_law_steps"=some (some (.ref f64))) (l64:K.lookup f64=some ⟨oc64,od64,.func (W.fnOf "_law_steps" "_law_steps" (bc iD) (aZ iD) (ay iD) .none kV64 dc64 pm64 an64 cd64 ct64),sl64⟩) (c64:W.codeIn K cd64 "_law_steps"=true) (k64:W.keepIn K (.ref f64)=true)
  (a65:W.nsIn K mainGlobals "_law_kept"=some (some (.ref f65))) (l65:K.lookup f65=some ⟨oc65,od65,.func (W.fnOf "_law_kept" "_law_kept" (bc jI) (aZ jI) (ay jI) .none kV65 dc65 pm65 an65 cd65 ct65),sl65⟩) (c65:W.codeIn K cd65 "_law_kept"=true) (k65:W.keepIn K (.ref f65)=true)
  (a66:W.nsIn K mainGlobals "_law_spoil"=some (some (.ref f66))) (l66:K.lookup f66=some ⟨oc66,od66,.func (W.fnOf "_law_spoil" "_law_spoil" (bc iE) (aZ iE) (ay iE) .none kV66 dc66 pm66 an66 cd66 ct66),sl66⟩) (c66:W.codeIn K cd66 "_law_spoil"=true) (k66:W.keepIn K (.ref f66)=true)
  (a67:W.nsIn K mainGlobals "law"=some (some (.ref f67))) (l67:K.lookup f67=some ⟨oc67,od67,.func (W.fnOf "law" "law" (bc Dj) (aZ Dj) (ay Dj) .none kV67 dc67 pm67 an67 cd67 ct67),sl67⟩) (c67:W.codeIn K cd67 "law"=true) (k67:W.keepIn K (.ref f67)=true)
  {m0:Addr} {mo0:Option Addr} {mn0:Nat} {ms0:Array (Option Value)} {mt0_0 mt0_1:Tok} (ca0:W.nsIn K mainGlobals "NOUGHT"=some (some (.ref m0))) (cl0:K.lookup m0=some ⟨.type "tuple",mo0,.seq #[.int 0 mt0_0,.int 1 mt0_1] mn0,ms0⟩)
  {m1:Addr} {mo1:Option Addr} {mn1:Nat} {ms1:Array (Option Value)} {mt1_0 mt1_1:Tok} (ca1:W.nsIn K mainGlobals "ONE"=some (some (.ref m1))) (cl1:K.lookup m1=some ⟨.type "tuple",mo1,.seq #[.int 1 mt1_0,.int 1 mt1_1] mn1,ms1⟩)
  {it0:Tok} (ci0:W.nsIn K mainGlobals "MOST_STATES"=some (some (.int 8 it0)))
  {it1:Tok} (ci1:W.nsIn K mainGlobals "MOST_PUTS"=some (some (.int 4 it1)))
  {it2:Tok} (ci2:W.nsIn K mainGlobals "MOST_LOOKS"=some (some (.int 4 it2)))
  (pg:W.plainGet K C Str.empty=true) (hd:W.hasDictIn K C=true) (po:W.plainOver K C=true) (sa:W.findIn K (.ref C) "__setattr__"=some (some (.builtin "object.__setattr__"))) (mk:W.makesIn K C=true) (kc:W.keepIn K (.ref C)=true)
  (n_move:W.findIn K (.ref C) "move"=some none)
  (n_states:W.findIn K (.ref C) "states"=some none)
  (n_put:W.findIn K (.ref C) "put"=some none)
  (n_ins:W.findIn K (.ref C) "ins"=some none)
  (n_look:W.findIn K (.ref C) "look"=some none)
  (n_outs:W.findIn K (.ref C) "outs"=some none)
  (z_abs:W.nsIn K mainGlobals "abs"=some none)
  (z_len:W.nsIn K mainGlobals "len"=some none)
  (z_min:W.nsIn K mainGlobals "min"=some none)
  (z_int:W.nsIn K mainGlobals "int"=some none)
  (z_range:W.nsIn K mainGlobals "range"=some none)
  (z_isinstance:W.nsIn K mainGlobals "isinstance"=some none)
  (z_list:W.nsIn K mainGlobals "list"=some none)
  (z_bool:W.nsIn K mainGlobals "bool"=some none)
  (z_tuple:W.nsIn K mainGlobals "tuple"=some none)
  (z_all:W.nsIn K mainGlobals "all"=some none)
  (z_enumerate:W.nsIn K mainGlobals "enumerate"=some none)
  (z_zip:W.nsIn K mainGlobals "zip"=some none)
  (z_sum:W.nsIn K mainGlobals "sum"=some none)
  (z_max:W.nsIn K mainGlobals "max"=some none)
  : ∃fd:FuncData,(∀(s:Shared) (v:Value),BindsTo s fd ⟨[v],[]⟩ [("_law_script",v)])/\∀base:Heap,K.In base->base.Ns mainGlobals mg->cJ l.prog w K mg base gE 10 fa fd ["_law_script"] (AG K):=by
 have e:=hfa.symm.trans (W.mg_of X G a67);cases e;have F0:=bM (st:=kI) l0 c0 k0;have F1:=bM (st:=jx) l1 c1 k1;have F2:=bM (st:=fR) l2 c2 k2;have F3:=bM (st:=jF) l3 c3 k3;have F4:=bM (st:=kG) l4 c4 k4;have F5:=bM (st:=kE) l5 c5 k5;have F6:=bM (st:=jB) l6 c6 k6;have F7:=bM (st:=jA) l7 c7 k7;have F8:=bM (st:=oy) l8 c8 k8;have F9:=bM (st:=iG) l9 c9 k9;have F10:=bM (st:=eE) l10 c10 k10;have F11:=bM (st:=gL) l11 c11 k11;have F12:=bM (st:=kF) l12 c12 k12;have F13:=bM (st:=jD) l13 c13 k13;have F14:=bM (st:=iF) l14 c14 k14;have F15:=bM (st:=gK) l15 c15 k15;have F16:=bM (st:=jt) l16 c16 k16;have F17:=bM (st:=kD) l17 c17 k17;have F18:=bM (st:=eC) l18 c18 k18;have F19:=bM (st:=jw) l19 c19 k19;have F20:=bM (st:=rg) l20 c20 k20;have F21:=bM (st:=gJ) l21 c21 k21;have F22:=bM (st:=dR) l22 c22 k22;have F23:=bM (st:=gN) l23 c23 k23;have F24:=bM (st:=jE) l24 c24 k24;have F25:=bM (st:=jv) l25 c25 k25;have F26:=bM (st:=dQ) l26 c26 k26;have F27:=bM (st:=eV) l27 c27 k27;have F28:=bM (st:=iB) l28 c28 k28;have F29:=bM (st:=ow) l29 c29 k29;have F30:=bM (st:=iC) l30 c30 k30;have F31:=bM (st:=vm) l31 c31 k31;have F32:=bM (st:=rf) l32 c32 k32;have F33:=bM (st:=oo) l33 c33 k33;have F34:=bM (st:=oj) l34 c34 k34;have F35:=bM (st:=ou) l35 c35 k35;have F36:=bM (st:=iu) l36 c36 k36;have F37:=bM (st:=gG) l37 c37 k37;have F38:=bM (st:=ir) l38 c38 k38;have F39:=bM (st:=kC) l39 c39 k39;have F40:=bM (st:=eU) l40 c40 k40;have F41:=bM (st:=ot) l41 c41 k41;have F42:=bM (st:=vo) l42 c42 k42;have F43:=bM (st:=oq) l43 c43 k43;have F44:=bM (st:=gI) l44 c44 k44;have F45:=bM (st:=vn) l45 c45 k45;have F46:=bM (st:=gH) l46 c46 k46;have F47:=bM (st:=iw) l47 c47 k47;have F48:=bM (st:=iq) l48 c48 k48;have F49:=bM (st:=ju) l49 c49 k49;have F50:=bM (st:=eG) l50 c50 k50;have F51:=bM (st:=gM) l51 c51 k51;have F52:=bM (st:=fB) l52 c52 k52;have F53:=bM (st:=eF) l53 c53 k53;have F54:=bM (st:=jy) l54 c54 k54;have F55:=bM (st:=jG) l55 c55 k55;have F56:=bM (st:=iH) l56 c56 k56;have F57:=bM (st:=jH) l57 c57 k57;have F58:=bM (st:=kH) l58 c58 k58;have F59:=bM (st:=ox) l59 c59 k59;have F60:=bM (st:=iI) l60 c60 k60;have F61:=bM (st:=jC) l61 c61 k61;have F62:=bM (st:=jJ) l62 c62 k62;have F63:=bM (st:=jz) l63 c63 k63;have F64:=bM (st:=iD) l64 c64 k64;have F65:=bM (st:=jI) l65 c65 k65;have F66:=bM (st:=iE) l66 c66 k66;have F67:=bM (st:=Dj) l67 c67 k67
 have T:Txt K mg { tD:=f0,sT:=_,p4:=f1,pF:=_,nP:=f2,nD:=_,qj:=f3,pN:=_,tx:=f4,sR:=_,tu:=f5,sP:=_,p9:=f6,pJ:=_,p7:=f7,pI:=_,vO:=f8,vE:=_,nR:=f9,nF:=_,iS:=f10,iL:=_,ma:=f11,lJ:=_,tw:=f12,sQ:=_,qh:=f13,pL:=_,nQ:=f14,nE:=_,lZ:=f15,lI:=_,pX:=f16,pA:=_,tm:=f17,sO:=_,iQ:=f18,iK:=_,p0:=f19,pE:=_,yD:=f20,ym:=_,lY:=f21,lH:=_,gX:=f22,gV:=_,mh:=f23,lM:=_,qi:=f24,pM:=_,pZ:=f25,pC:=_,gW:=f26,gU:=_,ji:=f27,jf:=_,nM:=f28,nA:=_,vL:=f29,vC:=_,nN:=f30,nB:=_,Al:=f31,Ah:=_,yC:=f32,yj:=_,vH:=f33,vw:=_,vG:=f34,vv:=_,vK:=f35,vB:=_,nK:=f36,nk:=_,lV:=f37,lE:=_,nJ:=f38,ni:=_,tj:=f39,sN:=_,jh:=f40,je:=_,vJ:=f41,vA:=_,An:=f42,Aj:=_,vI:=f43,vz:=_,lX:=f44,lG:=_,Am:=f45,Ai:=_,lW:=f46,lF:=_,nL:=f47,nv:=_,nI:=f48,nh:=_,pY:=f49,pB:=_,iU:=f50,iN:=_,md:=f51,lK:=_,kh:=f52,ke:=_,iT:=f53,iM:=_,p5:=f54,pG:=_,qo:=f55,pO:=_,nU:=f56,nG:=_,qv:=f57,pP:=_,tz:=f58,sS:=_,vM:=f59,vD:=_,nV:=f60,nH:=_,qg:=f61,pK:=_,qA:=f62,pQ:=_,p6:=f63,pH:=_,nO:=f64,nC:=_,mM:=f65,mJ:=_,kg:=f66,kd:=_,LP:=fa,LG:=_,a_NOUGHT:=m0,a_ONE:=m1,t_MOST_STATES:=it0,t_MOST_PUTS:=it1,t_MOST_LOOKS:=it2,a_System:=C }:={
  zF:=W.mg_of X G a0
  BU:=F0.binds (ps:=["_law_script"]) λ_ _ _ _ _ _=>by refine GC ?_;intros;rfl
  xr:=F0
  aX:=W.mg_of X G a1
  bu:=F1.binds (ps:=["_law_bag_here","_law_many"]) λ_ _ _ _ _ _=>by refine ln2 ?_;intros;rfl
  bp:=F1
  wB:=W.mg_of X G a2
  yz:=F2.binds (ps:=["_law_bag_here"]) λ_ _ _ _ _ _=>by refine GC ?_;intros;rfl
  tO:=F2
  m9:=W.mg_of X G a3
  pU:=F3.binds (ps:=["_law_bag_here","_law_n"]) λ_ _ _ _ _ _=>by refine ln2 ?_;intros;rfl
  mQ:=F3
  eZ:=W.mg_of X G a4
  fW:=F4.binds (ps:=["_law_top","_law_bottom"]) λ_ _ _ _ _ _=>by refine ln2 ?_;intros;rfl
  fo:=F4
  mI:=W.mg_of X G a5
  oT:=F5.binds (ps:=["_law_one","_law_other"]) λ_ _ _ _ _ _=>by refine ln2 ?_;intros;rfl
  kX:=F5
  so:=W.mg_of X G a6
  uR:=F6.binds (ps:=["_law_one","_law_other"]) λ_ _ _ _ _ _=>by refine ln2 ?_;intros;rfl
  qC:=F6
  j8:=W.mg_of X G a7
  mK:=F7.binds (ps:=["_law_one","_law_other"]) λ_ _ _ _ _ _=>by refine ln2 ?_;intros;rfl
  jS:=F7
  kQ:=W.mg_of X G a8
  oA:=F8.binds (ps:=["_law_by_here","_law_row_here"]) λ_ _ _ _ _ _=>by refine ln2 ?_;intros;rfl
  lg:=F8
  qO:=W.mg_of X G a9
  sZ:=F9.binds (ps:=["_law_bag_here","_law_move_here","_law_put","_law_look"]) λ_ _ _ _ _ _=>by refine Q0 ?_;intros;rfl
  nZ:=F9
  o9:=W.mg_of X G a10
  rE:=F10.binds (ps:=["_law_bag_here"]) λ_ _ _ _ _ _=>by refine GC ?_;intros;rfl
  kW:=F10
  uI:=W.mg_of X G a11
  wI:=F11.binds (ps:=["_law_bag_here","_law_wide"]) λ_ _ _ _ _ _=>by refine ln2 ?_;intros;rfl
  qV:=F11
  jM:=W.mg_of X G a12
  kS:=F12.binds (ps:=["_law_bag_here","_law_many","_law_wide"]) λ_ _ _ _ _ _=>by refine MY ?_;intros;rfl
  jq:=F12
  xX:=W.mg_of X G a13
  zM:=F13.binds (ps:=["_law_bag_here","_law_n","_law_way","_law_first","_law_wide"]) λ_ _ _ _ _ _=>by refine Rw ?_;intros;rfl
  uZ:=F13
  wC:=W.mg_of X G a14
  yA:=F14.binds (ps:=["_law_bag_here","_law_n","_law_ins","_law_outs","_law_wide"]) λ_ _ _ _ _ _=>by refine Rw ?_;intros;rfl
  tP:=F14
  uH:=W.mg_of X G a15
  wH:=F15.binds (ps:=["_law_bag_here"]) λ_ _ _ _ _ _=>by refine GC ?_;intros;rfl
  qU:=F15
  m7:=W.mg_of X G a16
  pR:=F16.binds (ps:=["thing","at","most"]) λ_ _ _ _ _ _=>by refine MY ?_;intros;rfl
  mO:=F16
  uF:=W.mg_of X G a17
  xn:=F17.binds (ps:=["thing"]) λ_ _ _ _ _ _=>by refine GC ?_;intros;rfl
  tH:=F17
  gQ:=W.mg_of X G a18
  iP:=F18.binds (ps:=["one","other"]) λ_ _ _ _ _ _=>by refine ln2 ?_;intros;rfl
  fJ:=F18
  xT:=W.mg_of X G a19
  zI:=F19.binds (ps:=["thing"]) λ_ _ _ _ _ _=>by refine GC ?_;intros;rfl
  uV:=F19
  Ds:=W.mg_of X G a20
  Gu:=F20.binds (ps:=["thing","many"]) λ_ _ _ _ _ _=>by refine ln2 ?_;intros;rfl
  Cb:=F20
  j7:=W.mg_of X G a21
  lQ:=F21.binds (ps:=["things","wide"]) λ_ _ _ _ _ _=>by refine ln2 ?_;intros;rfl
  ja:=F21
  pW:=F22.binds (ps:=["self","move","put","look"]) λ_ _ _ _ _ _=>by refine Q0 ?_;intros;rfl
  qE:=F22
  j9:=W.mg_of X G a23
  lS:=F23.binds (ps:=["_law_grid"]) λ_ _ _ _ _ _=>by refine GC ?_;intros;rfl
  jb:=F23
  xY:=W.mg_of X G a24
  zN:=F24.binds (ps:=["_law_parts_here"]) λ_ _ _ _ _ _=>by refine GC ?_;intros;rfl
  va:=F24
  m8:=W.mg_of X G a25
  pS:=F25.binds (ps:=["row","bottom"]) λ_ _ _ _ _ _=>by refine ln2 ?_;intros;rfl
  mP:=F25
  oQ:=W.mg_of X G a26
  pT:=F26.binds (ps:=["wholes"]) λ_ _ _ _ _ _=>by refine GC ?_;intros;rfl
  kq:=F26
  iJ:=W.mg_of X G a27
  jg:=F27.binds (ps:=["row"]) λ_ _ _ _ _ _=>by refine GC ?_;intros;rfl
  gA:=F27
  we:=W.mg_of X G a28
  yw:=F28.binds (ps:=["lines","begin","place"]) λ_ _ _ _ _ _=>by refine MY ?_;intros;rfl
  tJ:=F28
  Bt:=W.mg_of X G a29
  DN:=F29.binds (ps:=["lines","at","place","before"]) λ_ _ _ _ _ _=>by refine Q0 ?_;intros;rfl
  zx:=F29
  wg:=W.mg_of X G a30
  yx:=F30.binds (ps:=["lines","at","to"]) λ_ _ _ _ _ _=>by refine MY ?_;intros;rfl
  tK:=F30
  FU:=W.mg_of X G a31
  Jg:=F31.binds (ps:=["rows","wide"]) λ_ _ _ _ _ _=>by refine ln2 ?_;intros;rfl
  EY:=F31
  vq:=W.mg_of X G a32
  yu:=F32.binds (ps:=["top","bottom"]) λ_ _ _ _ _ _=>by refine ln2 ?_;intros;rfl
  uU:=F32
  xg:=W.mg_of X G a33
  zg:=F33.binds (ps:=["rows","wide"]) λ_ _ _ _ _ _=>by refine ln2 ?_;intros;rfl
  vP:=F33
  Bq:=W.mg_of X G a34
  DL:=F34.binds (ps:=["one","other"]) λ_ _ _ _ _ _=>by refine ln2 ?_;intros;rfl
  zv:=F34
  xi:=W.mg_of X G a35
  zj:=F35.binds (ps:=["grid","row"]) λ_ _ _ _ _ _=>by refine ln2 ?_;intros;rfl
  vR:=F35
  wb:=W.mg_of X G a36
  yt:=F36.binds (ps:=["system","rows"]) λ_ _ _ _ _ _=>by refine ln2 ?_;intros;rfl
  tG:=F36
  uy:=W.mg_of X G a37
  wF:=F37.binds (ps:=["system","steps"]) λ_ _ _ _ _ _=>by refine ln2 ?_;intros;rfl
  qS:=F37
  qM:=W.mg_of X G a38
  sX:=F38.binds (ps:=["system","steps"]) λ_ _ _ _ _ _=>by refine ln2 ?_;intros;rfl
  nY:=F38
  zE:=W.mg_of X G a39
  BS:=F39.binds (ps:=["many","at"]) λ_ _ _ _ _ _=>by refine ln2 ?_;intros;rfl
  xp:=F39
  rn:=W.mg_of X G a40
  tU:=F40.binds (ps:=["row"]) λ_ _ _ _ _ _=>by refine GC ?_;intros;rfl
  mW:=F40
  xh:=W.mg_of X G a41
  zh:=F41.binds (ps:=["rows"]) λ_ _ _ _ _ _=>by refine GC ?_;intros;rfl
  vQ:=F41
  FV:=W.mg_of X G a42
  Jh:=F42.binds (ps:=["one","other"]) λ_ _ _ _ _ _=>by refine ln2 ?_;intros;rfl
  EZ:=F42
  Bs:=W.mg_of X G a43
  DM:=F43.binds (ps:=["rows","wide","at"]) λ_ _ _ _ _ _=>by refine MY ?_;intros;rfl
  zw:=F43
  oP:=W.mg_of X G a44
  qQ:=F44.binds (ps:=["rows","wide"]) λ_ _ _ _ _ _=>by refine ln2 ?_;intros;rfl
  mi:=F44
  Br:=W.mg_of X G a45
  EN:=F45.binds (ps:=["rows","wide"]) λ_ _ _ _ _ _=>by refine ln2 ?_;intros;rfl
  Ap:=F45
  uG:=W.mg_of X G a46
  wG:=F46.binds (ps:=["grid","wide"]) λ_ _ _ _ _ _=>by refine ln2 ?_;intros;rfl
  qT:=F46
  wd:=W.mg_of X G a47
  yv:=F47.binds (ps:=["one","other","wide"]) λ_ _ _ _ _ _=>by refine MY ?_;intros;rfl
  tI:=F47
  wa:=W.mg_of X G a48
  yr:=F48.binds (ps:=["system","rows"]) λ_ _ _ _ _ _=>by refine ln2 ?_;intros;rfl
  tF:=F48
  r8:=W.mg_of X G a49
  uQ:=F49.binds (ps:=["system"]) λ_ _ _ _ _ _=>by refine GC ?_;intros;rfl
  qB:=F49
  ph:=W.mg_of X G a50
  rG:=F50.binds (ps:=["_law_thing"]) λ_ _ _ _ _ _=>by refine GC ?_;intros;rfl
  kZ:=F50
  uJ:=W.mg_of X G a51
  wJ:=F51.binds (ps:=["_law_thing","_law_many"]) λ_ _ _ _ _ _=>by refine ln2 ?_;intros;rfl
  qW:=F51
  mU:=W.mg_of X G a52
  oU:=F52.binds (ps:=["_law_thing","_law_many","_law_wide"]) λ_ _ _ _ _ _=>by refine MY ?_;intros;rfl
  kv:=F52
  pe:=W.mg_of X G a53
  rF:=F53.binds (ps:=["_law_rows","_law_weights","_law_n"]) λ_ _ _ _ _ _=>by refine MY ?_;intros;rfl
  kY:=F53
  xU:=W.mg_of X G a54
  zJ:=F54.binds (ps:=["_law_one","_law_other"]) λ_ _ _ _ _ _=>by refine ln2 ?_;intros;rfl
  uW:=F54
  xZ:=W.mg_of X G a55
  zO:=F55.binds (ps:=["_law_one","_law_other"]) λ_ _ _ _ _ _=>by refine ln2 ?_;intros;rfl
  vd:=F55
  qP:=W.mg_of X G a56
  td:=F56.binds (ps:=["_law_one","_law_other"]) λ_ _ _ _ _ _=>by refine ln2 ?_;intros;rfl
  oa:=F56
  sv:=W.mg_of X G a57
  uS:=F57.binds (ps:=["_law_rows","_law_wide"]) λ_ _ _ _ _ _=>by refine ln2 ?_;intros;rfl
  qD:=F57
  jN:=W.mg_of X G a58
  kT:=F58.binds (ps:=["_law_one","_law_other"]) λ_ _ _ _ _ _=>by refine ln2 ?_;intros;rfl
  jr:=F58
  xj:=W.mg_of X G a59
  zm:=F59.binds (ps:=["_law_grid","_law_row_here"]) λ_ _ _ _ _ _=>by refine ln2 ?_;intros;rfl
  vS:=F59
  wD:=W.mg_of X G a60
  yB:=F60.binds (ps:=["_law_parts_here","_law_steps_here"]) λ_ _ _ _ _ _=>by refine ln2 ?_;intros;rfl
  tQ:=F60
  xW:=W.mg_of X G a61
  zL:=F61.binds (ps:=["_law_parts_here","_law_state","_law_puts_here"]) λ_ _ _ _ _ _=>by refine MY ?_;intros;rfl
  uY:=F61
  ya:=W.mg_of X G a62
  zP:=F62.binds (ps:=["_law_parts_here","_law_rows","_law_weights","_law_start","_law_puts_here"]) λ_ _ _ _ _ _=>by refine Rw ?_;intros;rfl
  ve:=F62
  xV:=W.mg_of X G a63
  zK:=F63.binds (ps:=["_law_bag_here","_law_parts_here","_law_steps_here","_law_wide"]) λ_ _ _ _ _ _=>by refine Q0 ?_;intros;rfl
  uX:=F63
  wA:=W.mg_of X G a64
  yy:=F64.binds (ps:=["_law_bag_here","_law_parts_here"]) λ_ _ _ _ _ _=>by refine ln2 ?_;intros;rfl
  tL:=F64
  ng:=W.mg_of X G a65
  pV:=F65.binds (ps:=["_law_thing"]) λ_ _ _ _ _ _=>by refine GC ?_;intros;rfl
  jT:=F65
  qN:=W.mg_of X G a66
  sY:=F66.binds (ps:=["_law_thing"]) λ_ _ _ _ _ _=>by refine GC ?_;intros;rfl
  ks:=F66
  N6:=F67
  abs:=W.mg_none_of X G z_abs
  len:=W.mg_none_of X G z_len
  min:=W.mg_none_of X G z_min
  int:=W.mg_none_of X G z_int
  range:=W.mg_none_of X G z_range
  isinstance:=W.mg_none_of X G z_isinstance
  list:=W.mg_none_of X G z_list
  bool:=W.mg_none_of X G z_bool
  tuple:=W.mg_none_of X G z_tuple
  all:=W.mg_none_of X G z_all
  enumerate:=W.mg_none_of X G z_enumerate
  zip:=W.mg_none_of X G z_zip
  sum:=W.mg_none_of X G z_sum
  max:=W.mg_none_of X G z_max
  mg_NOUGHT:=W.mg_of X G ca0
  sq_NOUGHT:=λH=>.inr ⟨_,_,_,cl0,rfl,rfl,jU rfl,.cons ⟨_,rfl⟩ (.cons ⟨_,rfl⟩ (.nil))⟩
  mg_ONE:=W.mg_of X G ca1
  sq_ONE:=λH=>.inr ⟨_,_,_,cl1,rfl,rfl,jU rfl,.cons ⟨_,rfl⟩ (.cons ⟨_,rfl⟩ (.nil))⟩
  mg_MOST_STATES:=W.mg_of X G ci0
  mg_MOST_PUTS:=W.mg_of X G ci1
  mg_MOST_LOOKS:=W.mg_of X G ci2
  mg_System:=W.mg_of X G aC
  cl_System:=⟨pg,hd,po,sa⟩
  na_move:=n_move
  na_states:=n_states
  na_put:=n_put
  na_ins:=n_ins
  na_look:=n_look
  na_outs:=n_outs
  mk_System:=⟨mk,a22,i22,kc⟩ }
 exact ⟨_,λs v=>.of_eq rfl,λbase _ _=>OQ T⟩
theorem walk {l:W.OpenLaw} {q:Program} {loose:List Str} {XP:(Str->Option Value)->Heap->Prop} {YP:World->Heap->Prop} {d:DefRec} {K:Params->W.Frag} (hn:l.most=some 63) (hdf:d.params.defaults=[])
  (hY:∀(w:World) (h:Heap),YP w h->(K w.params).In h)
  (F:∀(w:World) (mg:Str->Option Value) (fa:Addr) (h:Heap),(K w.params).In h->h.Ns mainGlobals mg->mg d.name=some (.ref fa) →
   ∃fd:FuncData,(∀(s:Shared) (u:Value),BindsTo s fd ⟨[u],[]⟩ [("_law_script",u)])/\∀base:Heap,(K w.params).In base->base.Ns mainGlobals mg->cJ l.prog w (K w.params) mg base gE 10 fa fd ["_law_script"] (AG (K w.params))) :
  W.WalkO q loose XP YP l.row.toRowW d [] (λf vs=>PySem.call f vs) :=
 L2.L8 (n:=63) (k:=10) (x:="_law_script") (CX:=λ_=>gE) (sp:=λw=>AG (K w.params)) hn (by decide) hdf ⟨rfl,by decide,by decide⟩ hY F (λ_ _ a ns hl _ hS=>⟨a,ns,rfl,hS,hl,λ_=>rfl⟩) λ_ _ _ _ _ z=>z
end Lw
namespace PySem.W.Fast
def tw11635571668196231762:=()
def tw10330624799820215587:=()
def tw3384033560221390199:=()
def tw11858594985740743383:=()
def tw17855490737642831768:=()
def tw14458092451166878534:=()
def tw13343370155512114200:=()
def tw16281806303744517957:=()
def tw4226776538191633929:=()
def tw13065260961079182986:=()
def tw5211693798014568489:=()
def tw8537545455767833633:=()
def tw519863958980738538:=()
def tw4657034388302829908:=()
def tw6150460465977185427:=()
def tw3979962375501680842:=()
def tw17345548745869523357:=()
def tw18426174401230228795:=()
def tw2421854073420530427:=()
def tw1765326856144095584:=()
def tw11149032521142967697:=()
def tw30362808291610208:=()
def tw9381403884828779831:=()
def tw12758131497279145948:=()
def tw8440650152305618483:=()
def tw1302891751586919161:=()
def tw15033050514346628455:=()
def tw7560489445883783362:=()
def tw12336378464806518306:=()
def tw9073823227412418164:=()
def tw7039928800592529116:=()
def tw11009202922157899300:=()
def tw12731772128060764574:=()
def tw11094425147853984966:=()
def tw9470821027085721650:=()
def tw17198308219736477408:=()
def tw3127677660692242610:=()
def tw15982122657895538345:=()
def tw15790789377681648752:=()
def tw14766457700332166216:=()
def tw17483823799822220592:=()
def tw5400722471109150404:=()
def tw15076202217016632327:=()
def tw15828273828116074523:=()
def tw12819381123961078269:=()
def tw14588050316465552337:=()
def tw13405774697186240937:=()
def tw4381421368425738446:=()
def tw442141090330039250:=()
def tw4142710511015655490:=()
def tw5840829111320641155:=()
def tw6098225946021637847:=()
def tw10768607407293994395:=()
def tw14129907697897908105:=()
def tw3092749828967913328:=()
def tw15035822294207563239:=()
def tw11671985259035175069:=()
def tw12992922296089498779:=()
def tw7023810349792406093:=()
def tw9894284974633195470:=()
def tw8066175473790931905:=()
def tw3610278223748337347:=()
def tw10120901051640512450:=()
def tw15983459203601507807:=()
def tw9786210545162405607:=()
def tw10411424488912240456:=()
def tw15860900184988743993:=()
def tw17429411708017512991:=()
def tw5105008658656841510:=()
def tw18061261799000034151:=()
def tw13347774107441563976:=()
def tw5591051962224589292:=()
def tw8387173544498189598:=()
def tw222164756620599355:=()
def tw17200566178944992389:=()
def tw9974199361410478072:=()
def tw3575673449911657437:=()
def tw6460417619869611374:=()
def tw8402215583347222255:=()
def tw15473553167190209175:=()
def tw16989622702860997729:=()
def tw17159912181784916756:=()
def tw13246036810403676927:=()
def tw3936269754393160896:=()
def tw4790322701564846614:=()
def tw2088151383047557470:=()
def tw2832346473619760763:=()
def tw167180562430638225:=()
def tw8012247308288257619:=()
def tw16504306134205700713:=()
def tw6504701230927162494:=()
def tw7349983661102112272:=()
def tw745540722696036846:=()
def tw2373887920272864167:=()
def tw16451499896135362675:=()
def tw8897692622172422346:=()
def tw11797472135094945984:=()
def tw5492909254960231327:=()
def tw13724691549242608893:=()
def tw4895892196430253071:=()
def tw10848036662679079878:=()
def tw11959338355385652241:=()
def tw12192591138013010566:=()
def tw2827631679174749597:=()
def tw12944774874340549003:=()
def tw5081192783512579021:=()
def tw5981636143866559397:=()
def tw2338389473888279783:=()
def tw15432138811026989764:=()
def tw18351345458206634451:=()
def tw6110457143873763446:=()
def tw2379240180904100751:=()
def tw10040988897915996548:=()
def tw13295137803835768604:=()
def tw17867040907524726729:=()
def tw16098996691777493660:=()
def tw15302458492778648158:=()
def tw3357619903034162281:=()
def tw5194728813099140855:=()
def tw10546397411006244461:=()
def tw12733177508567966955:=()
def tw8785998020245265224:=()
def tw7849056156244088334:=()
def tw6029652932909382266:=()
def tw17822615887279030432:=()
def tw13004586153781408763:=()
def tw7933025172414837953:=()
def tw18272184972552267324:=()
def tw13449349625024180801:=()
def tw8837839299865389606:=()
def tw9911546188117676281:=()
def tw11964661052731723503:=()
def tw16577289483981062447:=()
def tw950082164732999772:=()
def tw4321775047373774928:=()
def tw3338809155932026979:=()
def tw14344681008287293638:=()
def tw1332818495025366202:=()
def tw7710108796100601767:=()
def tw13201662463359300029:=()
def tw4117019430759438435:=()
def tw4657168182235648378:=()
def tw6937166312554301280:=()
def tw1969998438470887184:=()
def tw12560602396920287161:=()
def tw9806337283565170236:=()
def tw8047634156264403310:=()
def tw954694032856649569:=()
def tw3723841696810538441:=()
def tw16527917612986526098:=()
def tw4031249179744294360:=()
def tw15108732120949725843:=()
def tw14707849511998749818:=()
def tw14971198945145267323:=()
def tw243627501241741422:=()
def tw4193924689768173506:=()
def tw7526545768590624374:=()
def tw7975302032659743926:=()
def tw14810645532202318279:=()
def tw560615897947171718:=()
def tw5529848556072441645:=()
def tw12133058881490148127:=()
def tw8420878503097501488:=()
def tw12512853816333203645:=()
def tw15623739287828389988:=()
def tw16930020302214727218:=()
def tw16647724314905929175:=()
def tw8597550698050190358:=()
def tw16644328302720240438:=()
def tw13362385055011495223:=()
def tw11644615108513240308:=()
def tw12636252248790809057:=()
def tw1388433590917356500:=()
def tw12278546839669224126:=()
def tw16898295372988216971:=()
def tw5456861824062375877:=()
def tw4474722405491173933:=()
def tw13820243001473967042:=()
def tw1960131529831124845:=()
def tw7014704426480763637:=()
def tw8938714367420051375:=()
def tw8252480622032734108:=()
def tw8047400523575869265:=()
def tw15146346601178586465:=()
def tw14404743375709610085:=()
def tw8182813093674839286:=()
def tw4870341793045431088:=()
def tw4548393990927489313:=()
def tw16302383662040625212:=()
def tw5002980639894937454:=()
def tw11490850093128216626:=()
def tw17713597607004059628:=()
def tw18439615507815127435:=()
def tw15085812748955297287:=()
def tw10699814845467480583:=()
def tw15515502656573333092:=()
def tw6436494755608878407:=()
def tw8753792178570827410:=()
def tw7834741314362716518:=()
def tw5704667887139341054:=()
def tw2335149807188613850:=()
def tw18416662153237484811:=()
def tw3802264099130702450:=()
def tw7106761195637769658:=()
def tw4328725372968577868:=()
def tw3528135291923384564:=()
def tw7238711306744954444:=()
def tw5508093988841999909:=()
def tw13202459228809801431:=()
def tw11573960276397941054:=()
def tw1068044362998979195:=()
def tw278892492225758140:=()
def tw8359148441411432331:=()
def tw16286495665579375084:=()
def tw17556811630167765647:=()
def tw277056372326311331:=()
def tw15204418887698408157:=()
def tw9023565732294314734:=()
def tw9973584894105149409:=()
def tw6697172057069932412:=()
def tw6272805724196354024:=()
def tw8064198251347575524:=()
def tw11062216637053487736:=()
def tw14847839235434835057:=()
def tw4965825144311352972:=()
def tw13661083844993397352:=()
def tw6970826064976511524:=()
def tw11992686188392864142:=()
def tw17260011195070438196:=()
def tw9320119921840822127:=()
def tw2820967514109192081:=()
def tw17669346173451479458:=()
def tw3684120828779522884:=()
def tw6959887264743247926:=()
def tw12834001747785141144:=()
def tw11785749466494959593:=()
def tw9872823233940068620:=()
def tw5893273317235614967:=()
def tw16312636699343921561:=()
def tw7060641941683595215:=()
def tw11916891580705297296:=()
def tw1756918167118652419:=()
def tw9454436512399315182:=()
def tw4217036971479480600:=()
def tw14806144964455592033:=()
def tw9069692275006640975:=()
def tw578381687983221952:=()
def tw10184503520943942868:=()
def tw16683459329781637667:=()
def tw8139542726046514826:=()
def tw387837442810893068:=()
def tw590624442883469142:=()
def tw16716005311400100199:=()
def tw6032241793186038558:=()
def tw847939914491623911:=()
def tw12668566878080569265:=()
def tw9556920225420892608:=()
def tw3464060323536387590:=()
def tw16273704799154388483:=()
def tw17733990581396350789:=()
def tw10722594339677897478:=()
def tw4904368483862315455:=()
def tw5226889441348672553:=()
def tw16081986480069694375:=()
def tw7305309195876585503:=()
def tw16492258560773660308:=()
def tw5590496013434565413:=()
def tw16442763907401611576:=()
def tw4162539420692107788:=()
def tw11102546312642918353:=()
def tw4006073771385234757:=()
def tw2777146671933635547:=()
def tw11165699230839990876:=()
def tw10166737963499036914:=()
def tw5663951541231258767:=()
def tw11895118366671889869:=()
def tw6113849912527415793:=()
def tw1592768181507502100:=()
def tw10237952957529651070:=()
def tw2621521072767511288:=()
def tw13235506789915444968:=()
def tw4391787645525923205:=()
def tw15535059329656390420:=()
def tw13191043513965634171:=()
def tw12829830624858813249:=()
def tw7893623436854660356:=()
def tw5499453826310657953:=()
def tw1473321369851335846:=()
def tw1090465655601939061:=()
def tw14344469319300131877:=()
def tw11635105868508278232:=()
def tw7354008023878406533:=()
def tw18065577152539624571:=()
def tw17473814129878532092:=()
def tw11919847941393135761:=()
def tw15552982437465229978:=()
def tw10426208924565258218:=()
def tw10833892892456805317:=()
def tw14703523821576485440:=()
def tw18204145024648081069:=()
def tw14023702871743212881:=()
def tw720654427524064403:=()
def tw11034124828972637210:=()
def tw5789788234786391886:=()
def tw2232198657777701638:=()
def tw17944641231281750857:=()
def tw3546599485638529301:=()
def tw10098276898432632865:=()
def tw9062052367338241470:=()
def tw7153154962535648286:=()
def tw14491863960941265725:=()
def tw11078120089011468758:=()
def tw17370813606609094666:=()
def tw7473819023035820546:=()
def tw5882477861636803204:=()
def tw14419433733228706998:=()
def tw18252477211502658009:=()
def tw16012099366622350719:=()
def tw17038400626889051023:=()
def tw10232655649279218476:=()
def tw11751186700166074964:=()
def tw12736807756653650145:=()
def tw372003681737150546:=()
def tw1408056491790087345:=()
def tw852559936484629773:=()
def tw16349890464302719191:=()
def tw4223908935076469410:=()
def tw7905470255273617447:=()
def tw16723407752990418318:=()
def tw12177514669533925670:=()
def tw1136989619534905295:=()
def tw18070613830677003937:=()
def tw4890460556667116799:=()
def tw714229614722166128:=()
def tw16453966980372253407:=()
def tw47082478043630044:=()
def tw17074884653664364494:=()
def tw11242522455400587767:=()
def tw4732468146290868935:=()
def tw12280096759889703574:=()
def tw8913769726520072402:=()
def tw15117726840049238768:=()
def tw6653567606950735548:=()
def tw9193552114327670974:=()
def tw2989682182590146660:=()
def tw9733081492565650193:=()
def tw7381517143770569538:=()
def tw11216324053446317734:=()
def tw17193174509228564243:=()
def tw13683255788079969647:=()
def tw12817021305387880938:=()
def tw18175067734022625410:=()
def tw16049608702943638890:=()
def tw7360826584225368867:=()
def tw11030691228408102444:=()
def tw4819286068191612323:=()
def tw49990472052645394:=()
def tw16734851750088832328:=()
def tw16774347214301573890:=()
def tw9389080585009525691:=()
def tw8055825233890670282:=()
def tw6663705313789476787:=()
def tw7516383511931390661:=()
def tw18432433710808610379:=()
def tw1939266920153311826:=()
def tw8850577338164039775:=()
def tw4894873560812918884:=()
def tw2190831922273717793:=()
def tw15329331665105550961:=()
def tw2778243005446174651:=()
def tw16941396173998987201:=()
def tw14521819198392690616:=()
def tw11282479653330427440:=()
def tw11395613278635251407:=()
def tw12645901807840606162:=()
def tw8990987136295496266:=()
def tw11964110155726904838:=()
def tw8790204038945078354:=()
def tw18129417288227937502:=()
def tw14225220111246584546:=()
def tw15435462487756632610:=()
def tw4970308631372494015:=()
def tw11432642019869466456:=()
def tw13769671756581175795:=()
def tw2672588581794443367:=()
def tw1753401278947509178:=()
def tw3194596411990496393:=()
def tw10537712675881303031:=()
def tw3755083316755039667:=()
def tw9081830241620389618:=()
def tw4730922271583509144:=()
def tw16605345688908112214:=()
def tw17686939879356093189:=()
def tw2188905079373607399:=()
def tw10479778453397200096:=()
def tw13196905934569823065:=()
def tw6550618921678957397:=()
def tw5649973258769050615:=()
def tw6101393886290354794:=()
def tw7095390873602206991:=()
def tw1370478352338284640:=()
def tw11429934568807663352:=()
def tw1736776958094751259:=()
def tw13622271240197786629:=()
def tw5088640356128385366:=()
def tw4686311632858206601:=()
def tw14449557219177151411:=()
def tw9093173755683324924:=()
def tw15638390871895676375:=()
def tw13213643830560050425:=()
def tw17961295905808661400:=()
def tw6812389840629013624:=()
def tw9950476336532213721:=()
def tw6803560050016979518:=()
def tw13784957564788278549:=()
def tw8674421062622326134:=()
def tw7000810254169367547:=()
def tw2257178722540995340:=()
def tw13075033328479449143:=()
def tw11357936798975402869:=()
def tw13258784258686587142:=()
def tw7440311382553951396:=()
def tw765518029861170390:=()
def tw8663923112158043686:=()
def tw3086958506506691858:=()
def tw4598265638588898759:=()
def tw8711561521677821806:=()
def tw12630385003466907515:=()
def tw7951869359112586968:=()
def tw3300638513508380889:=()
def tw13574333610811386366:=()
def tw15494661535308260274:=()
def tw8154321140143723797:=()
def tw17403412048836070690:=()
def tw11878205088902223093:=()
def tw6032136445805922664:=()
def tw13686724737916546318:=()
def tw12427810749093123000:=()
def tw11687779642764546272:=()
def tw3938593371027049034:=()
def tw3927208106911889860:=()
def tw4605424902019402032:=()
def tw1105161794077556373:=()
def tw11315019891024970608:=()
def tw9744892918571169229:=()
def tw10080832891021093797:=()
def tw7163876855046880888:=()
def tw7081343675629443991:=()
def tw9567097717898449333:=()
def tw18075755641097471689:=()
def tw10708500679210817949:=()
def tw8607247384961662905:=()
def tw5179802901864299945:=()
def tw1590580796892011678:=()
def tw14425105070063332395:=()
def tw8268255219873336795:=()
def tw6243742653254377419:=()
def tw3125089986125742548:=()
def tw4504944457092677861:=()
def tw13898322387252967564:=()
theorem te11635571668196231762:True:=trivial
end PySem.W.Fast
open PySem PySem.W PyProof.Rows
set_option maxRecDepth 100000 in
set_option maxHeartbeats 0 in
theorem PySem.Challenge.cw_helmsum_k49_own_way_holds : PySem.Challenge.rw_helmsum_k49_own_way.Holds := by
 w_on;o_law;k_head;(case hw=>w_witness2)
 k_fill
 refine Lw.walk (l:=PySem.Challenge.rw_helmsum_k49_own_way) rfl rfl (λw h Y=>PySem.W.kIn_of Y) ?F
 case F =>
  intro w mg fa h KX G hmg;refine' Lw.all_mk KX G hmg ?aC ?a0 ?l0 ?c0 ?k0 ?a1 ?l1 ?c1 ?k1 ?a2 ?l2 ?c2 ?k2 ?a3 ?l3 ?c3 ?k3 ?a4 ?l4 ?c4 ?k4 ?a5 ?l5 ?c5 ?k5 ?a6 ?l6 ?c6 ?k6 ?a7 ?l7 ?c7 ?k7 ?a8 ?l8 ?c8 ?k8 ?a9 ?l9 ?c9 ?k9 ?a10 ?l10 ?c10 ?k10 ?a11 ?l11 ?c11 ?k11 ?a12 ?l12 ?c12 ?k12 ?a13 ?l13 ?c13 ?k13 ?a14 ?l14 ?c14 ?k14 ?a15 ?l15 ?c15 ?k15 ?a16 ?l16 ?c16 ?k16 ?a17 ?l17 ?c17 ?k17 ?a18 ?l18 ?c18 ?k18 ?a19 ?l19 ?c19 ?k19 ?a20 ?l20 ?c20 ?k20 ?a21 ?l21 ?c21 ?k21 ?a22 ?i22 ?l22 ?c22 ?k22 ?a23 ?l23 ?c23 ?k23 ?a24 ?l24 ?c24 ?k24 ?a25 ?l25 ?c25 ?k25 ?a26 ?l26 ?c26 ?k26 ?a27 ?l27 ?c27 ?k27 ?a28 ?l28 ?c28 ?k28 ?a29 ?l29 ?c29 ?k29 ?a30 ?l30 ?c30 ?k30 ?a31 ?l31 ?c31 ?k31 ?a32 ?l32 ?c32 ?k32 ?a33 ?l33 ?c33 ?k33 ?a34 ?l34 ?c34 ?k34 ?a35 ?l35 ?c35 ?k35 ?a36 ?l36 ?c36 ?k36 ?a37 ?l37 ?c37 ?k37 ?a38 ?l38 ?c38 ?k38 ?a39 ?l39 ?c39 ?k39 ?a40 ?l40 ?c40 ?k40 ?a41 ?l41 ?c41 ?k41 ?a42 ?l42 ?c42 ?k42 ?a43 ?l43 ?c43 ?k43 ?a44 ?l44 ?c44 ?k44 ?a45 ?l45 ?c45 ?k45 ?a46 ?l46 ?c46 ?k46 ?a47 ?l47 ?c47 ?k47 ?a48 ?l48 ?c48 ?k48 ?a49 ?l49 ?c49 ?k49 ?a50 ?l50 ?c50 ?k50 ?a51 ?l51 ?c51 ?k51 ?a52 ?l52 ?c52 ?k52 ?a53 ?l53 ?c53 ?k53 ?a54 ?l54 ?c54 ?k54 ?a55 ?l55 ?c55 ?k55 ?a56 ?l56 ?c56 ?k56 ?a57 ?l57 ?c57 ?k57 ?a58 ?l58 ?c58 ?k58 ?a59 ?l59 ?c59 ?k59 ?a60 ?l60 ?c60 ?k60 ?a61 ?l61 ?c61 ?k61 ?a62 ?l62 ?c62 ?k62 ?a63 ?l63 ?c63 ?k63 ?a64 ?l64 ?c64 ?k64 ?a65 ?l65 ?c65 ?k65 ?a66 ?l66 ?c66 ?k66 ?a67 ?l67 ?c67 ?k67 ?ca0 ?cl0 ?ca1 ?cl1 ?ci0 ?ci1 ?ci2 ?pg ?hd ?po ?sa ?mk ?kc ?n_move ?n_states ?n_put ?n_ins ?n_look ?n_outs ?z_abs ?z_len ?z_min ?z_int ?z_range ?z_isinstance ?z_list ?z_bool ?z_tuple ?z_all ?z_enumerate ?z_zip ?z_sum ?z_max
  all_goals try k_is