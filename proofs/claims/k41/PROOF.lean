import PyProof.Rows.All
import Wide.All
import OpenK.AllK
import Wide.FinOn
import Lean
import PyProof.EqAt
import PyProof.EqKinds
import PyProof.TupleCall
import PyProof.NeKinds
import PySem.Challenge.RW_helmsum_k41_reach_rows
set_option Elab.async false
set_option linter.all false
set_option maxRecDepth 100000
abbrev aa:=@List.getD_eq_getElem?_getD
abbrev af:=@List.getElem?_eq_getElem
abbrev ai:=@Nat.le_trans
abbrev aj:=@List.length_map
abbrev ak:=@List.length_append
abbrev au:=@List.mem_append
abbrev av:=@Nat.pow_le_pow_right
abbrev aw:=@Nat.le_refl
abbrev ax:=@List.mem_of_getElem?
abbrev az:=@Nat.mul_le_mul_right
abbrev aB:=@List.mem_map
abbrev aD:=@Rat.intCast_natCast
abbrev aE:=@List.length_replicate
abbrev aF:=@List.mem_cons
abbrev aG:=@List.getElem?_map
abbrev aH:=@List.take_of_length_le
abbrev aI:=@List.getElem?_eq_some_iff
abbrev aL:=@Nat.mul_le_mul
abbrev aM:=@List.getElem?_eq_none
abbrev aN:=@Rat.intCast_mul
abbrev aP:=@List.size_toArray
abbrev aQ:=@List.getElem_mem
abbrev aS:=@Nat.le_of_lt
abbrev aU:=@List.getElem?_append_right
abbrev aX:=@Nat.mul_le_mul_left
abbrev aY:=@List.not_mem_nil
abbrev aZ:=@List.length_cons
abbrev bg:=@PySem.boot_len
abbrev bw:=@Bool.false_ne_true
abbrev bx:=@List.length_singleton
abbrev bA:=@Nat.zero_le
abbrev bB:=@Nat.lt_of_le_of_lt
abbrev bD:=@Nat.pow_add
abbrev bF:=@List.mem_singleton
abbrev bH:=@List.getElem?_append_left
abbrev bM:=@Nat.lt_of_lt_of_le
abbrev bN:=@Int.natAbs_natCast
abbrev bQ:=@List.getElem_of_mem
abbrev bV:=@List.mem_append_right
abbrev bX:=@Nat.mul_comm
abbrev b6:=@List.getElem?_zipWith
abbrev b8:=@List.length_range
abbrev b9:=@List.append_assoc
abbrev cb:=@List.mem_cons_of_mem
abbrev ck:=@Nat.one_le_two_pow
abbrev cm:=@Nat.ne_of_lt
abbrev cp:=@Option.some.inj
abbrev cu:=@Nat.mul_pos
abbrev cv:=@List.mem_of_mem_take
abbrev cw:=@Int.eq_ofNat_of_zero_le
abbrev cz:=@List.length_zipWith
abbrev cB:=@Int.fdiv_eq_ediv_of_nonneg
abbrev cG:=@PySem.F.plainAttrs_list
abbrev cH:=@Rat.intCast_neg
abbrev cI:=@List.map_append
abbrev cJ:=@List.mem_or_eq_of_mem_set
abbrev cL:=@Nat.mul_assoc
abbrev cM:=@List.length_take
abbrev cN:=@List.mem_replicate
abbrev cO:=@Int.natAbs_mul
abbrev cP:=@Nat.lt_or_ge
abbrev cV:=@Nat.le_mul_of_pos_left
abbrev cY:=@PySem.F.type_list_append
abbrev cZ:=@PySem.F.slot_list_append
abbrev df:=@List.getElem?_range
abbrev dh:=@List.nil_append
abbrev dj:=@List.getElem?_replicate
abbrev dC:=@Nat.le_mul_of_pos_right
abbrev dD:=@List.mem_cons_self
abbrev dF:=@Rat.intCast_inj
abbrev dG:=@PySem.W.kia_one
abbrev dI:=@Rat.mul_comm
abbrev dJ:=@Nat.succ_le_succ
abbrev dN:=@List.nodup_append
abbrev dP:=@Int.mul_assoc
abbrev dQ:=@Rat.mul_zero
abbrev dR:=@Nat.succ_mul
abbrev dU:=@Nat.pow_lt_pow_right
abbrev dW:=@Bool.and_eq_true
abbrev eB:=@Rat.natCast_mul
abbrev eC:=@List.nodup_cons
abbrev eE:=@List.length_set
abbrev eI:=@List.drop_eq_getElem_cons
abbrev eN:=@Int.natAbs_dvd_natAbs
abbrev eU:=@List.ext_getElem
abbrev eV:=@List.cons_append
abbrev eX:=@Int.gcd_dvd_left
abbrev fe:=@Nat.sub_self
abbrev ff:=@Nat.pow_succ
abbrev fg:=@Nat.lt_irrefl
abbrev fh:=@Nat.mul_add
abbrev fu:=@Int.gcd_dvd_right
abbrev fv:=@Nat.not_lt_zero
abbrev fK:=@Rat.zero_mul
abbrev fL:=@Int.mul_comm
abbrev fU:=@Nat.le_of_dvd
abbrev fV:=@List.map_cons
abbrev fY:=@Nat.eq_zero_or_pos
abbrev ie:=@List.flatten_cons
abbrev ig:=@List.ext_getElem?
abbrev jd:=@Nat.pow_le_pow_left
abbrev je:=@List.flatten_append
abbrev jg:=@Nat.lt_succ_self
abbrev js:=@Int.mul_pos
abbrev jy:=@Int.emod_lt_of_pos
abbrev jz:=@Bool.false_eq_true
abbrev j6:=@List.append_nil
abbrev kN:=@Nat.pow_pos
abbrev kO:=@List.mem_append_left
abbrev kQ:=@Int.natAbs_neg
abbrev mP:=@PySem.IsL.update
abbrev mQ:=@List.lookup_cons
abbrev mR:=@Int.gcd_comm
abbrev mZ:=@PySem.F.plain_extend_loop
abbrev m4:=@PySem.mem_of_lookup
abbrev m5:=@List.replicate_succ
abbrev m6:=@List.length_reverse
abbrev nh:=@List.getElem?_take_of_lt
abbrev oy:=@Nat.min_eq_left
abbrev oz:=@Int.emod_nonneg
abbrev oA:=@Bool.eq_iff_iff
abbrev o8:=@Nat.le_succ
abbrev o9:=@List.map_id
abbrev ph:=@Int.natCast_dvd_natCast
abbrev pk:=@Int.dvd_mul_of_dvd_left
abbrev qR:=@Rat.add_zero
abbrev qS:=@Nat.lt_trichotomy
abbrev qT:=@Nat.add_comm
abbrev qU:=@List.nodup_nil
abbrev qV:=@List.map_map
abbrev rZ:=@PySem.F.slot_zip_next
abbrev sA:=@Nat.dvd_mul_left
abbrev sC:=@List.all_eq_true
abbrev uc:=@Int.natAbs_eq
abbrev uu:=@Nat.pow_mul
abbrev uv:=@List.getElem_zipWith
abbrev uw:=@List.range_succ
abbrev vD:=@List.map_congr_left
abbrev xg:=@List.mem_range
abbrev xh:=@Int.eq_of_mul_eq_mul_right
abbrev xE:=@Int.mul_neg_of_pos_of_neg
abbrev yJ:=@Rat.mul_one
abbrev yK:=@Nat.one_mul
abbrev yL:=@List.reverse_cons
abbrev zU:=@Rat.intCast_eq_zero_iff
abbrev zV:=@Nat.min_le_right
abbrev zW:=@Nat.le_add_right
abbrev zX:=@List.mem_reverse
abbrev zY:=@List.getElem_map
abbrev Az:=@PySem.W.cellsFrom_some
abbrev AA:=@Nat.mul_zero
abbrev AB:=@Int.zero_add
abbrev BL:=@Rat.mul_eq_zero
abbrev BM:=@Rat.intCast_sub
abbrev BN:=@Rat.intCast_add
abbrev BO:=@List.map_const'
abbrev BP:=@List.length_zip
abbrev BQ:=@Bool.beq_eq_decide_eq
abbrev C8:=@Nat.add_mul
abbrev C9:=@List.replicate_succ'
abbrev Dc:=@List.forIn_nil
abbrev Et:=@PySem.W.plainGet_of
abbrev Eu:=@List.filterMap_cons
abbrev Fw:=@Nat.dvd_trans
abbrev FA:=@PySem.W.callWith_K
abbrev FC:=@List.append_of_mem
abbrev ID:=@Nat.ne_of_gt
abbrev IE:=@Nat.min_self
abbrev IF:=@List.map_nil
abbrev IG:=@Int.dvd_refl
abbrev J0:=@List.mem_flatten
abbrev J5:=@List.length_drop
abbrev Mc:=@Nat.mul_one
abbrev Md:=@Int.dvd_gcd
abbrev Mg:=@Nat.le_antisymm
abbrev Mh:=@List.of_mem_zip
abbrev Mi:=@List.mem_filter
abbrev Mj:=@List.forIn_cons
abbrev Ml:=@Int.gcd_pos_of_ne_zero_right
abbrev OJ:=@List.length_eraseIdx_of_lt
abbrev Qs:=@PySem.F.entry_extend_loop
abbrev Qt:=@List.getElem?_zip_eq_some
abbrev Qu:=@Int.natAbs_ediv_of_nonneg
abbrev QC:=@Option.isSome_iff_exists
abbrev QD:=@List.mem_of_mem_eraseIdx
abbrev R0:=@PySem.F.args_zip_next_1
abbrev R8:=@Nat.eq_zero_of_zero_dvd
abbrev R9:=@Nat.add_sub_cancel_left
namespace L2
open PySem PySem.Spec PyProof.Rows
abbrev Key:=Sum Int Str
def Ot:Key->Value->Bool
 | .inl k,v=>Value.isInt k v
 | .inr x,v=>Value.isStrOf x v
def SE (w:World):Key->Int
 | .inl k=>hashInt k
 | .inr x=>hashStr w x
theorem fq:∀{k:Key} {v:Value},Ot k v=true->(∃i t,k=Sum.inl i/\v=Value.int i t)\/(∃x t,k=Sum.inr x/\v=Value.str x t)
 | .inl i,v,h=>by
  obtain ⟨t,e⟩:=Value.isInt_shape (k:=i) (v:=v) h;exact .inl ⟨i,t,rfl,e⟩
 | .inr x,v,h=>by
  obtain ⟨t,e⟩:=Value.isStrOf_shape (x:=x) (v:=v) h;exact .inr ⟨x,t,rfl,e⟩
theorem P6 (a b:Int):decide ((Sum.inl a:Key)=Sum.inl b)=(a == b):=by
 by_cases e:a=b
 ·subst e;simp
 ·have h:¬(Sum.inl a:Key)=Sum.inl b:=fun q=>e (Sum.inl.inj q)
  rw[decide_eq_false h];exact (beq_eq_false_iff_ne.mpr e).symm
theorem PY (a b:Str):decide ((Sum.inr a:Key)=Sum.inr b)=decide (a=b):=by
 by_cases e:a=b
 ·subst e;simp
 ·have h:¬(Sum.inr a:Key)=Sum.inr b:=fun q=>e (Sum.inr.inj q)
  rw[decide_eq_false h,decide_eq_false e]
theorem P0 (a:Int) (b:Str):decide ((Sum.inl a:Key)=Sum.inr b)=false:=decide_eq_false (fun q=>nomatch q)
theorem PZ (a:Str) (b:Int):decide ((Sum.inr a:Key)=Sum.inl b)=false:=decide_eq_false (fun q=>nomatch q)
def HW (prog:Program) (w:World):PySem.KeyKind prog w Key where
 is:=Ot
 hash:=SE w
 inj:=fun v a b ha hb=>by
  rcases fq ha with ⟨i,t,rfl,rfl⟩ | ⟨x,t,rfl,rfl⟩
  ·rcases fq hb with ⟨j,u,rfl,e⟩ | ⟨y,u,rfl,e⟩
   ·injection e with e1 _;rw[e1]
   ·exact nomatch e
  ·rcases fq hb with ⟨j,u,rfl,e⟩ | ⟨y,u,rfl,e⟩
   ·exact nomatch e
   ·injection e with e1 _;rw[e1]
 byValue:=fun k v h=>by
  rcases fq h with ⟨i,t,rfl,rfl⟩ | ⟨x,t,rfl,rfl⟩ <;> rfl
 pyHash:=fun hv h=>by
  rcases fq hv with ⟨i,t,rfl,rfl⟩ | ⟨x,t,rfl,rfl⟩
  ·exact wpAny_pyHash_int h
  ·exact wpAny_pyHash_str h
 eqBool:=fun hu hv h=>by
  rcases fq hu with ⟨i,t,rfl,rfl⟩ | ⟨x,t,rfl,rfl⟩
  ·rcases fq hv with ⟨j,u,rfl,rfl⟩ | ⟨y,u,rfl,rfl⟩
   ·rw[P6] at h;exact wpAny_eqBool_int h
   ·rw[P0] at h;exact SeqAt.EqAt.int_str i t y u _ _ _ _ h
  ·rcases fq hv with ⟨j,u,rfl,rfl⟩ | ⟨y,u,rfl,rfl⟩
   ·rw[PZ] at h;exact SeqAt.EqAt.str_int x t j u _ _ _ _ h
   ·rw[PY] at h;exact wpAny_eqBool_str h
 «strs»:=fun k x t v h=>by
  rcases fq h with ⟨i,u,rfl,e⟩ | ⟨y,u,rfl,e⟩
  ·exact nomatch e
  ·injection e with e1 _
   subst e1;cases v <;> rfl
inductive V where
  | non | bl (b : Bool) | int (i : Int) | str (x : Str) | byt (b : Array UInt8) | flt (b : UInt64) | ref (a : Addr) | ty (n : String)
  deriving DecidableEq

def RelV:V->Value->Prop
 | .non,u=>u=Value.none
 | .bl b,u=>u=Value.bool b
 | .int i,u=>∃t,u=Value.int i t
 | .str x,u=>∃t,u=Value.str x t
 | .byt b,u=>∃t,u=Value.bytes b t
 | .flt b,u=>∃t,u=Value.float b t
 | .ref a,u=>u=Value.ref a
 | .ty n,u=>u=Value.type n
abbrev cT:List V->List Value->Prop:=Paired RelV
theorem cT.length {xs:List V} {us:List Value} (r:cT xs us):xs.length=us.length:=Paired.length r
theorem cT.get:∀{xs:List V} {us:List Value} {i:Nat} {x:V},cT xs us->xs[i]?=some x->∃u,us[i]?=some u/\RelV x u
 | _,_,_,_,.nil,e=>by simp at e
 | _,_,0,_,.cons r _,e=>by simp at e;subst e;exact ⟨_,rfl,r⟩
 | _,_,i+1,x,.cons _ t,e=>by
  obtain ⟨u,h1,h2⟩:=cT.get (i:=i) (x:=x) t (by simpa using e);exact ⟨u,by simpa using h1,h2⟩
theorem cT.set {x:V} {u:Value} (r:RelV x u):∀{xs:List V} {us:List Value} (i:Nat),cT xs us->cT (xs.set i x) (us.set i u)
 | _,_,_,.nil=>.nil
 | _,_,0,.cons _ t=>.cons r t
 | _,_,i+1,.cons q t=>.cons q (cT.set r i t)
theorem cT.append:∀{xs ys:List V} {us ws:List Value},cT xs us->cT ys ws->cT (xs++ys) (us++ws)
 | _,_,_,_,.nil,s=>s
 | _,_,_,_,.cons r t,s=>.cons r (cT.append t s)
theorem cT.take:∀{xs:List V} {us:List Value} (n:Nat),cT xs us->cT (xs.take n) (us.take n)
 | _,_,0,_=>.nil
 | _,_,_+1,.nil=>.nil
 | _,_,n+1,.cons r t=>.cons r (cT.take n t)
theorem cT.drop:∀{xs:List V} {us:List Value} (n:Nat),cT xs us->cT (xs.drop n) (us.drop n)
 | _,_,0,r=>r
 | _,_,_+1,.nil=>.nil
 | _,_,n+1,.cons _ t=>cT.drop n t
def Ci:Option V->Option Value->Prop
 | some v,some u=>RelV v u
 | none,none=>True
 | _,_=>False
def KV {κ:Type}:List (κ×V)->List (κ×Value)->Prop:=Paired fun (p:κ×V) (q:κ×Value)=>p.1=q.1/\RelV p.2 q.2
def kV:Key->V
 | .inl i=>.int i
 | .inr x=>.str x
inductive HO where
 | lst (xs:List V)
 | tup (xs:List V)
 | dK (kvs:List (Key×V)) | dT (kvs:List (List Key×V))
 | set (S:Int->Bool) (n:Nat)
 | ins (C dx:Addr) (fs:List (Str×V))
 | own (x:Addr)
 | xd (fs:List (Str×V))
 | met (f x:Addr)
 | rng (lo hi:Int)
 | frz (o:Obj) (u:HO)
 | tbl (ps:Array Value)
 | ext (φ:Heap->Prop)
abbrev Hp:=Addr->Option HO
def upd (H:Hp) (a:Addr) (o:HO):Hp:=fun b=>if b=a then some o else H b
theorem aK {H:Hp} {a:Addr} {o:HO}:upd H a o a=some o:=by unfold upd;rw[if_pos rfl]
theorem bJ {H:Hp} {a b:Addr} {o:HO} (h:b≠a):upd H a o b=H b:=by unfold upd;rw[if_neg h]
theorem fA {H:Hp} {a b:Addr} {o:HO} (h:H a=some o) (h':H b=none):a≠b:=by
 intro e;subst e;rw[h] at h';cases h'
section
variable (P:Program) (w:World)
def j3 (H:Hp) (h:Heap) (a:Addr):HO->Prop
 | .lst xs=>xs.length<=sizeLine/\∃(its:List Value) (n:Nat),cT xs its/\h.get? a=some { cls:=.type "list",data:=.seq its.toArray n }
 | .tup xs=>xs.length<=sizeLine/\∃its:List Value,cT xs its/\IsTup h a its.toArray
 | .dK kvs=>kvs.length<=sizeLine/\(a == sysModules)=false/\∃vs,KV kvs vs/\h.DictOf (HW P w) a vs
 | .dT kvs=>kvs.length<=sizeLine/\(a == sysModules)=false/\∃xs:List (List Key×Addr×Value),
   Paired (fun (p:List Key×V) (q:List Key×Addr×Value)=>p.1=q.1/\H q.2.1=some (.tup (p.1.map kV))/\RelV p.2 q.2.2) kvs xs /\
   ∃o es ep,h.get? a=some o/\o.ExactDict/\o.data=.dict es ep/\es.toList=xs.map (entryOfKey (tupleKind (HW P w)))/\(xs.map (·.1)).Nodup
 | .set S n=>h.SetOf (intKind P w) a S n
 | .ins C dx fs=>H dx=some (.own a)/\fs.length<=1000/\dx≠a/\h.get? a=some (PySem.W.instObj C dx) /\
   ∃mA,h.Ns1 dx mA/\(∀f,Ci (fs.lookup f) (mA f))/\PySem.Within mA (fs.map (·.1))
 | .own _=>∃o,h.get? a=some o
 | .xd fs=>∃mA,h.Ns1 a mA/\∀f,Ci (fs.lookup f) (mA f)
 | .rng lo hi=>∃t u v,h.get? a=some { cls:=.type "range",data:=.fields #[.int lo t,.int hi u,.int 1 v] }
 | .frz o u=>h.get? a=some o/\j3 H h a u
 | .tbl ps=>h.get? a=some { cls:=.none,data:=.fields ps }
 | .met f x=>h.get? a=some (PySem.W.methodObj (.ref f) (.ref x))
 | .ext φ=>φ h/\(∃o,h.get? a=some o)/\∀h1 h2:Heap,φ h1->(∀o,h1.get? a=some o->h2.get? a=some o)->φ h2
def Ax (H:Hp) (h:Heap):Prop:=∀a o,H a=some o->j3 P w H h a o
end
section
variable {P:Program} {w:World} {H H':Hp} {h h':Heap} {a:Addr} {o:HO}
theorem j3.lt (x:j3 P w H h a o):a < h.objs.size:=by
 cases o with
 | lst xs=>obtain ⟨_,_,_,_,e⟩:=x;exact Heap.lt_size e
 | tup xs=>obtain ⟨_,_,_,p⟩:=x;exact p.lt
 | dK kvs=>obtain ⟨_,_,_,_,o,_,_,e,_⟩:=x;exact Heap.lt_size e
 | dT kvs=>obtain ⟨_,_,_,_,o,_,_,e,_⟩:=x;exact Heap.lt_size e
 | set S n=>obtain ⟨o,_,_,_,e,_⟩:=x;exact Heap.lt_size e
 | ins C dx fs=>obtain ⟨_,_,_,e,_⟩:=x;exact Heap.lt_size e
 | own y=>obtain ⟨_,e⟩:=x;exact Heap.lt_size e
 | xd fs=>obtain ⟨_,⟨_,_,_,e,_⟩,_⟩:=x;exact Heap.lt_size e
 | rng lo hi=>obtain ⟨_,_,_,e⟩:=x;exact Heap.lt_size e
 | frz ob u=>obtain ⟨e,_⟩:=x;exact Heap.lt_size e
 | tbl ps=>exact Heap.lt_size (show h.get? a=some _ from x)
 | met f y=>exact Heap.lt_size (show h.get? a=some _ from x)
 | ext φ=>obtain ⟨_,⟨_,e⟩,_⟩:=x;exact Heap.lt_size e
theorem Paired.mapP {α β:Type} {F G:α->β->Prop}:∀{l₁:List α} {l₂:List β},Paired F l₁ l₂->(∀a b,F a b->G a b)->Paired G l₁ l₂
 | _,_,.nil,_=>.nil
 | _,_,.cons r t,f=>.cons (f _ _ r) (Paired.mapP t f)
theorem Paired.imp' {α β:Type} {F G:α->β->Prop} (f:∀a b,F a b->G a b) {l₁:List α} {l₂:List β} (r:Paired F l₁ l₂):Paired G l₁ l₂:=Paired.mapP r f
theorem j3.stay (x:j3 P w H h a o) (k:∀b u,(b=a\/H b=some (.own a))->h.get? b=some u->h'.get? b=some u)
  (ho:∀b,H b=some (.own a)->H' b=some (.own a)) (ht:∀b xs,H b=some (.tup xs)->H' b=some (.tup xs)):j3 P w H' h' a o:=by
 induction o with
 | lst xs=>obtain ⟨z,its,n,r,e⟩:=x;exact ⟨z,its,n,r,k _ _ (.inl rfl) e⟩
 | tup xs=>obtain ⟨z,its,r,ob,e,c⟩:=x;exact ⟨z,its,r,ob,k _ _ (.inl rfl) e,c⟩
 | dK kvs=>obtain ⟨z,y,vs,r,ob,es,ep,e,c⟩:=x;exact ⟨z,y,vs,r,ob,es,ep,k _ _ (.inl rfl) e,c⟩
 | dT kvs =>
  obtain ⟨z,y,xs,r,ob,es,ep,e,c⟩:=x;exact ⟨z,y,xs,Paired.mapP r fun p q z=>⟨z.1,ht _ _ z.2.1,z.2.2⟩,ob,es,ep,k _ _ (.inl rfl) e,c⟩
 | set S n=>obtain ⟨ob,es,ep,t,e,c⟩:=x;exact ⟨ob,es,ep,t,k _ _ (.inl rfl) e,c⟩
 | ins C dx fs =>
  obtain ⟨d,z,ne,e,mA,⟨od,es,ep,e2,c⟩,r⟩:=x;exact ⟨ho _ d,z,ne,k _ _ (.inl rfl) e,mA,⟨od,es,ep,k _ _ (.inr d) e2,c⟩,r⟩
 | own y=>obtain ⟨ob,e⟩:=x;exact ⟨ob,k _ _ (.inl rfl) e⟩
 | xd fs=>obtain ⟨mA,⟨od,es,ep,e,c⟩,r⟩:=x;exact ⟨mA,⟨od,es,ep,k _ _ (.inl rfl) e,c⟩,r⟩
 | rng lo hi=>obtain ⟨t,u,v,e⟩:=x;exact ⟨t,u,v,k _ _ (.inl rfl) e⟩
 | frz ob u ih=>obtain ⟨e,q⟩:=x;exact ⟨k _ _ (.inl rfl) e,ih q⟩
 | tbl ps =>
  have e:h.get? a=some { cls:=.none,data:=.fields ps }:=x;show h'.get? a=some { cls:=.none,data:=.fields ps }
  exact k a _ (.inl rfl) e
 | met f y =>
  have e:h.get? a=some (PySem.W.methodObj (.ref f) (.ref y)):=x;show h'.get? a=some (PySem.W.methodObj (.ref f) (.ref y))
  exact k a _ (.inl rfl) e
 | ext φ=>obtain ⟨p,⟨o,e⟩,st⟩:=x;exact ⟨st _ _ p fun o q=>k _ _ (.inl rfl) q,⟨o,k _ _ (.inl rfl) e⟩,st⟩
theorem Ax.lt (x:Ax P w H h) (e:H a=some o):a < h.objs.size:=(x a o e).lt
theorem Ax.fresh (x:Ax P w H h) (e:h.objs.size<=a):H a=none:=by
 cases q:H a with
 | none=>rfl
 | some u=>exact absurd (bM (x.lt q) e) (fg _)
theorem Ax.kept (x:Ax P w H h) (k:∀b u,h.get? b=some u->h'.get? b=some u):Ax P w H h':=fun a o e =>
 (x a o e).stay (fun b u _ q=>k b u q) (fun _ q=>q) fun _ _ q=>q
theorem Ax.laid (x:Ax P w H h) (k:∀b u,h.get? b=some u->h'.get? b=some u) (hp:h.objs.size<=a) (new:j3 P w (upd H a o) h' a o):Ax P w (upd H a o) h':=fun b u e=>by
 have hn:=x.fresh hp;by_cases hb:b=a
 ·subst hb;rw[aK] at e;cases e;exact new
 ·rw[bJ hb] at e;exact (x b u e).stay (fun c v _ q=>k c v q) (fun c q=>by rw[bJ (fA q hn)];exact q) fun c xs q=>by rw[bJ (fA q hn)];exact q
end
def Rd (H:Hp) (a:Addr) (u:HO):Prop:=H a=some u\/∃o,H a=some (.frz o u)
theorem Rd.ok {P:Program} {w:World} {H:Hp} {h:Heap} {a:Addr} {u:HO} (r:Rd H a u) (x:Ax P w H h):j3 P w H h a u:=by
 rcases r with r | ⟨o,r⟩
 ·exact x a u r
 ·obtain ⟨_,q⟩:=x a _ r;exact q
def Sk:Option HO->Prop
 | some (.lst _)=>True
 | some (.dK _)=>True
 | some (.dT _)=>True
 | some (.set _ _)=>True
 | some (.ins _ _ _)=>True
 | some (.ext _)=>True
 | _=>False
section
variable {P:Program} {w:World} {H:Hp} {h h':Heap} {x e:Addr} {o':HO}
theorem Ax.write (ok:Ax P w H h) (mu:Sk (H x)) (he:e=x\/H e=some (.own x)) (k:∀b u,b≠e->h.get? b=some u->h'.get? b=some u) (heo:∃u,h'.get? e=some u)
  (new:j3 P w (upd H x o') h' x o'):Ax P w (upd H x o') h':=fun b u q=>by
 have nown:∀c y,H c=some (.own y)->c≠x:=fun c y r z=>by subst z;rw[r] at mu;exact mu
 have ntup:∀c xs,H c=some (.tup xs)->c≠x:=fun c xs r z=>by subst z;rw[r] at mu;exact mu
 by_cases hb:b=x
 ·subst hb;rw[aK] at q;cases q;exact new
 ·rw[bJ hb] at q;by_cases hbe:b=e
  ·have q':H b=some (.own x):=by
    rcases he with z | z
    ·exact absurd (hbe.trans z) hb
    ·rw[hbe];exact z
   rw[q] at q';cases q';obtain ⟨v,hv⟩:=heo;exact ⟨v,by rw[hbe];exact hv⟩
  ·refine (ok b u q).stay (fun c v hc r=>k c v ?_ r) (fun c r=>by rw[bJ (nown c b r)];exact r) fun c xs r=>by rw[bJ (ntup c xs r)];exact r
   rcases hc with rfl | hc
   ·exact hbe
   ·rintro rfl;rcases he with z | z
    ·exact nown c b hc z
    ·rw[hc] at z;cases z;exact hb rfl
end
structure Un (fs ex:List Addr) (H H':Hp) (h h':Heap):Prop where
 keep:∀b o,h.get? b=some o->H b=none->b∉fs->b∉ex->h'.get? b=some o
 slot:∀b o,h.get? b=some o->H b=none->b∈fs->b∉ex->∃sl,h'.get? b=some { o with slots:=sl }
 free:∀b o,h.get? b=some o->H b=none->b∉ex->H' b=none
 there:∀b o,h.get? b=some o->b∉ex->∃o',h'.get? b=some o'
 tups:∀b xs,H b=some (.tup xs)->H' b=some (.tup xs)
 frzs:∀b o u,H b=some (.frz o u)->H' b=some (.frz o u)
 tbls:∀b ps,H b=some (.tbl ps)->∃more,H' b=some (.tbl (ps++more))
section
variable {fs fs' ex ex':List Addr} {H H1 H2:Hp} {h h1 h2 h':Heap} {a x e:Addr} {o:HO}
theorem Un.any (u:Un fs ex H H1 h h1) {b:Addr} {ob:Obj} (q:h.get? b=some ob) (n:H b=none) (hx:b∉ex):∃sl,h1.get? b=some { ob with slots:=sl }:=by
 by_cases hb:b∈fs
 ·exact u.slot b ob q n hb hx
 ·exact ⟨ob.slots,u.keep b ob q n hb hx⟩
theorem Un.kept (k:∀b u,h.get? b=some u->h'.get? b=some u):Un fs ex H H h h' :=
 ⟨fun b ob q _ _ _=>k b ob q,fun b ob q _ _ _=>⟨ob.slots,k b ob q⟩,fun _ _ _ n _=>n,fun b ob q _=>⟨ob,k b ob q⟩,fun _ _ q=>q,fun _ _ _ q=>q,fun _ ps q=>⟨#[],by rw[q];simp⟩⟩
theorem Un.refl:Un fs ex H H h h:=Un.kept fun _ _ q=>q
theorem Un.laid (k:∀b u,h.get? b=some u->h'.get? b=some u) (hp:h.objs.size<=a) (hn:H a=none):Un fs ex H (upd H a o) h h' where
 keep:=fun b u q _ _ _=>k b u q
 slot:=fun b u q _ _ _=>⟨u.slots,k b u q⟩
 free:=fun b u q n _=>by rw[bJ (cm (bM (Heap.lt_size q) hp))];exact n
 there:=fun b u q _=>⟨u,k b u q⟩
 tups:=fun b xs q=>by rw[bJ (fA q hn)];exact q
 frzs:=fun b u xs q=>by rw[bJ (fA q hn)];exact q
 tbls:=fun b ps q=>⟨#[],by rw[bJ (fA q hn),q];simp⟩
theorem Un.write (mu:Sk (H x)) (he:e=x\/H e=some (.own x)) (k:∀b u,b≠e->h.get? b=some u->h'.get? b=some u) (heo:∃u,h'.get? e=some u):Un fs ex H (upd H x o) h h':=by
 have hx:∀b,H b=none->b≠x:=fun b n z=>by subst z;rw[n] at mu;exact mu
 have hb:∀b,H b=none->b≠e:=fun b n z=>by
  subst z;rcases he with r | r
  ·exact hx b n r
  ·rw[n] at r;cases r
 have hm:∀b u,H b=some u->¬Sk (some u)->b≠x:=fun b u q nm z=>by subst z;rw[q] at mu;exact nm mu
 refine ⟨fun b u q n _ _=>k b u (hb b n) q,fun b u q n _ _=>⟨u.slots,k b u (hb b n) q⟩,fun b u q n _=>by rw[bJ (hx b n)];exact n,fun b u q _=>?_,
  fun b xs q=>by rw[bJ (hm b _ q fun z=>z)];exact q,fun b u xs q=>by rw[bJ (hm b _ q fun z=>z)];exact q,fun b ps q=>⟨#[],by rw[bJ (hm b _ q fun z=>z),q];simp⟩⟩
 by_cases hbe:b=e
 ·subst hbe;exact heo
 ·exact ⟨u,k b u hbe q⟩
end
def Sb (h:Heap) (H:Hp):List Addr:=(List.range h.objs.size).filter fun a=>(H a).isSome
def DV (h:Heap) (H:Hp):Heap:=PySem.W.hideAll h (Sb h H)
theorem JM (h:Heap) (H:Hp):(DV h H).objs.size=h.objs.size:=PySem.W.hideAll_size _ _
theorem Ly {h:Heap} {H:Hp} {b:Addr} {o:Obj} (e:h.get? b=some o) (n:H b=none):(DV h H).get? b=some o :=
 PySem.W.hideAll_get _ e fun hm=>by
  have q:(H b).isSome=true:=(Mi.mp hm).2;rw[n] at q;simp at q
theorem NB {h:Heap} {H:Hp} {b:Addr} {o:Obj} (e:(DV h H).get? b=some o):h.get? b=some o/\H b=none:=by
 have e':h.get? b=some o:=PySem.W.of_hideAll (Sb h H) e;refine ⟨e',?_⟩;cases q:H b with
 | none=>rfl
 | some x =>
  have hm:b∈Sb h H:=Mi.mpr ⟨xg.mpr (Heap.lt_size e'),by simp [q]⟩;have z:(DV h H).get? b=none:=PySem.W.hideAll_none (Sb h H) hm;rw[z] at e;cases e
structure Mod (K:PySem.W.Frag) (mg:Str->Option Value) (base:Heap):Prop where
 kin:K.In base
 glob:base.Ns mainGlobals mg
 blt:∃mb,base.Ns builtinsNs mb/\∀x:Str,x≠"__name__"->mb x=bootBuiltins x
 nolimit:base.NoLimit
structure Cx where
 prog:Program
 w:World
 K:PySem.W.Frag
 mg:Str->Option Value
 base:Heap
 A:Around
 N:List Str
 s₀:Shared
 H₀:Hp
 env:Env
 outer:List Env
 stack:List Env
 ex:List Addr
 fn:Str->Bool
 calm:Bool
 pn:List (Addr×Obj)
 xe:Value->Shared->Prop
def JX (l:List Env):List Addr:=l.filterMap (·.frame)
abbrev Cx.fs (X:Cx):List Addr:=JX X.outer
def SJ (sc:Scope) (x:Str):Prop:=sc.names.lookup x=some .local\/sc.names.lookup x=some .cell\/sc.names.lookup x=some .free
def Loc (sc:Scope) (x:Str):Prop:=sc.names.lookup x=some .local\/sc.names.lookup x=some .cell
def Look (env:Env) (h:Heap) (m:Str->Option Value) (x:Str) (u:Value):Prop :=
 (env.kindOf x=some .local/\m x=some u)\/((env.kindOf x=some .cell\/env.kindOf x=some .free)/\∃c,env.cells.lookup x=some c/\h.IsCell c (some u))
structure Cx.Ok (X:Cx):Prop where
 mod:Mod X.K X.mg X.base
 kind:X.env.scope.kind=.function
 glob:X.env.globals=mainGlobals
 blt:X.env.builtins=builtinsNs
 above:X.s₀.heap.objs.size<=X.env.locals
 inj:∀x y c,X.env.cells.lookup x=some c->X.env.cells.lookup y=some c->x=y
 has:∀x,(X.env.kindOf x=some .cell\/X.env.kindOf x=some .free)->∃c,X.env.cells.lookup x=some c
 cab:∀x c,X.fn x=true->X.env.cells.lookup x=some c->X.s₀.heap.objs.size<=c
 hd:X.calm=true->X.A.handled=none
 frames:X.A.frames=some X.stack
 stk:X.stack=X.outer\/(X.stack=X.env :: X.outer/\X.env.frame=some X.env.locals)
 exf:∀b∈X.ex,b≠X.env.locals/\∀x c,X.env.cells.lookup x=some c->c≠b
 bs:∀b o,X.base.get? b=some o->X.s₀.heap.get? b=some o/\X.H₀ b=none
 bsz:X.base.objs.size<=X.s₀.heap.objs.size
 noex:∀b o,X.base.get? b=some o->b∉X.ex
 exfs:∀b∈X.ex,b∉X.fs
 funs:X.s₀.heap.FunFrames X.base X.outer
 frf:∀b∈X.fs,X.H₀ b=none
structure Inv (X:Cx) (pins:List (Addr×Obj)) (σ:List (Option V)) (H:Hp) (s:Shared):Prop where
 ok:X.Ok
 os:s.os=X.s₀.os
 bare:AllBare s.gens
 base:Un X.fs X.ex X.H₀ H X.s₀.heap s.heap
 loc:∃m,s.heap.Ns X.env.locals m/\∀(i:Nat) (x:Str) (v:V),X.N[i]?=some x->σ[i]?=some (some v)->SJ X.env.scope x->∃u,RelV v u/\Look X.env s.heap m x u
 cell:∀x c,X.env.cells.lookup x=some c->∃v,s.heap.IsCell c v
 free:H X.env.locals=none
 freeC:∀x c,X.env.cells.lookup x=some c->H c=none
 pin:∀p∈X.pn++pins,s.heap.get? p.1=some p.2/\H p.1=none/\p.1≠X.env.locals/\p.1∉X.fs/\∀v,p.2.data≠.cell v
 hok:Ax X.prog X.w H s.heap
 len:σ.length=X.N.length
section
variable {X:Cx} {pins:List (Addr×Obj)} {σ:List (Option V)} {H H':Hp} {s:Shared} {h':Heap}
theorem Cx.Ok.nofr (ok:X.Ok) {b:Addr} {o:Obj} (e:X.base.get? b=some o):b∉X.fs:=fun hb=>by
 have:=(ok.funs.mem hb).1;rw[e] at this;cases this
theorem Inv.bs (I:Inv X pins σ H s):∀b o,X.base.get? b=some o->s.heap.get? b=some o/\H b=none:=fun b o e =>
 ⟨I.base.keep b o (I.ok.bs b o e).1 (I.ok.bs b o e).2 (I.ok.nofr e) (I.ok.noex b o e),I.base.free b o (I.ok.bs b o e).1 (I.ok.bs b o e).2 (I.ok.noex b o e)⟩
theorem Inv.bk (I:Inv X pins σ H s):∀b o,X.base.get? b=some o->s.heap.get? b=some o:=fun b o e=>(I.bs b o e).1
theorem Inv.mod (I:Inv X pins σ H s):Mod X.K X.mg X.base:=I.ok.mod
theorem Inv.kIn (I:Inv X pins σ H s):X.K.In s.heap:=I.ok.mod.kin.keeps I.bk
theorem Inv.lt (I:Inv X pins σ H s):X.env.locals < s.heap.objs.size:=let ⟨_,hn,_⟩:=I.loc;hn.lt
theorem Inv.sz (I:Inv X pins σ H s):X.s₀.heap.objs.size<=s.heap.objs.size:=ai I.ok.above (aS I.lt)
theorem Inv.nofs (I:Inv X pins σ H s) {a:Addr} (h:s.heap.objs.size<=a):a∉X.fs:=fun hb=>by
 obtain ⟨_,o,ho,_⟩:=I.ok.funs.mem hb;exact absurd (bM (Heap.lt_size ho) (ai I.sz h)) (fg _)
theorem Inv.cne (I:Inv X pins σ H s):∀x c,X.env.cells.lookup x=some c->c≠X.env.locals:=fun x c e z=>by
 obtain ⟨v,o,ho,hd⟩:=I.cell x c e;obtain ⟨m,⟨o',es,ep,ho',hd',_⟩,_⟩:=I.loc;rw[z,ho'] at ho;cases ho;rw[hd'] at hd;cases hd
theorem Inv.funs (I:Inv X pins σ H s):s.heap.FunFrames X.base X.outer:=by
 have all:∀(l:List Env),(∀b∈JX l,b∈X.fs)->X.s₀.heap.FunFrames X.base l->s.heap.FunFrames X.base l:=by
  intro l
  induction l with
  | nil=>intro _ _;trivial
  | cons env r ih =>
   intro hs hl;obtain ⟨hk,⟨L,o,hf,hn,ho,hd⟩,hr⟩:=hl;have hL:L∈X.fs:=hs L (by unfold JX;rw[Eu,hf];exact dD);obtain ⟨sl,e⟩:=I.base.slot L o ho (I.ok.frf L hL) hL fun z=>I.ok.exfs L z hL
   exact ⟨hk,⟨L,_,hf,hn,e,hd⟩,ih (fun b hb=>hs b (by unfold JX;rw[Eu,hf];exact cb _ hb)) hr⟩
 exact all X.outer (fun _ hb=>hb) I.ok.funs
theorem Inv.stack (I:Inv X pins σ H s):s.heap.FunFrames X.base X.stack:=by
 rcases I.ok.stk with e | ⟨e,hf⟩
 ·rw[e];exact I.funs
 ·rw[e];obtain ⟨m,hn,_⟩:=I.loc;refine .cons (by rw[I.ok.kind];decide) hf hn ?_ I.funs;exact Heap.get?_none_of_le (ai I.ok.bsz I.ok.above)
theorem Inv.stkSub (I:Inv X pins σ H s):∀b∈JX X.stack,b∈X.env.locals :: X.fs:=fun b hb=>by
 rcases I.ok.stk with e | ⟨e,hf⟩
 ·rw[e] at hb;exact cb _ hb
 ·rw[e] at hb;unfold JX at hb;rw[Eu,hf] at hb;exact hb
theorem Inv.stkFree (I:Inv X pins σ H s):∀b∈JX X.stack,H b=none:=fun b hb=>by
 rcases aF.mp (I.stkSub b hb) with e | hb
 ·rw[e];exact I.free
 ·obtain ⟨_,o,ho,_⟩:=I.ok.funs.mem hb;exact I.base.free b o ho (I.ok.frf b hb) fun z=>I.ok.exfs b z hb
theorem Inv.step {g':Array GenState} {t':Nat} {d':Drawn} {ch:List Addr} (I:Inv X pins σ H s)
  (hch:∀b∈ch,(b∈X.ex\/X.s₀.heap.objs.size<=b)/\b≠X.env.locals/\(∀x c,X.env.cells.lookup x=some c->c≠b)/\∀p∈X.pn++pins,p.1≠b)
  (keep:∀b o,b≠X.env.locals->b∉X.fs->b∉ch->s.heap.get? b=some o->H b=none->h'.get? b=some o)
  (slot:∀b o,b≠X.env.locals->b∈X.fs->b∉ch->s.heap.get? b=some o->H b=none->∃sl,h'.get? b=some { o with slots:=sl }) (free:∀b o,b∉ch->s.heap.get? b=some o->H b=none->H' b=none)
  (there:∀b o,b∉ch->s.heap.get? b=some o->∃o',h'.get? b=some o')
  (tups:∀b xs,H b=some (.tup xs)->H' b=some (.tup xs)) (frzs:∀b o u,H b=some (.frz o u)->H' b=some (.frz o u)) (tbls:∀b ps,H b=some (.tbl ps)->∃more,H' b=some (.tbl (ps++more)))
  (ns:∀m,s.heap.Ns X.env.locals m->h'.Ns X.env.locals m) (hok:Ax X.prog X.w H' h') (hg:AllBare g') :
  Inv X pins σ H' { s with heap:=h',gens:=g',drawn:=d',toks:=t' }:=by
 have neL:∀b o,X.s₀.heap.get? b=some o->b≠X.env.locals:=fun b o e=>cm (bM (Heap.lt_size e) I.ok.above)
 have neC:∀b o,X.s₀.heap.get? b=some o->b∉X.ex->b∉ch:=fun b o e hx hb=>by
  rcases (hch b hb).1 with z | z
  ·exact hx z
  ·exact absurd (bM (Heap.lt_size e) z) (fg _)
 have cellK:∀x c,X.env.cells.lookup x=some c->∀v,s.heap.IsCell c v->h'.IsCell c v:=fun x c e v ⟨o,ho,hd⟩=>by
  have nch:c∉ch:=fun z=>(hch c z).2.2.1 x c e rfl
  by_cases hc:c∈X.fs
  ·obtain ⟨sl,q⟩:=slot c o (I.cne x c e) hc nch ho (I.freeC x c e);exact ⟨_,q,hd⟩
  ·exact ⟨o,keep c o (I.cne x c e) hc nch ho (I.freeC x c e),hd⟩
 refine ⟨I.ok,I.os,hg,⟨fun b o e n hb hx=>?_,fun b o e n hb hx=>?_,fun b o e n hx=>?_,fun b o e hx=>?_,fun b xs e=>tups b xs (I.base.tups b xs e),fun b o xs e=>frzs b o xs (I.base.frzs b o xs e),fun b ps e=>?_⟩,?_,fun x c e=>?_,?_,fun x c e=>?_,fun p hp=>?_,hok,I.len⟩
 ·exact keep b o (neL b o e) hb (neC b o e hx) (I.base.keep b o e n hb hx) (I.base.free b o e n hx)
 ·obtain ⟨sl,e1⟩:=I.base.slot b o e n hb hx;obtain ⟨sl',e2⟩:=slot b _ (neL b o e) hb (neC b o e hx) e1 (I.base.free b o e n hx);exact ⟨sl',e2⟩
 ·obtain ⟨o',e1⟩:=I.base.there b o e hx;exact free b o' (neC b o e hx) e1 (I.base.free b o e n hx)
 ·obtain ⟨o',e1⟩:=I.base.there b o e hx;exact there b o' (neC b o e hx) e1
 ·obtain ⟨m1,e1⟩:=I.base.tbls b ps e;obtain ⟨m2,e2⟩:=tbls b _ e1;exact ⟨m1++m2,by rw[e2,Array.append_assoc]⟩
 ·obtain ⟨m,hn,hl⟩:=I.loc;refine ⟨m,ns m hn,fun i x v e1 e2 e3=>?_⟩;obtain ⟨u,r,l⟩:=hl i x v e1 e2 e3;refine ⟨u,r,?_⟩;rcases l with l | ⟨k,c,e,z⟩
  ·exact .inl l
  ·exact .inr ⟨k,c,e,cellK x c e _ z⟩
 ·obtain ⟨v,z⟩:=I.cell x c e;exact ⟨v,cellK x c e v z⟩
 ·obtain ⟨m,⟨o,_,_,ho,_⟩,_⟩:=I.loc;exact free _ o (fun z=>(hch _ z).2.1 rfl) ho I.free
 ·obtain ⟨v,o,ho,hd⟩:=I.cell x c e;exact free c o (fun z=>(hch c z).2.2.1 x c e rfl) ho (I.freeC x c e)
 ·obtain ⟨e,n,ne,nf,d⟩:=I.pin p hp;have nch:p.1∉ch:=fun z=>(hch p.1 z).2.2.2 p hp rfl
  exact ⟨keep p.1 p.2 ne nf nch e n,free p.1 p.2 nch e n,ne,nf,d⟩
theorem Inv.un {t':Nat} (I:Inv X pins σ H s) (u:Un X.fs [] H H' s.heap h') (hok:Ax X.prog X.w H' h'):Inv X pins σ H' { s with heap:=h',toks:=t' }:=by
 obtain ⟨m,⟨o,es,ep,ho,r⟩,_⟩:=id I.loc;obtain ⟨sl,hL⟩:=u.any ho I.free (by simp)
 exact I.step (g':=s.gens) (d':=s.drawn) (ch:=[]) (fun _ z=>nomatch z) (fun b o _ hb _ e n=>u.keep b o e n hb (by simp)) (fun b o _ hb _ e n=>u.slot b o e n hb (by simp)) (fun b o _ e n=>u.free b o e n (by simp)) (fun b o _ e=>u.there b o e (by simp)) u.tups u.frzs u.tbls (fun m' hm=>by
  obtain ⟨o',es',ep',ho',r'⟩:=hm;rw[ho] at ho';cases ho';exact ⟨_,es',ep',hL,r'⟩) hok I.bare
theorem Inv.call {g':Array GenState} {t':Nat} {d':Drawn} {ch:List Addr} (I:Inv X pins σ H s) (u:Un (JX X.stack) ch H H' s.heap h') (hok:Ax X.prog X.w H' h') (hg:AllBare g')
  (hch:∀b∈ch,(b∈X.ex\/X.s₀.heap.objs.size<=b)/\b≠X.env.locals/\(∀x c,X.env.cells.lookup x=some c->c≠b)/\∀p∈X.pn++pins,p.1≠b) :
  Inv X pins σ H' { s with heap:=h',gens:=g',drawn:=d',toks:=t' }:=by
 obtain ⟨m,⟨o,es,ep,ho,r⟩,_⟩:=id I.loc;obtain ⟨sl,hL⟩:=u.any ho I.free fun z=>(hch _ z).2.1 rfl
 exact I.step (ch:=ch) hch (fun b o hL hb hc e n=>u.keep b o e n (fun z=>(aF.mp (I.stkSub b z)).elim hL hb) hc) (fun b o _ _ hc e n=>u.any e n hc) (fun b o hc e n=>u.free b o e n hc) (fun b o hc e=>u.there b o e hc) u.tups u.frzs u.tbls (fun m' hm=>by
  obtain ⟨o',es',ep',ho',r'⟩:=hm;rw[ho] at ho';cases ho';exact ⟨_,es',ep',hL,r'⟩) hok hg
theorem Inv.turned {t':Nat} {it:Addr} (I:Inv X pins σ H s) (k:∀b o,b≠it->s.heap.get? b=some o->h'.get? b=some o) (hn:H it=none) (hL:it≠X.env.locals)
  (h1:it∈X.ex\/X.s₀.heap.objs.size<=it) (h2:∀x c,X.env.cells.lookup x=some c->c≠it) (h3:∀p∈X.pn++pins,p.1≠it):Inv X pins σ H { s with heap:=h',toks:=t' }:=by
 have nit:∀b u,H b=some u->b≠it:=fun b u e z=>by rw[z,hn] at e;cases e
 refine I.step (g':=s.gens) (d':=s.drawn) (ch:=[it]) (fun b hb=>?_) (fun b o _ _ hc e _=>k b o (fun z=>hc (by simp [z])) e) (fun b o _ _ hc e _=>⟨o.slots,k b o (fun z=>hc (by simp [z])) e⟩) (fun _ _ _ _ n=>n)
  (fun b o hc e=>⟨o,k b o (fun z=>hc (by simp [z])) e⟩) (fun _ _ e=>e) (fun _ _ _ e=>e) (fun b ps e=>⟨#[],by rw[e];simp⟩) (fun m hm=>?_) (fun b u e=>?_) I.bare
 ·have e:b=it:=by simpa using hb
  subst e;exact ⟨h1,hL,h2,h3⟩
 ·obtain ⟨o,es,ep,ho,r⟩:=hm;exact ⟨o,es,ep,k _ o (Ne.symm hL) ho,r⟩
 ·refine (I.hok b u e).stay (fun c v hc q=>k c v ?_ q) (fun _ q=>q) fun _ _ q=>q
  rcases hc with z | z
  ·rw[z];exact nit b u e
  ·exact nit c _ z
theorem Inv.tok (I:Inv X pins σ H s) (t:Nat):Inv X pins σ H { s with toks:=t }:=I.un (h':=s.heap) (t':=t) Un.refl I.hok
theorem Inv.kept {t':Nat} (I:Inv X pins σ H s) (k:∀b u,s.heap.get? b=some u->h'.get? b=some u):Inv X pins σ H { s with heap:=h',toks:=t' }:=I.un (Un.kept k) (I.hok.kept k)
theorem Inv.laid {a:Addr} {o:HO} {t':Nat} (I:Inv X pins σ H s) (k:∀b u,s.heap.get? b=some u->h'.get? b=some u) (hp:s.heap.objs.size<=a) (new:j3 X.prog X.w (upd H a o) h' a o) :
  Inv X pins σ (upd H a o) { s with heap:=h',toks:=t' }:=I.un (Un.laid k hp (I.hok.fresh hp)) (I.hok.laid k hp new)
theorem Inv.write {x e:Addr} {o:HO} {t':Nat} (I:Inv X pins σ H s) (mu:Sk (H x)) (he:e=x\/H e=some (.own x)) (k:∀b u,b≠e->s.heap.get? b=some u->h'.get? b=some u) (heo:∃u,h'.get? e=some u)
  (new:j3 X.prog X.w (upd H x o) h' x o):Inv X pins σ (upd H x o) { s with heap:=h',toks:=t' }:=I.un (Un.write mu he k heo) (I.hok.write mu he k heo new)
theorem Inv.pins_of {pins':List (Addr×Obj)} (I:Inv X pins σ H s) (h:∀p∈pins',s.heap.get? p.1=some p.2/\H p.1=none/\p.1≠X.env.locals/\p.1∉X.fs/\∀v,p.2.data≠.cell v):Inv X pins' σ H s :=
 ⟨I.ok,I.os,I.bare,I.base,I.loc,I.cell,I.free,I.freeC,fun p hp=>(au.mp hp).elim (fun z=>I.pin p (kO _ z)) (h p),I.hok,I.len⟩
theorem E4 {N:List Str} (hN:N.Nodup) {i j:Nat} {x:Str} (a:N[i]?=some x) (b:N[j]?=some x):i=j:=by
 obtain ⟨h1,e1⟩:=aI.mp a;obtain ⟨h2,e2⟩:=aI.mp b;exact (List.getElem_inj hN).mp (e1.trans e2.symm)
theorem Cn {M:Model} {A:Around} {E:Value->Shared->Prop} {i:Nat} {x:Str} {v:V} {u:Value} {Q:Unit->Shared->Prop} (I:Inv X pins σ H s) (hN:X.N.Nodup) (hi:X.N[i]?=some x) (hx:Loc X.env.scope x) (r:RelV v u)
  (h:∀s',Inv X pins (σ.set i (some v)) H s'->(∃a,Heap.SameBut a s.heap s'.heap/\(a=X.env.locals\/X.env.cells.lookup x=some a))->Q () s') (hf:X.fn x=true\/X.env.scope.names.lookup x=some .local:=by first | exact .inl rfl | exact .inr rfl | assumption):wpAny M A (storeName X.env x u) Q E s:=by
 obtain ⟨m,hn,hl⟩:=id I.loc;have hcls:(X.env.scope.kind == .class || (X.env.scope.kind == .module && X.env.locals != X.env.globals))=false:=by rw[I.ok.kind];rfl
 have hiσ:i < σ.length:=by rw[I.len];exact (aI.mp hi).1
 have cne:=I.cne
 have tracked:∀{a:Addr} {h':Heap},(∃o,s.heap.get? a=some o/\H a=none)->Heap.SameBut a s.heap h'->Ax X.prog X.w H h':=fun {a h'} ha hs b ob e=>by
  obtain ⟨_,_,hfree⟩:=ha;refine (I.hok b ob e).stay (fun c w' hc q=>(hs.2 c ?_).trans q) (fun _ q=>q) fun _ _ q=>q
  rintro rfl;rcases hc with rfl | hc
  ·rw[hfree] at e;cases e
  ·rw[hfree] at hc;cases hc
 rcases hx with hk | hk
 ·refine wpAny_storeName_local hk hn (fun h' hn' hs=>?_) hcls;obtain ⟨oL,_,_,hoL,_⟩:=id hn;refine h _ ⟨I.ok,I.os,I.bare,⟨fun b o e n hb hx=>?_,fun b o e n hb hx=>?_,I.base.free,fun b o e hx=>?_,I.base.tups,I.base.frzs,I.base.tbls⟩,⟨_,hn',fun j y v' e1 e2 e3=>?_⟩,fun y c e=>?_,I.free,I.freeC,fun p hp=>?_,tracked ⟨oL,hoL,I.free⟩ hs,by simpa using I.len⟩ ⟨_,hs,.inl rfl⟩
  ·exact (hs.2 b (cm (bM (Heap.lt_size e) I.ok.above))).trans (I.base.keep b o e n hb hx)
  ·obtain ⟨sl,e1⟩:=I.base.slot b o e n hb hx;exact ⟨sl,(hs.2 b (cm (bM (Heap.lt_size e) I.ok.above))).trans e1⟩
  ·obtain ⟨o',e1⟩:=I.base.there b o e hx;exact ⟨o',(hs.2 b (cm (bM (Heap.lt_size e) I.ok.above))).trans e1⟩
  ·by_cases hj:j=i
   ·subst hj;rw[hi] at e1;cases e1;rw[List.getElem?_set_self hiσ] at e2;cases e2;exact ⟨u,r,.inl ⟨hk,by simp⟩⟩
   ·rw[List.getElem?_set_ne (Ne.symm hj)] at e2;obtain ⟨u',r',q⟩:=hl j y v' e1 e2 e3;refine ⟨u',r',?_⟩;rcases q with ⟨k,e⟩ | ⟨k,c,e,z⟩
    ·refine .inl ⟨k,?_⟩;have:y≠x:=fun e=>hj (E4 hN e1 (e ▸ hi))
     simp [this,e]
    ·exact .inr ⟨k,c,e,z.sameBut hs (cne y c e)⟩
  ·obtain ⟨w',z⟩:=I.cell y c e;exact ⟨w',z.sameBut hs (cne y c e)⟩
  ·obtain ⟨e,n,ne,nf,d⟩:=I.pin p hp;exact ⟨(hs.2 p.1 ne).trans e,n,ne,nf,d⟩
 ·have hfn:X.fn x=true:=by
   rcases hf with z | z
   ·exact z
   ·rw[z] at hk;cases hk
  obtain ⟨c,hc⟩:=I.ok.has x (.inl hk);obtain ⟨w',z⟩:=I.cell x c hc;refine wpAny_storeName_cell I.ok.kind hk hc z (fun h' hc' hs=>?_);obtain ⟨oc,hoc,hocd⟩:=id z;refine h { s with heap:=h' } ⟨I.ok,I.os,I.bare,⟨fun b o e n hb hx=>?_,fun b o e n hb hx=>?_,I.base.free,fun b o e hx=>?_,I.base.tups,I.base.frzs,I.base.tbls⟩,⟨m,hn.sameBut hs (Ne.symm (cne x c hc)),fun j y v' e1 e2 e3=>?_⟩,fun y c' e=>?_,I.free,I.freeC,fun p hp=>?_,tracked ⟨oc,hoc,I.freeC x c hc⟩ hs,by simpa using I.len⟩ ⟨c,hs,.inr hc⟩
  ·exact (hs.2 b (cm (bM (Heap.lt_size e) (I.ok.cab x c hfn hc)))).trans (I.base.keep b o e n hb hx)
  ·obtain ⟨sl,e1⟩:=I.base.slot b o e n hb hx;exact ⟨sl,(hs.2 b (cm (bM (Heap.lt_size e) (I.ok.cab x c hfn hc)))).trans e1⟩
  ·obtain ⟨o',e1⟩:=I.base.there b o e hx;exact ⟨o',(hs.2 b (cm (bM (Heap.lt_size e) (I.ok.cab x c hfn hc)))).trans e1⟩
  ·by_cases hj:j=i
   ·subst hj;rw[hi] at e1;cases e1;rw[List.getElem?_set_self hiσ] at e2;cases e2;exact ⟨u,r,.inr ⟨.inl hk,c,hc,hc'⟩⟩
   ·rw[List.getElem?_set_ne (Ne.symm hj)] at e2;obtain ⟨u',r',q⟩:=hl j y v' e1 e2 e3;refine ⟨u',r',?_⟩;rcases q with q | ⟨k,c',e,z'⟩
    ·exact .inl q
    ·refine .inr ⟨k,c',e,z'.sameBut hs ?_⟩;rintro rfl;exact hj (E4 hN e1 (I.ok.inj _ _ _ e hc ▸ hi))
  ·by_cases hcc:c'=c
   ·subst hcc;exact ⟨_,hc'⟩
   ·obtain ⟨w2,z2⟩:=I.cell y c' e;exact ⟨w2,z2.sameBut hs hcc⟩
  ·obtain ⟨e,n,ne,nf,d⟩:=I.pin p hp;refine ⟨(hs.2 p.1 ?_).trans e,n,ne,nf,d⟩;intro q;rw[q,hoc] at e;have q':oc=p.2:=cp e;exact d w' (by rw[<- q'];exact hocd)
theorem xG {M:Model} {A:Around} {E:Value->Shared->Prop} {i:Nat} {x:Str} {v:V} {u:Value} {Q:Unit->Shared->Prop} (I:Inv X pins σ H s) (hN:X.N.Nodup) (hi:X.N[i]?=some x) (hx:Loc X.env.scope x) (r:RelV v u)
  (h:∀s',Inv X pins (σ.set i (some v)) H s'->Q () s') (hf:X.fn x=true\/X.env.scope.names.lookup x=some .local:=by first | exact .inl rfl | exact .inr rfl | assumption):wpAny M A (storeName X.env x u) Q E s :=
 Cn I hN hi hx r (fun s' I' _=>h s' I') hf
theorem Inv.call' {s':Shared} {ch:List Addr} (I:Inv X pins σ H s) (ho:s'.os=s.os) (u:Un (JX X.stack) ch H H' s.heap s'.heap) (hok:Ax X.prog X.w H' s'.heap) (hg:AllBare s'.gens)
  (hch:∀b∈ch,(b∈X.ex\/X.s₀.heap.objs.size<=b)/\b≠X.env.locals/\(∀x c,X.env.cells.lookup x=some c->c≠b)/\∀p∈X.pn++pins,p.1≠b):Inv X pins σ H' s':=by
 obtain ⟨h',g',d',t',o'⟩:=s';have e:o'=s.os:=ho;subst e;exact I.call (g':=g') (t':=t') (d':=d') u hok hg hch
end
abbrev XK:=Value->Option Addr->Hp->Prop
abbrev St:=List (Option V)
abbrev VK:=V->Hp->Prop
abbrev TE:=St->Hp->VK->Prop
abbrev TT:=St->Hp->(Bool->Hp->Prop)->Prop
abbrev TA:=St->Hp->(List V->Hp->Prop)->Prop
structure Ends where
 nx:St->Hp->Prop
 rt:VK
 bk:St->Hp->Prop:=fun _ _=>False
 ct:St->Hp->Prop:=fun _ _=>False
abbrev TS:=Ends->St->Hp->Prop
def EP (X:Cx) (pins:List (Addr×Obj)) (σ:St) (Q:VK) (u:Value) (s':Shared):Prop:=∃v H',Inv X pins σ H' s'/\RelV v u/\Q v H'
def TP (X:Cx) (pins:List (Addr×Obj)) (σ:St) (Q:Bool->Hp->Prop) (b:Bool) (s':Shared):Prop:=∃H',Inv X pins σ H' s'/\Q b H'
def AP (X:Cx) (pins:List (Addr×Obj)) (σ:St) (Q:List V->Hp->Prop) (us:List Value) (s':Shared):Prop:=∃vs H',Inv X pins σ H' s'/\cT vs us/\Q vs H'
def SP (X:Cx) (pins:List (Addr×Obj)) (D:Ends) (f:Flow) (s':Shared):Prop :=
 match f with
 | .next=>∃σ' H',Inv X pins σ' H' s'/\D.nx σ' H'
 | .brk=>∃σ' H',Inv X pins σ' H' s'/\D.bk σ' H'
 | .cont=>∃σ' H',Inv X pins σ' H' s'/\D.ct σ' H'
 | .ret u=>∃v σ' H',Inv X pins σ' H' s'/\RelV v u/\D.rt v H'
def PE (X:Cx) (e:Expr) (t:TE):Prop :=
 ∀(pins:List (Addr×Obj)) (s:Shared) (σ:St) (H:Hp) (Q:VK),Inv X pins σ H s->t σ H Q->wpAny (model X.prog X.w) X.A (eval e X.env) (EP X pins σ Q) X.xe s
def PT (X:Cx) (e:Expr) (t:TT):Prop :=
 ∀(pins:List (Addr×Obj)) (s:Shared) (σ:St) (H:Hp) (Q:Bool->Hp->Prop),Inv X pins σ H s->t σ H Q->wpAny (model X.prog X.w) X.A (isTrue e X.env (eval e X.env)) (TP X pins σ Q) X.xe s
def PW (X:Cx) (e:Expr) (t:TT):Prop :=
 ∀(whole:Sem Value) (pins:List (Addr×Obj)) (s:Shared) (σ:St) (H:Hp) (Q:Bool->Hp->Prop),Inv X pins σ H s->t σ H Q->wpAny (model X.prog X.w) X.A (isTrue e X.env whole) (TP X pins σ Q) X.xe s
theorem PW.pt {X:Cx} {e:Expr} {t:TT} (h:PW X e t):PT X e t:=h _
def PA (X:Cx) (es:List Expr) (t:TA):Prop :=
 ∀(pos:Pos) (pins:List (Addr×Obj)) (s:Shared) (σ:St) (H:Hp) (Q:List V->Hp->Prop),Inv X pins σ H s->t σ H Q->wpAny (model X.prog X.w) X.A (spliced (backTo pos (starEach es X.env))) (AP X pins σ Q) X.xe s
def PS (X:Cx) (st:Stmt) (t:TS):Prop :=
 ∀(pins:List (Addr×Obj)) (s:Shared) (σ:St) (H:Hp) (D:Ends),Inv X pins σ H s->t D σ H->wpAny (model X.prog X.w) X.A (exec st X.env) (SP X pins D) X.xe s
def Hq (X:Cx) (st:List Stmt) (t:TS):Prop :=
 ∀(pins:List (Addr×Obj)) (s:Shared) (σ:St) (H:Hp) (D:Ends),Inv X pins σ H s->t D σ H->wpAny (model X.prog X.w) X.A (execs st X.env) (SP X pins D) X.xe s
theorem gF {α:Type} {t:Sem α} {Q Q':α->Shared->Prop} {M:Model} {A:Around} {E:Value->Shared->Prop} {s:Shared} (h:wpAny M A t Q E s) (hQ:∀a s,Q a s->Q' a s):wpAny M A t Q' E s:=wpAny_mono h hQ fun _ _ x=>x
section
variable {X:Cx}
def OQ (i:Nat):TE:=fun σ H Q=>∃v,σ[i]?=some (some v)/\Q v H
def tC (v:V):TE:=fun _ H Q=>Q v H
theorem PK {i:Nat} {x:Str} {pos:Pos} (hN:X.N[i]?=some x) (hv:SJ X.env.scope x) (hd:(x == ("__debug__":Str))=false:=by decide) (hcd:(x == ("__classdict__":Str))=false:=by decide):PE X (.Name x pos) (OQ i):=by
 intro pins s σ H Q I h;obtain ⟨v,e,h⟩:=h;obtain ⟨m,hn,hl⟩:=I.loc;obtain ⟨u,r,l⟩:=hl i x v hN e hv;have fin:EP X pins σ Q u s:=⟨v,H,I,r,h⟩;rcases l with ⟨hk,hm⟩ | ⟨hk,c,hc,hcell⟩
 ·exact wpAny_Name (wpAny_loadName_local I.ok.kind hk hn hm fin) hd
 ·rcases hk with hk | hk
  ·exact wpAny_Name (wpAny_loadName_cell I.ok.kind hk hc hcell fin) hd
  ·exact wpAny_Name (wpAny_loadName_free I.ok.kind hk hc hcell fin hcd) hd
theorem ao {i j pos}:PE X (.Constant (.int i) j pos) (tC (.int i)):=fun _ _ _ H _ I h=>wpAny_Constant_int ⟨.int i,H,I.tok _,⟨_,rfl⟩,h⟩
theorem rN {b j pos}:PE X (.Constant (.bool b) j pos) (tC (.bl b)):=fun _ _ _ H _ I h=>Constant_bool ⟨.bl b,H,I,rfl,h⟩
theorem DD {j pos}:PE X (.Constant .none j pos) (tC .non):=fun _ _ _ H _ I h=>Constant_none ⟨.non,H,I,rfl,h⟩
theorem sH {x j pos}:PE X (.Constant (.str x) j pos) (tC (.str x)):=fun _ _ _ H _ I h=>Calls.Constant_str ⟨.str x,H,I.tok _,⟨_,rfl⟩,h⟩
def Gl (X:Cx) (x:Str):Prop:=X.env.kindOf x=some .globalImplicit
theorem DS {E:Value->Shared->Prop} {pins:List (Addr×Obj)} {s:Shared} {σ:St} {H:Hp} {x:Str} {u:Value} {pos:Pos} {Q:Value->Shared->Prop} (I:Inv X pins σ H s) (hg:Gl X x) (hm:X.mg x=some u) (h:Q u s)
  (hd:(x == ("__debug__":Str))=false:=by decide):wpAny (model X.prog X.w) X.A (eval (.Name x pos) X.env) Q E s :=
 Calls.Name_function_global I.ok.kind hg (Calls.loadGlobal_global (by rw[I.ok.glob];exact I.mod.glob.keeps I.bk) hm h) hd
theorem lE {E:Value->Shared->Prop} {pins:List (Addr×Obj)} {s:Shared} {σ:St} {H:Hp} {x:Str} {u:Value} {pos:Pos} {Q:Value->Shared->Prop} (I:Inv X pins σ H s) (hg:Gl X x) (hm:X.mg x=none) (hv:bootBuiltins x=some u) (h:Q u s)
  (hn:x≠"__name__":=by decide) (hd:(x == ("__debug__":Str))=false:=by decide):wpAny (model X.prog X.w) X.A (eval (.Name x pos) X.env) Q E s:=by
 obtain ⟨mb,h1,h2⟩:=I.mod.blt;exact Calls.Name_function_global I.ok.kind hg (Calls.loadGlobal_builtin (by rw[I.ok.glob];exact I.mod.glob.keeps I.bk) hm (by rw[I.ok.blt];exact h1.keeps I.bk) ((h2 x hn).trans hv) h) hd
theorem xP {x:Str} {v:V} {u:Value} {pos:Pos} (hg:Gl X x) (hm:X.mg x=some u) (r:RelV v u) (hd:(x == ("__debug__":Str))=false:=by decide):PE X (.Name x pos) (tC v) :=
 fun _ _ _ H _ I h=>DS I hg hm ⟨v,H,I,r,h⟩ hd
theorem HQ {x:Str} {v:V} {u:Value} {pos:Pos} (hg:Gl X x) (hm:X.mg x=none) (hv:bootBuiltins x=some u) (r:RelV v u) (hn:x≠"__name__":=by decide) (hd:(x == ("__debug__":Str))=false:=by decide):PE X (.Name x pos) (tC v) :=
 fun _ _ _ H _ I h=>lE I hg hm hv ⟨v,H,I,r,h⟩ hn hd
variable {a b:Expr} {ta tb:TE} {pos:Pos}
def tB (t:TE):TT:=fun σ H Q=>t σ H fun x H1=>∃c,x=.bl c/\Q c H1
theorem jC {e : Expr} {t : TE} (h : PE X e t) (he : ∀ whole, isTrue e X.env whole = (do let v <- whole; standAt e.pos; holding [v] (truthy v)) := by intro _; rfl) : PT X e (tB t) := by
  intro pins s σ H Q I hw;refine isTrue_plain (gF (h pins s σ H _ I hw) fun v s1 ⟨x, H1, I1, r1, q1⟩ => ?_) (he _);obtain ⟨d, rfl, q⟩ := q1;cases r1;exact wpAny_truthy_bool ⟨H1, I1, q⟩

variable {tA tB':TT} {rest:List Expr}
def QU (t u:TT):TT:=fun σ H Q=>t σ H fun c H1=>if c=true then u σ H1 Q else Q false H1
def tOr (t u:TT):TT:=fun σ H Q=>t σ H fun c H1=>if c=true then Q true H1 else u σ H1 Q
def QP (t:TT):TT:=fun σ H Q=>t σ H fun c H1=>Q (!c) H1
theorem kg (ha:PT X a tA):PW X (.BoolOp .And [a] pos) tA:=by
 intro wh pins s σ H Q I h;refine isTrue_and (gF (ha pins s σ H Q I h) fun c s1 e=>?_);cases c with
 | true=>exact isTrue_and_nil e
 | false=>exact e
theorem ke (ha:PT X a tA):PW X (.BoolOp .Or [a] pos) tA:=by
 intro wh pins s σ H Q I h;refine isTrue_or (gF (ha pins s σ H Q I h) fun c s1 e=>?_);cases c with
 | false=>exact isTrue_or_nil e
 | true=>exact e
theorem jB (ha:PT X a tA) (hb:PW X (.BoolOp .And (b :: rest) pos) tB'):PW X (.BoolOp .And (a :: b :: rest) pos) (QU tA tB'):=by
 intro wh pins s σ H Q I h;refine isTrue_and (gF (ha pins s σ H _ I h) fun c s1 ⟨H1,I1,q1⟩=>?_);cases c with
 | true=>exact hb wh pins s1 σ H1 Q I1 q1
 | false=>exact ⟨H1,I1,q1⟩
theorem pE (ha:PT X a tA) (hb:PW X (.BoolOp .Or (b :: rest) pos) tB'):PW X (.BoolOp .Or (a :: b :: rest) pos) (tOr tA tB'):=by
 intro wh pins s σ H Q I h;refine isTrue_or (gF (ha pins s σ H _ I h) fun c s1 ⟨H1,I1,q1⟩=>?_);cases c with
 | true=>exact ⟨H1,I1,q1⟩
 | false=>exact hb wh pins s1 σ H1 Q I1 q1
theorem kh (ha:PT X a tA):PT X (.UnaryOp .Not a pos) (QP tA):=by
 intro pins s σ H Q I h;exact isTrue_not (ha pins s σ H (fun c H1=>Q (!c) H1) I h)
def Od (ta tb:TE):TE:=fun σ H Q=>ta σ H fun x H1=>∃c,x=.bl c/\if c=true then tb σ H1 Q else Q (.bl false) H1
def N7 (ta:TE):TE:=fun σ H Q=>ta σ H fun x H1=>∃c,x=.bl c/\Q (.bl (!c)) H1
theorem DC {op} {t:TE} (h:PE X a t):PE X (.BoolOp op [a] pos) t:=fun pins s σ H Q I hw=>BoolOp_one (h pins s σ H Q I hw)
theorem DE (ha:PE X a ta) (hb:PE X (.BoolOp .And (b :: rest) pos) tb):PE X (.BoolOp .And (a :: b :: rest) pos) (Od ta tb):=by
 intro pins s σ H Q I h;refine BoolOp_and (gF (ha pins s σ H _ I h) fun v s1 ⟨x,H1,I1,r1,q1⟩=>?_);obtain ⟨c,rfl,q1⟩:=q1;cases r1;refine wpAny_truthy_bool ?_;cases c with
 | true=>exact hb pins s1 σ H1 Q I1 q1
 | false=>exact ⟨.bl false,H1,I1,rfl,q1⟩
theorem PL (ha:PE X a ta):PE X (.UnaryOp .Not a pos) (N7 ta):=by
 intro pins s σ H Q I h;refine UnaryOp_ (gF (ha pins s σ H _ I h) fun v s1 ⟨x,H1,I1,r1,q1⟩=>?_);obtain ⟨c,rfl,q1⟩:=q1;cases r1;exact not_of (wpAny_truthy_bool ⟨.bl (!c),H1,I1,rfl,q1⟩)
def tIf (t:TT) (ta tb:TE):TE:=fun σ H Q=>t σ H fun c H1=>if c=true then ta σ H1 Q else tb σ H1 Q
theorem K3 {c:Expr} (hc:PT X c tA) (ha:PE X a ta) (hb:PE X b tb):PE X (.IfExp c a b pos) (tIf tA ta tb):=by
 intro pins s σ H Q I h;refine wpAny_IfExp (gF (hc pins s σ H _ I h) fun d s1 ⟨H1,I1,q1⟩=>?_);cases d with
 | true=>exact ha pins s1 σ H1 Q I1 q1
 | false=>exact hb pins s1 σ H1 Q I1 q1
end
def bU (K:PySem.W.Frag) (H:Hp) (a:Addr) (xs:List V):Prop :=
 Rd H a (.lst xs) \/
  ∃(o:Obj) (its:Array Value) (n:Nat),K.lookup a=some o/\o.cls=.type "list"/\o.dict=none/\o.data=.seq its n/\its.size<=sizeLine/\cT xs its.toList
def sv (K:PySem.W.Frag) (H:Hp) (a:Addr) (xs:List V):Prop :=
 Rd H a (.tup xs) \/
  ∃(o:Obj) (its:Array Value) (n:Nat),K.lookup a=some o/\o.cls=.type "tuple"/\o.data=.seq its n/\its.size<=sizeLine/\cT xs its.toList
def SI:Value->Option V
 | .none=>some .non
 | .bool b=>some (.bl b)
 | .int i _=>some (.int i)
 | .str x _=>some (.str x)
 | .bytes b _=>some (.byt b)
 | .float b _=>some (.flt b)
 | .ref a=>some (.ref a)
 | .type n=>some (.ty n)
 | _=>none
theorem RelV.abs {x:V} {u:Value} (r:RelV x u):SI u=some x:=by
 cases x with
 | non=>cases r;rfl
 | bl _=>cases r;rfl
 | int _=>obtain ⟨t,rfl⟩:=r;rfl
 | str _=>obtain ⟨t,rfl⟩:=r;rfl
 | byt _=>obtain ⟨t,rfl⟩:=r;rfl
 | flt _=>obtain ⟨t,rfl⟩:=r;rfl
 | ref _=>cases r;rfl
 | ty _=>cases r;rfl
theorem RelV.inj {x y:V} {u:Value} (r:RelV x u) (q:RelV y u):x=y:=cp (r.abs.symm.trans q.abs)
theorem cT.inj:∀{xs ys:List V} {us:List Value},cT xs us->cT ys us->xs=ys
 | _,_,_,.nil,.nil=>rfl
 | _,_,_,.cons r t,.cons r' t'=>by rw[r.inj r',cT.inj t t']
section
variable {X:Cx} {pins:List (Addr×Obj)} {σ:St} {H:Hp} {s:Shared} {a:Addr} {xs ys:List V}
theorem bU.of {K:PySem.W.Frag} (h:H a=some (.lst xs)):bU K H a xs:=.inl (.inl h)
theorem sv.of {K:PySem.W.Frag} (h:H a=some (.tup xs)):sv K H a xs:=.inl (.inl h)
theorem Inv.list (I:Inv X pins σ H s) (h:bU X.K H a xs):∃its:List Value,cT xs its/\PlainL s.heap a its.toArray/\xs.length<=sizeLine:=by
 rcases h with h | ⟨o,its,n,hk,hc,hd,hs,hz,r⟩
 ·obtain ⟨z,its,n,r,e⟩:=h.ok I.hok;exact ⟨its,r,⟨_,n,e,rfl,rfl,rfl⟩,z⟩
 ·refine ⟨its.toList,r,⟨o,n,I.kIn a o hk,hc,hd,by simpa using hs⟩,?_⟩;have e:=r.length;simp only[Array.length_toList] at e
  lia
theorem Inv.tuple (I:Inv X pins σ H s) (h:sv X.K H a xs):∃its:List Value,cT xs its/\IsTup s.heap a its.toArray/\xs.length<=sizeLine:=by
 rcases h with h | ⟨o,its,n,hk,hc,hs,hz,r⟩
 ·obtain ⟨z,its,r,p⟩:=h.ok I.hok;exact ⟨its,r,p,z⟩
 ·refine ⟨its.toList,r,⟨o,I.kIn a o hk,hc,n,by simpa using hs⟩,?_⟩;have e:=r.length;simp only[Array.length_toList] at e
  lia
theorem Inv.list_inj (I:Inv X pins σ H s) (h:bU X.K H a xs) (h':bU X.K H a ys):xs=ys:=by
 obtain ⟨its,r,⟨o,n,e,_,_,d⟩,_⟩:=I.list h;obtain ⟨its',r',⟨o',n',e',_,_,d'⟩,_⟩:=I.list h';rw[e] at e';cases e';rw[d] at d';injection d' with d1 _
 have:its=its':=by simpa using congrArg Array.toList d1
 subst this;exact r.inj r'
theorem Inv.tuple_inj (I:Inv X pins σ H s) (h:sv X.K H a xs) (h':sv X.K H a ys):xs=ys:=by
 obtain ⟨its,r,⟨o,e,_,n,d⟩,_⟩:=I.tuple h;obtain ⟨its',r',⟨o',e',_,n',d'⟩,_⟩:=I.tuple h';rw[e] at e';cases e';rw[d] at d';injection d' with d1 _
 have:its=its':=by simpa using congrArg Array.toList d1
 subst this;exact r.inj r'
end
abbrev Cx.wish (X:Cx) (E:Value->Shared->Prop):Cx:={ X with xe:=E }
abbrev Cx.nox (X:Cx):Cx:=X.wish fun _ _=>False
theorem Cx.Ok.wish {X:Cx} (ok:X.Ok) (E:Value->Shared->Prop):(X.wish E).Ok :=
 ⟨ok.mod,ok.kind,ok.glob,ok.blt,ok.above,ok.inj,ok.has,ok.cab,ok.hd,ok.frames,ok.stk,ok.exf,ok.bs,ok.bsz,ok.noex,ok.exfs,ok.funs,ok.frf⟩
theorem Cx.Ok.unwish {X:Cx} {E:Value->Shared->Prop} (ok:(X.wish E).Ok):X.Ok :=
 ⟨ok.mod,ok.kind,ok.glob,ok.blt,ok.above,ok.inj,ok.has,ok.cab,ok.hd,ok.frames,ok.stk,ok.exf,ok.bs,ok.bsz,ok.noex,ok.exfs,ok.funs,ok.frf⟩
section
variable {X:Cx} {pins:List (Addr×Obj)} {σ:St} {H:Hp} {s:Shared} {E:Value->Shared->Prop}
theorem Inv.wish (I:Inv X pins σ H s) (E:Value->Shared->Prop):Inv (X.wish E) pins σ H s:=⟨I.ok.wish E,I.os,I.bare,I.base,I.loc,I.cell,I.free,I.freeC,I.pin,I.hok,I.len⟩
theorem Inv.unwish (I:Inv (X.wish E) pins σ H s):Inv X pins σ H s:=⟨I.ok.unwish,I.os,I.bare,I.base,I.loc,I.cell,I.free,I.freeC,I.pin,I.hok,I.len⟩
theorem SP.unwish {D:Ends} {f:Flow} {s':Shared} (h:SP (X.wish E) pins D f s'):SP X pins D f s':=by
 cases f with
 | next=>obtain ⟨σ',H',I,q⟩:=h;exact ⟨σ',H',I.unwish,q⟩
 | brk=>obtain ⟨σ',H',I,q⟩:=h;exact ⟨σ',H',I.unwish,q⟩
 | cont=>obtain ⟨σ',H',I,q⟩:=h;exact ⟨σ',H',I.unwish,q⟩
 | ret u=>obtain ⟨v,σ',H',I,r,q⟩:=h;exact ⟨v,σ',H',I.unwish,r,q⟩
theorem Hq.nox {st:List Stmt} {t:TS} (h:Hq X.nox st t):Hq X st t:=fun pins s σ H D I hw =>
 wpAny_mono (h pins s σ H D (I.wish _) hw) (fun _ _ q=>q.unwish) fun _ _ z=>False.elim z
end
section
variable {X:Cx} {st:Stmt} {rest:List Stmt} {t u:TS} {e:Expr} {te:TE} {pos:Pos}
def N8:TS:=fun D σ H=>D.nx σ H
def QK (t u:TS):TS:=fun D σ H=>t { D with nx:=u D } σ H
theorem b7:Hq X [] N8:=fun _ _ σ H _ I h=>wpAny_execs_nil ⟨σ,H,I,h⟩
theorem ar (h1:PS X st t) (h2:Hq X rest u):Hq X (st :: rest) (QK t u):=by
 intro pins s σ H D I h;refine wpAny_execs_cons (gF (h1 pins s σ H { D with nx:=u D } I h) fun f s1 q=>?_);cases f with
 | next =>
  obtain ⟨σ',H',I',q⟩:=q;exact h2 pins s1 σ' H' D I' q
 | ret v=>exact q
 | brk=>exact q
 | cont=>exact q
theorem aA (h1:PS X st t):Hq X [st] t:=by
 intro pins s σ H D I h;refine wpAny_execs_cons (gF (h1 pins s σ H D I h) fun f s1 q=>?_);cases f with
 | next=>exact wpAny_execs_nil q
 | ret v=>exact q
 | brk=>exact q
 | cont=>exact q
theorem Inv.quiet {pins:List (Addr×Obj)} {σ:St} {H:Hp} {s:Shared} (I:Inv X pins σ H s):interactive X.env=false:=by simp [interactive,I.ok.kind]
def Ob (te:TE):TS:=fun D σ H=>te σ H fun _ H1=>D.nx σ H1
theorem iS (he:PE X e te) (hs:swapsWith e none pos.line X.env=pure false:=by rfl):PS X (.Expr e pos) (Ob te):=by
 intro pins s σ H D I h;exact wpAny_Expr_any (gF (he pins s σ H _ I h) fun v s1 ⟨x,H1,I1,r1,q1⟩=>⟨σ,H1,I1,q1⟩) I.quiet hs
def QL (te:TE):TS:=fun D σ H=>te σ H D.rt
theorem aW (he:PE X e te):PS X (.Return (some e) pos) (QL te):=by
 intro pins s σ H D I h;exact wpAny_Return_some (gF (he pins s σ H _ I h) fun v s1 ⟨x,H1,I1,r1,q1⟩=>⟨x,σ,H1,I1,r1,q1⟩)
def QR (c:TT) (t u:TS):TS:=fun D σ H=>c σ H fun b H1=>if b=true then t D σ H1 else u D σ H1
theorem dm {c:Expr} {a b:List Stmt} {tc:TT} (hc:PT X c tc) (ha:Hq X a t) (hb:Hq X b u):PS X (.If c a b pos) (QR tc t u):=by
 intro pins s σ H D I h;refine wpAny_If (gF (hc pins s σ H _ I h) fun d s1 ⟨H1,I1,q1⟩=>?_);cases d with
 | true=>exact ha pins s1 σ H1 D I1 q1
 | false=>exact hb pins s1 σ H1 D I1 q1
end
abbrev TG:=V->St->Hp->(St->Hp->Prop)->Prop
abbrev Me:=List V->St->Hp->(St->Hp->Prop)->Prop
def PG (X:Cx) (target:Expr) (t:TG):Prop :=
 ∀(pins:List (Addr×Obj)) (s:Shared) (σ:St) (H:Hp) (v:V) (u:Value) (Q:St->Hp->Prop),Inv X pins σ H s->RelV v u->t v σ H Q →
  wpAny (model X.prog X.w) X.A (assign target X.env u) (fun _ s'=>∃σ' H',Inv X pins σ' H' s'/\Q σ' H') X.xe s
def RT (X:Cx) (ts:List Expr) (t:Me):Prop :=
 ∀(pins:List (Addr×Obj)) (s:Shared) (σ:St) (H:Hp) (vs:List V) (us:List Value) (Q:St->Hp->Prop),Inv X pins σ H s->cT vs us->t vs σ H Q →
  wpAny (model X.prog X.w) X.A (assignInOrder ((assignEach ts X.env).map (·.2)) us) (fun _ s'=>∃σ' H',Inv X pins σ' H' s'/\Q σ' H') X.xe s
abbrev GW:=V->V->V->Hp->(Hp->Prop)->Prop
def Qm (X:Cx) (t:GW):Prop :=
 ∀(pins:List (Addr×Obj)) (s:Shared) (σ:St) (H:Hp) (o i v:V) (ov iv u:Value) (Q:Hp->Prop),Inv X pins σ H s->RelV o ov->RelV i iv->RelV v u->t o i v H Q →
  wpAny (model X.prog X.w) X.A (setItem ov iv u) (fun _ s'=>∃H',Inv X pins σ H' s'/\Q H') X.xe s
abbrev RS:=V->V->Hp->VK->Prop
def PIp (X:Cx) (op:Operator) (t:RS):Prop :=
 ∀(pins:List (Addr×Obj)) (s:Shared) (σ:St) (H:Hp) (x y:V) (v u:Value) (Q:VK),Inv X pins σ H s->RelV x v->RelV y u->t x y H Q →
  wpAny (model X.prog X.w) X.A (inplaceOp op v u) (EP X pins σ Q) X.xe s
section
variable {X:Cx} {pos:Pos}
def Ii (i:Nat):TG:=fun v σ H Q=>Q (σ.set i (some v)) H
theorem aO {i:Nat} {x:Str} (hN:X.N.Nodup) (hi:X.N[i]?=some x:=by exact rfl) (hx:Loc X.env.scope x:=by exact Or.inl rfl) (hf:X.fn x=true\/X.env.scope.names.lookup x=some .local:=by first | exact .inl rfl | exact .inr rfl | assumption):PG X (.Name x pos) (Ii i):=by
 intro pins s σ H v u Q I r h;exact wpAny_assign_Name (xG I hN hi hx r (fun s' I'=>⟨_,H,I',h⟩) hf)
def RN:Me:=fun vs σ H Q=>vs=[]/\Q σ H
def OA (t:TG) (u:Me):Me:=fun vs σ H Q=>∃v r,vs=v :: r/\t v σ H fun σ' H'=>u r σ' H' Q
theorem ju:RT X [] RN:=by
 intro pins s σ H vs us Q I r h;obtain ⟨e,h⟩:=h;subst e;cases r;exact assignInOrder_nil ⟨σ,H,I,h⟩
theorem cS {e:Expr} {es:List Expr} {t:TG} {u:Me} (h1:PG X e t) (h2:RT X es u)
  (hs:(assignEach (e :: es) X.env).map (·.2)=assign e X.env :: (assignEach es X.env).map (·.2):=by rfl):RT X (e :: es) (OA t u):=by
 intro pins s σ H vs us Q I r h;obtain ⟨v,vr,e1,h⟩:=h;subst e1;cases r with
 | cons r rr =>
  rw[hs];refine assignInOrder_cons (gF (h1 pins s σ H _ _ _ I r h) fun _ s1 ⟨σ1,H1,I1,q1⟩=>?_);exact h2 pins s1 σ1 H1 _ _ Q I1 rr q1
def Qb (K:PySem.W.Frag) (n:Nat) (t:Me):TG:=fun v σ H Q=>∃a xs,v=.ref a/\sv K H a xs/\xs.length=n/\t xs σ H Q
theorem xm {es:List Expr} {k:Nat} {t:Me} {n:Nat} (hc:X.calm=true) (h:RT X es t)
  (hn:(assignEach es X.env).length=n:=by rfl) (hst:(assignEach es X.env).findIdx? (·.1)=none:=by rfl):PG X (.Tuple es k pos) (Qb X.K n t):=by
 intro pins s σ H v u Q I r hw;obtain ⟨a,xs,e1,hq,hl,hw⟩:=hw;subst e1;cases r;obtain ⟨its,rv,ht,hz⟩:=I.tuple hq;refine assign_Tuple_tuple (I.ok.hd hc) ht (by simp [hn,<- hl,rv.length]) hst fun h' hx=>?_
 have I1:Inv X pins σ H { s with heap:=h' }:=I.kept (t':=s.toks) fun b o e=>hx b o (cm (Heap.lt_size e)) e
 exact h pins _ σ H xs _ Q I1 (by simpa using rv) hw
def RM (to ti:TE) (t:GW):TG:=fun v σ H Q=>to σ H fun o H1=>ti σ H1 fun i H2=>t o i v H2 fun H3=>Q σ H3
theorem ip {o i : Expr} {to ti : TE} {t : GW} (ho : PE X o to) (hi : PE X i ti) (hs : Qm X t)
    (ha : ∀ v, assign (.Subscript o i pos) X.env v = (do
      let ov <- holding [v] (eval o X.env)
      let iv <- holding [v, ov] (eval i X.env)
      standAt pos
      holding [v, ov, iv] (setItem ov iv v)
      release [v, ov, iv] []) := by intro _; rfl) : PG X (.Subscript o i pos) (RM to ti t) := by
  intro pins s σ H v u Q I r h;rw [ha];refine wpAny_bind (wpAny_holding (gF (ho pins s σ H _ I h) fun ov s1 ⟨x, H1, I1, r1, q1⟩ => ?_));refine wpAny_bind (wpAny_holding (gF (hi pins s1 σ H1 _ I1 q1) fun iv s2 ⟨y, H2, I2, r2, q2⟩ => ?_));refine wpAny_bind (wpAny_standAt (wpAny_bind (wpAny_holding (gF (hs pins s2 σ H2 x y v ov iv u _ I2 r1 r2 r q2) fun _ s3 ⟨H3, I3, q3⟩ => ?_))));exact wpAny_release ⟨σ, H3, I3, q3⟩
def Mp (te:TE) (g:TG):TS:=fun D σ H=>te σ H fun x H1=>g x σ H1 D.nx
theorem fz {tg e:Expr} {te:TE} {g:TG} (he:PE X e te) (hg:PG X tg g) (hs:swapsWithSole [tg] e pos.line X.env=pure false:=by rfl) (hw:swappedStores [tg] e X.env=pure none:=by rfl)
  (h1:(assignEach [tg] X.env).map (·.2)=[assign tg X.env]:=by rfl):PS X (.Assign [tg] e pos) (Mp te g):=by
 intro pins s σ H D I h;refine wpAny_Assign_stores (gF (he pins s σ H _ I h) fun v s1 ⟨x,H1,I1,r1,q1⟩=>?_) hs hw;rw[h1];exact gF (hg pins s1 σ H1 x v _ I1 r1 q1) fun _ s2 q=>q
theorem bc {i:Nat} {x:Str} {e:Expr} {te:TE} {pos':Pos} (hN:X.N.Nodup) (hi:X.N[i]?=some x) (hx:Loc X.env.scope x) (he:PE X e te) (hs:swapsWith e (some (.Name x pos')) pos.line X.env=pure false:=by rfl) (hf:X.fn x=true\/X.env.scope.names.lookup x=some .local:=by first | exact .inl rfl | exact .inr rfl | assumption) :
  PS X (.Assign [.Name x pos'] e pos) (Mp te (Ii i)):=by
 intro pins s σ H D I h;refine wpAny_Assign_Name (gF (he pins s σ H _ I h) fun v s1 ⟨y,H1,I1,r1,q1⟩=>?_) hs;exact xG I1 hN hi hx r1 (fun s2 I2=>⟨_,H1,I2,q1⟩) hf
def QM (i j:Nat) (ta:TA):TS:=fun D σ H=>ta σ H fun vs H1=>∃v w,vs=[v,w]/\D.nx ((σ.set i (some v)).set j (some w)) H1
theorem KW {i j : Nat} {x y : Str} {a b : Expr} {ta : TA} {px py pt : Pos} {kt k2 pt2} (hc : X.calm = true) (hN : X.N.Nodup) (hi : X.N[i]? = some x) (hj : X.N[j]? = some y) (hij : i ≠ j)
    (hx : X.env.scope.names.lookup x = some .local) (hy : X.env.scope.names.lookup y = some .local) (ha : PA X [a, b] ta)
    (hw : swappedStores [.Tuple [.Name x px, .Name y py] kt pt] (.Tuple [a, b] k2 pt2) X.env = pure (some [x, y]))
    (hs : swapsWithSole [.Tuple [.Name x px, .Name y py] kt pt] (.Tuple [a, b] k2 pt2) pos.line X.env = pure false := by rfl) :
    PS X (.Assign [.Tuple [.Name x px, .Name y py] kt pt] (.Tuple [a, b] k2 pt2) pos) (QM i j ta) := by
  intro pins s σ H D I h;rw [exec_Assign_arm];refine wpAny_bind (wpAny_standAt ?_);rw [hs];refine wpAny_bind (wpAny_pure ?_);rw [if_neg (by decide)];refine wpAny_bind (Tuple_ (gF (ha _ pins s σ H _ I h) fun us s1 ⟨vs, H1, I1, r1, q1⟩ => ?_));obtain ⟨v, w, e1, q1⟩ := q1;subst e1
  obtain ⟨u1, u2, rfl, rv, rw'⟩ : ∃ u1 u2, us = [u1, u2] /\ RelV v u1 /\ RelV w u2 := by
    cases r1 with
    | cons p q =>
      cases q with
      | cons p' q' =>
        cases q';exact ⟨_, _, rfl, p, p'⟩
  refine wpAny_newObj_type ?_ (by show 2 ≤ sizeLine; decide);have I2 : Inv X pins σ H1 { s1 with heap := s1.heap.push { cls := .type "tuple", data := .seq [u1, u2].toArray } } := I1.kept (t' := s1.toks) fun b o e => Heap.get?_push_of_some _ e
  rw [hw];refine wpAny_bind (wpAny_pure ?_);show wpAny (model X.prog X.w) X.A (do rule "assign.swapped-stores"; let items <- unpackItems (.ref s1.heap.objs.size) 2 none; assignInOrder [fun v => bindName X.env y v, fun v => bindName X.env x v] items.reverse; pure Flow.next) _ _ _
  refine wpAny_bind (wpAny_rule (wpAny_bind (unpackItems_tuple (items := #[u1, u2]) (I.ok.hd hc) (IsTup.new s1.heap _) fun h' hx' => ?_)));have I3 := I2.kept (h' := h') (t' := s1.toks) fun b o e => hx' b o (cm (Heap.lt_size e)) e
  show wpAny _ _ (assignInOrder [fun v => bindName X.env y v, fun v => bindName X.env x v] [u2, u1] >>= fun _ => pure Flow.next) _ _ _
  refine wpAny_bind (assignInOrder_cons (wpAny_bindName (xG I3 hN hj (.inl hy) rw' (fun s2 I4 => ?_) (.inr hy))));refine assignInOrder_cons (wpAny_bindName (xG I4 hN hi (.inl hx) rv (fun s3 I5 => assignInOrder_nil (wpAny_pure ?_)) (.inr hx)));rw [List.set_comm _ _ (Ne.symm hij)] at I5;exact ⟨_, H1, I5, q1⟩
def Oc (to ti te:TE) (tget:V->V->Hp->VK->Prop) (tip:RS) (tset:GW):TS:=fun D σ H=>to σ H fun o H1=>ti σ H1 fun i H2=>tget o i H2 fun x H3=>te σ H3 fun y H4=>tip x y H4 fun z H5=>tset o i z H5 fun H6=>D.nx σ H6
def RU (X:Cx) (t:V->V->Hp->VK->Prop):Prop :=
 ∀(pins:List (Addr×Obj)) (s:Shared) (σ:St) (H:Hp) (o i:V) (ov iv:Value) (Q:VK),Inv X pins σ H s->RelV o ov->RelV i iv->t o i H Q →
  wpAny (model X.prog X.w) X.A (getItem ov iv) (EP X pins σ Q) X.xe s
theorem Nq {o i e : Expr} {to ti te : TE} {tget : V → V → Hp → VK → Prop} {tip : RS} {tset : GW} {op : Operator} {tpos : Pos} (ho : PE X o to) (hi : PE X i ti) (hg : RU X tget) (he : PE X e te) (hp : PIp X op tip) (hs : Qm X tset)
    (ha : ∀ ov iv new, augStore i ov iv new = (do holding [new, ov, iv] (setItem ov iv new); release [new, ov, iv] []; pure .next) := by intros; rfl) : PS X (.AugAssign (.Subscript o i tpos) op e pos) (Oc to ti te tget tip tset) := by
  intro pins s σ H D I h;refine wpAny_AugAssign_SubscriptAny (gF (ho pins s σ H _ I h) fun ov s1 ⟨x1, H1, I1, r1, q1⟩ => ?_) ha;refine gF (hi pins s1 σ H1 _ I1 q1) fun iv s2 ⟨x2, H2, I2, r2, q2⟩ => ?_
  refine gF (hg pins s2 σ H2 x1 x2 ov iv _ I2 r1 r2 q2) fun old s3 ⟨x3, H3, I3, r3, q3⟩ => ?_
  refine gF (he pins s3 σ H3 _ I3 q3) fun v s4 ⟨x4, H4, I4, r4, q4⟩ => ?_
  refine gF (hp pins s4 σ H4 x3 x4 old v _ I4 r3 r4 q4) fun new s5 ⟨x5, H5, I5, r5, q5⟩ => ?_
  exact gF (hs pins s5 σ H5 x1 x2 x5 ov iv new _ I5 r1 r2 r5 q5) fun _ s6 ⟨H6, I6, q6⟩ => ⟨σ, H6, I6, q6⟩
def ipI (f:Int->Int->Int):RS:=fun x y H Q=>∃i j,x=.int i/\y=.int j/\Q (.int (f i j)) H
theorem P7:PIp X .Add (ipI fun i j=>i+j):=by
 intro pins s σ H x y v u Q I r1 r2 h;obtain ⟨i,j,e1,e2,q⟩:=h;subst e1;subst e2;obtain ⟨t,rfl⟩:=r1;obtain ⟨t',rfl⟩:=r2;exact iadd_int ⟨.int _,H,I.tok _,⟨_,rfl⟩,q⟩
end
section
variable {X:Cx} {pos:Pos}
def Kf (c:TT) (tb:TS):TS:=fun D σ H=>∃W:Nat->St->Hp->Prop,(∃m,W m σ H)/\∀m σ H,W m σ H →
 c σ H fun b H1=>if b=true then ∃N:St->Hp->Prop,(∀σ' H',N σ' H'->∃m',m' < m/\W m' σ' H')/\tb { D with nx:=N,ct:=N,bk:=D.nx } σ H1 else D.nx σ H1
theorem AW {c:Expr} {body:List Stmt} {tc:TT} {tb:TS} (hp:PassesOwn (model X.prog X.w) X.A X.env X.xe) (hc:PT X c tc) (hb:Hq X body tb):PS X (.While c body [] pos) (Kf tc tb):=by
 intro pins s σ H D I h;obtain ⟨W,⟨m0,w0⟩,turn⟩:=h;refine wpAny_While (codeAny_whileLoop (fun n s'=>∃σ' H',Inv X pins σ' H' s'/\W n σ' H') ?_ m0 ⟨σ,H,I,w0⟩);rintro n s1 ⟨σ1,H1,I1,w1⟩;refine wpAny_passesOwn hp (gF (hc pins s1 σ1 H1 _ I1 (turn n σ1 H1 w1)) fun b s2 ⟨H2,I2,q2⟩=>?_);cases b with
 | true =>
  obtain ⟨N,hN,q2⟩:=q2;rw[if_pos rfl];refine wpAny_passesOwn hp (gF (hb pins s2 σ1 H2 _ I2 q2) fun f s3 q3=>?_);cases f with
  | next =>
   obtain ⟨σ3,H3,I3,n3⟩:=q3;obtain ⟨m',hm,w3⟩:=hN σ3 H3 n3;exact ⟨m',hm,σ3,H3,I3,w3⟩
  | cont =>
   obtain ⟨σ3,H3,I3,n3⟩:=q3;obtain ⟨m',hm,w3⟩:=hN σ3 H3 n3;exact ⟨m',hm,σ3,H3,I3,w3⟩
  | brk=>exact q3
  | ret v=>exact q3
 | false =>
  rw[if_neg bw];exact wpAny_execs_nil ⟨σ1,H2,I2,q2⟩
end
structure It where
 go:Nat->Hp->Prop
 yld:Nat->Hp->V->Hp->Prop
 stop:Nat->Hp->Prop
def lH (X:Cx) (pins:List (Addr×Obj)) (H:Hp) (b:Addr):Prop :=
 H b=none/\b≠X.env.locals/\b∉X.fs/\(b∈X.ex\/X.s₀.heap.objs.size<=b)/\(∀x c,X.env.cells.lookup x=some c->c≠b)/\∀p∈X.pn++pins,p.1≠b
theorem Inv.fpOk {X:Cx} {pins:List (Addr×Obj)} {σ:St} {H H':Hp} {s:Shared} {b:Addr} (I:Inv X pins σ H s) (hb:s.heap.objs.size<=b) (hn:H' b=none):lH X pins H' b:=by
 refine ⟨hn,ID (bM I.lt hb),I.nofs hb,.inr (ai I.sz hb),fun x c e z=>?_,fun p hp z=>?_⟩
 ·obtain ⟨v,q⟩:=I.cell x c e;exact absurd (bM q.lt (by rw[z];exact hb)) (fg _)
 ·exact absurd (bM (Heap.lt_size (I.pin p hp).1) (by rw[z];exact hb)) (fg _)
structure Turn (P:Program) (w:World) (K:PySem.W.Frag) (tg:Expr) (J:It) (fp:List Addr) (it:Addr) (tn:Nat->Heap->Prop):Prop where
 mem:it∈fp
 obj:∀i h,tn i h->∀b∈fp,∃o,h.get? b=some o/\∀v,o.data≠.cell v
 keep:∀i h h',tn i h->(∀b∈fp,∀o,h.get? b=some o->h'.get? b=some o)->tn i h'
 item:∀(X:Cx),X.prog=P->X.w=w->X.K=K->X.calm=true->∀(i:Nat) (pins:List (Addr×Obj)) (s:Shared) (σ:St) (H:Hp) (E:Value->Shared->Prop),Inv X pins σ H s->(∀b∈fp,lH X pins H b)->tn i s.heap->J.go i H →
  wpAny (model P w) X.A (pyNext (.ref it)) (fun r s1=>∃u,r=some u /\
   wpAny (model P w) X.A (letOwnedTupleGo tg (.ref it) u) (fun _ s2=>∃x H',Inv X pins σ H' s2/\RelV x u/\J.yld i H x H'/\tn (i+1) s2.heap/\∀b∈fp,H' b=none) E s1) E s
 done:∀(X:Cx),X.prog=P->X.w=w->X.K=K->X.calm=true->∀(i:Nat) (pins:List (Addr×Obj)) (s:Shared) (σ:St) (H:Hp) (E:Value->Shared->Prop),Inv X pins σ H s->(∀b∈fp,lH X pins H b)->tn i s.heap->J.stop i H →
  wpAny (model P w) X.A (pyNext (.ref it)) (fun r s1=>r=none/\Inv X pins σ H s1) E s
 self:∀(A:Around) (i:Nat) (s:Shared) (Q:Value->Shared->Prop) (E:Value->Shared->Prop),tn i s.heap->Q (.ref it) s->wpAny (model P w) A (pyIter (.ref it)) Q E s
abbrev TI:=St->Hp->(It->Hp->Prop)->Prop
def PIE (X:Cx) (pins:List (Addr×Obj)) (σ:St) (tg:Expr) (R:It->Hp->Prop) (itv:Value) (s2:Shared):Prop :=
 ∃(it:Addr) (fp:List Addr) (tn:Nat->Heap->Prop) (J:It) (H':Hp),itv=.ref it/\Inv X pins σ H' s2/\Turn X.prog X.w X.K tg J fp it tn/\tn 0 s2.heap/\(∀b∈fp,lH X pins H' b)/\R J H'
def PI (X:Cx) (tg iter:Expr) (wi:TI):Prop :=
 ∀(pins:List (Addr×Obj)) (s:Shared) (σ:St) (H:Hp) (R:It->Hp->Prop),Inv X pins σ H s->wi σ H R →
  wpAny (model X.prog X.w) X.A (eval iter X.env) (fun v s1=>wpAny (model X.prog X.w) X.A (pyIter v) (PIE X pins σ tg R) X.xe s1) X.xe s
theorem Lz {M : Model} {A : Around} {E : Value → Shared → Prop} {s : Shared} {tg : Expr} {it : Addr} {u : Value} {o : Obj} {n : String} {vs : Array Value} {Q : Unit → Shared → Prop} (ho : s.heap.get? it = some o) (hc : o.cls = .type n) (hd : o.data = .fields vs)
    (hn : ["enumerate", "zip", "dict_itemiterator", "dict_reverseitemiterator", "odict_iterator", "itertools.zip_longest", "itertools.pairwise"].contains n = false) (hQ : Q () s) : wpAny M A (letOwnedTupleGo tg (.ref it) u) Q E s := by
  unfold letOwnedTupleGo
  cases tg <;> first
    | exact wpAny_pure hQ
    | (cases u <;> first
        | exact wpAny_pure hQ
        | (refine wpAny_bind (wpAny_load ho ?_)
           rw [hc, hd];show wpAny M A (if (["enumerate", "zip", "dict_itemiterator", "dict_reverseitemiterator", "odict_iterator", "itertools.zip_longest", "itertools.pairwise"].contains n && vs[0]? == some (rawInt _)) = true then _ else _) Q E s
           rw [if_neg (by intro h; rw [hn, Bool.false_and] at h; cases h)];exact wpAny_pure hQ))

def N3 (K:PySem.W.Frag) (a:Addr):It :=
 ⟨fun i H=>∃xs x,bU K H a xs/\xs[i]?=some x,fun i H x H'=>H'=H/\∀xs,bU K H a xs->xs[i]?=some x,fun i H=>∃xs,bU K H a xs/\xs.length<=i⟩
def Qx (K:PySem.W.Frag) (a:Addr):It :=
 ⟨fun i H=>∃xs x,sv K H a xs/\xs[i]?=some x,fun i H x H'=>H'=H/\∀xs,sv K H a xs->xs[i]?=some x,fun i H=>∃xs,sv K H a xs/\xs.length<=i⟩
def Fz (lo:Int) (n:Nat):It:=⟨fun i _=>i < n,fun i H x H'=>H'=H/\x=.int (lo+i),fun i _=>n<=i⟩
theorem IJ {P:Program} {w:World} {K:PySem.W.Frag} {tg:Expr} (a it:Addr):Turn P w K tg (N3 K a) [it] it (fun i h=>h.IsListIter it a i) where
 mem:=by simp
 obj:=fun i h st b hb=>by
  have e:b=it:=by simpa using hb
  subst e;obtain ⟨o,e,c,d⟩:=st;exact ⟨o,e,fun v z=>by rw[d] at z;cases z⟩
 keep:=fun i h h' st k=>st.at fun o e=>k it (by simp) o e
 item:=by
  intro X hP hw hK hc i pins s σ H E I hf st hg;subst hP hw hK;obtain ⟨xs,x,hq,hx⟩:=hg;obtain ⟨its,rv,p,hz⟩:=I.list hq;obtain ⟨u,hu,ru⟩:=rv.get hx;obtain ⟨f0,f1,f2,f3,f4,f5⟩:=hf it (by simp);refine wpAny_pyNext_list_item st p.isList (x:=u) (by simpa using hu) fun h' st' sb=>?_
  have I1:Inv X pins σ H { s with heap:=h' }:=I.turned (t':=s.toks) (fun b o hb e=>(sb.2 b hb).trans e) f0 f1 f3 f4 f5;obtain ⟨o,e,c,d⟩:=id st';exact ⟨u,rfl,Lz (s:={ s with heap:=h' }) e c d (by decide) ⟨x,H,I1,ru,⟨rfl,fun ys hy=>by rw[I.list_inj hy hq];exact hx⟩,st',fun b hb=>(hf b hb).1⟩⟩
 done:=by
  intro X hP hw hK hc i pins s σ H E I hf st hg;subst hP hw hK;obtain ⟨xs,hq,hx⟩:=hg;obtain ⟨its,rv,p,hz⟩:=I.list hq;obtain ⟨f0,f1,f2,f3,f4,f5⟩:=hf it (by simp);have hl:=rv.length;exact wpAny_pyNext_list_end (I.ok.hd hc) st p.isList (by simp;lia) fun h' eb=>⟨rfl,I.turned (t':=s.toks) (fun b o hb e=>eb b o hb e) f0 f1 f3 f4 f5⟩
 self:=fun _ _ _ _ _ st h=>wpAny_pyIter_listiter st h
theorem FF {P:Program} {w:World} {K:PySem.W.Frag} {tg:Expr} (a it:Addr):Turn P w K tg (Qx K a) [it] it (fun i h=>h.IsTupleIter it a i) where
 mem:=by simp
 obj:=fun i h st b hb=>by
  have e:b=it:=by simpa using hb
  subst e;obtain ⟨o,e,c,d⟩:=st;exact ⟨o,e,fun v z=>by rw[d] at z;cases z⟩
 keep:=fun i h h' st k=>st.at fun o e=>k it (by simp) o e
 item:=by
  intro X hP hw hK hc i pins s σ H E I hf st hg;subst hP hw hK;obtain ⟨xs,x,hq,hx⟩:=hg;obtain ⟨its,rv,p,hz⟩:=I.tuple hq;obtain ⟨u,hu,ru⟩:=rv.get hx;obtain ⟨f0,f1,f2,f3,f4,f5⟩:=hf it (by simp);refine wpAny_pyNext_tuple_item st (show s.heap.IsTuple a its.toArray from p) (x:=u) (by simpa using hu) fun h' st' sb=>?_
  have I1:Inv X pins σ H { s with heap:=h' }:=I.turned (t':=s.toks) (fun b o hb e=>(sb.2 b hb).trans e) f0 f1 f3 f4 f5;obtain ⟨o,e,c,d⟩:=id st';exact ⟨u,rfl,Lz (s:={ s with heap:=h' }) e c d (by decide) ⟨x,H,I1,ru,⟨rfl,fun ys hy=>by rw[I.tuple_inj hy hq];exact hx⟩,st',fun b hb=>(hf b hb).1⟩⟩
 done:=by
  intro X hP hw hK hc i pins s σ H E I hf st hg;subst hP hw hK;obtain ⟨xs,hq,hx⟩:=hg;obtain ⟨its,rv,p,hz⟩:=I.tuple hq;obtain ⟨f0,f1,f2,f3,f4,f5⟩:=hf it (by simp);have hl:=rv.length;exact wpAny_pyNext_tuple_end (I.ok.hd hc) st (show s.heap.IsTuple a its.toArray from p) (by simp;lia) fun h' eb=>⟨rfl,I.turned (t':=s.toks) (fun b o hb e=>eb b o hb e) f0 f1 f3 f4 f5⟩
 self:=fun _ _ _ _ _ st h=>wpAny_pyIter_tupleiter st h
theorem FG {P:Program} {w:World} {K:PySem.W.Frag} {tg:Expr} (it:Addr) (lo:Int) (n:Nat):Turn P w K tg (Fz lo n) [it] it (fun i h=>IsRangeIter h it (lo+(i:Nat)*1) ((n:Int) - (i:Nat)) 1) where
 mem:=by simp
 obj:=fun i h st b hb=>by
  have e:b=it:=by simpa using hb
  subst e
  exact ⟨_,st,fun v z=>by
   have z':Data.fields _=Data.cell v:=z;cases z'⟩
 keep:=fun i h h' st k=>k it (by simp) _ st
 item:=by
  intro X hP hw hK hc i pins s σ H E I hf st hg;subst hP hw hK;obtain ⟨f0,f1,f2,f3,f4,f5⟩:=hf it (by simp);have W:=Walks.range (prog:=X.prog) (w:=X.w) (I.ok.hd hc) it lo 1 n;refine W.item i s _ _ hg st fun v h' tk hv st' kk=>?_
  obtain ⟨t,rfl⟩:=hv;have I1:Inv X pins σ H { s with heap:=h',toks:=tk }:=I.turned (fun b o hb e=>kk b o (by simpa using hb) e) f0 f1 f3 f4 f5;refine ⟨_,rfl,Lz (s:={ s with heap:=h',toks:=tk }) (n:="range_iterator") st' rfl rfl (by decide) ⟨.int (lo+i),H,I1,⟨t,?_⟩,⟨rfl,rfl⟩,st',fun b hb=>(hf b hb).1⟩⟩;rw[Int.mul_one]
 done:=by
  intro X hP hw hK hc i pins s σ H E I hf st hg;subst hP hw hK;obtain ⟨f0,f1,f2,f3,f4,f5⟩:=hf it (by simp);exact wpAny_pyNext_range_end (I.ok.hd hc) st (by have:n<=i:=hg;lia) fun h' eb=>⟨rfl,I.turned (t':=s.toks) (fun b o hb e=>eb b o hb e) f0 f1 f3 f4 f5⟩
 self:=fun _ _ _ _ _ st h=>wpAny_pyIter_rangeiter st h
section
variable {X:Cx} {tg:Expr}
def Lx (K:PySem.W.Frag) (tl:TE):TI:=fun σ H R=>tl σ H fun x H1=>∃a,x=.ref a/\(∃xs,bU K H1 a xs)/\R (N3 K a) H1
def RK (K:PySem.W.Frag) (tl:TE):TI:=fun σ H R=>tl σ H fun x H1=>∃a,x=.ref a/\(∃xs,sv K H1 a xs)/\R (Qx K a) H1
theorem cK {l:Expr} {tl:TE} (hl:PE X l tl):PI X tg l (Lx X.K tl):=by
 intro pins s σ H R I h;refine gF (hl pins s σ H _ I h) fun v s1 ⟨x,H1,I1,r1,q1⟩=>?_
 obtain ⟨a,e,⟨xs,hq⟩,q⟩:=q1;subst e;cases r1;obtain ⟨its,rv,p,hz⟩:=I1.list hq;refine wpAny_pyIter_list p.isList ?_;refine ⟨s1.heap.objs.size,[s1.heap.objs.size],_,_,H1,rfl,I1.kept (t':=s1.toks) fun b o e=>Heap.get?_push_of_some _ e,IJ a _,⟨_,Heap.get?_push_size _ rfl,rfl,rfl⟩,fun b hb=>?_,q⟩;have e:b=s1.heap.objs.size:=by simpa using hb
 subst e;exact I1.fpOk (aw _) (I1.hok.fresh (aw _))
theorem PH {l:Expr} {tl:TE} (hl:PE X l tl):PI X tg l (RK X.K tl):=by
 intro pins s σ H R I h;refine gF (hl pins s σ H _ I h) fun v s1 ⟨x,H1,I1,r1,q1⟩=>?_
 obtain ⟨a,e,⟨xs,hq⟩,q⟩:=q1;subst e;cases r1;obtain ⟨its,rv,p,hz⟩:=I1.tuple hq;refine wpAny_pyIter_tuple (show s1.heap.IsTuple a its.toArray from p) ?_;refine ⟨s1.heap.objs.size,[s1.heap.objs.size],_,_,H1,rfl,I1.kept (t':=s1.toks) fun b o e=>Heap.get?_push_of_some _ e,FF a _,⟨_,Heap.get?_push_size _ rfl,rfl,rfl⟩,fun b hb=>?_,q⟩;have e:b=s1.heap.objs.size:=by simpa using hb
 subst e;exact I1.fpOk (aw _) (I1.hok.fresh (aw _))
theorem ES {pins:List (Addr×Obj)} {σ:St} {H:Hp} {s:Shared} {R:It->Hp->Prop} {E:Value->Shared->Prop} {lo hi:Int} {t u v:Tok} {tk:Nat} (I:Inv X pins σ H s) (h1:-(2^62)<=lo) (h2:lo < 2^62) (h3:-(2^62)<=hi) (h4:hi < 2^62)
  (q:R (Fz lo (hi - lo).toNat) H):wpAny (model X.prog X.w) X.A (pyIter (.ref s.heap.objs.size)) (PIE X pins σ tg R) E { s with heap:=s.heap.push { cls:=.type "range",data:=.fields #[.int lo t,.int hi u,.int 1 v] },toks:=tk }:=by
 refine wpAny_pyIter_range (IsRange.new ..) (small_one h1 h2 h3 h4) ?_;have I1:Inv X pins σ H { s with heap:=s.heap.push { cls:=.type "range",data:=.fields #[.int lo t,.int hi u,.int 1 v] },toks:=tk }:=I.kept fun b o e=>Heap.get?_push_of_some _ e
 refine ⟨(s.heap.push { cls:=.type "range",data:=.fields #[.int lo t,.int hi u,.int 1 v] }).objs.size,[(s.heap.push { cls:=.type "range",data:=.fields #[.int lo t,.int hi u,.int 1 v] }).objs.size],_,_,H,rfl,
  I1.kept (t':=tk) fun b o e=>Heap.get?_push_of_some _ e,FG _ lo (hi - lo).toNat,?_,fun b hb=>?_,q⟩
 ·have e1:lo+((0:Nat):Int)*1=lo:=by simp
  have e2:(((hi - lo).toNat:Nat):Int) - ((0:Nat):Int)=Builtin.Range.rangeSize lo hi 1:=by rw[rangeSize_one];split <;> lia
  show IsRangeIter _ _ (lo+((0:Nat):Int)*1) ((((hi - lo).toNat:Nat):Int) - ((0:Nat):Int)) 1
  rw[e1,e2];exact Heap.get?_push_size _ rfl
 ·have e:b=(s.heap.push { cls:=.type "range",data:=.fields #[.int lo t,.int hi u,.int 1 v] }).objs.size:=by simpa using hb
  subst e;exact I1.fpOk (aw _) (I1.hok.fresh (aw _))
def Ox (ta:TA):TI:=fun σ H R=>ta σ H fun vs H1=>∃j:Int,vs=[.int j]/\-(2^62)<=j/\j < 2^62/\R (Fz 0 j.toNat) H1
def Ow (ta:TA):TI:=fun σ H R=>ta σ H fun vs H1=>∃i j:Int,vs=[.int i,.int j]/\(-(2^62)<=i/\i < 2^62/\-(2^62)<=j/\j < 2^62)/\R (Fz i (j - i).toNat) H1
theorem cy {a:Expr} {ta:TA} {p pos:Pos} (hg:Gl X "range") (hm:X.mg "range"=none) (ha:PA X [a] ta) (hs:starEach [a] X.env=[(false,eval a X.env)]:=by rfl):PI X tg (.Call (.Name "range" p) [a] [] pos) (Ox ta):=by
 intro pins s σ H R I h;refine Call_ (lE I hg hm boot_range (PyProof.Rows.callWith_type1 (gF (ha pos pins s σ H _ I h) fun us s1 ⟨vs,H1,I1,r1,q1⟩=>?_) hs rfl));obtain ⟨j,e,q1,q2,q⟩:=q1;subst e;cases r1 with
 | cons r rr =>
  cases rr;obtain ⟨t,rfl⟩:=r;exact call_range_1 (ES I1 (by lia) (by lia) q1 q2 (by simpa using q))
theorem Cw {a b:Expr} {ta:TA} {p pos:Pos} (hg:Gl X "range") (hm:X.mg "range"=none) (ha:PA X [a,b] ta) (hs:starEach [a,b] X.env=[(false,eval a X.env),(false,eval b X.env)]:=by rfl) (hs2:starEach [b] X.env=[(false,eval b X.env)]:=by rfl) :
  PI X tg (.Call (.Name "range" p) [a,b] [] pos) (Ow ta):=by
 intro pins s σ H R I h;refine Call_ (lE I hg hm boot_range (PyProof.Rows.callWith_type1 (gF (ha pos pins s σ H _ I h) fun us s1 ⟨vs,H1,I1,r1,q1⟩=>?_) (by rw[hs,hs2]) (by rw[hs2];rfl)));obtain ⟨i,j,e,⟨q1,q2,q3,q4⟩,q⟩:=q1;subst e;cases r1 with
 | cons r rr =>
  cases rr with
  | cons r' rr =>
   cases rr;obtain ⟨t,rfl⟩:=r;obtain ⟨t',rfl⟩:=r';exact call_range_2 (ES I1 q1 q2 q3 q4 q)
def QT (wi:TI) (g:TG) (tb:TS):TS:=fun D σ H=>wi σ H fun J H1=>∃W:Nat->Nat->St->Hp->Prop,(∃m,W 0 m σ H1)/\∀i m σ H,W i m σ H →
 (J.stop i H/\D.nx σ H)\/(J.go i H/\∃N:St->Hp->Prop,(∀σ' H',N σ' H'->∃m',m' < m/\W (i+1) m' σ' H')/\∀x H',J.yld i H x H'->g x σ H' fun σ2 H2=>tb { D with nx:=N,ct:=N,bk:=D.nx } σ2 H2)
def AX (fp:List Addr) (h:Heap):List (Addr×Obj):=fp.filterMap fun b=>(h.get? b).map fun o=>(b,o)
theorem sR {fp:List Addr} {h:Heap} {b:Addr} {o:Obj} (hb:b∈fp) (e:h.get? b=some o):(b,o)∈AX fp h:=List.mem_filterMap.mpr ⟨b,hb,by rw[e];rfl⟩
theorem Jz {fp:List Addr} {h:Heap} {p:Addr×Obj} (hp:p∈AX fp h):p.1∈fp/\h.get? p.1=some p.2:=by
 obtain ⟨b,hb,e⟩:=List.mem_filterMap.mp hp;cases q:h.get? b with
 | none=>rw[q] at e;cases e
 | some o =>
  rw[q] at e;have e':(b,o)=p:=cp e;subst e';exact ⟨hb,q⟩
theorem Inv.pinned {pins:List (Addr×Obj)} {σ:St} {H:Hp} {s:Shared} {fp:List Addr} (I:Inv X pins σ H s) (hf:∀b∈fp,lH X pins H b) (ho:∀b∈fp,∃o,s.heap.get? b=some o/\∀v,o.data≠.cell v):Inv X (pins++AX fp s.heap) σ H s :=
 I.pins_of fun p hp=>(au.mp hp).elim (fun z=>I.pin p (bV _ z)) fun z=>by
  obtain ⟨hb,e⟩:=Jz z;obtain ⟨f0,f1,f2,_⟩:=hf p.1 hb;obtain ⟨o,e',d⟩:=ho p.1 hb;rw[e] at e';cases e';exact ⟨e,f0,f1,f2,d⟩
theorem Inv.unpinned {pins pl:List (Addr×Obj)} {σ:St} {H:Hp} {s:Shared} (I:Inv X (pins++pl) σ H s):Inv X pins σ H s:=I.pins_of fun p hp=>I.pin p (bV _ (kO _ hp))
theorem dZ {iter : Expr} {body : List Stmt} {wi : TI} {g : TG} {tb : TS} {pos : Pos} (hp : PassesOwn (model X.prog X.w) X.A X.env X.xe) (hc : X.calm = true) (hi : PI X tg iter wi) (hg : PG X tg g) (hb : Hq X body tb)
    (hs : ∀ x, foldedSetIterable iter X.env x = pure x := by intro _; rfl) : PS X (.For tg iter body [] pos) (QT wi g tb) := by
  intro pins s σ H D I h;refine wpAny_For (gF (hi pins s σ H _ I h) fun v s1 h1 => gF h1 fun itv s2 h2 => ?_) hs;obtain ⟨it, fp, tn, J, H2, e, I2, T, st2, f2, W, ⟨m0, w0⟩, turn⟩ := h2;subst e;have stat : ∀ {H' : Hp}, (∀ b ∈ fp, H' b = none) → ∀ b ∈ fp, lH X pins H' b := fun hn b hb => ⟨hn b hb, (f2 b hb).2⟩
  refine codeAny_forLoop_any (fun n s' => ∃ i σ' H', Inv X pins σ' H' s' /\ tn i s'.heap /\ (∀ b ∈ fp, H' b = none) /\ W i n σ' H') ?_ m0 ⟨0, σ, H2, I2, st2, fun b hb => (f2 b hb).1, w0⟩;rintro n s3 ⟨i, σ3, H3, I3, st3, fr3, w3⟩;rcases turn i n σ3 H3 w3 with ⟨stop, qn⟩ | ⟨go, N, hN, step⟩
  · refine wpAny_passesOwn hp (gF (T.done X rfl rfl rfl hc i pins s3 σ3 H3 X.xe I3 (stat fr3) st3 stop) fun r s4 ⟨hr, I4⟩ => ?_);subst hr;exact wpAny_execs_nil ⟨σ3, H3, I4, qn⟩
  · refine wpAny_passesOwn hp (gF (T.item X rfl rfl rfl hc i pins s3 σ3 H3 X.xe I3 (stat fr3) st3 go) fun r s4 ⟨u, hr, h4⟩ => ?_);subst hr;refine wpAny_passesOwn hp (gF h4 fun _ s5 ⟨x, H5, I5, r5, y5, st5, fr5⟩ => ?_);have I5' := I5.pinned (stat fr5) (T.obj _ _ st5);refine wpAny_passesOwn hp (gF (hg _ s5 σ3 H5 x u _ I5' r5 (step x H5 y5)) fun _ s6 ⟨σ6, H6, I6, q6⟩ => ?_);refine wpAny_passesOwn hp (gF (hb _ s6 σ6 H6 _ I6 q6) fun f s7 q7 => ?_)
    have again : ∀ {σ7 : St} {H7 : Hp}, Inv X (pins ++ AX fp s5.heap) σ7 H7 s7 → N σ7 H7 → ∃ m, m < n /\ ∃ i σ' H', Inv X pins σ' H' s7 /\ tn i s7.heap /\ (∀ b ∈ fp, H' b = none) /\ W i m σ' H' := fun {σ7 H7} I7 n7 => by
      obtain ⟨m', hm, w7⟩ := hN σ7 H7 n7;refine ⟨m', hm, i + 1, σ7, H7, I7.unpinned, T.keep _ _ _ st5 fun b hb o e => (I7.pin (b, o) (bV _ (bV _ (sR hb e)))).1, fun b hb => ?_, w7⟩;obtain ⟨o, e, d⟩ := T.obj _ _ st5 b hb;exact (I7.pin (b, o) (bV _ (bV _ (sR hb e)))).2.1
    cases f with
    | next => obtain ⟨σ7, H7, I7, n7⟩ := q7; exact again I7 n7
    | cont => obtain ⟨σ7, H7, I7, n7⟩ := q7; exact again I7 n7
    | brk => obtain ⟨σ7, H7, I7, q7⟩ := q7; exact ⟨σ7, H7, I7.unpinned, q7⟩
    | ret v => obtain ⟨x7, σ7, H7, I7, r7, q7⟩ := q7; exact ⟨x7, σ7, H7, I7.unpinned, r7, q7⟩
end
theorem iw {K:PySem.W.Frag} {a:Addr} {xs:List V} {g:TG} {tb:TS} {D:Ends} {σ:St} {H:Hp} (Pv:Nat->St->Hp->Prop) (h0:Pv 0 σ H) (hl:∀i σ H,i<=xs.length->Pv i σ H->bU K H a xs)
  (hs:∀i x σ H,xs[i]?=some x->Pv i σ H->g x σ H fun σ2 H2=>tb { D with nx:=Pv (i+1),ct:=Pv (i+1),bk:=D.nx } σ2 H2) (hd:∀σ H,Pv xs.length σ H->D.nx σ H) :
  ∃W:Nat->Nat->St->Hp->Prop,(∃m,W 0 m σ H)/\∀i m σ H,W i m σ H →
   ((N3 K a).stop i H/\D.nx σ H)\/((N3 K a).go i H/\∃N:St->Hp->Prop,(∀σ' H',N σ' H'->∃m',m' < m/\W (i+1) m' σ' H')/\∀x H',(N3 K a).yld i H x H'->g x σ H' fun σ2 H2=>tb { D with nx:=N,ct:=N,bk:=D.nx } σ2 H2):=by
 refine ⟨fun i m σ H=>m=xs.length - i/\i<=xs.length/\Pv i σ H,⟨xs.length,by simp,bA _,h0⟩,?_⟩;rintro i m σ H ⟨rfl,hi,p⟩;have q:=hl i σ H hi p;by_cases hlt:i < xs.length
 ·refine .inr ⟨⟨xs,xs[i],q,by simp [hlt]⟩,Pv (i+1),fun σ' H' p'=>⟨xs.length - (i+1),by lia,rfl,hlt,p'⟩,fun x H' y=>?_⟩;obtain ⟨e,y⟩:=y;subst e;exact hs i x σ _ (y xs q) p
 ·have e:i=xs.length:=by lia
  subst e;exact .inl ⟨⟨xs,q,aw _⟩,hd σ H p⟩
theorem NK {K:PySem.W.Frag} {a:Addr} {xs:List V} {g:TG} {tb:TS} {D:Ends} {σ:St} {H:Hp} (Pv:Nat->St->Hp->Prop) (h0:Pv 0 σ H) (hl:∀i σ H,i<=xs.length->Pv i σ H->sv K H a xs)
  (hs:∀i x σ H,xs[i]?=some x->Pv i σ H->g x σ H fun σ2 H2=>tb { D with nx:=Pv (i+1),ct:=Pv (i+1),bk:=D.nx } σ2 H2) (hd:∀σ H,Pv xs.length σ H->D.nx σ H) :
  ∃W:Nat->Nat->St->Hp->Prop,(∃m,W 0 m σ H)/\∀i m σ H,W i m σ H →
   ((Qx K a).stop i H/\D.nx σ H)\/((Qx K a).go i H/\∃N:St->Hp->Prop,(∀σ' H',N σ' H'->∃m',m' < m/\W (i+1) m' σ' H')/\∀x H',(Qx K a).yld i H x H'->g x σ H' fun σ2 H2=>tb { D with nx:=N,ct:=N,bk:=D.nx } σ2 H2):=by
 refine ⟨fun i m σ H=>m=xs.length - i/\i<=xs.length/\Pv i σ H,⟨xs.length,by simp,bA _,h0⟩,?_⟩;rintro i m σ H ⟨rfl,hi,p⟩;have q:=hl i σ H hi p;by_cases hlt:i < xs.length
 ·refine .inr ⟨⟨xs,xs[i],q,by simp [hlt]⟩,Pv (i+1),fun σ' H' p'=>⟨xs.length - (i+1),by lia,rfl,hlt,p'⟩,fun x H' y=>?_⟩;obtain ⟨e,y⟩:=y;subst e;exact hs i x σ _ (y xs q) p
 ·have e:i=xs.length:=by lia
  subst e;exact .inl ⟨⟨xs,q,aw _⟩,hd σ H p⟩
theorem CL {lo:Int} {n:Nat} {g:TG} {tb:TS} {D:Ends} {σ:St} {H:Hp} (Pv:Nat->St->Hp->Prop) (h0:Pv 0 σ H)
  (hs:∀i σ H,i < n->Pv i σ H->g (.int (lo+i)) σ H fun σ2 H2=>tb { D with nx:=Pv (i+1),ct:=Pv (i+1),bk:=D.nx } σ2 H2) (hd:∀σ H,Pv n σ H->D.nx σ H) :
  ∃W:Nat->Nat->St->Hp->Prop,(∃m,W 0 m σ H)/\∀i m σ H,W i m σ H →
   ((Fz lo n).stop i H/\D.nx σ H)\/((Fz lo n).go i H/\∃N:St->Hp->Prop,(∀σ' H',N σ' H'->∃m',m' < m/\W (i+1) m' σ' H')/\∀x H',(Fz lo n).yld i H x H'->g x σ H' fun σ2 H2=>tb { D with nx:=N,ct:=N,bk:=D.nx } σ2 H2):=by
 refine ⟨fun i m σ H=>m=n - i/\i<=n/\Pv i σ H,⟨n,by simp,bA _,h0⟩,?_⟩;rintro i m σ H ⟨rfl,hi,p⟩;by_cases hlt:i < n
 ·refine .inr ⟨hlt,Pv (i+1),fun σ' H' p'=>⟨n - (i+1),by lia,rfl,hlt,p'⟩,fun x H' y=>?_⟩;obtain ⟨e,y⟩:=y;subst e y;exact hs i σ _ hlt p
 ·have e:i=n:=by lia
  subst e;exact .inl ⟨aw _,hd σ H p⟩
abbrev R2:=V->V->Hp->VK->Prop
def Ae (X:Cx) (f:Value->Value->Sem Value) (r:R2):Prop :=
 ∀(pins:List (Addr×Obj)) (s:Shared) (σ:St) (H:Hp) (x y:V) (v u:Value) (Q:VK),Inv X pins σ H s->RelV x v->RelV y u->r x y H Q →
  wpAny (model X.prog X.w) X.A (f v u) (EP X pins σ Q) X.xe s
def SK (X:Cx) (f:Value->Sem Value) (r:V->Hp->VK->Prop):Prop :=
 ∀(pins:List (Addr×Obj)) (s:Shared) (σ:St) (H:Hp) (x:V) (v:Value) (Q:VK),Inv X pins σ H s->RelV x v->r x H Q →
  wpAny (model X.prog X.w) X.A (f v) (EP X pins σ Q) X.xe s
def uq (X:Cx) (f:Value) (r:List V->Hp->VK->Prop):Prop :=
 ∀(pins:List (Addr×Obj)) (s:Shared) (σ:St) (H:Hp) (xs:List V) (us:List Value) (Q:VK),Inv X pins σ H s->cT xs us->r xs H Q →
  wpAny (model X.prog X.w) X.A (call f us) (EP X pins σ Q) X.xe s
def QN (r:R2) (ta tb:TE):TE:=fun σ H Q=>ta σ H fun x H1=>tb σ H1 fun y H2=>r x y H2 Q
def Sd (r:V->Hp->VK->Prop) (ta:TE):TE:=fun σ H Q=>ta σ H fun x H1=>r x H1 Q
def rI (C:Int->Int->Prop) (g:Int->Int->V):R2:=fun x y H Q=>∃i j,x=.int i/\y=.int j/\C i j/\Q (g i j) H
def Nk (g:Int->Int->V):R2:=fun x y H Q=>∃i j,x=.int i/\y=.int j/\Q (g i j) H
def rU (g:Int->V):V->Hp->VK->Prop:=fun x H Q=>∃i,x=.int i/\Q (g i) H
section
variable {X:Cx} {a b c:Expr} {ta tb tc:TE} {pos:Pos}
theorem Qj (ha:PE X a ta) (hb:PE X b tb) {pins:List (Addr×Obj)} {s:Shared} {σ:St} {H:Hp} {R:V->V->Hp->Prop} (I:Inv X pins σ H s)
  (h:ta σ H fun x H1=>tb σ H1 fun y H2=>R x y H2) {Q:Value->Shared->Prop} {f:Value->Value->Sem Value}
  (hf:∀v u s2 x y H2,Inv X pins σ H2 s2->RelV x v->RelV y u->R x y H2->wpAny (model X.prog X.w) X.A (f v u) Q X.xe s2) :
  wpAny (model X.prog X.w) X.A (eval a X.env) (fun v s₁=>wpAny (model X.prog X.w) X.A (eval b X.env) (fun u s₂=>wpAny (model X.prog X.w) X.A (f v u) Q X.xe s₂) X.xe s₁) X.xe s:=by
 refine gF (ha pins s σ H _ I h) fun v s1 ⟨x,H1,I1,r1,q1⟩=>?_
 refine gF (hb pins s1 σ H1 _ I1 q1) fun u s2 ⟨y,H2,I2,r2,q2⟩=>?_
 exact hf v u s2 x y H2 I2 r1 r2 q2
theorem bI {op:Operator} {r:R2} (ho:Ae X (binaryOp op) r) (ha:PE X a ta) (hb:PE X b tb):PE X (.BinOp a op b pos) (QN r ta tb):=by
 intro pins s σ H Q I h;exact wpAny_BinOp (Qj ha hb I h fun v u s2 x y H2 I2 rx ry q=>ho pins s2 σ H2 x y v u Q I2 rx ry q)
theorem xO {op:UnaryOp} {r:V->Hp->VK->Prop} (ho:SK X (unaryOp op) r) (ha:PE X a ta):PE X (.UnaryOp op a pos) (Sd r ta):=by
 intro pins s σ H Q I h;exact UnaryOp_ (gF (ha pins s σ H _ I h) fun v s1 ⟨x,H1,I1,r1,q1⟩=>ho pins s1 σ H1 x v Q I1 r1 q1)
theorem Se {f:Value->Value->Sem Value} {C:Int->Int->Prop} {g:Int->Int->Int}
  (rule:∀(i j:Int) (t u:Tok) (s:Shared) (Q:Value->Shared->Prop) (E:Value->Shared->Prop),C i j->Q (.int (g i j) s.toks) { s with toks:=s.toks+1 }->wpAny (model X.prog X.w) X.A (f (.int i t) (.int j u)) Q E s) :
  Ae X f (rI C fun i j=>.int (g i j)):=by
 intro pins s σ H x y v u Q I rx ry h;obtain ⟨i,j,rfl,rfl,hc,q⟩:=h;obtain ⟨t,rfl⟩:=rx;obtain ⟨t',rfl⟩:=ry;exact rule i j t t' s _ _ hc ⟨.int (g i j),H,I.tok _,⟨_,rfl⟩,q⟩
theorem RA {f:Value->Value->Sem Value} {g:Int->Int->Int}
  (rule:∀(i j:Int) (t u:Tok) (s:Shared) (Q:Value->Shared->Prop) (E:Value->Shared->Prop),Q (.int (g i j) s.toks) { s with toks:=s.toks+1 }->wpAny (model X.prog X.w) X.A (f (.int i t) (.int j u)) Q E s) :
  Ae X f (Nk fun i j=>.int (g i j)):=by
 intro pins s σ H x y v u Q I rx ry h;obtain ⟨i,j,rfl,rfl,q⟩:=h;obtain ⟨t,rfl⟩:=rx;obtain ⟨t',rfl⟩:=ry;exact rule i j t t' s _ _ ⟨.int (g i j),H,I.tok _,⟨_,rfl⟩,q⟩
theorem Ny {f:Value->Value->Sem Value} {g:Int->Int->Bool}
  (rule:∀(i j:Int) (t u:Tok) (s:Shared) (Q:Value->Shared->Prop) (E:Value->Shared->Prop),Q (.bool (g i j)) s->wpAny (model X.prog X.w) X.A (f (.int i t) (.int j u)) Q E s) :
  Ae X f (Nk fun i j=>.bl (g i j)):=by
 intro pins s σ H x y v u Q I rx ry h;obtain ⟨i,j,rfl,rfl,q⟩:=h;obtain ⟨t,rfl⟩:=rx;obtain ⟨t',rfl⟩:=ry;exact rule i j t t' s _ _ ⟨.bl (g i j),H,I,rfl,q⟩
def Qr (i j:Int):Prop:=(-(2^64) < i/\i < 2^64)\/(-(2^64) < j/\j < 2^64)
theorem Qr.ok {i j:Int} (h:Qr i j):IntMulOk i j:=by
 rcases h with ⟨h1,h2⟩ | ⟨h1,h2⟩
 ·exact .of_left (intBits_le_64 h1 h2)
 ·exact .of_right (intBits_le_64 h1 h2)
theorem eY:Ae X (binaryOp .Add) (Nk fun i j=>.int (i+j)):=RA fun _ _ _ _ _ _ _ q=>add_int q
theorem jh:Ae X (binaryOp .Sub) (Nk fun i j=>.int (i - j)):=RA fun _ _ _ _ _ _ _ q=>sub_int q
theorem qX:Ae X (binaryOp .Mod) (rI (fun _ j=>0 < j) fun i j=>.int (i % j)):=Se fun i j _ _ _ _ _ hc q=>by
 have h1:(0:Int) < j:=hc;exact mod_int' (by lia) (by rw[Int.fmod_eq_emod_of_nonneg i (by lia)];exact q)
theorem Nx:Ae X (binaryOp .Mod) (rI (fun _ j=>j≠0) fun i j=>.int (i.fmod j)):=Se fun _ _ _ _ _ _ _ hc q=>mod_int' hc q
theorem unI {f:Value->Sem Value} {g:Int->Int}
  (rule:∀(i:Int) (t:Tok) (s:Shared) (Q:Value->Shared->Prop) (E:Value->Shared->Prop),Q (.int (g i) s.toks) { s with toks:=s.toks+1 }->wpAny (model X.prog X.w) X.A (f (.int i t)) Q E s) :
  SK X f (rU fun i=>.int (g i)):=by
 intro pins s σ H x v Q I rx h;obtain ⟨i,rfl,q⟩:=h;obtain ⟨t,rfl⟩:=rx;exact rule i t s _ _ ⟨.int (g i),H,I.tok _,⟨_,rfl⟩,q⟩
theorem sD:SK X (unaryOp .USub) (rU fun i=>.int (-i)):=unI fun _ _ _ _ _ q=>neg_int q
end
def QZ:V->V->Bool
 | .non,.non=>true | .non,.int _=>true | .int _,.non=>true | .non,.bl _=>true | .bl _,.non=>true | .non,.str _=>true | .str _,.non=>true
 | .int _,.int _=>true | .bl _,.bl _=>true | .str _,.str _=>true | .byt _,.byt _=>true
 | .int _,.str _=>true | .str _,.int _=>true | .bl _,.str _=>true | .str _,.bl _=>true
 | _,_=>false
def SA:R2:=fun x y H Q=>QZ x y=true/\Q (.bl (decide (x=y))) H
def Sx:R2:=fun x y H Q=>QZ x y=true/\Q (.bl (!decide (x=y))) H
theorem Ip {i j:Int}:decide (V.int i=V.int j)=(i == j):=by
 rw[oA];simp
theorem LS {i j:Bool}:decide (V.bl i=V.bl j)=(i == j):=by
 rw[oA];simp
theorem Io {i j:Str}:decide (V.str i=V.str j)=(i == j):=by
 rw[oA];simp
theorem Iq {i j:Array UInt8}:decide (V.byt i=V.byt j)=(i.toList == j.toList):=by
 rw[oA];cases i;cases j;simp
section
variable {X:Cx} {a b c:Expr} {ta tb tc:TE} {pos:Pos}
theorem dE {pins:List (Addr×Obj)} {σ:St} {H:Hp} {s:Shared} {Q:VK} {k k':Bool} (I:Inv X pins σ H s) (q:Q (.bl k) H) (e:k=k'):EP X pins σ Q (.bool k') s:=by
 subst e;exact ⟨.bl k,H,I,rfl,q⟩
theorem eK:Ae X (compareOp .Eq) SA:=by
 intro pins s σ H x y v u Q I rx ry h;obtain ⟨hs,q⟩:=h;cases x with
 | non =>
  cases rx;cases y with
  | non=>cases ry;exact PySem.EqNone.eq_none_none (dE I q (by simp))
  | bl j=>cases ry;exact PySem.EqNone.eq_none_bool (dE I q (by simp))
  | int j=>obtain ⟨t',rfl⟩:=ry;exact PySem.EqNone.eq_none_int (dE I q (by simp))
  | str j=>obtain ⟨t',rfl⟩:=ry;exact PySem.EqNone.eq_none_str (dE I q (by simp))
  | _=>exact absurd (show false=true from hs) bw
 | bl i =>
  cases rx;cases y with
  | non=>cases ry;exact PySem.EqNone.eq_bool_none (dE I q (by simp))
  | bl j=>cases ry;exact eq_bool (dE I q LS)
  | str j=>obtain ⟨t',rfl⟩:=ry;exact PySem.EqMixed.eq_bool_str (dE I q (by simp))
  | _=>exact absurd (show false=true from hs) bw
 | int i =>
  obtain ⟨t,rfl⟩:=rx;cases y with
  | non=>cases ry;exact PySem.EqNone.eq_int_none (dE I q (by simp))
  | int j=>obtain ⟨t',rfl⟩:=ry;exact eq_int (dE I q Ip)
  | str j=>obtain ⟨t',rfl⟩:=ry;exact PySem.EqMixed.eq_int_str (dE I q (by simp))
  | _=>exact absurd (show false=true from hs) bw
 | str i =>
  obtain ⟨t,rfl⟩:=rx;cases y with
  | non=>cases ry;exact PySem.EqNone.eq_str_none (dE I q (by simp))
  | bl j=>cases ry;exact PySem.EqMixed.eq_str_bool (dE I q (by simp))
  | int j=>obtain ⟨t',rfl⟩:=ry;exact PySem.EqMixed.eq_str_int (dE I q (by simp))
  | str j=>obtain ⟨t',rfl⟩:=ry;exact eq_str (dE I q Io)
  | _=>exact absurd (show false=true from hs) bw
 | byt i =>
  obtain ⟨t,rfl⟩:=rx;cases y with
  | byt j=>obtain ⟨t',rfl⟩:=ry;exact PySem.W.eq_bytes (dE I q Iq)
  | _=>exact absurd (show false=true from hs) bw
 | _=>cases y <;> exact absurd (show false=true from hs) bw
theorem xR:Ae X (compareOp .NotEq) Sx:=by
 intro pins s σ H x y v u Q I rx ry h;obtain ⟨hs,q⟩:=h;cases x with
 | non =>
  cases rx;cases y with
  | non=>cases ry;exact PySem.EqNone.ne_none_none (dE I q (by simp))
  | bl j=>cases ry;exact PySem.EqNone.ne_none_bool (dE I q (by simp))
  | int j=>obtain ⟨t',rfl⟩:=ry;exact PySem.EqNone.ne_none_int (dE I q (by simp))
  | str j=>obtain ⟨t',rfl⟩:=ry;exact PySem.EqNone.ne_none_str (dE I q (by simp))
  | _=>exact absurd (show false=true from hs) bw
 | bl i =>
  cases rx;cases y with
  | non=>cases ry;exact PySem.EqNone.ne_bool_none (dE I q (by simp))
  | bl j=>cases ry;exact ne_bool (dE I q (congrArg not LS))
  | str j=>obtain ⟨t',rfl⟩:=ry;exact PySem.EqMixed.ne_bool_str (dE I q (by simp))
  | _=>exact absurd (show false=true from hs) bw
 | int i =>
  obtain ⟨t,rfl⟩:=rx;cases y with
  | non=>cases ry;exact PySem.EqNone.ne_int_none (dE I q (by simp))
  | int j=>obtain ⟨t',rfl⟩:=ry;exact ne_int (dE I q (congrArg not Ip))
  | str j=>obtain ⟨t',rfl⟩:=ry;exact PySem.EqMixed.ne_int_str (dE I q (by simp))
  | _=>exact absurd (show false=true from hs) bw
 | str i =>
  obtain ⟨t,rfl⟩:=rx;cases y with
  | non=>cases ry;exact PySem.EqNone.ne_str_none (dE I q (by simp))
  | bl j=>cases ry;exact PySem.EqMixed.ne_str_bool (dE I q (by simp))
  | int j=>obtain ⟨t',rfl⟩:=ry;exact PySem.EqMixed.ne_str_int (dE I q (by simp))
  | str j=>obtain ⟨t',rfl⟩:=ry;exact ne_str (dE I q (congrArg not Io))
  | _=>exact absurd (show false=true from hs) bw
 | byt i =>
  obtain ⟨t,rfl⟩:=rx;cases y with
  | byt j=>obtain ⟨t',rfl⟩:=ry;exact PySem.W.ne_bytes (dE I q (congrArg not Iq))
  | _=>exact absurd (show false=true from hs) bw
 | _=>cases y <;> exact absurd (show false=true from hs) bw
theorem uL:Ae X (compareOp .Lt) (Nk fun i j=>.bl (decide (i < j))):=Ny fun _ _ _ _ _ _ _ q=>lt_int q
theorem Ry:Ae X (compareOp .LtE) (Nk fun i j=>.bl (decide (i<=j))):=Ny fun _ _ _ _ _ _ _ q=>le_int q
theorem wG:Ae X (compareOp .Gt) (Nk fun i j=>.bl (decide (j < i))):=Ny fun _ _ _ _ _ _ _ q=>gt_int q
theorem Cz:Ae X (compareOp .GtE) (Nk fun i j=>.bl (decide (j<=i))):=Ny fun _ _ _ _ _ _ _ q=>ge_int q
theorem HS:Ae X (compareOp .IsNot) (fun x y H Q=>y=.non/\Q (.bl (!decide (x=.non))) H):=by
 intro pins s σ H x y v u Q I rx ry h;obtain ⟨rfl,q⟩:=h;cases ry;refine isnot_none_gen (dE I q ?_)
 cases x <;> first
  | (cases rx;rfl)
  | (obtain ⟨t,rfl⟩:=rx;rfl)
theorem bK (b:Expr) {op:CmpOp} (h:op≠.In:=by decide) (h2:op≠.NotIn:=by decide):behindInMarks op b=false:=by
 have e1:(op == CmpOp.In)=false:=by cases op <;> first | rfl | exact absurd rfl h
 have e2:(op == CmpOp.NotIn)=false:=by cases op <;> first | rfl | exact absurd rfl h2
 cases b <;> simp [behindInMarks,e1,e2]
theorem h7 {op:CmpOp} {r:R2} (ho:Ae X (compareOp op) r) (ha:PE X a ta) (hb:PE X b tb) (hm:behindInMarks op b=false):PE X (.Compare a [op] [b] pos) (QN r ta tb):=by
 intro pins s σ H Q I h;exact wpAny_Compare1 (Qj ha hb I h fun v u s2 x y H2 I2 rx ry q=>ho pins s2 σ H2 x y v u Q I2 rx ry q) hm
def N5 (t:TE):TT:=fun σ H Q=>t σ H fun x H'=>∃k,x=.bl k/\Q k H'
theorem bE {op:CmpOp} {r:R2} (ho:Ae X (compareOp op) r) (ha:PE X a ta) (hb:PE X b tb) (hm:behindInMarks op b=false):PT X (.Compare a [op] [b] pos) (N5 (QN r ta tb)):=by
 intro pins s σ H Q I h
 refine wpAny_isTrue_Compare1 (gF (ha pins s σ H _ I h) fun v s1 ⟨x,H1,I1,r1,q1⟩=>gF (hb pins s1 σ H1 _ I1 q1) fun u s2 ⟨y,H2,I2,r2,q2⟩ =>
  gF (ho pins s2 σ H2 x y v u _ I2 r1 r2 q2) fun c s3 ⟨z,H3,I3,r3,k,e,q3⟩=>?_) hm
 subst e;cases r3;exact wpAny_truthy_bool ⟨H3,I3,q3⟩
theorem Bo:(sizeLine:Nat) < 2^63:=by rw[sizeLine_eq];decide
theorem vals1 {x:V} {us:List Value} (r:cT [x] us):∃u,us=[u]/\RelV x u:=by
 cases r with
 | cons r1 r2=>cases r2;exact ⟨_,rfl,r1⟩
theorem vals2 {x y:V} {us:List Value} (r:cT [x,y] us):∃u w',us=[u,w']/\RelV x u/\RelV y w':=by
 cases r with
 | cons r1 r2 =>
  cases r2 with
  | cons r3 r4=>cases r4;exact ⟨_,_,rfl,r1,r3⟩
theorem yw:uq X (.builtin "abs") (fun xs H Q=>∃i,xs=[.int i]/\Q (.int (if i < 0 then -i else i)) H):=by
 intro pins s σ H xs us Q I r h;obtain ⟨i,rfl,q⟩:=h;obtain ⟨u,rfl,t,rfl⟩:=vals1 r;exact call_abs_int fun u tk=>⟨.int (if i < 0 then -i else i),H,I.tok _,⟨_,rfl⟩,q⟩
theorem JR (hc:X.calm=true):uq X (.builtin "max") (fun xs H Q=>∃i j,xs=[.int i,.int j]/\Q (.int (if j > i then j else i)) H):=by
 intro pins s σ H xs us Q I r h;obtain ⟨i,j,rfl,q⟩:=h;obtain ⟨u,w',rfl,⟨t,rfl⟩,⟨t',rfl⟩⟩:=vals2 r;refine max_two_ints (I.ok.hd hc) fun h' tk k=>⟨_,H,I.kept k,?_,q⟩
 by_cases hj:j > i
 ·rw[if_pos hj,if_pos hj];exact ⟨_,rfl⟩
 ·rw[if_neg hj,if_neg hj];exact ⟨_,rfl⟩
theorem vX (hc:X.calm=true):uq X (.builtin "min") (fun xs H Q=>∃i j,xs=[.int i,.int j]/\Q (.int (if j < i then j else i)) H):=by
 intro pins s σ H xs us Q I r h;obtain ⟨i,j,rfl,q⟩:=h;obtain ⟨u,w',rfl,⟨t,rfl⟩,⟨t',rfl⟩⟩:=vals2 r;refine min_two_ints (I.ok.hd hc) fun h' tk k=>⟨_,H,I.kept k,?_,q⟩
 by_cases hj:j < i
 ·rw[if_pos hj,if_pos hj];exact ⟨_,rfl⟩
 ·rw[if_neg hj,if_neg hj];exact ⟨_,rfl⟩
end
structure Hs (h:Heap) (x dx C:Addr) (mA:Str->Option Value):Prop where
 obj:h.get? x=some (PySem.W.instObj C dx)
 ns:h.Ns1 dx mA
 ne:dx≠x
theorem JH {h:Heap} {dx:Addr} {mA:Str->Option Value} (n:h.Ns1 dx mA):∃od,h.get? dx=some od/\∀name,PySem.W.lookIn name od=some (mA name):=by
 obtain ⟨o,es,ep,ho,hd,hk,_,hm⟩:=n;refine ⟨o,ho,fun name=>?_⟩;have e:=hm name;unfold nsFind findBy at e;rw[<- Array.find?_toList] at e;unfold PySem.W.lookIn;rw[hd]
 dsimp only
 split
 ·rename_i y q
  rw[q] at e;exact congrArg some e
 ·rename_i q
  rw[q] at e
  have a:es.toList.any (·.refKey)=false:=by
   rw[List.any_eq_false];intro y hy;obtain ⟨z,t,hkey⟩:=hk y (Array.mem_toList_iff.mp hy);simp [DictEntry.refKey,hkey]
  have a':¬es.toList.any (·.refKey)=true:=by rw[a];exact bw
  rw[if_neg a'];exact congrArg some e
theorem Hs.look {h:Heap} {x dx C:Addr} {mA:Str->Option Value} (I:Hs h x dx C mA):∃od,PySem.W.InstAt h x (PySem.W.instObj C dx) C (some od)/\∀name,PySem.W.lookIn name od=some (mA name) :=
 let ⟨od,ho,hl⟩:=JH I.ns
 ⟨od,⟨I.obj,rfl,rfl,ho⟩,hl⟩
section
variable {prog:Program} {w:World} {A:Around} {E:Value->Shared->Prop} {s:Shared} {K:PySem.W.Frag} {x dx C f:Addr} {mA:Str->Option Value} {name:Str} {v:Value}
theorem get_map {expr:Bool} {Q:Value->Shared->Prop} (X:K.In s.heap) (I:Hs s.heap x dx C mA) (hg:PySem.W.plainGet K C name=true) (hh:PySem.W.hasDictIn K C=true)
  (ha:PySem.W.findIn K (.ref C) name=some none) (hv:mA name=some v) (hv':PySem.W.handedIn v=true) (h:Q v { s with toks:=s.toks+1 }) :
  wpAny (model prog w) A (getAttr (.ref x) name expr) Q E s:=by
 obtain ⟨od,J,hl⟩:=I.look;exact PySem.W.get_value X J (Et hg).1 (PySem.W.findObj_own hh ha rfl (by rw[hl,hv])) hv' h
theorem LA {pl:Sem Bool} {Q:Value×List Value->Shared->Prop} (X:K.In s.heap) (I:Hs s.heap x dx C mA) (hg:PySem.W.plainGet K C name=true)
  (hf:PySem.W.findIn K (.ref C) name=some (some (.ref f))) (ht:PySem.W.isFn K (.ref f)=true) (hv:mA name=none) (h:Q (.ref f,[.ref x]) s) :
  wpAny (model prog w) A (getMethod (.ref x) name pl) Q E s:=by
 obtain ⟨od,J,hl⟩:=I.look;exact PySem.W.method_fn X J (Et hg).1 (Et hg).2 hf (beq_iff_eq.mp ht) (by show (PySem.W.lookIn name od).map (·.isSome)=some false;rw[hl,hv];rfl) h
theorem MH {ns:List Str} {Q:Unit->Shared->Prop} (X:K.In s.heap) (I:Hs s.heap x dx C mA)
  (hs:PySem.W.findIn K (.ref C) "__setattr__"=some (some (.builtin "object.__setattr__"))) (hp:PySem.W.plainOver K C=true) (ht:PySem.W.takerIn K C name=some none) (hh:PySem.W.hasDictIn K C=true)
  (hw:PySem.Within mA ns) (hsz:ns.length<=sizeLine)
  (h:∀h',Hs h' x dx C (fun y=>if y=name then some v else mA y)->Heap.SameBut dx s.heap h'->Q () { s with heap:=h',toks:=s.toks+2 }) :
  wpAny (model prog w) A (setAttr (.ref x) name v) Q E s:=by
 obtain ⟨od,J,hl⟩:=I.look;refine PySem.W.set_plain X J hs (PySem.W.osa_open (s:={ s with toks:=s.toks+1 }) (r:=none) X J hp ht fun b=>?_);obtain ⟨cd,hc,hd'⟩:=PySem.W.any_some hh;have hx:s.heap.get? x=some ⟨.ref C,some dx,.plain,#[]⟩:=I.obj;refine wpAny_bind (wpAny_pure (wpAny_bind (wpAny_bind (wpAny_loadPart hx (wpAny_bind (PySem.W.Looks.here (s:={ s with toks:=s.toks+1 }) (PySem.W.looks_clsIn X hc) ?_))))));rw[hd'];refine wpAny_pure (a:=some dx) (wpAny_bind (wpAny_pure (wpAny_bind ?_)));refine wpAny_nsSet1 (s:={ s with toks:=s.toks+1 }) I.ns fun h' hn2 hs2=>?_
 obtain ⟨oD,esD,epD,hoD,hdD,hcD⟩:=hn2.count (PySem.Within.cons name v hw);refine wpAny_bind (wpAny_lookBehind hoD (by rw[hdD];exact pastItsLine_dict (ai hcD (by rw[aZ];lia))) ?_);exact wpAny_pure (h _ ⟨(hs2.2 _ (Ne.symm I.ne)).trans I.obj,hn2,I.ne⟩ hs2)
theorem Lh {R:Result->Shared->Prop} {vs:List Value} {kw:List (Str×Value)} (X:K.In s.heap) (hm:PySem.W.makesIn K C=true)
  (hi:PySem.W.findIn K (.ref C) "__init__"=some (some (.ref f))) (hf:PySem.W.typeIn K (.ref f)=some (.type "function"))
  (h:codeAny (model prog w) (A.under (.builtin "type.__call__" ⟨.ref C :: vs,kw⟩)) (.call (.ref f) ⟨.ref (s.heap.objs.size+1) :: vs,kw⟩) (PySem.W.InitBack (s.heap.objs.size+1) R)
   { s with heap:=(s.heap.push PySem.W.emptyDict).push (PySem.W.instObj C s.heap.objs.size) }) :
  codeAny (model prog w) A (.call (.ref C) ⟨vs,kw⟩) R s:=by
 obtain ⟨hh,g,d,t,os⟩:=s;exact PySem.W.make_core (PySem.W.makes_of X hm) (PySem.W.looks_findIn X hi) (fun self=>PySem.W.bind_fn X self hf) (.inl rfl) h
end
def cA (f:Str) (v:V):List (Str×V)->List (Str×V)
 | []=>[(f,v)]
 | (g,x) :: r=>if g=f then (g,v) :: r else (g,x) :: cA f v r
theorem bO (f g:Str) (v:V):∀fs:List (Str×V),(cA f v fs).lookup g=if g=f then some v else fs.lookup g
 | []=>by
  show List.lookup g [(f,v)]=_
  by_cases h:g=f
  ·have hb:(g == f)=true:=beq_iff_eq.mpr h;simp only[List.lookup,hb,if_pos h]
  ·have hb:(g == f)=false:=beq_eq_false_iff_ne.mpr h;simp only[List.lookup,hb,if_neg h]
 | (k,x) :: r=>by
  have ih:=bO f g v r;rw[show cA f v ((k,x) :: r)=(if k=f then (k,v) :: r else (k,x) :: cA f v r) from rfl];by_cases hk:k=f
  ·rw[if_pos hk];by_cases h:g=k
   ·have hb:(g == k)=true:=beq_iff_eq.mpr h;simp only[List.lookup,hb,if_pos (h.trans hk)]
   ·have hb:(g == k)=false:=beq_eq_false_iff_ne.mpr h;simp only[List.lookup,hb,if_neg (fun e:g=f=>h (e.trans hk.symm))]
  ·rw[if_neg hk];by_cases h:g=k
   ·have hb:(g == k)=true:=beq_iff_eq.mpr h;simp only[List.lookup,hb,if_neg (fun e:g=f=>hk (h.symm.trans e))]
   ·have hb:(g == k)=false:=beq_eq_false_iff_ne.mpr h;simp only[List.lookup,hb];exact ih
theorem za (f:Str) (v:V):∀fs:List (Str×V),f∈(cA f v fs).map (·.1)/\∀g,g∈fs.map (·.1)->g∈(cA f v fs).map (·.1)
 | []=>⟨by simp [cA],fun g h=>by simp at h⟩
 | (k,x) :: r=>by
  obtain ⟨i1,i2⟩:=za f v r;rw[show cA f v ((k,x) :: r)=(if k=f then (k,v) :: r else (k,x) :: cA f v r) from rfl];by_cases hk:k=f
  ·rw[if_pos hk];subst hk;exact ⟨by simp,fun g h=>by simpa using h⟩
  ·rw[if_neg hk];refine ⟨?_,fun g h=>?_⟩
   ·rw[fV];exact cb _ i1
   ·rw[fV] at h ⊢;rcases aF.mp h with e | e
    ·exact aF.mpr (.inl e)
    ·exact cb _ (i2 g e)
theorem zD (f:Str) (v:V):∀fs:List (Str×V),(cA f v fs).length<=fs.length+1
 | []=>by simp [cA]
 | (k,x) :: r=>by
  have ih:=zD f v r;rw[show cA f v ((k,x) :: r)=(if k=f then (k,v) :: r else (k,x) :: cA f v r) from rfl];by_cases hk:k=f
  ·rw[if_pos hk,aZ,aZ];lia
  ·rw[if_neg hk,aZ,aZ];lia
theorem Ci.some_of {v:V} {o:Option Value} (r:Ci (some v) o):∃u,o=some u/\RelV v u:=by
 cases o with
 | none=>exact (show False from r).elim
 | some u=>exact ⟨u,rfl,r⟩
theorem Ci.none_of {o:Option Value} (r:Ci none o):o=none:=by
 cases o with
 | none=>rfl
 | some u=>exact (show False from r).elim
theorem JN {v:V} {u:Value} (r:RelV v u):PySem.W.handedIn u=true:=by
 cases v with
 | non=>cases (show u=Value.none from r);rfl
 | bl b=>cases (show u=Value.bool b from r);rfl
 | int i=>obtain ⟨t,e⟩:=(show ∃t,u=Value.int i t from r);cases e;rfl
 | str x=>obtain ⟨t,e⟩:=(show ∃t,u=Value.str x t from r);cases e;rfl
 | byt b=>obtain ⟨t,e⟩:=(show ∃t,u=Value.bytes b t from r);cases e;rfl
 | flt b=>obtain ⟨t,e⟩:=(show ∃t,u=Value.float b t from r);cases e;rfl
 | ref a=>cases (show u=Value.ref a from r);rfl
 | ty n=>cases (show u=Value.type n from r);rfl
section
variable {P:Program} {w:World} {H H':Hp} {h h':Heap} {a C dx:Addr} {fs fs':List (Str×V)}
theorem Am (hok:Ax P w H h) (e:H a=some (.ins C dx fs)):∃mA,Hs h a dx C mA/\(∀f,Ci (fs.lookup f) (mA f))/\PySem.Within mA (fs.map (·.1))/\fs.length<=1000/\H dx=some (.own a):=by
 obtain ⟨d,z,ne,ob,mA,n,r,q⟩:=(show j3 P w H h a (.ins C dx fs) from hok a _ e);exact ⟨mA,⟨ob,n,ne⟩,r,q,z,d⟩
end
structure JZ (K:PySem.W.Frag) (C:Addr):Prop where
 pg:PySem.W.plainGet K C Str.empty=true
 hd:PySem.W.hasDictIn K C=true
 po:PySem.W.plainOver K C=true
 sa:PySem.W.findIn K (.ref C) "__setattr__"=some (some (.builtin "object.__setattr__"))
theorem JZ.get {K:PySem.W.Frag} {C:Addr} (c:JZ K C) (f:Str):PySem.W.plainGet K C f=true:=c.pg
def kG (K:PySem.W.Frag) (C:Addr) (f:Str):Prop:=PySem.W.findIn K (.ref C) f=some none
theorem kG.taker {K:PySem.W.Frag} {C:Addr} {f:Str} (n:kG K C f):PySem.W.takerIn K C f=some none:=by
 unfold PySem.W.takerIn;rw[show PySem.W.findIn K (.ref C) f=some none from n];rfl
structure Qo (K:PySem.W.Frag) (C:Addr) (m:Str) (f:Addr):Prop where
 at_:PySem.W.findIn K (.ref C) m=some (some (.ref f))
 fn:PySem.W.isFn K (.ref f)=true
 kp:PySem.W.keepIn K (.ref f)=true
section
variable {X:Cx} {pins:List (Addr×Obj)} {σ:St} {H:Hp} {s:Shared} {a C dx:Addr} {fs:List (Str×V)} {f:Str} {v:V} {A:Around} {E:Value->Shared->Prop}
theorem GK {b:Bool} {Q:Value->Shared->Prop} (I:Inv X pins σ H s) (e:H a=some (.ins C dx fs)) (c:JZ X.K C) (n:kG X.K C f) (l:fs.lookup f=some v)
  (h:∀u s',Inv X pins σ H s'->RelV v u->Q u s'):wpAny (model X.prog X.w) A (getAttr (.ref a) f b) Q E s:=by
 obtain ⟨mA,O,r,_,_,_⟩:=Am I.hok e;obtain ⟨u,hu,ru⟩:=Ci.some_of (v:=v) (o:=mA f) (by rw[<- l];exact r f);exact get_map I.kIn O (c.get f) c.hd n hu (JN ru) (h u _ (I.tok _) ru)
theorem GI {m:Str} {g:Addr} {pl:Sem Bool} {Q:Value×List Value->Shared->Prop} (I:Inv X pins σ H s) (e:H a=some (.ins C dx fs)) (c:JZ X.K C) (k:Qo X.K C m g) (l:fs.lookup m=none)
  (h:Q (.ref g,[.ref a]) s):wpAny (model X.prog X.w) A (getMethod (.ref a) m pl) Q E s:=by
 obtain ⟨mA,O,r,_,_,_⟩:=Am I.hok e;have hn:mA m=none:=Ci.none_of (by rw[<- l];exact r m);exact LA I.kIn O (c.get m) k.at_ k.fn hn h
theorem FR {y:V} {u:Value} {Q:Unit->Shared->Prop} (I:Inv X pins σ H s) (e:H a=some (.ins C dx fs)) (c:JZ X.K C) (n:kG X.K C f) (hl:fs.length < 1000) (ry:RelV y u)
  (h:∀s',Inv X pins σ (upd H a (.ins C dx (cA f y fs))) s'->Q () s'):wpAny (model X.prog X.w) A (setAttr (.ref a) f u) Q E s:=by
 obtain ⟨mA,O,r,wi,_,ho⟩:=Am I.hok e;have hz:(fs.map (·.1)).length<=sizeLine:=by rw[aj,sizeLine_eq];lia
 refine MH I.kIn O c.sa c.po n.taker c.hd wi hz fun h' O' sb=>h _ ?_
 have hd:∃o,h'.get? dx=some o:=let ⟨o,_,_,e',_⟩:=O'.ns;⟨o,e'⟩
 refine I.write (x:=a) (e:=dx) (by rw[e];exact True.intro) (.inr ho) (fun b q hb z=>(sb.2 b hb).trans z) hd ?_;refine ⟨by rw[bJ O.ne];exact ho,?_,O.ne,O'.obj,_,O'.ns,fun g=>?_,fun g hg=>?_⟩
 ·have:=zD f y fs;lia
 ·show Ci ((cA f y fs).lookup g) (if g=f then some u else mA g)
  rw[bO];by_cases q:g=f
  ·rw[if_pos q,if_pos q];exact ry
  ·rw[if_neg q,if_neg q];exact r g
 ·by_cases q:g=f
  ·rw[q];exact (za f y fs).1
  ·refine (za f y fs).2 g (wi g fun z=>hg ?_);show (if g=f then some u else mA g)=none
   rw[if_neg q];exact z
theorem Inv.made (I:Inv X pins σ H s):Inv X pins σ (upd (upd H s.heap.objs.size (.own (s.heap.objs.size+1))) (s.heap.objs.size+1) (.ins C s.heap.objs.size []))
  { s with heap:=(s.heap.push PySem.W.emptyDict).push (PySem.W.instObj C s.heap.objs.size) }:=by
 have e1:(s.heap.push PySem.W.emptyDict).get? s.heap.objs.size=some PySem.W.emptyDict:=Heap.get?_push_size s.heap rfl
 have e2:((s.heap.push PySem.W.emptyDict).push (PySem.W.instObj C s.heap.objs.size)).get? (s.heap.objs.size+1)=some (PySem.W.instObj C s.heap.objs.size):=by
  have:=Heap.get?_push_size (s.heap.push PySem.W.emptyDict) (o:=PySem.W.instObj C s.heap.objs.size) rfl;rwa [Heap.size_push] at this
 have e3:(s.heap.push PySem.W.emptyDict).Ns s.heap.objs.size (fun _=>none):=⟨PySem.W.emptyDict,#[],_,e1,rfl,(fun e he=>absurd he (by simp)),fun _=>rfl⟩;have I1:=I.laid (a:=s.heap.objs.size) (o:=.own (s.heap.objs.size+1)) (h':=s.heap.push PySem.W.emptyDict) (t':=s.toks) (fun b u q=>Heap.get?_push_of_some _ q) (aw _) ⟨_,e1⟩;refine I1.laid (a:=s.heap.objs.size+1) (o:=.ins C s.heap.objs.size []) (t':=s.toks) (fun b u q=>Heap.get?_push_of_some _ q) (Nat.le_of_eq (Heap.size_push _ _)) ?_;have ne:s.heap.objs.size≠s.heap.objs.size+1:=cm (jg _);refine ⟨by rw[bJ ne,aK],bA _,ne,e2,fun _=>none,(Heap.Ns1.of_empty e3).at fun o q=>Heap.get?_push_of_some _ q,fun _=>True.intro,fun y hy=>absurd rfl hy⟩
theorem NW {prog:Program} {w:World} {env:Env} {e:Expr} {f:Str} {pos:Pos} {s:Shared} {Q:Value->Shared->Prop} (hb:attributeBase e f env (eval e env)=eval e env)
  (h:wpAny (model prog w) A (eval e env) (fun o s₁=>wpAny (model prog w) A (getAttr o f true) Q E s₁) E s):wpAny (model prog w) A (eval (.Attribute e f pos) env) Q E s :=
 Attribute_any_ h (by rw[arm_eval_Attribute,hb])
end
def OR (K:PySem.W.Frag) (ta:TE) (f:Str):TE:=fun σ H Q=>ta σ H fun x H1=>∃a C dx fs v,x=.ref a/\H1 a=some (.ins C dx fs)/\JZ K C/\kG K C f/\fs.lookup f=some v/\Q v H1
def Q0 (K:PySem.W.Frag) (ta tv:TE) (f:Str):TS:=fun D σ H=>tv σ H fun y H1=>ta σ H1 fun x H2=>∃a C dx fs,x=.ref a/\H2 a=some (.ins C dx fs)/\JZ K C/\kG K C f/\fs.length < 1000 /\
 D.nx σ (upd H2 a (.ins C dx (cA f y fs)))
section
variable {X:Cx} {o e value:Expr} {f:Str} {pos pos' tpos:Pos} {ta tv:TE}
theorem jE (he:PE X e ta) (hb:attributeBase e f X.env (eval e X.env)=eval e X.env):PE X (.Attribute e f pos) (OR X.K ta f):=by
 intro pins s σ H Q I h;refine NW hb (gF (he pins s σ H _ I h) fun u s1 ⟨x,H1,I1,rx,a,C,dx,fs,v,ex,ea,c,n,l,q⟩=>?_);subst ex;obtain rfl:u=Value.ref a:=rx;exact GK I1 ea c n l fun u' s2 I2 ru=>⟨v,H1,I2,ru,q⟩
theorem yX (ha:PE X o ta) (hv:PE X value tv) (hs:swapsWith value (some (.Attribute o f pos')) pos.line X.env=pure false):PS X (.Assign [.Attribute o f pos'] value pos) (Q0 X.K ta tv f):=by
 intro pins s σ H D I h;refine plainObj_wpAny_Assign_Attribute (gF (hv pins s σ H _ I h) fun u s1 ⟨y,H1,I1,ry,q⟩=>gF (ha pins s1 σ H1 _ I1 q) fun ov s2 ⟨x,H2,I2,rx,a,C,dx,fs,ex,ea,c,n,l,q2⟩=>?_) hs;subst ex;obtain rfl:ov=Value.ref a:=rx;exact FR I2 ea c n l ry fun s3 I3=>⟨σ,_,I3,q2⟩
end
section
variable {X:Cx} {pins:List (Addr×Obj)} {σ:St} {H:Hp} {s:Shared} {A:Around} {E:Value->Shared->Prop} {Q:Value->Shared->Prop} {c:Value} {b:Bool}
inductive zj (K:PySem.W.Frag) (H:Hp):V->Value->Prop where
 | non:zj K H .non (.type "NoneType")
 | bl (x:Bool):zj K H (.bl x) (.type "bool")
 | int (i:Int):zj K H (.int i) (.type "int")
 | str (x:Str):zj K H (.str x) (.type "str")
 | flt (x:UInt64):zj K H (.flt x) (.type "float")
 | lst {a:Addr} {xs:List V} (e:H a=some (.lst xs)):zj K H (.ref a) (.type "list")
 | frz {a:Addr} {o:Obj} {xs:List V} (e:H a=some (.frz o (.lst xs))):zj K H (.ref a) (.type "list")
 | tup {a:Addr} {xs:List V} (e:H a=some (.tup xs)):zj K H (.ref a) (.type "tuple")
 | dK {a:Addr} {kvs:List (Key×V)} (e:H a=some (.dK kvs)):zj K H (.ref a) (.type "dict")
 | dT {a:Addr} {kvs:List (List Key×V)} (e:H a=some (.dT kvs)):zj K H (.ref a) (.type "dict")
 | ins {a C dx:Addr} {fs:List (Str×V)} (e:H a=some (.ins C dx fs)) (cl:JZ K C) (ha:PySem.W.findIn K (.ref C) "__class__"=some (some (.builtin "object.__class__")))
   (hn:PySem.W.specialIn K (.builtin "object.__class__") "__get__"=some (some (.builtin "getset_descriptor.__get__"))) (htk:PySem.W.takesIn K (.builtin "object.__class__")=some true)
   (hm:PySem.W.mroIn K C (.type "object")=some true):zj K H (.ref a) (.ref C)
theorem CK {x:V} {u t:Value} (I:Inv X pins σ H s) (rx:RelV x u) (ty:zj X.K H x t) (e:PySem.W.kitOne X.K t c=some b) (h:∀tk,Q (.bool b) { s with toks:=tk }) :
  wpAny (model X.prog X.w) A (call (.builtin "isinstance") [u,c]) Q E s:=by
 cases ty with
 | non=>cases (show u=Value.none from rx);exact dG PySem.W.kitx_none I.kIn True.intro e (fun z=>nomatch z) h
 | bl y=>cases (show u=Value.bool y from rx);exact dG PySem.W.kitx_bool I.kIn True.intro e (fun z=>nomatch z) h
 | int i=>obtain ⟨t,q⟩:=(show ∃t,u=Value.int i t from rx);cases q;exact dG PySem.W.kitx_int I.kIn True.intro e (fun z=>nomatch z) h
 | str y=>obtain ⟨t,q⟩:=(show ∃t,u=Value.str y t from rx);cases q;exact dG PySem.W.kitx_str I.kIn True.intro e (fun z=>nomatch z) h
 | flt y=>obtain ⟨t,q⟩:=(show ∃t,u=Value.float y t from rx);cases q;exact dG PySem.W.kitx_float I.kIn True.intro e (fun z=>nomatch z) h
 | @lst a xs ea =>
  cases (show u=Value.ref a from rx);obtain ⟨_,_,n,_,h1⟩:=(show j3 X.prog X.w H s.heap a (.lst xs) from I.hok a _ ea);exact dG PySem.W.kitx_list I.kIn ⟨_,h1,rfl⟩ e (fun z=>nomatch z) h
 | @frz a ob xs ea =>
  cases (show u=Value.ref a from rx);obtain ⟨_,_,_,n,_,h1⟩:=(show j3 X.prog X.w H s.heap a (.frz ob (.lst xs)) from I.hok a _ ea);exact dG PySem.W.kitx_list I.kIn ⟨_,h1,rfl⟩ e (fun z=>nomatch z) h
 | @tup a xs ea =>
  cases (show u=Value.ref a from rx);obtain ⟨_,_,_,p⟩:=(show j3 X.prog X.w H s.heap a (.tup xs) from I.hok a _ ea);obtain ⟨o,h1,h2,_⟩:=p;exact dG PySem.W.kitx_tuple I.kIn ⟨o,h1,h2⟩ e (fun z=>nomatch z) h
 | @dK a kvs ea =>
  cases (show u=Value.ref a from rx);obtain ⟨_,_,vs,_,p⟩:=(show j3 X.prog X.w H s.heap a (.dK kvs) from I.hok a _ ea);obtain ⟨o,es,ep,h1,h2,_⟩:=p;exact dG PySem.W.kitx_dict I.kIn ⟨o,h1,h2.1⟩ e (fun z=>nomatch z) h
 | @dT a kvs ea =>
  cases (show u=Value.ref a from rx);obtain ⟨_,_,xs,_,o,es,ep,h1,h2,_⟩:=(show j3 X.prog X.w H s.heap a (.dT kvs) from I.hok a _ ea);exact dG PySem.W.kitx_dict I.kIn ⟨o,h1,h2.1⟩ e (fun z=>nomatch z) h
 | @ins a C dx fs ea cl ha hn htk hm =>
  cases (show u=Value.ref a from rx);obtain ⟨mA,O,_⟩:=Am I.hok ea;obtain ⟨od,J,_⟩:=O.look;exact dG (PySem.W.kitx_own (cl.get _) cl.hd ha hn htk hm) I.kIn J e (fun z=>nomatch z) h
end
structure m9 (k:Nat) (A:Around):Prop where
 hd:A.handled=none
 dp:A.depth+3*k+5 < recursionLimit
 un:A.units+16*k+200 < cLine
theorem m9.mono {j k:Nat} {A:Around} (r:m9 k A) (h:j<=k):m9 j A:=⟨r.hd,by have:=r.dp;lia,by have:=r.un;lia⟩
theorem m9.deeper {k:Nat} {A:Around} (r:m9 (k+1) A) (env:Env):m9 k (A.deeper env) :=
 ⟨r.hd,by have:=r.dp;show A.depth+1+3*k+5 < _;lia,by have:=r.un;show A.units+3+16*k+200 < _;lia⟩
theorem GC {A:Around} {C:Addr} {us:List Value} {kw:List (Str×Value)}:(A.under (.builtin "type.__call__" ⟨.ref C :: us,kw⟩)).depth=A.depth+1:=by
 first | rfl | simp [Around.under,Code.weight,Code.isCreation,Code.isGuard,Code.isCaller,Code.frames,Code.isFrame,guardIds]
theorem GB {A:Around} {C:Addr} {us:List Value} {kw:List (Str×Value)}:(A.under (.builtin "type.__call__" ⟨.ref C :: us,kw⟩)).units=A.units+1:=by
 first | rfl | simp [Around.under,Code.cUnits,Code.frames,Code.isFrame]
theorem m9.make {k:Nat} {A:Around} (r:m9 (k+1) A) (C:Addr) (us:List Value) (kw:List (Str×Value)):m9 k (A.under (.builtin "type.__call__" ⟨.ref C :: us,kw⟩)) :=
 ⟨r.hd,by have:=r.dp;rw[GC];lia,by have:=r.un;rw[GB];lia⟩
theorem m9.depth {k:Nat} {A:Around} (r:m9 k A):A.depth < recursionLimit:=by have:=r.dp;lia
theorem m9.units {k:Nat} {A:Around} (r:m9 k A):A.units+64 < cLine:=by have:=r.un;lia
def IL:TA:=fun _ H Q=>Q [] H
def uz (ta:TE) (tr:TA):TA:=fun σ H Q=>ta σ H fun x H1=>tr σ H1 fun xs H2=>Q (x :: xs) H2
section
variable {X:Cx} {e:Expr} {es:List Expr} {te:TE} {t:TA} {pos:Pos}
theorem ag:PA X [] IL:=fun _ _ _ _ H Q I h=>Calls.spliced_nil ⟨[],H,I,.nil,h⟩
theorem ae (ha:PE X e te) (hr:PA X es t) (hs:starEach (e :: es) X.env=(false,eval e X.env) :: starEach es X.env:=by rfl):PA X (e :: es) (uz te t):=by
 intro pos pins s σ H Q I h;rw[hs];show wpAny _ _ (spliced ((false,eval e X.env) :: backTo pos (starEach es X.env))) _ _ s
 refine Calls.spliced_cons (gF (ha pins s σ H _ I h) fun u s1 ⟨x,H1,I1,r1,q1⟩=>?_);exact gF (hr pos pins s1 σ H1 _ I1 q1) fun us s2 ⟨xs,H2,I2,r2,q2⟩=>⟨x :: xs,H2,I2,.cons r1 r2,q2⟩
def QI (t:TA):TE:=fun σ H Q=>t σ H fun xs H1=>xs.length<=sizeLine/\∀p,H1 p=none->Q (.ref p) (upd H1 p (.tup xs))
def QQ (t:TA):TE:=fun σ H Q=>t σ H fun xs H1=>xs.length<=sizeLine/\∀p,H1 p=none->Q (.ref p) (upd H1 p (.lst xs))
theorem cW {x1} (h:PA X es t):PE X (.Tuple es x1 pos) (QI t):=by
 intro pins s σ H Q I hq;refine wpAny_Tuple_spliced (gF (h pos pins s σ H _ I hq) fun us s1 ⟨xs,H1,I1,r,z,q⟩=>⟨by rw[<- r.length];exact z,?_⟩);have hf:H1 s1.heap.objs.size=none:=I1.hok.fresh (aw _);refine ⟨.ref s1.heap.objs.size,upd H1 s1.heap.objs.size (.tup xs),I1.laid (t':=s1.toks) (fun b u e=>Heap.get?_push_of_some _ e) (aw _) ?_,rfl,q _ hf⟩;exact ⟨z,us,r,⟨_,Heap.get?_push_size _ rfl,rfl,_,rfl⟩⟩
theorem dr (h:PA X es t):PE X (.List es pos) (QQ t):=by
 intro pins s σ H Q I hq;refine wpAny_List_spliced (gF (h pos pins s σ H _ I hq) fun us s1 ⟨xs,H1,I1,r,z,q⟩=>⟨by rw[<- r.length];exact z,?_⟩);have hf:H1 s1.heap.objs.size=none:=I1.hok.fresh (aw _);refine ⟨.ref s1.heap.objs.size,upd H1 s1.heap.objs.size (.lst xs),I1.laid (t':=s1.toks) (fun b u e=>Heap.get?_push_of_some _ e) (aw _) ?_,rfl,q _ hf⟩;exact ⟨z,us,0,r,Heap.get?_push_size _ rfl⟩
end
abbrev Sp:=List V->Hp->VK->XK->Prop
abbrev Mf:=List Env->Hp->Shared->XK->Value->Shared->Prop
structure Hv (P:Program) (w:World) (K:PySem.W.Frag) (mg:Str->Option Value) (base:Heap) (A:Around) (outer:List Env) (s:Shared) (H:Hp):Prop where
 frames:A.frames=some outer
 mod:Mod K mg base
 bs:∀b o,base.get? b=some o->s.heap.get? b=some o/\H b=none
 bsz:base.objs.size<=s.heap.objs.size
 funs:s.heap.FunFrames base outer
 frf:∀b∈JX outer,H b=none
 hok:Ax P w H s.heap
 bare:AllBare s.gens
def CE (outer:List Env) (P:Program) (w:World) (H:Hp) (s:Shared) (Q:VK) (u:Value) (s':Shared):Prop :=
 ∃v H',s'.os=s.os/\AllBare s'.gens/\Un (JX outer) [] H H' s.heap s'.heap/\Ax P w H' s'.heap/\RelV v u/\Q v H'
def CR (CX:Mf) (outer:List Env) (P:Program) (w:World) (H:Hp) (s:Shared) (Q:VK) (E:XK) (r:Result) (s':Shared):Prop :=
 match r with
 | .ok (.ret u)=>CE outer P w H s Q u s'
 | .ok _=>False
 | .error e=>CX outer H s E e s'
structure cU (P:Program) (w:World) (K:PySem.W.Frag) (mg:Str->Option Value) (base:Heap) (CX:Mf) (k:Nat) (f:Addr) (fd:FuncData) (ps:List Str) (sp:Sp):Prop where
 len:∀vs H Q E,sp vs H Q E->vs.length=ps.length
 run:∀(A:Around) (outer:List Env) (s:Shared) (H:Hp) (args:Args) (us:List Value) (vs:List V) (Q:VK) (E:XK),m9 k A->Hv P w K mg base A outer s H->BindsTo s fd args (ps.zip us)->cT vs us->sp vs H Q E →
  codeAny (model P w) A (.call (.ref f) args) (CR CX outer P w H s Q E) s
theorem Hv.make {P:Program} {w:World} {K:PySem.W.Frag} {mg:Str->Option Value} {base:Heap} {A:Around} {outer:List Env} {s:Shared} {H:Hp} (e:Hv P w K mg base A outer s H) (C:Addr) (us:List Value) (kw:List (Str×Value)) :
  Hv P w K mg base (A.under (.builtin "type.__call__" ⟨.ref C :: us,kw⟩)) outer s H:=⟨by first | exact e.frames | (simpa [Around.under,Code.envs,Code.isFrame,pushEnvs] using e.frames),e.mod,e.bs,e.bsz,e.funs,e.frf,e.hok,e.bare⟩
section
variable {X:Cx} {pins:List (Addr×Obj)} {σ:St} {H:Hp} {s s':Shared}
theorem Inv.env0 (I:Inv X pins σ H s):Hv X.prog X.w X.K X.mg X.base X.A X.stack s H :=
 ⟨I.ok.frames,I.ok.mod,I.bs,ai I.ok.bsz I.sz,I.stack,I.stkFree,I.hok,I.bare⟩
theorem Inv.after {Q:VK} {u:Value} (I:Inv X pins σ H s) (h:CE X.stack X.prog X.w H s Q u s'):EP X pins σ Q u s':=by
 obtain ⟨v,H',os,bare,un,hok,r,q⟩:=h;obtain ⟨hh,g,d,t,os'⟩:=s';obtain rfl:os'=s.os:=os;exact ⟨v,H',I.call (h':=hh) (g':=g) (d':=d) (t':=t) (ch:=[]) un hok bare (fun b z=>absurd z (by simp)),r,q⟩
end
def Kg (sp:Sp) (dvs:List V) (E:XK) (t:TA):TE:=fun σ H Q=>t σ H fun vs H1=>sp (vs++dvs) H1 Q E
def N9 (C:Addr) (m:Str) (sp:Sp) (dvs:List V) (E:XK) (ta:TE) (t:TA):TE:=fun σ H Q=>ta σ H fun x H1=>∃a dx fs,x=.ref a/\H1 a=some (.ins C dx fs)/\fs.lookup m=none /\
 t σ H1 fun vs H2=>sp (x :: (vs++dvs)) H2 Q E
def Oa (C:Addr) (sp:Sp) (dvs:List V) (E:XK) (t:TA):TE:=fun σ H Q=>t σ H fun vs H1=>∀x dx,H1 x=none->H1 dx=none->dx≠x →
 sp (.ref x :: (vs++dvs)) (upd (upd H1 dx (.own x)) x (.ins C dx [])) (fun v H2=>v=.non/\Q (.ref x) H2) E
def Binds (K:PySem.W.Frag) (fd:FuncData) (ps:List Str) (ds:List Value):Prop :=
 ∀(s:Shared) (us:List Value),K.In s.heap->(us++ds).length=ps.length->BindsTo s fd ⟨us,[]⟩ (ps.zip (us++ds))
theorem Binds.all {K:PySem.W.Frag} {fd:FuncData} {ps:List Str} (h:∀us:List Value,us.length=ps.length->bindArgs fd ⟨us,[]⟩=pure (ps.zip us)):Binds K fd ps []:=fun s us _ hl=>by
 rw[j6] at hl ⊢;exact .of_eq (h us hl)
def zo (CX:Mf) (X:Cx) (E:XK):Prop:=∀(pins:List (Addr×Obj)) (σ:St) (H:Hp) (s:Shared) (e:Value) (s':Shared),Inv X pins σ H s->CX X.stack H s E e s'->X.xe e s'
section
variable {X:Cx} {CX:Mf} {k:Nat} {f C:Addr} {fd:FuncData} {ps:List Str} {sp:Sp} {dvs:List V} {ds:List Value} {E:XK} {x m:Str} {p pos apos:Pos} {e o:Expr} {es:List Expr} {ta:TE} {t:TA}
theorem KG {pins:List (Addr×Obj)} {σ:St} {H:Hp} {s:Shared} {Q:VK} {us:List Value} {vs:List V} (F:cU X.prog X.w X.K X.mg X.base CX k f fd ps sp) (hr:m9 k X.A) (hb:Binds X.K fd ps ds) (hd:cT dvs ds) (hx:zo CX X E)
  (I:Inv X pins σ H s) (r:cT vs us) (h:sp (vs++dvs) H Q E):wpAny (model X.prog X.w) X.A (call (.ref f) us) (EP X pins σ Q) X.xe s:=by
 have r2:cT (vs++dvs) (us++ds):=r.append hd;have hl:(us++ds).length=ps.length:=by rw[<- r2.length];exact F.len _ _ _ _ h
 refine wpAny_call (codeAny_mono (F.run X.A X.stack s H ⟨us,[]⟩ (us++ds) (vs++dvs) Q E hr I.env0 (hb s us I.kIn hl) r2 h) fun r s' hq=>?_);cases r with
 | error e=>exact hx pins σ H s e s' I hq
 | ok fl =>
  cases fl with
  | ret u=>exact I.after hq
  | next=>exact False.elim hq
  | brk=>exact False.elim hq
  | cont=>exact False.elim hq
theorem Nv (F:cU X.prog X.w X.K X.mg X.base CX k f fd ps sp) (hr:m9 k X.A) (hg:Gl X x) (hm:X.mg x=some (.ref f)) (hk:PySem.W.keepIn X.K (.ref f)=true) (hb:Binds X.K fd ps ds) (hd:cT dvs ds) (hx:zo CX X E)
  (ha:PA X (e :: es) t) (hdb:(x == ("__debug__":Str))=false:=by decide) (he:starEach (e :: es) X.env=(false,eval e X.env) :: starEach es X.env:=by rfl) (hpl:(backTo pos (starEach es X.env)).any (·.1)=false:=by rfl) :
  PE X (.Call (.Name x p) (e :: es) [] pos) (Kg sp dvs E t):=by
 intro pins s σ H Q I h;refine wpAny_Call_Name_kw (DS I hg hm ?_ hdb);refine FA (h₀:=X.base) I.ok.mod.kin hk (gF (ha pos pins s σ H _ I h) fun us s1 ⟨vs,H1,I1,r,q⟩=>⟨I1.kIn,?_⟩) he hpl;exact KG F hr hb hd hx I1 r q
theorem Nu {pl : Sem Bool} (he : PE X o ta) (c : JZ X.K C) (hm : Qo X.K C m f) (F : cU X.prog X.w X.K X.mg X.base CX k f fd ps sp) (hr : m9 k X.A) (hb : Binds X.K fd ps ds) (hd : cT dvs ds) (hx : zo CX X E) (ha : PA X (e :: es) t)
    (hst : starEach (e :: es) X.env = (false, eval e X.env) :: starEach es X.env := by rfl) (hpl : (backTo pos (starEach es X.env)).any (·.1) = false := by rfl)
    (ht : eval (.Call (.Attribute o m apos) (e :: es) [] pos) X.env = (do
      let ov <- eval o X.env
      standAt apos.atName
      let (f, first) <- holding [ov] (getMethod ov m pl)
      callWith pos f first (backTo pos (starEach (e :: es) X.env)) (backToKw pos (keywordEach [] X.env))) := by rfl) :
    PE X (.Call (.Attribute o m apos) (e :: es) [] pos) (N9 C m sp dvs E ta t) := by
  intro pins s σ H Q I h;refine PySem.W.methodCall_KW (pl := pl) (gF (he pins s σ H _ I h) fun u s1 ⟨x, H1, I1, rx, a, dx, fs, ex, ea, l, q⟩ => ?_) ht;subst ex;obtain rfl : u = Value.ref a := rx;refine GI I1 ea c hm l ?_;refine FA (first := [.ref a]) (h₀ := X.base) I.ok.mod.kin hm.kp (gF (ha pos pins s1 σ H1 _ I1 q) fun us s2 ⟨vs, H2, I2, r, q2⟩ => ⟨I2.kIn, ?_⟩) hst hpl;exact KG (us := .ref a :: us) (vs := .ref a :: vs) F hr hb hd hx I2 (.cons rfl r) q2
structure Mk (K:PySem.W.Frag) (C f:Addr):Prop where
 makes:PySem.W.makesIn K C=true
 init:PySem.W.findIn K (.ref C) "__init__"=some (some (.ref f))
 fn:PySem.W.isFn K (.ref f)=true
 kp:PySem.W.keepIn K (.ref C)=true
theorem KE {pins:List (Addr×Obj)} {σ:St} {H:Hp} {s:Shared} {Q:VK} {us:List Value} {vs:List V} (M:Mk X.K C f) (F:cU X.prog X.w X.K X.mg X.base CX k f fd ps sp) (hr:m9 (k+1) X.A) (hb:Binds X.K fd ps ds) (hd:cT dvs ds)
  (hx:zo CX X E) (I:Inv X pins σ H s) (r:cT vs us)
  (h:∀x dx,H x=none->H dx=none->dx≠x->sp (.ref x :: (vs++dvs)) (upd (upd H dx (.own x)) x (.ins C dx [])) (fun v H2=>v=.non/\Q (.ref x) H2) E) :
  wpAny (model X.prog X.w) X.A (call (.ref C) us) (EP X pins σ Q) X.xe s:=by
 have hq:=h (s.heap.objs.size+1) s.heap.objs.size (I.hok.fresh (o8 _)) (I.hok.fresh (aw _)) (cm (jg _));have I2:=Inv.made (C:=C) I;have r2:cT (V.ref (s.heap.objs.size+1) :: (vs++dvs)) (Value.ref (s.heap.objs.size+1) :: (us++ds)):=.cons rfl (r.append hd)
 have hl:(Value.ref (s.heap.objs.size+1) :: us++ds).length=ps.length:=by
  have e:=r2.length;rw[F.len _ _ _ _ hq] at e;exact e.symm
 refine wpAny_call (Lh (f:=f) I.kIn M.makes M.init (beq_iff_eq.mp M.fn) (codeAny_mono (F.run _ X.stack _ _ ⟨Value.ref (s.heap.objs.size+1) :: us,[]⟩ (Value.ref (s.heap.objs.size+1) :: (us++ds)) _ _ E (hr.make C us [])
  (I2.env0.make C us []) (hb _ (Value.ref (s.heap.objs.size+1) :: us) I2.kIn hl) r2 hq) fun r s' hq'=>?_))
 cases r with
 | error e=>exact hx pins σ _ _ e s' I2 hq'
 | ok fl =>
  cases fl with
  | ret u =>
   obtain ⟨v,H',I3,rv,ev,q3⟩:=I2.after hq';subst ev;exact ⟨rv,⟨V.ref (s.heap.objs.size+1),H',I3,rfl,q3⟩⟩
  | next=>exact False.elim hq'
  | brk=>exact False.elim hq'
  | cont=>exact False.elim hq'
theorem HN (M:Mk X.K C f) (F:cU X.prog X.w X.K X.mg X.base CX k f fd ps sp) (hr:m9 (k+1) X.A) (hg:Gl X x) (hm:X.mg x=some (.ref C)) (hb:Binds X.K fd ps ds) (hd:cT dvs ds) (hx:zo CX X E)
  (ha:PA X (e :: es) t) (hdb:(x == ("__debug__":Str))=false:=by decide) (he:starEach (e :: es) X.env=(false,eval e X.env) :: starEach es X.env:=by rfl) (hpl:(backTo pos (starEach es X.env)).any (·.1)=false:=by rfl) :
  PE X (.Call (.Name x p) (e :: es) [] pos) (Oa C sp dvs E t):=by
 intro pins s σ H Q I h;refine wpAny_Call_Name_kw (DS I hg hm ?_ hdb);refine FA (h₀:=X.base) I.ok.mod.kin M.kp (gF (ha pos pins s σ H _ I h) fun us s1 ⟨vs,H1,I1,r,q⟩=>⟨I1.kIn,?_⟩) he hpl;exact KE M F hr hb hd hx I1 r q
end
structure bu (N P:List Str) (sc:Scope):Prop where
 kind:sc.kind=.function
 co:sc.isCoroutine=false
 gen:sc.isGenerator=false
 nd:N.Nodup
 pre:N.take P.length=P
 par:∀x∈P,sc.names.lookup x=some .local\/sc.names.lookup x=some .cell
 nofree:∀y∈sc.names,y.2≠.free
theorem CW {kindOf:Str->Option NameKind} {x:Str}:∀{binds:List (Str×Value)} {m:Str->Option Value},(∀v,(x,v)∉binds)->bindL kindOf binds m x=m x
 | [],_,_=>rfl
 | (n,v) :: r,m,h=>by
  unfold bindL;rw[CW fun w hw=>h w (cb _ hw)]
  split
  ·have:x≠n:=by rintro rfl;exact h v dD
   simp [this]
  ·rfl
theorem CZ {kindOf:Str->Option NameKind} {x:Str}:∀{binds:List (Str×Value)} {m:Str->Option Value},(∀v,(x,v)∉binds)->bindC kindOf binds m x=m x
 | [],_,_=>rfl
 | (n,v) :: r,m,h=>by
  unfold bindC;rw[CZ fun w hw=>h w (cb _ hw)]
  split
  ·rfl
  ·have:x≠n:=by rintro rfl;exact h v dD
   simp [this]
theorem CY {kindOf:Str->Option NameKind} {x:Str} {v:Value}:∀{P:List Str} {vs:List Value} {i:Nat} {m:Str->Option Value},P.Nodup->P[i]?=some x->vs[i]?=some v->kindOf x=some .local →
  bindL kindOf (P.zip vs) m x=some v
 | [],_,_,_,_,h,_,_=>by simp at h
 | _ :: _,[],_,_,_,_,h,_=>by simp at h
 | p :: P,w :: vs,0,m,nd,h1,h2,hk=>by
  simp at h1 h2;subst h1;subst h2;show bindL kindOf ((p,w) :: P.zip vs) m p=_
  unfold bindL;rw[CW fun v hv=>(eC.mp nd).1 (Mh hv).1,if_pos hk];simp
 | p :: P,w :: vs,i+1,m,nd,h1,h2,hk=>by
  show bindL kindOf ((p,w) :: P.zip vs) m x=_
  unfold bindL;exact CY (i:=i) (eC.mp nd).2 (by simpa using h1) (by simpa using h2) hk
theorem C0 {kindOf:Str->Option NameKind} {x:Str} {v:Value}:∀{P:List Str} {vs:List Value} {i:Nat} {m:Str->Option Value},P.Nodup->P[i]?=some x->vs[i]?=some v->kindOf x≠some .local →
  bindC kindOf (P.zip vs) m x=some v
 | [],_,_,_,_,h,_,_=>by simp at h
 | _ :: _,[],_,_,_,_,h,_=>by simp at h
 | p :: P,w :: vs,0,m,nd,h1,h2,hk=>by
  simp at h1 h2;subst h1;subst h2;show bindC kindOf ((p,w) :: P.zip vs) m p=_
  unfold bindC;rw[CZ fun v hv=>(eC.mp nd).1 (Mh hv).1,if_neg hk];simp
 | p :: P,w :: vs,i+1,m,nd,h1,h2,hk=>by
  show bindC kindOf ((p,w) :: P.zip vs) m x=_
  unfold bindC;exact C0 (i:=i) (eC.mp nd).2 (by simpa using h1) (by simpa using h2) hk
def start (N:List Str) (vs:List V):St:=vs.map some++List.replicate (N.length - vs.length) none
def JP (CX:Mf) (P:Program) (w:World) (K:PySem.W.Frag) (mg:Str->Option Value) (base:Heap) (N:List Str) (qual:Str) (scope:Scope) (f:Addr) (cd:Value) (A:Around) (outer:List Env) (s:Shared) (H:Hp) (E:XK):Cx where
 prog:=P
 w:=w
 K:=K
 mg:=mg
 base:=base
 A:=A.deeper (envOfC qual scope s.heap.objs.size f cd)
 N:=N
 s₀:=s
 H₀:=H
 env:=envOfC qual scope s.heap.objs.size f cd
 outer:=outer
 stack:=envOfC qual scope s.heap.objs.size f cd :: outer
 ex:=[]
 calm:=true
 fn:=fun _=>true
 pn:=[]
 xe:=fun e s'=>wpAny (model P w) (A.deeper (envOfC qual scope s.heap.objs.size f cd)) (leaving (envOfC qual scope s.heap.objs.size f cd) e) (fun _ s''=>CX outer H s E e s'') (fun e' s''=>CX outer H s E e' s'') s'
theorem Fj {sc:Scope} {n:Nat} {x:Str} (h:sc.names.lookup x=some .cell):∃c,(cellsFrom n sc.names []).lookup x=some c:=by
 have q:=Az sc.names n [] (.inl h);exact QC.mp q
theorem JK {CX:Mf} {P:Program} {w:World} {K:PySem.W.Frag} {mg:Str->Option Value} {base:Heap} {N ps:List Str} {qual:Str} {scope:Scope} {f:Addr} {cd:Value} {A:Around} {outer:List Env} {s s1:Shared} {H:Hp} {E:XK} {us:List Value} {vs:List V}
  (S:bu N ps scope) (hd:A.handled=none) (e0:Hv P w K mg base A outer s H) (hl:vs.length=ps.length) (r:cT vs us)
  (x:InCallC s s.heap.objs.size (bindL (envOfC qual scope s.heap.objs.size f cd).kindOf (ps.zip us) fun _=>none) (cellsFrom (s.heap.objs.size+1) scope.names []) (bindC (envOfC qual scope s.heap.objs.size f cd).kindOf (ps.zip us) fun _=>none) s1) :
  Inv (JP CX P w K mg base N qual scope f cd A outer s H E) [] (start N vs) H s1:=by
 have hpl:ps.length<=N.length:=by have:=congrArg List.length S.pre;rw[cM] at this;lia
 obtain ⟨h1,tk,rfl,hk⟩:=x.done;have noA:∀b:Addr,b∉(JP CX P w K mg base N qual scope f cd A outer s H E).ex:=fun b z=>absurd (show b∈([]:List Addr) from z) (by simp)
 refine ⟨⟨e0.mod,S.kind,rfl,rfl,aw _,fun y z c h1 h2=>?_,fun y hy=>?_,fun y c _ h=>?_,fun _=>hd,Around.frames_deeper e0.frames,.inr ⟨rfl,rfl⟩,fun b z=>absurd z (noA b),e0.bs,e0.bsz,fun b _ _=>noA b,fun b z=>absurd z (noA b),e0.funs,e0.frf⟩,
  rfl,e0.bare,Un.kept hk,⟨_,x.toInCall.ns,fun i y v h1 h2 h3=>?_⟩,fun y c h=>⟨_,x.cell y c h⟩,e0.hok.fresh (aw _),fun y c h=>?_,fun p hp=>absurd (show p∈([]:List (Addr×Obj)) from hp) (by simp),e0.hok.kept hk,?_⟩
 ·exact name_of_addr x.apart (m4 h1) (m4 h2)
 ·have hy:scope.names.lookup y=some .cell\/scope.names.lookup y=some .free:=hy;rcases hy with hy | hy
  ·exact Fj hy
  ·exact absurd rfl (S.nofree _ (m4 hy))
 ·exact aS (x.above y c (m4 h))
 ·have hi:i < vs.length:=by
   unfold start at h2;by_cases hi:i < vs.length
   ·exact hi
   ·rw[aU (by simpa using hi)] at h2;rw[dj] at h2
    split at h2 <;> cases h2
  have ha:vs[i]?=some v:=by
   unfold start at h2;rw[bH (by simpa using hi),aG] at h2;cases e:vs[i]? with
   | none=>rw[e] at h2;cases h2
   | some a=>rw[e] at h2;cases h2;rfl
  obtain ⟨u,hu,rv⟩:=r.get ha
  have hp:ps[i]?=some y:=by
   rw[<- S.pre,nh (by lia)];exact h1
  have ndP:ps.Nodup:=by rw[<- S.pre];exact S.nd.sublist (List.take_sublist _ _)
  refine ⟨u,rv,?_⟩;rcases S.par y (ax hp) with k | k
  ·exact .inl ⟨k,CY ndP hp hu k⟩
  ·obtain ⟨c,e⟩:=Fj (n:=s.heap.objs.size+1) k;refine .inr ⟨.inl k,c,e,?_⟩;have q:=x.cell y c e;rw[C0 ndP hp hu (by show scope.names.lookup y≠_;rw[k];decide)] at q;exact q
 ·exact e0.hok.fresh (aS (x.above y c (m4 h)))
 ·unfold start;show _=N.length
  rw[ak,aj,aE]
  lia
theorem RP {CX:Mf} {P:Program} {w:World} {K:PySem.W.Frag} {mg:Str->Option Value} {base:Heap} {k:Nat} {f:Addr} {name qual:Str} {params:Arguments} {body:List Stmt} {scope:Scope} {dV kV doc pm cdv ct oc:Value} {an od:Option Addr}
  {osl:Array (Option Value)} {N ps:List Str} {sp:Sp} (lk:K.lookup f=some ⟨oc,od,.func (PySem.W.fnOf name qual params body scope dV kV doc pm an cdv ct),osl⟩) (hcd:PySem.W.codeIn K cdv qual=true) (S:bu N ps scope)
  (len:∀vs H Q E,sp vs H Q E->vs.length=ps.length)
  (hbody:∀(A:Around) (outer:List Env) (s:Shared) (H:Hp) (vs:List V) (Q:VK) (E:XK),m9 k (A.deeper (envOfC qual scope s.heap.objs.size f cdv))->sp vs H Q E →
   ∃t,Hq (JP CX P w K mg base N qual scope f cdv A outer s H E) body t/\t { nx:=fun _ H'=>Q .non H',rt:=Q } (start N vs) H) :
  cU P w K mg base CX (k+1) f (PySem.W.fnOf name qual params body scope dV kV doc pm an cdv ct) ps sp:=by
 refine ⟨len,fun A outer s H args us vs Q E hr e0 hb r hsp=>?_⟩;have hl:=len _ _ _ _ hsp;have KX:K.In s.heap:=e0.mod.kin.keeps fun b o e=>(e0.bs b o e).1
 have lim:s.heap.NoLimit:=e0.mod.nolimit.keeps fun b o e=>(e0.bs b o e).1
 have hkind:∀y∈ps.zip us,scope.names.lookup y.1=some .local\/(scope.names.lookup y.1=some .cell/\((cellsFrom (s.heap.objs.size+1) scope.names []).lookup y.1).isSome=true):=fun ⟨n,v⟩ hy=>by
  rcases S.par n (Mh hy).1 with q | q
  ·exact .inl q
  ·exact .inr ⟨q,Az _ _ _ (.inl q)⟩
 refine codeAny_call_function hr.depth (KX _ _ lk) rfl S.co S.gen rfl (PySem.W.codeRec_of KX hcd) (hb _ _ _ _ ?_);refine wpAny_newFunctionEnv_cells S.kind hkind fun env he s1 x=>?_
 subst he;refine ⟨lim.keeps x.toInCall.keep,codeAny_func ?_⟩;obtain ⟨t,ht,hq⟩:=hbody A outer s H vs Q E (hr.deeper _) hsp;have I:Inv (JP CX P w K mg base N qual scope f cdv A outer s H E) [] (start N vs) H s1:=JK S hr.hd e0 hl r x;refine wpAny_mono (ht [] s1 (start N vs) H _ I hq) (fun fl s' hs=>?_) fun e s' hs=>hs
 have fin:∀{σ':St} {H':Hp} {v:V} {u:Value},Inv (JP CX P w K mg base N qual scope f cdv A outer s H E) [] σ' H' s'->RelV v u->Q v H'->CE outer P w H s Q u s' :=
  fun {σ' H' v u} J rv q=>⟨v,H',J.os,J.bare,J.base,J.hok,rv,q⟩
 cases fl with
 | ret u =>
  obtain ⟨v,σ',H',J,rv,q⟩:=hs;exact fin J rv q
 | next =>
  obtain ⟨σ',H',J,q⟩:=hs;exact fin (v:=V.non) (u:=Value.none) J rfl q
 | brk =>
  obtain ⟨_,_,_,q⟩:=hs;exact False.elim q
 | cont =>
  obtain ⟨_,_,_,q⟩:=hs;exact False.elim q
section
variable {X:Cx} {x:Str} {p pos:Pos} {e:Expr} {es:List Expr} {t:TA} {id T:String} {r:List V->Hp->VK->Prop}
def Sr (r:List V->Hp->VK->Prop) (t:TA):TE:=fun σ H Q=>t σ H fun vs H1=>r vs H1 Q
theorem bP (hc:uq X (.builtin id) r) (hg:Gl X x) (hm:X.mg x=none) (hv:bootBuiltins x=some (.builtin id)) (ha:PA X (e :: es) t) (hn:x≠"__name__":=by decide) (hdb:(x == ("__debug__":Str))=false:=by decide)
  (he:starEach (e :: es) X.env=(false,eval e X.env) :: starEach es X.env:=by rfl) (hpl:(backTo pos (starEach es X.env)).any (·.1)=false:=by rfl):PE X (.Call (.Name x p) (e :: es) [] pos) (Sr r t):=by
 intro pins s σ H Q I h;refine wpAny_Call_Name_kw (lE I hg hm hv ?_ hn hdb);exact PyProof.Rows.callWith_builtin1 (gF (ha pos pins s σ H _ I h) fun us s1 ⟨vs,H1,I1,r1,q1⟩=>hc pins s1 σ H1 vs us Q I1 r1 q1) he hpl
theorem dO (hc:uq X (.type T) r) (hg:Gl X x) (hm:X.mg x=none) (hv:bootBuiltins x=some (.type T)) (ha:PA X (e :: es) t) (hn:x≠"__name__":=by decide) (hdb:(x == ("__debug__":Str))=false:=by decide)
  (he:starEach (e :: es) X.env=(false,eval e X.env) :: starEach es X.env:=by rfl) (hpl:(backTo pos (starEach es X.env)).any (·.1)=false:=by rfl):PE X (.Call (.Name x p) (e :: es) [] pos) (Sr r t):=by
 intro pins s σ H Q I h;refine wpAny_Call_Name_kw (lE I hg hm hv ?_ hn hdb);exact PyProof.Rows.callWith_type1 (gF (ha pos pins s σ H _ I h) fun us s1 ⟨vs,H1,I1,r1,q1⟩=>hc pins s1 σ H1 vs us Q I1 r1 q1) he hpl
end
end L2
namespace HT
open PySem PyProof.Rows
section
open PySem.SeqAt
open PySem.AutoSeq1 (wpAny_loadPart')
open PySem.MeetsSeq PySem.MeetsSeq2 PySem.MeetsSeq3
end
section
variable {prog:Program} {w:World} {A:Around} {E:Value->Shared->Prop} {s:Shared}
def EN (n d:Nat):Option Int->Nat
 | none=>d
 | some v=>if v < 0 then (v+(n:Int)).toNat else min v.toNat n
theorem EM (n d:Nat):EN n d none=d:=rfl
theorem Ai (n d k:Nat):EN n d (some (k:Int))=min k n:=by
 show (if (k:Int) < 0 then ((k:Int)+(n:Int)).toNat else min (k:Int).toNat n)=min k n
 rw[if_neg (by lia),Int.toNat_natCast]
end
end HT
namespace L2
open PySem PySem.Spec PyProof.Rows
abbrev TO:=St->Hp->(Option Int->Hp->Prop)->Prop
def PO (X:Cx) (e:Option Expr) (t:TO):Prop :=
 ∀(pins:List (Addr×Obj)) (s:Shared) (σ:St) (H:Hp) (Q:Option Int->Hp->Prop),Inv X pins σ H s->t σ H Q →
  wpAny (model X.prog X.w) X.A (evalPart e X.env) (fun u s'=>∃o H',Inv X pins σ H' s'/\IsPart u o/\Q o H') X.xe s
def HC:TO:=fun _ H Q=>Q none H
def N6 (t:TE):TO:=fun σ H Q=>t σ H fun x H1=>∃i,x=.int i/\Q (some i) H1
theorem intsAre_of {ns:List Int}:∀{us:List Value},cT (ns.map V.int) us->IntsAre us ns:=by
 induction ns with
 | nil=>intro us r;rw[IF] at r;cases r;exact .nil
 | cons n ns ih =>
  intro us r;rw[fV] at r;cases r with
  | cons r1 r2 =>
   obtain ⟨t,e⟩:=r1;subst e;exact .cons n t (ih r2)
section
variable {X:Cx} {e:Expr} {te:TE} {lo hi:Option Expr} {tl th:TO} {pos p2:Pos}
theorem HM:PO X none HC:=by
 intro pins s σ H Q I h;rw[evalPart_none];exact wpAny_pure ⟨none,H,I,.none,h⟩
theorem Aj (h:PE X e te):PO X (some e) (N6 te):=by
 intro pins s σ H Q I hw;rw[evalPart_some];refine gF (h pins s σ H _ I hw) fun u s1 ⟨x,H1,I1,r1,q1⟩=>?_
 obtain ⟨i,rfl,q⟩:=q1;obtain ⟨t,rfl⟩:=r1;exact ⟨some i,H1,I1,.int i t,q⟩
def SO (X:Cx) (r:V->Option Int->Option Int->Hp->VK->Prop):Prop :=
 ∀(pins:List (Addr×Obj)) (s:Shared) (σ:St) (H:Hp) (x:V) (v vl vu:Value) (lo hi:Option Int) (sl:Addr) (Q:VK),Inv X pins σ H s->RelV x v->s.heap.IsSliceOf sl vl vu .none->IsPart vl lo->IsPart vu hi->r x lo hi H Q →
  ∃T id,typeLookup (.type T) "__getitem__"=pure (some (.builtin id))/\s.TypeIs v T/\wpAny (model X.prog X.w) X.A (getItem v (.ref sl)) (EP X pins σ Q) X.xe s
def tSl (r:V->Option Int->Option Int->Hp->VK->Prop) (te:TE) (tl th:TO):TE:=fun σ H Q=>te σ H fun x H1=>tl σ H1 fun l H2=>th σ H2 fun u H3=>r x l u H3 Q
theorem AY {r:V->Option Int->Option Int->Hp->VK->Prop} (hr:SO X r) (he:PE X e te) (hl:PO X lo tl) (hu:PO X hi th):PE X (.Subscript e (.Slice lo hi none p2) pos) (tSl r te tl th):=by
 intro pins s σ H Q I h;refine Subscript_ (gF (he pins s σ H _ I h) fun v s1 ⟨x,H1,I1,r1,q1⟩=>?_);refine wpAny_Slice (gF (hl pins s1 σ H1 _ I1 q1) fun vl s2 ⟨l,H2,I2,pl,q2⟩=>gF (hu pins s2 σ H2 _ I2 q2) fun vu s3 ⟨u,H3,I3,pu,q3⟩=>?_);rw[evalPart_none];refine wpAny_pure ?_;have I4:Inv X pins σ H3 { s3 with heap:=s3.heap.push { cls:=.type "slice",data:=.fields #[vl,vu,.none] } }:=I3.kept (t':=s3.toks) fun b ob q=>Heap.get?_push_of_some _ q
 obtain ⟨T,id,hT,ht,hg⟩:=hr pins { s3 with heap:=s3.heap.push { cls:=.type "slice",data:=.fields #[vl,vu,.none] } } σ H3 x v vl vu l u s3.heap.objs.size Q I4 r1 (Heap.IsSliceOf.new ..) pl pu q3;show wpAny (model X.prog X.w) X.A (subscriptTail e (.Slice lo hi none p2) v (.ref s3.heap.objs.size)) (EP X pins σ Q) X.xe { s3 with heap:=s3.heap.push { cls:=.type "slice",data:=.fields #[vl,vu,.none] } }
 exact tail_any (ops:=[.ref s3.heap.objs.size,v]) ht hT hg (by with_unfolding_all rfl)
def wq (xs:List V) (lo hi:Option Int):List V:=(xs.drop (HT.EN xs.length 0 lo)).take (HT.EN xs.length xs.length hi - HT.EN xs.length 0 lo)
theorem zG (xs:List V) (lo hi:Option Int):(wq xs lo hi).length<=xs.length:=by
 unfold wq;rw[cM,J5]
 lia
end
def JW (n:Nat) (i:Int):Option Nat:=if 0<=i then (if i < n then some i.toNat else none) else if -(n:Int)<=i then some (i+n).toNat else none
def GU {α:Type} (xs:List α) (i:Int):Option α:=(JW xs.length i).bind fun j=>xs[j]?
theorem Ig {n:Nat} {i:Int} {j:Nat} (h:JW n i=some j):seqIndex? i n=some j/\j < n/\-(n:Int)<=i/\i < n:=by
 unfold JW at h;by_cases h0:0<=i
 ·rw[if_pos h0] at h;by_cases h1:i < n
  ·rw[if_pos h1] at h;have e:i.toNat=j:=cp h;exact ⟨by rw[seqIndex_of h0 h1,e],by lia,by lia,h1⟩
  ·rw[if_neg h1] at h;cases h
 ·rw[if_neg h0] at h;by_cases h1:-(n:Int)<=i
  ·rw[if_pos h1] at h;have e:(i+n).toNat=j:=cp h;exact ⟨by rw[seqIndex_neg (by lia) h1,e],by lia,h1,by lia⟩
  ·rw[if_neg h1] at h;cases h
theorem Ee {α:Type} {xs:List α} {i:Int} {v:α} (h:GU xs i=some v):∃j,seqIndex? i xs.length=some j/\xs[j]?=some v/\j < xs.length/\-(xs.length:Int)<=i/\i < xs.length:=by
 unfold GU at h;cases e:JW xs.length i with
 | none=>rw[e] at h;cases h
 | some j =>
  rw[e] at h;obtain ⟨h1,h2,h3,h4⟩:=Ig e;exact ⟨j,h1,h,h2,h3,h4⟩
theorem fJ {α:Type} {xs:List α} {j:Nat} {v:α} (h:xs[j]?=some v):GU xs (j:Int)=some v:=by
 have hj:j < xs.length:=(aI.mp h).1
 have e:JW xs.length (j:Int)=some j:=by
  unfold JW;rw[if_pos (by lia),if_pos (by lia)];simp
 unfold GU;rw[e];exact h
theorem vg {α:Type} (xs:List α) (v:α):GU (xs++[v]) (-1)=some v:=by
 have hl:(xs++[v]).length=xs.length+1:=by simp
 have e:JW (xs++[v]).length (-1)=some xs.length:=by
  unfold JW;rw[hl,if_neg (by decide),if_pos (by lia)];congr 1
  lia
 unfold GU;rw[e];show (xs++[v])[xs.length]?=some v
 simp
def NZ (b:Expr):Prop:=∀o i,subscripted b false o i=operate [o,i] (getItem o i)
def RY (X:Cx) (r:R2):Prop :=
 ∀(value slice:Expr) (pins:List (Addr×Obj)) (s:Shared) (σ:St) (H:Hp) (x y:V) (v u:Value) (Q:VK),Inv X pins σ H s->RelV x v->RelV y u->r x y H Q →
  subscripted slice false v u=operate [v,u] (getItem v u)->wpAny (model X.prog X.w) X.A (subscriptTail value slice v u) (EP X pins σ Q) X.xe s
def MtR (X:Cx) (id:String) (r:V->List V->Hp->VK->Prop):Prop :=
 ∀(pins:List (Addr×Obj)) (s:Shared) (σ:St) (H:Hp) (x:V) (xs:List V) (v:Value) (us:List Value) (Q:VK),Inv X pins σ H s->RelV x v->cT xs us->r x xs H Q →
  wpAny (model X.prog X.w) X.A (call (.builtin id) (v :: us)) (EP X pins σ Q) X.xe s
section
variable {X:Cx} {a b:Expr} {ta tb:TE} {pos:Pos}
theorem aV {r:R2} (hr:RY X r) (ha:PE X a ta) (hb:PE X b tb) (hs:NZ b:=by intro _ _;rfl):PE X (.Subscript a b pos) (QN r ta tb):=by
 intro pins s σ H Q I h;exact Subscript_ (Qj ha hb I h fun v u s2 x y H2 I2 rx ry q=>hr a b pins s2 σ H2 x y v u Q I2 rx ry q (hs _ _))
def PC (K:PySem.W.Frag):R2:=fun x y H Q=>∃p xs i v,x=.ref p/\y=.int i/\bU K H p xs/\GU xs i=some v/\Q v H
def PB (K:PySem.W.Frag):R2:=fun x y H Q=>∃p xs i v,x=.ref p/\y=.int i/\sv K H p xs/\GU xs i=some v/\Q v H
theorem bW:RY X (PC X.K):=by
 intro value slice pins s σ H x y v u Q I rx ry h hs;obtain ⟨p,xs,i,z,rfl,rfl,hq,he,q⟩:=h;cases rx;obtain ⟨t,rfl⟩:=ry;obtain ⟨its,r,pl,hz⟩:=I.list hq;obtain ⟨j,h1,h2,h3,h4,h5⟩:=Ee he;obtain ⟨w,ew,rw'⟩:=r.get h2;have hl:=r.length;have hn:=Bo;have fin:EP X pins σ Q w s:=⟨z,H,I,rw',q⟩;by_cases h0:0<=i
 ·have hj:i.toNat=j:=by
   rw[seqIndex_of h0 h5] at h1;exact cp h1
  exact item_listR pl.isList h0 (by lia) (by rw[hj];simpa using ew) fin hs
 ·have hj:(i+(its.toArray.size:Int)).toNat=j:=by
   rw[seqIndex_neg (by lia) h4] at h1;rw[aP,<- hl];exact cp h1
  exact subscriptTail_builtinR (x:=w) pl.isList.typeIs slot_list_getitem.lookup
   (wpAny_getItem_list_neg (Q:=fun r s'=>r=w/\EP X pins σ Q r s') pl.isList (by lia) (by rw[aP] <;> lia) (by lia) (by rw[hj];simpa using ew) ⟨rfl,fin⟩) hs
theorem bS:RY X (PB X.K):=by
 intro value slice pins s σ H x y v u Q I rx ry h hs;obtain ⟨p,xs,i,z,rfl,rfl,hq,he,q⟩:=h;cases rx;obtain ⟨t,rfl⟩:=ry;obtain ⟨its,r,pl,hz⟩:=I.tuple hq;obtain ⟨j,h1,h2,h3,h4,h5⟩:=Ee he;obtain ⟨w,ew,rw'⟩:=r.get h2;have hl:=r.length;have hn:=Bo;have fin:EP X pins σ Q w s:=⟨z,H,I,rw',q⟩
 exact subscriptTail_builtinR (x:=w) pl.typeIs slot_tuple_getitem.lookup
  (getItem_tuple (j:=j) (Q:=fun r s'=>r=w/\EP X pins σ Q r s') pl (by lia) (by lia) (by rw[aP,<- hl];exact h1) (by simpa using ew) ⟨rfl,fin⟩) hs
theorem GA (its:List Value) (n j:Nat) (u:Value):Obj.mapSeq (·.setIfInBounds j u) { cls:=.type "list",data:=.seq its.toArray n }={ cls:=.type "list",data:=.seq (its.set j u).toArray n }:=by
 simp [Obj.mapSeq]
theorem Inv.lst {pins:List (Addr×Obj)} {σ:St} {H:Hp} {s:Shared} {p:Addr} {xs:List V} (I:Inv X pins σ H s) (h:H p=some (.lst xs)) :
  ∃(its:List Value) (n:Nat),cT xs its/\s.heap.get? p=some { cls:=.type "list",data:=.seq its.toArray n }/\xs.length<=sizeLine:=by
 obtain ⟨z,its,n,r,e⟩:=I.hok p _ h;exact ⟨its,n,r,e,z⟩
theorem Inv.lstUpd {pins:List (Addr×Obj)} {σ:St} {H:Hp} {s:Shared} {p:Addr} {xs ys:List V} {its its':List Value} {n n':Nat} {f:Obj->Obj} (I:Inv X pins σ H s) (h:H p=some (.lst xs))
  (ho:s.heap.get? p=some { cls:=.type "list",data:=.seq its.toArray n }) (hf:f { cls:=.type "list",data:=.seq its.toArray n }={ cls:=.type "list",data:=.seq its'.toArray n' }) (r:cT ys its') (hz:ys.length<=sizeLine) (t:Nat) :
  Inv X pins σ (upd H p (.lst ys)) { s with heap:=s.heap.update p f,toks:=t }:=by
 have e:(s.heap.update p f).get? p=some { cls:=.type "list",data:=.seq its'.toArray n' }:=by
  rw[Heap.get?_update_self f ho (by rw[hf] <;> rfl),hf]
 refine I.write (x:=p) (e:=p) (by rw[h];trivial) (.inl rfl) (fun b u hb q=>(Heap.get?_update_other _ _ (Ne.symm hb)).trans q) ⟨_,e⟩ ?_;exact ⟨hz,its',n',r,e⟩
def Oi:V->V->V->Hp->(Hp->Prop)->Prop:=fun o i v H Q=>∃p xs k j,o=.ref p/\i=.int k/\H p=some (.lst xs)/\JW xs.length k=some j/\Q (upd H p (.lst (xs.set j v)))
theorem set_list:Qm X Oi:=by
 intro pins s σ H o i v ov iv u Q I ro ri rv h;obtain ⟨p,xs,k,j,rfl,rfl,hp,hj,q⟩:=h;cases ro;obtain ⟨t,rfl⟩:=ri;obtain ⟨its,n,r,ho,hz⟩:=I.lst hp;obtain ⟨h1,h2,h3,h4⟩:=Ig hj;have hl:=r.length;have hn:=Bo
 have I':Inv X pins σ (upd H p (.lst (xs.set j v))) { s with heap:=s.heap.update p (Obj.mapSeq (·.setIfInBounds j u)) } :=
  I.lstUpd hp ho (GA its n j u) (r.set rv j) (by rw[eE];exact hz) s.toks
 by_cases h0:0<=k
 ·have hk:k.toNat=j:=by
   rw[seqIndex_of h0 h4] at h1;exact cp h1
  exact PySem.W.ki_setAt ho h0 (by lia) (by rw[aP,<- hl];exact h4) (by rw[hk];exact ⟨_,I',q⟩)
 ·have hk:(k+(its.toArray.size:Int)).toNat=j:=by
   rw[seqIndex_neg (by lia) h3] at h1;rw[aP,<- hl];exact cp h1
  exact PySem.W.ki_setBack ho (by lia) (by rw[aP,<- hl];exact h3) (by lia) (by rw[hk];exact ⟨_,I',q⟩)
theorem Dj (lo hi:Option Int) (n:Nat):(sliceBounds lo hi none n).1=((HT.EN n 0 lo:Nat):Int)/\(sliceBounds lo hi none n).2.1=((HT.EN n n hi:Nat):Int)/\(sliceBounds lo hi none n).2.2=1:=by
 refine ⟨?_,?_,rfl⟩
 ·cases lo with
  | none=>simp [sliceBounds,HT.EN]
  | some i =>
   simp only[sliceBounds,HT.EN,Option.getD_none,show (1:Int) > 0 by decide,if_true];by_cases h:i < 0
   ·simp only[h,if_true] <;> lia
   ·simp only[h,if_false] <;> lia
 ·cases hi with
  | none=>simp [sliceBounds,HT.EN]
  | some i =>
   simp only[sliceBounds,HT.EN,Option.getD_none,show (1:Int) > 0 by decide,if_true];by_cases h:i < 0
   ·simp only[h,if_true] <;> lia
   ·simp only[h,if_false] <;> lia
theorem BR (its:List Value) (lo hi:Option Int):slicePick its.toArray lo hi none=((its.drop (HT.EN its.length 0 lo)).take (HT.EN its.length its.length hi - HT.EN its.length 0 lo)).toArray:=by
 obtain ⟨h1,h2,h3⟩:=Dj lo hi its.toArray.size;unfold slicePick;rw[h1,h2,h3];simp only[sliceRange_one,pick_run,aP] <;> rfl
def Py (K:PySem.W.Frag):V->Option Int->Option Int->Hp->VK->Prop:=fun x lo hi H Q=>∃a xs,x=.ref a/\bU K H a xs/\∀p,H p=none->Q (.ref p) (upd H p (.lst (wq xs lo hi)))
theorem Dk:SO X (Py X.K):=by
 intro pins s σ H x v vl vu lo hi sl Q I rx hs pl pu h;obtain ⟨a,xs,rfl,hx,q⟩:=h;cases rx;obtain ⟨its,r,ht,hz⟩:=I.list hx;have hlen:=r.length;refine ⟨"list",_,slot_list_getitem.lookup,ht.isList.typeIs,?_⟩;refine wpAny_getItem_list_slice ht.isList hs pl pu .none (by simp) ?_ (by rw[aP] <;> lia);rw[BR,<- hlen];refine ⟨.ref s.heap.objs.size,_,I.laid (t':=s.toks) (o:=.lst (wq xs lo hi)) (fun b ob q=>Heap.get?_push_of_some _ q) (aw _) ?_,rfl,q _ (I.hok.fresh (aw _))⟩;exact ⟨ai (zG xs lo hi) hz,_,0,(r.drop (HT.EN xs.length 0 lo)).take (HT.EN xs.length xs.length hi - HT.EN xs.length 0 lo),Heap.get?_push_size _ rfl⟩
def yn:V->Bool
 | .non=>true
 | .bl _=>true
 | .int _=>true
 | .str _=>true
 | _=>false
def OC:V->V->Bool
 | .non,.non=>true
 | .bl a,.bl b=>a == b
 | .bl a,.int b=>(if a then 1 else 0) == b
 | .int a,.bl b=>a == (if b then 1 else 0)
 | .int a,.int b=>a == b
 | .str a,.str b=>a == b
 | _,_=>false
theorem Qc {A:Around} {s:Shared} {y x:V} {u v:Value} (ry:RelV y u) (rx:RelV x v) (fy:yn y=true) (fx:yn x=true):SeqAt.EqAt A s u v (OC y x):=by
 cases y with
 | non =>
  cases ry;cases x with
  | non=>cases rx;exact SeqAt.EqAt.same _
  | bl b=>cases rx;exact SeqAt.EqAt.none_bool b
  | int b=>obtain ⟨t,rfl⟩:=rx;exact SeqAt.EqAt.none_int b t
  | str b=>obtain ⟨t,rfl⟩:=rx;exact SeqAt.EqAt.none_str b t
  | _=>exact absurd (show false=true from fx) bw
 | bl a =>
  cases ry;cases x with
  | non=>cases rx;exact SeqAt.EqAt.bool_none a
  | bl b=>cases rx;exact SeqAt.EqAt.bool_bool a b
  | int b=>obtain ⟨t,rfl⟩:=rx;exact SeqAt.EqAt.bool_int a b t
  | str b=>obtain ⟨t,rfl⟩:=rx;exact SeqAt.EqAt.bool_str a b t
  | _=>exact absurd (show false=true from fx) bw
 | int a =>
  obtain ⟨t',rfl⟩:=ry;cases x with
  | non=>cases rx;exact SeqAt.EqAt.int_none a t'
  | bl b=>cases rx;exact SeqAt.EqAt.int_bool a t' b
  | int b=>obtain ⟨t,rfl⟩:=rx;exact SeqAt.EqAt.int_int a t' b t
  | str b=>obtain ⟨t,rfl⟩:=rx;exact SeqAt.EqAt.int_str a t' b t
  | _=>exact absurd (show false=true from fx) bw
 | str a =>
  obtain ⟨t',rfl⟩:=ry;cases x with
  | non=>cases rx;exact SeqAt.EqAt.str_none a t'
  | bl b=>cases rx;exact SeqAt.EqAt.str_bool a t' b
  | int b=>obtain ⟨t,rfl⟩:=rx;exact SeqAt.EqAt.str_int a t' b t
  | str b=>obtain ⟨t,rfl⟩:=rx;exact SeqAt.EqAt.str_str a t' b t
  | _=>exact absurd (show false=true from fx) bw
 | _=>exact absurd (show false=true from fy) bw
def NM (x:V) (u:Value):Bool:=match u with
 | .none=>OC .non x
 | .bool b=>OC (.bl b) x
 | .int i _=>OC (.int i) x
 | .str z _=>OC (.str z) x
 | _=>false
theorem LM {x y:V} {u:Value} (r:RelV y u) (f:yn y=true):NM x u=OC y x:=by
 cases y with
 | non=>cases r;rfl
 | bl b=>cases r;rfl
 | int i=>obtain ⟨t,rfl⟩:=r;rfl
 | str z=>obtain ⟨t,rfl⟩:=r;rfl
 | _=>exact absurd (show false=true from f) bw
theorem Eg {x:V}:∀{xs:List V} {us:List Value},cT xs us->xs.all yn=true->us.any (NM x)=xs.any fun y=>OC y x
 | _,_,.nil,_=>rfl
 | y :: xs,u :: us,.cons r t,f=>by
  rw[List.all_cons,dW] at f;rw[List.any_cons,List.any_cons,LM r f.1,Eg t f.2]
theorem Bi {A:Around} {s:Shared} {x:V} {v:Value} (rx:RelV x v) (fx:yn x=true):∀{xs:List V} {us:List Value},cT xs us->xs.all yn=true->∀u∈us,SeqAt.EqAt A s u v (NM x u)
 | _,_,.nil,_=>fun u hu=>by cases hu
 | y :: xs,u :: us,.cons r t,f=>fun u' hu=>by
  rw[List.all_cons,dW] at f;rcases aF.mp hu with rfl | hu
  ·rw[LM r f.1];exact Qc r rx f.1 fx
  ·exact Bi rx fx t f.2 u' hu
def Sf (x:V) (xs:List V):Bool:=xs.any fun y=>OC y x
def rIn (K:PySem.W.Frag) (neg:Bool):R2:=fun x y H Q=>∃p xs,y=.ref p/\(bU K H p xs\/sv K H p xs)/\yn x=true/\xs.all yn=true/\Q (.bl (if neg then !Sf x xs else Sf x xs)) H
theorem Jw:Ae X (compareOp .In) (rIn X.K false):=by
 intro pins s σ H x y v u Q I rx ry h;obtain ⟨p,xs,rfl,hq,fx,fs,q⟩:=h;cases ry;rcases hq with hq | hq
 ·obtain ⟨its,r,pl,hz⟩:=I.list hq;refine SeqAt.in_listAt (NM x) pl.isList (fun w hw=>Bi rx fx r fs w (by simpa using hw)) ⟨.bl _,H,I,rfl,?_⟩;rw[show its.toArray.any (NM x)=its.any (NM x) by simp,Eg r fs];exact q
 ·obtain ⟨its,r,pl,hz⟩:=I.tuple hq;refine SeqAt.in_tupleAt (NM x) pl (fun w hw=>Bi rx fx r fs w (by simpa using hw)) ⟨.bl _,H,I,rfl,?_⟩;rw[show its.toArray.any (NM x)=its.any (NM x) by simp,Eg r fs];exact q
theorem bC:uq X (.builtin "len") (fun xs H Q=>∃p ys,xs=[.ref p]/\(bU X.K H p ys\/sv X.K H p ys)/\Q (.int ys.length) H):=by
 intro pins s σ H xs us Q I r h;obtain ⟨p,ys,rfl,hq,q⟩:=h;obtain ⟨u,rfl,rx⟩:=vals1 r;cases rx;have hn:=Bo;rcases hq with hq | hq
 ·obtain ⟨its,r',pl,hz⟩:=I.list hq;have hlen:=r'.length;exact Calls.call_len_list pl.isList (by simp only[aP] <;> lia) ⟨.int ys.length,H,I.tok _,⟨s.toks+1,by rw[aP,hlen]⟩,q⟩
 ·obtain ⟨its,r',pl,hz⟩:=I.tuple hq;have hlen:=r'.length;exact len_tuple pl (by simp only[aP] <;> lia) ⟨.int ys.length,H,I.tok _,⟨s.toks+1,by rw[aP,hlen]⟩,q⟩
theorem tx:uq X (.type "list") (fun xs H Q=>∃p ys,xs=[.ref p]/\(bU X.K H p ys\/sv X.K H p ys)/\∀l,H l=none->Q (.ref l) (upd H l (.lst ys))):=by
 intro pins s σ H xs us Q I r h;obtain ⟨p,ys,rfl,hq,q⟩:=h;obtain ⟨u,rfl,rx⟩:=vals1 r;cases rx
 have fin:∀(its:List Value),cT ys its->ys.length<=sizeLine->∀(h':Heap) (c':Nat),(∀b o',s.heap.get? b=some o'->h'.get? b=some o') →
   h'.get? s.heap.objs.size=some { cls:=.type "list",dict:=none,data:=.seq its.toArray c',slots:=#[] }->EP X pins σ Q (.ref s.heap.objs.size) { s with heap:=h' }:=fun its r' hz h' c' kp e =>
  ⟨.ref s.heap.objs.size,_,I.laid (t':=s.toks) kp (aw _) (show j3 X.prog X.w _ h' _ (.lst ys) from ⟨hz,its,c',r',e⟩),rfl,q _ (I.hok.fresh (aw _))⟩
 rcases hq with hq | hq
 ·obtain ⟨its,r',pl,hz⟩:=I.list hq;have hlen:=r'.length;obtain ⟨o,ho,hc,n,hd⟩:=pl.isList;exact call_list_seq p (.inl rfl) ho hc hd (fun h' c' kp e=>fin its r' hz h' c' kp e) (by simp only[aP] <;> lia)
 ·obtain ⟨its,r',pl,hz⟩:=I.tuple hq;have hlen:=r'.length;obtain ⟨o,ho,hc,n,hd⟩:=pl;exact call_list_seq p (.inr rfl) ho hc hd (fun h' c' kp e=>fin its r' hz h' c' kp e) (by simp only[aP] <;> lia)
def Sq (K:PySem.W.Frag) (T:String) (x:V) (H:Hp):Prop:=match x with
 | .str _=>T="str"
 | .int _=>T="int"
 | .ref p=>(T="list"/\∃xs,bU K H p xs)\/(T="tuple"/\∃o,K.lookup p=some o/\o.cls=.type "tuple"/\o.dict=none) \/
   (T="dict"/\((∃kvs,H p=some (.dK kvs))\/∃kvs,H p=some (.dT kvs)))\/(T="set"/\∃S n,H p=some (.set S n))
 | _=>False
theorem ON {pins:List (Addr×Obj)} {σ:St} {H:Hp} {s:Shared} {T:String} {x:V} {v:Value} (I:Inv X pins σ H s) (r:RelV x v) (ty:Sq X.K T x H) :
  s.TypeIs v T/\∀a,v=.ref a->∃ob,s.heap.get? a=some ob/\ob.dict=none:=by
 cases x with
 | str z =>
  obtain ⟨t,rfl⟩:=r;cases (show T="str" from ty);exact ⟨typeIs_str s z t,fun _ e=>nomatch e⟩
 | int i =>
  obtain ⟨t,rfl⟩:=r;cases (show T="int" from ty);exact ⟨typeIs_int s i t,fun _ e=>nomatch e⟩
 | ref p =>
  cases r;rcases ty with ⟨rfl,xs,hq⟩ | ⟨rfl,o,hk,hc,hd⟩ | ⟨rfl,hk⟩ | ⟨rfl,S,n,hk⟩
  ·obtain ⟨its,_,pl,_⟩:=I.list hq;refine ⟨pl.isList.typeIs,fun a e=>?_⟩;cases e;obtain ⟨o,n,e,c,hd,_⟩:=pl;exact ⟨o,e,hd⟩
  ·refine ⟨⟨o,I.kIn p o hk,hc⟩,fun a e=>?_⟩;cases e;exact ⟨o,I.kIn _ o hk,hd⟩
  ·have z:∃o,s.heap.get? p=some o/\o.ExactDict:=by
    rcases hk with ⟨kvs,hk⟩ | ⟨kvs,hk⟩
    ·obtain ⟨_,_,_,_,o,_,_,e,ex,_⟩:=I.hok p _ hk;exact ⟨o,e,ex⟩
    ·obtain ⟨_,_,_,_,o,_,_,e,ex,_⟩:=I.hok p _ hk;exact ⟨o,e,ex⟩
   obtain ⟨o,e,ex⟩:=z;refine ⟨⟨o,e,ex.1⟩,fun a e2=>?_⟩;cases e2;exact ⟨o,e,ex.2.1⟩
  ·obtain ⟨o,_,_,_,e,ex,_⟩:=I.hok p _ hk;refine ⟨⟨o,e,ex.1⟩,fun a e2=>?_⟩;cases e2;exact ⟨o,e,ex.2.1⟩
 | _=>exact False.elim ty
def tBM (K:PySem.W.Frag) (T:String) (r:V->List V->Hp->VK->Prop) (to:TE) (t:TA):TE:=fun σ H Q=>to σ H fun x H1=>Sq K T x H1/\t σ H1 fun xs H2=>r x xs H2 Q
variable {o e:Expr} {es:List Expr} {to:TE} {t:TA} {name:Str} {apos cpos:Pos} {T id:String} {r:V->List V->Hp->VK->Prop}
theorem uH (pa:PlainAttrs T) (slot:Slot T name id) (hty:typeOf (.builtin id)=pure (.type "method_descriptor")) (hm:MtR X id r) (ho:PE X o to) (ha:PA X (e :: es) t)
  (hbase:attributeBase o name X.env (eval o X.env)=eval o X.env:=by rfl)
  (hfew:((backTo cpos (starEach (e :: es) X.env)).all (fun x=>!x.1) && (backToKw cpos (keywordEach [] X.env)).all (fun x=>x.1.isSome)
   && decide ((e :: es).length+([]:List Keyword).length+(if ([]:List Keyword).isEmpty then 0 else 1) < 30))=true:=by rfl)
  (hline:(apos.endLine == cpos.line)=true:=by rfl) (hs:starEach (e :: es) X.env=(false,eval e X.env) :: starEach es X.env:=by rfl) (hplain:(backTo cpos (starEach es X.env)).any (·.1)=false:=by rfl) :
  PE X (.Call (.Attribute o name apos) (e :: es) [] cpos) (tBM X.K T r to t):=by
 intro pins s σ H Q I h;refine wpAny_Call_method_late hbase hfew hline rfl (gF (ho pins s σ H _ I h) fun v s1 ⟨x,H1,I1,r1,ty,q1⟩=>?_);obtain ⟨h1,h2⟩:=ON I1 r1 ty;refine ⟨T,id,pa,slot,hty,h1,h2,?_⟩;have hA:=ha cpos pins s1 σ H1 _ I1 q1;rw[hs] at hA ⊢;refine Calls.callWith_builtin (by show (false || (backTo cpos (starEach es X.env)).any (·.1))=false;rw[hplain] <;> rfl) (Calls.evalArgs_plain ?_);exact gF hA fun us s2 ⟨vs,H2,I2,r2,q2⟩=>hm pins s2 σ H2 x vs v us Q I2 r1 r2 q2
end
def SR (X:Cx) (id:String) (r:V->List V->Hp->VK->Prop):Prop :=
 ∀(pins:List (Addr×Obj)) (s:Shared) (σ:St) (H:Hp) (x:V) (xs:List V) (v:Value) (us:List Value) (Q:VK),Inv X pins σ H s->RelV x v->cT xs us->r x xs H Q →
  wpAny (model X.prog X.w) X.A (call (.builtin id) (v :: us)) (EP X pins σ Q) X.xe s
theorem cT.one:∀{x:V} {us:List Value},cT [x] us->∃u,us=[u]/\RelV x u
 | _,_,.cons r .nil=>⟨_,rfl,r⟩
theorem cT.eraseIdx:∀{xs:List V} {us:List Value} (i:Nat),cT xs us->cT (xs.eraseIdx i) (us.eraseIdx i)
 | _,_,_,.nil=>.nil
 | _,_,0,.cons _ t=>t
 | _,_,i+1,.cons r t=>.cons r (cT.eraseIdx i t)
theorem cT.rep {xs:List V} {us:List Value} (h:cT xs us):∀k:Nat,cT (List.replicate k xs).flatten (List.replicate k us).flatten
 | 0=>.nil
 | k+1=>by
  rw[m5,m5,ie,ie];exact cT.append h (cT.rep h k)
theorem CH {α:Type}:∀(l:List α) (i:Nat),(l.eraseIdx i).length<=l.length
 | [],_=>aw _
 | _ :: _,0=>o8 _
 | _ :: r,i+1=>dJ (CH r i)
theorem foldl_rep (its:List Value):∀(k:Nat) (acc:List Value),
  List.foldl (fun x1 x2=>x1++x2) acc.toArray (List.replicate k its.toArray)=(acc++(List.replicate k its).flatten).toArray
 | 0,acc=>by simp
 | k+1,acc=>by
  have e:acc.toArray++its.toArray=(acc++its).toArray:=by simp
  have e2:(acc++its)++(List.replicate k its).flatten=acc++(List.replicate (k+1) its).flatten:=by
   rw[m5,ie,b9]
  rw[<- e2,<- foldl_rep its k (acc++its),<- e,m5,List.foldl_cons]
section
variable {X:Cx} {pins:List (Addr×Obj)} {σ:St} {H:Hp} {s:Shared} {l b:Addr} {xs ys zs:List V}
theorem Inv.lset {its its':List Value} {n:Nat} {f:Array Value->Array Value} {t':Nat} (I:Inv X pins σ H s) (hH:H l=some (.lst xs))
  (e:s.heap.get? l=some { cls:=.type "list",data:=.seq its.toArray n }) (hf:f its.toArray=its'.toArray) (hv:cT ys its') (hz:ys.length<=sizeLine) :
  Inv X pins σ (upd H l (.lst ys)) { s with heap:=s.heap.update l (Obj.mapSeq f),toks:=t' }:=by
 have q:=mP e f;rw[hf] at q;refine I.write (x:=l) (e:=l) (by rw[hH];exact trivial) (.inl rfl) (fun b' u hb hu=>(Heap.get?_update_other s.heap (Obj.mapSeq f) (Ne.symm hb)).trans hu) ⟨_,q⟩ ?_;exact ⟨hz,its',_,hv,q⟩
theorem Inv.lnew {its:List Value} {t':Nat} (I:Inv X pins σ H s) (hv:cT ys its) (hz:ys.length<=sizeLine) :
  Inv X pins σ (upd H s.heap.objs.size (.lst ys)) { s with heap:=s.heap.push { cls:=.type "list",data:=.seq its.toArray },toks:=t' } :=
 I.laid (fun _ _ q=>Heap.get?_push_of_some _ q) (aw _) ⟨hz,its,0,hv,Heap.get?_push_size _ rfl⟩
theorem Inv.fresh (I:Inv X pins σ H s):H s.heap.objs.size=none:=I.hok.fresh (aw _)
theorem Inv.lstM (I:Inv X pins σ H s) (hH:H l=some (.lst xs)):xs.length<=sizeLine/\∃(its:List Value) (n:Nat),cT xs its/\xs.length=its.length/\s.heap.get? l=some { cls:=.type "list",data:=.seq its.toArray n }:=by
 obtain ⟨z,its,n,r,e⟩:=I.hok l _ hH;exact ⟨z,its,n,r,r.length,e⟩
theorem E3 {n:Nat} (h:n<=sizeLine):Builtin.List.listTooLong n=false:=by
 unfold Builtin.List.listTooLong;exact decide_eq_false (by lia)
end
section
variable {X:Cx}
def HK:V->List V->Hp->VK->Prop:=fun x vs H Q=>∃l xs y,x=.ref l/\vs=[y]/\H l=some (.lst xs)/\xs.length < sizeLine/\Q .non (upd H l (.lst (xs++[y])))
theorem iT:SR X "list.append" HK:=by
 intro pins s σ H x vs v us Q I rx rv h;obtain ⟨l,xs,y,rfl,rfl,hH,hz,q⟩:=h;cases rx;obtain ⟨u,rfl,ru⟩:=rv.one;obtain ⟨z,its,n,r,hl,e⟩:=I.lstM hH;refine call_meets F.slot_list_append ⟨_,e,rfl⟩ F.entry_list_append (F.args_list_append_2 _ _) (PySem.list_append l its.toArray n u (by rw[aP];lia)) ⟨e,?_⟩;refine ⟨.non,_,I.lset (its':=its++[u]) hH e (by simp) (r.append (.cons ru .nil)) ?_,rfl,q⟩;rw[ak,bx]
 lia
def Nl:V->List V->Hp->VK->Prop:=fun x vs H Q=>∃l b xs zs,x=.ref l/\vs=[.ref b]/\H l=some (.lst xs)/\H b=some (.lst zs)/\xs.length+zs.length<=sizeLine/\Q .non (upd H l (.lst (xs++zs)))
theorem JE:SR X "list.extend" Nl:=by
 intro pins s σ H x vs v us Q I rx rv h;obtain ⟨l,b,xs,zs,rfl,rfl,hH,hB,hz,q⟩:=h;cases rx;obtain ⟨u,rfl,ru⟩:=rv.one;cases ru;obtain ⟨z,its,n,r,hl,e⟩:=I.lstM hH;obtain ⟨z2,its2,n2,r2,hl2,e2⟩:=I.lstM hB;have hsz:its.toArray.size+its2.toArray.size<=sizeLine:=by rw[aP,aP];lia
 have hlong:¬(!its.toArray.isEmpty && Builtin.List.listTooLong (its.toArray.size+its2.toArray.size))=true:=by
  rw[E3 hsz,Bool.and_false];exact bw
 refine call_meets F.slot_list_extend ⟨_,e,rfl⟩ F.entry_list_extend (F.args_list_extend_2 _ _)
  (AutoSeq1.list_extend_list_list_0 l its.toArray n b its2.toArray n2 hlong (by rw[aP];lia) (by lia)) ⟨e,e2,?_⟩
 refine ⟨.non,_,I.lset (its':=its++its2) hH e (by simp) (r.append r2) ?_,rfl,q⟩;rw[ak]
 lia
def Pz:V->List V->Hp->VK->Prop:=fun x vs H Q=>∃l xs i k y,x=.ref l/\vs=[.int i]/\H l=some (.lst xs)/\-(2^63)<=i/\i < 2^63/\seqIndex? i xs.length=some k/\xs[k]?=some y/\Q y (upd H l (.lst (xs.eraseIdx k)))
theorem Lb:SR X "list.pop" Pz:=by
 intro pins s σ H x vs v us Q I rx rv h;obtain ⟨l,xs,i,k,y,rfl,rfl,hH,h1,h2,hk,hy,q⟩:=h;cases rx;obtain ⟨u,rfl,ru⟩:=rv.one;obtain ⟨t,rfl⟩:=ru;obtain ⟨z,its,n,r,hl,e⟩:=I.lstM hH;obtain ⟨w,hw,rw'⟩:=r.get hy
 refine call_meets F.slot_list_pop ⟨_,e,rfl⟩ F.entry_list_pop (F.args_list_pop_2 _ _)
  (MeetsSeq.list_pop_at l its.toArray n i t k w (fitsIndex_both h1 h2) (by rw[aP,<- hl];exact hk) (by rw[<- Array.getElem?_toList];exact hw) (by rw[aP];lia)) ⟨e,?_⟩
 refine ⟨y,_,I.lset (its':=its.eraseIdx k) hH e ?_ (r.eraseIdx k) ?_,rw',q⟩
 ·show its.toArray.eraseIdxIfInBounds k=(its.eraseIdx k).toArray
  rw[List.eraseIdxIfInBounds_toArray]
 ·have:=CH xs k
  lia
def Rv:R2:=fun x y H Q=>∃l b xs zs,x=.ref l/\y=.ref b/\H l=some (.lst xs)/\H b=some (.lst zs)/\xs.length+zs.length<=sizeLine/\∀p,H p=none->Q (.ref p) (upd H p (.lst (xs++zs)))
theorem jF:Ae X (binaryOp .Add) Rv:=by
 intro pins s σ H x y v u Q I rx ry h;obtain ⟨l,b,xs,zs,rfl,rfl,hH,hB,hz,q⟩:=h;cases rx;cases ry;obtain ⟨z,its,n,r,hl,e⟩:=I.lstM hH;obtain ⟨z2,its2,n2,r2,hl2,e2⟩:=I.lstM hB;refine PySem.P.add_list e e2 ?_ (by rw[aP,aP];lia);have ea:its.toArray++its2.toArray=(its++its2).toArray:=by simp
 rw[ea];exact ⟨.ref _,_,I.lnew (t':=s.toks) (r.append r2) (by rw[ak];lia),rfl,q _ I.fresh⟩
def Ro:R2:=fun x y H Q=>∃l k xs,x=.ref l/\y=.int k/\H l=some (.lst xs)/\-(2^63)<=k/\k < 2^63/\xs.length*k.toNat<=sizeLine /\
 ∀p,H p=none->Q (.ref p) (upd H p (.lst (List.replicate k.toNat xs).flatten))
theorem len_rep {α:Type} (xs:List α) (k:Nat):(List.replicate k xs).flatten.length=k*xs.length:=by
 induction k with
 | zero=>simp
 | succ k ih=>rw[m5,ie,ak,ih,dR,qT]
theorem Gi:Ae X (binaryOp .Mult) Ro:=by
 intro pins s σ H x y v u Q I rx ry h;obtain ⟨l,k,xs,rfl,rfl,hH,h1,h2,hz,q⟩:=h;cases rx;obtain ⟨t,rfl⟩:=ry;obtain ⟨z,its,n,r,hl,e⟩:=I.lstM hH;have hlen:its.toArray.size*k.toNat<=sizeLine:=by rw[aP,<- hl];exact hz
 have hcap:¬its.toArray.size*k.toNat > (2^63 - 1) / 8:=by
  have:(sizeLine:Nat)<=(2^63 - 1) / 8:=by decide
  lia
 have hfit:¬(!Builtin.List.listFitsIndex k)=true:=by
  rw[fitsIndex_both h1 h2];exact bw
 have hlong:¬Builtin.List.listTooLong (its.toArray.size*k.toNat)=true:=by
  rw[E3 hlen];exact bw
 have hnew:List.foldl (fun x1 x2=>x1++x2) #[] (List.replicate (if its.toArray.isEmpty=true then 0 else k.toNat) its.toArray)=(List.replicate k.toNat its).flatten.toArray:=by
  have f0:∀m:Nat,List.foldl (fun x1 x2=>x1++x2) #[] (List.replicate m its.toArray)=(List.replicate m its).flatten.toArray:=fun m=>by
   have:=foldl_rep its m [];rw[dh] at this;exact this
  rw[f0];cases its with
  | nil=>simp
  | cons a r'=>rw[if_neg (by simp)]
 refine wpAny_binaryOp_repeat_ref (T:="list") (U:="int") (by decide) ⟨_,e,rfl⟩ (fun s'=>typeIs_int s' k t) noFill_list_mul F.fills_int_mul F.slot_int_rmul repeat_list F.slot_int_index.lookup
  (call_meets F.slot_int_rmul (typeIs_int s k t) F.entry_int_rmul (F.args_int_rmul_2 _ _) (int___rmul___int_list k t l its.toArray n)
   ⟨e,rfl,⟨_,e,rfl⟩,call_meets F.slot_list_mul ⟨_,e,rfl⟩ F.entry_list_mul (F.args_list_mul_2 _ _) (AutoListH.list___mul___list_int_3 l its.toArray n k t hfit hcap hlong) ⟨e,?_⟩⟩)
 rw[hnew];exact ⟨.ref _,_,I.lnew (t':=s.toks) (r.rep k.toNat) (by rw[len_rep,bX];exact hz),rfl,q _ I.fresh⟩
end
end L2
namespace Att
open PySem PySem.W PySem.Calls PyProof.Rows
theorem Ab {P:Params} {h:Heap}:∀(ns:List Int) (vs:List Value),WellAll P h vs (ns.map WData.int)->IntsAre vs ns:=by
 intro ns
 induction ns with
 | nil =>
  intro vs w;rw[IF] at w;cases w;exact .nil
 | cons n ns ih =>
  intro vs w;rw[fV] at w;cases w with
  | cons a b =>
   cases a;exact .cons _ _ (ih _ b)
theorem Jj {l:OpenLaw} {n:Nat} (hn:l.most=some n) {P:Params} {h:Heap} {args:List WData} {vals:List Value}
  (hpre:l.row.toRowW.claim.pre args=true) (hwl:WellAll P h vals args) :
  ∃a vs ns,vals=[Value.ref a]/\args=[WData.list (ns.map WData.int)]/\h.get? a=some { cls:=.type "list",data:=.seq vs.toArray }/\IntsAre vs ns/\ns.length<=n:=by
 have hsh:WShape.hasAll [] args [.list .int]=true:=(pre_splitW hpre).1;have hc:l.pre.holds [] { args:=args }=true:=(pre_splitW hpre).2;obtain ⟨d,r,rfl,h1,h2⟩:=hasAllW_cons hsh;obtain rfl:=hasAllW_nil h2;obtain ⟨xs,rfl,h3⟩:=hasW_list h1;obtain ⟨ns,rfl⟩:=items_int h3
 have hlen:ns.length<=n:=by
  unfold OpenLaw.pre at hc
  have h4:(WTm.not (.lt (.lit (.int (n:Int))) (.len (.arg 0)))).holds [] { args:=[.list (ns.map .int)] }=true:=by
   have h4:=(holds_andW hc).1;rw[hn] at h4;exact h4
  have h5:=condW_of h4 (w_not (w_lt w_lit (w_len_list (w_arg rfl))));rw[aj] at h5;refine Nat.le_of_not_lt fun q=>?_
  have q':(n:Int) < ((ns.length:Nat):Int):=by lia
  first
   | (rw[decide_eq_true q'] at h5;exact absurd h5 (by decide))
   | (simp at h5;lia)
 cases hwl with
 | cons w1 w2 =>
  cases w2;cases w1 with
  | list ho hall=>exact ⟨_,_,ns,rfl,rfl,ho,Ab ns _ hall,hlen⟩
theorem Ju (l:OpenLaw) (args:List WData):l.row.toRowW.claim.post args (.bool true) args=true :=
 postW_of (r:=l.row.toRowW) (X:=(true == true))
  (show WShape.has [] (.bool true) .bool=true by first | rfl | decide | simp [WShape.has,WShape.arms,WShape.armsAll])
  (show (WTm.eq .res (.lit (.bool true))).value [] { args:=args,res:=some (.bool true),after:=args }=some (.bool (true == true)) from w_eq_bool (w_res rfl) w_lit) rfl
theorem Fp {l:OpenLaw} {n:Nat} {q:Program} {loose:List Str} {XP:(Str->Option Value)->Heap->Prop} {YP:World->Heap->Prop} {d:DefRec}
  (hn:l.most=some n) (hdf:d.params.defaults=[])
  (call:∀(w:World) (s₀ s₁:Shared) (mg mb:Str->Option Value) (fa:Addr) (o:Obj) (pm cd doc:Value) (a:Addr) (vs:List Value) (ns:List Int),
   Ground q loose [] XP w s₀ mg mb s₁.heap->YP w s₁.heap →
   s₁.heap.get? fa=some o->o.data=.func (docDef d.name d.params d.body d.scope pm cd doc)->s₁.heap.CodeRec cd d.name->mg d.name=some (.ref fa) →
   s₁.heap.get? a=some { cls:=.type "list",data:=.seq vs.toArray }->IntsAre vs ns->ns.length<=n->s₁.gens=#[] →
   codeAny (model l.prog w) callerA (.call (.ref fa) ⟨[.ref a],[]⟩) (fun r s'=>r=.ok (.ret (.bool true))/\OldK s₁.heap s'.heap/\s'.os=s₁.os/\AllBare s'.gens) s₁) :
  WalkO q loose XP YP l.row.toRowW d [] (fun f vs=>PySem.call f vs):=by
 intro w s₀ s₁ mg mb G Y fa o pm cd doc dV kV ho hd hcd hD hmg hg args vals as hpre hlay hrd hwl hlo;obtain rfl:dV=.none:=Dflts.none hD hdf;obtain rfl:kV=.none:=Dflts.noKw hD;obtain ⟨a,vs,ns,rfl,rfl,hobj,hints,hlen⟩:=Jj hn hpre hwl;refine enter_call (codeAny_mono (call w s₀ s₁ mg mb fa o pm cd doc a vs ns G Y ho (fd_plain hd) hcd hmg hobj hints hlen hg) fun r s' hq=>?_);obtain ⟨rfl,h2,h3,h4⟩:=hq;exact ⟨.inl ⟨.bool true,.bool true,[],rfl,fun _=>rfl,.bool true,Ju l _,fun _=>⟨List.Pairwise.nil,fun _ hm=>(nomatch hm)⟩⟩,h2,h3,h4⟩
section
variable {prog:Program} {w:World} {A:Around} {E:Value->Shared->Prop} {s:Shared} {K:Frag}
end
end Att
namespace L2
open PySem PySem.Spec PyProof.Rows
theorem Cm:∀{vs:List Value} {ns:List Int},IntsAre vs ns->cT (ns.map V.int) vs
 | _,_,.nil=>.nil
 | _,_,.cons n t h=>.cons ⟨t,rfl⟩ (Cm h)
def Qn (H:Hp):Prop:=∀b,H b=none\/∃o xs,H b=some (.frz o (.lst xs))
theorem Ll {P : Program} {w : World} {K : PySem.W.Frag} {mg mb : Str → Option Value} {CX : Mf} {k : Nat} {fa a : Addr} {fd : FuncData} {x : Str} {sp : Sp} {s₁ : Shared} {vs : List Value} {ns : List Int}
    (KX : K.In s₁.heap) (hns : s₁.heap.Ns mainGlobals mg) (hb : s₁.heap.Ns builtinsNs mb) (hbb : ∀ x : Str, x ≠ "__name__" → mb x = bootBuiltins x) (hlim : s₁.heap.NoLimit) (hg : s₁.gens = #[])
    (ha : s₁.heap.get? a = some { cls := .type "list", data := .seq vs.toArray }) (hi : IntsAre vs ns) (hl : ns.length ≤ sizeLine) (hr : m9 k callerA)
    (F : ∀ base : Heap, K.In base → base.Ns mainGlobals mg → cU P w K mg base CX k fa fd [x] sp) (hbind : ∀ (s : Shared) (u : Value), BindsTo s fd ⟨[u], []⟩ [(x, u)])
    (hsp : ∀ H : Hp, Qn H → bU K H a (ns.map V.int) → sp [.ref a] H (fun v _ => v = .bl true) fun _ _ _ => False)
    (hCX : ∀ H e s', CX [] H s₁ (fun _ _ _ => False) e s' → False) :
    codeAny (model P w) callerA (.call (.ref fa) ⟨[.ref a], []⟩) (fun r s' => r = .ok (.ret (.bool true)) /\ OldK s₁.heap s'.heap /\ s'.os = s₁.os /\ AllBare s'.gens) s₁ := by
  have rv := Cm hi;have lenV := hi.length
  have core : ∀ H : Hp, Qn H → bU K H a (ns.map V.int) → Ax P w H s₁.heap → (∀ b, H b ≠ none → b = a) → (H a ≠ none → K.lookup a = none) →
      codeAny (model P w) callerA (.call (.ref fa) ⟨[.ref a], []⟩) (fun r s' => r = .ok (.ret (.bool true)) /\ OldK s₁.heap s'.heap /\ s'.os = s₁.os /\ AllBare s'.gens) s₁ := by
    intro H hO hS hok hA hK;have base_of : ∀ {b : Addr} {o : Obj}, s₁.heap.get? b = some o → H b = none → (DV s₁.heap H).get? b = some o := fun e n => Ly e n
    have noA : ∀ {b : Addr} {o : Obj} {es : Array DictEntry} {ep : Nat}, s₁.heap.get? b = some o → o.data = .dict es ep → H b = none := fun {b o es ep} e d => by
      cases q : H b with
      | none => rfl
      | some u =>
        have e' : b = a := hA b (by rw [q]; simp);subst e';rw [ha] at e; cases e;have d' : Data.seq vs.toArray _ = Data.dict es ep := d;cases d'
    have nsK : ∀ {b : Addr} {m : Str → Option Value}, s₁.heap.Ns b m → (DV s₁.heap H).Ns b m := fun {b m} ⟨o, es, ep, e, d, r⟩ => ⟨o, es, ep, base_of e (noA e d), d, r⟩
    have hKb : K.In (DV s₁.heap H) := fun b o e => base_of (KX b o e) (by
      cases q : H b with
      | none => rfl
      | some u =>
        have e' : b = a := hA b (by rw [q]; simp);subst e';rw [hK (by rw [q]; simp)] at e; cases e)
    have hM : Mod K mg (DV s₁.heap H) := ⟨hKb, nsK hns, ⟨mb, nsK hb, hbb⟩, let ⟨mc, h1, h2⟩ := hlim; ⟨mc, nsK h1, h2⟩⟩;have e0 : Hv P w K mg (DV s₁.heap H) callerA [] s₁ H := ⟨rfl, hM, fun b o e => NB e, Nat.le_of_eq (JM _ _), trivial, fun b hb => absurd (show b ∈ ([] : List Addr) from hb) (by simp), hok, .of_eq hg⟩;refine codeAny_mono ((F _ hKb (nsK hns)).run callerA [] s₁ H ⟨[.ref a], []⟩ [.ref a] [.ref a] _ _ hr e0 (hbind s₁ (.ref a)) (.cons rfl .nil) (hsp H hO hS)) fun r s' h => ?_
    cases r with
    | error e => exact (hCX H e s' h).elim
    | ok fl =>
      cases fl with
      | next => exact False.elim h
      | brk => exact False.elim h
      | cont => exact False.elim h
      | ret u =>
        obtain ⟨v, H', os, bare, un, hok', r', q⟩ := h;have q' : v = .bl true := q;subst q';obtain rfl : u = Value.bool true := r';refine ⟨rfl, OldK.of_keep fun b o e => ?_, os, bare⟩;cases q : H b with
        | none => exact un.keep b o e q (by intro z; exact absurd (show b ∈ ([] : List Addr) from z) (by simp)) (by simp)
        | some u =>
          rcases hO b with z | ⟨ob, xs, z⟩
          · rw [q] at z; cases z
          · have z2 := un.frzs b ob _ z;obtain ⟨e1, _⟩ := hok b _ z;obtain ⟨e2, _⟩ := hok' b _ z2;rw [e] at e1; cases e1;exact e2
  cases hk : K.lookup a with
  | some o =>
    have e := KX a o hk;rw [ha] at e;cases e;refine core (fun _ => none) (fun _ => .inl rfl) (.inr ⟨_, vs.toArray, _, hk, rfl, rfl, rfl, by rw [aP, lenV]; exact hl, by simpa using rv⟩) (fun b u z => by have z' : (none : Option HO) = some u := z; cases z') (fun b z => absurd rfl z) fun z => absurd rfl z
  | none =>
    refine core (fun b => if b = a then some (.frz { cls := .type "list", data := .seq vs.toArray } (.lst (ns.map V.int))) else none) (fun b => ?_) (.inl (.inr ⟨{ cls := .type "list", data := .seq vs.toArray }, if_pos rfl⟩)) (fun b u z => ?_) (fun b z => ?_) fun _ => hk
    · by_cases hb : b = a
      · exact .inr ⟨_, _, if_pos hb⟩
      · exact .inl (if_neg hb)
    · by_cases hb : b = a
      · have z' := (if_pos hb).symm.trans z;cases z';subst hb;exact ⟨ha, by rw [aj]; exact hl, vs, _, rv, ha⟩
      · have z' := (if_neg hb).symm.trans z;cases z'
    · by_cases hb : b = a
      · exact hb
      · exact absurd (if_neg hb) z
theorem Mn {l:PySem.W.OpenLaw} {n k:Nat} {q:Program} {loose:List Str} {XP:(Str->Option Value)->Heap->Prop} {YP:World->Heap->Prop} {d:DefRec} {K:Params->PySem.W.Frag} {CX:World->Mf} {sp:World->Sp} {x:Str}
  (hn:l.most=some n) (hn2:n<=sizeLine) (hdf:d.params.defaults=[]) (hr:m9 k callerA)
  (hY:∀(w:World) (h:Heap),YP w h->(K w.params).In h)
  (F:∀(w:World) (mg:Str->Option Value) (fa:Addr) (h:Heap),(K w.params).In h->h.Ns mainGlobals mg->mg d.name=some (.ref fa) →
   ∃fd:FuncData,(∀(s:Shared) (u:Value),BindsTo s fd ⟨[u],[]⟩ [(x,u)]) /\
    ∀base:Heap,(K w.params).In base->base.Ns mainGlobals mg->cU l.prog w (K w.params) mg base (CX w) k fa fd [x] (sp w))
  (hsp:∀(w:World) (H:Hp) (a:Addr) (ns:List Int),ns.length<=n->Qn H->bU (K w.params) H a (ns.map V.int)->sp w [.ref a] H (fun v _=>v=.bl true) fun _ _ _=>False)
  (hCX:∀(w:World) (H:Hp) (s:Shared) (e:Value) (s':Shared),CX w [] H s (fun _ _ _=>False) e s'->False) :
  PySem.W.WalkO q loose XP YP l.row.toRowW d [] (fun f vs=>PySem.call f vs):=by
 refine Att.Fp hn hdf fun w s₀ s₁ mg mb fa o pm cd doc a vs ns G Y ho hd hcd hmg hobj hints hlen hg=>?_
 have KX:=hY w _ Y;obtain ⟨fd,hb,hF⟩:=F w mg fa _ KX G.T.g hmg;exact Ll KX G.T.g G.T.b G.T.builtins G.T.nolimit hg hobj hints (ai hlen hn2) hr hF hb (fun H hO hS=>hsp w H a ns hlen hO hS) fun H e s'=>hCX w H s₁ e s'
end L2


namespace L2
open PySem PySem.Spec PyProof.Rows
def inClass (s:Stmt) (j:Nat):Stmt:=match s with
 | .ClassDef _ _ _ body _ _ _ _ _ _ _=>body.getD j (.Pass ⟨0,0,0,0⟩)
 | _=>.Pass ⟨0,0,0,0⟩
def bp (s:Stmt):Arguments:=match s with
 | .FunctionDef _ a _ _ _ _ _ _ _ _=>a
 | _=>{ posonlyargs:=[],args:=[],vararg:=none,kwonlyargs:=[],kw_defaults:=[],kwarg:=none,defaults:=[] }
def ba (s:Stmt):List Stmt:=match s with
 | .FunctionDef _ _ b _ _ _ _ _ _ _=>b
 | _=>[]
def ay (s:Stmt):Scope:=match s with
 | .FunctionDef _ _ _ _ _ _ sc _ _ _=>sc
 | _=>{ kind:=.function,names:=[],isGenerator:=false,isCoroutine:=false }
abbrev gE:Mf:=fun _ _ _ _ _ _=>False
abbrev E0:XK:=fun _ _ _=>False
theorem HR {X:Cx}:zo gE X E0:=fun _ _ _ _ _ _ _ h=>h.elim
theorem cX {X:Cx} {k k':Nat} {f:Addr} {fd:FuncData} {ps:List Str} {sp:Sp} {x:Str} {p pos:Pos} {e:Expr} {es:List Expr} {t:TA} (F:cU X.prog X.w X.K X.mg X.base gE k f fd ps sp) (hr:m9 k' X.A) (hm:X.mg x=some (.ref f)) (hk:PySem.W.keepIn X.K (.ref f)=true) (hb:Binds X.K fd ps []) (ha:PA X (e::es) t) (hle:k<=k':=by decide) (hg:Gl X x:=by exact rfl) (hdb:(x==("__debug__":Str))=false:=by decide) (he:starEach (e::es) X.env=(false,eval e X.env)::starEach es X.env:=by rfl) (hpl:(backTo pos (starEach es X.env)).any (·.1)=false:=by rfl):PE X (.Call (.Name x p) (e::es) [] pos) (Kg sp [] E0 t):=Nv F (hr.mono hle) hg hm hk hb .nil HR ha hdb he hpl
structure gW (K:PySem.W.Frag) (x qual:Str) (st:Stmt) (f:Addr) (fd:FuncData):Prop where
 ex:∃(oc:Value) (od:Option Addr) (kV doc pm:Value) (an:Option Addr) (cdv ct:Value) (osl:Array (Option Value)),
  fd=PySem.W.fnOf x qual (bp st) (ba st) (ay st) .none kV doc pm an cdv ct/\K.lookup f=some ⟨oc,od,.func fd,osl⟩/\PySem.W.codeIn K cdv qual=true
 kp:PySem.W.keepIn K (.ref f)=true
section
variable {P:Program} {w:World} {K:PySem.W.Frag} {mg:Str->Option Value} {base:Heap}
theorem gW.ok {x qual:Str} {st:Stmt} {f:Addr} {fd:FuncData} {N ps:List Str} {k:Nat} {sp:Sp} (F:gW K x qual st f fd) (S:bu N ps (ay st)) (len:∀vs H Q E,sp vs H Q E->vs.length=ps.length)
  (hbody:∀(cdv:Value) (A:Around) (outer:List Env) (s:Shared) (H:Hp) (vs:List V) (Q:VK) (E:XK),m9 k (A.deeper (envOfC qual (ay st) s.heap.objs.size f cdv))->sp vs H Q E →
   ∃t,Hq (JP gE P w K mg base N qual (ay st) f cdv A outer s H E).nox (ba st) t/\t { nx:=fun _ H'=>Q .non H',rt:=Q } (start N vs) H):cU P w K mg base gE (k+1) f fd ps sp:=by
 obtain ⟨oc,od,kV,doc,pm,an,cdv,ct,osl,rfl,lk,hcd⟩:=F.ex;refine RP lk hcd S len fun A outer s H vs Q E hr hsp=>?_
 obtain ⟨t,h,q⟩:=hbody cdv A outer s H vs Q E hr hsp;exact ⟨t,h.nox,q⟩
theorem gW.binds {x qual:Str} {st:Stmt} {f:Addr} {fd:FuncData} {ps:List Str} (F:gW K x qual st f fd)
  (h:∀(kV doc pm:Value) (an:Option Addr) (cdv ct:Value) (us:List Value),us.length=ps.length->bindArgs (PySem.W.fnOf x qual (bp st) (ba st) (ay st) .none kV doc pm an cdv ct) ⟨us,[]⟩=pure (ps.zip us)):Binds K fd ps []:=by
 obtain ⟨oc,od,kV,doc,pm,an,cdv,ct,osl,rfl,lk,hcd⟩:=F.ex;exact .all (h kV doc pm an cdv ct)
theorem bR {x qual:Str} {st:Stmt} {f:Addr} {oc:Value} {od an:Option Addr} {osl:Array (Option Value)} {kV doc pm cdv ct:Value} (l:K.lookup f=some ⟨oc,od,.func (PySem.W.fnOf x qual (bp st) (ba st) (ay st) .none kV doc pm an cdv ct),osl⟩)
  (c:PySem.W.codeIn K cdv qual=true) (k:PySem.W.keepIn K (.ref f)=true):gW K x qual st f (PySem.W.fnOf x qual (bp st) (ba st) (ay st) .none kV doc pm an cdv ct):=⟨⟨oc,od,kV,doc,pm,an,cdv,ct,osl,rfl,l,c⟩,k⟩
end
theorem bG {n:Nat} (h:n<=1000):n < sizeLine:=bB h (by decide)
section
variable {X:Cx}
theorem pv (i:Nat) {x:Str} {pos:Pos} (hN:X.N[i]?=some x:=by rfl) (hv:SJ X.env.scope x:=by first | exact Or.inl rfl | exact Or.inr (Or.inl rfl) | exact Or.inr (Or.inr rfl)) (hd:(x == ("__debug__":Str))=false:=by decide)
  (hcd:(x == ("__classdict__":Str))=false:=by decide):PE X (.Name x pos) (OQ i):=PK hN hv hd hcd
end
theorem NH {A B:Prop} (h:B):if false=true then A else B:=by
 rw[if_neg bw];exact h
theorem RH {A B:Prop} (h:A):if true=true then A else B:=by
 rw[if_pos rfl];exact h
theorem gZ {c A B:Prop} [Decidable c] (h1:c->A) (h2:¬c->B):if c then A else B:=by
 by_cases h:c
 ·rw[if_pos h];exact h1 h
 ·rw[if_neg h];exact h2 h
def aJ (H H':Hp):Prop:=∀b o,H b=some o->H' b=some o
theorem aJ.refl (H:Hp):aJ H H:=fun _ _ h=>h
theorem aJ.trans {H H1 H2:Hp} (a:aJ H H1) (b:aJ H1 H2):aJ H H2:=fun c o h=>b c o (a c o h)
theorem aJ.free {H H':Hp} (e:aJ H H') {l:Addr} (h:H' l=Option.none):H l=Option.none:=by
 cases q:H l with
 | none=>rfl
 | some o =>
  rw[e l o q] at h;cases h
theorem aJ.seq {K:PySem.W.Frag} {H H':Hp} {a:Addr} {xs:List V} (e:aJ H H') (h:bU K H a xs):bU K H' a xs:=by
 rcases h with (h | ⟨o,h⟩) | h
 ·exact .inl (.inl (e _ _ h))
 ·exact .inl (.inr ⟨o,e _ _ h⟩)
 ·exact .inr h
end L2
namespace Nm
theorem LD (a b:Int):Int.gcd b (a.fmod b)=Int.gcd a b:=by
 rw[Int.fmod_def,mR a b];apply Nat.dvd_antisymm
 ·apply Md
  ·exact eX ..
  ·have h1:=eX (a:=b) (b:=a - b*a.fdiv b);have h2:=fu (a:=b) (b:=a - b*a.fdiv b);have h3:=Int.dvd_add h2 (pk (c:=a.fdiv b) h1);rwa [Int.sub_add_cancel] at h3
 ·apply Md
  ·exact eX ..
  ·exact Int.dvd_sub (fu ..) (pk (eX ..))
theorem LF (a b:Int):Int.gcd b (a % b)=Int.gcd a b:=by
 rw[Int.emod_def,mR a b];apply Nat.dvd_antisymm
 ·apply Md
  ·exact eX ..
  ·have h1:=eX (a:=b) (b:=a - b*(a / b));have h2:=fu (a:=b) (b:=a - b*(a / b));have h3:=Int.dvd_add h2 (pk (c:=a / b) h1);rwa [Int.sub_add_cancel] at h3
 ·apply Md
  ·exact eX ..
  ·exact Int.dvd_sub (fu ..) (pk (eX ..))
theorem NL (a b:Int) (h:b≠0):(a.fmod b).natAbs < b.natAbs:=by
 rcases Int.lt_or_gt_of_ne h with h | h
 ·have e:a.fmod b=-((-a).fmod (-b)):=by
   have:=Int.neg_fmod_neg (-a) (-b);simp only[Int.neg_neg] at this;exact this
  have h1:=Int.fmod_nonneg_of_pos (-a) (b:=-b) (by lia);have h2:=Int.fmod_lt_of_pos (-a) (b:=-b) (by lia)
  lia
 ·have h1:=Int.fmod_nonneg_of_pos a h;have h2:=Int.fmod_lt_of_pos a h
  lia
def g (t b:Int):Int:=(Int.gcd t b:Int)
def lo (t b:Int):Int:=t / g t b
def hi (t b:Int):Int:=b / g t b
theorem Bs {t b:Int} (h:b≠0):0 < g t b:=by
 unfold g;have:0 < Int.gcd t b:=Ml _ h
 lia
theorem Bn (t b:Int):lo t b*g t b=t:=Int.ediv_mul_cancel (eX ..)
theorem zd (t b:Int):hi t b*g t b=b:=Int.ediv_mul_cancel (fu ..)
theorem DW {t b:Int} (h:0 < b):0 < hi t b:=by
 have h1:=Bs (t:=t) (b:=b) (by lia);have h2:=zd t b;by_cases h3:0 < hi t b
 ·exact h3
 ·have:hi t b*g t b<=0:=Int.mul_nonpos_of_nonpos_of_nonneg (by lia) (by lia)
  lia
theorem Bl {t b:Int} (h:b≠0):Int.gcd (lo t b) (hi t b)=1:=by
 have h1:=Bs (t:=t) h;have e:=Int.gcd_mul_right (lo t b) (g t b) (hi t b);rw[Bn,zd] at e;have e2:(g t b).natAbs=Int.gcd t b:=by unfold g;simp
 rw[e2] at e;have h2:0 < Int.gcd t b:=Ml _ h;exact Nat.eq_of_mul_eq_mul_right h2 (by rw[<- e,yK])
theorem Bm (t b : Int) : lo t b * b = t * hi t b := by
  have h1 := Bn t b;have h2 := zd t b
  calc lo t b * b = lo t b * (hi t b * g t b) := by rw [h2]
    _ = (lo t b * g t b) * hi t b := by rw [fL (hi t b), <- dP]
    _ = t * hi t b := by rw [h1]
theorem sU {a b c:Int} (h:Int.gcd a b=1) (hd:a∣b*c):a∣c:=by
 have h1:a.natAbs∣b.natAbs*c.natAbs:=by rw[<- cO];exact eN.mpr hd
 have h2:Nat.Coprime a.natAbs b.natAbs:=h;exact eN.mp (h2.dvd_of_dvd_mul_left h1)
theorem uniq {a b c d:Int} (hb:0 < b) (hd:0 < d) (h1:Int.gcd a b=1) (h2:Int.gcd c d=1) (e:a*d=c*b):a=c/\b=d:=by
 have e1:b∣d:=by
  have:b∣a*d:=⟨c,by rw[e,fL]⟩;exact sU (by rw[mR];exact h1) this
 have e2:d∣b:=by
  have:d∣c*b:=⟨a,by rw[<- e,fL]⟩;exact sU (by rw[mR];exact h2) this
 have e3:b=d:=Int.dvd_antisymm (by lia) (by lia) e1 e2;subst e3;exact ⟨xh (by lia) e,rfl⟩
theorem PV {t b c d : Int} (hb : 0 < b) (hd : 0 < d) (h2 : Int.gcd c d = 1) (e : t * d = c * b) : lo t b = c /\ hi t b = d := by
  refine uniq (DW hb) hd (Bl (by lia)) h2 ?_;have h := Bm t b;have hb' : b ≠ 0 := by lia
  apply xh hb'
  calc lo t b * d * b = lo t b * b * d := by rw [dP, fL d b, <- dP]
    _ = t * hi t b * d := by rw [h]
    _ = t * d * hi t b := by rw [dP, fL (hi t b), <- dP]
    _ = c * b * hi t b := by rw [e]
    _ = c * hi t b * b := by rw [dP, fL b, <- dP]
theorem PX {a b:Int} (hb:0 < b) (h:Int.gcd a b=1):lo a b=a/\hi a b=b:=PV hb hb h rfl
theorem qZ {a b:Int} (h:b≠0):a.natAbs<=(a*b).natAbs:=by
 rw[cO];exact dC _ (Int.natAbs_pos.mpr h)
theorem lo_le {t b:Int} (h:b≠0):(lo t b).natAbs<=t.natAbs:=by
 have:=qZ (a:=lo t b) (b:=g t b) (by have:=Bs (t:=t) h;lia);rwa [Bn] at this
theorem Oz {t b:Int} (h:b≠0):(hi t b).natAbs<=b.natAbs:=by
 have:=qZ (a:=hi t b) (b:=g t b) (by have:=Bs (t:=t) h;lia);rwa [zd] at this
def Sz (k:Nat) (x:Int):Prop:=x.natAbs < 2^k
theorem Sz.mono {j k:Nat} {x:Int} (h:Sz j x) (l:j<=k):Sz k x:=bM h (av (by decide) l)
theorem Sz.mul {j k:Nat} {x y:Int} (h1:Sz j x) (h2:Sz k y):Sz (j+k) (x*y):=by
 unfold Sz at *
 rw[cO,bD];exact Nat.mul_lt_mul'' h1 h2
theorem Sz.neg {k:Nat} {x:Int} (h:Sz k x):Sz k (-x):=by unfold Sz at *;rw[kQ];exact h
theorem Sz.le {k:Nat} {x y:Int} (h:Sz k y) (l:x.natAbs<=y.natAbs):Sz k x:=bB l h
theorem Sz.hi {k:Nat} {t b:Int} (h:Sz k b) (hb:b≠0):Sz k (hi t b):=h.le (Oz hb)
end Nm
namespace L2
open PySem PySem.Spec PyProof.Rows
structure Bk (env:Env) (scope:Scope) (own capN:List Str):Prop where
 kind:scope.kind=.function
 locs:∀y∈scope.names,y.2=.local->scope.names.lookup y.1=some .local
 ownk:∀x∈own,scope.names.lookup x=some .local\/scope.names.lookup x=some .cell
 cells:∀y∈scope.names,y.2=.cell->y.1∈own/\y.1∉capN
 frees:∀y∈scope.names,y.2=.free->y.1∈capN/\y.1∉own
 capf:∀x∈capN,scope.names.lookup x=some .free
 caps:∀x∈capN,env.kindOf x=some .cell\/env.kindOf x=some .free
def Sg (scope:Scope) (own capN:List Str):Bool :=
 decide (scope.kind=.function) && scope.names.all (fun y=>decide (y.2=.local->scope.names.lookup y.1=some .local) && decide (y.2=.cell->y.1∈own/\y.1∉capN) && decide (y.2=.free->y.1∈capN/\y.1∉own)) &&
 own.all (fun x=>decide (scope.names.lookup x=some .local\/scope.names.lookup x=some .cell)) && capN.all fun x=>decide (scope.names.lookup x=some .free)
def CV (env:Env):List Str->Bool
 | []=>true
 | x :: r=>(match env.kindOf x with | some .cell=>true | some .free=>true | _=>false) && CV env r
theorem Fl {env:Env}:∀{capN:List Str},CV env capN=true->∀x∈capN,env.kindOf x=some .cell\/env.kindOf x=some .free
 | [],_,_,h=>nomatch h
 | y :: r,h,x,hx=>by
  unfold CV at h;rw[dW] at h;rcases aF.mp hx with e | hx
  ·subst e;have h1:=h.1
   split at h1
   ·rename_i e;exact .inl e
   ·rename_i e;exact .inr e
   ·cases h1
  ·exact Fl h.2 x hx
theorem Bk.of {env:Env} {scope:Scope} {own capN:List Str} (h1:Sg scope own capN=true) (h2:CV env capN=true):Bk env scope own capN:=by
 unfold Sg at h1;rw[dW,dW,dW,sC,sC,sC] at h1;obtain ⟨⟨⟨a1,a2⟩,a3⟩,a4⟩:=h1
 have a2':∀y∈scope.names,(y.2=.local->scope.names.lookup y.1=some .local)/\(y.2=.cell->y.1∈own/\y.1∉capN)/\(y.2=.free->y.1∈capN/\y.1∉own):=fun y hy=>by
  have q:=a2 y hy;rw[dW,dW] at q;exact ⟨of_decide_eq_true q.1.1,of_decide_eq_true q.1.2,of_decide_eq_true q.2⟩
 exact ⟨of_decide_eq_true a1,fun y hy=>(a2' y hy).1,fun x hx=>of_decide_eq_true (a3 x hx),fun y hy=>(a2' y hy).2.1,fun y hy=>(a2' y hy).2.2,fun x hx=>of_decide_eq_true (a4 x hx),Fl h2⟩
def d5 (env:Env):List (Str×NameKind)->List (Str×Addr)->List (Str×Addr)
 | [],acc=>acc
 | (n,k) :: r,acc=>if k == .free then d5 env r ((n,(env.cells.lookup n).getD 0) :: acc) else d5 env r acc
theorem iY (env:Env):∀(names:List (Str×NameKind)) (acc:List (Str×Addr)),d5 env names acc=d5 env names []++acc
 | [],_=>rfl
 | (n,k) :: r,acc=>by
  unfold d5
  split
  ·rw[iY env r (_ :: acc),iY env r [_],b9];rfl
  ·exact iY env r acc
theorem tu (env:Env):∀(names:List (Str×NameKind)) {x:Str} {c:Addr},(x,c)∈d5 env names []->(x,NameKind.free)∈names/\c=(env.cells.lookup x).getD 0
 | [],_,_,h=>nomatch h
 | (n,k) :: r,x,c,h=>by
  unfold d5 at h
  split at h
  ·rename_i hk
   have ek:k=.free:=by simpa using hk
   subst ek;rw[iY] at h;rcases au.mp h with h | h
   ·have q:=tu env r h;exact ⟨cb _ q.1,q.2⟩
   ·have e:(x,c)=(n,(env.cells.lookup n).getD 0):=by simpa using h
    cases e;exact ⟨dD,rfl⟩
  ·have q:=tu env r h;exact ⟨cb _ q.1,q.2⟩
theorem jG {α:Type}:∀{l:List (Str×α)} {x:Str} {c:α},(x,c)∈l->∃d,l.lookup x=some d
 | (k,v) :: r,x,c,h=>by
  rw[mQ];cases hb:x == k with
  | true=>exact ⟨v,rfl⟩
  | false =>
   rcases aF.mp h with e | h
   ·cases e;simp at hb
   ·exact jG h
theorem tw (env:Env):∀(names:List (Str×NameKind)) {x:Str},(x,NameKind.free)∈names->∃c,(x,c)∈d5 env names []
 | (n,k) :: r,x,h=>by
  unfold d5;rcases aF.mp h with e | h
  ·cases e;rw[if_pos (by decide),iY];exact ⟨_,bV _ dD⟩
  ·obtain ⟨c,q⟩:=tw env r h
   split
   ·rw[iY];exact ⟨c,kO _ q⟩
   ·exact ⟨c,q⟩
theorem Bw {scope : Scope} {env : Env} (h : ∀ y ∈ scope.names, y.2 = .free → ∃ c, env.cells.lookup y.1 = some c) : closureFor scope env = pure (d5 env scope.names []) := by
  have gen : ∀ (names : List (Str × NameKind)) (acc : List (Str × Addr)) (f : Str × NameKind → List (Str × Addr) → Sem (ForInStep (List (Str × Addr)))),
      (∀ name kind cells, f (name, kind) cells = if kind == .free then (do let a <- cellOf env name; pure (.yield ((name, a) :: cells))) else pure (.yield cells)) →
      (∀ y ∈ names, y.2 = .free → ∃ c, env.cells.lookup y.1 = some c) → forIn names acc f = pure (d5 env names acc) := by
    intro names
    induction names with
    | nil => intro acc f hf _; rw [Dc]; rfl
    | cons y r ih =>
      intro acc f hf hh;obtain ⟨n, k⟩ := y;rw [Mj, hf];unfold d5;by_cases hk : (k == NameKind.free) = true
      · obtain ⟨c, hc⟩ := hh (n, k) dD (by simpa using hk);have hc' : env.cells.lookup n = some c := hc;have e : cellOf env n = pure c := by unfold cellOf; rw [hc']
        rw [if_pos hk, if_pos hk, e, hc'];simp only [pure_bind, Option.getD_some];exact ih _ f hf fun y hy => hh y (cb _ hy)
      · rw [if_neg hk, if_neg hk];simp only [pure_bind];exact ih _ f hf fun y hy => hh y (cb _ hy)
  simp only [closureFor];rw [gen scope.names [] _ (fun name kind cells => by cases hkc : kind == NameKind.free <;> simp [hkc]) h];rfl

theorem fB:∀(names:List (Str×NameKind)) (n:Nat) (acc:List (Str×Addr)),cellsFrom n names acc=cellsFrom n names []++acc
 | [],_,_=>rfl
 | (x,k) :: r,n,acc=>by
  unfold cellsFrom
  split
  ·rw[fB r (n+1) (_ :: acc),fB r (n+1) [_],b9];rfl
  ·exact fB r n acc
theorem my:∀(names:List (Str×NameKind)) (n:Nat) {x:Str} {c:Addr},(x,c)∈cellsFrom n names []->(x,NameKind.cell)∈names
 | [],_,_,_,h=>nomatch h
 | (y,k) :: r,n,x,c,h=>by
  unfold cellsFrom at h
  split at h
  ·rename_i hk
   have ek:k=.cell:=by simpa using hk
   subst ek;rw[fB] at h;rcases au.mp h with h | h
   ·exact cb _ (my r _ h)
   ·have e:(x,c)=(y,n):=by simpa using h
    cases e;exact dD
  ·exact cb _ (my r _ h)
def zg (env:Env) (scope:Scope) (C:Addr):Env :=
 { scope:=relabel scope env,locals:=C,globals:=env.globals,cells:=cellsFrom (C+1) scope.names (d5 env scope.names []),qual:=env.qual,func:=none,code:=env.code,frame:=env.frame,builtins:=env.builtins }
theorem E5 {M:Model} {A:Around} {E:Value->Shared->Prop} {s:Shared} {scope:Scope} {g:Addr} {cl:List (Str×Addr)} {qual:Str} {env:Env} {Q:Env->Shared->Prop}
  (h:Q (newEnv scope s.heap.objs.size g (cellsFrom (s.heap.objs.size+1) scope.names cl) qual none .none (some env) builtinsNs) { s with heap:=pushCells (s.heap.push { cls:=.type "dict",data:=.dict #[] }) scope.names }) :
  wpAny M A (newFunctionEnv scope g cl [] qual none .none (some env)) Q E s:=by
 simp only[newFunctionEnv,Option.isSome_some,if_true];refine wpAny_bind (wpAny_alloc ?_);refine wpAny_bind (wpAny_layCells _ (fun name kind cells=>by cases hkc:kind == NameKind.cell <;> simp [hkc]) _ _ _ _ ?_);rw[show ({ s with heap:=s.heap.push { cls:=.type "dict",data:=.dict #[] } }:Shared).heap.objs.size=s.heap.objs.size+1 from Heap.size_push ..];rw[Dc];exact wpAny_bind (wpAny_pure (wpAny_pure h))
theorem xN {scope:Scope} {env:Env} {x:Str}:∀{k:NameKind},(relabel scope env).names.lookup x=some k->∃k0,scope.names.lookup x=some k0/\(k=k0\/(k0=.free/\k=.cell)):=by
 unfold relabel;show ∀{k:NameKind},(scope.names.map fun (n,k)=>if (k == NameKind.free && env.scope.kind == .function && env.kindOf n == some .cell) then (n,NameKind.cell) else (n,k)).lookup x=some k->_
 induction scope.names with
 | nil=>intro k h;cases h
 | cons y r ih =>
  intro k h;obtain ⟨n,k1⟩:=y;rw[fV,mQ] at h;rw[mQ];by_cases hc:(k1 == NameKind.free && env.scope.kind == .function && env.kindOf n == some .cell)=true
  ·simp only[hc,if_true] at h;cases hb:x == n with
   | true =>
    simp only[hb] at h
    have e1:k1=.free:=by
     rw[dW,dW] at hc;simpa using hc.1.1
    cases h;exact ⟨k1,rfl,.inr ⟨e1,rfl⟩⟩
   | false=>simp only[hb] at h;exact ih h
  ·have hc':(k1 == NameKind.free && env.scope.kind == .function && env.kindOf n == some .cell)=false:=by simpa using hc
   simp only[hc',jz,if_false] at h;cases hb:x == n with
   | true=>simp only[hb] at h;cases h;exact ⟨_,rfl,.inl rfl⟩
   | false=>simp only[hb] at h;exact ih h
theorem ER {scope:Scope} {env:Env} {x:Str}:scope.names.lookup x=some .free->(relabel scope env).names.lookup x=some .cell\/(relabel scope env).names.lookup x=some .free:=by
 unfold relabel;show _->(scope.names.map fun (n,k)=>if (k == NameKind.free && env.scope.kind == .function && env.kindOf n == some .cell) then (n,NameKind.cell) else (n,k)).lookup x=some .cell\/(scope.names.map fun (n,k)=>if (k == NameKind.free && env.scope.kind == .function && env.kindOf n == some .cell) then (n,NameKind.cell) else (n,k)).lookup x=some .free
 induction scope.names with
 | nil=>intro h;cases h
 | cons y r ih =>
  intro h;obtain ⟨n,k1⟩:=y;rw[mQ] at h;rw[fV];by_cases hc:(k1 == NameKind.free && env.scope.kind == .function && env.kindOf n == some .cell)=true
  ·simp only[hc,if_true,mQ];cases hb:x == n with
   | true=>exact .inl rfl
   | false=>rw[hb] at h;exact ih h
  ·have hc':(k1 == NameKind.free && env.scope.kind == .function && env.kindOf n == some .cell)=false:=by simpa using hc
   simp only[hc',jz,if_false,mQ];cases hb:x == n with
   | true=>rw[hb] at h;cases h;exact .inr rfl
   | false=>rw[hb] at h;exact ih h
structure Bz where
 s:Shared
 H:Hp
 fp:List Addr
 C:Addr
def Ad (X:Cx) (own capN:List Str) (scope:Scope) (Z:Bz):Cx where
 prog:=X.prog
 w:=X.w
 K:=X.K
 mg:=X.mg
 base:=X.base
 A:=X.A
 N:=own++capN
 s₀:=Z.s
 H₀:=Z.H
 env:=zg X.env scope Z.C
 outer:=X.stack
 stack:=X.stack
 ex:=Z.fp
 fn:=fun x=>own.contains x
 calm:=true
 pn:=[]
 xe:=fun _ _=>False
section
variable {X:Cx} {pins:List (Addr×Obj)} {σ:St} {own capN:List Str} {scope:Scope} {Z:Bz}
theorem jZ (B:Bk X.env scope own capN) (I:Inv X pins σ Z.H Z.s) {x:Str} {c:Addr} (h:(zg X.env scope Z.C).cells.lookup x=some c) :
  (x∈own/\(x,c)∈cellsFrom (Z.C+1) scope.names [])\/(x∈capN/\x∉own/\X.env.cells.lookup x=some c):=by
 have h':(cellsFrom (Z.C+1) scope.names (d5 X.env scope.names [])).lookup x=some c:=h;rw[fB] at h';rcases au.mp (mem_of_lookup h') with m | m
 ·exact .inl ⟨(B.cells _ (my _ _ m) rfl).1,m⟩
 ·obtain ⟨m1,e⟩:=tu _ _ m;obtain ⟨q1,q2⟩:=B.frees _ m1 rfl;obtain ⟨d,hd⟩:=I.ok.has x (B.caps x q1);rw[hd] at e;exact .inr ⟨q1,q2,by rw[hd,e];rfl⟩
theorem NV (B:Bk X.env scope own capN) (I:Inv X pins σ Z.H Z.s) {x:Str} {c:Addr} (hx:x∈capN) (h:X.env.cells.lookup x=some c):(zg X.env scope Z.C).cells.lookup x=some c:=by
 have hm:(x,NameKind.free)∈scope.names:=mem_of_lookup (B.capf x hx);obtain ⟨c1,m1⟩:=tw X.env scope.names hm
 have hs:∃d,(zg X.env scope Z.C).cells.lookup x=some d:=by
  show ∃d,(cellsFrom (Z.C+1) scope.names (d5 X.env scope.names [])).lookup x=some d
  rw[fB];exact jG (bV _ m1)
 obtain ⟨d,hd⟩:=hs;rcases jZ B I hd with ⟨q,m⟩ | ⟨_,_,q⟩
 ·exact absurd hx (B.cells _ (my _ _ m) rfl).2
 ·rw[h] at q;cases q;exact hd
theorem Jv (h:Heap) (C:Addr) (hC:h.objs.size=C+1) (names:List (Str×NameKind)):CellsOk (pushCells h names) (C+1) (cellsFrom (C+1) names []):=by
 have q:=cellsFrom_ok names h (C+1) [] ⟨fun _ _ hm=>(nomatch hm),List.Pairwise.nil⟩ (by rw[hC];exact aw _);rwa [hC] at q
theorem Ec (I:Inv X pins σ Z.H Z.s) {x:Str} {c:Addr} (h:X.env.cells.lookup x=some c):@LT.lt Nat instLTNat c Z.s.heap.objs.size:=by
 obtain ⟨v,q⟩:=I.cell x c h;exact q.lt
theorem Qi {h1:Heap} (I:Inv X pins σ Z.H Z.s) (hc:X.calm=true) (B:Bk X.env scope own capN) (hC:Z.s.heap.objs.size<=Z.C) (hcl:CellsOk h1 (Z.C+1) (cellsFrom (Z.C+1) scope.names []))
  (hf:∀b∈Z.fp,lH X pins Z.H b/\@LT.lt Nat instLTNat b Z.s.heap.objs.size):(Ad X own capN scope Z).Ok:=by
 refine ⟨I.ok.mod,B.kind,I.ok.glob,I.ok.blt,hC,fun x y c h1 h2=>?_,fun x hx=>?_,fun x c hx h=>?_,fun _=>I.ok.hd hc,I.ok.frames,.inl rfl,fun b hb=>⟨?_,fun x c h=>?_⟩,I.bs,ai I.ok.bsz I.sz,fun b o e hb=>?_,fun b hb hz=>?_,I.stack,I.stkFree⟩
 ·rcases jZ B I h1 with ⟨q1,m1⟩ | ⟨q1,n1,m1⟩ <;> rcases jZ B I h2 with ⟨q2,m2⟩ | ⟨q2,n2,m2⟩
  ·exact name_of_addr hcl.apart m1 m2
  ·have l1:=(hcl.empty _ _ m1).2;have l2:=Ec I m2
   lia
  ·have l1:=(hcl.empty _ _ m2).2;have l2:=Ec I m1
   lia
  ·exact I.ok.inj x y c m1 m2
 ·have hx':(relabel scope X.env).names.lookup x=some .cell\/(relabel scope X.env).names.lookup x=some .free:=hx
  have hk:scope.names.lookup x=some .cell\/scope.names.lookup x=some .free:=by
   rcases hx' with h | h
   ·obtain ⟨k0,e,q | ⟨q,_⟩⟩:=xN h
    ·exact .inl (by rw[e,<- q])
    ·exact .inr (by rw[e,q])
   ·obtain ⟨k0,e,q | ⟨_,q⟩⟩:=xN h
    ·exact .inr (by rw[e,<- q])
    ·cases q
  show ∃c,(cellsFrom (Z.C+1) scope.names (d5 X.env scope.names [])).lookup x=some c
  rcases hk with h | h
  ·exact QC.mp (Az scope.names (Z.C+1) _ (.inl h))
  ·obtain ⟨c,m⟩:=tw X.env scope.names (mem_of_lookup h);rw[fB];exact jG (bV _ m)
 ·have ho:x∈own:=by have hx':own.contains x=true:=hx;simpa using hx'
  rcases jZ B I h with ⟨_,m⟩ | ⟨_,n,_⟩
  ·have:=(hcl.empty _ _ m).2;have hC':Z.s.heap.objs.size<=Z.C:=hC;show Z.s.heap.objs.size<=c
   lia
  ·exact absurd ho n
 ·intro e;have e':@Eq Nat b Z.C:=e;have:=(hf b hb).2
  lia
 ·have l:=(hf b hb).2;rcases jZ B I h with ⟨_,m⟩ | ⟨_,_,m⟩
  ·intro e;have e':@Eq Nat c b:=e;have:=(hcl.empty _ _ m).2
   lia
  ·exact (hf b hb).1.2.2.2.2.1 x c m
 ·obtain ⟨_,_,_,f3,_⟩:=(hf b hb).1;rcases f3 with f3 | f3
  ·exact I.ok.noex b o e f3
  ·exact absurd (bM (Heap.lt_size e) (ai I.ok.bsz f3)) (fg _)
 ·obtain ⟨_,f1,f2,_⟩:=(hf b hb).1;rcases aF.mp (I.stkSub b hz) with e | e
  ·exact f1 e
  ·exact f2 e
def JV (k:Nat) (cap:List Nat) (σ:St):St:=List.replicate k none++cap.map fun j=>(σ[j]?).join
def zT (X:Cx) (capN:List Str) (cap:List Nat):Prop:=cap.map (fun j=>X.N[j]?)=capN.map some
theorem zT.get {cap:List Nat} (h:zT X capN cap) {i:Nat} {x:Str} (e:capN[i]?=some x):∃j,cap[i]?=some j/\X.N[j]?=some x:=by
 have q:=congrArg (fun l=>l[i]?) h;simp only[aG,e,Option.map_some] at q;cases hc:cap[i]? with
 | none=>rw[hc] at q;cases q
 | some j=>rw[hc] at q;exact ⟨j,rfl,by simpa using q⟩
theorem Fm {cap:List Nat} {h':Heap} {m:Str->Option Value} (I:Inv X pins σ Z.H Z.s) (B:Bk X.env scope own capN) (hcap:zT X capN cap)
  (kc:∀x c,X.env.cells.lookup x=some c->∀v,Z.s.heap.IsCell c v->h'.IsCell c v) {i:Nat} {x:Str} {v:V} (e1:(own++capN)[i]?=some x) (e2:(JV own.length cap σ)[i]?=some (some v)) :
  ∃u,RelV v u/\Look (zg X.env scope Z.C) h' m x u:=by
 have hi:own.length<=i:=by
  by_cases hi:own.length<=i
  ·exact hi
  ·exfalso
   unfold JV at e2;rw[bH (by simpa using hi),dj] at e2
   split at e2 <;> cases e2
 rw[aU hi] at e1;unfold JV at e2;rw[aU (by simpa using hi),aE,aG] at e2;obtain ⟨j,hj,hN⟩:=hcap.get e1;rw[hj] at e2;have e3:(σ[j]?).join=some v:=by simpa using e2
 have e4:σ[j]?=some (some v):=by
  cases q:σ[j]? with
  | none=>rw[q] at e3;cases e3
  | some o=>rw[q] at e3;simp at e3;rw[e3]
 have hx:x∈capN:=ax e1;have hk:=B.caps x hx;obtain ⟨m0,_,hl⟩:=I.loc;obtain ⟨u,r,l⟩:=hl j x v hN e4 (.inr hk);refine ⟨u,r,.inr ⟨ER (B.capf x hx),?_⟩⟩;rcases l with ⟨hk2,_⟩ | ⟨_,c,hc,z⟩
 ·rcases hk with hk | hk
  ·rw[hk] at hk2;cases hk2
  ·rw[hk] at hk2;cases hk2
 ·exact ⟨c,NV B I hx hc,kc x c hc _ z⟩
theorem RO (I:Inv X pins σ Z.H Z.s) {b:Addr} (h:b∈JX X.stack):@LT.lt Nat instLTNat b Z.s.heap.objs.size:=by
 obtain ⟨_,o,ho,_⟩:=I.stack.mem h;exact Heap.lt_size ho
theorem NT {cap:List Nat} {h1:Heap} {D:Addr} {oD:Obj} {t1:Nat} (I:Inv X pins σ Z.H Z.s) (hc:X.calm=true) (B:Bk X.env scope own capN) (hcap:zT X capN cap) (hC:Z.s.heap.objs.size<=Z.C)
  (hcl:CellsOk h1 (Z.C+1) (cellsFrom (Z.C+1) scope.names [])) (hf:∀b∈Z.fp,lH X pins Z.H b/\@LT.lt Nat instLTNat b Z.s.heap.objs.size)
  (hk:∀b o,Z.s.heap.get? b=some o->h1.get? b=some o) (hn:h1.Ns Z.C fun _=>none) (hD:Z.s.heap.objs.size<=D) (hDC:D≠Z.C) (hoD:h1.get? D=some oD) (hdD:∀v,oD.data≠.cell v) :
  Inv (Ad X own capN scope Z) [(D,oD)] (JV own.length cap σ) Z.H { Z.s with heap:=h1,toks:=t1 }:=by
 refine ⟨Qi I hc B hC hcl hf,rfl,I.bare,Un.kept hk,⟨_,hn,fun i x v e1 e2 _=>Fm I B hcap (fun x c _ v z=>z.keeps hk) e1 e2⟩,fun x c h=>?_,I.hok.fresh hC,fun x c h=>?_,fun p hp=>?_,I.hok.kept hk,?_⟩
 ·rcases jZ B I h with ⟨_,m⟩ | ⟨_,_,m⟩
  ·exact ⟨none,(hcl.empty _ _ m).1⟩
  ·obtain ⟨v,q⟩:=I.cell x c m;exact ⟨v,q.keeps hk⟩
 ·rcases jZ B I h with ⟨_,m⟩ | ⟨_,_,m⟩
  ·exact I.hok.fresh (by have:=(hcl.empty _ _ m).2;lia)
  ·exact I.freeC x c m
 ·have e:p=(D,oD):=by simpa [Ad] using hp
  subst e;exact ⟨hoD,I.hok.fresh hD,hDC,fun z=>fg _ (bM (RO I z) hD),hdD⟩
 ·show (JV own.length cap σ).length=(own++capN).length
  have:=congrArg List.length hcap;simp only[aj] at this;unfold JV;simp [this]
theorem L4 {cap:List Nat} {pins':List (Addr×Obj)} {σ':St} {H':Hp} {s':Shared} (I:Inv X pins σ Z.H Z.s) (B:Bk X.env scope own capN) (hcap:zT X capN cap) (hf:∀b∈Z.fp,lH X pins Z.H b/\@LT.lt Nat instLTNat b Z.s.heap.objs.size)
  (J:Inv (Ad X own capN scope Z) pins' σ' H' s'):Inv (Ad X own capN scope Z) pins' (JV own.length cap σ) H' s':=by
 refine ⟨J.ok,J.os,J.bare,J.base,?_,J.cell,J.free,J.freeC,J.pin,J.hok,?_⟩
 ·obtain ⟨m,hn,_⟩:=J.loc;refine ⟨m,hn,fun i x v e1 e2 _=>Fm I B hcap (fun x c hx v z=>?_) e1 e2⟩;obtain ⟨o,ho,hd⟩:=z;obtain ⟨sl,e⟩:=J.base.any ho (I.freeC x c hx) fun z=>(hf c z).1.2.2.2.2.1 x c hx rfl
  exact ⟨_,e,hd⟩
 ·show (JV own.length cap σ).length=(own++capN).length
  have:=congrArg List.length hcap;simp only[aj] at this;unfold JV;simp [this]
theorem NU {σ':St} {H':Hp} {s':Shared} {D:Addr} {its:List Value} {n:Nat} {ys:List V} (I:Inv X pins σ Z.H Z.s) (hf:∀b∈Z.fp,lH X pins Z.H b/\@LT.lt Nat instLTNat b Z.s.heap.objs.size) (hD:Z.s.heap.objs.size<=D)
  (J:Inv (Ad X own capN scope Z) [(D,{ cls:=.type "list",data:=.seq its.toArray n })] σ' H' s') (r:cT ys its) (hz:ys.length<=sizeLine) :
  Inv X pins σ (upd H' D (.lst ys)) s':=by
 have pD:=J.pin (D,{ cls:=.type "list",data:=.seq its.toArray n }) (by simp);have ne:∀{b:Addr} {o:Obj},Z.s.heap.get? b=some o->b≠D:=fun e z=>by subst z;exact fg _ (bM (Heap.lt_size e) hD)
 have nt:∀{b:Addr} {u:HO},H' b=some u->b≠D:=fun e z=>by rw[z,pD.2.1] at e;cases e
 refine I.call' (ch:=Z.fp) J.os ⟨J.base.keep,J.base.slot,fun b o e h hx=>?_,J.base.there,fun b xs e=>?_,fun b o u e=>?_,fun b ps e=>?_⟩ (fun b u e=>?_) J.bare fun b hb=>?_
 ·rw[bJ (ne e)];exact J.base.free b o e h hx
 ·have q:=J.base.tups b xs e;rw[bJ (nt q)];exact q
 ·have q:=J.base.frzs b o u e;rw[bJ (nt q)];exact q
 ·obtain ⟨more,q⟩:=J.base.tbls b ps e;exact ⟨more,by rw[bJ (nt q)];exact q⟩
 ·by_cases hb:b=D
  ·subst hb;rw[aK] at e;cases e;exact ⟨hz,its,n,r,pD.1⟩
  ·rw[bJ hb] at e;exact (J.hok b u e).stay (fun c v _ q=>q) (fun c q=>by rw[bJ (nt q)];exact q) fun c xs q=>by rw[bJ (nt q)];exact q
 ·obtain ⟨_,f1,_,f3,f4,f5⟩:=(hf b hb).1;exact ⟨f3,f1,f4,f5⟩
end
theorem OP {α:Type} {t:Sem α} {Q Q':α->Shared->Prop} {M:Model} {A:Around} {E:Value->Shared->Prop} {s:Shared} (h:wpAny M A t Q (fun _ _=>False) s) (hQ:∀a s,Q a s->Q' a s):wpAny M A t Q' E s :=
 wpAny_mono h hQ fun _ _ z=>False.elim z
theorem Ea {prog : Program} {w : World} {A : Around} {R : Result → Shared → Prop} {s : Shared} {elt target iter : Expr} {ifs : List Expr} {scope : Scope} {pos : Pos} {it acc : Value} {env : Env} (I : Nat → Shared → Prop)
    (turn : ∀ (E : Value → Shared → Prop) n s, I n s → wpAny (model prog w) A (pyNext it) (fun r s₁ => match r with
      | none => R (.ok .next) s₁
      | some v => wpAny (model prog w) A (letOwnedTupleGo target it v) (fun _ s₂ => wpAny (model prog w) A (assign target env v) (fun _ s₃ =>
          wpAny (model prog w) A (forIn ifs true fun c r => if r = true then do let ok <- isTrue c env (eval c env); pure (ForInStep.yield ok) else pure (ForInStep.yield r)) (fun ok s₄ =>
            if ok = true then wpAny (model prog w) A (eval elt env) (fun x s₅ => wpAny (model prog w) A (call (.builtin "list.append") [acc, x]) (fun _ s₆ => ∃ m, m < n /\ I m s₆) E s₅) E s₄
            else ∃ m, m < n /\ I m s₄) E s₃) E s₂) E s₁) E s)
    (n : Nat) (h : I n s) : codeAny (model prog w) A (.compLoop (.ListComp elt [⟨target, iter, ifs, 0⟩] scope pos) 0 it acc env) R s := by
  refine codeAny_loop rfl I (fun n s hI => ?_) n h;show wpAny _ A ((compTurn (.ListComp elt [⟨target, iter, ifs, 0⟩] scope pos) 0 it acc env).onRaise (fun x => do noteFrame x env; theTreesLotGoes x)) _ _ s
  refine wpAny_noted ?_;rw [compTurn_list];refine wpAny_bind (wpAny_standAt (wpAny_bind (wpAny_mono (turn _ n s hI) (fun r s₁ h₁ => ?_) fun _ _ h' => h')));cases r with
  | none => exact wpAny_pure h₁
  | some v =>
    refine wpAny_bind (wpAny_mono h₁ (fun _ s₂ h₂ => wpAny_bind (wpAny_mono h₂ (fun _ s₃ h₃ => wpAny_bind (wpAny_mono h₃ (fun ok s₄ h₄ => ?_) fun _ _ h' => h')) fun _ _ h' => h')) fun _ _ h' => h');cases ok with
    | false => exact wpAny_pure ⟨rfl, h₄⟩
    | true =>
      exact wpAny_bind (wpAny_bind (wpAny_mono h₄ (fun x s₅ h₅ => wpAny_bind (wpAny_mono h₅ (fun _ s₆ h₆ => wpAny_pure (wpAny_pure ⟨rfl, h₆⟩)) fun _ _ h' => h')) fun _ _ h' => h'))

def PF (X : Cx) (ifs : List Expr) (t : TT) : Prop :=
  ∀ (pins : List (Addr × Obj)) (s : Shared) (σ : St) (H : Hp) (Q : Bool → Hp → Prop), Inv X pins σ H s → t σ H Q →
    wpAny (model X.prog X.w) X.A (forIn ifs true fun c r => if r = true then do let ok <- isTrue c X.env (eval c X.env); pure (ForInStep.yield ok) else pure (ForInStep.yield r)) (TP X pins σ Q) X.xe s
def QG:TT:=fun _ H Q=>Q true H
theorem cC {X:Cx}:PF X [] QG:=fun _ _ _ H _ I h=>wpAny_tests_nil ⟨H,I,h⟩
theorem PJ {X:Cx} {c:Expr} {t:TT} (h:PT X c t):PF X [c] t:=fun pins s σ H Q I hw=>wpAny_tests_one (h pins s σ H Q I hw)
def wA (σ₀:St) (g:TG) (tf:TT) (te:TE) (x:V) (H:Hp) (NY:V->Hp->Prop) (NN:Hp->Prop):Prop :=
 g x σ₀ H fun σ2 H2=>tf σ2 H2 fun b H3=>if b=true then te σ2 H3 NY else NN H3
def xf (J:It) (σ₀:St) (g:TG) (tf:TT) (te:TE) (Q:VK) (H1:Hp):Prop :=
 ∃W:Nat->Nat->List V->Hp->Prop,(∃m,W 0 m [] H1)/\∀i m ys H,W i m ys H →
  (J.stop i H/\ys.length<=sizeLine/\∀p,H p=none->Q (.ref p) (upd H p (.lst ys))) \/
  (J.go i H/\ys.length < sizeLine/\∃(NY:V->Hp->Prop) (NN:Hp->Prop),(∀y H',NY y H'->∃m',m' < m/\W (i+1) m' (ys++[y]) H')/\(∀H',NN H'->∃m',m' < m/\W (i+1) m' ys H') /\
   ∀x H',J.yld i H x H'->wA σ₀ g tf te x H' NY NN)
def EB (wi:TI) (k:Nat) (cap:List Nat) (g:TG) (tf:TT) (te:TE):TE:=fun σ H Q=>wi σ H fun J H1=>xf J (JV k cap σ) g tf te Q H1
abbrev lobj (its:List Value) (n:Nat):Obj:={ cls:=.type "list",data:=.seq its.toArray n }
section
variable {X:Cx} {own capN:List Str} {cap:List Nat} {scope:Scope} {elt tg iter:Expr} {ifs:List Expr} {pos:Pos} {wi:TI} {g:TG} {tf:TT} {te:TE}
theorem CQ {use:Option (Value->Sem Unit)} {Qe:Value->Shared->Prop} {fpos:Pos} (hc:X.calm=true) (B:Bk X.env scope own capN) (hcap:zT X capN cap)
  (hi:PI X tg iter wi) (hg:∀Z,PG (Ad X own capN scope Z) tg g) (hf:∀Z,PF (Ad X own capN scope Z) ifs tf) (he:∀Z,PE (Ad X own capN scope Z) elt te)
  (hs:∀x,foldedSetIterable iter X.env x=pure x) {pins:List (Addr×Obj)} {s:Shared} {σ:St} {H:Hp} {Q:VK} (I:Inv X pins σ H s) (h:EB wi own.length cap g tf te σ H Q)
  (fin:∀(D C:Addr) (s':Shared) (H':Hp),Inv X pins σ H' s'->lH X pins H' C->(∃m,s'.heap.Ns C m)->Q (.ref D) H'->compPost (model X.prog X.w) X.A X.xe use Qe (.ref D) C (.ok .next) s') :
  wpAny (model X.prog X.w) X.A (comprehension (.ListComp elt [⟨tg,iter,ifs,0⟩] scope pos) scope X.env fpos (newList []) false (eval iter X.env) use) Qe X.xe s:=by
 refine wpAny_comprehension_free (use:=use) rfl hs (Bw fun y hy hk=>I.ok.has y.1 (B.caps _ (B.frees y hy hk).1)) B.kind B.locs ?_;refine gF (hi pins s σ H _ I h) fun v s1 h1=>gF h1 fun itv s2 h2=>?_
 obtain ⟨it,fp,tn,J,H2,e,I2,T,st2,f2,W,⟨m0,w0⟩,turn⟩:=h2;subst e;have hfp:∀b∈fp,lH X pins H2 b/\@LT.lt Nat instLTNat b s2.heap.objs.size:=fun b hb=>⟨f2 b hb,let ⟨_,e,_⟩:=T.obj _ _ st2 b hb;Heap.lt_size e⟩
 refine wpAny_newObj_type (E5 ?_) (bA _);have es:(s2.heap.push { cls:=.type "list",data:=.seq ([]:List Value).toArray }).objs.size=s2.heap.objs.size+1:=Heap.size_push ..
 show codeAny _ _ (.compStart _ 0 (.ref it) (.ref s2.heap.objs.size) { newEnv scope (s2.heap.push { cls:=.type "list",data:=.seq ([]:List Value).toArray }).objs.size X.env.globals (cellsFrom ((s2.heap.push { cls:=.type "list",data:=.seq ([]:List Value).toArray }).objs.size+1) scope.names (d5 X.env scope.names [])) X.env.qual none .none (some X.env) builtinsNs with scope:=relabel scope X.env })
  (compPost (model X.prog X.w) X.A X.xe use Qe (.ref s2.heap.objs.size) (s2.heap.push { cls:=.type "list",data:=.seq ([]:List Value).toArray }).objs.size)
  { s2 with heap:=pushCells ((s2.heap.push { cls:=.type "list",data:=.seq ([]:List Value).toArray }).push { cls:=.type "dict",data:=.dict #[] }) scope.names }
 have hk1:∀b o,(s2.heap.push { cls:=.type "list",data:=.seq ([]:List Value).toArray }).get? b=some o->(pushCells ((s2.heap.push { cls:=.type "list",data:=.seq ([]:List Value).toArray }).push { cls:=.type "dict",data:=.dict #[] }) scope.names).get? b=some o :=
  fun b o e=>pushCells_keeps _ _ _ _ (Heap.get?_push_of_some _ e)
 have hk:∀b o,s2.heap.get? b=some o->(pushCells ((s2.heap.push { cls:=.type "list",data:=.seq ([]:List Value).toArray }).push { cls:=.type "dict",data:=.dict #[] }) scope.names).get? b=some o:=fun b o e=>hk1 b o (Heap.get?_push_of_some _ e)
 have hoD:=hk1 s2.heap.objs.size _ (Heap.get?_push_size s2.heap (o:={ cls:=.type "list",data:=.seq ([]:List Value).toArray }) rfl);have hn:=(Heap.Ns.new (s2.heap.push { cls:=.type "list",data:=.seq ([]:List Value).toArray }) (.type "dict")).keeps (pushCells_keeps scope.names _);have hcl:=Jv ((s2.heap.push { cls:=.type "list",data:=.seq ([]:List Value).toArray }).push { cls:=.type "dict",data:=.dict #[] }) (s2.heap.objs.size+1) (by rw[Heap.size_push,es]) scope.names;rw[es] at hn ⊢;generalize pushCells ((s2.heap.push { cls:=.type "list",data:=.seq ([]:List Value).toArray }).push { cls:=.type "dict",data:=.dict #[] }) scope.names=h3 at hk hoD hn hcl ⊢;have Z:Bz:=⟨s2,H2,fp,s2.heap.objs.size+1⟩
 have I3:Inv (Ad X own capN scope ⟨s2,H2,fp,s2.heap.objs.size+1⟩) [(s2.heap.objs.size,lobj [] 0)] (JV own.length cap σ) H2 { s2 with heap:=h3 } :=
  NT (Z:=⟨s2,H2,fp,s2.heap.objs.size+1⟩) (t1:=s2.toks) I2 hc B hcap (o8 _) hcl hfp hk hn (aw _) (cm (jg _)) hoD (fun v z=>nomatch z)
 have st3:tn 0 h3:=T.keep _ _ _ st2 fun b _ o e=>hk b o e
 have loop:codeAny (model X.prog X.w) X.A (.compLoop (.ListComp elt [⟨tg,iter,ifs,0⟩] scope pos) 0 (.ref it) (.ref s2.heap.objs.size) (zg X.env scope (s2.heap.objs.size+1))) (compPost (model X.prog X.w) X.A X.xe use Qe (.ref s2.heap.objs.size) (s2.heap.objs.size+1)) { s2 with heap:=h3 }:=by
  refine Ea (fun m s'=>∃i ys σ' H' its n,Inv (Ad X own capN scope ⟨s2,H2,fp,s2.heap.objs.size+1⟩) [(s2.heap.objs.size,lobj its n)] σ' H' s'/\tn i s'.heap/\(∀b∈fp,H' b=none)/\cT ys its/\W i m ys H') ?_ m0
   ⟨0,[],_,H2,[],0,I3,st3,fun b hb=>(f2 b hb).1,.nil,w0⟩
  rintro E n s4 ⟨i,ys,σ4,H4,its,k,I4,st4,fr4,rv,w4⟩
  have fpo:∀{pp:List (Addr×Obj)} {H':Hp},(∀p∈pp,p.1=s2.heap.objs.size)->(∀b∈fp,H' b=none)->∀b∈fp,lH (Ad X own capN scope ⟨s2,H2,fp,s2.heap.objs.size+1⟩) pp H' b:=fun {pp H'} hpp hn b hb=>by
   obtain ⟨e1,e2⟩:=I4.ok.exf b hb;refine ⟨hn b hb,e1,I4.ok.exfs b hb,.inl hb,e2,fun p hp=>?_⟩;have hp':p∈pp:=by simpa [Ad] using hp
   have l:=(hfp b hb).2;rw[hpp p hp'];exact fun z=>fg _ (by rw[<- z] at l;exact l)
  have pinD:∀{its:List Value} {n:Nat},∀p∈[(s2.heap.objs.size,lobj its n)],p.1=s2.heap.objs.size:=fun p hp=>by simp at hp;rw[hp]
  rcases turn i n ys H4 w4 with ⟨stop,hz,q⟩ | ⟨go,hlt,NY,NN,hNY,hNN,step⟩
  ·refine gF (T.done (Ad X own capN scope ⟨s2,H2,fp,s2.heap.objs.size+1⟩) rfl rfl rfl rfl i _ s4 σ4 H4 E I4 (fpo pinD fr4) st4 stop) fun r s5 ⟨hr,I5⟩=>?_
   subst hr;have pD:=I5.pin (s2.heap.objs.size,lobj its k) (by simp);have I6:=NU (Z:=⟨s2,H2,fp,s2.heap.objs.size+1⟩) I2 hfp (aw _) I5 rv hz
   have hC:upd H4 s2.heap.objs.size (.lst ys) (s2.heap.objs.size+1)=none:=by
    rw[bJ (ID (jg _))];exact I5.free
   obtain ⟨m,hm,_⟩:=I5.loc;exact fin _ _ s5 _ I6 (I2.fpOk (o8 _) hC) ⟨m,hm⟩ (q _ pD.2.1)
  ·refine gF (T.item (Ad X own capN scope ⟨s2,H2,fp,s2.heap.objs.size+1⟩) rfl rfl rfl rfl i _ s4 σ4 H4 E I4 (fpo pinD fr4) st4 go) fun r s5 ⟨u,hr,h5⟩=>?_
   subst hr;refine gF h5 fun _ s6 ⟨x,H6,I6,r6,y6,st6,fr6⟩=>?_
   have I6':=(L4 (Z:=⟨s2,H2,fp,s2.heap.objs.size+1⟩) I2 B hcap hfp I6).pinned (fpo pinD fr6) (T.obj _ _ st6)
   have back:∀{σ7:St} {H7:Hp} {s7:Shared},Inv (Ad X own capN scope ⟨s2,H2,fp,s2.heap.objs.size+1⟩) ([(s2.heap.objs.size,lobj its k)]++AX fp s6.heap) σ7 H7 s7 →
     Inv (Ad X own capN scope ⟨s2,H2,fp,s2.heap.objs.size+1⟩) [(s2.heap.objs.size,lobj its k)] σ7 H7 s7/\tn (i+1) s7.heap/\∀b∈fp,H7 b=none:=fun {σ7 H7 s7} I7=>by
    refine ⟨I7.unpinned,T.keep _ _ _ st6 fun b hb o e=>(I7.pin (b,o) (bV _ (bV _ (sR hb e)))).1,fun b hb=>?_⟩;obtain ⟨o,e,d⟩:=T.obj _ _ st6 b hb;exact (I7.pin (b,o) (bV _ (bV _ (sR hb e)))).2.1
   refine OP (hg _ _ s6 _ H6 x u _ I6' r6 (step x H6 y6)) fun _ s7 ⟨σ7,H7,I7,q7⟩=>?_
   refine OP (hf _ _ s7 σ7 H7 _ I7 q7) fun ok s8 ⟨H8,I8,q8⟩=>?_
   cases ok with
   | false =>
    rw[if_neg bw] at q8 ⊢;obtain ⟨m',hm,w8⟩:=hNN H8 q8;obtain ⟨J1,J2,J3⟩:=back I8;exact ⟨m',hm,i+1,ys,σ7,H8,its,k,J1,J2,J3,rv,w8⟩
   | true =>
    rw[if_pos rfl] at q8 ⊢;refine OP (he _ _ s8 σ7 H8 _ I8 q8) fun z s9 ⟨y,H9,I9,r9,q9⟩=>?_
    obtain ⟨J1,J2,J3⟩:=back I9;obtain ⟨m',hm,w9⟩:=hNY y H9 q9;have pD:=J1.pin (s2.heap.objs.size,lobj its k) (by simp);have hl:=rv.length;refine call_meets F.slot_list_append ⟨_,pD.1,rfl⟩ F.entry_list_append (F.args_list_append_2 _ _) (PySem.list_append s2.heap.objs.size its.toArray k z (by rw[aP];lia)) ⟨pD.1,?_⟩;have e9:=mP pD.1 (fun a=>a.push z);have e9':(its.toArray.push z)=(its++[z]).toArray:=by simp
    rw[e9'] at e9;obtain ⟨n',e9⟩:∃n',(s9.heap.update s2.heap.objs.size (Obj.mapSeq fun a=>a.push z)).get? s2.heap.objs.size=some (lobj (its++[z]) n'):=⟨_,e9⟩
    have J4:Inv (Ad X own capN scope ⟨s2,H2,fp,s2.heap.objs.size+1⟩) [] σ7 H9 { s9 with heap:=s9.heap.update s2.heap.objs.size (Obj.mapSeq fun a=>a.push z),toks:=s9.toks } :=
     (J1.pins_of (pins':=[]) fun p hp=>nomatch hp).turned (fun b o hb e=>(Heap.get?_update_other s9.heap _ (Ne.symm hb)).trans e) pD.2.1 pD.2.2.1 (.inr (aw _)) (fun x c hx z=>by
      rcases jZ (Z:=⟨s2,H2,fp,s2.heap.objs.size+1⟩) B I2 hx with ⟨_,m⟩ | ⟨_,_,m⟩
      ·have:=(hcl.empty _ _ m).2;have z':@Eq Nat c s2.heap.objs.size:=z
       lia
      ·have:=Ec (Z:=⟨s2,H2,fp,s2.heap.objs.size+1⟩) I2 m;rw[z] at this;exact fg _ this) fun p hp=>by simp [Ad] at hp
    have nfp:∀b∈fp,b≠s2.heap.objs.size:=fun b hb z=>by have:=(hfp b hb).2;rw[z] at this;exact fg _ this
    refine ⟨m',hm,i+1,ys++[y],σ7,H9,its++[z],n',J4.pins_of fun p hp=>?_,T.keep _ _ _ J2 fun b hb o e=>(Heap.get?_update_other s9.heap _ (Ne.symm (nfp b hb))).trans e,J3,rv.append (.cons r9 .nil),w9⟩;have ep:p=(s2.heap.objs.size,lobj (its++[z]) n'):=by simpa using hp
    rw[ep];exact ⟨e9,pD.2.1,pD.2.2.1,pD.2.2.2.1,fun v z=>nomatch z⟩
 exact codeAny_compStart_list loop (T.self _ _ _ _ _ st3 loop)
theorem cF (own capN:List Str) (cap:List Nat) (hi:PI X tg iter wi) (hg:∀Z,PG (Ad X own capN scope Z) tg g) (hf:∀Z,PF (Ad X own capN scope Z) ifs tf) (he:∀Z,PE (Ad X own capN scope Z) elt te)
  (h1:Sg scope own capN=true:=by decide +kernel) (h2:CV X.env capN=true:=by rfl) (hcap:zT X capN cap:=by rfl) (hc:X.calm=true:=by rfl) (hs:∀x,foldedSetIterable iter X.env x=pure x:=by intro _;rfl) :
  PE X (.ListComp elt [⟨tg,iter,ifs,0⟩] scope pos) (EB wi own.length cap g tf te):=by
 intro pins s σ H Q I h;rw[eval_ListComp];refine CQ (use:=none) hc (Bk.of h1 h2) hcap hi hg hf he hs I h fun D C s' H' I' fC hm q=>?_
 obtain ⟨m,hm⟩:=hm;refine ⟨m,hm,fun h' hs'=>?_⟩;obtain ⟨f0,f1,f2,f3,f4,f5⟩:=fC;exact ⟨.ref D,H',I'.turned (t':=s'.toks) (fun b o hb e=>(hs'.2 b hb).trans e) f0 f1 f3 f4 f5,rfl,q⟩
theorem jt (i:Nat) (own capN:List Str) (cap:List Nat) {x:Str} {pos' spos:Pos} (hN:X.N.Nodup) (hi':X.N[i]?=some x) (hx:X.env.scope.names.lookup x=some .local) (hi:PI X tg iter wi) (hg:∀Z,PG (Ad X own capN scope Z) tg g) (hf:∀Z,PF (Ad X own capN scope Z) ifs tf) (he:∀Z,PE (Ad X own capN scope Z) elt te)
  (h1:Sg scope own capN=true:=by decide +kernel) (h2:CV X.env capN=true:=by rfl) (hcap:zT X capN cap:=by rfl) (hc:X.calm=true:=by rfl) (hs:∀x,foldedSetIterable iter X.env x=pure x:=by intro _;rfl)
  (hsw:swapsWith (.ListComp elt [⟨tg,iter,ifs,0⟩] scope pos) (some (.Name x pos')) spos.line X.env=pure true:=by rfl) :
  PS X (.Assign [.Name x pos'] (.ListComp elt [⟨tg,iter,ifs,0⟩] scope pos) spos) (Mp (EB wi own.length cap g tf te) (Ii i)):=by
 intro pins s σ H D I h;rw[exec_Assign_Name_used _ _ _ _ hsw];refine wpAny_bind (wpAny_standAt (wpAny_bind ?_));rw[arm_evalThenUse_ListComp];refine wpAny_bind (CQ (Q:=fun v H1=>D.nx (σ.set i (some v)) H1) (use:=some _) hc (Bk.of h1 h2) hcap hi hg hf he hs I h fun L C s' H' I' fC hm q=>?_);obtain ⟨m,hm⟩:=hm;obtain ⟨f0,f1,f2,f3,f4,f5⟩:=fC;refine wpAny_assign_Name (Cn I' hN hi' (.inl hx) (v:=.ref L) rfl (fun s'' I'' ⟨a,sb,ha⟩=>?_) (.inr hx))
 have hCa:C≠a:=by
  rcases ha with e | e
  ·rw[e];exact f1
  ·exact (f4 x a e).symm
 refine ⟨m,hm.at' fun o e=>(sb.2 C hCa).trans e,fun h' hs'=>?_⟩;have I3:=I''.turned (h':=h') (t':=s''.toks) (fun b o hb e=>(hs'.2 b hb).trans e) f0 f1 f3 f4 f5;exact wpAny_pure (wpAny_pure ⟨_,H',I3,q⟩)
end
section
variable {K:PySem.W.Frag} {a:Addr} {xs:List V} {g:TG} {tf:TT} {te:TE} {Q:VK} {σ₀:St} {H:Hp}
theorem fQ (Pv:Nat->List V->Hp->Prop) (hz:xs.length<=sizeLine) (h0:Pv 0 [] H) (hl:∀i ys H,i<=xs.length->Pv i ys H->bU K H a xs)
  (hs:∀i x ys H,xs[i]?=some x->ys.length<=i->Pv i ys H->wA σ₀ g tf te x H (fun y H'=>Pv (i+1) (ys++[y]) H') (fun H'=>Pv (i+1) ys H'))
  (hd:∀ys H,ys.length<=xs.length->Pv xs.length ys H->∀p,H p=none->Q (.ref p) (upd H p (.lst ys))):xf (N3 K a) σ₀ g tf te Q H:=by
 refine ⟨fun i m ys H=>m=xs.length - i/\i<=xs.length/\ys.length<=i/\Pv i ys H,⟨xs.length,by simp,bA _,bA _,h0⟩,?_⟩;rintro i m ys H ⟨rfl,hi,hy,p⟩;have q:=hl i ys H hi p;by_cases hlt:i < xs.length
 ·refine .inr ⟨⟨xs,xs[i],q,by simp [hlt]⟩,by lia,fun y H'=>Pv (i+1) (ys++[y]) H',fun H'=>Pv (i+1) ys H',fun y H' p'=>⟨xs.length - (i+1),by lia,rfl,hlt,by rw[ak,bx];lia,p'⟩,fun H' p'=>⟨xs.length - (i+1),by lia,rfl,hlt,by lia,p'⟩,fun x H' y=>?_⟩;obtain ⟨e,y⟩:=y;subst e;exact hs i x ys _ (y xs q) hy p
 ·have e:i=xs.length:=by lia
  subst e;exact .inl ⟨⟨xs,q,aw _⟩,by lia,hd ys H hy p⟩
theorem oY {lo:Int} {n:Nat} (Pv:Nat->List V->Hp->Prop) (hz:n<=sizeLine) (h0:Pv 0 [] H)
  (hs:∀i ys H,i < n->ys.length<=i->Pv i ys H->wA σ₀ g tf te (.int (lo+i)) H (fun y H'=>Pv (i+1) (ys++[y]) H') (fun H'=>Pv (i+1) ys H'))
  (hd:∀ys H,ys.length<=n->Pv n ys H->∀p,H p=none->Q (.ref p) (upd H p (.lst ys))):xf (Fz lo n) σ₀ g tf te Q H:=by
 refine ⟨fun i m ys H=>m=n - i/\i<=n/\ys.length<=i/\Pv i ys H,⟨n,by simp,bA _,bA _,h0⟩,?_⟩;rintro i m ys H ⟨rfl,hi,hy,p⟩;by_cases hlt:i < n
 ·refine .inr ⟨hlt,by lia,fun y H'=>Pv (i+1) (ys++[y]) H',fun H'=>Pv (i+1) ys H',fun y H' p'=>⟨n - (i+1),by lia,rfl,hlt,by rw[ak,bx];lia,p'⟩,fun H' p'=>⟨n - (i+1),by lia,rfl,hlt,by lia,p'⟩,fun x H' y=>?_⟩;obtain ⟨e,y⟩:=y;subst e y;exact hs i ys _ hlt hy p
 ·have e:i=n:=by lia
  subst e;exact .inl ⟨aw _,by lia,hd ys H hy p⟩
end
open Nm
def fX (i j:Int):Prop:=Qr i j\/∃m n,Sz m i/\Sz n j/\m+n<=1000000
def rY (i j:Int):Prop:=j≠0/\Sz 8999 j
theorem BA {k:Nat} {i:Int} (h:Sz k i):Builtin.Int.intBits i<=k:=by
 unfold Builtin.Int.intBits;by_cases e:i=0
 ·subst e;simp
 ·have e':(i == 0)=false:=by simpa using e
  rw[e'];have hn:i.natAbs≠0:=by lia
  have:=(Nat.log2_lt hn).mpr h;simp only[jz,if_false]
  lia
theorem fX.ok {i j:Int} (h:fX i j):IntMulOk i j:=by
 rcases h with h | ⟨m,n,h1,h2,h3⟩
 ·exact h.ok
 ·have e:(2:Nat)^20=1048576:=by decide
  exact .of_bits (by have:=BA h1;lia) (by have:=BA h2;lia)
section
variable {X:Cx} {a b:Expr} {ta tb:TE} {pos:Pos}
theorem dc:Ae X (binaryOp .Mult) (rI fX fun i j=>.int (i*j)):=Se fun _ _ _ _ _ _ _ hc q=>mul_int q hc.ok
theorem jl:Ae X (binaryOp .FloorDiv) (rI rY fun i j=>.int (i.fdiv j)):=Se fun i j _ _ _ _ _ hc q=>by
 refine floordiv_int hc.1 q (.inl (PyProof.noPylong_of_log2 ?_));have hn:j.natAbs≠0:=by have:=hc.1;lia
 have:=(Nat.log2_lt hn).mpr hc.2
 lia
def QJ (t u:TS):TS:=fun D σ H=>∃N:St->Hp->Prop,t { D with nx:=N } σ H/\∀σ' H',N σ' H'->u D σ' H'
theorem gV {st:Stmt} {rest:List Stmt} {t u:TS} (h1:PS X st t) (h2:Hq X rest u):Hq X (st :: rest) (QJ t u):=by
 intro pins s σ H D I h;obtain ⟨N,h,k⟩:=h;refine wpAny_execs_cons (gF (h1 pins s σ H { D with nx:=N } I h) fun f s1 q=>?_);cases f with
 | next =>
  obtain ⟨σ',H',I',q⟩:=q;exact h2 pins s1 σ' H' D I' (k _ _ q)
 | ret v=>exact q
 | brk=>exact q
 | cont=>exact q
def Oj (K:PySem.W.Frag):V->V->Hp->VK->Prop:=fun o i H Q=>∃p xs k v,o=.ref p/\i=.int k/\bU K H p xs/\GU xs k=some v/\Q v H
theorem LB:RU X (Oj X.K):=by
 intro pins s σ H o i ov iv Q I ro ri h;obtain ⟨p,xs,k,z,rfl,rfl,hq,he,q⟩:=h;cases ro;obtain ⟨t,rfl⟩:=ri;obtain ⟨its,r,pl,hz⟩:=I.list hq;obtain ⟨j,h1,h2,h3,h4,h5⟩:=Ee he;obtain ⟨w,ew,rw'⟩:=r.get h2;have hl:=r.length;have hn:=Bo;have fin:EP X pins σ Q w s:=⟨z,H,I,rw',q⟩;by_cases h0:0<=k
 ·have hj:k.toNat=j:=by
   rw[seqIndex_of h0 h5] at h1;exact cp h1
  exact wpAny_getItem_list pl.isList h0 (by lia) (by rw[hj];simpa using ew) fin
 ·have hj:(k+(its.toArray.size:Int)).toNat=j:=by
   rw[seqIndex_neg (by lia) h4] at h1;rw[aP,<- hl];exact cp h1
  exact wpAny_getItem_list_neg pl.isList (by lia) (by rw[aP] <;> lia) (by lia) (by rw[hj];simpa using ew) fin
def Jq (K:PySem.W.Frag) (T:String):V->Hp->VK->Prop:=fun x H Q=>∃t b,zj K H x t/\PySem.W.kitOne K t (.type T)=some b/\Q (.bl b) H
theorem y7 {c:Str} {T:String} {p p2:Pos} (hg:Gl X "isinstance") (hm:X.mg "isinstance"=none) (hb:bootBuiltins c=some (.type T)) (hmc:X.mg c=none) (ha:PE X a ta) (hgc:Gl X c:=by rfl) (hn:c≠"__name__":=by decide)
  (hd:(c == ("__debug__":Str))=false:=by decide) (he:starEach [a,.Name c p2] X.env=[(false,eval a X.env),(false,eval (.Name c p2) X.env)]:=by rfl)
  (hpl:(backTo pos (starEach [.Name c p2] X.env)).any (·.1)=false:=by rfl) (he2:starEach [.Name c p2] X.env=[(false,eval (.Name c p2) X.env)]:=by rfl):PE X (.Call (.Name "isinstance" p) [a,.Name c p2] [] pos) (Sd (Jq X.K T) ta):=by
 intro pins s σ H Q I h;refine wpAny_Call_Name_kw (lE I hg hm PyProof.Rows.boot_isinstance ?_);have hA:PA X [a,.Name c p2] (uz ta (uz (tC (.ty T)) IL)):=ae ha (ae (HQ hgc hmc hb rfl hn hd) ag he2) (by rw[he,he2])
 have hq:uz ta (uz (tC (.ty T)) IL) σ H (fun vs H1=>∃x,vs=[x,.ty T]/\Jq X.K T x H1 Q):=by
  show ta σ H fun x H1=>∃x',[x,V.ty T]=[x',V.ty T]/\Jq X.K T x' H1 Q
  have e:(fun x H1=>∃x',[x,V.ty T]=[x',V.ty T]/\Jq X.K T x' H1 Q)=fun x H1=>Jq X.K T x H1 Q:=by
   funext x H1;apply propext;constructor
   ·rintro ⟨x',e,q⟩;cases e;exact q
   ·intro q;exact ⟨x,rfl,q⟩
  rw[e];exact h
 refine PyProof.Rows.callWith_builtin1 (gF (hA pos pins s σ H _ I hq) fun us s1 ⟨vs,H1,I1,r1,x,e,q1⟩=>?_) (by rw[he,he2]) hpl;subst e;obtain ⟨u,w',rfl,ru,rt⟩:=vals2 r1;cases rt;obtain ⟨t,bb,ty,ek,q⟩:=q1;exact CK I1 ru ty ek fun tk=>⟨.bl bb,H1,I1.tok tk,rfl,q⟩
end
structure Kind (α:Type) [DecidableEq α] where
 R:PySem.W.Frag->Hp->V->α->Prop
 d:Nat
 inj:∀{X:Cx} {pins:List (Addr×Obj)} {σ:St} {H:Hp} {s:Shared} {x:V} {a b:α},Inv X pins σ H s->R X.K H x a->R X.K H x b->a=b
 rc:∀{X:Cx} {pins:List (Addr×Obj)} {σ:St} {H:Hp} {s:Shared} {x y:V} {v u:Value} {a b:α} {A:Around},Inv X pins σ H s->RelV x v->RelV y u->R X.K H x a->R X.K H y b->A.units+d < cLine->SeqAt.RcAt A s v u (decide (a=b))
 ne:∀{X:Cx} {pins:List (Addr×Obj)} {σ:St} {H:Hp} {s:Shared} {x y:V} {v u:Value} {a b:α} {A:Around},Inv X pins σ H s->RelV x v->RelV y u->R X.K H x a->R X.K H y b->A.units+d < cLine->SeqAt.RcNeAt A s v u (!decide (a=b))
 eq:∀{X:Cx} {pins:List (Addr×Obj)} {σ:St} {H:Hp} {s:Shared} {x y:V} {v u:Value} {a b:α} {A:Around},Inv X pins σ H s->RelV x v->RelV y u->R X.K H x a->R X.K H y b->A.units+d < cLine->SeqAt.EqAt A s v u (decide (a=b))
def NG:Kind Int where
 R:=fun _ _ x i=>x=.int i
 d:=0
 inj:=fun _ h1 h2=>by rw[h1] at h2;cases h2;rfl
 rc:=fun {X pins σ H s x y v u a b A} I rx ry h1 h2 _=>by
  subst h1 h2;obtain ⟨t,rfl⟩:=rx;obtain ⟨t',rfl⟩:=ry;have q:=SeqAt.RcAt.int_int (A:=A) (s:=s) a t b t';rwa [BQ] at q
 ne:=fun {X pins σ H s x y v u a b A} I rx ry h1 h2 _=>by
  subst h1 h2;obtain ⟨t,rfl⟩:=rx;obtain ⟨t',rfl⟩:=ry;have q:=SeqAt.RcNeAt.int_int (A:=A) (s:=s) a t b t';rwa [BQ] at q
 eq:=fun {X pins σ H s x y v u a b A} I rx ry h1 h2 _=>by
  subst h1 h2;obtain ⟨t,rfl⟩:=rx;obtain ⟨t',rfl⟩:=ry;have q:=SeqAt.EqAt.int_int (A:=A) (s:=s) a t b t';rwa [BQ] at q
theorem lC {α β:Type} {F:α->β->Prop}:∀{l1:List α} {l2:List β} {i:Nat} (_:Paired F l1 l2) (h1:i < l1.length) (h2:i < l2.length),F l1[i] l2[i]
 | _,_,_,.nil,h1,_=>absurd h1 (fv _)
 | _,_,0,.cons r _,_,_=>r
 | _,_,i+1,.cons _ t,h1,h2=>lC (i:=i) t (Nat.lt_of_succ_lt_succ h1) (Nat.lt_of_succ_lt_succ h2)
theorem oP {α β:Type} {F:α->β->Prop} (hF:∀a b x,F a x->F b x->a=b):∀{l1 l2:List α} {l:List β},Paired F l1 l->Paired F l2 l->l1=l2
 | _,_,_,.nil,.nil=>rfl
 | _,_,_,.cons r t,.cons r' t'=>by rw[hF _ _ _ r r',oP hF t t']
theorem yp {α:Type} [DecidableEq α] (as bs:List α) (h:as.length=bs.length):(List.range as.length).all (fun j=>decide (as[j]?=bs[j]?))=decide (as=bs):=by
 rw[oA,sC,decide_eq_true_iff];constructor
 ·intro q;apply ig;intro i;by_cases hi:i < as.length
  ·exact of_decide_eq_true (q i (xg.mpr hi))
  ·rw[aM (by lia),aM (by lia)]
 ·rintro rfl i _;simp
section
variable {α:Type} [DecidableEq α] (k:Kind α)
theorem Kind.items {X:Cx} {pins:List (Addr×Obj)} {σ:St} {H:Hp} {s:Shared} {A:Around} (I:Inv X pins σ H s) (hA:A.units+k.d < cLine) {xs ys:List V} {us ws:List Value} {as bs:List α}
  (rx:cT xs us) (ry:cT ys ws) (ha:Paired (fun a x=>k.R X.K H x a) as xs) (hb:Paired (fun a x=>k.R X.K H x a) bs ys) :
  ∀j (h1:j < us.toArray.size) (h2:j < ws.toArray.size),SeqAt.EqAt A s us.toArray[j] ws.toArray[j] (decide (as[j]?=bs[j]?)):=fun j h1 h2=>by
 have l1:j < us.length:=by simpa using h1
 have l2:j < ws.length:=by simpa using h2
 have e1:=rx.length;have e2:=ry.length;have e3:=ha.length;have e4:=hb.length;obtain ⟨u,hu,ru⟩:=rx.get (i:=j) (x:=xs[j]'(by lia)) (by simp);obtain ⟨w,hw,rw'⟩:=ry.get (i:=j) (x:=ys[j]'(by lia)) (by simp);have q:=k.eq (A:=A) I ru rw' (lC ha (by lia) (by lia)) (lC hb (by lia) (by lia)) hA
 have eu:us.toArray[j]=u:=by
  have:=hu;rw[af l1] at this;simpa using this
 have ew:ws.toArray[j]=w:=by
  have:=hw;rw[af l2] at this;simpa using this
 rw[eu,ew,af (show j < as.length by lia),af (show j < bs.length by lia)];have e5:decide (some as[j]=some bs[j])=decide (as[j]=bs[j]):=by simp
 rw[e5];exact q
theorem Df {α:Type} [DecidableEq α] (as bs:List α) {n m:Nat} (h1:as.length=n) (h2:bs.length=m):((List.range (min n m)).all (fun j=>decide (as[j]?=bs[j]?)) && n == m)=decide (as=bs):=by
 subst h1 h2;by_cases e:as.length=bs.length
 ·rw[show min as.length bs.length=as.length by lia,yp as bs e];simp [e]
 ·have h1:(as.length == bs.length)=false:=by simpa using e
  rw[h1,Bool.and_false];exact (decide_eq_false fun z=>e (by rw[z])).symm
def SG:Kind (List α) where
 R:=fun K H x as=>∃p xs,x=.ref p/\sv K H p xs/\Paired (fun a x=>k.R K H x a) as xs
 d:=k.d+1
 inj:=fun {X pins σ H s x a b} I h1 h2=>by
  obtain ⟨p,xs,rfl,hp,pa⟩:=h1;obtain ⟨q,ys,e,hq,pb⟩:=h2;cases e;have e:=I.tuple_inj hp hq;subst e;exact oP (F:=fun a x=>k.R X.K H x a) (fun a b x=>k.inj I) pa pb
 rc:=fun {X pins σ H s x y v u a b A} I rx ry h1 h2 hA=>by
  obtain ⟨p,xs,rfl,hp,pa⟩:=h1;obtain ⟨q,ys,rfl,hq,pb⟩:=h2;cases rx;cases ry;obtain ⟨us,r1,t1,_⟩:=I.tuple hp;obtain ⟨ws,r2,t2,_⟩:=I.tuple hq;have z:=SeqAt.RcAt.tuples (A:=A) (e:=fun j=>decide (a[j]?=b[j]?)) (show s.heap.IsTuple p us.toArray from t1) (show s.heap.IsTuple q ws.toArray from t2) (by lia) (k.items (A:=A.in1) I (by show A.units+1+k.d < cLine;lia) r1 r2 pa pb);rwa [Df a b (by rw[pa.length,r1.length];simp) (by rw[pb.length,r2.length];simp)] at z
 ne:=fun {X pins σ H s x y v u a b A} I rx ry h1 h2 hA=>by
  obtain ⟨p,xs,rfl,hp,pa⟩:=h1;obtain ⟨q,ys,rfl,hq,pb⟩:=h2;cases rx;cases ry;obtain ⟨us,r1,t1,_⟩:=I.tuple hp;obtain ⟨ws,r2,t2,_⟩:=I.tuple hq;have z:=SeqAt.RcNeAt.tuples (A:=A) (e:=fun j=>decide (a[j]?=b[j]?)) (show s.heap.IsTuple p us.toArray from t1) (show s.heap.IsTuple q ws.toArray from t2) (by lia) (k.items (A:=A.in1) I (by show A.units+1+k.d < cLine;lia) r1 r2 pa pb);rwa [Df a b (by rw[pa.length,r1.length];simp) (by rw[pb.length,r2.length];simp)] at z
 eq:=fun {X pins σ H s x y v u a b A} I rx ry h1 h2 hA=>by
  obtain ⟨p,xs,rfl,hp,pa⟩:=h1;obtain ⟨q,ys,rfl,hq,pb⟩:=h2;cases rx;cases ry;by_cases e:p=q
  ·subst e;have e:=I.tuple_inj hp hq;subst e;rw[oP (F:=fun a x=>k.R X.K H x a) (fun a b x=>k.inj I) pa pb,decide_eq_true rfl];exact SeqAt.EqAt.same _
  ·obtain ⟨us,r1,t1,_⟩:=I.tuple hp;obtain ⟨ws,r2,t2,_⟩:=I.tuple hq;have z:=SeqAt.RcAt.tuples (A:=A) (e:=fun j=>decide (a[j]?=b[j]?)) (show s.heap.IsTuple p us.toArray from t1) (show s.heap.IsTuple q ws.toArray from t2) (by lia) (k.items (A:=A.in1) I (by show A.units+1+k.d < cLine;lia) r1 r2 pa pb);rw[Df a b (by rw[pa.length,r1.length];simp) (by rw[pb.length,r2.length];simp)] at z;exact .of_refs e z
theorem GD {X:Cx} {pins:List (Addr×Obj)} {σ:St} {H:Hp} {s:Shared} {p q:Addr} {xs ys:List V} {a b:List α} {A:Around} (I:Inv X pins σ H s) (hp:bU X.K H p xs) (hq:bU X.K H q ys)
  (pa:Paired (fun a x=>k.R X.K H x a) a xs) (pb:Paired (fun a x=>k.R X.K H x a) b ys) (hA:A.units+(k.d+1) < cLine) :
  SeqAt.RcAt A s (.ref p) (.ref q) (decide (a=b))/\SeqAt.RcNeAt A s (.ref p) (.ref q) (!decide (a=b)):=by
 obtain ⟨us,r1,t1,_⟩:=I.list hp;obtain ⟨ws,r2,t2,_⟩:=I.list hq;have l1:=r1.length;have l2:=r2.length;have l3:=pa.length;have l4:=pb.length;by_cases e:us.length=ws.length
 ·have it:=k.items (A:=A.in1) I (by show A.units+1+k.d < cLine;lia) r1 r2 pa pb;have z:=SeqAt.RcAt.lists (A:=A) (e:=fun j=>decide (a[j]?=b[j]?)) t1.isList t2.isList (by simpa using e) (by lia) it;have z2:=SeqAt.RcNeAt.lists (A:=A) (e:=fun j=>decide (a[j]?=b[j]?)) t1.isList t2.isList (by simpa using e) (by lia) it;have e1:us.toArray.size=a.length:=by rw[aP];lia
  rw[e1,yp a b (by lia)] at z z2;exact ⟨z,z2⟩
 ·have hne:¬a=b:=fun z=>e (by have:=congrArg List.length z;lia)
  rw[decide_eq_false hne];exact ⟨SeqAt.RcAt.lists_lengths t1.isList t2.isList (by simpa using e) (by lia),SeqAt.RcNeAt.lists_lengths t1.isList t2.isList (by simpa using e) (by lia)⟩
def NF:Kind (List α) where
 R:=fun K H x as=>∃p xs,x=.ref p/\bU K H p xs/\Paired (fun a x=>k.R K H x a) as xs
 d:=k.d+1
 inj:=fun {X pins σ H s x a b} I h1 h2=>by
  obtain ⟨p,xs,rfl,hp,pa⟩:=h1;obtain ⟨q,ys,e,hq,pb⟩:=h2;cases e;have e:=I.list_inj hp hq;subst e;exact oP (F:=fun a x=>k.R X.K H x a) (fun a b x=>k.inj I) pa pb
 rc:=fun {X pins σ H s x y v u a b A} I rx ry h1 h2 hA=>by
  obtain ⟨p,xs,rfl,hp,pa⟩:=h1;obtain ⟨q,ys,rfl,hq,pb⟩:=h2;cases rx;cases ry;exact (GD k I hp hq pa pb hA).1
 ne:=fun {X pins σ H s x y v u a b A} I rx ry h1 h2 hA=>by
  obtain ⟨p,xs,rfl,hp,pa⟩:=h1;obtain ⟨q,ys,rfl,hq,pb⟩:=h2;cases rx;cases ry;exact (GD k I hp hq pa pb hA).2
 eq:=fun {X pins σ H s x y v u a b A} I rx ry h1 h2 hA=>by
  obtain ⟨p,xs,rfl,hp,pa⟩:=h1;obtain ⟨q,ys,rfl,hq,pb⟩:=h2;cases rx;cases ry;by_cases e:p=q
  ·subst e;have e:=I.list_inj hp hq;subst e;rw[oP (F:=fun a x=>k.R X.K H x a) (fun a b x=>k.inj I) pa pb,decide_eq_true rfl];exact SeqAt.EqAt.same _
  ·exact .of_refs e (GD k I hp hq pa pb hA).1
def Kind.via {β:Type} [DecidableEq β] (f:β->α) (fi:∀a b,f a=f b->a=b) (R':PySem.W.Frag->Hp->V->β->Prop) (im:∀{K H x b},R' K H x b->k.R K H x (f b)):Kind β where
 R:=R'
 d:=k.d
 inj:=fun I h1 h2=>fi _ _ (k.inj I (im h1) (im h2))
 rc:=fun {X pins σ H s x y v u a b A} I rx ry h1 h2 hA=>by
  have z:=k.rc (A:=A) I rx ry (im h1) (im h2) hA;rwa [decide_eq_decide.mpr (show f a=f b↔a=b from ⟨fi a b,fun e=>by rw[e]⟩)] at z
 ne:=fun {X pins σ H s x y v u a b A} I rx ry h1 h2 hA=>by
  have z:=k.ne (A:=A) I rx ry (im h1) (im h2) hA;rwa [decide_eq_decide.mpr (show f a=f b↔a=b from ⟨fi a b,fun e=>by rw[e]⟩)] at z
 eq:=fun {X pins σ H s x y v u a b A} I rx ry h1 h2 hA=>by
  have z:=k.eq (A:=A) I rx ry (im h1) (im h2) hA;rwa [decide_eq_decide.mpr (show f a=f b↔a=b from ⟨fi a b,fun e=>by rw[e]⟩)] at z
end
def Fs (K:PySem.W.Frag) (H:Hp) (x:V) (n:Int×Int):Prop:=∃p,x=.ref p/\sv K H p [.int n.1,.int n.2]
def RE:Kind (Int×Int):=(SG NG).via (fun n=>[n.1,n.2]) (fun a b e=>by cases a;cases b;simp at e;rw[e.1,e.2]) Fs fun ⟨p,e,h⟩=>⟨p,_,e,h,.cons rfl (.cons rfl .nil)⟩
def Sy (K:PySem.W.Frag):R2:=fun x y H Q=>∃(α:Type) (_:DecidableEq α) (k:Kind α) (a b:α),k.d<=50/\k.R K H x a/\k.R K H y b/\Q (.bl (decide (a=b))) H
def Rp (K:PySem.W.Frag):R2:=fun x y H Q=>∃(α:Type) (_:DecidableEq α) (k:Kind α) (a b:α),k.d<=50/\k.R K H x a/\k.R K H y b/\Q (.bl (!decide (a=b))) H
theorem DF {X:Cx} (hu:X.A.units+50 < cLine):Ae X (compareOp .Eq) (Sy X.K):=by
 intro pins s σ H x y v u Q I rx ry h;obtain ⟨α,_,k,a,b,hd,ha,hb,q⟩:=h;exact k.rc (A:=X.A) I rx ry ha hb (by lia) _ _ _ _ ⟨.bl (decide (a=b)),H,I,rfl,q⟩
theorem A2 {X:Cx} (hu:X.A.units+50 < cLine):Ae X (compareOp .NotEq) (Rp X.K):=by
 intro pins s σ H x y v u Q I rx ry h;obtain ⟨α,_,k,a,b,hd,ha,hb,q⟩:=h;exact k.ne (A:=X.A) I rx ry ha hb (by lia) _ _ _ _ ⟨.bl (!decide (a=b)),H,I,rfl,q⟩
theorem DU {A:Around} {k:Nat} (hr:m9 k A):A.units+50 < cLine:=by have:=hr.units;lia
def Inner (H:Hp) (p q:Addr):Prop:=∃a b c:Int,H p=some (.lst [.int a,.int b,.int c,.ref q])
def dg (p:Addr) (H H':Hp):Prop:=(∀b o,H b=some o->b≠p->H' b=some o)/\∀q,Inner H p q->Inner H' p q
theorem dg.refl {p:Addr} (H:Hp):dg p H H:=⟨fun _ _ h _=>h,fun _ h=>h⟩
theorem dg.trans {p:Addr} {H H1 H2:Hp} (a:dg p H H1) (b:dg p H1 H2):dg p H H2:=⟨fun c o h n=>b.1 c o (a.1 c o h n) n,fun q h=>b.2 q (a.2 q h)⟩
theorem Inner.inj {H:Hp} {p q q':Addr} (h:Inner H p q) (h':Inner H p q'):q=q':=by
 obtain ⟨a,b,c,e⟩:=h;obtain ⟨a',b',c',e'⟩:=h';rw[e] at e';have:=HO.lst.inj (cp e');simp at this;exact this.2.2.2
theorem dg.set {p q:Addr} {H:Hp} {a b c a' b' c':Int} (h:H p=some (.lst [.int a,.int b,.int c,.ref q])):dg p H (upd H p (.lst [.int a',.int b',.int c',.ref q])) :=
 ⟨fun b u h n=>by rw[bJ n];exact h,fun q' h'=>by
  rw[(Inner.inj ⟨a,b,c,h⟩ h').symm];exact ⟨a',b',c',aK⟩⟩
theorem aJ.upto {p:Addr} {H H':Hp} (h:aJ H H'):dg p H H':=⟨fun b o e _=>h b o e,fun q ⟨a,b,c,e⟩=>⟨a,b,c,h _ _ e⟩⟩
theorem aJ.new {H:Hp} {p:Addr} {o:HO} (h:H p=Option.none):aJ H (upd H p o):=fun b u e=>by rw[bJ (fA e h)];exact e
theorem aJ.sqt {K:PySem.W.Frag} {H H':Hp} {a:Addr} {xs:List V} (e:aJ H H') (h:sv K H a xs):sv K H' a xs:=by
 rcases h with (h | ⟨o,h⟩) | h
 ·exact .inl (.inl (e _ _ h))
 ·exact .inl (.inr ⟨o,e _ _ h⟩)
 ·exact .inr h
theorem aJ.num {K:PySem.W.Frag} {H H':Hp} {x:V} {n:Int×Int} (e:aJ H H') (h:Fs K H x n):Fs K H' x n:=by obtain ⟨p,q,r⟩:=h;exact ⟨p,q,e.sqt r⟩
section
variable {σ:St} {H:Hp} {D:Ends}
theorem aR {t:TS} {σ0 σ:St} {D:Ends} {H:Hp} (e:σ0=σ) (h:t D σ H):t D σ0 H:=by rw[e];exact h
theorem Pc {t u:TS} (h:t { D with nx:=u D } σ H):QK t u D σ H:=h
theorem MW (h:D.nx σ H):N8 D σ H:=h
theorem Pw {te:TE} {g:TG} (h:te σ H fun x H1=>g x σ H1 D.nx):Mp te g D σ H:=h
theorem KS {i:Nat} {v:V} {Q:St->Hp->Prop} (h:Q (σ.set i (some v)) H):Ii i v σ H Q:=h
theorem Pd {te:TE} (h:te σ H D.rt):QL te D σ H:=h
theorem Pn {c:TT} {t u:TS} (h:c σ H fun b H1=>if b=true then t D σ H1 else u D σ H1):QR c t u D σ H:=h
theorem Nc {te:TE} (h:te σ H fun _ H1=>D.nx σ H1):Ob te D σ H:=h
theorem Pe {i j:Nat} {ta:TA} (h:ta σ H fun vs H1=>∃v w,vs=[v,w]/\D.nx ((σ.set i (some v)).set j (some w)) H1):QM i j ta D σ H:=h
theorem Nh {to ti te:TE} {tget:V->V->Hp->VK->Prop} {tip:RS} {tset:GW}
  (h:to σ H fun o H1=>ti σ H1 fun i H2=>tget o i H2 fun x H3=>te σ H3 fun y H4=>tip x y H4 fun z H5=>tset o i z H5 fun H6=>D.nx σ H6):Oc to ti te tget tip tset D σ H:=h
theorem Pl {f:Int->Int->Int} {i j:Int} {Q:VK} (h:Q (.int (f i j)) H):ipI f (.int i) (.int j) H Q:=⟨i,j,rfl,rfl,h⟩
theorem Pp {wi:TI} {g:TG} {tb:TS} (h:wi σ H fun J H1=>∃W:Nat->Nat->St->Hp->Prop,(∃m,W 0 m σ H1)/\∀i m σ H,W i m σ H →
  (J.stop i H/\D.nx σ H)\/(J.go i H/\∃N:St->Hp->Prop,(∀σ' H',N σ' H'->∃m',m' < m/\W (i+1) m' σ' H')/\∀x H',J.yld i H x H'->g x σ H' fun σ2 H2=>tb { D with nx:=N,ct:=N,bk:=D.nx } σ2 H2)):QT wi g tb D σ H:=h
variable {Q:VK} {QA:List V->Hp->Prop} {QB:Bool->Hp->Prop}
theorem O9 {i:Nat} {v:V} (e:σ[i]?=some (some v)) (h:Q v H):OQ i σ H Q:=⟨v,e,h⟩
theorem Sv {v:V} (h:Q v H):tC v σ H Q:=h
theorem Rh {r:R2} {ta tb:TE} (h:ta σ H fun x H1=>tb σ H1 fun y H2=>r x y H2 Q):QN r ta tb σ H Q:=h
theorem Q7 {r:V->Hp->VK->Prop} {ta:TE} (h:ta σ H fun x H1=>r x H1 Q):Sd r ta σ H Q:=h
theorem Rm {g:Int->Int->V} {i j:Int} (h:Q (g i j) H):Nk g (.int i) (.int j) H Q:=⟨i,j,rfl,rfl,h⟩
theorem fw {C:Int->Int->Prop} {g:Int->Int->V} {i j:Int} (hc:C i j) (h:Q (g i j) H):rI C g (.int i) (.int j) H Q:=⟨i,j,rfl,rfl,hc,h⟩
theorem Sw {g:Int->V} {i:Int} (h:Q (g i) H):rU g (.int i) H Q:=⟨i,rfl,h⟩
theorem Pu {i j:Int} (h:Q (.bl (decide (i=j))) H):SA (.int i) (.int j) H Q:=⟨rfl,by
 have e:decide (V.int i=V.int j)=decide (i=j):=by simp
 rw[e];exact h⟩
theorem Pj {i j:Int} (h:Q (.bl (!decide (i=j))) H):Sx (.int i) (.int j) H Q:=⟨rfl,by
 have e:decide (V.int i=V.int j)=decide (i=j):=by simp
 rw[e];exact h⟩
theorem Pt {i j:Str} (h:Q (.bl (decide (i=j))) H):SA (.str i) (.str j) H Q:=⟨rfl,by
 have e:decide (V.str i=V.str j)=decide (i=j):=by simp
 rw[e];exact h⟩
theorem Ph {i j:Str} (h:Q (.bl (!decide (i=j))) H):Sx (.str i) (.str j) H Q:=⟨rfl,by
 have e:decide (V.str i=V.str j)=decide (i=j):=by simp
 rw[e];exact h⟩
theorem MS {t:TE} (h:t σ H fun x H'=>∃k,x=.bl k/\QB k H'):N5 t σ H QB:=h
theorem Q8 {t:TE} (h:t σ H fun x H'=>∃k,x=.bl k/\QB k H'):tB t σ H QB:=h
theorem Px {t u:TT} (h:t σ H fun c H1=>if c=true then u σ H1 QB else QB false H1):QU t u σ H QB:=h
theorem Rf {t u:TT} (h:t σ H fun c H1=>if c=true then QB true H1 else u σ H1 QB):tOr t u σ H QB:=h
theorem Pf {t:TT} (h:t σ H fun c H1=>QB (!c) H1):QP t σ H QB:=h
theorem Ni {t u:TE} (h:t σ H fun x H1=>∃c,x=.bl c/\if c=true then u σ H1 Q else Q (.bl false) H1):Od t u σ H Q:=h
theorem MV {t:TE} (h:t σ H fun x H1=>∃c,x=.bl c/\Q (.bl (!c)) H1):N7 t σ H Q:=h
theorem Po {c:TT} {ta tb:TE} (h:c σ H fun b H1=>if b=true then ta σ H1 Q else tb σ H1 Q):tIf c ta tb σ H Q:=h
theorem O8 (h:QB true H):QG σ H QB:=h
theorem Pg (h:QA [] H):IL σ H QA:=h
theorem Nd {ta:TE} {tr:TA} (h:ta σ H fun x H1=>tr σ H1 fun xs H2=>QA (x :: xs) H2):uz ta tr σ H QA:=h
theorem Ng {sp:Sp} {E:XK} {t:TA} (h:t σ H fun vs H1=>sp vs H1 Q E):Kg sp [] E t σ H Q:=by
 have e:(fun vs H1=>sp (vs++[]) H1 Q E)=fun vs H1=>sp vs H1 Q E:=by funext vs H1;rw[j6]
 show t σ H fun vs H1=>sp (vs++[]) H1 Q E
 rw[e];exact h
theorem Ri {r:List V->Hp->VK->Prop} {t:TA} (h:t σ H fun vs H1=>r vs H1 Q):Sr r t σ H Q:=h
theorem Gf {K:PySem.W.Frag} {p:Addr} {xs:List V} {i:Int} {v:V} (hx:sv K H p xs) (e:GU xs i=some v) (h:Q v H):PB K (.ref p) (.int i) H Q:=⟨p,xs,i,v,rfl,rfl,hx,e,h⟩
theorem cD {K:PySem.W.Frag} {p:Addr} {xs:List V} {i:Int} (hx:bU K H p xs) {v:V} (e:GU xs i=some v) (h:Q v H):PC K (.ref p) (.int i) H Q:=⟨p,xs,i,v,rfl,rfl,hx,e,h⟩
theorem Nb {K:PySem.W.Frag} {p:Addr} {xs:List V} {i:Int} (hx:bU K H p xs) {v:V} (e:GU xs i=some v) (h:Q v H):Oj K (.ref p) (.int i) H Q:=⟨p,xs,i,v,rfl,rfl,hx,e,h⟩
theorem fk {QH:Hp->Prop} {p:Addr} {xs:List V} {i:Int} {v:V} {j:Nat} {ys:List V} (hx:H p=some (.lst xs)) (e:JW xs.length i=some j) (ey:xs.set j v=ys) (h:QH (upd H p (.lst ys))):Oi (.ref p) (.int i) v H QH:=⟨p,xs,i,j,rfl,rfl,hx,e,by rw[ey];exact h⟩
theorem M8 {to ti:TE} {t:GW} {v:V} {QS:St->Hp->Prop} (h:to σ H fun o H1=>ti σ H1 fun i H2=>t o i v H2 fun H3=>QS σ H3):RM to ti t v σ H QS:=h
theorem KU {t:TG} {u:Me} {v:V} {r:List V} {QS:St->Hp->Prop} (h:t v σ H fun σ' H'=>u r σ' H' QS):OA t u (v :: r) σ H QS:=⟨v,r,rfl,h⟩
theorem Na {QS:St->Hp->Prop} (h:QS σ H):RN [] σ H QS:=⟨rfl,h⟩
theorem M7 {K:PySem.W.Frag} {n:Nat} {t:Me} {a:Addr} {xs:List V} {QS:St->Hp->Prop} (hx:sv K H a xs) (hl:xs.length=n) (h:t xs σ H QS):Qb K n t (.ref a) σ H QS:=⟨a,xs,rfl,hx,hl,h⟩
theorem Q9 {r:V->Option Int->Option Int->Hp->VK->Prop} {te:TE} {tl th:TO} (h:te σ H fun x H1=>tl σ H1 fun l H2=>th σ H2 fun u H3=>r x l u H3 Q):tSl r te tl th σ H Q:=h
theorem Jp {QO:Option Int->Hp->Prop} (h:QO none H):HC σ H QO:=h
theorem MU {t:TE} {QO:Option Int->Hp->Prop} (h:t σ H fun x H1=>∃i,x=.int i/\QO (some i) H1):N6 t σ H QO:=h
variable {R:It->Hp->Prop} {K:PySem.W.Frag}
theorem KQ {tl:TE} (h:tl σ H fun x H1=>∃a,x=.ref a/\(∃xs,bU K H1 a xs)/\R (N3 K a) H1):Lx K tl σ H R:=h
theorem M6 {tl:TE} (h:tl σ H fun x H1=>∃a,x=.ref a/\(∃xs,sv K H1 a xs)/\R (Qx K a) H1):RK K tl σ H R:=h
theorem KP {ta:TA} (h:ta σ H fun vs H1=>∃j:Int,vs=[.int j]/\-(2^62)<=j/\j < 2^62/\R (Fz 0 j.toNat) H1):Ox ta σ H R:=h
theorem KO {ta:TA} (h:ta σ H fun vs H1=>∃i j:Int,vs=[.int i,.int j]/\(-(2^62)<=i/\i < 2^62/\-(2^62)<=j/\j < 2^62)/\R (Fz i (j - i).toNat) H1):Ow ta σ H R:=h
theorem Nf {wi:TI} {k:Nat} {cap:List Nat} {g:TG} {tf:TT} {te:TE} {σ₀:St} (e:JV k cap σ=σ₀) (h:wi σ H fun J H1=>xf J σ₀ g tf te Q H1):EB wi k cap g tf te σ H Q:=by
 unfold EB;rw[e];exact h
theorem MR {g:TG} {tf:TT} {te:TE} {x:V} {NY:V->Hp->Prop} {NN:Hp->Prop} (h:g x σ H fun σ2 H2=>tf σ2 H2 fun b H3=>if b=true then te σ2 H3 NY else NN H3):wA σ g tf te x H NY NN:=h
theorem Rj {T:String} {r:V->List V->Hp->VK->Prop} {to:TE} {t:TA} (h:to σ H fun x H1=>Sq K T x H1/\t σ H1 fun xs H2=>r x xs H2 Q):tBM K T r to t σ H Q:=h
def RW (Q:VK) (xs:List V) (H:Hp):Prop:=xs.length<=sizeLine/\∀p,H p=none->Q (.ref p) (upd H p (.tup xs))
def RX (Q:VK) (xs:List V) (H:Hp):Prop:=xs.length<=sizeLine/\∀p,H p=none->Q (.ref p) (upd H p (.lst xs))
theorem Pa {t:TA} (h:t σ H (RW Q)):QI t σ H Q:=h
theorem Pk {t:TA} (h:t σ H (RX Q)):QQ t σ H Q:=h
theorem j7 {n:Nat} (h:Nat.ble n 1000=true):n<=sizeLine:=aS (bG (Nat.le_of_ble_eq_true h))
theorem cg {xs:List V} (h:∀p H',aJ H H'->H' p=some (.tup xs)->Q (.ref p) H') (hl:Nat.ble xs.length 1000=true:=by rfl):RW Q xs H :=
 ⟨j7 hl,fun p hp=>h p _ (aJ.new hp) aK⟩
theorem cR {xs:List V} (h:∀p H',aJ H H'->H p=none->H' p=some (.lst xs)->Q (.ref p) H') (hl:Nat.ble xs.length 1000=true:=by rfl):RX Q xs H :=
 ⟨j7 hl,fun p hp=>h p _ (aJ.new hp) hp aK⟩
theorem RI {A B:Prop} (h:B):if (!true)=true then A else B:=NH h
theorem RJ {A B:Prop} (h:A):if (!false)=true then A else B:=RH h
def WB (tb:TS) (D:Ends) (Pv:St->Hp->Prop) (μ:St->Hp->Nat) (n:Nat) (σ:St) (H:Hp):Prop:=∃N:St->Hp->Prop,(∀σ' H',N σ' H'->∃m',m' < n/\(m'=μ σ' H'/\Pv σ' H'))/\tb { D with nx:=N,ct:=N,bk:=D.nx } σ H
theorem Oh {tb:TS} {Pv:St->Hp->Prop} {μ:St->Hp->Nat} {n:Nat} (h:tb { D with nx:=fun σ' H'=>Pv σ' H'/\μ σ' H' < n,ct:=fun σ' H'=>Pv σ' H'/\μ σ' H' < n,bk:=D.nx } σ H):WB tb D Pv μ n σ H :=
 ⟨_,fun σ' H' ⟨p,l⟩=>⟨_,l,rfl,p⟩,h⟩
theorem De {c:TT} {tb:TS} (Pv:St->Hp->Prop) (μ:St->Hp->Nat) (h0:Pv σ H) (hs:∀σ H,Pv σ H->c σ H fun b H1=>if b=true then WB tb D Pv μ (μ σ H) σ H1 else D.nx σ H1):Kf c tb D σ H:=by
 refine ⟨fun m σ H=>m=μ σ H/\Pv σ H,⟨_,rfl,h0⟩,?_⟩;rintro m σ H ⟨rfl,p⟩;exact hs σ H p
end
def iC (H:Hp) (p:Addr):Prop:=∃(q:Addr) (a b c:Int) (cs:List Int),H p=some (.lst [.int a,.int b,.int c,.ref q])/\H q=some (.lst (cs.map V.int))/\0<=a/\0<=c/\c<=(cs.length:Int)/\∀x∈cs,(0:Int)<=x
theorem JS {H:Hp} {p q:Addr} {a b c:Int} {cs:List Int} (hp:H p=some (.lst [.int a,.int b,.int c,.ref q])) (hq:H q=some (.lst (cs.map V.int))):q≠p:=fun e=>by
 rw[e,hp] at hq;have h:=HO.lst.inj (cp hq);cases cs with
 | nil=>cases h
 | cons x1 cs=>cases cs with
  | nil=>cases h
  | cons x2 cs=>cases cs with
   | nil=>cases h
   | cons x3 cs=>cases cs with
    | nil=>cases h
    | cons x4 cs=>simp at h
theorem iC.same {H H':Hp} {p:Addr} (h:iC H p) (e:aJ H H'):iC H' p:=by obtain ⟨q,a,b,c,cs,h1,h2,r⟩:=h;exact ⟨q,a,b,c,cs,e _ _ h1,e _ _ h2,r⟩
theorem dg.tup {H H':Hp} {p r:Addr} {xs:List V} (u:dg p H H') (B:iC H p) (h:H r=some (.tup xs)):H' r=some (.tup xs):=by
 obtain ⟨q,a,b,c,cs,h1,_⟩:=B;exact u.1 r _ h fun e=>by rw[e,h1] at h;cases h
theorem dg.other {H H':Hp} {p r:Addr} {o:HO} (u:dg p H H') (n:r≠p) (h:H r=some o):H' r=some o:=u.1 r _ h n
theorem iC.inner {H:Hp} {p:Addr} (h:iC H p):∃q,Inner H p q/\∃xs,H q=some (.lst xs):=by obtain ⟨q,a,b,c,cs,h1,h2,_⟩:=h;exact ⟨q,⟨a,b,c,h1⟩,_,h2⟩
theorem iC.upd {H:Hp} {p q r:Addr} {o:HO} (h:iC H p) (hi:Inner H p q) (n1:r≠p) (n2:r≠q):iC (L2.upd H r o) p:=by
 obtain ⟨q',a,b,c,cs,h1,h2,z⟩:=h;have e:q'=q:=Inner.inj ⟨a,b,c,h1⟩ hi;subst e;exact ⟨q',a,b,c,cs,by rw[bJ n1.symm];exact h1,by rw[bJ n2.symm];exact h2,z⟩
theorem Inner.upd {H:Hp} {p q r:Addr} {o:HO} (hi:Inner H p q) (n1:r≠p):Inner (L2.upd H r o) p q:=by obtain ⟨a,b,c,h⟩:=hi;exact ⟨a,b,c,by rw[bJ n1.symm];exact h⟩
def Mv:Sp:=fun vs H Q _=>∃p n,vs=[.ref p,.int n]/\iC H p/\0 < n/\n < 2^64/\∀v H',0<=v->v < n->iC H' p->dg p H H'->Q (.int v) H'
def OZ (K:PySem.W.Frag):Sp:=fun vs H Q _=>∃(a:Addr) (ns:List Int),vs=[.ref a]/\bU K H a (ns.map V.int)/\ns.length<=63/\∀p H',H p=none->iC H' p->aJ H H'->Q (.ref p) H'
def Di (K:PySem.W.Frag):Sp:=fun vs H Q _=>∃(a:Addr) (ns:List Int),vs=[.ref a]/\bU K H a (ns.map V.int)/\ns.length<=63/\∀H',Q (.bl true) H'
def OV:Sp:=fun vs H Q _=>∃t b,vs=[.int t,.int b]/\0 < b/\Sz 8999 b/\∀r H',aJ H H'->H' r=some (.tup [.int (lo t b),.int (hi t b)])->Q (.ref r) H'
def QW:Sp:=fun vs H Q _=>∃a b,vs=[.int a,.int b]/\Q (.int (g a b)) H
def Ja:Sp:=fun vs H Q _=>∃t b,vs=[.int t,.int b]/\b≠0/\Sz 8999 b/\∀r H',aJ H H'->H' r=some (.tup [.int (lo (if b < 0 then -t else t) (if b < 0 then -b else b)),.int (hi (if b < 0 then -t else t) (if b < 0 then -b else b))])->Q (.ref r) H'
def OB (a b c d:Int):Int:=a*d+c*b
def LL (a b c d:Int):Int:=a*d - c*b
def LK (a _b c _d:Int):Int:=a*c
def HI (K:PySem.W.Frag) (f:Int->Int->Int->Int->Int):Sp:=fun vs H Q _=>∃p q a b c d,vs=[.ref p,.ref q]/\sv K H p [.int a,.int b]/\sv K H q [.int c,.int d]/\0 < b/\0 < d/\Sz 4000 a/\Sz 4000 b/\Sz 4000 c/\Sz 4000 d /\
 ∀r H',aJ H H'->H' r=some (.tup [.int (lo (f a b c d) (b*d)),.int (hi (f a b c d) (b*d))])->Q (.ref r) H'
def Mx (K:PySem.W.Frag):Sp:=fun vs H Q _=>∃p q a b c d,vs=[.ref p,.ref q]/\sv K H p [.int a,.int b]/\sv K H q [.int c,.int d]/\0 < b/\0 < d/\c≠0/\Sz 4000 a/\Sz 4000 b/\Sz 4000 c/\Sz 4000 d /\
 ∀r H',aJ H H'->H' r=some (.tup [.int (lo (if c < 0 then 0 - a*d else a*d) (if c < 0 then 0 - b*c else b*c)),.int (hi (if c < 0 then 0 - a*d else a*d) (if c < 0 then 0 - b*c else b*c))])->Q (.ref r) H'
theorem bT {α β:Type} {F:α->β->Prop}:∀{l1 l1':List α} {l2 l2':List β},Paired F l1 l2->Paired F l1' l2'->Paired F (l1++l1') (l2++l2')
 | _,_,_,_,.nil,h=>h
 | _,_,_,_,.cons r t,h=>.cons r (bT t h)
theorem dB {h:Heap} {a b:Addr} {o u:Obj} (ha:h.get? a=some o) (hb:h.get? b=some u) (hc:o.cls≠u.cls):a≠b:=fun e=>by
 subst e;rw[ha] at hb;cases hb;exact hc rfl
theorem oK {a b:String} (h:a≠b):Value.type a≠Value.type b:=fun e=>h (by injection e)
theorem Ck {h:Heap} {z TI TO i1 i2 l1 l2:Addr} {f0 a b:Value} {k1 k2:Nat} {xs ys:Array Value} (hz:IsZip h z TI TO f0) (hTI:IsPair h TI (.ref i1) (.ref i2)) (hTO:IsPair h TO a b)
  (h1:h.IsListIter i1 l1 k1) (h2:h.IsListIter i2 l2 k2) (hl1:h.IsList l1 xs) (hl2:h.IsList l2 ys) (hT:TI≠TO) (hi:i1≠i2):ZipApart z TI TO i1 i2 l1 l2:=by
 obtain ⟨o1,g1,c1,_⟩:=h1;obtain ⟨o2,g2,c2,_⟩:=h2;obtain ⟨p1,q1,d1,_⟩:=hl1;obtain ⟨p2,q2,d2,_⟩:=hl2;refine ⟨dB hTI hz ?_,dB hTO hz ?_,dB g1 hz ?_,dB g2 hz ?_,hT,dB hTI g1 ?_,dB hTI g2 ?_,dB hTO g1 ?_,dB hTO g2 ?_,hi,dB q1 hz ?_,dB q1 hTO ?_,dB q1 g1 ?_,dB q1 g2 ?_,dB q2 hz ?_,dB q2 hTO ?_,dB q2 g1 ?_,dB q2 g2 ?_⟩
 all_goals first
  | (rw[d1];first | (rw[c1];exact oK (by decide)) | (rw[c2];exact oK (by decide)) | exact oK (by decide))
  | (rw[d2];first | (rw[c1];exact oK (by decide)) | (rw[c2];exact oK (by decide)) | exact oK (by decide))
  | (rw[c1];exact oK (by decide))
  | (rw[c2];exact oK (by decide))
  | exact oK (by decide)
def Qp (K : PySem.W.Frag) (l1 l2 : Addr) : It :=
  ⟨fun i H => ∃ xs ys x y, bU K H l1 xs /\ bU K H l2 ys /\ xs[i]? = some x /\ ys[i]? = some y,
   fun i H v H' => ∃ p x y, v = .ref p /\ H p = none /\ H' = upd H p (.tup [x, y]) /\ (∀ xs, bU K H l1 xs → xs[i]? = some x) /\ ∀ ys, bU K H l2 ys → ys[i]? = some y,
   fun i H => ∃ xs ys, bU K H l1 xs /\ bU K H l2 ys /\ (xs.length ≤ i \/ ys.length ≤ i)⟩
def tnZ (z TI TO i1 i2 l1 l2:Addr) (i:Nat) (h:Heap):Prop:=IsZip h z TI TO .none/\IsPair h TI (.ref i1) (.ref i2)/\(∃a b,IsPair h TO a b)/\h.IsListIter i1 l1 i/\h.IsListIter i2 l2 i
theorem Kd {P:Program} {w:World} {K:PySem.W.Frag} {elts:List Expr} {kk:Nat} {tpos:Pos} (z TI TO i1 i2 l1 l2:Addr) (hT:TI≠TO) (hi:i1≠i2):Turn P w K (.Tuple elts kk tpos) (Qp K l1 l2) [z,TI,TO,i1,i2] z (tnZ z TI TO i1 i2 l1 l2) where
 mem:=by simp
 obj:=fun i h st b hb=>by
  obtain ⟨hz,hTI,⟨a,c,hTO⟩,⟨o1,g1,c1,d1⟩,⟨o2,g2,c2,d2⟩⟩:=st;simp only[aF,aY,or_false] at hb;rcases hb with rfl | rfl | rfl | rfl | rfl
  ·exact ⟨_,hz,fun v q=>nomatch q⟩
  ·exact ⟨_,hTI,fun v q=>nomatch q⟩
  ·exact ⟨_,hTO,fun v q=>nomatch q⟩
  ·exact ⟨o1,g1,fun v q=>by rw[d1] at q;cases q⟩
  ·exact ⟨o2,g2,fun v q=>by rw[d2] at q;cases q⟩
 keep:=fun i h h' st k=>by
  obtain ⟨hz,hTI,⟨a,c,hTO⟩,h1,h2⟩:=st;exact ⟨k z (by simp) _ hz,k TI (by simp) _ hTI,⟨a,c,k TO (by simp) _ hTO⟩,h1.at fun o e=>k i1 (by simp) o e,h2.at fun o e=>k i2 (by simp) o e⟩
 item:=by
  intro X hP hw hK hc i pins s σ H E I hf st hg;subst hP hw hK;obtain ⟨hz,hTI,⟨a,c,hTO⟩,h1,h2⟩:=st;obtain ⟨xs,ys,x,y,qx,qy,ex,ey⟩:=hg;obtain ⟨us,rx,px,_⟩:=I.list qx;obtain ⟨ws,ry,py,_⟩:=I.list qy;obtain ⟨u,eu,ru⟩:=rx.get ex;obtain ⟨v,ev,rv⟩:=ry.get ey;have D:=Ck hz hTI hTO h1 h2 px.isList py.isList hT hi;refine wpAny_pyNext_zip_item D hz hTI hTO h1 h2 px.isList py.isList (x:=u) (y:=v) (by simpa using eu) (by simpa using ev) fun h' a1 a2 a3 a4 a5 a6 hk=>?_
  refine ⟨_,rfl,wpAny_letOwnedTupleGo_zip a1 fun h'' hz'' hs=>?_⟩;have hT0:H s.heap.objs.size=none:=I.hok.fresh (aw _);have zne:s.heap.objs.size≠z:=ID (Heap.lt_size hz)
  have up:∀b o,b∉[z,TO,i1,i2]->s.heap.get? b=some o->h''.get? b=some o:=fun b o hb e=>by
   simp only[aF,aY,or_false,not_or] at hb;exact (hs.2 b hb.1).trans (hk b o hb.1 hb.2.1 hb.2.2.1 hb.2.2.2 e)
  have fx:∀b∈[z,TO,i1,i2],lH X pins H b:=fun b hb=>hf b (by
   simp only[aF,aY,or_false] at hb ⊢;rcases hb with rfl | rfl | rfl | rfl <;> simp)
  have nx:∀b o,H b=some o->b∉[z,TO,i1,i2]:=fun b o e hb=>by
   have:=(fx b hb).1;rw[this] at e;cases e
  have nT:∀{b:Addr} {o:HO},H b=some o->b≠s.heap.objs.size:=fun e q=>by rw[q,hT0] at e;cases e
  have tup:h''.get? s.heap.objs.size=some { cls:=.type "tuple",data:=.seq #[u,v] }:=(hs.2 _ zne).trans a5
  have I2:Inv X pins σ (upd H s.heap.objs.size (.tup [x,y])) { s with heap:=h'' }:=by
   refine I.step (g':=s.gens) (d':=s.drawn) (t':=s.toks) (ch:=[z,TO,i1,i2]) (fun b hb=>?_) (fun b o _ _ hb e _=>up b o hb e) (fun b o _ _ hb e _=>⟨o.slots,up b o hb e⟩) (fun b o hb e n=>?_)
    (fun b o hb e=>⟨o,up b o hb e⟩) (fun b q e=>by rw[bJ (nT e)];exact e) (fun b o q e=>by rw[bJ (nT e)];exact e) (fun b q e=>⟨#[],by rw[bJ (nT e),e];simp⟩) (fun m hm=>?_) (fun b o e=>?_) I.bare
   ·obtain ⟨_,f1,_,f3,f4,f5⟩:=fx b hb;exact ⟨f3,f1,f4,f5⟩
   ·rw[bJ (cm (Heap.lt_size e))];exact n
   ·obtain ⟨o,es,ep,ho,r⟩:=hm;exact ⟨o,es,ep,up _ o (fun z=>(fx _ z).2.1 rfl) ho,r⟩
   ·by_cases hb:b=s.heap.objs.size
    ·subst hb;rw[aK] at e;cases e;exact ⟨j7 rfl,[u,v],.cons ru (.cons rv .nil),⟨_,tup,rfl,_,rfl⟩⟩
    ·rw[bJ hb] at e;refine (I.hok b o e).stay (fun c v' hc q=>up c v' ?_ q) (fun c q=>by rw[bJ (nT q)];exact q) fun c xs q=>by rw[bJ (nT q)];exact q
     rcases hc with rfl | hc
     ·exact nx _ _ e
     ·exact nx _ _ hc
  refine ⟨.ref s.heap.objs.size,_,I2,rfl,⟨_,x,y,rfl,hT0,rfl,fun xs' q=>by rw[I.list_inj q qx];exact ex,fun ys' q=>by rw[I.list_inj q qy];exact ey⟩,?_,fun b hb=>?_⟩
  ·refine ⟨hz'',(hs.2 _ D.TIz).trans (hk _ _ D.TIz D.TITO D.TIi1 D.TIi2 hTI),⟨_,_,(hs.2 _ D.TOz).trans a2⟩,a3.at fun o e=>(hs.2 _ D.i1z).trans e,a4.at fun o e=>(hs.2 _ D.i2z).trans e⟩
  ·obtain ⟨o,e,_⟩:∃o,s.heap.get? b=some o/\True:=by
    obtain ⟨o1,g1,_⟩:=h1;obtain ⟨o2,g2,_⟩:=h2;simp only[aF,aY,or_false] at hb;rcases hb with rfl | rfl | rfl | rfl | rfl
    ·exact ⟨_,hz,trivial⟩
    ·exact ⟨_,hTI,trivial⟩
    ·exact ⟨_,hTO,trivial⟩
    ·exact ⟨_,g1,trivial⟩
    ·exact ⟨_,g2,trivial⟩
   rw[bJ (cm (Heap.lt_size e))];exact (hf b hb).1
 done:=by
  intro X hP hw hK hc i pins s σ H E I hf st hg;subst hP hw hK;obtain ⟨hz,hTI,⟨a,c,hTO⟩,h1,h2⟩:=st;obtain ⟨xs,ys,qx,qy,hend⟩:=hg;obtain ⟨us,rx,px,_⟩:=I.list qx;obtain ⟨ws,ry,py,_⟩:=I.list qy;have lx:=rx.length;have ly:=ry.length;have D:=Ck hz hTI hTO h1 h2 px.isList py.isList hT hi
  refine wpAny_pyNext_zip_end (I.ok.hd hc) D hz hTI hTO h1 h2 px.isList py.isList (by
   rcases hend with q | q
   ·exact .inl (by simp;lia)
   ·exact .inr (by simp;lia)) fun h' hk=>⟨rfl,?_⟩
  have up:∀b o,b∉[z,TO,i1,i2]->s.heap.get? b=some o->h'.get? b=some o:=fun b o hb e=>by
   simp only[aF,aY,or_false,not_or] at hb;exact hk b o hb.1 hb.2.1 hb.2.2.1 hb.2.2.2 e
  have fx:∀b∈[z,TO,i1,i2],lH X pins H b:=fun b hb=>hf b (by
   simp only[aF,aY,or_false] at hb ⊢;rcases hb with rfl | rfl | rfl | rfl <;> simp)
  have nx:∀b o,H b=some o->b∉[z,TO,i1,i2]:=fun b o e hb=>by
   have:=(fx b hb).1;rw[this] at e;cases e
  refine I.step (g':=s.gens) (d':=s.drawn) (t':=s.toks) (ch:=[z,TO,i1,i2]) (fun b hb=>?_) (fun b o _ _ hb e _=>up b o hb e) (fun b o _ _ hb e _=>⟨o.slots,up b o hb e⟩) (fun b o hb e n=>n)
   (fun b o hb e=>⟨o,up b o hb e⟩) (fun b q e=>e) (fun b o q e=>e) (fun b q e=>⟨#[],by rw[e];simp⟩) (fun m hm=>?_) (fun b o e=>?_) I.bare
  ·obtain ⟨_,f1,_,f3,f4,f5⟩:=fx b hb;exact ⟨f3,f1,f4,f5⟩
  ·obtain ⟨o,es,ep,ho,r⟩:=hm;exact ⟨o,es,ep,up _ o (fun z=>(fx _ z).2.1 rfl) ho,r⟩
  ·refine (I.hok b o e).stay (fun c v' hc q=>up c v' ?_ q) (fun c q=>q) fun c xs q=>q
   rcases hc with rfl | hc
   ·exact nx _ _ e
   ·exact nx _ _ hc
 self:=fun _ _ _ _ _ st h=>wpAny_pyIter_zip st.1 h
section
variable {X:Cx}
def P8 (K:PySem.W.Frag) (ta:TA):TI:=fun σ H R=>ta σ H fun vs H1=>∃l1 l2,vs=[.ref l1,.ref l2]/\(∃xs,bU K H1 l1 xs)/\(∃ys,bU K H1 l2 ys)/\R (Qp K l1 l2) H1
theorem vI {a b:Expr} {ta:TA} {p pos tpos:Pos} {elts:List Expr} {kk:Nat} (hg:Gl X "zip") (hm:X.mg "zip"=none) (ha:PA X [a,b] ta) (hs:starEach [a,b] X.env=[(false,eval a X.env),(false,eval b X.env)]:=by rfl) (hs2:starEach [b] X.env=[(false,eval b X.env)]:=by rfl) :
  PI X (.Tuple elts kk tpos) (.Call (.Name "zip" p) [a,b] [] pos) (P8 X.K ta):=by
 intro pins s σ H R I h;refine Call_ (lE I hg hm boot_zip (PyProof.Rows.callWith_type1 (gF (ha pos pins s σ H _ I h) fun us s1 ⟨vs,H1,I1,r1,q1⟩=>?_) (by rw[hs,hs2]) (by rw[hs2];rfl)));obtain ⟨l1,l2,e,⟨xs,qx⟩,⟨ys,qy⟩,q⟩:=q1;subst e;obtain ⟨u,v,rfl,ru,rv⟩:=vals2 r1;cases ru;cases rv;obtain ⟨us,rx,px,_⟩:=I1.list qx;obtain ⟨ws,ry,py,_⟩:=I1.list qy;refine call_zip_2 px.isList py.isList fun h' a1 a2 a3 a4 a5 a6 hk=>wpAny_pyIter_zip a1 ?_
 have I2:Inv X pins σ H1 { s1 with heap:=h' }:=I1.kept (t':=s1.toks) hk;refine ⟨_,[s1.heap.objs.size+4,s1.heap.objs.size+2,s1.heap.objs.size+3,s1.heap.objs.size,s1.heap.objs.size+1],_,_,H1,rfl,I2,Kd (s1.heap.objs.size+4) (s1.heap.objs.size+2) (s1.heap.objs.size+3) s1.heap.objs.size (s1.heap.objs.size+1) l1 l2 (cm (jg _)) (cm (jg _)),⟨a1,a2,⟨_,_,a3⟩,a4,a5⟩,fun b hb=>?_,q⟩
 have hb':s1.heap.objs.size<=b:=by
  simp only[aF,aY,or_false] at hb;rcases hb with rfl | rfl | rfl | rfl | rfl <;> first | exact zW _ _ | exact aw _
 exact I1.fpOk hb' (I1.hok.fresh hb')
theorem By (hc:X.calm=true):uq X (.builtin "all") (fun xs H Q=>∃(p:Addr) (bs:List Bool),xs=[.ref p]/\bU X.K H p (bs.map V.bl)/\Q (.bl (bs.all id)) H):=by
 intro pins s σ H xs us Q I r h;obtain ⟨p,bs,rfl,hp,q⟩:=h;obtain ⟨u,rfl,ru⟩:=vals1 r;cases ru;obtain ⟨vs,rv,pl,hz⟩:=I.list hp
 have hb:PyProof.Rows.LSm.BoolsAre vs bs:=by
  clear q hp pl hz
  induction bs generalizing vs with
  | nil=>cases rv;exact .nil
  | cons b bs ih =>
   rw[fV] at rv;cases rv with
   | cons r1 r2=>cases r1;exact .cons b (ih _ r2)
 have hlt:p < s.heap.objs.size:=by obtain ⟨_,e,_⟩:=pl.isList;exact Heap.lt_size e
 refine call_all_walk (wpAny_pyIter_list pl.isList ?_)
 refine ⟨s.heap.objs.size,[s.heap.objs.size,p],[s.heap.objs.size],vs.toArray.size,_,_,fun i=>(bs[i]?).getD true,rfl,Walks.list (A:=X.A.in1) (I.ok.hd hc) _ p (cm hlt) vs.toArray,
  ⟨⟨_,Heap.get?_push_size _ rfl,rfl,rfl⟩,pl.isList.push _⟩,fun i v s' Q' E' hP hQ=>?_,fun h' tk hk=>?_⟩
 ·obtain ⟨b,e,rfl⟩:=hb.get i v (by simpa using hP);simp only[e,Option.getD_some] at hQ;exact wpAny_truthy_bool hQ
 ·have e:((List.range vs.toArray.size).all fun i=>(bs[i]?).getD true)=bs.all id:=by
   rw[aP,hb.length];exact PyProof.Rows.LSm.range_all bs
  rw[e];exact ⟨.bl _,H,I.kept (t':=tk) (PyProof.Rows.LSm.kept_iter hk),rfl,q⟩
theorem L0 (hc:X.calm=true):uq X (.builtin "sum") (fun xs H Q=>∃(p:Addr) (ns:List Int),xs=[.ref p]/\bU X.K H p (ns.map V.int)/\Q (.int ns.sum) H):=by
 intro pins s σ H xs us Q I r h;obtain ⟨p,ns,rfl,hp,q⟩:=h;obtain ⟨u,rfl,ru⟩:=vals1 r;cases ru;obtain ⟨vs,rv,pl,_⟩:=I.list hp;have hi:IntsAre vs ns:=intsAre_of rv;obtain ⟨xs,hx⟩:=hi.allInts.items;have hl':s.heap.IsList p (intItems xs):=hx ▸ pl.isList;refine sum_intListG (I.ok.hd hc) hl' fun h' tk t' hk=>?_
 have e1:ns=xs.toList.map (·.1):=by
  rw[<- nums_intItems,<- hx];exact (show numsOf vs.toArray.toList=ns from hi.numsOf).symm
 have e2:preSum (numAt xs) xs.size=ns.sum:=by
  rw[preSum_eq,aH (by simp),e1]
 rw[e2];exact ⟨.int _,H,I.kept (t':=tk) hk,⟨_,rfl⟩,q⟩
end
section
variable {K:PySem.W.Frag} {l1 l2:Addr} {xs ws:List V} {g:TG} {tf:TT} {te:TE} {Q:VK} {σ₀:St} {H:Hp}
theorem uY (Pv:Nat->List V->Hp->Prop) (hz:xs.length<=sizeLine) (hw:ws.length=xs.length) (h0:Pv 0 [] H) (hl:∀i ys H,i<=xs.length->Pv i ys H->bU K H l1 xs/\bU K H l2 ws)
  (hs:∀i x y ys H p,xs[i]?=some x->ws[i]?=some y->ys.length<=i->Pv i ys H->H p=none->wA σ₀ g tf te (.ref p) (upd H p (.tup [x,y])) (fun y H'=>Pv (i+1) (ys++[y]) H') (fun H'=>Pv (i+1) ys H'))
  (hd:∀ys H,ys.length<=xs.length->Pv xs.length ys H->∀p,H p=none->Q (.ref p) (upd H p (.lst ys))):xf (Qp K l1 l2) σ₀ g tf te Q H:=by
 refine ⟨fun i m ys H=>m=xs.length - i/\i<=xs.length/\ys.length<=i/\Pv i ys H,⟨xs.length,by simp,bA _,bA _,h0⟩,?_⟩;rintro i m ys H ⟨rfl,hi,hy,p⟩;obtain ⟨q1,q2⟩:=hl i ys H hi p;by_cases hlt:i < xs.length
 ·refine .inr ⟨⟨xs,ws,xs[i],ws[i]'(by lia),q1,q2,by simp [hlt],by simp⟩,by lia,fun y H'=>Pv (i+1) (ys++[y]) H',fun H'=>Pv (i+1) ys H',fun y H' p'=>⟨xs.length - (i+1),by lia,rfl,hlt,by rw[ak,bx];lia,p'⟩,fun H' p'=>⟨xs.length - (i+1),by lia,rfl,hlt,by lia,p'⟩,fun x H' y=>?_⟩;obtain ⟨r,x',y',rfl,hr,rfl,e1,e2⟩:=y;exact hs i x' y' ys _ r (e1 xs q1) (e2 ws q2) hy p hr
 ·have e:i=xs.length:=by lia
  subst e;exact .inl ⟨⟨xs,ws,q1,q2,.inl (aw _)⟩,by lia,hd ys H hy p⟩
theorem NJ {tb:TS} {D:Ends} {σ:St} (Pv:Nat->St->Hp->Prop) (hw:ws.length=xs.length) (h0:Pv 0 σ H) (hl:∀i σ H,i<=xs.length->Pv i σ H->bU K H l1 xs/\bU K H l2 ws)
  (hs:∀i x y σ H p,xs[i]?=some x->ws[i]?=some y->Pv i σ H->H p=none->g (.ref p) σ (upd H p (.tup [x,y])) fun σ2 H2=>tb { D with nx:=Pv (i+1),ct:=Pv (i+1),bk:=D.nx } σ2 H2) (hd:∀σ H,Pv xs.length σ H->D.nx σ H) :
  ∃W:Nat->Nat->St->Hp->Prop,(∃m,W 0 m σ H)/\∀i m σ H,W i m σ H →
   ((Qp K l1 l2).stop i H/\D.nx σ H)\/((Qp K l1 l2).go i H/\∃N:St->Hp->Prop,(∀σ' H',N σ' H'->∃m',m' < m/\W (i+1) m' σ' H')/\∀x H',(Qp K l1 l2).yld i H x H'->g x σ H' fun σ2 H2=>tb { D with nx:=N,ct:=N,bk:=D.nx } σ2 H2):=by
 refine ⟨fun i m σ H=>m=xs.length - i/\i<=xs.length/\Pv i σ H,⟨xs.length,by simp,bA _,h0⟩,?_⟩;rintro i m σ H ⟨rfl,hi,p⟩;obtain ⟨q1,q2⟩:=hl i σ H hi p;by_cases hlt:i < xs.length
 ·refine .inr ⟨⟨xs,ws,xs[i],ws[i]'(by lia),q1,q2,by simp [hlt],by simp⟩,Pv (i+1),fun σ' H' p'=>⟨xs.length - (i+1),by lia,rfl,hlt,p'⟩,fun x H' y=>?_⟩;obtain ⟨r,x',y',rfl,hr,rfl,e1,e2⟩:=y;exact hs i x' y' σ _ r (e1 xs q1) (e2 ws q2) p hr
 ·have e:i=xs.length:=by lia
  subst e;exact .inl ⟨⟨xs,ws,q1,q2,.inl (aw _)⟩,hd σ H p⟩
end
section
variable {X:Cx}
theorem vJ (K:PySem.W.Frag) (n:Nat) {es:List Expr} {k:Nat} {pos:Pos} {t:Me} (h:RT X es t) (hK:X.K=K:=by rfl) (hc:X.calm=true:=by rfl)
  (hn:(assignEach es X.env).length=n:=by rfl) (hst:(assignEach es X.env).findIdx? (·.1)=none:=by rfl):PG X (.Tuple es k pos) (Qb K n t):=by subst hK;exact xm hc h hn hst
theorem vN (K:PySem.W.Frag) (hK:X.K=K):RY X (PB K):=by subst hK;exact bS
theorem iu (K:PySem.W.Frag) (hK:X.K=K):RY X (PC K):=by subst hK;exact bW
theorem Nw (K:PySem.W.Frag) (hK:X.K=K) (hu:X.A.units+50 < cLine):Ae X (compareOp .NotEq) (Rp K):=by subst hK;exact A2 hu
theorem EW (K:PySem.W.Frag) {tg l:Expr} {tl:TE} (hl:PE X l tl) (hK:X.K=K:=by rfl):PI X tg l (Lx K tl):=by subst hK;exact cK hl
theorem Kz (K:PySem.W.Frag) (hK:X.K=K):SO X (Py K):=by subst hK;exact Dk
end
theorem eo {X:Cx} {e e':Expr} {es:List Expr} {te:TE} {t:TA} (h:e=e') (ha:PE X e' te) (hr:PA X es t) (hs:∀l,starEach (e' :: l) X.env=(false,eval e' X.env) :: starEach l X.env:=by intro _;rfl):PA X (e :: es) (uz te t):=by subst h;exact ae ha hr (hs _)
section
variable {σ:St} {H:Hp} {D:Ends} {Q:VK}
theorem iQ {l:Addr} {xs:List V} {y:V} (hl:H l=some (.lst xs)) (hz:xs.length < sizeLine) (h:Q .non (upd H l (.lst (xs++[y])))):HK (.ref l) [y] H Q:=⟨l,xs,y,rfl,rfl,hl,hz,h⟩
theorem MZ {K:PySem.W.Frag} {ta:TA} {R:It->Hp->Prop} (h:ta σ H fun vs H1=>∃l1 l2,vs=[.ref l1,.ref l2]/\(∃xs,bU K H1 l1 xs)/\(∃ys,bU K H1 l2 ys)/\R (Qp K l1 l2) H1):P8 K ta σ H R:=h
theorem jA {l b:Addr} {xs zs:List V} (h1:H l=some (.lst xs)) (h2:H b=some (.lst zs)) (hz:xs.length+zs.length<=sizeLine) (h:∀p H',aJ H H'->H p=none->H' p=some (.lst (xs++zs))->Q (.ref p) H'):Rv (.ref l) (.ref b) H Q :=
 ⟨l,b,xs,zs,rfl,rfl,h1,h2,hz,fun p hp=>h p _ (aJ.new hp) hp aK⟩
theorem Pb {K:PySem.W.Frag} {a:Addr} {xs:List V} {lo hi:Option Int} (h1:bU K H a xs) (h:∀p H',aJ H H'->H p=none->H' p=some (.lst (wq xs lo hi))->Q (.ref p) H'):Py K (.ref a) lo hi H Q :=
 ⟨a,xs,rfl,h1,fun p hp=>h p _ (aJ.new hp) hp aK⟩
theorem mU {α:Type} {xs:List α} {i:Int} (h0:0<=i) (h1:i < xs.length):∃v,GU xs i=some v/\v∈xs/\xs[i.toNat]?=some v:=by
 have hj:i.toNat < xs.length:=by lia
 refine ⟨xs[i.toNat],?_,aQ hj,by simp [hj]⟩;have:=fJ (xs:=xs) (j:=i.toNat) (v:=xs[i.toNat]) (by simp [hj]);rwa [Int.toNat_of_nonneg h0] at this
end
inductive Kn (H:Hp):V->Prop where
 | non:Kn H .non
 | bl (b:Bool):Kn H (.bl b)
 | int (i:Int):Kn H (.int i)
 | str (x:Str):Kn H (.str x)
 | lst {a:Addr} {xs:List V} (e:H a=some (.lst xs)):Kn H (.ref a)
 | tup {a:Addr} {xs:List V} (e:H a=some (.tup xs)):Kn H (.ref a)
 | dic {a:Addr} {kvs:List (Key×V)} (e:H a=some (.dK kvs)):Kn H (.ref a)
theorem dk {α β:Type} {F:α->β->Prop}:∀{l1:List α} {l2:List β} {y:β},Paired F l1 l2->y∈l2->∃x∈l1,F x y
 | _,_,_,.nil,h=>nomatch h
 | _,_,_,.cons r t,h=>by
  rcases aF.mp h with rfl | h
  ·exact ⟨_,dD,r⟩
  ·obtain ⟨x,hx,q⟩:=dk t h;exact ⟨x,cb _ hx,q⟩
theorem cE {α β:Type} {F:α->β->Prop} {l1:List α} {l2:List β} {i:Nat} {y:β} (h:Paired F l1 l2) (e:l2[i]?=some y):∃x,l1[i]?=some x/\F x y:=by
 have hl:=h.length;have hi:i < l2.length:=(aI.mp e).1;refine ⟨l1[i]'(by lia),by simp,?_⟩;have:=lC h (i:=i) (by lia) hi;have e2:l2[i]=y:=(aI.mp e).2;rwa [e2] at this
def zR (n:Int×Int):Prop:=0 < n.2/\Int.gcd n.1 n.2=1/\Sz 8000 n.1/\Sz 8000 n.2
theorem take_snoc {α:Type} {l:List α} {i:Nat} {v:α} (h:l[i]?=some v):l.take (i+1)=l.take i++[v]:=by rw[List.take_add_one,h];rfl
theorem aJ.after {H H':Hp} {r:Addr} {o:HO} (s:aJ H H') (h:H r=Option.none):aJ H (upd H' r o):=fun b u e=>by rw[bJ (fA e h)];exact s b u e
theorem dg.after {H H':Hp} {b r:Addr} {o:HO} (s:dg b H H') (h:H r=Option.none):dg b H (upd H' r o):=⟨fun c u e n=>by rw[bJ (fA e h)];exact s.1 c u e n,fun q hi=>(s.2 q hi).upd fun z=>by obtain ⟨_,_,_,e⟩:=hi;rw[<- z,h] at e;cases e⟩
theorem dg.same {H H' H'':Hp} {b:Addr} (s:dg b H H') (e:aJ H' H''):dg b H H'':=s.trans e.upto
theorem Ef {α:Type} {Pr:α->Prop} {l:List α} {a:α} (h:∀n∈l,Pr n) (ha:Pr a):∀n∈l++[a],Pr n:=fun n hn=>by
 rcases au.mp hn with hn | hn
 ·exact h n hn
 ·have e:n=a:=by simpa using hn
  rw[e];exact ha
abbrev BG (h:Heap) (z TI TO:Addr) (f0 f1:Value):Prop:=h.get? z=some { cls:=.type "zip",dict:=none,data:=.fields #[f0,f1,.bool false,.ref TI,.ref TO],slots:=#[] }
section
variable {prog:Program} {w:World} {A:Around} {E:Value->Shared->Prop} {s:Shared}
theorem GV {a:Addr} {o:Obj} {Q:Option Obj->Shared->Prop} (e:s.heap.get? a=some o) (h:Q (some o) s):wpAny (model prog w) A (loadIfAlive a) Q E s:=by
 intro Γ p hp;show Sem.wp _ _ (.loadIfAlive a .pure) _ _ _ _
 simp only[Sem.wp_loadIfAlive,e];exact wpAny_pure h Γ p hp
theorem A1 {z TI TO T:Addr} {b1:Bool} {o:Obj} {Q:Bool->Shared->Prop} (zr:BG s.heap z TI TO (rawInt T) (.bool b1)) (al:s.heap.get? T=some o)
  (h:∀h',BG h' z TI TO (rawInt T) (.bool true)->Heap.SameBut z s.heap h'->Q false { s with heap:=h' }):wpAny (model prog w) A (Builtin.SmallTypes.ownedTupleIsFree (.ref z)) Q E s:=by
 unfold Builtin.SmallTypes.ownedTupleIsFree;refine wpAny_bind (wpAny_field zr rfl (x:=rawInt T) rfl ?_);refine wpAny_bind (GV (a:=T) al ?_);refine wpAny_bind (wpAny_field zr rfl (x:=.bool b1) rfl ?_);cases b1 with
 | true=>exact wpAny_pure (h _ zr (.refl ..))
 | false=>exact wpAny_bind (wpAny_setField_rec zr (by simp) fun h' zr' sb=>wpAny_pure (h h' zr' sb))
theorem JG {z TI TO T i1 i2 l1 l2:Addr} {k1 k2:Nat} {us ws:Array Value} {u v:Value} {b1:Bool} {o:Obj} {Q:Value->Shared->Prop} (D:ZipApart z TI TO i1 i2 l1 l2) (zr:BG s.heap z TI TO (rawInt T) (.bool b1)) (al:s.heap.get? T=some o)
  (pt:IsPair s.heap TI (.ref i1) (.ref i2)) (j1:s.heap.IsListIter i1 l1 k1) (j2:s.heap.IsListIter i2 l2 k2) (m1:s.heap.IsList l1 us) (m2:s.heap.IsList l2 ws) (eu:us[k1]?=some u) (ev:ws[k2]?=some v)
  (hQ:∀h',BG h' z TI TO (rawInt T) (.bool true)->h'.IsListIter i1 l1 (k1+1)->h'.IsListIter i2 l2 (k2+1)->IsPair h' s.heap.objs.size u v->(∀c o,c≠z->c≠i1->c≠i2->s.heap.get? c=some o->h'.get? c=some o)->Q (.ref s.heap.objs.size) { s with heap:=h' }) :
  wpAny (model prog w) A (Builtin.«zip.__next__» ⟨[.ref z],[]⟩) (fun fin s'=>∃v,fin=.done (.ret v)/\Q v s') E s:=by
 change wpAny _ _ (field (Value.ref z) 2 >>= _) _ _ s
 refine wpAny_bind (wpAny_field zr rfl (x:=.bool false) rfl ?_)
 change wpAny _ _ (field (Value.ref z) 3 >>= _) _ _ s
 refine wpAny_bind (wpAny_field zr rfl (x:=.ref TI) rfl (wpAny_bind (wpAny_seqItems pt rfl ?_)))
 change wpAny _ _ (Builtin.SmallTypes.ownedTupleIsFree (Value.ref z) >>= _) _ _ s
 refine wpAny_bind (A1 zr al fun g1 zr1 sb1=>?_);simp only[jz,if_false];refine wpAny_bind ?_;rw[<- Array.forIn_toList];simp only[Mj,Dc];have j1':=j1.extBut sb1.extBut D.i1z;have m1':=m1.extBut sb1.extBut D.l1z;refine wpAny_bind (wpAny_bind (wpAny_holding ?_))
 change wpAny _ _ (Builtin.SmallTypes.nextOf (Value.ref i1) >>= _) _ _ _
 refine wpAny_bind (wpAny_nextOf_list_item j1' m1' eu fun g2 j1a sb2=>wpAny_pure ?_);refine wpAny_pure ?_;have j2':=(j2.extBut sb1.extBut D.i2z).extBut sb2.extBut D.i12.symm;have m2':=(m2.extBut sb1.extBut D.l2z).extBut sb2.extBut D.l2i1;refine wpAny_bind (wpAny_bind (wpAny_holding ?_))
 change wpAny _ _ (Builtin.SmallTypes.nextOf (Value.ref i2) >>= _) _ _ _
 refine wpAny_bind (wpAny_nextOf_list_item j2' m2' ev fun g3 j2a sb3=>wpAny_pure ?_);refine wpAny_pure (wpAny_pure ?_);refine wpAny_bind (wpAny_newTuple (hsz:=j7 rfl) ?_);have sz:g3.objs.size=s.heap.objs.size:=by rw[sb3.1,sb2.1,sb1.1]
 have up:∀c o,c≠z->c≠i1->c≠i2->s.heap.get? c=some o->g3.get? c=some o:=fun c o c1 c2 c3 e=>sb3.extBut _ _ c3 (sb2.extBut _ _ c2 (sb1.extBut _ _ c1 e))
 have zr3:BG g3 z TI TO (rawInt T) (.bool true):=sb3.extBut _ _ D.i2z.symm (sb2.extBut _ _ D.i1z.symm zr1);refine wpAny_pure ⟨_,rfl,?_⟩
 change Q (.ref g3.objs.size) { s with heap:=g3.push { cls:=.type "tuple",data:=.seq #[u,v] } }
 have last:=hQ (g3.push { cls:=.type "tuple",data:=.seq #[u,v] }) (Heap.get?_push_of_some _ zr3) ((j1a.extBut sb3.extBut D.i12).at fun o e=>Heap.get?_push_of_some _ e) (j2a.at fun o e=>Heap.get?_push_of_some _ e)
  (by rw[<- sz];exact Heap.get?_push_size _ rfl) fun c o c1 c2 c3 e=>Heap.get?_push_of_some _ (up c o c1 c2 c3 e)
 rw[sz];exact last
theorem Ld {z TI TO T i1 i2 l1 l2:Addr} {k1:Nat} {us:Array Value} {b1:Bool} {o:Obj} {Q:PySem.Fin->Shared->Prop} (hh:A.handled=none) (D:ZipApart z TI TO i1 i2 l1 l2) (zr:BG s.heap z TI TO (rawInt T) (.bool b1)) (al:s.heap.get? T=some o)
  (pt:IsPair s.heap TI (.ref i1) (.ref i2)) (j1:s.heap.IsListIter i1 l1 k1) (m1:s.heap.IsList l1 us) (eu:us[k1]?=none)
  (hE:∀h' e,(∀c o,c≠z->c≠i1->c≠i2->s.heap.get? c=some o->h'.get? c=some o)->(∃o,h'.get? e=some o/\o.cls=.type "StopIteration")->E (.ref e) { s with heap:=h' }) :
  wpAny (model prog w) A (Builtin.«zip.__next__» ⟨[.ref z],[]⟩) Q E s:=by
 change wpAny _ _ (field (Value.ref z) 2 >>= _) _ _ s
 refine wpAny_bind (wpAny_field zr rfl (x:=.bool false) rfl ?_)
 change wpAny _ _ (field (Value.ref z) 3 >>= _) _ _ s
 refine wpAny_bind (wpAny_field zr rfl (x:=.ref TI) rfl (wpAny_bind (wpAny_seqItems pt rfl ?_)))
 change wpAny _ _ (Builtin.SmallTypes.ownedTupleIsFree (Value.ref z) >>= _) _ _ s
 refine wpAny_bind (A1 zr al fun g1 zr1 sb1=>?_);simp only[jz,if_false];refine wpAny_bind ?_;rw[<- Array.forIn_toList];simp only[Mj,Dc];refine wpAny_bind (wpAny_bind (wpAny_holding ?_))
 change wpAny _ _ (Builtin.SmallTypes.nextOf (Value.ref i1) >>= _) _ _ _
 exact wpAny_bind (wpAny_nextOf_list_end hh (j1.extBut sb1.extBut D.i1z) (m1.extBut sb1.extBut D.l1z) eu fun g2 e xb he=>hE g2 e (fun c o c1 c2 _ q=>xb _ _ c2 (sb1.extBut _ _ c1 q)) he)
theorem JB {z TI TO T i1 i2 l1 l2:Addr} {k1 k2:Nat} {us ws:Array Value} {u v:Value} {b1:Bool} {o:Obj} {Q:Option Value->Shared->Prop} (D:ZipApart z TI TO i1 i2 l1 l2) (zr:BG s.heap z TI TO (rawInt T) (.bool b1)) (al:s.heap.get? T=some o)
  (pt:IsPair s.heap TI (.ref i1) (.ref i2)) (j1:s.heap.IsListIter i1 l1 k1) (j2:s.heap.IsListIter i2 l2 k2) (m1:s.heap.IsList l1 us) (m2:s.heap.IsList l2 ws) (eu:us[k1]?=some u) (ev:ws[k2]?=some v)
  (hQ:∀h',BG h' z TI TO (rawInt T) (.bool true)->h'.IsListIter i1 l1 (k1+1)->h'.IsListIter i2 l2 (k2+1)->IsPair h' s.heap.objs.size u v->(∀c o,c≠z->c≠i1->c≠i2->s.heap.get? c=some o->h'.get? c=some o)->Q (some (.ref s.heap.objs.size)) { s with heap:=h' }) :
  wpAny (model prog w) A (pyNext (.ref z)) Q E s:=by
 have ty:s.TypeIs (.ref z) "zip":=⟨_,zr,rfl⟩;unfold pyNext;refine wpAny_bind (wpAny_attempt (wpAny_callSpecial?_slot (name:=Str.ofString "__next__") ty rZ (wpAny_call_entry rZ ty PySem.F.entry_zip_next ?_ (R0 _))));exact JG D zr al pt j1 j2 m1 m2 eu ev fun h' a1 a2 a3 a4 a5=>wpAny_pure (hQ h' a1 a2 a3 a4 a5)
theorem JA {z TI TO T i1 i2 l1 l2:Addr} {k1:Nat} {us:Array Value} {b1:Bool} {o:Obj} {Q:Option Value->Shared->Prop} (hh:A.handled=none) (D:ZipApart z TI TO i1 i2 l1 l2) (zr:BG s.heap z TI TO (rawInt T) (.bool b1)) (al:s.heap.get? T=some o)
  (pt:IsPair s.heap TI (.ref i1) (.ref i2)) (j1:s.heap.IsListIter i1 l1 k1) (m1:s.heap.IsList l1 us) (eu:us[k1]?=none)
  (hQ:∀h',(∀c o,c≠z->c≠i1->c≠i2->s.heap.get? c=some o->h'.get? c=some o)->Q none { s with heap:=h' }):wpAny (model prog w) A (pyNext (.ref z)) Q E s:=by
 have ty:s.TypeIs (.ref z) "zip":=⟨_,zr,rfl⟩;unfold pyNext;refine wpAny_bind (wpAny_attempt (wpAny_callSpecial?_slot (name:=Str.ofString "__next__") ty rZ (wpAny_call_entry rZ ty PySem.F.entry_zip_next ?_ (R0 _))));refine Ld hh D zr al pt j1 m1 eu fun h' e kk ⟨oe,he,hc⟩=>?_
 exact wpAny_bind (wpAny_isInstance (T:="StopIteration") (b:=true) ⟨oe,he,hc⟩ isSubtype_stop (wpAny_pure (hQ _ kk)))
end
section
variable {X:Cx} {pins:List (Addr×Obj)} {σ:St} {H:Hp} {s:Shared}
theorem Inv.moved {h':Heap} {ch:List Addr} {g':Array GenState} {d':Drawn} {t':Nat} (I:Inv X pins σ H s) (fx:∀b∈ch,lH X pins H b) (up:∀b o,b∉ch->s.heap.get? b=some o->h'.get? b=some o) (hg:AllBare g') :
  Inv X pins σ H { s with heap:=h',gens:=g',drawn:=d',toks:=t' }:=by
 have nx:∀b o,H b=some o->b∉ch:=fun b o e hb=>by have:=(fx b hb).1;rw[this] at e;cases e
 refine I.step (ch:=ch) (fun b hb=>?_) (fun b o _ _ hb e _=>up b o hb e) (fun b o _ _ hb e _=>⟨o.slots,up b o hb e⟩) (fun b o hb e n=>n) (fun b o hb e=>⟨o,up b o hb e⟩) (fun b q e=>e) (fun b o q e=>e) (fun b q e=>⟨#[],by rw[e];simp⟩) (fun m hm=>?_) (fun b o e=>?_) hg
 ·obtain ⟨_,f1,_,f3,f4,f5⟩:=fx b hb;exact ⟨f3,f1,f4,f5⟩
 ·obtain ⟨o,es,ep,ho,r⟩:=hm;exact ⟨o,es,ep,up _ o (fun z=>(fx _ z).2.1 rfl) ho,r⟩
 ·refine (I.hok b o e).stay (fun c v' hc q=>up c v' ?_ q) (fun c q=>q) fun c xs q=>q
  rcases hc with rfl | hc
  ·exact nx _ _ e
  ·exact nx _ _ hc
theorem Inv.track {p:Addr} {o:HO} (I:Inv X pins σ H s) (fp:lH X pins H p) (new:j3 X.prog X.w (upd H p o) s.heap p o):Inv X pins σ (upd H p o) s:=by
 have nt:∀{b:Addr} {u:HO},H b=some u->b≠p:=fun e z=>by rw[z,fp.1] at e;cases e
 refine I.step (h':=s.heap) (g':=s.gens) (d':=s.drawn) (t':=s.toks) (ch:=[p]) (fun b hb=>?_) (fun b o _ _ _ e _=>e) (fun b o _ _ _ e _=>⟨o.slots,e⟩) (fun b o hb e n=>?_) (fun b o _ e=>⟨o,e⟩) (fun b q e=>by rw[bJ (nt e)];exact e) (fun b o q e=>by rw[bJ (nt e)];exact e)
  (fun b q e=>⟨#[],by rw[bJ (nt e),e];simp⟩) (fun m hm=>hm) (fun b u e=>?_) I.bare
 ·have e:b=p:=by simpa using hb
  subst e;obtain ⟨_,f1,_,f3,f4,f5⟩:=fp;exact ⟨f3,f1,f4,f5⟩
 ·rw[bJ fun z=>hb (by simp [z])];exact n
 ·by_cases hb:b=p
  ·subst hb;rw[aK] at e;cases e;exact new
  ·rw[bJ hb] at e;exact (I.hok b u e).stay (fun c v _ q=>q) (fun c q=>by rw[bJ (nt q)];exact q) fun c xs q=>by rw[bJ (nt q)];exact q
end
def OF (H:Hp) (p:V×V) (x:V):Prop:=∃T,x=.ref T/\H T=some (.tup [p.1,p.2])
theorem OF.same {H H':Hp} {p:V×V} {x:V} (h:OF H p x) (e:aJ H H'):OF H' p x:=by obtain ⟨T,q,g⟩:=h;exact ⟨T,q,e _ _ g⟩
def Zst (h:Heap) (z TI TO:Addr) (base:Nat):Prop:=(∃a b,IsPair h TO a b)/\(IsZip h z TI TO .none\/∃(T:Addr) (b1:Bool) (o:Obj),BG h z TI TO (rawInt T) (.bool b1)/\h.get? T=some o/\@LE.le Nat instLENat base T)
theorem Dd {h:Heap} {z TI TO i1 i2 l1 l2:Addr} {f0 f1 a b:Value} {k1 k2:Nat} {xs ys:Array Value} (hz:BG h z TI TO f0 f1) (hTI:IsPair h TI (.ref i1) (.ref i2)) (hTO:IsPair h TO a b) (h1:h.IsListIter i1 l1 k1) (h2:h.IsListIter i2 l2 k2) (hl1:h.IsList l1 xs) (hl2:h.IsList l2 ys) (hT:TI≠TO) (hi:i1≠i2):ZipApart z TI TO i1 i2 l1 l2:=by
 obtain ⟨o1,g1,c1,_⟩:=h1;obtain ⟨o2,g2,c2,_⟩:=h2;obtain ⟨p1,q1,d1,_⟩:=hl1;obtain ⟨p2,q2,d2,_⟩:=hl2;have zt:Value.type "zip"≠.type "tuple":=oK (by decide);have it:Value.type "list_iterator"≠.type "tuple":=oK (by decide);have iz:Value.type "list_iterator"≠.type "zip":=oK (by decide);have lz:Value.type "list"≠.type "zip":=oK (by decide);have lt:Value.type "list"≠.type "tuple":=oK (by decide);have li:Value.type "list"≠.type "list_iterator":=oK (by decide)
 exact ⟨dB hTI hz zt.symm,dB hTO hz zt.symm,dB g1 hz (by rw[c1];exact iz),dB g2 hz (by rw[c2];exact iz),hT,dB hTI g1 (by rw[c1];exact it.symm),dB hTI g2 (by rw[c2];exact it.symm),dB hTO g1 (by rw[c1];exact it.symm),dB hTO g2 (by rw[c2];exact it.symm),hi,
  dB q1 hz (by rw[d1];exact lz),dB q1 hTO (by rw[d1];exact lt),dB q1 g1 (by rw[d1,c1];exact li),dB q1 g2 (by rw[d1,c2];exact li),dB q2 hz (by rw[d2];exact lz),dB q2 hTO (by rw[d2];exact lt),dB q2 g1 (by rw[d2,c1];exact li),dB q2 g2 (by rw[d2,c2];exact li)⟩
section
variable {X:Cx} {pins:List (Addr×Obj)} {σ:St}
theorem lH.heap {H H':Hp} {b:Addr} (f:lH X pins H b) (e:H' b=none):lH X pins H' b:=⟨e,f.2⟩
structure Ek where
 z:Addr
 TI:Addr
 TO:Addr
 i1:Addr
 i2:Addr
 S:Addr
 base:Nat
def Ek.all (a:Ek):List Addr:=[a.z,a.TI,a.TO,a.i1,a.i2,a.S]
structure Ek.Ok (a:Ek):Prop where
 tt:a.TI≠a.TO
 ii:a.i1≠a.i2
 Sz:a.S≠a.z
 STI:a.S≠a.TI
 STO:a.S≠a.TO
 Si1:a.S≠a.i1
 Si2:a.S≠a.i2
 lt:∀b∈a.all,@LT.lt Nat instLTNat b a.base
structure N2 (X:Cx) (pins:List (Addr×Obj)) (σ:St) (H1:Hp) (a:Ek) (l1 l2:Addr) (i:Nat) (H:Hp) (s:Shared):Prop where
 inv:Inv X pins σ H s
 same:aJ H1 H
 fps:∀b∈a.all,lH X pins H b
 sz:a.base<=s.heap.objs.size
 zst:Zst s.heap a.z a.TI a.TO a.base
 pt:IsPair s.heap a.TI (.ref a.i1) (.ref a.i2)
 j1:s.heap.IsListIter a.i1 l1 i
 j2:s.heap.IsListIter a.i2 l2 i
variable {a:Ek} {l1 l2:Addr} {H1 H:Hp} {s:Shared} {i:Nat} {xs ys:List V}
theorem N2.push {h':Heap} (L:N2 X pins σ H1 a l1 l2 i H s) (O:a.Ok) (k:∀b o,b≠a.S->s.heap.get? b=some o->h'.get? b=some o) (hz:h'.objs.size=s.heap.objs.size):N2 X pins σ H1 a l1 l2 i H { s with heap:=h' }:=by
 refine ⟨L.inv.moved (g':=s.gens) (d':=s.drawn) (t':=s.toks) (ch:=[a.S]) (fun b hb=>?_) (fun b o hb e=>k b o (fun z=>hb (by simp [z])) e) L.inv.bare,L.same,L.fps,by show a.base<=h'.objs.size;rw[hz];exact L.sz,?_,k _ _ O.STI.symm L.pt,L.j1.at fun o e=>k _ o O.Si1.symm e,L.j2.at fun o e=>k _ o O.Si2.symm e⟩
 ·have e:b=a.S:=by simpa using hb
  rw[e];exact L.fps _ (by simp [Ek.all])
 ·obtain ⟨⟨c,d,z0⟩,z4⟩:=L.zst;refine ⟨⟨c,d,k _ _ O.STO.symm z0⟩,?_⟩;rcases z4 with z1 | ⟨T,b1,o,z1,z2,z3⟩
  ·exact .inl (k _ _ O.Sz.symm z1)
  ·refine .inr ⟨T,b1,o,k _ _ O.Sz.symm z1,k _ _ (fun e=>?_) z2,z3⟩;have:=O.lt a.S (by simp [Ek.all]);rw[<- e] at this;exact absurd this (Nat.not_lt.mpr z3)
theorem J7 {A':Around} {E:Value->Shared->Prop} {Q:Option Value->Shared->Prop} (O:a.Ok) (q1:bU X.K H1 l1 xs) (q2:bU X.K H1 l2 ys) {x y:V} (ex:xs[i]?=some x) (ey:ys[i]?=some y) (L:N2 X pins σ H1 a l1 l2 i H s)
  (hQ:∀s',N2 X pins σ H1 a l1 l2 (i+1) (upd H s.heap.objs.size (.tup [x,y])) s'->(∀c o,c∉[a.z,a.TO,a.i1,a.i2]->s.heap.get? c=some o->s'.heap.get? c=some o)->H s.heap.objs.size=none->Q (some (.ref s.heap.objs.size)) s'):wpAny (model X.prog X.w) A' (pyNext (.ref a.z)) Q E s:=by
 obtain ⟨I,sm,fps,sz,zst,pt,j1,j2⟩:=id L;obtain ⟨us,ru,pu,_⟩:=I.list (sm.seq q1);obtain ⟨ws,rw',pw,_⟩:=I.list (sm.seq q2);obtain ⟨u,eu,r1⟩:=ru.get ex;obtain ⟨v,ev,r2⟩:=rw'.get ey;have fx:∀b∈[a.z,a.TO,a.i1,a.i2],lH X pins H b:=fun b hb=>fps b (by simp only[Ek.all,aF,aY,or_false] at hb ⊢;rcases hb with e | e | e | e <;> simp [e])
 have hT0:H s.heap.objs.size=none:=I.hok.fresh (aw _);have fT:lH X pins H s.heap.objs.size:=I.fpOk (aw _) hT0;have lt:∀b∈a.all,b≠s.heap.objs.size:=fun b hb e=>by have:=O.lt b hb;rw[e] at this;exact absurd this (Nat.not_lt.mpr sz)
 have fin:∀h',(∀c o,c∉[a.z,a.TO,a.i1,a.i2]->s.heap.get? c=some o->h'.get? c=some o)->IsPair h' s.heap.objs.size u v->IsPair h' a.TI (.ref a.i1) (.ref a.i2)->h'.IsListIter a.i1 l1 (i+1)->h'.IsListIter a.i2 l2 (i+1)->Zst h' a.z a.TI a.TO a.base →
   Q (some (.ref s.heap.objs.size)) { s with heap:=h' }:=fun h' up pr pt' j1' j2' zst'=>by
  have I2:Inv X pins σ H { s with heap:=h' }:=I.moved (g':=s.gens) (d':=s.drawn) (t':=s.toks) fx up I.bare;have I3:Inv X pins σ (upd H s.heap.objs.size (.tup [x,y])) { s with heap:=h' }:=I2.track fT ⟨j7 rfl,[u,v],.cons r1 (.cons r2 .nil),⟨_,pr,rfl,_,rfl⟩⟩;refine hQ _ ⟨I3,sm.trans (aJ.new hT0),fun b hb=>(fps b hb).heap (by rw[bJ (lt b hb)];exact (fps b hb).1),?_,zst',pt',j1',j2'⟩ up hT0;exact ai sz (aS (Heap.lt_size pr))
 obtain ⟨⟨c,d,z0⟩,z4⟩:=zst;rcases z4 with z1 | ⟨T,b1,o,z1,z2,z3⟩
 ·have D:=Dd z1 pt z0 j1 j2 pu.isList pw.isList O.tt O.ii;refine wpAny_pyNext_zip_item D z1 pt z0 j1 j2 pu.isList pw.isList (x:=u) (y:=v) (by simpa using eu) (by simpa using ev) fun h' a1 a2 a3 a4 a5 a6 hk=>?_
  have up:∀c o,c∉[a.z,a.TO,a.i1,a.i2]->s.heap.get? c=some o->h'.get? c=some o:=fun c o hc e=>by
   simp only[aF,aY,or_false,not_or] at hc;exact hk c o hc.1 hc.2.1 hc.2.2.1 hc.2.2.2 e
  exact fin h' up a5 (hk _ _ D.TIz D.TITO D.TIi1 D.TIi2 pt) a3 a4 ⟨⟨_,_,a2⟩,.inr ⟨s.heap.objs.size,false,_,a1,a5,sz⟩⟩
 ·have D:=Dd z1 pt z0 j1 j2 pu.isList pw.isList O.tt O.ii;refine JB D z1 z2 pt j1 j2 pu.isList pw.isList (u:=u) (v:=v) (by simpa using eu) (by simpa using ev) fun h' a1 a3 a4 a5 hk=>?_
  have up:∀c o,c∉[a.z,a.TO,a.i1,a.i2]->s.heap.get? c=some o->h'.get? c=some o:=fun c o hc e=>by
   simp only[aF,aY,or_false,not_or] at hc;exact hk c o hc.1 hc.2.2.1 hc.2.2.2 e
  have Tn:∀b∈a.all,T≠b:=fun b hb e=>by have:=O.lt b hb;rw[<- e] at this;exact absurd this (Nat.not_lt.mpr z3)
  exact fin h' up a5 (hk _ _ D.TIz D.TIi1 D.TIi2 pt) a3 a4 ⟨⟨_,_,hk _ _ D.TOz D.TOi1 D.TOi2 z0⟩,.inr ⟨T,true,o,a1,hk _ _ (Tn _ (by simp [Ek.all])) (Tn _ (by simp [Ek.all])) (Tn _ (by simp [Ek.all])) z2,z3⟩⟩
theorem J6 {A':Around} {E:Value->Shared->Prop} {Q:Option Value->Shared->Prop} (hh:A'.handled=none) (O:a.Ok) (q1:bU X.K H1 l1 xs) (q2:bU X.K H1 l2 ys) (hi:xs.length<=i) (L:N2 X pins σ H1 a l1 l2 i H s)
  (hQ:∀s',Inv X pins σ H s'->(∀c o,c∉[a.z,a.TO,a.i1,a.i2]->s.heap.get? c=some o->s'.heap.get? c=some o)->Q none s'):wpAny (model X.prog X.w) A' (pyNext (.ref a.z)) Q E s:=by
 obtain ⟨I,sm,fps,sz,zst,pt,j1,j2⟩:=id L;obtain ⟨us,ru,pu,_⟩:=I.list (sm.seq q1);obtain ⟨ws,rw',pw,_⟩:=I.list (sm.seq q2);have lx:=ru.length;have none1:us.toArray[i]?=none:=by simp;lia
 have fx:∀b∈[a.z,a.TO,a.i1,a.i2],lH X pins H b:=fun b hb=>fps b (by simp only[Ek.all,aF,aY,or_false] at hb ⊢;rcases hb with e | e | e | e <;> simp [e])
 have fin:∀h',(∀c o,c∉[a.z,a.TO,a.i1,a.i2]->s.heap.get? c=some o->h'.get? c=some o)->Q none { s with heap:=h' }:=fun h' up=>hQ _ (I.moved (g':=s.gens) (d':=s.drawn) (t':=s.toks) fx up I.bare) up
 obtain ⟨⟨c,d,z0⟩,z4⟩:=zst;rcases z4 with z1 | ⟨T,b1,o,z1,z2,z3⟩
 ·have D:=Dd z1 pt z0 j1 j2 pu.isList pw.isList O.tt O.ii;refine wpAny_pyNext_zip_end hh D z1 pt z0 j1 j2 pu.isList pw.isList (.inl none1) fun h' hk=>fin h' fun c o hc e=>?_
  simp only[aF,aY,or_false,not_or] at hc;exact hk c o hc.1 hc.2.1 hc.2.2.1 hc.2.2.2 e
 ·have D:=Dd z1 pt z0 j1 j2 pu.isList pw.isList O.tt O.ii;refine JA hh D z1 z2 pt j1 pu.isList none1 fun h' hk=>fin h' fun c o hc e=>?_
  simp only[aF,aY,or_false,not_or] at hc;exact hk c o hc.1 hc.2.2.1 hc.2.2.2 e
theorem Ka {A':Around} {R:Result->Shared->Prop} (hh:A'.handled=none) (O:a.Ok) (hz:xs.length<=sizeLine) (hl:ys.length=xs.length) (q1:bU X.K H1 l1 xs) (q2:bU X.K H1 l2 ys)
  (fin:∀s' H' ts acc c,Inv X pins σ H' s'->aJ H1 H'->lH X pins H' a.S->s'.heap.get? a.S=some (lobj acc c)->cT ts acc->Paired (OF H') (xs.zip ys) ts->R (.ok (.ret .none)) s') :
  ∀(k i:Nat) (s:Shared) (H:Hp) (ts:List V) (acc:List Value) (c:Nat),xs.length - i=k->i<=xs.length->N2 X pins σ H1 a l1 l2 i H s->s.heap.get? a.S=some (lobj acc c)->cT ts acc->Paired (OF H) ((xs.zip ys).take i) ts →
   codeAny (model X.prog X.w) A' (.builtin "list.extend.loop" ⟨[.ref a.S,.ref a.z,.none],[]⟩) R s:=by
 have Sn:a.S∉[a.z,a.TO,a.i1,a.i2]:=fun h=>by
  simp only[aF,aY,or_false] at h;rcases h with e | e | e | e
  ·exact O.Sz e
  ·exact O.STO e
  ·exact O.Si1 e
  ·exact O.Si2 e
 intro k
 induction k with
 | zero =>
  intro i s H ts acc c hk hi L gS rv prs;have e:i=xs.length:=by lia
  refine codeAny_builtin Qs ?_;rw[Around.under_plainId mZ _]
  change wpAny _ A'.in1 (pyNext (Value.ref a.z) >>= _) _ _ s
  refine wpAny_bind (J6 hh O q1 q2 (by lia) L fun s' I' up=>wpAny_pure (fin s' H ts acc c I' L.same (L.fps _ (by simp [Ek.all])) (up _ _ Sn gS) rv ?_));rwa [aH (by rw[BP];lia)] at prs
 | succ k ih =>
  intro i s H ts acc c hk hi L gS rv prs;have hlt:i < xs.length:=by lia
  have lt:=prs.length;have la:=rv.length;refine codeAny_builtin Qs ?_;rw[Around.under_plainId mZ _]
  change wpAny _ A'.in1 (pyNext (Value.ref a.z) >>= _) _ _ s
  refine wpAny_bind (J7 O q1 q2 (x:=xs[i]) (y:=ys[i]'(by lia)) (by simp [hlt]) (by simp) L fun s' L' up hT=>?_);have gS':=up _ _ Sn gS
  change wpAny _ A'.in1 (updateSeq a.S (·.push (Value.ref s.heap.objs.size)) >>= _) _ _ s'
  have small:acc.length<=sizeLine:=by
   rw[cM,BP] at lt
   lia
  refine wpAny_bind (wpAny_updateSeq gS' rfl (wpAny_pure ⟨plainId_quiet mZ _,?_⟩) (by rw[aP];exact small) (by
   show (acc.toArray.push (Value.ref s.heap.objs.size)).size<=sizeLine+1
   rw[Array.size_push,aP]
   lia))
  have gS2:=mP gS' (fun b=>b.push (Value.ref s.heap.objs.size));have e2:(acc.toArray.push (Value.ref s.heap.objs.size))=(acc++[Value.ref s.heap.objs.size]).toArray:=by simp
  rw[e2] at gS2;refine ih (i+1) _ (upd H s.heap.objs.size (.tup [xs[i],ys[i]'(by lia)])) (ts++[.ref s.heap.objs.size]) (acc++[.ref s.heap.objs.size]) _ (by lia) hlt (L'.push O (fun b o hb e=>(Heap.get?_update_other _ _ (Ne.symm hb)).trans e) (Heap.size_update ..)) gS2 (rv.append (show cT [V.ref s.heap.objs.size] [Value.ref s.heap.objs.size] from .cons rfl .nil)) ?_;have zp:(xs.zip ys)[i]?=some (xs[i],ys[i]'(by lia)):=by simp [Qt,hlt]
  rw[take_snoc zp];exact (Paired.imp' (fun _ _ z=>z.same (aJ.new hT)) prs).snoc ⟨_,rfl,aK⟩
theorem FE:typeLookup (.type "zip") "__len__"=pure Option.none:=by rw[typeLookup_type,builtinLookup_eq_fast];kernel_rfl
theorem Ew:typeLookup (.type "zip") "__length_hint__"=pure Option.none:=by rw[typeLookup_type,builtinLookup_eq_fast];kernel_rfl
theorem J8 {A' : Around} {R : Result → Shared → Prop} (hh : A'.handled = none) (O : a.Ok) (hz : xs.length ≤ sizeLine) (hl : ys.length = xs.length) (q1 : bU X.K H1 l1 xs) (q2 : bU X.K H1 l2 ys) (L : N2 X pins σ H1 a l1 l2 0 H s) (gS : s.heap.get? a.S = some (lobj [] 0)) (z0 : IsZip s.heap a.z a.TI a.TO .none)
    (fin : ∀ s' H' ts acc c, Inv X pins σ H' s' → aJ H1 H' → lH X pins H' a.S → s'.heap.get? a.S = some (lobj acc c) → cT ts acc → Paired (OF H') (xs.zip ys) ts → R (.ok (.ret .none)) s') :
    wpAny (model X.prog X.w) A'.in1 (Builtin.«list.__init__» ⟨[.ref a.S, .ref a.z], []⟩) (fun fl s' => match fl with | .done f => R (.ok f) s' | .again c' => c'.quiet = true /\ codeAny (model X.prog X.w) A' c' R s') (fun e s' => R (.error e) s') s := by
  change wpAny _ A'.in1 (do let old <- Builtin.List.listItems (Value.ref a.S); Builtin.List.listUpdate (Value.ref a.S) (fun _ => #[]); letGo old.toList.reverse; Builtin.List.listExtendWith (Value.ref a.S) (Value.ref a.z) Value.none) _ _ s
  refine wpAny_bind ?_;unfold Builtin.List.listItems;refine wpAny_bind (wpAny_seqItems gS rfl (wpAny_pure ?_))
  change wpAny _ A'.in1 (updateSeq a.S (fun _ => #[]) >>= fun _ => letGo (#[] : Array Value).toList.reverse >>= fun _ => Builtin.List.listExtendWith (Value.ref a.S) (Value.ref a.z) Value.none) _ _ s
  refine wpAny_bind (wpAny_updateSeq gS rfl ?_);have g1 := mP gS (fun _ => (#[] : Array Value));obtain ⟨n1, g1⟩ : ∃ n1, (s.heap.update a.S (Obj.mapSeq fun _ => (#[] : Array Value))).get? a.S = some (lobj [] n1) := ⟨_, g1⟩;have L1 := L.push (h' := s.heap.update a.S (Obj.mapSeq fun _ => (#[] : Array Value))) O (fun b o hb e => (Heap.get?_update_other _ _ (Ne.symm hb)).trans e) (Heap.size_update ..);have z1 : IsZip (s.heap.update a.S (Obj.mapSeq fun _ => (#[] : Array Value))) a.z a.TI a.TO .none := (Heap.get?_update_other _ _ O.Sz).trans z0;refine wpAny_bind (wpAny_letGo ?_);unfold Builtin.List.listExtendWith;have ty : Shared.TypeIs { s with heap := s.heap.update a.S (Obj.mapSeq fun _ => (#[] : Array Value)) } (.ref a.z) "zip" := ⟨_, z1, rfl⟩;refine wpAny_bind (wpAny_typeOf ty ?_);have h1 : Builtin.List.listSameRef (.ref a.S) (.ref a.z) = false := by simp [Builtin.List.listSameRef, O.Sz]
  have h2 : (Value.type "zip" == Value.type "list") = false := by decide
  have h3 : (Value.type "zip" == Value.type "tuple") = false := by decide
  simp only [h1, h2, h3, Bool.or_false, jz, if_false];refine wpAny_bind (wpAny_pyIter_zip z1 (wpAny_bind (wpAny_holding ?_)));unfold Builtin.List.listLengthHint;refine wpAny_bind (wpAny_specialOf ty FE ?_)
  change wpAny _ A'.in1 (specialOf (Value.ref a.z) (Str.ofString "__length_hint__") >>= _) _ _ _
  refine wpAny_bind (wpAny_specialOf ty Ew (wpAny_pure ?_))
  change wpAny _ A'.in1 (rule "list.extend.makes-room" >>= fun _ => Builtin.List.listTouch (Value.ref a.S) >>= fun _ => again (.builtin "list.extend.loop" ⟨[Value.ref a.S, Value.ref a.z, Value.none], []⟩)) _ _ _
  refine wpAny_bind (wpAny_rule (wpAny_bind ?_))
  change wpAny _ A'.in1 (updateSeq a.S (·.push Value.none) >>= fun _ => updateSeq a.S (·.pop)) _ _ _
  refine wpAny_bind (wpAny_updateSeq g1 rfl ?_);have g2 := mP g1 (fun b => b.push Value.none);obtain ⟨n2, g2⟩ : ∃ n2, ((s.heap.update a.S (Obj.mapSeq fun _ => (#[] : Array Value))).update a.S (Obj.mapSeq fun b => b.push Value.none)).get? a.S = some (lobj [Value.none] n2) := ⟨_, g2⟩;have L2 := L1.push (h' := (s.heap.update a.S (Obj.mapSeq fun _ => (#[] : Array Value))).update a.S (Obj.mapSeq fun b => b.push Value.none)) O (fun b o hb e => (Heap.get?_update_other _ _ (Ne.symm hb)).trans e) (Heap.size_update ..);refine wpAny_updateSeq g2 rfl ?_ (j7 rfl);have g3 := mP g2 (fun b => b.pop);have L3 := L2.push (h' := ((s.heap.update a.S (Obj.mapSeq fun _ => (#[] : Array Value))).update a.S (Obj.mapSeq fun b => b.push Value.none)).update a.S (Obj.mapSeq fun b => b.pop)) O (fun b o hb e => (Heap.get?_update_other _ _ (Ne.symm hb)).trans e) (Heap.size_update ..);exact wpAny_pure ⟨plainId_quiet mZ _, Ka hh O hz hl q1 q2 fin _ 0 _ H [] [] _ rfl (bA _) L3 g3 .nil .nil⟩
end
section
variable {X:Cx}
theorem OK (n:Nat):Ek.Ok ⟨n+4,n+2,n+3,n,n+1,n+5,n+5+1⟩:=by
 have ne:∀p q:Nat,p≠q->@Ne Addr p q:=fun _ _ h=>h
 refine ⟨ne (n+2) (n+3) (by lia),ne n (n+1) (by lia),ne (n+5) (n+4) (by lia),ne (n+5) (n+2) (by lia),ne (n+5) (n+3) (by lia),ne (n+5) n (by lia),ne (n+5) (n+1) (by lia),fun b hb=>?_⟩;have hb':b∈[n+4,n+2,n+3,n,n+1,n+5]:=hb;show @LT.lt Nat instLTNat b (n+5+1)
 simp only[aF,aY,or_false] at hb';rcases hb' with e | e | e | e | e | e <;> (rw[e];exact bM (jg _) (by lia))
def Ez (K:PySem.W.Frag) (ta:TA):TE:=fun σ H Q=>ta σ H fun vs H1=>∃(l1 l2:Addr) (xs ys:List V),vs=[.ref l1,.ref l2]/\bU K H1 l1 xs/\bU K H1 l2 ys/\ys.length=xs.length /\
 ∀L ts H',aJ H1 H'->H1 L=none->H' L=some (.lst ts)->Paired (OF H') (xs.zip ys) ts->Q (.ref L) H'
theorem Gg {e1 e2:Expr} {ta:TA} {p p2 pos pos2:Pos} (hg:Gl X "list") (hm:X.mg "list"=none) (hg2:Gl X "zip") (hm2:X.mg "zip"=none) (ha:PA X [e1,e2] ta) (hc:X.calm=true:=by rfl)
  (hs:starEach [e1,e2] X.env=[(false,eval e1 X.env),(false,eval e2 X.env)]:=by rfl) (hs2:starEach [e2] X.env=[(false,eval e2 X.env)]:=by rfl)
  (hs3:starEach [Expr.Call (.Name "zip" p2) [e1,e2] [] pos2] X.env=[(false,eval (.Call (.Name "zip" p2) [e1,e2] [] pos2) X.env)]:=by rfl) :
  PE X (.Call (.Name "list" p) [.Call (.Name "zip" p2) [e1,e2] [] pos2] [] pos) (Ez X.K ta):=by
 intro pins s σ H Q I h;refine wpAny_Call_Name_kw (lE I hg hm boot_list ?_);refine PyProof.Rows.callWith_type1 ?_ (by rw[hs3];rfl) rfl;rw[hs3];show wpAny _ _ (spliced ((false,eval (.Call (.Name "zip" p2) [e1,e2] [] pos2) X.env) :: [])) _ _ s
 refine Calls.spliced_cons ?_;refine Call_ (lE I hg2 hm2 boot_zip (PyProof.Rows.callWith_type1 (gF (ha pos2 pins s σ H _ I h) fun us s1 ⟨vs,H1,I1,r1,q1⟩=>?_) (by rw[hs,hs2]) (by rw[hs2];rfl)));obtain ⟨l1,l2,xs,ys,e,qx,qy,hl,q⟩:=q1;subst e;obtain ⟨u,v,rfl,ru,rv⟩:=vals2 r1;cases ru;cases rv;obtain ⟨us,rx,px,hz⟩:=I1.list qx;obtain ⟨ws,ry,py,_⟩:=I1.list qy;refine call_zip_2 px.isList py.isList fun h' a1 a2 a3 a4 a5 a6 hk=>?_
 refine Calls.spliced_nil ?_;have I2:Inv X pins σ H1 { s1 with heap:=h' }:=I1.kept (t':=s1.toks) hk;have up:∀b o,h'.get? b=some o->(h'.push { cls:=.type "list",data:=.seq #[] }).get? b=some o:=fun b o e=>Heap.get?_push_of_some _ e
 have O:Ek.Ok ⟨s1.heap.objs.size+4,s1.heap.objs.size+2,s1.heap.objs.size+3,s1.heap.objs.size,s1.heap.objs.size+1,h'.objs.size,h'.objs.size+1⟩:=by
  rw[a6];exact OK s1.heap.objs.size
 have old:∀b∈(Ek.mk (s1.heap.objs.size+4) (s1.heap.objs.size+2) (s1.heap.objs.size+3) s1.heap.objs.size (s1.heap.objs.size+1) h'.objs.size (h'.objs.size+1)).all,s1.heap.objs.size<=b:=fun b hb=>by
  rw[a6] at hb;simp only[Ek.all,aF,aY,or_false] at hb;rcases hb with rfl | rfl | rfl | rfl | rfl | rfl <;> first | exact zW _ _ | exact aw _
 have gS:(h'.push { cls:=.type "list",data:=.seq #[] }).get? h'.objs.size=some (lobj [] 0):=Heap.get?_push_size _ rfl;refine callType_codes (Q₁:=fun ob t=>ob=.ref h'.objs.size/\t={ s1 with heap:=h'.push { cls:=.type "list",data:=.seq #[] } }) PySem.F.called_list (PySem.F.typeCall_list_1 _) PySem.F.entry_list_init (code_list_new _ ⟨rfl,rfl⟩) fun ob t ht=>?_
 obtain ⟨rfl,rfl⟩:=ht;refine ⟨⟨_,gS,rfl⟩,PySem.F.args_list_init_2 _ _,?_⟩
 have L:N2 X pins σ H1 ⟨s1.heap.objs.size+4,s1.heap.objs.size+2,s1.heap.objs.size+3,s1.heap.objs.size,s1.heap.objs.size+1,h'.objs.size,h'.objs.size+1⟩ l1 l2 0 H1 { s1 with heap:=h'.push { cls:=.type "list",data:=.seq #[] } } :=
  ⟨I2.kept (t':=s1.toks) up,aJ.refl _,fun b hb=>I1.fpOk (old b hb) (I1.hok.fresh (old b hb)),by rw[Heap.size_push];exact aw _,⟨⟨_,_,up _ _ a3⟩,.inl (up _ _ a1)⟩,up _ _ a2,a4.at fun o e=>up _ o e,a5.at fun o e=>up _ o e⟩
 refine J8 (A':=X.A.in1) (I.ok.hd hc) O hz hl qx qy L gS (up _ _ a1) fun s' H' ts acc c I' sm fS gS' vs' prs=>⟨rfl,?_⟩
 have nS:H1 h'.objs.size=none:=I1.hok.fresh (old _ (by simp [Ek.all]));have lt:=prs.length;rw[BP] at lt;exact ⟨.ref h'.objs.size,_,I'.track (o:=.lst ts) fS ⟨by lia,acc,c,vs',gS'⟩,rfl,q _ ts _ (sm.trans (aJ.new fS.1)) nS aK (Paired.imp' (fun _ _ z=>z.same (aJ.new fS.1)) prs)⟩
end
end L2
namespace Nm
def y9:List Int->Int->Int
 | [],m=>m
 | b :: r,m=>y9 r (m*(b / g m b))
theorem yi {m b:Int} (hm:0 < m) (hb:0 < b):0 < m*(b / g m b):=js hm (DW (t:=m) hb)
theorem DT {m b : Int} : b ∣ m * (b / g m b) := by
  have h1 := Bn m b;refine ⟨lo m b, ?_⟩;have h2 : b / g m b * g m b = b := zd m b
  calc m * (b / g m b) = lo m b * g m b * (b / g m b) := by rw [h1]
    _ = lo m b * (b / g m b * g m b) := by rw [dP, fL (g m b)]
    _ = b * lo m b := by rw [h2, fL]
theorem Bp:∀{bs:List Int} {m:Int},0 < m->(∀b∈bs,0 < b)->0 < y9 bs m
 | [],_,hm,_=>hm
 | b :: r,m,hm,h=>Bp (bs:=r) (yi hm (h b dD)) fun c hc=>h c (cb _ hc)
theorem Fb:∀{bs:List Int} {m:Int},m∣y9 bs m
 | [],_=>IG _
 | b :: r,m=>Int.dvd_trans (Int.dvd_mul_right m _) (Fb (bs:=r))
theorem E9:∀{bs:List Int} {m b:Int},b∈bs->b∣y9 bs m
 | c :: r,m,b,h=>by
  rcases aF.mp h with rfl | h
  ·exact Int.dvd_trans DT (Fb (bs:=r))
  ·exact E9 (bs:=r) h
end Nm
namespace L2
open PySem PySem.Spec PyProof.Rows Nm
def El (K:PySem.W.Frag) (H:Hp) (p:Addr) (ns:List (Int×Int)):Prop:=∃xs,H p=some (.lst xs)/\Paired (fun n x=>Fs K H x n) ns xs
theorem El.same {K:PySem.W.Frag} {H H':Hp} {p:Addr} {ns:List (Int×Int)} (h:El K H p ns) (e:aJ H H'):El K H' p ns:=by obtain ⟨xs,g,q⟩:=h;exact ⟨xs,e _ _ g,Paired.imp' (fun _ _ z=>e.num z) q⟩
def ET (K:PySem.W.Frag) (T:String):V->Hp->VK->Prop:=fun x H Q=>Jq K T x H Q\/∃a xs b,x=.ref a/\sv K H a xs/\PySem.W.kitOne K (.type "tuple") (.type T)=some b/\Q (.bl b) H
theorem CI:∀{bs:List Int} {m b:Int},y9 (bs++[b]) m=y9 bs m*(b / g (y9 bs m) b)
 | [],_,_=>rfl
 | c :: r,m,b=>CI (bs:=r)
def fG (ns:List (Int×Int)) (B:Int):List Int:=ns.map fun n=>n.1*(B / n.2)
def ik (ns:List (Int×Int)):Int:=y9 (ns.map (·.2)) 1
def LR (ns ms:List (Int×Int)):Int:=(List.zipWith (·*·) (fG ns (ik ns)) (fG ms (ik ms))).sum
theorem rT {ns:List (Int×Int)} {n:Int×Int} (h:n∈ns):n.2∣ik ns:=E9 (aB.mpr ⟨n,h,rfl⟩)
theorem FZ {σ:St} {H:Hp} {Q:VK} {K:PySem.W.Frag} {ta:TA} (h:ta σ H fun vs H1=>∃(l1 l2:Addr) (xs ys:List V),vs=[.ref l1,.ref l2]/\bU K H1 l1 xs/\bU K H1 l2 ys/\ys.length=xs.length /\
 ∀L ts H',aJ H1 H'->H1 L=none->H' L=some (.lst ts)->Paired (OF H') (xs.zip ys) ts->Q (.ref L) H'):Ez K ta σ H Q:=h
theorem SH {m b:Int} (hb:0 < b) {k:Nat} (h:Sz k b):Sz k (g m b):=h.le (by
 have h1:(g m b).natAbs=Int.gcd m b:=by unfold g;simp
 rw[h1];exact fU (by lia) (by have:=fu (a:=m) (b:=b);exact eN.mpr this |> fun z=>by simpa using z))
theorem Mm {ts us:List Int} {i:Nat} {pq:V×V} (h:((ts.map V.int).zip (us.map V.int))[i]?=some pq):∃t u,ts[i]?=some t/\us[i]?=some u/\pq=(.int t,.int u):=by
 rw[Qt,aG,aG] at h;obtain ⟨h1,h2⟩:=h;cases e1:ts[i]? with
 | none=>rw[e1] at h1;cases h1
 | some t =>
  cases e2:us[i]? with
  | none=>rw[e2] at h2;cases h2
  | some u =>
   rw[e1] at h1;rw[e2] at h2;refine ⟨t,u,rfl,rfl,?_⟩;cases pq;simp at h1 h2;rw[h1,h2]
def Je (K:PySem.W.Frag):Sp:=fun vs H Q _=>∃x n,vs=[x]/\Fs K H x n/\zR n/\∀H',aJ H H'->Q (.bl true) H'
def Cp (K:PySem.W.Frag):Sp:=fun vs H Q _=>∃(p:Addr) (ns:List (Int×Int)),vs=[.ref p,.int ns.length]/\El K H p ns/\ns.length<=1000/\(∀n∈ns,zR n)/\∀H',aJ H H'->Q (.bl true) H'
theorem Ak {X:Cx} {a:Expr} {ta:TE} {pos:Pos} {c:Str} {T:String} {p p2:Pos} (hg:Gl X "isinstance") (hm:X.mg "isinstance"=none) (hb:bootBuiltins c=some (.type T)) (hmc:X.mg c=none) (ha:PE X a ta) (hgc:Gl X c:=by rfl) (hn:c≠"__name__":=by decide)
  (hd:(c == ("__debug__":Str))=false:=by decide) (he:starEach [a,.Name c p2] X.env=[(false,eval a X.env),(false,eval (.Name c p2) X.env)]:=by rfl)
  (hpl:(backTo pos (starEach [.Name c p2] X.env)).any (·.1)=false:=by rfl) (he2:starEach [.Name c p2] X.env=[(false,eval (.Name c p2) X.env)]:=by rfl):PE X (.Call (.Name "isinstance" p) [a,.Name c p2] [] pos) (Sd (ET X.K T) ta):=by
 intro pins s σ H Q I h;refine wpAny_Call_Name_kw (lE I hg hm PyProof.Rows.boot_isinstance ?_);have hA:PA X [a,.Name c p2] (uz ta (uz (tC (.ty T)) IL)):=ae ha (ae (HQ hgc hmc hb rfl hn hd) ag he2) (by rw[he,he2])
 have hq:uz ta (uz (tC (.ty T)) IL) σ H (fun vs H1=>∃x,vs=[x,.ty T]/\ET X.K T x H1 Q):=by
  show ta σ H fun x H1=>∃x',[x,V.ty T]=[x',V.ty T]/\ET X.K T x' H1 Q
  have e:(fun x H1=>∃x',[x,V.ty T]=[x',V.ty T]/\ET X.K T x' H1 Q)=fun x H1=>ET X.K T x H1 Q:=by
   funext x H1;apply propext;constructor
   ·rintro ⟨x',e,q⟩;cases e;exact q
   ·intro q;exact ⟨x,rfl,q⟩
  rw[e];exact h
 refine PyProof.Rows.callWith_builtin1 (gF (hA pos pins s σ H _ I hq) fun us s1 ⟨vs,H1,I1,r1,x,e,q1⟩=>?_) (by rw[he,he2]) hpl;subst e;obtain ⟨u,w',rfl,ru,rt⟩:=vals2 r1;cases rt;rcases q1 with ⟨t,bb,ty,ek,q⟩ | ⟨ad,xs,bb,rfl,hs,ek,q⟩
 ·exact CK I1 ru ty ek fun tk=>⟨.bl bb,H1,I1.tok tk,rfl,q⟩
 ·cases ru;obtain ⟨its,_,⟨o,g1,g2,_⟩,_⟩:=I1.tuple hs;exact dG PySem.W.kitx_tuple I1.kIn ⟨o,g1,g2⟩ ek (fun z=>nomatch z) fun tk=>⟨.bl bb,H1,I1.tok tk,rfl,q⟩
theorem FY {H:Hp} {Q:VK} {l:Addr} {k:Nat} {x:V} (h:H l=some (.lst [x])) (hk:k<=1000) (q:∀p H',aJ H H'->H p=none->H' p=some (.lst (List.replicate k x))->Q (.ref p) H'):Ro (.ref l) (.int k) H Q :=
 ⟨l,k,[x],rfl,rfl,h,by lia,by lia,aS (bG (by simp;lia)),fun p hp=>q p _ (aJ.new hp) hp (by rw[aK];simp)⟩
theorem Qh {xs:List V} {k:Nat} (h:k<=xs.length):wq xs none (some (k:Int))=xs.take k:=by
 unfold wq;rw[HT.EM,HT.Ai,oy h];simp
theorem sI {α β:Type} {F:α->β->Prop} {x:α} {y:β} (h:F x y):∀m:Nat,Paired F (List.replicate m x) (List.replicate m y)
 | 0=>.nil
 | m+1=>.cons h (sI h m)
theorem fI {n a:Nat} (h:a < n):JW n (a:Int)=some a:=by
 unfold JW;rw[if_pos (by lia),if_pos (by lia),Int.toNat_natCast]
theorem LX {xs:List V} {k:Nat}:wq xs none (some (k:Int))=xs.take k:=by
 by_cases h:k<=xs.length
 ·exact Qh h
 ·unfold wq;rw[HT.EM,HT.Ai,Nat.min_eq_right (by lia),aH (by simp),aH (by lia)];rfl
theorem uI {α β:Type} {F:α->β->Prop}:∀{l1:List α} {l2:List β} (_:Paired F l1 l2) (k:Nat),Paired F (l1.take k) (l2.take k)
 | _,_,.nil,k=>by simp;exact .nil
 | _,_,.cons h r,0=>.nil
 | _,_,.cons h r,k+1=>.cons h (uI r k)
def Nj (K:PySem.W.Frag):List V->Hp->VK->Prop:=fun xs H Q=>∃p ys,xs=[.ref p]/\(bU K H p ys\/sv K H p ys)/\∀l,H l=none->Q (.ref l) (upd H l (.lst ys))
theorem fD {X:Cx} (K:PySem.W.Frag) (hK:X.K=K):uq X (.type "list") (Nj K):=by subst hK;exact tx
theorem aJ.none {H H':Hp} {l:Addr} (s:aJ H H') (h:H' l=Option.none):H l=Option.none:=by
 cases e:H l with
 | none=>rfl
 | some o=>have:=s _ _ e;rw[h] at this;cases this
def OH (K:PySem.W.Frag) (H:Hp) (p:Addr) (rows:List (List (Int×Int))):Prop:=∃xs,H p=some (.lst xs)/\Paired (fun ns x=>∃q,x=V.ref q/\El K H q ns) rows xs
theorem Ki {b:Int} (h:b.natAbs<=1000000):Sz 20 b:=bB h (by decide)
theorem dg.none {H H':Hp} {b l:Addr} (u:dg b H H') (B:iC H' b) (h:H' l=Option.none):H l=Option.none:=by
 cases e:H l with
 | none=>rfl
 | some o =>
  by_cases z:l=b
  ·obtain ⟨_,_,_,_,_,e2,_⟩:=B;rw[<- z,h] at e2;cases e2
  ·have:=u.1 l o e z;rw[h] at this;cases this
def FN (K:PySem.W.Frag):Sp:=fun vs H Q _=>∃(p:Addr) (rows:List (List (Int×Int))) (m:Nat),vs=[.ref p,.int rows.length,.int m]/\OH K H p rows/\rows.length<=1000/\m<=1000/\(∀ns∈rows,ns.length=m/\∀n∈ns,zR n)/\∀H',aJ H H'->Q (.bl true) H'
end L2
namespace Nm
def nm (q:Rat):Int×Int:=(q.num,(q.den:Int))
theorem ir (q:Rat):0 < (nm q).2:=by have:=q.den_pos;show 0 < (q.den:Int);lia
theorem DQ (q:Rat):Int.gcd (nm q).1 (nm q).2=1:=q.reduced
theorem PU {p q:Rat} (h:nm p=nm q):p=q:=by
 have h1:p.num=q.num:=congrArg Prod.fst h;have h2:(p.den:Int)=q.den:=congrArg Prod.snd h;exact Rat.ext h1 (by lia)
theorem nk (q : Rat) : (q.num : Rat) = q * (q.den : Rat) := by
  have h := Rat.num_divInt_den q;rw [Rat.divInt_eq_div] at h
  have hd : ((q.den : Int) : Rat) ≠ 0 := by
    intro z;have z := zU.mp z;have := q.den_pos
    lia
  have e : ((q.den : Int) : Rat) = (q.den : Rat) := aD _
  calc (q.num : Rat) = (q.num : Rat) / ((q.den : Int) : Rat) * ((q.den : Int) : Rat) := (Rat.div_mul_cancel hd).symm
    _ = q * (q.den : Rat) := by rw [h, e]
theorem RB {a b:Int} {q:Rat} (hb:0 < b) (hg:Int.gcd a b=1) (e:q*(b:Rat)=(a:Rat)):(a,b)=nm q:=by
 have h1:a*(q.den:Int)=q.num*b:=by
  apply dF.mp;rw[aN,aN,<- e,nk,aD];grind
 obtain ⟨e1,e2⟩:=uniq hb (ir q) hg (DQ q) h1;exact Prod.ext e1 e2
theorem nD {t b:Int} {q:Rat} (hb:0 < b) (e:q*(b:Rat)=(t:Rat)):(lo t b,hi t b)=nm q:=by
 refine RB (DW hb) (Bl (by lia)) ?_;have h:=Bm t b;have hb':(b:Rat)≠0:=fun z=>by have:=zU.mp z;lia
 have h2:((lo t b:Int):Rat)*(b:Rat)=(t:Rat)*((hi t b:Int):Rat):=by rw[<- aN,h,aN]
 rw[<- e] at h2;have h3:(q*((hi t b:Int):Rat) - ((lo t b:Int):Rat))*(b:Rat)=0:=by grind
 rcases BL.mp h3 with h4 | h4
 ·grind
 ·exact absurd h4 hb'
def Fr (M V:Nat) (q:Rat):Prop:=∃z:Int,q*(M:Rat)=(z:Rat)/\z.natAbs<=V*M
theorem Fr.mono {M V V':Nat} {q:Rat} (h:Fr M V q) (l:V<=V'):Fr M V' q:=by obtain ⟨z,e,b⟩:=h;exact ⟨z,e,ai b (az _ l)⟩
theorem Fr.scale {M V:Nat} {q:Rat} (h:Fr M V q) (k:Nat):Fr (M*k) V q:=by
 obtain ⟨z,e,b⟩:=h;refine ⟨z*k,?_,?_⟩
 ·rw[eB,aN,<- e,aD,Rat.mul_assoc]
 ·rw[cO,bN,<- cL];exact az _ b
theorem Fr.scaleL {M V:Nat} {q:Rat} (h:Fr M V q) (k:Nat):Fr (k*M) V q:=by rw[bX];exact h.scale k
theorem Fr.dvd {M N V:Nat} {q:Rat} (h:Fr M V q) (d:M∣N):Fr N V q:=by obtain ⟨k,rfl⟩:=d;exact h.scale k
theorem Fr.add {M V W:Nat} {p q:Rat} (h:Fr M V p) (h':Fr M W q):Fr M (V+W) (p+q):=by
 obtain ⟨z,e,b⟩:=h;obtain ⟨z',e',b'⟩:=h';refine ⟨z+z',by rw[BN,<- e,<- e',Rat.add_mul],?_⟩;rw[C8];have:=Int.natAbs_add_le z z'
 lia
theorem Fr.neg {M V:Nat} {q:Rat} (h:Fr M V q):Fr M V (-q):=by
 obtain ⟨z,e,b⟩:=h;exact ⟨-z,by rw[cH,<- e,Rat.neg_mul],by rw[kQ];exact b⟩
theorem Fr.mul {M N V W : Nat} {p q : Rat} (h : Fr M V p) (h' : Fr N W q) : Fr (M * N) (V * W) (p * q) := by
  obtain ⟨z, e, b⟩ := h;obtain ⟨z', e', b'⟩ := h';refine ⟨z * z', ?_, ?_⟩
  · rw [eB, aN, <- e, <- e']; grind
  · rw [cO]
    calc z.natAbs * z'.natAbs ≤ (V * M) * (W * N) := aL b b'
      _ = V * W * (M * N) := by rw [cL, Nat.mul_left_comm M, <- cL]
theorem Fr.zero {M V:Nat}:Fr M V 0:=⟨0,by simp,by simp⟩
theorem Fr.int {M V:Nat} {i:Int} (h:i.natAbs<=V):Fr M V (i:Rat):=⟨i*M,by rw[aN,aD],by rw[cO,bN];exact az _ h⟩
theorem Fr.one {M V:Nat} (h:1<=V):Fr M V 1:=Fr.int (i:=1) h
theorem Fr.den {M V:Nat} {q:Rat} (h:Fr M V q):(q.den:Int)∣(M:Int):=by
 obtain ⟨z,e,b⟩:=h
 have h1:q.num*(M:Int)=z*(q.den:Int):=by
  apply dF.mp;rw[aN,aN,<- e,nk,aD,aD];grind
 have h2:(q.den:Int)∣q.num*(M:Int):=⟨z,by rw[h1,fL]⟩;exact sU (by rw[mR];exact DQ q) h2
theorem Fr.den_le {M V:Nat} {q:Rat} (h:Fr M V q) (hM:0 < M):q.den<=M:=fU hM (ph.mp h.den)
theorem Fr.num_le {M V:Nat} {q:Rat} (h:Fr M V q) (hM:0 < M):q.num.natAbs<=V*M:=by
 have hd:=h.den;obtain ⟨z,e,b⟩:=h;obtain ⟨k,hk⟩:=ph.mp hd;have hk0:k≠0:=fun z=>by rw[z,AA] at hk;lia
 have h1:z=q.num*(k:Int):=by
  apply dF.mp;rw[aN,<- e,nk,aD,hk,eB];grind
 rw[h1] at b;exact ai (qZ (by lia)) b
theorem Fr.own (q:Rat) {V:Nat} (h:q.num.natAbs<=V):Fr q.den V q:=⟨q.num,(nk q).symm,ai h (dC _ q.den_pos)⟩
theorem Fr.sz {M V k j:Nat} {q:Rat} (h:Fr M V q) (hM:0 < M) (h1:M<=2^k) (h2:V<=2^j):Sz (j+k+1) (nm q).1/\Sz (k+1) (nm q).2:=by
 constructor
 ·show q.num.natAbs < 2^(j+k+1)
  have h3:=h.num_le hM;have h4:V*M<=2^j*2^k:=aL h2 h1;rw[ff,bD];have:=Nat.two_pow_pos (j+k);rw[bD] at this
  lia
 ·show (q.den:Int).natAbs < 2^(k+1)
  have h3:=h.den_le hM;rw[bN,ff];have:=Nat.two_pow_pos k
  lia
theorem Fr.sum {M V:Nat}:∀{l:List Rat},(∀x∈l,Fr M V x)->Fr M (l.length*V) l.sum
 | [],_=>by simp;exact Fr.zero
 | x :: r,h=>by
  rw[List.sum_cons,aZ,dR,qT];exact (h x (.head _)).add (Fr.sum fun y hy=>h y (.tail _ hy))
def eG (xs ys:List Rat):Rat:=(List.zipWith (·*·) xs ys).sum
theorem Fr.dot {M N V W : Nat} {xs ys : List Rat} (h : ∀ x ∈ xs, Fr M V x) (h' : ∀ y ∈ ys, Fr N W y) : Fr (M * N) (xs.length * (V * W)) (eG xs ys) := by
  have q := Fr.sum (M := M * N) (V := V * W) (l := List.zipWith (· * ·) xs ys) fun z hz => by
    obtain ⟨i, hi, e⟩ := bQ hz;rw [uv] at e;rw [<- e];exact (h _ (aQ _)).mul (h' _ (aQ _))
  exact q.mono (az _ (by rw [cz]; lia))
theorem Al : ∀ {bs : List Int} {m M : Int}, 0 < m → m ∣ M → (∀ b ∈ bs, 0 < b /\ b ∣ M) → y9 bs m ∣ M
  | [], _, _, _, h, _ => h
  | b :: r, m, M, hm, h, hb => by
    have b1 := hb b dD;refine Al (bs := r) (yi hm b1.1) ?_ fun c hc => hb c (cb _ hc)
    have gp : 0 < g m b := Bs (by lia);have e1 := Bn m b;have e2 := zd m b;obtain ⟨u, hu⟩ := h;obtain ⟨v, hv⟩ := b1.2
    have h3 : lo m b * u = hi m b * v := by
      apply xh (show g m b ≠ 0 by lia)
      calc lo m b * u * g m b = lo m b * g m b * u := by rw [dP, fL u, <- dP]
        _ = m * u := by rw [e1]
        _ = M := hu.symm
        _ = b * v := hv
        _ = hi m b * g m b * v := by rw [e2]
        _ = hi m b * v * g m b := by rw [dP, fL (g m b), <- dP]
    have h4 : hi m b ∣ lo m b * u := ⟨v, h3⟩;have h5 : hi m b ∣ u := sU (by rw [mR]; exact Bl (by lia)) h4;obtain ⟨w, hw⟩ := h5;refine ⟨w, ?_⟩;show M = m * hi m b * w
    rw [hu, hw, dP]
theorem DZ {a b:Int} {k:Nat} (hb:0 < b) (d:a∣b) (h:Sz k b):Sz k a:=h.le (fU (by lia) (eN.mpr d))
end Nm
namespace Nm
def Dr (W:Nat) (x:Rat):Prop:=x.num.natAbs<=W/\x.den<=W
def Cv:List Nat->Nat
 | []=>1
 | a :: r=>a*Cv r
theorem Ct:∀{l:List Nat},(∀a∈l,0 < a)->0 < Cv l
 | [],_=>Nat.one_pos
 | a :: r,h=>cu (h a (.head _)) (Ct fun b hb=>h b (.tail _ hb))
theorem Cu:∀{l:List Nat} {a:Nat},a∈l->a∣Cv l
 | b :: r,a,h=>by
  rcases aF.mp h with rfl | h
  ·exact Nat.dvd_mul_right ..
  ·exact Fw (Cu h) (sA ..)
theorem EV {k:Nat}:∀{l:List Nat},(∀a∈l,a<=2^k)->Cv l<=2^(k*l.length)
 | [],_=>by simp [Cv]
 | a :: r,h=>by
  rw[aZ,Nat.mul_succ,bD,bX (2^(k*r.length))];exact aL (h a (.head _)) (EV fun b hb=>h b (.tail _ hb))
def GF (M V:Nat) (rows:List (List Rat)):Prop:=∀xs∈rows,∀x∈xs,Fr M V x
def di (rows:List (List Rat)) (w:Nat):List (List Rat):=(List.range w).map fun j=>rows.map fun xs=>xs.getD j 0
theorem dw {rows:List (List Rat)} {w:Nat}:(di rows w).length=w:=by simp [di]
theorem kR {rows:List (List Rat)} {w:Nat}:∀ys∈di rows w,ys.length=rows.length:=fun ys hy=>by
 obtain ⟨j,_,rfl⟩:=aB.mp hy;exact aj ..
theorem getD_map {α:Type} {l:List α} {f:α->Rat} {i:Nat} (h:i < l.length):(l.map f).getD i 0=f l[i]:=by
 rw[aa,aG,af h];rfl
theorem II {rows:List (List Rat)} {w:Nat} (h:∀xs∈rows,xs.length=w):di (di rows w) rows.length=rows:=by
 apply eU
 ·exact dw
 ·intro i h1 h2;have e:(di (di rows w) rows.length)[i]=(di rows w).map fun xs=>xs.getD i 0:=by simp [di]
  rw[e];have hw:=h rows[i] (aQ h2);apply eU
  ·rw[aj,dw,hw]
  ·intro j h3 h4;rw[zY];have e2:(di rows w)[j]'(by rw[dw];lia)=rows.map fun xs=>xs.getD j 0:=by simp [di]
   rw[e2,getD_map h2,aa,af h4];rfl
end Nm
namespace L2
open PySem PySem.Spec PyProof.Rows Nm
theorem dg.sqt {K:PySem.W.Frag} {H H':Hp} {b a:Addr} {xs:List V} (u:dg b H H') (B:iC H b) (h:sv K H a xs):sv K H' a xs:=by
 rcases h with (h | ⟨o,h⟩) | h
 ·exact .inl (.inl (u.tup B h))
 ·exact .inl (.inr ⟨o,u.other (fun z=>by obtain ⟨_,_,_,_,_,e,_⟩:=B;rw[z,e] at h;cases h) h⟩)
 ·exact .inr h
theorem Kk {K:PySem.W.Frag} {H:Hp} {a l:Addr} {xs ys:List V} {o:HO} (h:sv K H a xs) (hl:H l=some (.lst ys)):sv K (upd H l o) a xs:=by
 rcases h with (h | ⟨o,h⟩) | h
 ·exact .inl (.inl (by rw[bJ fun z=>by rw[z,hl] at h;cases h];exact h))
 ·exact .inl (.inr ⟨o,by rw[bJ fun z=>by rw[z,hl] at h;cases h];exact h⟩)
 ·exact .inr h
def cx (K:PySem.W.Frag) (H:Hp) (q:Rat) (x:V):Prop:=Fs K H x (nm q)
section
variable {K:PySem.W.Frag} {H H':Hp} {q:Rat} {x:V} {b l p:Addr} {qs:List Rat}
theorem cx.same (h:cx K H q x) (e:aJ H H'):cx K H' q x:=e.num h
theorem cx.upto (h:cx K H q x) (u:dg b H H') (B:iC H b):cx K H' q x:=by obtain ⟨p,e,s⟩:=h;exact ⟨p,e,u.sqt B s⟩
theorem cx.updL {ys:List V} {o:HO} (h:cx K H q x) (hl:H l=some (.lst ys)):cx K (upd H l o) q x:=by obtain ⟨p,e,s⟩:=h;exact ⟨p,e,Kk s hl⟩
theorem cx.mk {r:Addr} {a c:Int} (h:H r=some (.tup [.int a,.int c])) (e:(a,c)=nm q):cx K H q (.ref r):=⟨r,rfl,by rw[<- e];exact sv.of h⟩
def cQ (K:PySem.W.Frag) (H:Hp) (p:Addr) (qs:List Rat):Prop:=∃xs,H p=some (.lst xs)/\Paired (cx K H) qs xs
theorem cQ.same (h:cQ K H p qs) (e:aJ H H'):cQ K H' p qs:=by obtain ⟨xs,g,r⟩:=h;exact ⟨xs,e _ _ g,Paired.imp' (fun _ _ z=>z.same e) r⟩
theorem cQ.upto (h:cQ K H p qs) (u:dg b H H') (B:iC H b) (n:p≠b):cQ K H' p qs:=by obtain ⟨xs,g,r⟩:=h;exact ⟨xs,u.other n g,Paired.imp' (fun _ _ z=>z.upto u B) r⟩
theorem cQ.updL {ys:List V} {o:HO} (h:cQ K H p qs) (hl:H l=some (.lst ys)) (n:p≠l):cQ K (upd H l o) p qs:=by obtain ⟨xs,g,r⟩:=h;exact ⟨xs,by rw[bJ n];exact g,Paired.imp' (fun _ _ z=>z.updL hl) r⟩
theorem uJ {α β γ:Type} {F:α->β->Prop} {f:γ->α}:∀{l:List γ} {l2:List β},Paired (fun c x=>F (f c) x) l l2->Paired F (l.map f) l2
 | _,_,.nil=>.nil
 | _,_,.cons r t=>.cons r (uJ t)
theorem cQ.rowK (h:cQ K H p qs):El K H p (qs.map nm):=by obtain ⟨xs,g,r⟩:=h;exact ⟨xs,g,uJ (F:=fun n x=>Fs K H x n) r⟩
def dn (K:PySem.W.Frag) (H0 H:Hp) (qs:List Rat) (x:V):Prop:=∃q,x=V.ref q/\H0 q=none/\cQ K H q qs
def bL (K:PySem.W.Frag) (H0 H:Hp) (p:Addr) (rows:List (List Rat)):Prop:=∃xs,H p=some (.lst xs)/\Paired (dn K H0 H) rows xs/\V.ref p∉xs
theorem kj {H0:Hp} {K:PySem.W.Frag} {p:Addr} {rows:List (List Rat)} {ys:List V} (h:∃H2,H2 p=none/\Paired (dn K H0 H2) rows ys):V.ref p∉ys:=fun hm=>by
 obtain ⟨H2,e,pr⟩:=h;obtain ⟨qs,_,q,z,_,xs,g,_⟩:=dk pr hm;cases z;rw[e] at g;cases g
variable {H0:Hp} {rows:List (List Rat)}
theorem dn.same (h:dn K H0 H qs x) (e:aJ H H'):dn K H0 H' qs x:=by obtain ⟨q,a,b,c⟩:=h;exact ⟨q,a,b,c.same e⟩
theorem dn.upto (h:dn K H0 H qs x) (u:dg b H H') (B:iC H b) (nb:H0 b≠none):dn K H0 H' qs x:=by obtain ⟨q,a,c,d⟩:=h;exact ⟨q,a,c,d.upto u B fun z=>nb (by rw[<- z];exact c)⟩
theorem dn.weak (h:dn K H0 H qs x) {H1:Hp} (e:aJ H1 H0):dn K H1 H qs x:=by obtain ⟨q,a,b,c⟩:=h;exact ⟨q,a,e.none b,c⟩
theorem bL.same (h:bL K H0 H p rows) (e:aJ H H'):bL K H0 H' p rows:=by obtain ⟨xs,g,r,n⟩:=h;exact ⟨xs,e _ _ g,Paired.imp' (fun _ _ z=>z.same e) r,n⟩
theorem bL.upto (h:bL K H0 H p rows) (u:dg b H H') (B:iC H b) (n:p≠b) (nb:H0 b≠none):bL K H0 H' p rows:=by obtain ⟨xs,g,r,nn⟩:=h;exact ⟨xs,u.other n g,Paired.imp' (fun _ _ z=>z.upto u B nb) r,nn⟩
theorem bL.weak (h:bL K H0 H p rows) {H1:Hp} (e:aJ H1 H0):bL K H1 H p rows:=by obtain ⟨xs,g,r,n⟩:=h;exact ⟨xs,g,Paired.imp' (fun _ _ z=>z.weak e) r,n⟩
theorem bL.gridK (h:bL K H0 H p rows):OH K H p (rows.map (List.map nm)):=by obtain ⟨xs,g,r,_⟩:=h;exact ⟨xs,g,uJ (F:=fun ns x=>∃q,x=V.ref q/\El K H q ns) (Paired.imp' (fun _ _ ⟨q,a,_,c⟩=>⟨q,a,c.rowK⟩) r)⟩
end
def Ou:Kind Rat:=RE.via nm (fun _ _ e=>PU e) (fun K H x q=>cx K H q x) id
def Lr:Kind (List Rat):=NF Ou
def zb:Kind (List (List Rat)):=NF Lr
theorem cQ.kind {K:PySem.W.Frag} {H:Hp} {p:Addr} {qs:List Rat} (h:cQ K H p qs):Lr.R K H (.ref p) qs:=by obtain ⟨xs,g,q⟩:=h;exact ⟨p,xs,rfl,bU.of g,q⟩
theorem bL.kind {K:PySem.W.Frag} {H0 H:Hp} {p:Addr} {rows:List (List Rat)} (h:bL K H0 H p rows):zb.R K H (.ref p) rows:=by obtain ⟨xs,g,q,_⟩:=h;exact ⟨p,xs,rfl,bU.of g,Paired.imp' (fun _ _ ⟨q,a,_,c⟩=>by rw[a];exact c.kind) q⟩
def ot (x:Rat):Prop:=Sz 4000 (nm x).1/\Sz 4000 (nm x).2
def Fits (l:List Rat):Prop:=∃M V:Nat,0 < M/\M<=2^900/\V<=2^900/\∀x∈l,Fr M V x
theorem Fits.szn {l:List Rat} (h:Fits l) {x:Rat} (hx:x∈l):ot x:=by
 obtain ⟨M,V,h0,h1,h2,h3⟩:=h;obtain ⟨a,b⟩:=(h3 x hx).sz h0 h1 h2;exact ⟨a.mono (by decide),b.mono (by decide)⟩
theorem Fits.ok {l:List Rat} (h:Fits l) {x:Rat} (hx:x∈l):zR (nm x):=⟨ir x,DQ x,(h.szn hx).1.mono (by decide),(h.szn hx).2.mono (by decide)⟩
theorem GN {M V:Nat} {x:Rat} (h0:0 < M) (h1:M<=2^1800) (h2:V<=2^1810) (h:Fr M V x):ot x:=by
 obtain ⟨a,b⟩:=h.sz h0 h1 h2;exact ⟨a.mono (by decide),b.mono (by decide)⟩
theorem Kh {x:Rat} (h:ot x):zR (nm x):=⟨ir x,DQ x,h.1.mono (by decide),h.2.mono (by decide)⟩
def uD (K:PySem.W.Frag) (f:Rat->Rat->Rat):Sp:=fun vs H Q _=>∃(u v:V) (x y:Rat),vs=[u,v]/\cx K H x u/\cx K H y v/\ot x/\ot y/\∀r H',aJ H H'->cx K H' (f x y) (.ref r)->Q (.ref r) H'
section
variable {K:PySem.W.Frag} {vs:List V} {H:Hp} {Q:VK} {E:XK}
theorem Gj {f:Rat->Rat->Rat} {F:Int->Int->Int->Int->Int} (hf:∀x y:Rat,(f x y)*(((nm x).2*(nm y).2:Int):Rat)=((F (nm x).1 (nm x).2 (nm y).1 (nm y).2:Int):Rat)) (h:uD K f vs H Q E):HI K F vs H Q E:=by
 obtain ⟨u,v,x,y,rfl,⟨p,rfl,hp⟩,⟨q,rfl,hq⟩,⟨s1,s2⟩,⟨s3,s4⟩,k⟩:=h;refine ⟨p,q,_,_,_,_,rfl,hp,hq,ir x,ir y,s1,s2,s3,s4,fun r H' s g=>k r H' s (cx.mk g ?_)⟩;exact nD (js (ir x) (ir y)) (hf x y)
theorem sO (x:Rat):(((nm x).1:Int):Rat)=x*(((nm x).2:Int):Rat):=by
 show (x.num:Rat)=x*(((x.den:Nat):Int):Rat)
 rw[nk,aD]
theorem Iz (h:uD K (fun x y=>x+y) vs H Q E):HI K OB vs H Q E:=Gj (fun x y=>by
 unfold OB;rw[BN,aN,aN,aN,sO,sO];grind) h
theorem Ah (h:uD K (fun x y=>x - y) vs H Q E):HI K LL vs H Q E:=Gj (fun x y=>by
 unfold LL;rw[BM,aN,aN,aN,sO,sO];grind) h
theorem HV (h:uD K (fun x y=>x*y) vs H Q E):HI K LK vs H Q E:=Gj (fun x y=>by
 unfold LK;rw[aN,aN,sO,sO];grind) h
end
def GX (M:Int) (ns:List (Int×Int)):Prop:=0 < M/\Sz 4400 M/\∀n∈ns,0 < n.2/\n.2∣M/\Sz 4400 n.1
theorem GX.bot {M:Int} {ns:List (Int×Int)} (h:GX M ns):0 < ik ns/\Sz 4400 (ik ns):=by
 have hb:∀b∈ns.map (·.2),0 < b/\b∣M:=fun b hb=>by
  obtain ⟨n,hn,rfl⟩:=aB.mp hb;exact ⟨(h.2.2 n hn).1,(h.2.2 n hn).2.1⟩
 exact ⟨Bp (by decide) fun b q=>(hb b q).1,DZ h.1 (Al (by decide) (Int.one_dvd _) hb) h.2.1⟩
def OW (K:PySem.W.Frag):Sp:=fun vs H Q _=>∃(p:Addr) (bs:List Int) (M:Int),vs=[.ref p]/\bU K H p (bs.map V.int)/\0 < M/\Sz 4400 M/\(∀b∈bs,0 < b/\b∣M)/\Q (.int (y9 bs 1)) H
def OX (K:PySem.W.Frag):Sp:=fun vs H Q _=>∃(p:Addr) (ns:List (Int×Int)) (M:Int),vs=[.ref p]/\El K H p ns/\ns.length<=1000/\GX M ns/\∀H',aJ H H'->Q (.int (ik ns)) H'
def Km (K:PySem.W.Frag):Sp:=fun vs H Q _=>∃(p:Addr) (ns:List (Int×Int)) (M:Int) (B:Int),vs=[.ref p,.int B]/\El K H p ns/\ns.length<=1000/\GX M ns/\0 < B/\Sz 4400 B /\
 ∀r H',H r=none->aJ H H'->H' r=some (.lst ((fG ns B).map V.int))->Q (.ref r) H'
theorem Ey {M:Int} {ns:List (Int×Int)} {B t:Int} (h:GX M ns) (hB:0 < B) (sB:Sz 4400 B) (ht:t∈fG ns B):Sz 8800 t:=by
 obtain ⟨n,hn,rfl⟩:=aB.mp ht;have hp:=h.2.2 n hn
 have sq:Sz 4400 (B / n.2):=sB.le (by
  rw[Qu (by lia)];exact Nat.div_le_self ..)
 exact (hp.2.2.mul sq).mono (by lia)
theorem uy {x:Rat} {B:Int} (h:(nm x).2∣B):(((nm x).1*(B / (nm x).2):Int):Rat)=x*(B:Rat):=by
 obtain ⟨k,rfl⟩:=h;have hp:=ir x;rw[Int.mul_ediv_cancel_left _ (by lia),aN,aN,sO];grind
theorem Ff {B C : Int} : ∀ {xs ys : List Rat}, (∀ x ∈ xs, (nm x).2 ∣ B) → (∀ y ∈ ys, (nm y).2 ∣ C) → (((List.zipWith (· * ·) (fG (xs.map nm) B) (fG (ys.map nm) C)).sum : Int) : Rat) = eG xs ys * ((B : Rat) * (C : Rat))
  | [], ys, _, _ => by simp [fG, eG]
  | x :: xs, [], _, _ => by simp [fG, eG]
  | x :: xs, y :: ys, h1, h2 => by
    have ih := Ff (B := B) (C := C) (xs := xs) (ys := ys) (fun z hz => h1 z (.tail _ hz)) (fun z hz => h2 z (.tail _ hz));have e1 := uy (h1 x (.head _));have e2 := uy (h2 y (.head _));have e3 : (List.zipWith (· * ·) (fG ((x :: xs).map nm) B) (fG ((y :: ys).map nm) C)).sum = ((nm x).1 * (B / (nm x).2)) * ((nm y).1 * (C / (nm y).2)) + (List.zipWith (· * ·) (fG (xs.map nm) B) (fG (ys.map nm) C)).sum := rfl;have e4 : eG (x :: xs) (y :: ys) = x * y + eG xs ys := rfl;rw [e3, e4, BN, aN, ih, e1, e2];grind
theorem NQ {xs ys:List Rat} (h1:0 < ik (xs.map nm)) (h2:0 < ik (ys.map nm)):(lo (LR (xs.map nm) (ys.map nm)) (ik (xs.map nm)*ik (ys.map nm)),hi (LR (xs.map nm) (ys.map nm)) (ik (xs.map nm)*ik (ys.map nm)))=nm (eG xs ys):=by
 refine nD (js h1 h2) ?_;unfold LR;rw[Ff (fun x hx=>rT (aB.mpr ⟨x,hx,rfl⟩)) (fun x hx=>rT (aB.mpr ⟨x,hx,rfl⟩)),aN]
def Kl (K:PySem.W.Frag):Sp:=fun vs H Q _=>∃(p:Addr) (w:Nat) (H0:Hp) (rows:List (List Rat)),vs=[.ref p,.int w]/\bL K H0 H p rows/\rows.length<=1000/\w<=1000/\(∀xs∈rows,xs.length=w) /\
 ∀r H',H r=none->aJ H H'->bL K H H' r (di rows w)->Q (.ref r) H'
def FK (K:PySem.W.Frag):Sp:=fun vs H Q _=>∃(b:Addr) (w:Nat),vs=[.ref b,.int w]/\iC H b/\1<=w/\w<=1000000/\∀r x H',Dr (max w 6) x->cx K H' x (.ref r)->iC H' b->dg b H H'->Q (.ref r) H'
def Kv (K:PySem.W.Frag):Sp:=fun vs H Q _=>∃(b:Addr) (m w:Nat),vs=[.ref b,.int m,.int w]/\iC H b/\m<=1000/\1<=w/\w<=1000000 /\
 ∀r xs H',H r=none->cQ K H' r xs->xs.length=m->(∀x∈xs,Dr (max w 6) x)->iC H' b->dg b H H'->Q (.ref r) H'
def Ko (K:PySem.W.Frag):Sp:=fun vs H Q _=>∃(p q:Addr) (xs ys:List Rat),vs=[.ref p,.ref q]/\cQ K H p xs/\cQ K H q ys/\ys.length=xs.length/\xs.length<=1000/\(∀x∈xs,ot x)/\(∀y∈ys,ot y) /\
 ∀r H',H r=none->aJ H H'->cQ K H' r (List.zipWith (fun x y=>x+y) xs ys)->Q (.ref r) H'
def OY (K:PySem.W.Frag):Sp:=fun vs H Q _=>∃(u:V) (q:Addr) (c:Rat) (ys:List Rat),vs=[u,.ref q]/\cx K H c u/\ot c/\cQ K H q ys/\ys.length<=1000/\(∀y∈ys,ot y) /\
 ∀r H',H r=none->aJ H H'->cQ K H' r (ys.map fun y=>c*y)->Q (.ref r) H'
def FP (K:PySem.W.Frag):Sp:=fun vs H Q _=>∃(p:Addr) (H0:Hp) (rows:List (List Rat)),vs=[.ref p]/\bL K H0 H p rows/\rows.length<=1000/\(∀xs∈rows,xs.length<=1000)/\∀r H',H r=none->aJ H H'->bL K H H' r rows->Q (.ref r) H'
section
variable {K:PySem.W.Frag} {a:Addr} {xs:List V} {g:TG} {tf:TT} {te:TE} {Q:VK} {σ₀:St} {H:Hp} {α β:Type}
theorem dS {as:List α} {F:Hp->α->V->Prop} (G:Hp->β->V->Prop) (f:α->β) (hx:H a=some (.lst xs)) (pf:Paired (F H) as xs) (hl:as.length<=1000)
  (hF:∀{H H' c x},F H c x->aJ H H'->F H' c x) (hG:∀{H H' c x},G H c x->aJ H H'->G H' c x)
  (hs:∀(i:Nat) c x H' NY NN,as[i]?=some c->aJ H H'->F H' c x->(∀y H2,aJ H' H2->G H2 (f c) y->NY y H2)->wA σ₀ g tf te x H' NY NN)
  (hd:∀ys H' p,H p=none->aJ H H'->H' p=some (.lst ys)->Paired (G H') (as.map f) ys->(∃H2,H2 p=none/\Paired (G H2) (as.map f) ys)->Q (.ref p) H'):xf (N3 K a) σ₀ g tf te Q H:=by
 have lx:=pf.length;refine fQ (K:=K) (xs:=xs) (fun i ys H'=>aJ H H'/\Paired (G H') ((as.take i).map f) ys) (aS (bG (by lia))) ⟨aJ.refl _,.nil⟩ (fun i ys H' _ ⟨s,_⟩=>bU.of (s _ _ hx)) ?_ ?_
 ·rintro i x ys H' hx' hlen ⟨s,pr⟩;obtain ⟨c,ec,hc⟩:=cE pf hx';refine hs i c x H' _ _ ec s (hF hc s) fun y H2 s2 gy=>⟨s.trans s2,?_⟩
  rw[take_snoc ec,cI];exact bT (Paired.imp' (fun _ _ z=>hG z s2) pr) (.cons gy .nil)
 ·rintro ys H' hy ⟨s,pr⟩ p hp;rw[aH (by lia)] at pr;exact hd ys _ p (s.none hp) (s.trans (aJ.new hp)) aK (Paired.imp' (fun _ _ z=>hG z (aJ.new hp)) pr) ⟨H',hp,pr⟩
theorem eT {n:Nat} (G:Hp->β->V->Prop) (f:Nat->β) (hl:n<=1000) (hG:∀{H H' c x},G H c x->aJ H H'->G H' c x)
  (hs:∀(i:Nat) H' NY NN,i < n->aJ H H'->(∀y H2,aJ H' H2->G H2 (f i) y->NY y H2)->wA σ₀ g tf te (.int i) H' NY NN)
  (hd:∀ys H' p,H p=none->aJ H H'->H' p=some (.lst ys)->Paired (G H') ((List.range n).map f) ys->(∃H2,H2 p=none/\Paired (G H2) ((List.range n).map f) ys)->Q (.ref p) H'):xf (Fz 0 n) σ₀ g tf te Q H:=by
 refine oY (fun i ys H'=>aJ H H'/\Paired (G H') ((List.range i).map f) ys) (aS (bG (by lia))) ⟨aJ.refl _,.nil⟩ ?_ ?_
 ·rintro i ys H' hi hlen ⟨s,pr⟩;rw[AB];refine hs i H' _ _ hi s fun y H2 s2 gy=>⟨s.trans s2,?_⟩
  rw[uw,cI];exact bT (Paired.imp' (fun _ _ z=>hG z s2) pr) (.cons gy .nil)
 ·rintro ys H' hy ⟨s,pr⟩ p hp;exact hd ys _ p (s.none hp) (s.trans (aJ.new hp)) aK (Paired.imp' (fun _ _ z=>hG z (aJ.new hp)) pr) ⟨H',hp,pr⟩
theorem CS {n:Nat} {b:Addr} (G:Hp->β->V->Prop) (C:β->Prop) (hB:iC H b) (hl:n<=1000) (hG:∀{H' H'' c x},G H' c x->dg b H' H''->iC H' b->G H'' c x)
  (hs:∀(i:Nat) H' NY NN,i < n->dg b H H'->iC H' b->(∀y c H2,dg b H' H2->iC H2 b->C c->G H2 c y->NY y H2)->wA σ₀ g tf te (.int i) H' NY NN)
  (hd:∀ys cs H' p,H p=none->dg b H H'->iC H' b->H' p=some (.lst ys)->cs.length=n->(∀c∈cs,C c)->Paired (G H') cs ys->(∃H2,H2 p=none/\Paired (G H2) cs ys)->Q (.ref p) H'):xf (Fz 0 n) σ₀ g tf te Q H:=by
 refine oY (fun i ys H'=>dg b H H'/\iC H' b/\∃cs,cs.length=i/\(∀c∈cs,C c)/\Paired (G H') cs ys) (aS (bG (by lia))) ⟨(aJ.refl _).upto,hB,[],rfl,(fun _ z=>nomatch z),.nil⟩ ?_ ?_
 ·rintro i ys H' hi hlen ⟨u,B,cs,lc,hc,pr⟩;rw[AB];refine hs i H' _ _ hi u B fun y c H2 u2 B2 cc gy=>⟨u.trans u2,B2,cs++[c],by simp [lc],Ef hc cc,bT (Paired.imp' (fun _ _ z=>hG z u2 B) pr) (.cons gy .nil)⟩
 ·rintro ys H' hy ⟨u,B,cs,lc,hc,pr⟩ p hp;have s:aJ H' (upd H' p (.lst ys)):=aJ.new hp;exact hd ys cs _ p (u.none B hp) (u.same s) (B.same s) aK lc hc (Paired.imp' (fun _ _ z=>hG z s.upto B) pr) ⟨H',hp,pr⟩
end
section
variable {X:Cx}
theorem fb {n:Nat} {g:TG} {tb:TS} {D:Ends} {σ:St} {H:Hp} (Pv:Nat->St->Hp->Prop) (h0:Pv 0 σ H)
  (hs:∀(i:Nat) σ H,i < n->Pv i σ H->g (.int i) σ H fun σ2 H2=>tb { D with nx:=Pv (i+1),ct:=Pv (i+1),bk:=D.nx } σ2 H2) (hd:∀σ H,Pv n σ H->D.nx σ H) :
  ∃W:Nat->Nat->St->Hp->Prop,(∃m,W 0 m σ H)/\∀i m σ H,W i m σ H →
   ((Fz 0 n).stop i H/\D.nx σ H)\/((Fz 0 n).go i H/\∃N:St->Hp->Prop,(∀σ' H',N σ' H'->∃m',m' < m/\W (i+1) m' σ' H')/\∀x H',(Fz 0 n).yld i H x H'->g x σ H' fun σ2 H2=>tb { D with nx:=N,ct:=N,bk:=D.nx } σ2 H2) :=
 CL (lo:=0) Pv h0 (fun i σ H hi p=>by rw[AB];exact hs i σ H hi p) hd
theorem lG:uq X (.type "int") (fun xs H Q=>∃b:Bool,xs=[.bl b]/\Q (.int (if b=true then 1 else 0)) H):=by
 intro pins s σ H xs us Q I r h;obtain ⟨b,rfl,q⟩:=h;obtain ⟨u,rfl,ru⟩:=vals1 r;cases ru;exact call_int_bool ⟨.int _,H,I.tok _,⟨_,rfl⟩,q⟩
theorem KY {st:Stmt}:PS X st (fun _ _ _=>False):=fun _ _ _ _ _ _ h=>h.elim
end
theorem Lk {t b:Int} {W:Nat} (hb:0 < b) (h1:t.natAbs<=W) (h2:b.natAbs<=W):∃q:Rat,(lo t b,hi t b)=nm q/\Dr W q/\q*(b:Rat)=(t:Rat):=by
 have hb':(b:Rat)≠0:=fun z=>by have:=zU.mp z;lia
 have e:(t:Rat) / (b:Rat)*(b:Rat)=t:=Rat.div_mul_cancel hb';have h:=nD hb e;refine ⟨_,h,⟨?_,?_⟩,e⟩
 ·have:=congrArg Prod.fst h;have z:=lo_le (t:=t) (b:=b) (by lia);show ((nm ((t:Rat) / (b:Rat))).1).natAbs<=W
  rw[<- this];exact ai z h1
 ·have:=congrArg Prod.snd h;have z:=Oz (t:=t) (b:=b) (by lia);have hd:(((t:Rat) / (b:Rat)).den:Int)=hi t b:=this.symm;have hp:=DW (t:=t) hb
  lia
theorem Fy {K:PySem.W.Frag} {H:Hp} {qs:List Rat} {xs:List V} (h:Paired (cx K H) qs xs) {j:Nat} (hj:j < qs.length):∃v,GU xs (j:Int)=some v/\cx K H (qs.getD j 0) v:=by
 have hl:=h.length;refine ⟨xs[j]'(by lia),fJ (by simp),?_⟩;have:=lC h (i:=j) hj (by lia);rwa [aa,af hj]
theorem CN {xs ys:List Rat} {i:Nat} (h1:i < xs.length) (h2:i < ys.length):eG (xs.take (i+1)) (ys.take (i+1))=eG (xs.take i) (ys.take i)+xs.getD i 0*ys.getD i 0:=by
 have e1:xs[i]?=some (xs.getD i 0):=by rw[aa,af h1];rfl
 have e2:ys[i]?=some (ys.getD i 0):=by rw[aa,af h2];rfl
 unfold eG;rw[take_snoc e1,take_snoc e2,List.zipWith_append (by simp;lia),List.sum_append];simp [qR]
theorem getD_mem {xs:List Rat} {i:Nat} (h:i < xs.length):xs.getD i 0∈xs:=by
 rw[aa,af h];exact aQ h
theorem Cj {xs ys:List Rat} (h:ys.length=xs.length):List.zipWith (fun x y=>x+y) xs ys=(List.range xs.length).map fun i=>xs.getD i 0+ys.getD i 0:=by
 apply ig;intro i;rw[b6,aG];by_cases hi:i < xs.length
 ·rw[df hi,af hi,af (show i < ys.length by lia)];simp [aa,af hi,af (show i < ys.length by lia)]
 ·rw[aM (show (List.range xs.length).length<=i by simp;lia),aM (show xs.length<=i by lia)];rfl
theorem dn.updL {K:PySem.W.Frag} {H0 H:Hp} {qs:List Rat} {x:V} {l:Addr} {ys:List V} {o:HO} (h:dn K H0 H qs x) (hl:H l=some (.lst ys)) (nl:H0 l≠none):dn K H0 (upd H l o) qs x:=by obtain ⟨q,a,b,c⟩:=h;exact ⟨q,a,b,c.updL hl fun z=>nl (by rw[<- z];exact b)⟩
theorem iC.at {H:Hp} {b:Addr} (B:iC H b):H b≠none:=by obtain ⟨_,_,_,_,_,e,_⟩:=B;rw[e];simp
theorem Inner.at {H:Hp} {b q:Addr} (B:iC H b) (i:Inner H b q):H q≠none:=by
 obtain ⟨q',i',xs,e⟩:=B.inner;rw[<- Inner.inj i' i,e];simp
theorem iq {α β:Type} {F:α->β->Prop} {l1:List α} {l2:List β} {i:Nat} (h:Paired F l1 l2) (hi:i < l1.length):∃x y,l1[i]?=some x/\l2[i]?=some y/\x∈l1/\F x y:=by
 have hl:=h.length;exact ⟨l1[i],l2[i]'(by lia),by simp,by simp,aQ _,lC h hi (by lia)⟩
theorem Eb {i j:Int} (h1:-(2^64) < i) (h2:i < 2^64):fX i j:=.inl (.inl ⟨h1,h2⟩)
theorem Iu {i j:Int} (h1:-(2^64) < j) (h2:j < 2^64):fX i j:=.inl (.inr ⟨h1,h2⟩)
def Qy (K : PySem.W.Frag) (l : Addr) : It :=
  ⟨fun i H => ∃ xs x, bU K H l xs /\ xs[i]? = some x,
   fun i H v H' => ∃ p x, v = .ref p /\ H p = none /\ H' = upd H p (.tup [.int i, x]) /\ ∀ xs, bU K H l xs → xs[i]? = some x,
   fun i H => ∃ xs, bU K H l xs /\ xs.length ≤ i⟩
def tnE (e it l:Addr) (i:Nat) (h:Heap):Prop:=(∃old,IsEnum h e it i old)/\h.IsListIter it l i
theorem IK {P:Program} {w:World} {K:PySem.W.Frag} {elts:List Expr} {kk:Nat} {tpos:Pos} (e it l:Addr) (hei:e≠it):Turn P w K (.Tuple elts kk tpos) (Qy K l) [e,it] e (tnE e it l) where
 mem:=by simp
 obj:=fun i h st b hb=>by
  obtain ⟨⟨old,he⟩,⟨o1,g1,c1,d1⟩⟩:=st;simp only[aF,aY,or_false] at hb;rcases hb with rfl | rfl
  ·exact ⟨_,he,fun v q=>nomatch q⟩
  ·exact ⟨o1,g1,fun v q=>by rw[d1] at q;cases q⟩
 keep:=fun i h h' st k=>by
  obtain ⟨⟨old,he⟩,h1⟩:=st;exact ⟨⟨old,k e (by simp) _ he⟩,h1.at fun o q=>k it (by simp) o q⟩
 item:=by
  intro X hP hw hK hc i pins s σ H E I hf st hg;subst hP hw hK;obtain ⟨⟨old,he⟩,h1⟩:=st;obtain ⟨xs,x,qx,ex⟩:=hg;obtain ⟨us,rx,px,_⟩:=I.list qx;obtain ⟨u,eu,ru⟩:=rx.get ex;refine wpAny_pyNext_enum_item he h1 px.isList (x:=u) (by simpa using eu) hei fun h' a1 a2 a3 a4 hk=>?_
  refine ⟨_,rfl,wpAny_letOwnedTupleGo_enum a1 fun h'' he'' hs=>?_⟩;have hT0:H s.heap.objs.size=none:=I.hok.fresh (aw _);have ene:s.heap.objs.size≠e:=ID (Heap.lt_size he)
  have up:∀b o,b∉[e,it]->s.heap.get? b=some o->h''.get? b=some o:=fun b o hb q=>by
   simp only[aF,aY,or_false,not_or] at hb;exact (hs.2 b hb.1).trans (hk b o hb.1 hb.2 q)
  have tup:h''.get? s.heap.objs.size=some { cls:=.type "tuple",data:=.seq #[.int i s.toks,u] }:=(hs.2 _ ene).trans a3;have I1:Inv X pins σ H { s with heap:=h'',toks:=s.toks+1 }:=I.moved (g':=s.gens) (d':=s.drawn) (t':=s.toks+1) (ch:=[e,it]) hf up I.bare;have fT:lH X pins H s.heap.objs.size:=I.fpOk (aw _) hT0;have I2:=I1.track (o:=.tup [.int i,x]) fT ⟨j7 rfl,[.int i s.toks,u],.cons ⟨_,rfl⟩ (.cons ru .nil),⟨_,tup,rfl,_,rfl⟩⟩;refine ⟨.ref s.heap.objs.size,_,I2,rfl,⟨_,x,rfl,hT0,rfl,fun xs' q=>by rw[I.list_inj q qx];exact ex⟩,?_,fun b hb=>?_⟩
  ·exact ⟨⟨_,by simpa using he''⟩,a2.at fun o q=>(hs.2 _ hei.symm).trans q⟩
  ·rw[bJ]
   ·exact (hf b hb).1
   ·obtain ⟨o1,g1,_⟩:=h1;simp only[aF,aY,or_false] at hb;rcases hb with rfl | rfl
    ·exact ene.symm
    ·exact cm (Heap.lt_size g1)
 done:=by
  intro X hP hw hK hc i pins s σ H E I hf st hg;subst hP hw hK;obtain ⟨⟨old,he⟩,h1⟩:=st;obtain ⟨xs,qx,hend⟩:=hg;obtain ⟨us,rx,px,_⟩:=I.list qx;have lx:=rx.length;refine wpAny_pyNext_enum_end (I.ok.hd hc) he h1 px.isList (by simp;lia) fun h' hk=>⟨rfl,?_⟩
  exact I.moved (g':=s.gens) (d':=s.drawn) (t':=s.toks) (ch:=[e,it]) hf (fun b o hb q=>hk b o (fun z=>hb (by simp [z])) q) I.bare
 self:=fun _ _ _ _ _ st h=>let ⟨⟨_,he⟩,_⟩:=st;wpAny_pyIter_enum he h
section
variable {X:Cx}
def Oy (K:PySem.W.Frag) (ta:TA):TI:=fun σ H R=>ta σ H fun vs H1=>∃l,vs=[.ref l]/\(∃xs,bU K H1 l xs)/\R (Qy K l) H1
theorem Nt {a:Expr} {ta:TA} {p pos tpos:Pos} {elts:List Expr} {kk:Nat} (hg:Gl X "enumerate") (hm:X.mg "enumerate"=none) (ha:PA X [a] ta) (hs:starEach [a] X.env=[(false,eval a X.env)]:=by rfl) :
  PI X (.Tuple elts kk tpos) (.Call (.Name "enumerate" p) [a] [] pos) (Oy X.K ta):=by
 intro pins s σ H R I h;refine Call_ (lE I hg hm boot_enumerate (PyProof.Rows.callWith_type1 (gF (ha pos pins s σ H _ I h) fun us s1 ⟨vs,H1,I1,r1,q1⟩=>?_) (by rw[hs];rfl) rfl));obtain ⟨l,e,⟨xs,qx⟩,q⟩:=q1;subst e;obtain ⟨u,rfl,ru⟩:=vals1 r1;cases ru;obtain ⟨us,rx,px,_⟩:=I1.list qx;refine call_enumerate_list px.isList fun h' a1 a2 a3 hk=>wpAny_pyIter_enum a1 ?_
 have I2:Inv X pins σ H1 { s1 with heap:=h' }:=I1.kept (t':=s1.toks) hk;refine ⟨_,[s1.heap.objs.size+1,s1.heap.objs.size],_,_,H1,rfl,I2,IK (s1.heap.objs.size+1) s1.heap.objs.size l (Nat.succ_ne_self _),⟨⟨_,a1⟩,a2⟩,fun b hb=>?_,q⟩
 have hb':s1.heap.objs.size<=b:=by
  simp only[aF,aY,or_false] at hb;rcases hb with rfl | rfl <;> first | exact o8 _ | exact aw _
 exact I1.fpOk hb' (I1.hok.fresh hb')
end
theorem KR {K:PySem.W.Frag} {ta:TA} {R:It->Hp->Prop} {σ:St} {H:Hp} (h:ta σ H fun vs H1=>∃l,vs=[.ref l]/\(∃xs,bU K H1 l xs)/\R (Qy K l) H1):Oy K ta σ H R:=h
theorem LI {K:PySem.W.Frag} {l:Addr} {xs:List V} {g:TG} {tb:TS} {D:Ends} {σ:St} {H:Hp} (Pv:Nat->St->Hp->Prop) (h0:Pv 0 σ H) (hl:∀i σ H,i<=xs.length->Pv i σ H->bU K H l xs)
  (hs:∀i x σ H p,xs[i]?=some x->Pv i σ H->H p=none->g (.ref p) σ (upd H p (.tup [.int i,x])) fun σ2 H2=>tb { D with nx:=Pv (i+1),ct:=Pv (i+1),bk:=D.nx } σ2 H2) (hd:∀σ H,Pv xs.length σ H->D.nx σ H) :
  ∃W:Nat->Nat->St->Hp->Prop,(∃m,W 0 m σ H)/\∀i m σ H,W i m σ H →
   ((Qy K l).stop i H/\D.nx σ H)\/((Qy K l).go i H/\∃N:St->Hp->Prop,(∀σ' H',N σ' H'->∃m',m' < m/\W (i+1) m' σ' H')/\∀x H',(Qy K l).yld i H x H'->g x σ H' fun σ2 H2=>tb { D with nx:=N,ct:=N,bk:=D.nx } σ2 H2):=by
 refine ⟨fun i m σ H=>m=xs.length - i/\i<=xs.length/\Pv i σ H,⟨xs.length,by simp,bA _,h0⟩,?_⟩;rintro i m σ H ⟨rfl,hi,p⟩;have q1:=hl i σ H hi p;by_cases hlt:i < xs.length
 ·refine .inr ⟨⟨xs,xs[i],q1,by simp [hlt]⟩,Pv (i+1),fun σ' H' p'=>⟨xs.length - (i+1),by lia,rfl,hlt,p'⟩,fun x H' y=>?_⟩;obtain ⟨r,x',rfl,hr,rfl,e1⟩:=y;exact hs i x' σ _ r (e1 xs q1) p hr
 ·have e:i=xs.length:=by lia
  subst e;exact .inl ⟨⟨xs,q1,aw _⟩,hd σ H p⟩
section
variable {X:Cx}
theorem HP (K:PySem.W.Frag) {e:Expr} {f:Str} {pos:Pos} {ta:TE} (he:PE X e ta) (hb:attributeBase e f X.env (eval e X.env)=eval e X.env) (hK:X.K=K:=by rfl):PE X (.Attribute e f pos) (OR K ta f):=by subst hK;exact jE he hb
end
theorem Pq {K:PySem.W.Frag} {ta:TE} {f:Str} {σ:St} {H:Hp} {Q:VK} (h:ta σ H fun x H1=>∃a C dx fs v,x=.ref a/\H1 a=some (.ins C dx fs)/\JZ K C/\kG K C f/\fs.lookup f=some v/\Q v H1):OR K ta f σ H Q:=h
theorem MT {K:PySem.W.Frag} {ta tv:TE} {f:Str} {D:Ends} {σ:St} {H:Hp} (h:tv σ H fun y H1=>ta σ H1 fun x H2=>∃a C dx fs,x=.ref a/\H2 a=some (.ins C dx fs)/\JZ K C/\kG K C f/\fs.length < 1000 /\
 D.nx σ (upd H2 a (.ins C dx (cA f y fs)))):Q0 K ta tv f D σ H:=h
theorem MX {C:Addr} {m:Str} {sp:Sp} {E:XK} {ta:TE} {t:TA} {σ:St} {H:Hp} {Q:VK} (h:ta σ H fun x H1=>∃a dx fs,x=.ref a/\H1 a=some (.ins C dx fs)/\fs.lookup m=none /\
 t σ H1 fun vs H2=>sp (x :: vs) H2 Q E):N9 C m sp [] E ta t σ H Q:=by
 have e:(fun (x:V) H1=>∃a dx fs,x=.ref a/\H1 a=some (.ins C dx fs)/\fs.lookup m=none/\t σ H1 fun vs H2=>sp (x :: (vs++[])) H2 Q E)=fun x H1=>∃a dx fs,x=.ref a/\H1 a=some (.ins C dx fs)/\fs.lookup m=none/\t σ H1 fun vs H2=>sp (x :: vs) H2 Q E:=by
  funext x H1;simp only[j6]
 show ta σ H (fun (x:V) H1=>∃a dx fs,x=.ref a/\H1 a=some (.ins C dx fs)/\fs.lookup m=none/\t σ H1 fun vs H2=>sp (x :: (vs++[])) H2 Q E)
 rw[e];exact h
theorem MY {C:Addr} {sp:Sp} {E:XK} {t:TA} {σ:St} {H:Hp} {Q:VK} (h:t σ H fun vs H1=>∀x dx,H1 x=none->H1 dx=none->dx≠x →
 sp (.ref x :: vs) (upd (upd H1 dx (.own x)) x (.ins C dx [])) (fun v H2=>v=.non/\Q (.ref x) H2) E):Oa C sp [] E t σ H Q:=by
 have e:(fun vs (H1:Hp)=>∀x dx,H1 x=none->H1 dx=none->dx≠x->sp (.ref x :: (vs++[])) (upd (upd H1 dx (.own x)) x (.ins C dx [])) (fun v H2=>v=.non/\Q (.ref x) H2) E)=fun vs H1=>∀x dx,H1 x=none->H1 dx=none->dx≠x->sp (.ref x :: vs) (upd (upd H1 dx (.own x)) x (.ins C dx [])) (fun v H2=>v=.non/\Q (.ref x) H2) E:=by
  funext vs H1;simp only[j6]
 show t σ H (fun vs (H1:Hp)=>∀x dx,H1 x=none->H1 dx=none->dx≠x->sp (.ref x :: (vs++[])) (upd (upd H1 dx (.own x)) x (.ins C dx [])) (fun v H2=>v=.non/\Q (.ref x) H2) E)
 rw[e];exact h
def Er (x:Addr) (H H':Hp):Prop:=∀b o,H b=some o->b≠x->H' b=some o
theorem Er.upd {x:Addr} {H:Hp} {o:HO}:Er x H (L2.upd H x o):=fun b u h n=>by rw[bJ n];exact h
def w5 (H:Hp) (x:Addr):Prop:=∃C dx fs,H x=some (.ins C dx fs)
section
variable {K:PySem.W.Frag} {H H' H0:Hp} {q:Rat} {v:V} {x p:Addr} {qs:List Rat} {rows:List (List Rat)}
theorem cx.exc (h:cx K H q v) (e:Er x H H') (hx:w5 H x):cx K H' q v:=by
 obtain ⟨C,dx,fs,hx⟩:=hx;obtain ⟨r,er,s⟩:=h;refine ⟨r,er,?_⟩;rcases s with (h | ⟨o,h⟩) | h
 ·exact .inl (.inl (e _ _ h fun z=>by rw[z,hx] at h;cases h))
 ·exact .inl (.inr ⟨o,e _ _ h fun z=>by rw[z,hx] at h;cases h⟩)
 ·exact .inr h
theorem cQ.exc (h:cQ K H p qs) (e:Er x H H') (hx:w5 H x):cQ K H' p qs:=by
 obtain ⟨xs,g,r⟩:=h;have hx':=hx;obtain ⟨C,dx,fs,hx⟩:=hx;exact ⟨xs,e _ _ g (fun z=>by rw[z,hx] at g;cases g),Paired.imp' (fun _ _ z=>z.exc e hx') r⟩
theorem dn.exc (h:dn K H0 H qs v) (e:Er x H H') (hx:w5 H x):dn K H0 H' qs v:=by obtain ⟨q,a,b,c⟩:=h;exact ⟨q,a,b,c.exc e hx⟩
theorem bL.exc (h:bL K H0 H p rows) (e:Er x H H') (hx:w5 H x):bL K H0 H' p rows:=by
 obtain ⟨xs,g,r,n⟩:=h;have hx':=hx;obtain ⟨C,dx,fs,hx⟩:=hx;exact ⟨xs,e _ _ g (fun z=>by rw[z,hx] at g;cases g),Paired.imp' (fun _ _ z=>z.exc e hx') r,n⟩
end
def ue (a b c:Addr) (n i o:Nat):List (Str×V):=cA "outs" (.int o) (cA "look" (.ref c) (cA "ins" (.int i) (cA "put" (.ref b) (cA "states" (.int n) (cA "move" (.ref a) [])))))
section
variable {a b c:Addr} {n i o:Nat}
theorem HD:(ue a b c n i o).lookup ("ins":Str)=some (.int i):=by
 unfold ue;rw[bO,if_neg (by decide +kernel),bO,if_neg (by decide +kernel),bO,if_pos rfl]
theorem Dh:(ue a b c n i o).lookup ("put":Str)=some (.ref b):=by
 unfold ue;rw[bO,if_neg (by decide +kernel),bO,if_neg (by decide +kernel),bO,if_neg (by decide +kernel),bO,if_pos rfl]
theorem xj:(ue a b c n i o).lookup ("states":Str)=some (.int n):=by
 unfold ue;rw[bO,if_neg (by decide +kernel),bO,if_neg (by decide +kernel),bO,if_neg (by decide +kernel),bO,if_neg (by decide +kernel),bO,if_pos rfl]
theorem AJ:(ue a b c n i o).lookup ("move":Str)=some (.ref a):=by
 unfold ue;rw[bO,if_neg (by decide +kernel),bO,if_neg (by decide +kernel),bO,if_neg (by decide +kernel),bO,if_neg (by decide +kernel),bO,if_neg (by decide +kernel),bO,if_pos rfl]
theorem OS {m:Str} (h1:¬m="outs") (h2:¬m="look") (h3:¬m="ins") (h4:¬m="put") (h5:¬m="states") (h6:¬m="move"):(ue a b c n i o).lookup m=none:=by
 unfold ue;rw[bO,if_neg h1,bO,if_neg h2,bO,if_neg h3,bO,if_neg h4,bO,if_neg h5,bO,if_neg h6];rfl
theorem IM:(ue a b c n i o).lookup ("moved":Str)=none:=OS (by decide +kernel) (by decide +kernel) (by decide +kernel) (by decide +kernel) (by decide +kernel) (by decide +kernel)
end
theorem eh {k:Str} {v:V}:∀{l:List (Str×V)},(cA k v l).length<=l.length+1
 | []=>aw _
 | (x,y) :: r=>by
  unfold cA
  split
  ·simp
  ·have:=eh (k:=k) (v:=v) (l:=r);simp only[aZ]
   lia
structure jk (mv pt lk:List (List Rat)):Prop where
 n8:mv.length<=8
 i4:pt.length<=4
 o4:lk.length<=4
 mw:∀xs∈mv,xs.length=mv.length
 pw:∀xs∈pt,xs.length=mv.length
 lw:∀xs∈lk,xs.length=mv.length
def C6 (mv pt lk:List (List Rat)):Prop:=∃M V:Nat,0 < M/\M<=2^800/\V<=2^400/\GF M V mv/\GF M V pt/\GF M V lk
def m8 (K:PySem.W.Frag) (H0 H:Hp) (C p:Addr) (mv pt lk:List (List Rat)):Prop:=∃dx a b c,H p=some (.ins C dx (ue a b c mv.length pt.length lk.length))/\H0 a=none/\H0 b=none/\H0 c=none/\bL K H0 H a mv/\bL K H0 H b pt/\bL K H0 H c lk
section
variable {K:PySem.W.Frag} {H H' H0 H1:Hp} {C p b:Addr} {mv pt lk:List (List Rat)}
theorem m8.same (h:m8 K H0 H C p mv pt lk) (e:aJ H H'):m8 K H0 H' C p mv pt lk:=by obtain ⟨dx,a,b,c,g,n1,n2,n3,g1,g2,g3⟩:=h;exact ⟨dx,a,b,c,e _ _ g,n1,n2,n3,g1.same e,g2.same e,g3.same e⟩
theorem m8.upto (h:m8 K H0 H C p mv pt lk) (u:dg b H H') (B:iC H b) (nb:H0 b≠none):m8 K H0 H' C p mv pt lk:=by
 obtain ⟨dx,a,b',c,g,n1,n2,n3,g1,g2,g3⟩:=h;refine ⟨dx,a,b',c,u.other (fun z=>by obtain ⟨_,_,_,_,_,e,_⟩:=B;rw[z,e] at g;cases g) g,n1,n2,n3,g1.upto u B (fun z=>nb (by rw[<- z];exact n1)) nb,g2.upto u B (fun z=>nb (by rw[<- z];exact n2)) nb,g3.upto u B (fun z=>nb (by rw[<- z];exact n3)) nb⟩
theorem m8.weak (h:m8 K H0 H C p mv pt lk) (e:aJ H1 H0):m8 K H1 H C p mv pt lk:=by obtain ⟨dx,a,b,c,g,n1,n2,n3,g1,g2,g3⟩:=h;exact ⟨dx,a,b,c,g,e.none n1,e.none n2,e.none n3,g1.weak e,g2.weak e,g3.weak e⟩
theorem C6.fits (h:C6 mv pt lk) {l:List Rat} (hl:∀x∈l,(∃xs∈mv,x∈xs)\/(∃xs∈pt,x∈xs)\/(∃xs∈lk,x∈xs)\/x=0):Fits l:=by
 obtain ⟨M,V,h0,h1,h2,h3,h4,h5⟩:=h;refine ⟨M,V,h0,ai h1 (av (by decide) (by decide)),ai h2 (av (by decide) (by decide)),fun x hx=>?_⟩;rcases hl x hx with ⟨xs,a,b⟩ | ⟨xs,a,b⟩ | ⟨xs,a,b⟩ | rfl
 ·exact h3 xs a x b
 ·exact h4 xs a x b
 ·exact h5 xs a x b
 ·exact Fr.zero
end
def IP:Sp:=fun vs H Q _=>∃i:Int,vs=[.int i]/\Q (.bl true) H
def Jd (K:PySem.W.Frag):Sp:=fun vs H Q _=>∃x n,vs=[x]/\Fs K H x n/\zR n/\∀H',aJ H H'->Q (.bl true) H'
def Mt:Sp:=fun vs H Q _=>∃(p:Addr) (xs:List V) (a m:Int),vs=[.ref p,.int a,.int m]/\H p=some (.lst xs)/\(xs.length:Int)<=m/\Q .non H
def MD (K:PySem.W.Frag):Sp:=fun vs H Q _=>∃(p:Addr) (H0:Hp) (rows:List (List Rat)) (w:Nat),vs=[.ref p,.int w]/\bL K H0 H p rows/\rows.length<=1000/\w<=1000/\(∀xs∈rows,xs.length=w/\∀x∈xs,zR (nm x))/\∀r H',H r=none->aJ H H'->bL K H H' r rows->Q (.ref r) H'
def Qz (rows:List (List Rat)):Prop:=∀xs∈rows,∀x∈xs,zR (nm x)
def My (K:PySem.W.Frag) (C:Addr):Sp:=fun vs H Q _=>∃(x dx p q r:Addr) (Hb H0 H1 H2:Hp) (mv pt lk:List (List Rat)),vs=[.ref x,.ref p,.ref q,.ref r]/\Hb x=none/\Hb dx=none/\dx≠x/\H=upd (upd Hb dx (.own x)) x (.ins C dx []) /\
 bL K H0 Hb p mv/\bL K H1 Hb q pt/\bL K H2 Hb r lk/\jk mv pt lk/\Qz mv/\Qz pt/\Qz lk/\∀H',aJ Hb H'->m8 K Hb H' C x mv pt lk->Q .non H'
def gY (mv pt:List (List Rat)) (st pu:List Rat):List Rat:=List.zipWith (fun line col=>eG (line++col) (st++pu)) mv (di pt mv.length)
theorem C6.ok {mv pt lk:List (List Rat)} (h:C6 mv pt lk):Qz mv/\Qz pt/\Qz lk :=
 ⟨fun xs hx x hx'=>(h.fits (l:=xs) fun y hy=>.inl ⟨xs,hx,hy⟩).ok hx',fun xs hx x hx'=>(h.fits (l:=xs) fun y hy=>.inr (.inl ⟨xs,hx,hy⟩)).ok hx',fun xs hx x hx'=>(h.fits (l:=xs) fun y hy=>.inr (.inr (.inl ⟨xs,hx,hy⟩))).ok hx'⟩
def fH (K:PySem.W.Frag) (A:Addr->Prop) (H:Hp) (n:Nat) (C:Rat->Prop) (x:V):Prop:=∃q qs,x=V.ref q/\A q/\cQ K H q qs/\qs.length=n/\∀y∈qs,C y
section
variable {K:PySem.W.Frag} {A A':Addr->Prop} {H H' H0:Hp} {n:Nat} {C C':Rat->Prop} {x v:V} {q b l p:Addr} {xs zs:List V} {y:Rat} {o:HO}
theorem fH.same (h:fH K A H n C x) (e:aJ H H'):fH K A H' n C x:=by obtain ⟨q,qs,a,c,r,z⟩:=h;exact ⟨q,qs,a,c,r.same e,z⟩
theorem fH.upto (h:fH K A H n C x) (u:dg b H H') (B:iC H b) (nb:¬A b):fH K A H' n C x:=by obtain ⟨q,qs,a,c,r,z⟩:=h;exact ⟨q,qs,a,c,r.upto u B (fun e=>nb (by rw[<- e];exact c)),z⟩
theorem fH.other (h:fH K A H n C x) (hl:H l=some (.lst zs)) (nl:¬A l):fH K A (upd H l o) n C x:=by obtain ⟨q,qs,a,c,r,z⟩:=h;exact ⟨q,qs,a,c,r.updL hl (fun e=>nl (by rw[<- e];exact c)),z⟩
theorem fH.weak (h:fH K A H n C x) (w:∀q,A q->A' q) (wc:∀y,C y->C' y):fH K A' H n C' x:=by obtain ⟨q,qs,a,c,r,l,z⟩:=h;exact ⟨q,qs,a,w q c,r,l,fun y hy=>wc y (z y hy)⟩
theorem AZ {α β:Type} {F:α->β->Prop} {a:α} {b:β} (h:F a b):∀{l1:List α} {l2:List β} (j:Nat),Paired F l1 l2->Paired F (l1.set j a) (l2.set j b)
 | _,_,_,.nil=>.nil
 | _,_,0,.cons _ t=>.cons h t
 | _,_,j+1,.cons r t=>.cons r (AZ h j t)
theorem fH.put (h:fH K A H n C x) (hq:H q=some (.lst zs)) (hv:cx K H y v) (hc:C y) (j:Nat):fH K A (upd H q (.lst (zs.set j v))) n C x:=by
 obtain ⟨q1,qs,rfl,a,⟨zs1,g1,pr⟩,l1,c1⟩:=h;by_cases e:q1=q
 ·subst e;rw[hq] at g1;cases g1;refine ⟨q1,qs.set j y,rfl,a,⟨_,aK,AZ (hv.updL hq) j (Paired.imp' (fun _ _ z=>z.updL hq) pr)⟩,by rw[eE];exact l1,fun z hz=>?_⟩;rcases cJ hz with hz | rfl
  ·exact c1 z hz
  ·exact hc
 ·exact ⟨q1,qs,rfl,a,⟨zs1,by rw[bJ e];exact g1,Paired.imp' (fun _ _ z=>z.updL hq) pr⟩,l1,c1⟩
theorem fH.at (h:fH K A H n C x):∃q zs qs,x=V.ref q/\A q/\H q=some (.lst zs)/\zs.length=n/\Paired (cx K H) qs zs/\qs.length=n/\∀y∈qs,C y:=by obtain ⟨q,qs,a,c,⟨zs,g,pr⟩,l,z⟩:=h;exact ⟨q,zs,qs,a,c,g,by rw[<- pr.length];exact l,pr,l,z⟩
end
theorem uW {W:Nat} {i:Int} (h:i.natAbs<=W) (hW:1<=W):Dr W (i:Rat):=⟨h,hW⟩
def RZ (K:PySem.W.Frag) (A:Addr->Prop) (H:Hp) (n:Nat) (C:Rat->Prop) (p:Addr) (m:Nat):Prop:=∃us,H p=some (.lst us)/\us.length=m/\¬A p/\∀x∈us,fH K A H n C x
structure Fu (A:Addr->Prop) (m p l b q0:Addr):Prop where
 am:¬A m
 ap:¬A p
 al:¬A l
 ab:¬A b
 aq:¬A q0
 mb:m≠b
 pb:p≠b
 lb:l≠b
 mp:m≠p
 ml:m≠l
 mq:m≠q0
theorem Ij {M:Nat} {z:Int} (h:z.natAbs<=2):Fr 1 2 (z:Rat):=Fr.int h
theorem DY {M W:Nat} {a c:Rat} {z:Int} (hz:z.natAbs<=2) (ha:Fr M W a) (hc:Fr M W c):Fr M (3*W) (a+(z:Rat)*c):=by
 have h:=(Ij (M:=M) hz).mul hc;rw[yK] at h;exact (ha.add h).mono (by lia)
theorem Dg {z:Int} (h:z.natAbs<=1000):ot (z:Rat):=GN (M:=1) (V:=1000) (by decide) (ck) (ai (show 1000<=2^10 by decide) (av (by decide) (by decide))) (Fr.int h)
theorem AI {M W:Nat} {c:Rat} {z:Int} (hz:z.natAbs<=2) (hc:Fr M W c) (h0:0 < M) (h1:M<=2^800) (hW:W<=2^140):ot ((z:Rat)*c):=by
 have h:=(Ij (M:=M) hz).mul hc;rw[yK] at h;refine GN h0 (ai h1 (av (by decide) (by decide))) (ai (aX 2 hW) ?_) h;rw[show 2*2^140=2^141 by rw[ff,bX]];exact av (by decide) (by decide)
def jf (A:Addr->Prop) (b m:Addr) (H H':Hp):Prop:=∀c u,H c=some u->c≠b->¬A c->c≠m->H' c=some u
theorem jf.same {A:Addr->Prop} {b m:Addr} {H H1 H2:Hp} (h:jf A b m H H1) (s:aJ H1 H2):jf A b m H H2:=fun c u e n1 n2 n3=>s _ _ (h c u e n1 n2 n3)
theorem jf.upto {A:Addr->Prop} {b m:Addr} {H H1 H2:Hp} (h:jf A b m H H1) (s:dg b H1 H2):jf A b m H H2:=fun c u e n1 n2 n3=>s.1 _ _ (h c u e n1 n2 n3) n1
theorem jf.upd {A:Addr->Prop} {b m q:Addr} {H H1:Hp} {o:HO} (h:jf A b m H H1) (hq:A q\/q=m):jf A b m H (L2.upd H1 q o):=fun c u e n1 n2 n3=>by
 rw[bJ]
 ·exact h c u e n1 n2 n3
 ·rintro rfl;rcases hq with hq | hq
  ·exact n2 hq
  ·exact n3 hq
theorem jf.new {A:Addr->Prop} {b m r:Addr} {H H1:Hp} (h:jf A b m H H1) (hA:∀q,H q=none->A q) (B:iC H1 b) (hm:H1 m≠none) (hr:H1 r=none):A r:=by
 by_cases z:A r
 ·exact z
 ·cases e:H r with
  | none=>exact hA r e
  | some u =>
   have:=h r u e (fun y=>B.at (by rw[<- y];exact hr)) z (fun y=>hm (by rw[<- y];exact hr));rw[hr] at this;cases this
structure IC (K:PySem.W.Frag) (A:Addr->Prop) (n:Nat) (C:Rat->Prop) (r p b q0:Addr) (us:List V) (H0 H:Hp):Prop where
 gr:H r=some (.lst us)
 ru:∀x∈us,fH K A H n C x
 rp:fH K A H n C (.ref p)
 bag:iC H b
 inn:Inner H b q0
 up:dg b H0 H
section
variable {K:PySem.W.Frag} {A:Addr->Prop} {n:Nat} {C:Rat->Prop} {r p b q0:Addr} {us:List V} {H0 H H':Hp} {y:Rat} {v:V}
theorem IC.same (h:IC K A n C r p b q0 us H0 H) (e:aJ H H'):IC K A n C r p b q0 us H0 H':=⟨e _ _ h.gr,fun x hx=>(h.ru x hx).same e,h.rp.same e,h.bag.same e,(e.upto (p:=b)).2 _ h.inn,h.up.same e⟩
theorem IC.upto (h:IC K A n C r p b q0 us H0 H) (u:dg b H H') (B:iC H' b) (nb:¬A b) (rb:r≠b):IC K A n C r p b q0 us H0 H':=⟨u.other rb h.gr,fun x hx=>(h.ru x hx).upto u h.bag nb,h.rp.upto u h.bag nb,B,u.2 _ h.inn,h.up.trans u⟩
theorem IC.put (h:IC K A n C r p b q0 us H0 H) (ap:A p) (nr:¬A r) (nb:¬A b) (nq:¬A q0) (hp:H0 p=none) (hv:cx K H y v) (hc:C y) (j:Nat):∃zs,H p=some (.lst zs)/\zs.length=n/\IC K A n C r p b q0 us H0 (upd H p (.lst (zs.set j v))):=by
 obtain ⟨q,zs,qs,e,a,g,l,_⟩:=h.rp.at;cases e;have ne:∀{z},¬A z->z≠p:=fun h e=>h (by rw[e];exact ap)
 exact ⟨zs,g,l,by rw[bJ (ne nr)];exact h.gr,fun x hx=>(h.ru x hx).put g hv hc j,h.rp.put g hv hc j,h.bag.upd h.inn (ne nb).symm (ne nq).symm,h.inn.upd (ne nb).symm,h.up.after hp⟩
end
theorem AS {K:PySem.W.Frag} {A:Addr->Prop} {H:Hp} {n:Nat} {C:Rat->Prop} {us:List V} (h:∀x∈us,fH K A H n C x):∃rows:List (List Rat),Paired (fun qs x=>∃q,x=V.ref q/\A q/\cQ K H q qs) rows us/\rows.length=us.length/\∀qs∈rows,qs.length=n/\∀y∈qs,C y:=by
 induction us with
 | nil=>exact ⟨[],.nil,rfl,fun _ z=>nomatch z⟩
 | cons u us ih =>
  obtain ⟨rows,pr,l,hr⟩:=ih fun x hx=>h x (.tail _ hx)
  obtain ⟨q,qs,e,a,r,l1,c⟩:=h u (.head _);refine ⟨qs :: rows,.cons ⟨q,e,a,r⟩ pr,by simp [l],fun zs hz=>?_⟩;rcases aF.mp hz with rfl | hz
  ·exact ⟨l1,c⟩
  ·exact hr zs hz
theorem FX {K:PySem.W.Frag} {A:Addr->Prop} {H:Hp} {n:Nat} {C:Rat->Prop} {us:List V} {rows:List (List Rat)} (pr:Paired (fun qs x=>∃q,x=V.ref q/\A q/\cQ K H q qs) rows us) (h:∀qs∈rows,qs.length=n/\∀y∈qs,C y):∀x∈us,fH K A H n C x:=fun x hx=>by
 obtain ⟨qs,hq,q,e,a,r⟩:=dk pr hx;exact ⟨q,qs,e,a,r,(h qs hq).1,(h qs hq).2⟩
theorem CM {n:Nat}:∀{rows:List (List Rat)},(∀xs∈rows,xs.length=n)->rows.flatten.length=rows.length*n
 | [],_=>by simp
 | xs :: rows,h=>by
  rw[ie,ak,h xs (.head _),CM fun ys hy=>h ys (.tail _ hy),aZ,dR,qT]
theorem MP {c n:Nat} {rows:List (List Rat)} (h:∀qs∈rows,qs.length=n/\∀y∈qs,Dr (2^c) y):∃M:Nat,0 < M/\M<=2^(c*(rows.length*n))/\∀qs∈rows,∀y∈qs,Fr M (2^c) y:=by
 have fl:rows.flatten.length=rows.length*n:=CM fun ys hy=>(h ys hy).1
 have hm:∀a∈rows.flatten.map (·.den),0 < a/\a<=2^c:=fun a ha=>by
  obtain ⟨y,hy,rfl⟩:=aB.mp ha;obtain ⟨qs,hq,hy⟩:=J0.mp hy;exact ⟨y.den_pos,((h qs hq).2 y hy).2⟩
 refine ⟨Cv (rows.flatten.map (·.den)),Ct fun a ha=>(hm a ha).1,?_,fun qs hq y hy=>?_⟩
 ·have:=EV (k:=c) (l:=rows.flatten.map (·.den)) fun a ha=>(hm a ha).2
  rwa [aj,fl] at this
 ·exact (Fr.own y ((h qs hq).2 y hy).1).dvd (Cu (aB.mpr ⟨y,J0.mpr ⟨qs,hq,hy⟩,rfl⟩))
theorem lF {K:PySem.W.Frag} {A:Addr->Prop} {H H0:Hp} {n m:Nat} {C:Rat->Prop} {p:Addr} (h:RZ K A H n C p m) (w:∀q,A q->H0 q=none):∃rows,bL K H0 H p rows/\rows.length=m/\∀qs∈rows,qs.length=n/\∀y∈qs,C y:=by
 obtain ⟨us,g,l,a,r⟩:=h;obtain ⟨rows,pr,lr,hr⟩:=AS r;refine ⟨rows,⟨us,g,Paired.imp' (fun _ _ ⟨q,e,aq,rq⟩=>⟨q,e,w q aq,rq⟩) pr,fun hm=>?_⟩,by rw[lr,l],hr⟩;obtain ⟨q,_,e,aq,_⟩:=r _ hm;cases e;exact a aq
theorem jf.trans {A:Addr->Prop} {b m:Addr} {H H1 H2:Hp} (h:jf A b m H H1) (h':jf A b m H1 H2):jf A b m H H2:=fun c u e n1 n2 n3=>h' c u (h c u e n1 n2 n3) n1 n2 n3
theorem KI {K:PySem.W.Frag} {A:Addr->Prop} {H0 H:Hp} {n:Nat} {C:Rat->Prop} {us:List V} {rows:List (List Rat)} (pr:Paired (dn K H0 H) rows us) (h:∀qs∈rows,qs.length=n/\∀y∈qs,C y) (w:∀q,V.ref q∈us->H0 q=none->H q≠none->A q):∀x∈us,fH K A H n C x:=fun x hx=>by
 obtain ⟨qs,hq,q,e,a,r⟩:=dk pr hx;subst e;exact ⟨q,qs,rfl,w q hx a (by obtain ⟨_,g,_⟩:=r;rw[g];simp),r,(h qs hq).1,(h qs hq).2⟩
def IU:Sp:=fun vs H Q _=>∃b,vs=[.ref b]/\iC H b/\∀r (n i o w:Nat) H',H' r=some (.tup [.int n,.int i,.int o,.int w])->n<=5->i<=4->o<=4->(w=4\/w=9\/(w=1000000/\n<=2))->(n=5->i<=2/\o<=2)->iC H' b->dg b H H'->Q (.ref r) H'
def fE (K:PySem.W.Frag) (H0 H:Hp) (r:Addr) (mv pt lk:List (List Rat)):Prop:=∃m p l,H r=some (.tup [.ref m,.ref p,.ref l])/\H0 m=none/\H0 p=none/\H0 l=none/\bL K H0 H m mv/\bL K H0 H p pt/\bL K H0 H l lk
section
variable {K:PySem.W.Frag} {H H' H0 H1:Hp} {r b:Addr} {mv pt lk:List (List Rat)}
theorem fE.same (h:fE K H0 H r mv pt lk) (e:aJ H H'):fE K H0 H' r mv pt lk:=by obtain ⟨m,p,l,g,n1,n2,n3,g1,g2,g3⟩:=h;exact ⟨m,p,l,e _ _ g,n1,n2,n3,g1.same e,g2.same e,g3.same e⟩
theorem fE.upto (h:fE K H0 H r mv pt lk) (u:dg b H H') (B:iC H b) (nb:H0 b≠none):fE K H0 H' r mv pt lk:=by
 obtain ⟨m,p,l,g,n1,n2,n3,g1,g2,g3⟩:=h;exact ⟨m,p,l,u.tup B g,n1,n2,n3,g1.upto u B (fun z=>nb (by rw[<- z];exact n1)) nb,g2.upto u B (fun z=>nb (by rw[<- z];exact n2)) nb,g3.upto u B (fun z=>nb (by rw[<- z];exact n3)) nb⟩
theorem fE.weak (h:fE K H0 H r mv pt lk) (e:∀q,H0 q=none->H1 q=none):fE K H1 H r mv pt lk:=by
 obtain ⟨m,p,l,g,n1,n2,n3,⟨x1,y1,z1,w1⟩,⟨x2,y2,z2,w2⟩,⟨x3,y3,z3,w3⟩⟩:=h;exact ⟨m,p,l,g,e _ n1,e _ n2,e _ n3,⟨x1,y1,Paired.imp' (fun _ _ ⟨q,a,b,c⟩=>⟨q,a,e _ b,c⟩) z1,w1⟩,⟨x2,y2,Paired.imp' (fun _ _ ⟨q,a,b,c⟩=>⟨q,a,e _ b,c⟩) z2,w2⟩,⟨x3,y3,Paired.imp' (fun _ _ ⟨q,a,b,c⟩=>⟨q,a,e _ b,c⟩) z3,w3⟩⟩
end
def FI (K:PySem.W.Frag) (C:Addr):Sp:=fun vs H Q _=>∃(r:Addr) (H0:Hp) (mv pt lk:List (List Rat)),vs=[.ref r]/\fE K H0 H r mv pt lk/\jk mv pt lk/\C6 mv pt lk/\∀x H',H x=none->aJ H H'->m8 K H H' C x mv pt lk->Q (.ref x) H'
def nextK (mv pt:List (List Rat)) (st pu:List Rat) (k:Nat):List Rat:=List.zipWith (fun line col=>eG (line++col.take k) (st++pu.take k)) mv (di pt mv.length)
theorem jY {mv pt:List (List Rat)} {st pu:List Rat} {k:Nat}:(nextK mv pt st pu k).length=mv.length:=by unfold nextK;rw[cz,dw];lia
theorem vL {mv pt:List (List Rat)} {st pu:List Rat} {k:Nat} (h1:pt.length<=k) (h2:pu.length<=k):nextK mv pt st pu k=gY mv pt st pu:=by
 unfold nextK gY;apply ig;intro i;rw[b6,b6];cases e1:mv[i]? with
 | none=>rfl
 | some line =>
  cases e2:(di pt mv.length)[i]? with
  | none=>rfl
  | some col =>
   have:=kR col (ax e2);show some _=some _
   rw[aH (by lia),aH h2]
theorem HB {rows:List (List Rat)} {w i:Nat} (h:i < w):(di rows w)[i]?=some (rows.map fun xs=>xs.getD i 0):=by
 unfold di;rw[aG,df h];rfl
theorem Gy {mv pt:List (List Rat)} {st pu:List Rat}:nextK mv pt st pu 0=mv.map fun xs=>eG xs st:=by
 unfold nextK;apply ig;intro i;rw[b6,aG];by_cases hi:i < mv.length
 ·rw[HB hi,af hi];simp
 ·rw[aM (by lia)];rfl
theorem A9 {mv pt:List (List Rat)} {st pu:List Rat} {k i:Nat} (hi:i < mv.length):(nextK mv pt st pu k).getD i 0=eG (mv[i]++(pt.map fun xs=>xs.getD i 0).take k) (st++pu.take k):=by
 rw[aa];unfold nextK;rw[b6,af hi,HB hi];rfl
theorem uX {as bs xs ys:List Rat} (h:as.length=xs.length):eG (as++bs) (xs++ys)=eG as xs+eG bs ys:=by
 unfold eG;rw[List.zipWith_append h,List.sum_append]
theorem Gz {mv pt:List (List Rat)} {st pu:List Rat} {k:Nat} (hm:∀xs∈mv,xs.length=st.length) (h1:k < pt.length) (h2:k < pu.length) (hw:(pt[k]).length=mv.length) :
  List.zipWith (fun x y=>x+y) (nextK mv pt st pu k) ((pt[k]).map fun y=>pu[k]*y)=nextK mv pt st pu (k+1):=by
 have l1:((pt[k]).map fun y=>pu[k]*y).length=mv.length:=by rw[aj,hw]
 rw[Cj (by rw[l1,jY])];apply ig;intro i;rw[aG,jY];by_cases hi:i < mv.length
 ·have e0:(nextK mv pt st pu (k+1))[i]?=some ((nextK mv pt st pu (k+1)).getD i 0):=by
   rw[aa,af (by rw[jY];exact hi)];rfl
  rw[df hi,e0,A9 hi];have ll:=hm mv[i] (aQ hi);have ec:(pt.map fun xs=>xs.getD i 0)[k]?=some ((pt[k]).getD i 0):=by rw[aG,af h1];rfl
  have ep:pu[k]?=some pu[k]:=af h2
  have e3:((pt[k]).map fun y=>pu[k]*y).getD i 0=pu[k]*(pt[k]).getD i 0:=by
   rw[getD_map (by rw[hw];exact hi),aa,af (by rw[hw];exact hi)];rfl
  show some ((nextK mv pt st pu k).getD i 0+((pt[k]).map fun y=>pu[k]*y).getD i 0)=some _
  rw[A9 hi,e3,take_snoc ec,take_snoc ep,uX ll,uX ll,uX (by rw[cM,cM,aj];lia)];have:eG [(pt[k]).getD i 0] [pu[k]]=(pt[k]).getD i 0*pu[k]:=by simp [eG,qR]
  rw[this];congr 1;grind
 ·rw[aM (by simpa using hi),aM (by rw[jY];lia)];rfl
theorem m8.weakN {K:PySem.W.Frag} {H H0 H1:Hp} {C p:Addr} {mv pt lk:List (List Rat)} (h:m8 K H0 H C p mv pt lk) (e:∀q,H0 q=none->H1 q=none):m8 K H1 H C p mv pt lk:=by
 obtain ⟨dx,a,b,c,g,n1,n2,n3,⟨x1,y1,z1,w1⟩,⟨x2,y2,z2,w2⟩,⟨x3,y3,z3,w3⟩⟩:=h;exact ⟨dx,a,b,c,g,e _ n1,e _ n2,e _ n3,⟨x1,y1,Paired.imp' (fun _ _ ⟨q,a,b,c⟩=>⟨q,a,e _ b,c⟩) z1,w1⟩,⟨x2,y2,Paired.imp' (fun _ _ ⟨q,a,b,c⟩=>⟨q,a,e _ b,c⟩) z2,w2⟩,⟨x3,y3,Paired.imp' (fun _ _ ⟨q,a,b,c⟩=>⟨q,a,e _ b,c⟩) z3,w3⟩⟩
theorem JF {mv pt:List (List Rat)} {st pu:List Rat}:(gY mv pt st pu).length=mv.length:=by unfold gY;rw[cz,dw];lia
def tR (k j:Nat) (l:List Rat):Prop:=∃M V:Nat,0 < M/\M<=2^k/\V<=2^j/\∀x∈l,Fr M V x
theorem NI {M V:Nat} {x:Rat} (h0:0 < M) (h1:M<=2^2000) (h2:V<=2^1950) (h:Fr M V x):ot x:=by
 obtain ⟨a,b⟩:=h.sz h0 h1 h2;exact ⟨a.mono (by decide),b.mono (by decide)⟩
section
variable {k j k' j':Nat} {l xs ys:List Rat} {x y:Rat}
theorem tR.szn (h:tR k j l) (hx:x∈l) (hk:k+j<=3950:=by decide):ot x:=by
 obtain ⟨M,V,h0,h1,h2,h3⟩:=h;obtain ⟨a,b⟩:=(h3 x hx).sz h0 h1 h2;exact ⟨a.mono (by lia),b.mono (by lia)⟩
theorem tR.rowM (h:tR k j l) (hk:k+j<=4200:=by decide):∃M,GX M (l.map nm):=by
 obtain ⟨M,V,h0,h1,h2,h3⟩:=h;refine ⟨M,by lia,?_,fun n hn=>?_⟩
 ·show ((M:Nat):Int).natAbs < 2^4400
  rw[bN];exact bB h1 (dU (by decide) (by lia))
 ·obtain ⟨x,hx,rfl⟩:=aB.mp hn;obtain ⟨a,_⟩:=(h3 x hx).sz h0 h1 h2;exact ⟨ir x,(h3 x hx).den,a.mono (by lia)⟩
theorem tR.one (h:tR k j l) (hx:x∈l):tR k j [x]:=by
 obtain ⟨M,V,h0,h1,h2,h3⟩:=h;exact ⟨M,V,h0,h1,h2,fun y hy=>by rw[bF.mp hy];exact h3 x hx⟩
theorem LP (h:tR k j xs) (h':tR k' j' ys) (hl:xs.length<=1000) (i:Nat) (hk:(k+k')+(j+j')<=3930:=by decide):ot (eG (xs.take i) (ys.take i)):=by
 obtain ⟨M,V,h0,h1,h2,h3⟩:=h;obtain ⟨N,W,k0,k1,k2,k3⟩:=h'
 have e:1000*(V*W)<=2^(10+(j+j')):=by
  rw[bD 2 10];exact aL (by decide) (ai (aL h2 k2) (by rw[<- bD];exact aw _))
 obtain ⟨a,b⟩:=((Fr.dot (fun x hx=>h3 x (cv hx)) (fun y hy=>k3 y (cv hy))).mono (az _ (show (xs.take i).length<=1000 by rw[cM];lia))).sz (cu h0 k0) (ai (aL h1 k1) (by rw[<- bD];exact aw _)) e;exact ⟨a.mono (by lia),b.mono (by lia)⟩
theorem K9 (hx:tR k j [x]) (hy:tR k' j' [y]) (hk:(k+k')+(j+j')<=3930:=by decide):ot (x*y):=by
 obtain ⟨M,V,h0,h1,h2,h3⟩:=hx;obtain ⟨N,W,k0,k1,k2,k3⟩:=hy;obtain ⟨a,b⟩:=((h3 x (.head _)).mul (k3 y (.head _))).sz (cu h0 k0) (ai (aL h1 k1) (by rw[<- bD];exact aw _)) (ai (aL h2 k2) (by rw[<- bD];exact aw _));exact ⟨a.mono (by lia),b.mono (by lia)⟩
def En (xs ys:List Rat):Prop:=∃k j k' j':Nat,tR k j xs/\tR k' j' ys/\(k+k')+(j+j')<=3930
theorem En.sys (h:tR 400 120 xs) (h':tR 1500 1800 ys):En xs ys:=⟨_,_,_,_,h,h',by decide⟩
end
def JU (mv pt lk:List (List Rat)):Prop:=∃M V:Nat,0 < M/\M<=2^400/\V<=2^120/\GF M V mv/\GF M V pt/\GF M V lk
section
variable {mv pt lk:List (List Rat)}
theorem JU.fits (h:JU mv pt lk) {l:List Rat} (hl:∀x∈l,(∃xs∈mv,x∈xs)\/(∃xs∈pt,x∈xs)\/(∃xs∈lk,x∈xs)\/x=0):tR 400 120 l:=by
 obtain ⟨M,V,h0,h1,h2,g1,g2,g3⟩:=h;refine ⟨M,V,h0,h1,h2,fun x hx=>?_⟩;rcases hl x hx with ⟨xs,a,b⟩ | ⟨xs,a,b⟩ | ⟨xs,a,b⟩ | rfl
 ·exact g1 xs a x b
 ·exact g2 xs a x b
 ·exact g3 xs a x b
 ·exact Fr.zero
theorem JU.sf (h:JU mv pt lk):C6 mv pt lk:=by obtain ⟨M,V,a,b,c,d⟩:=h;exact ⟨M,V,a,ai b (av (by decide) (by decide)),ai c (av (by decide) (by decide)),d⟩
end
def HH (K:PySem.W.Frag):Sp:=fun vs H Q _=>∃(p q:Addr) (xs ys:List Rat),vs=[.ref p,.ref q]/\cQ K H p xs/\cQ K H q ys/\ys.length=xs.length/\xs.length<=1000/\En xs ys /\
 ∀r H',aJ H H'->cx K H' (eG xs ys) (.ref r)->Q (.ref r) H'
def HG (K:PySem.W.Frag):Sp:=fun vs H Q _=>∃(p q:Addr) (H0:Hp) (rows:List (List Rat)) (ys:List Rat),vs=[.ref p,.ref q]/\bL K H0 H p rows/\cQ K H q ys/\rows.length<=1000/\ys.length<=1000/\(∀xs∈rows,xs.length=ys.length/\En xs ys) /\
 ∀r H',H r=none->aJ H H'->cQ K H' r (rows.map fun xs=>eG xs ys)->Q (.ref r) H'
def IY (K:PySem.W.Frag) (C:Addr):Sp:=fun vs H Q _=>∃(x p q:Addr) (H0:Hp) (mv pt lk:List (List Rat)) (st pu:List Rat),vs=[.ref x,.ref p,.ref q]/\m8 K H0 H C x mv pt lk/\jk mv pt lk/\JU mv pt lk/\cQ K H p st/\cQ K H q pu/\st.length=mv.length/\pu.length=pt.length/\tR 1500 1800 (st++pu) /\
 ∀r H',H r=none->aJ H H'->cQ K H' r (gY mv pt st pu)->Q (.ref r) H'
def yR (mv pt:List (List Rat)) (st:List Rat) (pus:List (List Rat)) (k:Nat):List Rat:=(pus.take k).foldl (gY mv pt) st
def qe (mv pt:List (List Rat)) (st:List Rat) (pus:List (List Rat)):List (List Rat):=(List.range (pus.length+1)).map (yR mv pt st pus)
section
variable {mv pt lk pus:List (List Rat)} {st:List Rat} {k:Nat}
theorem uB {pu:List Rat} (h:pus[k]?=some pu):yR mv pt st pus (k+1)=gY mv pt (yR mv pt st pus k) pu:=by
 unfold yR;rw[take_snoc h,List.foldl_append];rfl
theorem vE (h:st.length=mv.length):∀{k:Nat},k<=pus.length->(yR mv pt st pus k).length=mv.length
 | 0,_=>h
 | k+1,hk=>by rw[uB (af (show k < pus.length by lia)),JF]
theorem xx:(qe mv pt st pus).length=pus.length+1:=by unfold qe;rw[aj,b8]
theorem vW (h:k<=pus.length):(qe mv pt st pus)[k]?=some (yR mv pt st pus k):=by
 unfold qe;rw[aG,df (by lia)];rfl
def Es (mv pt:List (List Rat)) (st:List Rat) (pus:List (List Rat)):Prop:=∀k,k<=pus.length->∃N W:Nat,0 < N/\N<=2^1500/\W<=2^1800/\(∀x∈yR mv pt st pus k,Fr N W x)/\∀xs∈pus,∀x∈xs,Fr N W x
theorem Es.both (h:Es mv pt st pus) (hk:k<=pus.length) {pu:List Rat} (hp:pu∈pus):tR 1500 1800 (yR mv pt st pus k++pu):=by
 obtain ⟨N,W,a,b,c,d,e⟩:=h k hk;exact ⟨N,W,a,b,c,fun x hx=>(au.mp hx).elim (d x) (e pu hp x)⟩
theorem Es.state (h:Es mv pt st pus) (hk:k<=pus.length):tR 1500 1800 (yR mv pt st pus k):=by
 obtain ⟨N,W,a,b,c,d,e⟩:=h k hk;exact ⟨N,W,a,b,c,d⟩
end
def zm (K:PySem.W.Frag) (H:Hp) (l:Addr) (H':Hp) (xs:List Rat) (x:V):Prop:=∃q,x=.ref q/\H q=none/\q≠l/\cQ K H' q xs
section
variable {K:PySem.W.Frag} {H H' H2:Hp} {l:Addr} {xs:List Rat} {x:V}
theorem zm.same (h:zm K H l H' xs x) (e:aJ H' H2):zm K H l H2 xs x:=by obtain ⟨q,a,b,c,d⟩:=h;exact ⟨q,a,b,c,d.same e⟩
theorem zm.upd {ys:List V} {o:HO} (h:zm K H l H' xs x) (hl:H' l=some (.lst ys)):zm K H l (upd H' l o) xs x:=by obtain ⟨q,a,b,c,d⟩:=h;exact ⟨q,a,b,c,d.updL hl c⟩
theorem zm.rowF (h:zm K H l H' xs x):dn K H H' xs x:=by obtain ⟨q,a,b,_,d⟩:=h;exact ⟨q,a,b,d⟩
theorem Jl {o:HO} (e:aJ H H') (n:H l=none):aJ H (upd H' l o):=fun b u h=>by
 rw[bJ (fun z=>by rw[z,n] at h;cases h)];exact e b u h
theorem AU:∀{rows:List (List Rat)} {ys:List V},Paired (zm K H l H') rows ys->V.ref l∉ys
 | _,_,.nil=>by simp
 | _,_,.cons ⟨q,a,_,c,_⟩ r=>by
  intro hm;rcases aF.mp hm with e | hm
  ·rw[a] at e;cases e;exact c rfl
  ·exact AU r hm
end
def FO (K:PySem.W.Frag) (C:Addr):Sp:=fun vs H Q _=>∃(x s p:Addr) (H0 H1:Hp) (mv pt lk pus:List (List Rat)) (st:List Rat),vs=[.ref x,.ref s,.ref p]/\m8 K H0 H C x mv pt lk/\jk mv pt lk/\JU mv pt lk/\cQ K H s st/\st.length=mv.length/\bL K H1 H p pus/\pus.length<=100/\(∀xs∈pus,xs.length=pt.length)/\Es mv pt st pus /\
 ∀r H',H r=none->aJ H H'->bL K H H' r (qe mv pt st pus)->Q (.ref r) H'
theorem Fe {i:Nat}:∀{pus:List (List Rat)},(∀xs∈pus,xs.length=i)->pus.flatten.length=pus.length*i
 | [],_=>by simp
 | x :: r,h=>by
  rw[ie,ak,h x (.head _),Fe (fun xs hx=>h xs (.tail _ hx)),aZ,dR]
  lia
theorem QY {i:Int} (h:i=0\/i=1):Fr 1 1 (i:Rat):=Fr.int (by rcases h with rfl | rfl <;> decide)
theorem wF {α β:Type} {F:α->β->Prop}:∀{l1:List α} {l2:List β} (_:Paired F l1 l2) (k:Nat),Paired F (l1.drop k) (l2.drop k)
 | _,_,h,0=>h
 | _,_,.nil,_+1=>.nil
 | _,_,.cons _ r,k+1=>wF r k
theorem NR {xs:List V} {t n:Nat} (h:t+n<=xs.length):wq xs (some (t:Int)) (some ((t:Int)+(n:Int)))=(xs.drop t).take n:=by
 unfold wq;rw[show ((t:Int)+(n:Int))=((t+n:Nat):Int) by lia,HT.Ai,HT.Ai,oy (show t<=xs.length by lia),oy h,R9]
end L2
namespace L2
abbrev hJ:=Nat->Rat
def Aa (F:List hJ->Rat) (r:Nat):List hJ->List hJ->Rat->Rat
 | _,[],_=>0
 | pre,v :: post,s=>s*v r*F (pre++post)+Aa F r (pre++[v]) post (-s)
def ji:List Nat->List hJ->Rat
 | [],[]=>1
 | [],_ :: _=>0
 | r :: rs,vs=>Aa (fun ws=>ji rs ws) r [] vs 1
theorem D4 {a b:List hJ} {x:hJ}:ji [] (a++x :: b)=0:=by
 cases a <;> rfl
theorem DR {F:List hJ->Rat} {r:Nat} {f g h:hJ} {x y:Rat} (hF:∀a b,F (a++h :: b)=x*F (a++f :: b)+y*F (a++g :: b)):∀(b p q:List hJ) (s:Rat),Aa F r (p++h :: q) b s=x*Aa F r (p++f :: q) b s+y*Aa F r (p++g :: q) b s
 | [],p,q,s=>by simp only[Aa,dQ,qR]
 | v :: b,p,q,s=>by
  have i1:=hF p (q++b);have i2:=DR (r:=r) hF b p (q++[v]) (-s);simp only[Aa,b9,eV] at i1 i2 ⊢;rw[i1,i2];grind
theorem HZ {F:List hJ->Rat} {r:Nat} {f g h:hJ} {x y:Rat} (hF:∀a b,F (a++h :: b)=x*F (a++f :: b)+y*F (a++g :: b)) (hr:h r=x*f r+y*g r):∀(a pre b:List hJ) (s:Rat),Aa F r pre (a++h :: b) s=x*Aa F r pre (a++f :: b) s+y*Aa F r pre (a++g :: b) s
 | [],pre,b,s=>by
  have i2:=DR (r:=r) hF b pre [] (-s);simp only[Aa,dh] at i2 ⊢;rw[i2,hr];grind
 | v :: a,pre,b,s=>by
  have i1:=hF (pre++a) b;have i2:=HZ hF hr a (pre++[v]) b (-s);simp only[Aa,b9,eV] at i1 i2 ⊢;rw[i1,i2];grind
theorem uV {f g h:hJ} {x y:Rat}:∀{rs:List Nat},(∀r∈rs,h r=x*f r+y*g r)->∀a b,ji rs (a++h :: b)=x*ji rs (a++f :: b)+y*ji rs (a++g :: b)
 | [],_,a,b=>by rw[D4,D4,D4];grind
 | r :: rs,hr,a,b=>HZ (fun a b=>uV (fun r' h'=>hr r' (.tail _ h')) a b) (hr r (.head _)) a [] b 1
theorem LO {f h:hJ} {rs:List Nat} (hr:∀r∈rs,h r=f r) (a b:List hJ):ji rs (a++h :: b)=ji rs (a++f :: b):=by
 rw[uV (f:=f) (g:=f) (x:=1) (y:=0) (fun r h'=>by rw[hr r h'];grind) a b];grind
theorem Il {h:hJ} {rs:List Nat} (hr:∀r∈rs,h r=0) (a b:List hJ):ji rs (a++h :: b)=0:=by
 rw[uV (f:=h) (g:=h) (x:=0) (y:=0) (fun r h'=>by rw[hr r h'];grind) a b];grind
theorem Ia {F:List hJ->Rat} {r:Nat} {x:hJ} (hF:∀a b,F (a++x :: x :: b)=0):∀(b p q:List hJ) (s:Rat),Aa F r (p++x :: x :: q) b s=0
 | [],p,q,s=>rfl
 | v :: b,p,q,s=>by
  have i1:=hF p (q++b);have i2:=Ia (r:=r) hF b p (q++[v]) (-s);simp only[Aa,b9,eV] at i1 i2 ⊢;rw[i1,i2];grind
theorem Ib {F:List hJ->Rat} {r:Nat} {x:hJ} (hF:∀a b,F (a++x :: x :: b)=0):∀(a pre b:List hJ) (s:Rat),Aa F r pre (a++x :: x :: b) s=0
 | [],pre,b,s=>by
  have i2:=Ia (r:=r) hF b pre [] (- -s);simp only[Aa,dh,b9,eV] at i2 ⊢;rw[i2];grind
 | v :: a,pre,b,s=>by
  have i1:=hF (pre++a) b;have i2:=Ib (r:=r) hF a (pre++[v]) b (-s);simp only[Aa,b9,eV] at i1 i2 ⊢;rw[i1,i2];grind
theorem Bu {x:hJ}:∀{rs:List Nat} (a b:List hJ),ji rs (a++x :: x :: b)=0
 | [],a,b=>D4
 | r :: rs,a,b=>Ib (fun a b=>Bu a b) a [] b 1
theorem NO {x y:hJ} {rs:List Nat} (a b:List hJ):ji rs (a++x :: y :: b)=- ji rs (a++y :: x :: b):=by
 have hr:∀r∈rs,(fun r=>1*x r+1*y r) r=1*x r+1*y r:=fun _ _=>rfl
 have h0:=Bu (x:=fun r=>1*x r+1*y r) (rs:=rs) a b;have h1:=uV hr a ((fun r=>1*x r+1*y r) :: b);have h2:=uV hr (a++[x]) b;have h3:=uV hr (a++[y]) b;have h4:=Bu (x:=x) (rs:=rs) a b;have h5:=Bu (x:=y) (rs:=rs) a b;simp only[b9,eV,dh] at h0 h1 h2 h3 h4 h5;rw[h1,h2,h3,h4,h5] at h0;grind
theorem D6 {x:hJ} {rs:List Nat}:∀(b a c:List hJ),ji rs (a++x :: (b++x :: c))=0
 | [],a,c=>Bu a c
 | y :: b,a,c=>by
  have:=D6 (x:=x) (rs:=rs) b (a++[y]) c;simp only[b9,eV,dh] at this;rw[eV,NO,this];rfl
def bY:Nat->(Nat->Rat)->Rat
 | 0,_=>0
 | k+1,f=>bY k f+f k
theorem bf {f g:Nat->Rat}:∀{k:Nat},(∀j,j < k->f j=g j)->bY k f=bY k g
 | 0,_=>rfl
 | k+1,h=>by
  show bY k f+f k=bY k g+g k
  rw[bf fun j hj=>h j (by lia),h k (by lia)]
theorem uA {f g:Nat->Rat}:∀{k:Nat},bY k (fun j=>f j+g j)=bY k f+bY k g
 | 0=>by show (0:Rat)=0+0;grind
 | k+1=>by
  show bY k (fun j=>f j+g j)+_=(bY k f+f k)+(bY k g+g k)
  rw[uA];grind
theorem dA {f:Nat->Rat} {c:Rat}:∀{k:Nat},bY k (fun j=>c*f j)=c*bY k f
 | 0=>by show (0:Rat)=c*0;grind
 | k+1=>by
  show bY k (fun j=>c*f j)+_=c*(bY k f+f k)
  rw[dA];grind
theorem dH {f:Nat->Rat}:∀{k:Nat},(∀j,j < k->f j=0)->bY k f=0
 | 0,_=>rfl
 | k+1,h=>by
  show bY k f+f k=0
  rw[dH fun j hj=>h j (by lia),h k (by lia)];grind
theorem gG {f:Nat->Rat} {i:Nat}:∀{k:Nat},i < k->(∀j,j < k->j≠i->f j=0)->bY k f=f i
 | k+1,hi,h=>by
  show bY k f+f k=f i
  by_cases e:i=k
  ·subst e;rw[dH fun j hj=>h j (by lia) (by lia)];grind
  ·rw[gG (by lia) fun j hj=>h j (by lia),h k (by lia) (fun z=>e z.symm)];grind
theorem jH {f:Nat->Nat->Rat} {m:Nat}:∀{k:Nat},bY k (fun i=>bY m (f i))=bY m (fun j=>bY k fun i=>f i j)
 | 0=>(dH fun _ _=>rfl).symm
 | k+1=>by
  show bY k (fun i=>bY m (f i))+bY m (f k)=bY m (fun j=>bY k (fun i=>f i j)+f k j)
  rw[jH,uA]
theorem D3 {rs:List Nat} {W:hJ} {v:Nat->hJ} {c:Nat->Rat} (a b:List hJ):∀{k:Nat} {W:hJ},(∀r∈rs,W r=bY k fun j=>c j*v j r)->ji rs (a++W :: b)=bY k fun j=>c j*ji rs (a++v j :: b)
 | 0,W,h=>Il h a b
 | k+1,W,h=>by
  rw[uV (f:=fun r=>bY k fun j=>c j*v j r) (g:=v k) (x:=1) (y:=c k) (fun r hr=>by rw[h r hr];show bY k _+_=_;grind) a b,D3 a b (k:=k) (W:=fun r=>bY k fun j=>c j*v j r) fun r _=>rfl];show _=bY k _+_
  grind
end L2
namespace L2
open Nm
def kL (f:Nat->Nat):Nat->List Nat
 | 0=>[]
 | k+1=>f k :: kL f k
def iB (v:Nat->hJ):Nat->List hJ
 | 0=>[]
 | k+1=>v k :: iB v k
def Fg (v:Nat->hJ) (i:Nat):Nat->List hJ
 | 0=>[]
 | k+1=>if k<=i then [] else v k :: Fg v i k
theorem qW {f:Nat->Nat}:∀{k:Nat},(kL f k).length=k
 | 0=>rfl
 | k+1=>by show (kL f k).length+1=_;rw[qW]
theorem cw_len {v:Nat->hJ}:∀{k:Nat},(iB v k).length=k
 | 0=>rfl
 | k+1=>by show (iB v k).length+1=_;rw[cw_len]
theorem lA {f:Nat->Nat} {r:Nat}:∀{k:Nat},r∈kL f k->∃t,t < k/\r=f t
 | k+1,h=>by
  rcases aF.mp h with h | h
  ·exact ⟨k,by lia,h⟩
  ·obtain ⟨t,a,b⟩:=lA h;exact ⟨t,by lia,b⟩
theorem AV {f g:Nat->Nat}:∀{k:Nat},(∀j,j < k->f j=g j)->kL f k=kL g k
 | 0,_=>rfl
 | k+1,h=>by
  show f k :: kL f k=g k :: kL g k
  rw[h k (by lia),AV fun j hj=>h j (by lia)]
theorem cw_congr {f g:Nat->hJ}:∀{k:Nat},(∀j,j < k->f j=g j)->iB f k=iB g k
 | 0,_=>rfl
 | k+1,h=>by
  show f k :: iB f k=g k :: iB g k
  rw[h k (by lia),cw_congr fun j hj=>h j (by lia)]
theorem cw_mem {v:Nat->hJ} {j:Nat}:∀{k:Nat},j < k->v j∈iB v k
 | k+1,h=>by
  by_cases e:j=k
  ·subst e;exact .head _
  ·exact .tail _ (cw_mem (by lia))
theorem cw_in {v:Nat->hJ} {x:hJ}:∀{k:Nat},x∈iB v k->∃t,t < k/\x=v t
 | k+1,h=>by
  rcases aF.mp h with h | h
  ·exact ⟨k,by lia,h⟩
  ·obtain ⟨t,a,b⟩:=cw_in h;exact ⟨t,by lia,b⟩
theorem LV {v:Nat->hJ} {i j:Nat} (h1:i < j):∀{k:Nat},j < k->v j∈Fg v i k
 | k+1,h=>by
  show v j∈if k<=i then [] else v k :: Fg v i k
  rw[if_neg (by lia)];by_cases e:j=k
  ·subst e;exact .head _
  ·exact .tail _ (LV h1 (by lia))
theorem Bv {v:Nat->hJ} {i:Nat} {x:hJ}:∀{k:Nat},x∈Fg v i k->∃t,t < k/\x=v t
 | k+1,h=>by
  have h:x∈if k<=i then [] else v k :: Fg v i k:=h
  split at h
  ·cases h
  ·rcases aF.mp h with h | h
   ·exact ⟨k,by lia,h⟩
   ·obtain ⟨t,a,b⟩:=Bv h;exact ⟨t,by lia,b⟩
theorem cw_split {v:Nat->hJ} {i:Nat}:∀{k:Nat},i < k->iB v k=Fg v i k++v i :: iB v i
 | k+1,h=>by
  show v k :: iB v k=(if k<=i then [] else v k :: Fg v i k)++_
  by_cases e:i=k
  ·subst e;rw[if_pos (aw _)];rfl
  ·rw[if_neg (by lia),cw_split (k:=k) (i:=i) (by lia)];rfl
theorem vO {rs:List Nat} {v:Nat->hJ} {c:Nat->Rat} {W:hJ} {k i:Nat} (hi:i < k) (hW:∀r∈rs,W r=bY k fun j=>c j*v j r):ji rs (Fg v i k++W :: iB v i)=c i*ji rs (iB v k):=by
 rw[D3 (v:=v) (c:=c) (W:=W) _ _ hW,gG hi fun j hj ne=>?_,cw_split hi];rcases cP j i with h | h
 ·obtain ⟨s,t,e⟩:=FC (cw_mem (v:=v) h);rw[e,D6];grind
 ·obtain ⟨s,t,e⟩:=FC (LV (v:=v) (show i < j by lia) hj);have:=D6 (x:=v j) (rs:=rs) t s (iB v i);rw[e,b9,eV,this];grind
theorem Qf {rs:List Nat} {v:Nat->hJ} {c:Nat->Rat} {W:hJ} {k:Nat} (hW:∀r∈rs,W r=bY k fun j=>c j*v j r):ji rs (W :: iB v k)=0:=by
 have:=D3 (v:=v) (c:=c) (W:=W) [] (iB v k) hW;rw[dh] at this;rw[this];refine dH fun j hj=>?_
 obtain ⟨s,t,e⟩:=FC (cw_mem (v:=v) hj);have:=D6 (x:=v j) (rs:=rs) s [] t;rw[dh] at this;rw[e,dh,this];grind
theorem JO {rs:List Nat} {v:Nat->hJ} {c:Nat->Rat} {W:hJ} {k i:Nat} {s:Rat} (hi:i∉rs) (h1:W i=bY k (fun j=>c j*v j i)+s) (hW:∀r∈rs,W r=bY k fun j=>c j*v j r):ji (i :: rs) (W :: iB v k)=s*ji rs (iB v k):=by
 have e:=uV (rs:=i :: rs) (h:=W) (f:=fun r=>bY k fun j=>c j*v j r) (g:=fun r=>if r=i then 1 else 0) (x:=1) (y:=s) (fun r hr=>by
  rcases aF.mp hr with rfl | hr
  ·rw[h1,if_pos rfl];grind
  ·rw[hW r hr,if_neg (fun z=>hi (by rw[<- z];exact hr))];grind) [] (iB v k)
 rw[dh,dh,dh,Qf (c:=c) fun r _=>rfl] at e
 have e2:ji (i :: rs) ((fun r=>if r=i then (1:Rat) else 0) :: iB v k)=ji rs (iB v k):=by
  show 1*(if i=i then (1:Rat) else 0)*ji rs ([]++iB v k)+Aa (fun ws=>ji rs ws) i ([]++[fun r=>if r=i then (1:Rat) else 0]) (iB v k) (-1)=_
  have hF:∀a b,(fun ws=>ji rs ws) (a++(fun r=>if r=i then (1:Rat) else 0) :: b)=0*(fun ws=>ji rs ws) (a++(fun r=>if r=i then (1:Rat) else 0) :: b)+0*(fun ws=>ji rs ws) (a++(fun r=>if r=i then (1:Rat) else 0) :: b):=fun a b=>by
   have:=Il (h:=fun r=>if r=i then (1:Rat) else 0) (rs:=rs) (fun r hr=>if_neg fun z=>hi (by rw[<- z];exact hr)) a b
   dsimp only
   rw[this];grind
  have:=DR (r:=i) hF (iB v k) [] [] (-1);rw[this,if_pos rfl,dh];grind
 rw[e2] at e;rw[e];grind
theorem Lj {F:List hJ->Rat} {r B W:Nat}:∀{post pre:List hJ} {s:Rat},(∀ws,(∀w∈ws,w∈pre++post)->ws.length+1=(pre++post).length->Fr 1 B (F ws))->(∀w∈post,Fr 1 W (w r))->Fr 1 1 s->Fr 1 (post.length*(W*B)) (Aa F r pre post s)
 | [],pre,s,_,_,_=>by show Fr 1 _ 0;exact Fr.zero
 | v :: post,pre,s,hF,hw,hs=>by
  have t1:Fr 1 (W*B) (s*v r*F (pre++post)):=by
   have:=(hs.mul (hw v (.head _))).mul (hF (pre++post) (fun w h=>by
    rcases au.mp h with h | h
    ·exact kO _ h
    ·exact bV _ (.tail _ h)) (by simp only[ak,aZ];lia))
   simpa using this
  have t2:=Lj (F:=F) (r:=r) (B:=B) (W:=W) (post:=post) (pre:=pre++[v]) (s:=-s) (fun ws h h'=>hF ws (fun w hw=>by simpa using h w hw) (by simpa using h')) (fun w h=>hw w (.tail _ h)) (by simpa using hs.neg);exact (t1.add t2).mono (by rw[aZ,dR];lia)
theorem zF {W N:Nat}:∀{rs:List Nat} {vs:List hJ},vs.length<=N->(∀v∈vs,∀r∈rs,Fr 1 W (v r))->Fr 1 ((N*W)^rs.length) (ji rs vs)
 | [],[],_,_=>by show Fr 1 1 1;exact (Fr.int (i:=1) (by decide))
 | [],_ :: _,_,_=>by show Fr 1 _ 0;exact Fr.zero
 | r :: rs,vs,hl,h=>by
  have:=Lj (F:=fun ws=>ji rs ws) (r:=r) (B:=(N*W)^rs.length) (W:=W) (post:=vs) (pre:=[]) (s:=1) (fun ws h1 h2=>zF (by rw[dh] at h2;lia) fun v hv r' hr'=>h v (by simpa using h1 v hv) r' (.tail _ hr')) (fun w hw=>h w hw r (.head _)) (Fr.int (i:=1) (by decide));refine this.mono ?_;rw[aZ,ff,bX ((N*W)^rs.length),cL N];exact az _ hl
structure yM (a:Nat->Nat->Rat) (m k:Nat) (pm p:Nat->Nat) (l:Nat->Nat->Rat) (d:Rat):Prop where
 inj:∀i j,i < m->j < m->pm i=pm j->i=j
 rng:∀i,i < m->pm i < m
 km:k<=m
 d0:d≠0
 det:d=ji (kL pm k) (iB (fun j r=>a r (p j)) k)
 eqs:∀i,i < m->∀c,d*a (pm i) c=bY k (fun j=>a (pm i) (p j)*l j c)+if i < k then 0 else l i c
 unit:∀i,i < m->∀j,j < k->l i (p j)=if i=j then d else 0
section
variable {a l:Nat->Nat->Rat} {m k:Nat} {pm p:Nat->Nat} {d:Rat}
theorem yM.start (h:∀i,i < m->pm i=i):yM a m 0 pm p a 1 where
 inj i j hi hj e:=by rw[h i hi,h j hj] at e;exact e
 rng i hi:=by rw[h i hi];exact hi
 km:=bA _
 d0:=by decide
 det:=rfl
 eqs i hi c:=by
  rw[h i hi,if_neg (by lia)];show 1*a i c=0+a i c
  grind
 unit i _ j hj:=absurd hj (by lia)
theorem yM.coef (B:yM a m k pm p l d) {i c:Nat} (hi:i < m):a (pm i) c=bY k (fun j=>(l j c / d)*a (pm i) (p j))+if i < k then 0 else l i c / d:=by
 have h:=B.eqs i hi c;have d0:=B.d0
 have e:bY k (fun j=>(l j c / d)*a (pm i) (p j))=(1 / d)*bY k (fun j=>a (pm i) (p j)*l j c):=by
  rw[<- dA];exact bf fun j _=>by grind
 rw[e]
 split at h
 ·rw[if_pos (by assumption)];grind
 ·rw[if_neg (by assumption)];grind
theorem yM.old (B:yM a m k pm p l d) {i c:Nat} (hi:i < k):l i c=ji (kL pm k) (Fg (fun j r=>a r (p j)) i k++(fun r=>a r c) :: iB (fun j r=>a r (p j)) i):=by
 have km:=B.km;have d0:=B.d0;rw[vO (v:=fun j r=>a r (p j)) (c:=fun j=>l j c / d) hi fun r hr=>?_,<- B.det]
 ·grind
 ·obtain ⟨t,ht,rfl⟩:=lA hr;have:=B.coef (i:=t) (c:=c) (by lia);rw[if_pos ht] at this;rw[this];grind
theorem yM.new (B:yM a m k pm p l d) {i c:Nat} (h1:k<=i) (hi:i < m):l i c=ji (pm i :: kL pm k) ((fun r=>a r c) :: iB (fun j r=>a r (p j)) k):=by
 have km:=B.km;have d0:=B.d0
 have hn:pm i∉kL pm k:=fun hm=>by
  obtain ⟨t,ht,e⟩:=lA hm;have:=B.inj i t hi (by lia) e
  lia
 have e1:a (pm i) c=bY k (fun j=>(l j c / d)*a (pm i) (p j))+l i c / d:=by
  have:=B.coef (i:=i) (c:=c) hi;rwa [if_neg (by lia)] at this
 have e2:∀r∈kL pm k,a r c=bY k (fun j=>(l j c / d)*a r (p j)):=fun r hr=>by
  obtain ⟨t,ht,rfl⟩:=lA hr;have:=B.coef (i:=t) (c:=c) (by lia);rw[if_pos ht] at this;rw[this];grind
 rw[JO (v:=fun j r=>a r (p j)) (c:=fun j=>l j c / d) (W:=fun r=>a r c) (s:=l i c / d) hn e1 e2,<- B.det];grind
theorem yM.fr {W N:Nat} (B:yM a m k pm p l d) (hN:k < N) (hW:1<=W) (ha:∀i,i < m->∀c,Fr 1 W (a i c)) {i c:Nat} (hi:i < m):Fr 1 ((N*W)^(k+1)) (l i c):=by
 have km:=B.km;have mono:∀t,t<=k+1->(N*W)^t<=(N*W)^(k+1):=fun t ht=>av (cu (by lia) hW) ht
 have ha':∀r∈kL pm k,∀c,Fr 1 W (a r c):=fun r hr c=>by
  obtain ⟨t,ht,rfl⟩:=lA hr;exact ha _ (B.rng t (by lia)) c
 by_cases h:i < k
 ·rw[B.old h];refine (zF (W:=W) (N:=N) ?_ ?_).mono (mono _ (by rw[qW];lia))
  ·have:=congrArg List.length (cw_split (v:=fun j r=>a r (p j)) h);rw[ak,aZ,cw_len] at this;rw[ak,aZ]
   lia
  ·intro v hv r hr;rcases au.mp hv with hv | hv
   ·obtain ⟨t,_,rfl⟩:=Bv hv;exact ha' r hr _
   ·rcases aF.mp hv with rfl | hv
    ·exact ha' r hr _
    ·obtain ⟨t,_,rfl⟩:=cw_in hv;exact ha' r hr _
 ·rw[B.new (by lia) hi];refine (zF (W:=W) (N:=N) ?_ ?_).mono (mono _ (by rw[aZ,qW];lia))
  ·rw[aZ,cw_len]
   lia
  ·intro v hv r hr
   have hr':∀c,Fr 1 W (a r c):=fun c=>by
    rcases aF.mp hr with rfl | hr
    ·exact ha _ (B.rng i hi) c
    ·exact ha' r hr c
   rcases aF.mp hv with rfl | hv
   ·exact hr' _
   ·obtain ⟨t,_,rfl⟩:=cw_in hv;exact hr' _
theorem yM.dfr {W N:Nat} (B:yM a m k pm p l d) (hN:k<=N) (ha:∀i,i < m->∀c,Fr 1 W (a i c)):Fr 1 ((N*W)^k) d:=by
 have km:=B.km;rw[B.det]
 have:=zF (W:=W) (N:=N) (rs:=kL pm k) (vs:=iB (fun j r=>a r (p j)) k) (by rw[cw_len];exact hN) fun v hv r hr=>by
  obtain ⟨t,ht,rfl⟩:=lA hr;obtain ⟨t',_,rfl⟩:=cw_in hv;exact ha _ (B.rng t (by lia)) _
 rwa [qW] at this
def kM (k t i:Nat):Nat:=if i=k then t else if i=t then k else i
theorem wB {k t m i:Nat} (hk:k < m) (ht:t < m) (hi:i < m):kM k t i < m:=by
 unfold kM
 split
 ·exact ht
 ·split
  ·exact hk
  ·exact hi
theorem OT {k t i j:Nat} (h:kM k t i=kM k t j):i=j:=by
 unfold kM at h
 split at h <;> split at h <;> (try split at h) <;> (try split at h) <;> lia
theorem xk {k t i:Nat} (h:k<=t) (hi:i < k):kM k t i=i:=by
 unfold kM;rw[if_neg (by lia),if_neg (by lia)]
theorem xF {k t i:Nat} (h:k<=t) (hi:k<=i):k<=kM k t i:=by
 unfold kM
 split
 ·exact h
 ·split <;> lia
theorem yM.swap (B:yM a m k pm p l d) {t:Nat} (h:k<=t) (ht:t < m):yM a m k (fun i=>pm (kM k t i)) p (fun i=>l (kM k t i)) d where
 inj i j hi hj e:=OT (B.inj _ _ (wB (by lia) ht hi) (wB (by lia) ht hj) e)
 rng i hi:=B.rng _ (wB (by lia) ht hi)
 km:=B.km
 d0:=B.d0
 det:=by rw[B.det,AV (f:=pm) (g:=fun i=>pm (kM k t i)) fun j hj=>by rw[xk h hj]]
 eqs i hi c:=by
  have e:=B.eqs (kM k t i) (wB (by lia) ht hi) c;have e1:bY k (fun j=>a (pm (kM k t i)) (p j)*l (kM k t j) c)=bY k (fun j=>a (pm (kM k t i)) (p j)*l j c):=bf fun j hj=>by rw[xk h hj]
  rw[e1];by_cases hk:i < k
  ·rw[xk h hk] at e ⊢;exact e
  ·rw[if_neg hk];rw[if_neg (by have:=xF h (show k<=i by lia);lia)] at e;exact e
 unit i hi j hj:=by
  rw[B.unit _ (wB (by lia) ht hi) j hj];by_cases hk:i < k
  ·rw[xk h hk]
  ·have:=xF h (show k<=i by lia);rw[if_neg (by lia),if_neg (by lia)]
theorem yM.step (B:yM a m k pm p l d) {c0:Nat} (hk:k < m) (h0:l k c0≠0):yM a m (k+1) pm (fun j=>if j=k then c0 else p j) (fun i c=>if i=k then l k c else (l k c0*l i c - l i c0*l k c) / d) (l k c0) where
 inj:=B.inj
 rng:=B.rng
 km:=hk
 d0:=h0
 det:=by
  rw[B.new (aw _) hk];show _=ji (pm k :: kL pm k) ((fun r=>a r (if k=k then c0 else p k)) :: iB _ k)
  rw[if_pos rfl];congr 2;exact cw_congr fun j hj=>by rw[if_neg (show j≠k by lia)]
 eqs i hi c:=by
  have d0:=B.d0;have e1:=B.eqs i hi c;have e2:=B.eqs i hi c0;show l k c0*a (pm i) c=(bY k _+_)+_
  have s1:bY k (fun j=>a (pm i) (if j=k then c0 else p j)*(if j=k then l k c else (l k c0*l j c - l j c0*l k c) / d))=(l k c0 / d)*bY k (fun j=>a (pm i) (p j)*l j c)+(- l k c / d)*bY k (fun j=>a (pm i) (p j)*l j c0):=by
   rw[<- dA,<- dA,<- uA];refine bf fun j hj=>?_
   rw[if_neg (show j≠k by lia),if_neg (show j≠k by lia)];grind
  rw[s1];simp only[if_true];generalize bY k (fun j=>a (pm i) (p j)*l j c)=S1 at e1 ⊢;generalize bY k (fun j=>a (pm i) (p j)*l j c0)=S2 at e2 ⊢;rcases qS i k with h | h | h
  ·rw[if_pos h] at e1 e2;rw[if_pos (by lia)];grind
  ·subst h;rw[if_neg (by lia)] at e1 e2;rw[if_pos (by lia)];grind
  ·rw[if_neg (by lia)] at e1 e2;rw[if_neg (by lia),if_neg (by lia)];grind
 unit i hi j hj:=by
  have d0:=B.d0;by_cases e:j=k
  ·subst e;simp only[if_true];by_cases ei:i=j
   ·rw[if_pos ei,if_pos ei]
   ·rw[if_neg ei,if_neg ei];grind
  ·have hj':j < k:=by lia
   rw[if_neg e];by_cases ei:i=k
   ·rw[if_pos ei,B.unit k hk j hj',if_neg (by lia),if_neg (by lia)]
   ·rw[if_neg ei,B.unit i hi j hj',B.unit k hk j hj',if_neg (show k≠j by lia)]
    split
    ·grind
    ·grind
end
def eH (m:Nat) (a:Nat->Nat->Rat) (x:Nat->Rat):Prop:=∃w:Nat->Rat,∀c,x c=bY m fun t=>w t*a t c
section
variable {m m' k n:Nat} {a b:Nat->Nat->Rat} {x y:Nat->Rat}
theorem eH.row {i:Nat} (hi:i < m):eH m a (a i):=⟨fun t=>if t=i then 1 else 0,fun c=>by
 rw[gG hi fun j _ ne=>by dsimp only;rw[if_neg ne];grind]
 dsimp only
 rw[if_pos rfl];grind⟩
theorem eH.lin (α β:Rat) (hx:eH m a x) (hy:eH m a y):eH m a fun c=>α*x c+β*y c:=by
 obtain ⟨w,hw⟩:=hx;obtain ⟨v,hv⟩:=hy;refine ⟨fun t=>α*w t+β*v t,fun c=>?_⟩
 dsimp only
 rw[hw c,hv c,<- dA,<- dA,<- uA];exact bf fun j _=>by grind
theorem eH.congr (h:∀c,x c=y c) (hx:eH m a x):eH m a y:=by obtain ⟨w,hw⟩:=hx;exact ⟨w,fun c=>by rw[<- h c];exact hw c⟩
theorem eH.trans (h:∀t,t < m'->eH m a (b t)) (hx:eH m' b x):eH m a x:=by
 obtain ⟨v,hv⟩:=hx
 have h2:∀t,∃w:Nat->Rat,t < m'->∀c,b t c=bY m fun s=>w s*a s c:=fun t=>by
  by_cases ht:t < m'
  ·obtain ⟨w,hw⟩:=h t ht;exact ⟨w,fun _=>hw⟩
  ·exact ⟨fun _=>0,fun z=>absurd z ht⟩
 have hc:=Classical.axiomOfChoice h2;obtain ⟨w,hw⟩:=hc;refine ⟨fun s=>bY m' fun t=>v t*w t s,fun c=>?_⟩;rw[hv c];have e1:bY m' (fun t=>v t*b t c)=bY m' (fun t=>bY m fun s=>v t*(w t s*a s c)):=bf fun t ht=>by rw[hw t ht c,<- dA]
 rw[e1,jH];refine bf fun s _=>?_
 have:bY m' (fun t=>v t*w t s)*a s c=a s c*bY m' (fun t=>v t*w t s):=dI ..;rw[this,<- dA];exact bf fun t _=>by grind
theorem eH.zero (h:∀c,x c=0):eH m a x:=⟨fun _=>0,fun c=>by rw[h c,dH fun _ _=>by grind]⟩
end
structure C7 (m n:Nat) (a:Nat->Nat->Rat) (k:Nat) (p:Nat->Nat) (R:Nat->Nat->Rat):Prop where
 inc:∀i j,i < j->j < k->p i < p j
 low:∀j,j < k->p j < n
 unit:∀i,i < k->∀j,j < k->R i (p j)=if i=j then 1 else 0
 lead:∀i,i < k->∀c,c < p i->R i c=0
 span:∀i,i < m->eH k R (a i)
 back:∀i,i < k->eH m a (R i)
section
variable {m m' k k' n:Nat} {a a' R R':Nat->Nat->Rat} {p p':Nat->Nat} {x:Nat->Rat}
theorem C7.coef (h:C7 m n a k p R) (hx:eH k R x) (c:Nat):x c=bY k fun j=>x (p j)*R j c:=by
 obtain ⟨w,hw⟩:=hx;rw[hw c];refine bf fun j hj=>?_
 rw[hw (p j),gG hj fun t ht ne=>by rw[h.unit t ht j hj,if_neg ne];grind,h.unit j hj j hj,if_pos rfl];grind
theorem C7.lead_in (h:C7 m n a k p R) (hx:eH k R x) {c:Nat} (h1:x c≠0) (h0:∀c',c' < c->x c'=0):∃j,j < k/\p j=c:=by
 refine Classical.byContradiction fun hn=>h1 ?_
 rw[h.coef hx c];refine dH fun j hj=>?_
 rcases qS (p j) c with z | z | z
 ·rw[h0 _ z];grind
 ·exact absurd ⟨j,hj,z⟩ hn
 ·rw[h.lead j hj c z];grind
theorem inc_le (h1:∀i j,i < j->j < k->p i < p j) (h2:∀i j,i < j->j < k'->p' i < p' j) (hs:∀j,j < k'->∃i,i < k/\p i=p' j):∀{j:Nat},j < k'->∀{i:Nat},i < k->p i=p' j->j<=i
 | 0,_,_,_,_=>bA _
 | j+1,hj,i,hi,e=>by
  obtain ⟨i0,hi0,e0⟩:=hs j (by lia);have:=inc_le h1 h2 hs (j:=j) (by lia) hi0 e0;have lt:=h2 j (j+1) (by lia) hj;rcases qS i0 i with z | z | z
  ·lia
  ·subst z;lia
  ·have:=h1 i i0 z hi0;lia
theorem Lu (h1:∀i j,i < j->j < k->p i < p j) {i j:Nat} (h:i<=j) (hj:j < k):p i<=p j:=by
 rcases cP i j with z | z
 ·exact aS (h1 i j z hj)
 ·have:i=j:=by lia
  rw[this];exact aw _
theorem Ih (h1:∀i j,i < j->j < k->p i < p j) (h2:∀i j,i < j->j < k'->p' i < p' j) (hs:∀j,j < k'->∃i,i < k/\p i=p' j):k'<=k/\∀j,j < k'->p j<=p' j:=by
 refine ⟨?_,fun j hj=>?_⟩
 ·rcases fY k' with z | z
  ·lia
  ·obtain ⟨i,hi,e⟩:=hs (k' - 1) (by lia);have:=inc_le h1 h2 hs (j:=k' - 1) (by lia) hi e
   lia
 ·obtain ⟨i,hi,e⟩:=hs j hj;rw[<- e];exact Lu h1 (inc_le h1 h2 hs hj hi e) hi
theorem C7.uniq (h:C7 m n a k p R) (h':C7 m' n a' k' p' R') (s1:∀i,i < m->eH m' a' (a i)) (s2:∀i,i < m'->eH m a (a' i)):k=k'/\(∀j,j < k->p j=p' j)/\∀i,i < k->∀c,R i c=R' i c:=by
 have x1:∀i,i < k->eH k' R' (R i):=fun i hi=>eH.trans (fun t ht=>h'.span t ht) (eH.trans s1 (h.back i hi))
 have x2:∀i,i < k'->eH k R (R' i):=fun i hi=>eH.trans (fun t ht=>h.span t ht) (eH.trans s2 (h'.back i hi))
 have y1:∀j,j < k->∃i,i < k'/\p' i=p j:=fun j hj=>h'.lead_in (x1 j hj) (by rw[h.unit j hj j hj,if_pos rfl];decide) (h.lead j hj)
 have y2:∀j,j < k'->∃i,i < k/\p i=p' j:=fun j hj=>h.lead_in (x2 j hj) (by rw[h'.unit j hj j hj,if_pos rfl];decide) (h'.lead j hj)
 obtain ⟨z1,w1⟩:=Ih h'.inc h.inc y1;obtain ⟨z2,w2⟩:=Ih h.inc h'.inc y2;have ek:k=k':=Mg z1 z2;subst ek;have ep:∀j,j < k->p j=p' j:=fun j hj=>Mg (w2 j hj) (w1 j hj)
 refine ⟨rfl,ep,fun i hi c=>?_⟩;rw[h.coef (x2 i hi) c,gG hi fun j hj ne=>by rw[ep j hj,h'.unit i hi j hj,if_neg (fun z=>ne z.symm)];grind,ep i hi,h'.unit i hi i hi,if_pos rfl];grind
end
structure lO (a:Nat->Nat->Rat) (m k P:Nat) (p:Nat->Nat) (l:Nat->Nat->Rat) (d:Rat):Prop where
 km:k<=m
 d0:d≠0
 unit:∀i,i < m->∀j,j < k->l i (p j)=if i=j then d else 0
 inc:∀i j,i < j->j < k->p i < p j
 low:∀j,j < k->p j < P
 zero:∀i,k<=i->i < m->∀c,c < P->l i c=0
 lead:∀j,j < k->∀c,c < p j->l j c=0
 there:∀i,i < m->eH m l (a i)
 back:∀i,i < m->eH m a (l i)
section
variable {m k n P:Nat} {a l l':Nat->Nat->Rat} {p:Nat->Nat} {d d':Rat}
theorem lO.start:lO a m 0 0 p a 1 where
 km:=bA _
 d0:=by decide
 unit _ _ j hj:=absurd hj (by lia)
 inc _ j _ hj:=absurd hj (by lia)
 low j hj:=absurd hj (by lia)
 zero _ _ _ c hc:=absurd hc (by lia)
 lead j hj:=absurd hj (by lia)
 there i hi:=eH.row hi
 back i hi:=eH.row hi
theorem lO.skip (E:lO a m k P p l d) (h:∀i,k<=i->i < m->l i P=0):lO a m k (P+1) p l d :=
 ⟨E.km,E.d0,E.unit,E.inc,fun j hj=>Nat.lt_succ_of_lt (E.low j hj),fun i h1 h2 c hc=>by
  by_cases e:c=P
  ·rw[e];exact h i h1 h2
  ·exact E.zero i h1 h2 c (by lia),E.lead,E.there,E.back⟩
theorem QV {k t i:Nat}:kM k t (kM k t i)=i:=by
 unfold kM
 split
 ·split <;> (try split) <;> lia
 ·split
  ·rw[if_pos rfl];lia
  ·rfl
theorem lO.swap (E:lO a m k P p l d) {t:Nat} (h:k<=t) (ht:t < m):lO a m k P p (fun i=>l (kM k t i)) d where
 km:=E.km
 d0:=E.d0
 unit i hi j hj:=by
  rw[E.unit _ (wB (by lia) ht hi) j hj];by_cases hk:i < k
  ·rw[xk h hk]
  ·have:=xF h (show k<=i by lia);rw[if_neg (by lia),if_neg (by lia)]
 inc:=E.inc
 low:=E.low
 zero i h1 h2 c hc:=E.zero _ (xF h h1) (wB (by lia) ht h2) c hc
 lead j hj c hc:=by rw[xk h hj];exact E.lead j hj c hc
 there i hi:=eH.trans (fun s hs=>eH.congr (fun c=>by rw[QV]) (eH.row (a:=fun i=>l (kM k t i)) (i:=kM k t s) (wB (by lia) ht hs))) (E.there i hi)
 back i hi:=E.back _ (wB (by lia) ht hi)
theorem lO.step (E : lO a m k P p l d) (hk : k < m) (h0 : d' ≠ 0) (unit' : ∀ i, i < m → ∀ j, j < k + 1 → l' i (if j = k then P else p j) = if i = j then d' else 0)
    (hl : ∀ i, i < m → ∃ β γ : Rat, β ≠ 0 /\ (i = k → γ = 0) /\ ∀ c, l' i c = β * l i c + γ * l k c) : lO a m (k + 1) (P + 1) (fun j => if j = k then P else p j) l' d' where
  km := hk
  d0 := h0
  unit := unit'
  inc i j hij hj := by
    by_cases e : j = k
    · rw [if_pos e, if_neg (by lia)];exact E.low i (by lia)
    · rw [if_neg e, if_neg (by lia)];exact E.inc i j hij (by lia)
  low j hj := by
    by_cases e : j = k
    · rw [if_pos e]; lia
    · rw [if_neg e];exact Nat.lt_succ_of_lt (E.low j (by lia))
  zero i h1 h2 c hc := by
    by_cases e : c = P
    · have := unit' i h2 k (by lia);rw [if_pos rfl, if_neg (by lia)] at this;rw [e]; exact this
    · obtain ⟨β, γ, _, _, q⟩ := hl i h2;rw [q c, E.zero i (by lia) h2 c (by lia), E.zero k (aw _) hk c (by lia)];grind
  lead j hj c hc := by
    have km := E.km;obtain ⟨β, γ, _, _, q⟩ := hl j (by lia);by_cases e : j = k
    · rw [if_pos e] at hc;rw [q c, e, E.zero k (aw _) hk c hc];grind
    · rw [if_neg e] at hc;have := E.low j (by lia);rw [q c, E.lead j (by lia) c hc, E.zero k (aw _) hk c (by lia)];grind
  there i hi := by
    refine eH.trans (fun s hs => ?_) (E.there i hi);obtain ⟨β, γ, b0, _, q⟩ := hl s hs;obtain ⟨βk, γk, bk0, gk, qk⟩ := hl k hk;have g0 := gk rfl;refine eH.congr (fun c => ?_) (eH.lin (1 / β) (-(γ / β) / βk) (eH.row (a := l') hs) (eH.row (a := l') hk));rw [q c, qk c, g0];grind
  back i hi := by
    obtain ⟨β, γ, _, _, q⟩ := hl i hi;exact eH.congr (fun c => (q c).symm) (eH.lin β γ (E.back i hi) (E.back k hk))
theorem lO.done (E:lO a m k n p l d) (ha:∀i,i < m->∀c,n<=c->a i c=0):C7 m n a k p (fun i c=>l i c / d) where
 inc:=E.inc
 low:=E.low
 unit i hi j hj:=by
  have d0:=E.d0;have km:=E.km;rw[E.unit i (by lia) j hj]
  split
  ·grind
  ·grind
 lead i hi c hc:=by
  rw[E.lead i hi c hc];grind
 span i hi:=by
  have d0:=E.d0;refine eH.trans (fun s hs=>?_) (E.there i hi);by_cases z:s < k
  ·refine eH.congr (fun c=>?_) (eH.lin d 0 (eH.row (a:=fun i c=>l i c / d) z) (eH.row (a:=fun i c=>l i c / d) z));grind
  ·refine eH.zero fun c=>?_
   by_cases hc:c < n
   ·exact E.zero s (by lia) hs c hc
   ·obtain ⟨w,hw⟩:=E.back s hs;rw[hw c,dH fun t ht=>by rw[ha t ht c (by lia)];grind]
 back i hi:=by
  have km:=E.km;have d0:=E.d0;refine eH.congr (fun c=>?_) (eH.lin (1 / d) 0 (E.back i (by lia)) (E.back i (by lia)));grind
end
def d6 (ls:List (List Int)) (i c:Nat):Rat:=(((ls.getD i []).getD c 0:Int):Rat)
def cn (rows:List (List Rat)) (i c:Nat):Rat:=(rows.getD i []).getD c 0
def sE (ls:List (List Int)) (k t:Nat):List (List Int):=(ls.set k (ls.getD t [])).set t (ls.getD k [])
def Fi (ls:List (List Int)) (k c:Nat) (b:Int):List (List Int):=(ls.map fun zs=>List.zipWith (fun x y=>((ls.getD k []).getD c 0*x - zs.getD c 0*y).fdiv b) zs (ls.getD k [])).set k (ls.getD k [])
section
variable {ls ls0:List (List Int)} {k t n P c:Nat} {b d:Int} {ps:List Nat}
theorem uU {α:Type} {l:List α} {i j:Nat} {x e:α} (hi:i < l.length):(l.set i x).getD j e=if j=i then x else l.getD j e:=by
 rw[aa,aa,List.getElem?_set];by_cases h:j=i
 ·subst h;rw[if_pos rfl,if_pos hi,if_pos rfl];rfl
 ·rw[if_neg (fun z=>h z.symm),if_neg h]
theorem yO:(sE ls k t).length=ls.length:=by unfold sE;rw[eE,eE]
theorem LZ:(Fi ls k c b).length=ls.length:=by unfold Fi;rw[eE,aj]
theorem getD_in {α:Type} {l:List α} {i:Nat} {e:α} (h:i < l.length):l.getD i e∈l:=by
 rw[aa,af h];exact aQ h
theorem HE (w:∀zs∈ls,zs.length=n) (hk:k < ls.length) (ht:t < ls.length):∀zs∈sE ls k t,zs.length=n:=fun zs hz=>by
 unfold sE at hz;rcases cJ hz with h | h
 ·rcases cJ h with h | h
  ·exact w zs h
  ·rw[h];exact w _ (getD_in ht)
 ·rw[h];exact w _ (getD_in hk)
theorem Iv (w:∀zs∈ls,zs.length=n) (hk:k < ls.length):∀zs∈Fi ls k c b,zs.length=n:=fun zs hz=>by
 unfold Fi at hz;rcases cJ hz with h | h
 ·obtain ⟨y,hy,rfl⟩:=aB.mp h;rw[cz,w y hy,w _ (getD_in hk)]
  lia
 ·rw[h];exact w _ (getD_in hk)
theorem ym (hk:k < ls.length) (ht:t < ls.length) (i c:Nat):d6 (sE ls k t) i c=d6 ls (kM k t i) c:=by
 unfold d6 sE kM;rw[uU (by rw[eE];exact ht),uU hk];by_cases h1:i=t
 ·rw[if_pos h1];by_cases h2:i=k
  ·rw[if_pos h2,<- h1,<- h2]
  ·rw[if_neg h2,if_pos h1]
 ·rw[if_neg h1];by_cases h2:i=k
  ·rw[if_pos h2,if_pos h2]
  ·rw[if_neg h2,if_neg h2,if_neg h1]
theorem xv (w:∀zs∈ls,zs.length=n) {i c:Nat} (hc:n<=c):d6 ls i c=0:=by
 unfold d6;by_cases h:i < ls.length
 ·have:=w _ (getD_in (e:=[]) h);rw[aa (l:=ls.getD i []),aM (by lia)];rfl
 ·rw[aa (l:=ls),aM (by lia)];rfl
theorem ng {x:Int} (h:(x:Rat)=0):x=0:=by
 have:(x:Rat)=((0:Int):Rat):=h;exact dF.mp this
theorem GO {x b:Int} {q:Rat} (hb:b≠0) (hq:∃z:Int,q=(z:Rat)) (e:(x:Rat)=(b:Rat)*q):((x.fdiv b:Int):Rat)=q:=by
 obtain ⟨z,rfl⟩:=hq;rw[<- aN] at e;have:=dF.mp e;rw[this,Int.mul_fdiv_cancel_left _ hb]
theorem sT {W:Nat} {q:Rat} (h:Fr 1 W q):∃z:Int,q=(z:Rat):=by
 obtain ⟨z,e,_⟩:=h;exact ⟨z,by rw[<- e];simp⟩
theorem sS {W:Nat} {z:Int} (h:Fr 1 W (z:Rat)):z.natAbs<=W:=by
 obtain ⟨y,e,b⟩:=h;have:(z:Rat)=(y:Rat):=by rw[<- e];simp
 rw[dF.mp this];simpa using b
theorem LJ (w:∀zs∈ls,zs.length=n) (hk:k < ls.length) (hb:b≠0) {i:Nat} (hi:i < ls.length) (hz:∀c,∃z:Int,(d6 ls k P*d6 ls i c - d6 ls i P*d6 ls k c) / (b:Rat)=(z:Rat)) (c:Nat) :
  d6 (Fi ls k P b) i c=if i=k then d6 ls k c else (d6 ls k P*d6 ls i c - d6 ls i P*d6 ls k c) / (b:Rat):=by
 by_cases e:i=k
 ·rw[if_pos e];unfold d6 Fi;rw[uU (by rw[aj];exact hk),if_pos e]
 ·rw[if_neg e];by_cases hc:c < n
  ·have hb':(b:Rat)≠0:=fun z=>hb (ng z)
   have lk:=w _ (getD_in (e:=[]) hk);have li:=w _ (getD_in (e:=[]) hi)
   have e1:d6 (Fi ls k P b) i c=(((((ls.getD k []).getD P 0*(ls.getD i []).getD c 0 - (ls.getD i []).getD P 0*(ls.getD k []).getD c 0).fdiv b:Int)):Rat):=by
    unfold Fi;rw[d6,uU (by rw[aj];exact hk),if_neg e];rw[aa (l:=List.map _ ls),aG,af hi];show ((((List.zipWith _ ls[i] (ls.getD k [])).getD c 0:Int)):Rat)=_
    have ei:ls.getD i []=ls[i]:=by rw[aa,af hi];rfl
    rw[<- ei];rw[aa (l:=List.zipWith _ _ _),b6,aa (l:=ls.getD i []) (i:=c),aa (l:=ls.getD k []) (i:=c),af (show c < (ls.getD i []).length by lia),af (show c < (ls.getD k []).length by lia)];rfl
   rw[e1];refine GO hb (hz c) ?_;rw[BM,aN,aN];show _=(b:Rat)*((d6 ls k P*d6 ls i c - d6 ls i P*d6 ls k c) / (b:Rat))
   show d6 ls k P*d6 ls i c - d6 ls i P*d6 ls k c=_
   grind
  ·rw[xv (Iv w hk) (show n<=c by lia),xv w (i:=i) (show n<=c by lia),xv w (i:=k) (show n<=c by lia)];grind
end
section
variable {m k n P:Nat} {a l l2:Nat->Nat->Rat} {pm p p2:Nat->Nat} {d:Rat}
theorem yM.congr (B:yM a m k pm p l d) (hp:∀j,j < k->p2 j=p j) (hl:∀i,i < m->∀c,l2 i c=l i c):yM a m k pm p2 l2 d where
 inj:=B.inj
 rng:=B.rng
 km:=B.km
 d0:=B.d0
 det:=by rw[B.det,cw_congr (f:=fun j r=>a r (p j)) (g:=fun j r=>a r (p2 j)) fun j hj=>by rw[hp j hj]]
 eqs i hi c:=by
  have km:=B.km;rw[B.eqs i hi c,hl i hi c];congr 1;exact bf fun j hj=>by rw[hp j hj,hl j (by lia) c]
 unit i hi j hj:=by rw[hp j hj,hl i hi];exact B.unit i hi j hj
theorem eH.rows {x:Nat->Rat} (h:∀i,i < m->∀c,l2 i c=l i c) (hx:eH m l x):eH m l2 x:=by obtain ⟨w,hw⟩:=hx;exact ⟨w,fun c=>by rw[hw c];exact bf fun t ht=>by rw[h t ht c]⟩
theorem lO.congr (E:lO a m k P p l d) (hp:∀j,j < k->p2 j=p j) (hl:∀i,i < m->∀c,l2 i c=l i c):lO a m k P p2 l2 d where
 km:=E.km
 d0:=E.d0
 unit i hi j hj:=by rw[hp j hj,hl i hi];exact E.unit i hi j hj
 inc i j hij hj:=by rw[hp i (by lia),hp j hj];exact E.inc i j hij hj
 low j hj:=by rw[hp j hj];exact E.low j hj
 zero i h1 h2 c hc:=by rw[hl i h2];exact E.zero i h1 h2 c hc
 lead j hj c hc:=by
  have km:=E.km;rw[hp j hj] at hc;rw[hl j (by lia)];exact E.lead j hj c hc
 there i hi:=(E.there i hi).rows hl
 back i hi:=(E.back i hi).congr fun c=>(hl i hi c).symm
theorem lO.kP (E:lO a m k P p l d):k<=P:=by
 have:∀j,j < k->j<=p j:=by
  intro j
  induction j with
  | zero=>intro _;exact bA _
  | succ j ih =>
   intro hj;have:=ih (by lia);have:=E.inc j (j+1) (by lia) hj
   lia
 rcases fY k with z | z
 ·lia
 ·have h1:=this (k - 1) (by lia);have h2:=E.low (k - 1) (by lia)
  lia
end
structure C5 (ls0:List (List Int)) (n P:Nat) (ls:List (List Int)) (ps:List Nat) (d:Int):Prop where
 len:ls.length=ls0.length
 wide:∀zs∈ls,zs.length=n
 bar:∃pm,yM (d6 ls0) ls0.length ps.length pm (fun j=>ps.getD j 0) (d6 ls) d
 el:lO (d6 ls0) ls0.length ps.length P (fun j=>ps.getD j 0) (d6 ls) d
section
variable {ls0 ls:List (List Int)} {n P:Nat} {ps:List Nat} {d:Int}
theorem C5.start (w:∀zs∈ls0,zs.length=n):C5 ls0 n 0 ls0 [] 1:=⟨rfl,w,⟨fun i=>i,yM.start fun _ _=>rfl⟩,lO.start⟩
theorem C5.d0 (h:C5 ls0 n P ls ps d):d≠0:=fun z=>h.el.d0 (by rw[z];rfl)
theorem C5.skip (h:C5 ls0 n P ls ps d) (hz:∀i,ps.length<=i->i < ls.length->d6 ls i P=0):C5 ls0 n (P+1) ls ps d:=⟨h.len,h.wide,h.bar,h.el.skip fun i h1 h2=>hz i h1 (by rw[h.len];exact h2)⟩
theorem getD_snoc {l:List Nat} {x j:Nat} (hj:j < l.length+1):(l++[x]).getD j 0=if j=l.length then x else l.getD j 0:=by
 rw[aa,aa];by_cases e:j=l.length
 ·rw[if_pos e,e,aU (aw _),fe];rfl
 ·rw[if_neg e,bH (by lia)]
theorem C5.int {W:Nat} (h:C5 ls0 n P ls ps d) (hW:1<=W) (h0:∀i,i < ls0.length->∀c,Fr 1 W (d6 ls0 i c)) {t:Nat} (ht:ps.length<=t) (ht2:t < ls.length) (hne:d6 ls t P≠0) :
  ∀i,i < ls.length->i≠ps.length->∀c,∃z:Int,(d6 (sE ls ps.length t) ps.length P*d6 (sE ls ps.length t) i c - d6 (sE ls ps.length t) i P*d6 (sE ls ps.length t) ps.length c) / (d:Rat)=(z:Rat):=fun i hi ne c=>by
 obtain ⟨pm,B⟩:=h.bar;have hl:=h.len;have hk:ps.length < ls.length:=by lia
 have B1:=(B.swap ht (by lia)).congr (p2:=fun j=>ps.getD j 0) (l2:=d6 (sE ls ps.length t)) (fun _ _=>rfl) (fun i _ c=>ym hk ht2 i c)
 have h1:d6 (sE ls ps.length t) ps.length P≠0:=by
  rw[ym hk ht2];unfold kM;rw[if_pos rfl];exact hne
 have B2:=B1.step (c0:=P) (by lia) h1;have:=B2.fr (W:=W) (N:=ps.length+2) (by lia) hW h0 (i:=i) (c:=c) (by lia);rw[if_neg ne] at this;exact sT this
theorem C5.step {W:Nat} (h:C5 ls0 n P ls ps d) (hW:1<=W) (h0:∀i,i < ls0.length->∀c,Fr 1 W (d6 ls0 i c)) {t:Nat} (ht:ps.length<=t) (ht2:t < ls.length) (hne:d6 ls t P≠0) :
  C5 ls0 n (P+1) (Fi (sE ls ps.length t) ps.length P d) (ps++[P]) (((Fi (sE ls ps.length t) ps.length P d).getD ps.length []).getD P 0):=by
 obtain ⟨pm,B⟩:=h.bar;have hl:=h.len;have hk:ps.length < ls.length:=by lia
 have hz:=h.int hW h0 ht ht2 hne;have w1:=HE h.wide hk ht2;have k1:ps.length < (sE ls ps.length t).length:=by rw[yO];exact hk
 have B1:=(B.swap ht (by lia)).congr (p2:=fun j=>ps.getD j 0) (l2:=d6 (sE ls ps.length t)) (fun _ _=>rfl) (fun i _ c=>ym hk ht2 i c);have E1:=(h.el.swap ht (by lia)).congr (p2:=fun j=>ps.getD j 0) (l2:=d6 (sE ls ps.length t)) (fun _ _=>rfl) (fun i _ c=>ym hk ht2 i c)
 have h1:d6 (sE ls ps.length t) ps.length P≠0:=by
  rw[ym hk ht2];unfold kM;rw[if_pos rfl];exact hne
 have B2:=B1.step (c0:=P) (by lia) h1
 have fc:∀i,i < ls0.length->∀c,d6 (Fi (sE ls ps.length t) ps.length P d) i c=if i=ps.length then d6 (sE ls ps.length t) ps.length c else (d6 (sE ls ps.length t) ps.length P*d6 (sE ls ps.length t) i c - d6 (sE ls ps.length t) i P*d6 (sE ls ps.length t) ps.length c) / (d:Rat):=fun i hi c=>by
  by_cases e:i=ps.length
  ·rw[if_pos e];unfold d6 Fi;rw[uU (by rw[aj];exact k1),if_pos e]
  ·have:=LJ w1 k1 h.d0 (i:=i) (by rw[yO];lia) (hz i (by lia) e) c;rw[this]
 have ed:(((((Fi (sE ls ps.length t) ps.length P d).getD ps.length []).getD P 0:Int)):Rat)=d6 (sE ls ps.length t) ps.length P:=by
  have:=fc ps.length (by lia) P;rw[if_pos rfl] at this;exact this
 have lp:(ps++[P]).length=ps.length+1:=by rw[ak];rfl
 have hp:∀j,j < ps.length+1->(ps++[P]).getD j 0=if j=ps.length then P else ps.getD j 0:=fun j hj=>getD_snoc hj
 refine ⟨by rw[LZ,yO];exact hl,Iv w1 k1,⟨fun i=>pm (kM ps.length t i),?_⟩,?_⟩
 ·rw[ed,lp];exact B2.congr hp fc
 ·rw[ed,lp];refine lO.congr (E1.step (d':=d6 (sE ls ps.length t) ps.length P) (l':=fun i c=>if i=ps.length then d6 (sE ls ps.length t) ps.length c else (d6 (sE ls ps.length t) ps.length P*d6 (sE ls ps.length t) i c - d6 (sE ls ps.length t) i P*d6 (sE ls ps.length t) ps.length c) / (d:Rat)) (by lia) h1 B2.unit fun i hi=>?_) hp fc;have d0:=h.el.d0;by_cases e:i=ps.length
  ·refine ⟨1,0,by decide,fun _=>rfl,fun c=>?_⟩;rw[if_pos e,e];grind
  ·refine ⟨d6 (sE ls ps.length t) ps.length P / (d:Rat),-(d6 (sE ls ps.length t) i P) / (d:Rat),?_,fun z=>absurd z e,fun c=>?_⟩
   ·intro z;apply h1;grind
   ·rw[if_neg e];grind
theorem C5.sz {W r:Nat} (h:C5 ls0 n P ls ps d) (hW:1<=W) (h0:∀i,i < ls0.length->∀c,Fr 1 W (d6 ls0 i c)) (hP:P<=n) (hr:min ls0.length n<=r) (r15:r<=15):(d.natAbs<=(16*W)^r)/\∀zs∈ls,∀z∈zs,z.natAbs<=(16*W)^r:=by
 obtain ⟨pm,B⟩:=h.bar;have kP:=h.el.kP;have km:=B.km;have hl:=h.len;have mono:∀{s t:Nat},s<=t->(16*W)^s<=(16*W)^t:=fun hs=>av (cu (by decide) hW) hs
 refine ⟨ai (sS (B.dfr (W:=W) (N:=16) (by lia) h0)) (mono (by lia)),fun zs hz z hz'=>?_⟩;obtain ⟨i,hi,rfl⟩:=bQ hz;obtain ⟨c,hc,rfl⟩:=bQ hz';have hw:=h.wide _ (aQ hi)
 have ez:d6 ls i c=(((ls[i])[c]:Int):Rat):=by
  unfold d6;rw[aa (l:=ls),af hi];show ((ls[i].getD c 0:Int):Rat)=_
  rw[aa,af hc];rfl
 by_cases hk:i < ps.length
 ·have:Fr 1 ((16*W)^ps.length) (d6 ls i c):=by
   have hd:=B.d0;rw[B.old hk]
   have:=zF (W:=W) (N:=16) (rs:=kL pm ps.length) (vs:=Fg (fun j r=>d6 ls0 r (ps.getD j 0)) i ps.length++(fun r=>d6 ls0 r c) :: iB (fun j r=>d6 ls0 r (ps.getD j 0)) i) (by
    have:=congrArg List.length (cw_split (v:=fun j r=>d6 ls0 r (ps.getD j 0)) hk);rw[ak,aZ,cw_len] at this;rw[ak,aZ]
    lia) (by
    intro v hv r hr
    have hr':∀c,Fr 1 W (d6 ls0 r c):=fun c=>by
     obtain ⟨t,ht,rfl⟩:=lA hr;exact h0 _ (B.rng t (by lia)) c
    rcases au.mp hv with hv | hv
    ·obtain ⟨t,_,rfl⟩:=Bv hv;exact hr' _
    ·rcases aF.mp hv with rfl | hv
     ·exact hr' _
     ·obtain ⟨t,_,rfl⟩:=cw_in hv;exact hr' _)
   rwa [qW] at this
  rw[ez] at this;exact ai (sS this) (mono (by lia))
 ·by_cases hn:ps.length < n
  ·have:=B.fr (W:=W) (N:=16) (by lia) hW h0 (i:=i) (c:=c) (by lia);rw[ez] at this;exact ai (sS this) (mono (by lia))
  ·have:=h.el.zero i (by lia) (by lia) c (by lia);rw[ez] at this;rw[ng this];exact bA _
end
def Tp (M W:Nat) (q:Rat):Prop:=∃z:Int,q*(M:Rat)=(z:Rat)/\z.natAbs<=W
theorem Tp.of {M V W:Nat} {q:Rat} (h:Fr M V q) (hW:V*M<=W):Tp M W q:=by obtain ⟨z,a,b⟩:=h;exact ⟨z,a,ai b hW⟩
theorem Tp.mono {M W W':Nat} {q:Rat} (h:Tp M W q) (hW:W<=W'):Tp M W' q:=by obtain ⟨z,a,b⟩:=h;exact ⟨z,a,ai b hW⟩
theorem Tp.fr {M W:Nat} {q:Rat} (h:Tp M W q) (h0:0 < M):Fr M W q:=by obtain ⟨z,a,b⟩:=h;exact ⟨z,a,ai b (dC _ h0)⟩
def Fq (rows:List (List Rat)) (n w:Nat):Prop:=∃M W:Nat,0 < M/\M<=2^4300/\1<=W/\W<=2^w/\(∀xs∈rows,∀x∈xs,Tp M W x)/\w<=4300/\min rows.length n<=15/\min rows.length n*(w+4)<=8900
def gX (xs:List Rat):List Int:=fG (xs.map nm) (ik (xs.map nm))
theorem rE {xs:List Rat}:(gX xs).length=xs.length:=by unfold gX fG;rw[aj,aj]
theorem rS {xs:List Rat}:0 < ik (xs.map nm):=Bp (by decide) fun b hb=>by
 obtain ⟨n,hn,rfl⟩:=aB.mp hb;obtain ⟨x,_,rfl⟩:=aB.mp hn;exact ir x
theorem Mo {xs:List Rat} {c:Nat}:(((gX xs).getD c 0:Int):Rat)=xs.getD c 0*((ik (xs.map nm):Int):Rat):=by
 unfold gX fG;rw[aa,aa,aG,aG];cases e:xs[c]? with
 | none=>show ((0:Int):Rat)=0*_;rw[fK];rfl
 | some x=>exact uy (rT (aB.mpr ⟨x,ax e,rfl⟩))
section
variable {rows:List (List Rat)} {n w i c:Nat} {xs:List Rat}
theorem AE (hi:i < rows.length):d6 (rows.map gX) i c=((ik ((rows.getD i []).map nm):Int):Rat)*cn rows i c:=by
 unfold d6 cn
 have e:(rows.map gX).getD i []=gX (rows.getD i []):=by
  rw[aa,aa,aG,af hi];rfl
 rw[e,Mo,dI]
theorem xu (hw:∀xs∈rows,xs.length=n) (hc:n<=c):cn rows i c=0:=by
 unfold cn;by_cases h:i < rows.length
 ·have:=hw _ (getD_in (e:=[]) h);rw[aa (l:=rows.getD i []),aM (by lia)];rfl
 ·rw[aa (l:=rows),aM (by lia)];rfl
theorem Ag (i:Nat) (hi:i < rows.length):eH rows.length (d6 (rows.map gX)) (cn rows i):=by
 have h0:((ik ((rows.getD i []).map nm):Int):Rat)≠0:=fun z=>by
  have:=rS (xs:=rows.getD i []);have:=ng z
  lia
 refine eH.congr (fun c=>?_) (eH.lin (1 / ((ik ((rows.getD i []).map nm):Int):Rat)) 0 (eH.row (a:=d6 (rows.map gX)) hi) (eH.row (a:=d6 (rows.map gX)) hi));rw[AE hi];grind
theorem Af (i:Nat) (hi:i < rows.length):eH rows.length (cn rows) (d6 (rows.map gX) i):=by
 refine eH.congr (fun c=>?_) (eH.lin ((ik ((rows.getD i []).map nm):Int):Rat) 0 (eH.row (a:=cn rows) hi) (eH.row (a:=cn rows) hi));rw[AE hi];grind
theorem xi {M W:Nat} {x:Rat} (h:Tp M W x):(nm x).2∣(M:Int):=by
 obtain ⟨z,e,b⟩:=h
 exact Fr.den (V:=z.natAbs) (M:=M) ⟨z,e,by
  rcases fY M with h | h
  ·subst h;have:(z:Rat)=0:=by rw[<- e];simp
   rw[ng this];simp
  ·exact dC _ h⟩
theorem yN {M W:Nat} {x:Rat} (h:Tp M W x) (h0:0 < M) {B:Int} (hB:0 < B) (d1:(nm x).2∣B) (d2:B∣(M:Int)):∃t:Int,x*(B:Rat)=(t:Rat)/\t.natAbs<=W:=by
 obtain ⟨z,e,b⟩:=h;obtain ⟨s,es⟩:=d2;refine ⟨(nm x).1*(B / (nm x).2),(uy d1).symm,?_⟩
 have s0:0 < s:=by
  rcases Int.lt_trichotomy s 0 with h | h | h
  ·have:=xE hB h
   lia
  ·rw[h] at es;lia
  ·exact h
 have e2:(((nm x).1*(B / (nm x).2)*s:Int):Rat)=(z:Rat):=by
  rw[aN,uy d1,<- e,<- aD,es,aN];grind
 have e3:=dF.mp e2;have:((nm x).1*(B / (nm x).2)).natAbs*s.natAbs=z.natAbs:=by rw[<- cO,e3]
 have h1:1<=s.natAbs:=by lia
 have:=dC ((nm x).1*(B / (nm x).2)).natAbs h1
 lia
theorem As {M W:Nat} (h0:0 < M) (h:∀x∈xs,Tp M W x):ik (xs.map nm)∣(M:Int):=Al (by decide) (Int.one_dvd _) fun b hb=>by
 obtain ⟨n,hn,rfl⟩:=aB.mp hb;obtain ⟨x,hx,rfl⟩:=aB.mp hn;exact ⟨ir x,xi (h x hx)⟩
theorem Fq.rowM (F:Fq rows n w) (hx:xs∈rows):∃M,GX M (xs.map nm):=by
 obtain ⟨M,W,h0,h1,hW,h2,h3,h4,_⟩:=F;refine ⟨M,by lia,?_,fun y hy=>?_⟩
 ·show ((M:Nat):Int).natAbs < 2^4400
  rw[bN];exact bB h1 (dU (by decide) (by decide))
 ·obtain ⟨x,hx',rfl⟩:=aB.mp hy;have t:=h3 xs hx x hx';refine ⟨ir x,xi t,?_⟩;obtain ⟨s,e,b⟩:=yN t h0 (ir x) (IG _) (xi t);have e2:(((nm x).1:Int):Rat)=(s:Rat):=by rw[<- e];exact nk x
  rw[dF.mp e2];exact bB (ai b h2) (dU (by decide) (by lia))
theorem Fq.ent (F:Fq rows n w):∃W:Nat,1<=W/\W<=2^w/\∀i,i < (rows.map gX).length->∀c,Fr 1 W (d6 (rows.map gX) i c):=by
 obtain ⟨M,W,h0,h1,hW,h2,h3,h4,_⟩:=F;refine ⟨W,hW,h2,fun i hi c=>?_⟩;rw[aj] at hi;have hx:=getD_in (e:=[]) hi;rw[AE hi];unfold cn;generalize rows.getD i []=xs at hx ⊢;by_cases hc:c < xs.length
 ·have t:=h3 xs hx _ (getD_in (e:=0) hc);obtain ⟨s,e,b⟩:=yN t h0 (rS (xs:=xs)) (rT (aB.mpr ⟨_,getD_in (e:=0) hc,rfl⟩)) (As h0 (h3 xs hx));rw[dI,e];exact Fr.int b
 ·rw[aa,aM (by lia)];show Fr 1 W (_*0)
  rw[dQ];exact Fr.zero
end
def bZ (rows:List (List Rat)) (n:Nat) (R:List (List Rat)) (ps:List Nat):Prop:=R.length=ps.length/\(∀xs∈R,xs.length=n)/\C7 rows.length n (cn rows) ps.length (fun j=>ps.getD j 0) (cn R)
structure SM (rows:List (List Rat)) (n w:Nat) (R:List (List Rat)) (ps:List Nat) (d:Int) (ls:List (List Int)):Prop where
 rr:bZ rows n R ps
 d0:d≠0
 len:ls.length=ps.length
 wide:∀zs∈ls,zs.length=n
 val:∀i c,d6 ls i c=(d:Rat)*cn R i c
 dsz:d.natAbs<=2^(min rows.length n*(w+4))
 zsz:∀zs∈ls,∀z∈zs,z.natAbs<=2^(min rows.length n*(w+4))
 tp:∀xs∈R,∀x∈xs,Tp d.natAbs (2^(min rows.length n*(w+4))) x
 km:ps.length<=rows.length
theorem C7.congrR {m n k:Nat} {a R R2:Nat->Nat->Rat} {p:Nat->Nat} (h:C7 m n a k p R) (hr:∀i,i < k->∀c,R2 i c=R i c):C7 m n a k p R2 :=
 ⟨h.inc,h.low,fun i hi j hj=>by rw[hr i hi];exact h.unit i hi j hj,fun i hi c hc=>by rw[hr i hi];exact h.lead i hi c hc,fun i hi=>(h.span i hi).rows hr,fun i hi=>(h.back i hi).congr fun c=>(hr i hi c).symm⟩
theorem C7.other {m m' n k:Nat} {a a' R:Nat->Nat->Rat} {p:Nat->Nat} (h:C7 m n a k p R) (s1:∀i,i < m->eH m' a' (a i)) (s2:∀i,i < m'->eH m a (a' i)):C7 m' n a' k p R :=
 ⟨h.inc,h.low,h.unit,h.lead,fun i hi=>eH.trans h.span (s2 i hi),fun i hi=>eH.trans s1 (h.back i hi)⟩
theorem yZ {W w r : Nat} (h : W ≤ 2 ^ w) : (16 * W) ^ r ≤ 2 ^ (r * (w + 4)) := by
  calc (16 * W) ^ r ≤ (2 ^ (w + 4)) ^ r := jd (by rw [bD]; lia) _
    _ = 2 ^ (r * (w + 4)) := by rw [<- uu, bX]
theorem C5.done {rows:List (List Rat)} {n w:Nat} {ls:List (List Int)} {ps:List Nat} {d:Int} (h:C5 (rows.map gX) n n ls ps d) (hw:∀xs∈rows,xs.length=n) (F:Fq rows n w) :
  ∃R,SM rows n w R ps d (ls.take ps.length):=by
 obtain ⟨W,hW,W2,ent⟩:=F.ent;obtain ⟨_,_,_,_,_,_,_,_,r15,_⟩:=F;have hl:=h.len;have d0:=h.d0;have d0':(d:Rat)≠0:=fun z=>d0 (ng z)
 have km:=h.el.km;have hm:(rows.map gX).length=rows.length:=aj ..;obtain ⟨s1,s2⟩:=h.sz (r:=min rows.length n) hW ent (aw _) (by rw[hm];exact aw _) r15;have s2':∀zs∈ls,∀z∈zs,z.natAbs<=2^(min rows.length n*(w+4)):=fun zs hz z hz'=>ai (s2 zs hz z hz') (yZ W2)
 have er:∀i c,cn ((ls.take ps.length).map fun zs=>zs.map fun (z:Int)=>(z:Rat) / (d:Rat)) i c=d6 (ls.take ps.length) i c / (d:Rat):=fun i c=>by
  unfold cn d6;rw[aa (l:=List.map _ _),aG,aa (l:=List.take _ _)];cases e:(ls.take ps.length)[i]? with
  | none=>show (0:Rat)=((0:Int):Rat) / _;grind
  | some zs =>
   show (zs.map fun (z:Int)=>(z:Rat) / (d:Rat)).getD c 0=((zs.getD c 0:Int):Rat) / (d:Rat)
   rw[aa,aa,aG];cases e2:zs[c]? with
   | none=>show (0:Rat)=((0:Int):Rat) / _;grind
   | some z=>rfl
 have et:∀i,i < ps.length->∀c,d6 (ls.take ps.length) i c=d6 ls i c:=fun i hi c=>by
  unfold d6;rw[aa (l:=List.take _ _),nh hi,<- aa]
 have RR:=(h.el.done fun i hi c hc=>xv (n:=n) (fun zs hz=>by
  obtain ⟨xs,hx,rfl⟩:=aB.mp hz;rw[rE];exact hw xs hx) hc).congrR (R2:=cn ((ls.take ps.length).map fun zs=>zs.map fun (z:Int)=>(z:Rat) / (d:Rat))) fun i hi c=>by rw[er,et i hi]
 rw[hm] at RR;refine ⟨(ls.take ps.length).map fun zs=>zs.map fun (z:Int)=>(z:Rat) / (d:Rat),⟨by rw[aj,cM];lia,fun xs hx=>?_,RR.other Af Ag⟩,d0,by rw[cM];lia,fun zs hz=>h.wide zs (cv hz),fun i c=>?_,ai s1 (yZ W2),fun zs hz=>s2' zs (cv hz),fun xs hx x hx'=>?_,by lia⟩
 ·obtain ⟨zs,hz,rfl⟩:=aB.mp hx;rw[aj];exact h.wide zs (cv hz)
 ·rw[er];grind
 ·obtain ⟨zs,hz,rfl⟩:=aB.mp hx;obtain ⟨z,hz',rfl⟩:=aB.mp hx';have b:=s2' zs (cv hz) z hz';rcases uc d with e | e
  ·refine ⟨z,?_,b⟩;have:((d.natAbs:Nat):Rat)=(d:Rat):=by rw[<- aD,<- e]
   rw[this];grind
  ·refine ⟨-z,?_,by rw[kQ];exact b⟩;have:((d.natAbs:Nat):Rat)=-(d:Rat):=by rw[<- aD,<- cH];congr 1;lia
   rw[this,cH];grind
theorem LH {R R':List (List Rat)} {n:Nat} (hl:R.length=R'.length) (w1:∀xs∈R,xs.length=n) (w2:∀xs∈R',xs.length=n) (h:∀i,i < R.length->∀c,cn R i c=cn R' i c):R=R':=by
 apply eU hl;intro i h1 h2;apply eU (by rw[w1 _ (aQ h1),w2 _ (aQ h2)]);intro c h3 h4;have:=h i h1 c;unfold cn at this;rw[aa (l:=R),aa (l:=R'),af h1,af h2] at this;have this:(R[i]).getD c 0=(R'[i]).getD c 0:=this;rw[aa,aa,af h3,af h4] at this;exact this
theorem bZ.uniq {rows rows' R R':List (List Rat)} {n:Nat} {ps ps':List Nat} (h:bZ rows n R ps) (h':bZ rows' n R' ps') (s1:∀i,i < rows.length->eH rows'.length (cn rows') (cn rows i)) (s2:∀i,i < rows'.length->eH rows.length (cn rows) (cn rows' i)):R=R'/\ps=ps':=by
 obtain ⟨l1,w1,r1⟩:=h;obtain ⟨l2,w2,r2⟩:=h';obtain ⟨ek,ep,eR⟩:=r1.uniq r2 s1 s2;refine ⟨LH (by lia) w1 w2 fun i hi c=>eR i (by lia) c,?_⟩;apply eU ek;intro j h1 h2;have:=ep j h1;rw[aa,aa,af h1,af h2] at this;exact this
theorem bZ.same {rows R R':List (List Rat)} {n:Nat} {ps ps':List Nat} (h:bZ rows n R ps) (h':bZ rows n R' ps'):R=R'/\ps=ps':=h.uniq h' (fun _ hi=>eH.row hi) (fun _ hi=>eH.row hi)
open PySem PySem.Spec PyProof.Rows
def IB (l:Addr) (H:Hp) (zs:List Int) (v:V):Prop:=∃q,v=V.ref q/\q≠l/\H q=some (.lst (zs.map V.int))
def vh (l:Addr) (H:Hp) (p:Addr) (ls:List (List Int)):Prop:=p≠l/\∃xs,H p=some (.lst xs)/\Paired (IB l H) ls xs
theorem IB.same {l:Addr} {H H':Hp} {zs:List Int} {v:V} (h:IB l H zs v) (e:aJ H H'):IB l H' zs v:=by obtain ⟨q,a,n,b⟩:=h;exact ⟨q,a,n,e _ _ b⟩
theorem IB.upd {l:Addr} {H:Hp} {zs:List Int} {v:V} {o:HO} (h:IB l H zs v):IB l (upd H l o) zs v:=by obtain ⟨q,a,n,b⟩:=h;exact ⟨q,a,n,by rw[bJ n];exact b⟩
theorem vh.upd {l:Addr} {H:Hp} {p:Addr} {ls:List (List Int)} {o:HO} (h:vh l H p ls):vh l (upd H l o) p ls:=by obtain ⟨n,xs,a,b⟩:=h;exact ⟨n,xs,by rw[bJ n];exact a,Paired.imp' (fun _ _ z=>z.upd) b⟩
theorem ne_old {H:Hp} {l r:Addr} (h:H l≠none) (n:H r=none):r≠l:=fun z=>h (by rw[<- z];exact n)
theorem lB {α β:Type} {F:α->β->Prop}:∀{l1:List α} {l2:List β} (_:Paired F l1 l2) (i:Nat) {x:α} {y:β},F x y->Paired F (l1.set i x) (l2.set i y)
 | _,_,.nil,_,_,_,_=>.nil
 | _,_,.cons _ r,0,_,_,h=>.cons h r
 | _,_,.cons a r,i+1,_,_,h=>.cons a (lB r i h)
theorem Kb {ls:List (List Int)} {i c:Nat} {zs:List Int} (h:ls[i]?=some zs):d6 ls i c=((zs.getD c 0:Int):Rat):=by
 unfold d6;rw[aa (l:=ls),h];rfl
theorem So {z:Int}:((z:Int):Rat)≠0↔z≠0:=⟨fun h e=>h (by rw[e];rfl),fun h e=>h (ng e)⟩
theorem AD {zs:List Int} {c:Nat} (h:c < zs.length):GU (zs.map V.int) (c:Int)=some (V.int (zs.getD c 0)):=fJ (by rw[aG,aa,af h];rfl)
def Jg:Sp:=fun vs H Q _=>∃(l p:Addr) (ls:List (List Int)) (b c:Nat),vs=[.ref p,.int b,.int c]/\vh l H p ls/\ls.length<=1000/\b<=1000/\(∀zs∈ls,c < zs.length)/\(∀t:Nat,b<=t->t < ls.length->d6 ls t c≠0->Q (.int t) H)/\((∀t,b<=t->t < ls.length->d6 ls t c=0)->Q .non H)
def EG:Sp:=fun vs H Q _=>∃(l p:Addr) (ls:List (List Int)) (t k:Nat),vs=[.ref p,.int t,.int k]/\H l≠none/\vh l H p ls/\ls.length<=1000/\t < ls.length/\k < ls.length/\∀r H',H r=none->aJ H H'->vh l H' r (sE ls k t)->Q (.ref r) H'
def Jh:Sp:=fun vs H Q _=>∃(l p:Addr) (ls:List (List Int)) (k c n:Nat) (b:Int),vs=[.ref p,.int k,.int c,.int b]/\H l≠none/\vh l H p ls/\ls.length<=1000/\k < ls.length/\(∀zs∈ls,zs.length=n)/\n<=1000/\c < n/\b≠0/\Sz 8999 b/\(∀zs∈ls,∀z∈zs,Sz 8999 z)/\∀r H',H r=none->aJ H H'->vh l H' r (Fi ls k c b)->Q (.ref r) H'
theorem K2 (K:PySem.W.Frag) {X:Cx} {a b:Expr} {ta:TA} {p pos tpos:Pos} {elts:List Expr} {kk:Nat} (hg:Gl X "zip") (hm:X.mg "zip"=none) (ha:PA X [a,b] ta) (hK:X.K=K:=by rfl) (hs:starEach [a,b] X.env=[(false,eval a X.env),(false,eval b X.env)]:=by rfl) (hs2:starEach [b] X.env=[(false,eval b X.env)]:=by rfl) :
  PI X (.Tuple elts kk tpos) (.Call (.Name "zip" p) [a,b] [] pos) (P8 K ta):=by subst hK;exact vI hg hm ha hs hs2
def fP (ps:List Nat):List V:=ps.map fun (j:Nat)=>V.int (j:Int)
def IQ (K:PySem.W.Frag):Sp:=fun vs H Q _=>∃(p:Addr) (n w:Nat) (H0:Hp) (rows:List (List Rat)),vs=[.ref p,.int n]/\bL K H0 H p rows/\rows.length<=100/\n<=100/\(∀xs∈rows,xs.length=n)/\Fq rows n w /\
 ∀t lp qp R ps d ls H',H' t=some (.tup [.ref lp,.ref qp])->H' qp=some (.lst (fP ps))->vh qp H' lp ls->aJ H H'->SM rows n w R ps d ls->Q (.ref t) H'
def ED (K:PySem.W.Frag):Sp:=fun vs H Q _=>∃(p:Addr) (n w:Nat) (H0:Hp) (rows:List (List Rat)),vs=[.ref p,.int n]/\bL K H0 H p rows/\rows.length<=100/\n<=100/\(∀xs∈rows,xs.length=n)/\Fq rows n w /\
 ∀r R ps M H',H r=none->aJ H H'->bL K H H' r R->bZ rows n R ps->ps.length<=rows.length->0 < M->M<=2^(min rows.length n*(w+4))->(∀xs∈R,∀x∈xs,Tp M (2^(min rows.length n*(w+4))) x)->Q (.ref r) H'
def uZ (rows:List (List Rat)) (i:Nat):Rat:=((ik ((rows.getD i []).map nm):Int):Rat)
theorem Ar {rows:List (List Rat)} {i:Nat}:uZ rows i≠0:=fun z=>by
 have:=rS (xs:=rows.getD i []);have:=ng z
 lia
structure BH (rows:List (List Rat)) (n P:Nat) (rs:List (List Rat)) (ps:List Nat):Prop where
 len:rs.length=rows.length
 wide:∀xs∈rs,xs.length=n
 ex:∃pm l d,yM (d6 (rows.map gX)) rows.length ps.length pm (fun j=>ps.getD j 0) l d/\lO (d6 (rows.map gX)) rows.length ps.length P (fun j=>ps.getD j 0) l d/\∀i,i < rows.length->∀c,cn rs i c=l i c / (d*if i < ps.length then 1 else uZ rows (pm i))
section
variable {rows rs rs':List (List Rat)} {n P w a:Nat} {ps:List Nat}
theorem Li {d:Rat} {k i j:Nat} (h:d≠0):d*(if i < k then 1 else uZ rows j)≠0:=by
 have:=Ar (rows:=rows) (i:=j)
 split <;> grind
theorem BH.start (hw:∀xs∈rows,xs.length=n):BH rows n 0 rows []:=⟨rfl,hw,fun i=>i,d6 (rows.map gX),1,yM.start fun _ _=>rfl,lO.start,fun i hi c=>by
 rw[AE hi,if_neg (by show ¬i < 0;lia)];have:=Ar (rows:=rows) (i:=i);show cn rows i c=uZ rows i*cn rows i c / (1*uZ rows i)
 grind⟩
theorem BH.skip (h:BH rows n P rs ps) (hz:∀i,ps.length<=i->i < rs.length->cn rs i P=0):BH rows n (P+1) rs ps:=by
 obtain ⟨len,wide,pm,l,d,B,E,v⟩:=h;refine ⟨len,wide,pm,l,d,B,E.skip fun i h1 h2=>?_,v⟩;have:=v i h2 P;rw[hz i h1 (by lia)] at this;have ne:=Li (rows:=rows) (i:=i) (j:=pm i) (k:=ps.length) B.d0;generalize d*(if i < ps.length then 1 else uZ rows (pm i))=D at this ne;grind
theorem BH.km (h:BH rows n P rs ps):ps.length<=rows.length/\ps.length<=P:=by obtain ⟨_,_,_,_,_,_,E,_⟩:=h;exact ⟨E.km,E.kP⟩
theorem BH.step (h:BH rows n P rs ps) {t:Nat} (ht:ps.length<=t) (ht2:t < rs.length) (hne:cn rs t P≠0) (l':rs'.length=rows.length) (w':∀xs∈rs',xs.length=n)
  (hv:∀i,i < rows.length->∀c,cn rs' i c=if i=ps.length then 1 / cn rs t P*cn rs t c else cn rs (kM ps.length t i) c - cn rs (kM ps.length t i) P*(1 / cn rs t P*cn rs t c)):BH rows n (P+1) rs' (ps++[P]):=by
 obtain ⟨len,wide,pm,l,d,B,E,v⟩:=h;have hk:ps.length < rows.length:=by lia
 have B1:=B.swap ht (by lia);have E1:=E.swap ht (by lia);have d0:=B.d0
 have v1:∀i,i < rows.length->∀c,cn rs (kM ps.length t i) c=l (kM ps.length t i) c / (d*if i < ps.length then 1 else uZ rows (pm (kM ps.length t i))):=fun i hi c=>by
  rw[v _ (wB hk (by lia) hi) c];by_cases z:i < ps.length
  ·rw[xk ht z,if_pos z]
  ·rw[if_neg z,if_neg (by have:=xF ht (show ps.length<=i by lia);lia)]
 have sk:kM ps.length t ps.length=t:=by unfold kM;rw[if_pos rfl]
 have vt:∀c,cn rs t c=l (kM ps.length t ps.length) c / (d*uZ rows (pm (kM ps.length t ps.length))):=fun c=>by
  have:=v1 ps.length hk c;rw[if_neg (by lia),sk] at this;rw[sk];exact this
 have bt:=Ar (rows:=rows) (i:=pm (kM ps.length t ps.length));have h1:l (kM ps.length t ps.length) P≠0:=fun z=>hne (by rw[vt P,z];grind)
 have B2:=B1.step (c0:=P) hk h1;have lp:(ps++[P]).length=ps.length+1:=by rw[ak];rfl
 have hp:∀j,j < ps.length+1->(ps++[P]).getD j 0=if j=ps.length then P else ps.getD j 0:=fun j hj=>getD_snoc hj
 refine ⟨l',w',fun i=>pm (kM ps.length t i),_,_,by rw[lp];exact B2.congr (l2:=fun i c=>if i=ps.length then l (kM ps.length t ps.length) c else (l (kM ps.length t ps.length) P*l (kM ps.length t i) c - l (kM ps.length t i) P*l (kM ps.length t ps.length) c) / d) hp (fun _ _ _=>rfl),?_,fun i hi c=>?_⟩
 ·rw[lp];refine lO.congr (E1.step (d':=l (kM ps.length t ps.length) P) (l':=fun i c=>if i=ps.length then l (kM ps.length t ps.length) c else (l (kM ps.length t ps.length) P*l (kM ps.length t i) c - l (kM ps.length t i) P*l (kM ps.length t ps.length) c) / d) hk h1 B2.unit fun i hi=>?_) hp (fun _ _ _=>rfl);by_cases e:i=ps.length
  ·refine ⟨1,0,by decide,fun _=>rfl,fun c=>?_⟩;rw[if_pos e,e];grind
  ·refine ⟨l (kM ps.length t ps.length) P / d,-(l (kM ps.length t i) P) / d,?_,fun z=>absurd z e,fun c=>?_⟩
   ·intro z;apply h1;grind
   ·rw[if_neg e];grind
 ·rw[hv i hi c,lp,vt c,vt P];by_cases e:i=ps.length
  ·rw[if_pos e,if_pos e,if_pos (by lia)];grind
  ·rw[if_neg e,if_neg e,v1 i hi c,v1 i hi P];have ne:=Li (rows:=rows) (i:=i) (j:=pm (kM ps.length t i)) (k:=ps.length) d0;by_cases z:i < ps.length
   ·rw[if_pos z,if_pos (by lia)];grind
   ·have bi:=Ar (rows:=rows) (i:=pm (kM ps.length t i));rw[if_neg z,if_neg (by lia)];grind
theorem BH.done (h:BH rows n n rs ps) (hw:∀xs∈rows,xs.length=n):bZ rows n (rs.take ps.length) ps:=by
 obtain ⟨len,wide,pm,l,d,B,E,v⟩:=h;have km:=E.km;refine ⟨by rw[cM];lia,fun xs hx=>wide xs (cv hx),C7.other ((E.done fun i hi c hc=>?_).congrR fun i hi c=>?_) Af Ag⟩
 ·exact xv (n:=n) (fun zs hz=>by
   obtain ⟨xs,hx,rfl⟩:=aB.mp hz;rw[rE];exact hw xs hx) hc
 ·have e:cn (rs.take ps.length) i c=cn rs i c:=by
   unfold cn;rw[aa (l:=List.take _ _),nh hi,<- aa]
  rw[e,v i (by lia) c,if_pos hi,yJ]
def OG (rows:List (List Rat)) (n w a:Nat):Prop:=∃M W:Nat,0 < M/\M<=2^a/\1<=W/\W<=2^w/\(∀xs∈rows,∀x∈xs,Tp M W x)/\min rows.length n<=15/\2*(min rows.length n*(w+4)+a)<=3990
theorem OG.ent (F:OG rows n w a):∃W:Nat,1<=W/\W<=2^w/\∀i,i < rows.length->∀c,Fr 1 W (d6 (rows.map gX) i c):=by
 obtain ⟨M,W,h0,h1,hW,h2,h3,_⟩:=F;refine ⟨W,hW,h2,fun i hi c=>?_⟩;have hx:=getD_in (e:=[]) hi;rw[AE hi];unfold cn;generalize rows.getD i []=xs at hx ⊢;by_cases hc:c < xs.length
 ·have t:=h3 xs hx _ (getD_in (e:=0) hc);obtain ⟨s,e,b⟩:=yN t h0 (rS (xs:=xs)) (rT (aB.mpr ⟨_,getD_in (e:=0) hc,rfl⟩)) (As h0 (h3 xs hx));rw[dI,e];exact Fr.int b
 ·rw[aa,aM (by lia)];show Fr 1 W (_*0)
  rw[dQ];exact Fr.zero
theorem OG.bot (F:OG rows n w a) {i:Nat} (hi:i < rows.length):∃b:Nat,0 < b/\b<=2^a/\uZ rows i=(b:Rat):=by
 obtain ⟨M,W,h0,h1,hW,h2,h3,_⟩:=F;have hx:=getD_in (e:=[]) hi;have p:=rS (xs:=rows.getD i []);have dv:=As h0 (h3 _ hx);refine ⟨(ik ((rows.getD i []).map nm)).natAbs,by lia,ai (fU h0 ?_) h1,?_⟩
 ·have:=eN.mpr dv;rwa [bN] at this
 ·unfold uZ;rw[<- aD];congr 1
  lia
theorem OO {l D:Rat} {z y:Int} {W:Nat} (hl:l=(z:Rat)) (hD:D=(y:Rat)) (h0:D≠0) (hz:z.natAbs<=W):Tp y.natAbs W (l / D):=by
 rcases uc y with e | e
 ·refine ⟨z,?_,hz⟩;have:((y.natAbs:Nat):Rat)=D:=by rw[<- aD,<- e,hD]
  rw[this,hl];grind
 ·refine ⟨-z,?_,by rw[kQ];exact hz⟩;have:((y.natAbs:Nat):Rat)=-D:=by rw[<- aD,hD,<- cH];congr 1;lia
  rw[this,hl,cH];grind
theorem BH.sz (h:BH rows n P rs ps) (F:OG rows n w a) (hP:P<=n) {i:Nat} (hi:i < rows.length):∃D:Nat,0 < D/\D<=2^(min rows.length n*(w+4)+a)/\∀c,Tp D (2^(min rows.length n*(w+4))) (cn rs i c):=by
 obtain ⟨len,wide,pm,l,d,B,E,v⟩:=h;obtain ⟨W,hW,W2,ent⟩:=F.ent;obtain ⟨_,_,_,_,_,_,_,r15,_⟩:=id F;have kP:=E.kP;have km:=B.km;have mono:∀{s t:Nat},s<=t->(16*W)^s<=(16*W)^t:=fun hs=>av (cu (by decide) hW) hs
 obtain ⟨y,ey⟩:=sT (B.dfr (W:=W) (N:=16) (by lia) ent);have hy:=B.dfr (W:=W) (N:=16) (by lia) ent;rw[ey] at hy;have yb:y.natAbs<=2^(min rows.length n*(w+4)):=ai (sS hy) (ai (mono (show ps.length<=min rows.length n by lia)) (yZ W2));have y0:y≠0:=fun z=>B.d0 (by rw[ey,z];rfl)
 have lb:∀c,∃z:Int,l i c=(z:Rat)/\z.natAbs<=2^(min rows.length n*(w+4)):=fun c=>by
  by_cases hk:i < ps.length
  ·have f:Fr 1 ((16*W)^ps.length) (l i c):=by
    rw[B.old hk]
    have:=zF (W:=W) (N:=16) (rs:=kL pm ps.length) (vs:=Fg (fun j r=>d6 (rows.map gX) r (ps.getD j 0)) i ps.length++(fun r=>d6 (rows.map gX) r c) :: iB (fun j r=>d6 (rows.map gX) r (ps.getD j 0)) i) (by
     have:=congrArg List.length (cw_split (v:=fun j r=>d6 (rows.map gX) r (ps.getD j 0)) hk);rw[ak,aZ,cw_len] at this;rw[ak,aZ]
     lia) (by
     intro v hv r hr
     have hr':∀c,Fr 1 W (d6 (rows.map gX) r c):=fun c=>by
      obtain ⟨t,ht,rfl⟩:=lA hr;exact ent _ (B.rng t (by lia)) c
     rcases au.mp hv with hv | hv
     ·obtain ⟨t,_,rfl⟩:=Bv hv;exact hr' _
     ·rcases aF.mp hv with rfl | hv
      ·exact hr' _
      ·obtain ⟨t,_,rfl⟩:=cw_in hv;exact hr' _)
    rwa [qW] at this
   obtain ⟨z,ez⟩:=sT f;rw[ez] at f;exact ⟨z,ez,ai (sS f) (ai (mono (by lia)) (yZ W2))⟩
  ·by_cases hn:ps.length < n
   ·have f:=B.fr (W:=W) (N:=16) (by lia) hW ent (i:=i) (c:=c) hi;obtain ⟨z,ez⟩:=sT f;rw[ez] at f;exact ⟨z,ez,ai (sS f) (ai (mono (by lia)) (yZ W2))⟩
   ·refine ⟨0,?_,bA _⟩;by_cases hc:c < n
    ·rw[E.zero i (by lia) hi c (by lia)];rfl
    ·have:=v i hi c;rw[xu wide (by lia)] at this;have ne:=Li (rows:=rows) (i:=i) (j:=pm i) (k:=ps.length) B.d0;generalize d*(if i < ps.length then 1 else uZ rows (pm i))=D at this ne;show l i c=0
     grind
 obtain ⟨b,b0,b1,eb⟩:∃b:Nat,0 < b/\b<=2^a/\(if i < ps.length then 1 else uZ rows (pm i))=(b:Rat):=by
  by_cases hk:i < ps.length
  ·exact ⟨1,by decide,ck,by rw[if_pos hk];rfl⟩
  ·obtain ⟨b,x1,x2,x3⟩:=F.bot (B.rng i hi);exact ⟨b,x1,x2,by rw[if_neg hk,x3]⟩
 have eD:d*(b:Rat)=((y*b:Int):Rat):=by rw[aN,ey,aD]
 refine ⟨(y*b).natAbs,?_,?_,fun c=>?_⟩
 ·rw[cO,bN];exact cu (by lia) b0
 ·rw[cO,bN,bD];exact aL yb b1
 ·obtain ⟨z,ez,bz⟩:=lb c;rw[v i hi c,eb];refine OO ez eD (fun q=>?_) bz;rw[eD] at q;have:=ng q;rcases Int.mul_eq_zero.mp this with q | q
  ·exact y0 q
  ·lia
end
theorem AH {M W:Nat} {x:Rat} (h:Tp M W x) (h0:0 < M) (h1:M<=2^3995) (h2:W<=2^3995):ot x:=by
 refine ⟨?_,?_⟩
 ·obtain ⟨s,e,b⟩:=yN h h0 (ir x) (IG _) (xi h);have e2:(((nm x).1:Int):Rat)=(s:Rat):=by rw[<- e];exact nk x
  rw[dF.mp e2];exact bB (ai b h2) (dU (by decide) (by decide))
 ·have:=fU h0 (ph.mp (xi h));show ((x.den:Nat):Int).natAbs < _
  rw[bN];exact bB (ai this h1) (dU (by decide) (by decide))
theorem Tp.mul {M W M' W':Nat} {x y:Rat} (h:Tp M W x) (h':Tp M' W' y):Tp (M*M') (W*W') (x*y):=by
 obtain ⟨z,e,b⟩:=h;obtain ⟨z',e',b'⟩:=h';refine ⟨z*z',?_,by rw[cO];exact aL b b'⟩;rw[aN,<- e,<- e',eB];grind
theorem Mr {x:Rat} (h:ot x) (h0:x≠0):ot (1 / x):=by
 have n0:x.num≠0:=fun z=>h0 (Rat.num_eq_zero.mp z)
 have e:=nk x;have e1:(1 / x)*(x.num:Rat)=(x.den:Rat):=by rw[e];grind
 have t:Tp x.num.natAbs x.den (1 / x):=by
  rcases uc x.num with q | q
  ·refine ⟨x.den,?_,by simp⟩;have:((x.num.natAbs:Nat):Rat)=(x.num:Rat):=by rw[<- aD,<- q]
   rw[this,e1,aD]
  ·refine ⟨-(x.den:Int),?_,by simp⟩;have:((x.num.natAbs:Nat):Rat)=-(x.num:Rat):=by rw[<- aD,<- cH];congr 1;lia
   rw[this,cH,aD,<- e1];grind
 obtain ⟨h1,h2⟩:=h;have h1:x.num.natAbs < 2^4000:=h1;have h2:((x.den:Nat):Int).natAbs < 2^4000:=h2;rw[bN] at h2;refine ⟨?_,?_⟩
 ·obtain ⟨s,e,b⟩:=yN t (by lia) (ir (1 / x)) (IG _) (xi t);have e2:(((nm (1 / x)).1:Int):Rat)=(s:Rat):=by rw[<- e];exact nk (1 / x)
  rw[dF.mp e2];exact bB b h2
 ·have:=fU (show 0 < x.num.natAbs by lia) (ph.mp (xi t));show (((1 / x).den:Nat):Int).natAbs < _
  rw[bN];exact bB this h1
def EE (K:PySem.W.Frag):Sp:=fun vs H Q _=>∃(u v:V) (x y:Rat),vs=[u,v]/\cx K H x u/\cx K H y v/\ot x/\ot y/\y≠0/\∀r H',aJ H H'->cx K H' (x / y) (.ref r)->Q (.ref r) H'
theorem EU {K:PySem.W.Frag} {vs:List V} {H:Hp} {Q:VK} {E:XK} (h:EE K vs H Q E):Mx K vs H Q E:=by
 obtain ⟨u,v,x,y,rfl,⟨p,rfl,hp⟩,⟨q,rfl,hq⟩,⟨s1,s2⟩,⟨s3,s4⟩,y0,k⟩:=h;have n0:(nm y).1≠0:=fun z=>y0 (Rat.num_eq_zero.mp z)
 have px:=ir x;have py:=ir y;have e1:=sO x;have e2:=sO y;have dx:(((nm x).2:Int):Rat)≠0:=fun z=>by have:=ng z;lia
 have dy:(((nm y).2:Int):Rat)≠0:=fun z=>by have:=ng z;lia
 refine ⟨p,q,_,_,_,_,rfl,hp,hq,px,py,n0,s1,s2,s3,s4,fun r H' s g=>k r H' s (cx.mk g ?_)⟩;by_cases hc:(nm y).1 < 0
 ·rw[if_pos hc,if_pos hc];refine nD (by have:=xE px hc;lia) ?_;rw[BM,BM,aN,aN,e1,e2];show x / y*(((0:Int):Rat) - _)=((0:Int):Rat) - _
  grind
 ·rw[if_neg hc,if_neg hc];refine nD (js px (by lia)) ?_;rw[aN,aN,e1,e2];grind
def Co (K:PySem.W.Frag):Sp:=fun vs H Q _=>∃(p q:Addr) (xs ys:List Rat),vs=[.ref p,.ref q]/\cQ K H p xs/\cQ K H q ys/\ys.length=xs.length/\xs.length<=1000/\(∀x∈xs,ot x)/\(∀y∈ys,ot y) /\
 ∀r H',H r=none->aJ H H'->cQ K H' r (List.zipWith (fun x y=>x - y) xs ys)->Q (.ref r) H'
theorem P9 {xs ys:List Rat} {c:Nat} (h:xs.length=ys.length):(List.zipWith (fun x y=>x - y) xs ys).getD c 0=xs.getD c 0 - ys.getD c 0:=by
 rw[aa,aa,aa,b6];by_cases hc:c < xs.length
 ·rw[af hc,af (show c < ys.length by lia)];rfl
 ·rw[aM (by lia),aM (by lia)];show (0:Rat)=0 - 0
  grind
theorem LC {xs:List Rat} {c:Nat} {q:Rat}:(xs.map fun y=>q*y).getD c 0=q*xs.getD c 0:=by
 rw[aa,aa,aG];cases xs[c]? with
 | none=>show (0:Rat)=q*0;grind
 | some x=>rfl
theorem FD {xs ys:List Rat} (h:ys.length=xs.length):List.zipWith (fun x y=>x - y) xs ys=(List.range xs.length).map fun i=>xs.getD i 0 - ys.getD i 0:=by
 apply ig;intro i;rw[b6,aG];by_cases hi:i < xs.length
 ·rw[df hi,af hi,af (show i < ys.length by lia)];simp [aa,af hi,af (show i < ys.length by lia)]
 ·rw[aM (show (List.range xs.length).length<=i by simp;lia),aM (show xs.length<=i by lia)];rfl
theorem ze {K:PySem.W.Frag} {H0 H H':Hp} {q:Addr} {rows:List (List Rat)} {vs:List V} (pr:Paired (dn K H0 H) rows vs) (s:aJ H H') (n:H q=none) (g:H' q=some (.lst vs)):bL K H0 H' q rows :=
 ⟨vs,g,Paired.imp' (fun _ _ z=>z.same s) pr,fun z=>by
  obtain ⟨_,_,q',e,_,_,g',_⟩:=dk pr z;cases e;rw[n] at g';cases g'⟩
theorem Mq:ot 1:=AH (M:=1) (W:=1) ⟨1,by simp,by decide⟩ (by decide) ck ck
theorem bZ.le {rows R:List (List Rat)} {n:Nat} {ps:List Nat} (h:bZ rows n R ps):ps.length<=n:=by
 obtain ⟨_,_,rr⟩:=h;rcases cP n ps.length with z | z
 ·have inc:∀j,j < ps.length->j<=ps.getD j 0:=by
   intro j
   induction j with
   | zero=>intro _;exact bA _
   | succ j ih =>
    intro hj;have:=ih (by lia);have:=rr.inc j (j+1) (by lia) hj
    lia
  have h1:=inc (ps.length - 1) (by lia);have h2:=rr.low (ps.length - 1) (by lia)
  lia
 ·exact z
theorem Tp.zero {M W:Nat}:Tp M W 0:=⟨0,by simp,by simp⟩
theorem Tp.add {M W W':Nat} {x y:Rat} (h:Tp M W x) (h':Tp M W' y):Tp M (W+W') (x+y):=by
 obtain ⟨z,e,b⟩:=h;obtain ⟨z',e',b'⟩:=h';refine ⟨z+z',?_,ai (Int.natAbs_add_le _ _) (Nat.add_le_add b b')⟩;rw[BN,<- e,<- e'];grind
theorem Tp.sum {M W:Nat} {f:Nat->Rat}:∀{k:Nat},(∀j,j < k->Tp M W (f j))->Tp M (k*W) (bY k f)
 | 0,_=>Tp.zero
 | k+1,h=>by
  have:=(Tp.sum (k:=k) fun j hj=>h j (by lia)).add (h k (by lia));exact this.mono (by rw[dR];exact aw _)
theorem lQ {M W:Nat} {xs:List Rat} (h:∀x∈xs,Tp M W x) (c:Nat):Tp M W (xs.getD c 0):=by
 by_cases hc:c < xs.length
 ·exact h _ (getD_in hc)
 ·rw[aa,aM (by lia)];exact Tp.zero
theorem QF {M W:Nat} {R:List (List Rat)} (h:∀xs∈R,∀x∈xs,Tp M W x) (i c:Nat):Tp M W (cn R i c):=by
 unfold cn;by_cases hi:i < R.length
 ·exact lQ (h _ (getD_in hi)) c
 ·rw[aa (l:=R),aM (by lia)];exact Tp.zero
theorem A0 {α β:Type} {F:α->β->Prop}:∀{l1:List α} {l2:List β},Paired F l1 l2->Paired F l1.reverse l2.reverse
 | _,_,.nil=>.nil
 | _,_,.cons a r=>by rw[yL,yL];exact bT (A0 r) (.cons a .nil)
theorem Lv {j:Nat} {ps:List Nat}:Sf (.int (j:Int)) (fP ps)=decide (j∈ps):=by
 unfold Sf fP;rw[List.any_map,oA,List.any_eq_true,decide_eq_true_iff];constructor
 ·rintro ⟨x,hx,e⟩;have e:((x:Int) == (j:Int))=true:=e;have:(x:Int)=j:=by simpa using e
  have:x=j:=by lia
  rw[<- this];exact hx
 ·intro h;exact ⟨j,h,by show ((j:Int) == (j:Int))=true;simp⟩
theorem JD {ps:List Nat}:(fP ps).all yn=true:=by
 unfold fP;rw[List.all_map];exact sC.mpr fun _ _=>rfl
theorem K8 {ps:List Nat}:(fP ps).length=ps.length:=aj ..
def Br (ps:List Nat):List Int:=ps.map fun (j:Nat)=>(j:Int)
theorem JC {ps:List Nat}:fP ps=(Br ps).map V.int:=by unfold fP Br;rw[qV];rfl
theorem paired_ints {K:PySem.W.Frag} {H:Hp}:∀{zs:List Int},Paired (fun a x=>NG.R K H x a) zs (zs.map V.int)
 | []=>.nil
 | z :: zs=>.cons rfl paired_ints
theorem CC {K:PySem.W.Frag} {H:Hp} {p:Addr} {ps:List Nat} (h:H p=some (.lst (fP ps))):(NF NG).R K H (.ref p) (Br ps):=⟨p,fP ps,rfl,bU.of h,by rw[JC];exact paired_ints⟩
theorem ND {ps:List Nat} {i:Nat} {v:V} (h:(fP ps)[i]?=some v):∃j,ps[i]?=some j/\v=V.int (j:Int):=by
 unfold fP at h;rw[aG] at h;cases e:ps[i]? with
 | none=>rw[e] at h;cases h
 | some x=>rw[e] at h;exact ⟨x,rfl,(cp h).symm⟩
def NC (xs:List Rat) (i:Nat):List Nat:=(List.range i).filter fun c=>decide (xs.getD c 0≠0)
theorem HU {xs:List Rat} {i:Nat}:NC xs (i+1)=if xs.getD i 0≠0 then NC xs i++[i] else NC xs i:=by
 unfold NC;rw[uw,List.filter_append];by_cases h:xs.getD i 0≠0
 ·rw[if_pos h,List.filter_cons_of_pos (by simpa using h)];rfl
 ·rw[if_neg h,List.filter_cons_of_neg (by simpa using h)];simp
section
variable {R rows:List (List Rat)} {ps:List Nat} {n a j:Nat}
theorem ft:∀{xs ys:List Rat},xs.length=ys.length->eG xs ys=bY xs.length fun c=>xs.getD c 0*ys.getD c 0:=by
 intro xs ys h
 have key:∀k,k<=xs.length->eG (xs.take k) (ys.take k)=bY k fun c=>xs.getD c 0*ys.getD c 0:=by
  intro k
  induction k with
  | zero=>intro _;rfl
  | succ k ih =>
   intro hk;rw[CN (by lia) (by lia),ih (by lia)];rfl
 have:=key xs.length (aw _);rwa [aH (aw _),aH (by lia)] at this
end
theorem Im {q:Rat} (h:q.den<=9):q.den∣2520:=by
 have:=q.den_pos;generalize q.den=d at h this;have:d=1\/d=2\/d=3\/d=4\/d=5\/d=6\/d=7\/d=8\/d=9:=by lia
 rcases this with rfl | rfl | rfl | rfl | rfl | rfl | rfl | rfl | rfl <;> decide
theorem Qg {q:Rat} {M:Nat} (h:Dr 9 q) (hM:2520∣M):Fr M 9 q:=(Fr.own q h.1).dvd (Fw (Im h.2) hM)
def dq (rows:List (List Rat)) (due:List Rat):List (List Rat):=List.zipWith (fun row d=>row++[d]) rows due
def xI (R:List (List Rat)) (ps:List Nat) (n j:Nat):List Rat:=(List.range n).map fun c=>bY j fun i=>if ps.getD i 0=c then cn R i n else 0
def ij (R:List (List Rat)) (ps:List Nat) (n:Nat):List Rat:=xI R ps n ps.length
section
variable {rows R:List (List Rat)} {due xs:List Rat} {ps:List Nat} {n j:Nat}
theorem rj (h:due.length=rows.length):(dq rows due).length=rows.length:=by unfold dq;rw[cz];lia
theorem yk (h:∀xs∈rows,xs.length=n):∀xs∈dq rows due,xs.length=n+1:=fun xs hx=>by
 unfold dq at hx;obtain ⟨i,hi,rfl⟩:=bQ hx;rw[uv,ak,h _ (aQ _)];rfl
theorem Ov {i:Nat} {row:List Rat} {d:Rat} (h1:rows[i]?=some row) (h2:due[i]?=some d):(dq rows due)[i]?=some (row++[d]):=by
 unfold dq;rw[b6,h1,h2]
theorem zE (hd:due.length=rows.length) (hw:∀xs∈rows,xs.length=n) {i:Nat} (hi:i < rows.length):(∀c,c < n->cn (dq rows due) i c=cn rows i c)/\cn (dq rows due) i n=due.getD i 0:=by
 have e1:=af hi;have e2:=af (show i < due.length by lia);have ej:=Ov e1 e2;have wi:=hw _ (aQ hi);refine ⟨fun c hc=>?_,?_⟩
 ·unfold cn;rw[aa (l:=dq rows due),ej,aa (l:=rows),e1];show (rows[i]++[due[i]]).getD c 0=(rows[i]).getD c 0
  rw[aa,aa,bH (by lia)]
 ·unfold cn;rw[aa (l:=dq rows due),ej,aa (l:=due),e2];show (rows[i]++[due[i]]).getD n 0=due[i]
  rw[aa,aU (by lia),wi,fe];rfl
theorem kS:(xI R ps n j).length=n:=by unfold xI;rw[aj,b8]
theorem Ky {c:Nat} (h:c < n):(xI R ps n j).getD c 0=bY j fun i=>if ps.getD i 0=c then cn R i n else 0:=by
 unfold xI;rw[aa,aG,df h];rfl
theorem ME:xI R ps n 0=List.replicate n 0:=by
 unfold xI;show (List.range n).map (fun _=>(0:Rat))=_
 rw[BO,b8]
theorem MF {J:List (List Rat)} (RR:bZ J (n+1) R ps) (hj:j < ps.length):(xI R ps n j).set (ps.getD j 0) (cn R j n)=xI R ps n (j+1):=by
 obtain ⟨_,_,rr⟩:=RR;apply eU (by rw[eE,kS,kS]);intro c h1 h2;rw[kS] at h2;have e1:(xI R ps n j)[c]'(by rw[kS];exact h2)=bY j fun i=>if ps.getD i 0=c then cn R i n else 0:=by simp only[xI,zY,List.getElem_range]
 have e2:(xI R ps n (j+1))[c]'(by rw[kS];exact h2)=bY j (fun i=>if ps.getD i 0=c then cn R i n else 0)+if ps.getD j 0=c then cn R j n else 0:=by simp only[xI,zY,List.getElem_range];rfl
 rw[List.getElem_set,e2];by_cases q:ps.getD j 0=c
 ·rw[if_pos q,if_pos q,dH fun i hi=>?_,Rat.zero_add];rw[if_neg];intro z;have:=rr.inc i j hi hj
  lia
 ·rw[if_neg q,if_neg q,e1,qR]
theorem MG {c:Nat} (hp:c∉ps):(ij R ps n).getD c 0=0:=by
 by_cases hc:c < n
 ·unfold ij;rw[Ky hc,dH fun i hi=>?_];rw[if_neg (fun z=>hp (by rw[<- z];exact getD_in hi))]
 ·rw[aa,aM (by unfold ij;rw[kS];lia)];rfl
theorem FQ (hd:due.length=rows.length) (hw:∀xs∈rows,xs.length=n) (RR:bZ (dq rows due) (n+1) R ps) (hn:n∉ps) {i:Nat} {row:List Rat} (hr:rows[i]?=some row):eG row (ij R ps n)=due.getD i 0:=by
 obtain ⟨_,_,rr⟩:=RR;have hi:=(aI.mp hr).1;have wr:=hw row (ax hr);have ef:∀c,cn rows i c=row.getD c 0:=fun c=>by unfold cn;rw[aa (l:=rows),hr];rfl
 obtain ⟨f1,f2⟩:=zE hd hw hi
 have low:∀j,j < ps.length->ps.getD j 0 < n:=fun j hj=>by
  have:=rr.low j hj;have:ps.getD j 0≠n:=fun z=>hn (by rw[<- z];exact getD_in hj)
  lia
 have co:=rr.coef (rr.span i (by rw[rj hd];exact hi)) n;rw[f2] at co;rw[co,ft (by unfold ij;rw[kS,wr]),wr]
 have e1:bY n (fun c=>row.getD c 0*(ij R ps n).getD c 0)=bY n (fun c=>bY ps.length fun j=>if ps.getD j 0=c then row.getD (ps.getD j 0) 0*cn R j n else 0):=by
  refine bf fun c hc=>?_
  unfold ij;rw[Ky hc,<- dA];refine bf fun j _=>?_
  split
  ·rename_i q;rw[q]
  ·grind
 rw[e1,<- jH];refine bf fun j hj=>?_
 rw[gG (i:=ps.getD j 0) (low j hj) fun c _ ne=>if_neg fun z=>ne z.symm,if_pos rfl,f1 _ (low j hj),ef]
theorem EH (hd:due.length=rows.length) (hw:∀xs∈rows,xs.length=n) (RR:bZ (dq rows due) (n+1) R ps) (hn:n∈ps):∃w:Nat->Rat,(∀c,c < n->bY rows.length (fun i=>w i*cn rows i c)=0)/\bY rows.length (fun i=>w i*due.getD i 0)=1:=by
 obtain ⟨_,_,rr⟩:=RR;obtain ⟨j,hj,ej⟩:=bQ hn;have ejD:ps.getD j 0=n:=by rw[aa,af hj];exact ej
 obtain ⟨w,hw'⟩:=rr.back j hj;rw[rj hd] at hw';refine ⟨w,fun c hc=>?_,?_⟩
 ·have z:=rr.lead j hj c (by rw[ejD];exact hc);rw[hw' c] at z;rw[<- z];exact bf fun i hi=>by rw[(zE hd hw hi).1 c hc]
 ·have u:=rr.unit j hj j hj;rw[if_pos rfl,ejD,hw' n] at u;rw[<- u];exact bf fun i hi=>by rw[(zE hd hw hi).2]
theorem O1 (hd:due.length=rows.length) (hw:∀xs∈rows,xs.length=n) (RR:bZ (dq rows due) (n+1) R ps) {x:Nat->Rat} (hx:∀i,i < rows.length->bY n (fun c=>cn rows i c*x c)=due.getD i 0):n∉ps:=fun hn=>by
 obtain ⟨w,h1,h2⟩:=EH hd hw RR hn
 have e1:bY rows.length (fun i=>w i*due.getD i 0)=bY rows.length (fun i=>bY n fun c=>x c*(w i*cn rows i c)):=bf fun i hi=>by
  rw[<- hx i hi,<- dA];exact bf fun c _=>by grind
 have e2:bY n (fun c=>bY rows.length fun i=>x c*(w i*cn rows i c))=0:=dH fun c hc=>by
  rw[dA,h1 c hc];grind
 rw[e1,jH,e2] at h2;exact absurd h2 (by decide)
theorem QX {M W:Nat} (h0:0 < M) (tp:∀xs∈R,∀x∈xs,Tp M W x) {J:List (List Rat)} (RR:bZ J (n+1) R ps):∀x∈ij R ps n,Tp M W x:=fun x hx=>by
 obtain ⟨_,_,rr⟩:=RR;obtain ⟨c,hc,rfl⟩:=aB.mp hx;by_cases hp:∃j,j < ps.length/\ps.getD j 0=c
 ·obtain ⟨j,hj,e⟩:=hp;rw[gG hj fun i hi ne=>if_neg fun z=>?_,if_pos e]
  ·exact QF tp j n
  ·rcases qS i j with q | q | q
   ·have:=rr.inc i j q hj;lia
   ·exact ne q
   ·have:=rr.inc j i q hi;lia
 ·rw[dH fun j hj=>if_neg fun z=>hp ⟨j,hj,z⟩];exact Tp.zero
end
def FJ (K:PySem.W.Frag):Sp:=fun vs H Q _=>∃(p q:Addr) (n w:Nat) (H0:Hp) (rows:List (List Rat)) (due:List Rat),vs=[.ref p,.int n,.ref q]/\bL K H0 H p rows/\cQ K H q due/\due.length=rows.length/\rows.length<=99/\n<=99/\(∀xs∈rows,xs.length=n)/\Fq (dq rows due) (n+1) w /\
 (∀x R ps M H',bZ (dq rows due) (n+1) R ps->n∉ps->H x=none->aJ H H'->cQ K H' x (ij R ps n)->0 < M->M<=2^(min rows.length (n+1)*(w+4))->(∀y∈ij R ps n,Tp M (2^(min rows.length (n+1)*(w+4))) y)->Q (.ref x) H') /\
 (∀R ps H',bZ (dq rows due) (n+1) R ps->n∈ps->aJ H H'->Q .non H')
def Kj (rows:List (List Rat)) (n:Nat) (due:List Rat):List (List Rat):=dq (di rows n++[due]) (List.replicate n 0++[1])
def IT (K:PySem.W.Frag):Sp:=fun vs H Q _=>∃(p q:Addr) (n w w':Nat) (H0:Hp) (rows:List (List Rat)) (due:List Rat),vs=[.ref p,.int n,.ref q]/\bL K H0 H p rows/\cQ K H q due/\due.length=rows.length/\rows.length<=90/\n<=90/\(∀xs∈rows,xs.length=n)/\Fq (dq rows due) (n+1) w/\Fq (Kj rows n due) (rows.length+1) w' /\
 (∀t x R ps M H',bZ (dq rows due) (n+1) R ps->n∉ps->H' t=some (.tup [.str (Str.ofString "yes"),.ref x])->H x=none->aJ H H'->cQ K H' x (ij R ps n)->0 < M->M<=2^(min rows.length (n+1)*(w+4))->(∀y∈ij R ps n,Tp M (2^(min rows.length (n+1)*(w+4))) y)->Q (.ref t) H') /\
 (∀t x R ps R' ps' M H',bZ (dq rows due) (n+1) R ps->n∈ps->bZ (Kj rows n due) (rows.length+1) R' ps'->rows.length∉ps'->H' t=some (.tup [.str (Str.ofString "no"),.ref x])->H x=none->aJ H H'->cQ K H' x (ij R' ps' rows.length)->0 < M->M<=2^(min (n+1) (rows.length+1)*(w'+4))->(∀y∈ij R' ps' rows.length,Tp M (2^(min (n+1) (rows.length+1)*(w'+4))) y)->Q (.ref t) H')
theorem Js {rows R R':List (List Rat)} {due:List Rat} {ps ps':List Nat} {n:Nat} (hd:due.length=rows.length) (hw:∀xs∈rows,xs.length=n) (RR:bZ (dq rows due) (n+1) R ps) (hn:n∈ps) (RR':bZ (Kj rows n due) (rows.length+1) R' ps'):rows.length∉ps':=by
 obtain ⟨w,h1,h2⟩:=EH hd hw RR hn;have l1:(di rows n++[due]).length=n+1:=by rw[ak,dw];rfl
 have w1:∀xs∈di rows n++[due],xs.length=rows.length:=fun xs hx=>by
  rcases au.mp hx with hx | hx
  ·exact kR xs hx
  ·rw[bF.mp hx];exact hd
 refine O1 (x:=w) (by rw[l1,ak,aE];rfl) w1 RR' fun i hi=>?_
 rw[l1] at hi;by_cases e:i < n
 ·have e1:∀c,cn (di rows n++[due]) i c=cn rows c i:=fun c=>by
   unfold cn;rw[aa (l:=di rows n++[due]),bH (by rw[dw];exact e)];unfold di;rw[aG,df e];show (rows.map fun xs=>xs.getD i 0).getD c 0=_
   rw[aa,aG,aa (l:=rows)];cases rows[c]? with
   | none=>rfl
   | some y=>rfl
  have e2:(List.replicate n (0:Rat)++[1]).getD i 0=0:=by
   rw[aa,bH (by rw[aE];exact e),dj,if_pos e];rfl
  rw[e2,<- h1 i e];exact bf fun c _=>by rw[e1];grind
 ·have ei:i=n:=by lia
  subst ei
  have e1:∀c,cn (di rows i++[due]) i c=due.getD c 0:=fun c=>by
   unfold cn;rw[aa (l:=di rows i++[due]),aU (by rw[dw];exact aw _),dw,fe];rfl
  have e2:(List.replicate i (0:Rat)++[1]).getD i 0=1:=by
   rw[aa,aU (by rw[aE];exact aw _),aE,fe];rfl
  rw[e2,<- h2];exact bf fun c _=>by rw[e1];grind
theorem Lf {n:Nat}:((List.range n).map fun _=>(0:Rat))=List.replicate n 0:=by rw[BO,b8]
def OU (K:PySem.W.Frag):Sp:=fun vs H Q _=>∃m:Nat,vs=[.int m]/\m<=100/\∀r H',H r=none->aJ H H'->cQ K H' r (List.replicate m 0)->Q (.ref r) H'
def EC (K:PySem.W.Frag):Sp:=fun vs H Q _=>∃(p q:Addr) (n w w':Nat) (H0:Hp) (rows:List (List Rat)) (row:List Rat),vs=[.ref p,.int n,.ref q]/\bL K H0 H p rows/\cQ K H q row/\row.length=n/\rows.length<=90/\n<=90/\(∀xs∈rows,xs.length=n)/\Fq (dq (di rows n) row) (rows.length+1) w/\Fq (dq (rows++[row]) (List.replicate rows.length 0++[1])) (n+1) w' /\
 (∀t x R ps M H',bZ (dq (di rows n) row) (rows.length+1) R ps->rows.length∉ps->H' t=some (.tup [.str (Str.ofString "in"),.ref x])->H x=none->aJ H H'->cQ K H' x (ij R ps rows.length)->0 < M->M<=2^(min n (rows.length+1)*(w+4))->(∀y∈ij R ps rows.length,Tp M (2^(min n (rows.length+1)*(w+4))) y)->Q (.ref t) H') /\
 (∀t x R ps R' ps' M H',bZ (dq (di rows n) row) (rows.length+1) R ps->rows.length∈ps->bZ (dq (rows++[row]) (List.replicate rows.length 0++[1])) (n+1) R' ps'->n∉ps'->H' t=some (.tup [.str (Str.ofString "out"),.ref x])->H x=none->aJ H H'->cQ K H' x (ij R' ps' n)->0 < M->M<=2^(min (rows.length+1) (n+1)*(w'+4))->(∀y∈ij R' ps' n,Tp M (2^(min (rows.length+1) (n+1)*(w'+4))) y)->Q (.ref t) H')
def Sa (rows:List (List Rat)) (ws:List Rat) (n j:Nat):List Rat:=(List.range n).map fun c=>bY j fun i=>ws.getD i 0*cn rows i c
def OM (rows:List (List Rat)) (ws:List Rat) (n:Nat):List Rat:=Sa rows ws n ws.length
section
variable {rows:List (List Rat)} {ws xs row:List Rat} {n j:Nat}
theorem OL:(Sa rows ws n j).length=n:=by unfold Sa;rw[aj,b8]
theorem Hw {c:Nat} (hc:c < n):(OM rows ws n).getD c 0=bY ws.length fun i=>ws.getD i 0*cn rows i c:=by
 unfold OM Sa;rw[aa,aG,df hc];rfl
theorem LQ (h:xs.length=ws.length):eG xs ws=eG ws xs:=by
 rw[ft h,ft h.symm,h];exact bf fun c _=>dI ..
theorem AG {c:Nat} (hc:c < n):(di rows n)[c]?=some (rows.map fun xs=>xs.getD c 0):=by
 unfold di;rw[aG,df hc];rfl
theorem Lg {c i:Nat}:(rows.map fun xs=>xs.getD c 0).getD i 0=cn rows i c:=by
 unfold cn;rw[aa,aG,aa (l:=rows)];cases rows[i]? with
 | none=>rfl
 | some y=>rfl
theorem IH {R:List (List Rat)} {ps:List Nat} (hl:row.length=n) (RR:bZ (dq (di rows n) row) (rows.length+1) R ps) (hn:rows.length∉ps):OM rows (ij R ps rows.length) n=row:=by
 have ls:(ij R ps rows.length).length=rows.length:=kS;apply eU (by unfold OM;rw[OL,hl]);intro c h1 h2;have hc:c < n:=by lia
 have d:=FQ (rows:=di rows n) (by rw[dw,hl]) (fun xs hx=>kR xs hx) RR hn (AG hc);have e:=Hw (rows:=rows) (ws:=ij R ps rows.length) hc;have e1:(OM rows (ij R ps rows.length) n).getD c 0=(OM rows (ij R ps rows.length) n)[c]:=by rw[aa,af h1];rfl
 have e2:row.getD c 0=row[c]:=by rw[aa,af h2];rfl
 rw[<- e1,<- e2,e,<- d,ft (by rw[aj,ls]),aj,ls];exact bf fun i _=>by rw[Lg];grind
theorem Jr {R:List (List Rat)} {ps:List Nat} (hw:∀xs∈rows,xs.length=n) (hl:row.length=n) (RR:bZ (dq (rows++[row]) (List.replicate rows.length 0++[1])) (n+1) R ps) (hn:n∉ps):eG (ij R ps n) row=1/\∀xs∈rows,eG xs (ij R ps n)=0:=by
 have l1:(List.replicate rows.length (0:Rat)++[1]).length=(rows++[row]).length:=by rw[ak,ak,aE];rfl
 have w1:∀xs∈rows++[row],xs.length=n:=fun xs hx=>by
  rcases au.mp hx with hx | hx
  ·exact hw xs hx
  ·rw[bF.mp hx];exact hl
 have ls:(ij R ps n).length=n:=kS;refine ⟨?_,fun xs hx=>?_⟩
 ·have:=FQ l1 w1 RR hn (i:=rows.length) (row:=row) (by rw[aU (aw _),fe];rfl);rw[LQ (by rw[ls,hl]),this,aa,aU (by rw[aE];exact aw _),aE,fe];rfl
 ·obtain ⟨i,hi,rfl⟩:=bQ hx;have:=FQ l1 w1 RR hn (i:=i) (row:=rows[i]) (by rw[bH hi,af hi]);rw[this,aa,bH (by rw[aE];exact hi),dj,if_pos hi];rfl
end
theorem Fr.up {M V M' V':Nat} {x:Rat} (h:Fr M V x) (hd:M∣M') (hv:V<=V'):Fr M' V' x:=(h.dvd hd).mono hv
section
variable {rows R:List (List Rat)} {due:List Rat} {ps:List Nat} {n:Nat}
theorem NP {xs ys:List Rat} {M V D B:Nat} (h:ys.length=xs.length) (hx:∀x∈xs,Fr M V x) (hy:∀y∈ys,Fr D B y):Fr (M*D) (xs.length*(V*B)) (eG xs ys):=by
 rw[ft h.symm]
 have key:∀j,j<=xs.length->Fr (M*D) (j*(V*B)) (bY j fun c=>xs.getD c 0*ys.getD c 0):=by
  intro j
  induction j with
  | zero=>intro _;exact Fr.zero
  | succ j ih =>
   intro hj;exact ((ih (by lia)).add ((hx _ (getD_in (by lia))).mul (hy _ (getD_in (by lia))))).mono (Nat.le_of_eq (dR j (V*B)).symm)
 exact key _ (aw _)
end
theorem Ls {ps qs:List Nat} (h:Br ps=Br qs):ps=qs:=List.map_inj_right (fun _ _ e=>Int.ofNat.inj e) |>.mp h
def rz (K:PySem.W.Frag) (P:Addr->Prop) (H:Hp) (xs:List Rat) (v:V):Prop:=∃q,v=.ref q/\P q/\cQ K H q xs
section
variable {K:PySem.W.Frag} {P:Addr->Prop} {H H':Hp} {xs:List Rat} {v:V} {b l:Addr}
theorem rz.same (h:rz K P H xs v) (s:aJ H H'):rz K P H' xs v:=by obtain ⟨q,a,c,d⟩:=h;exact ⟨q,a,c,d.same s⟩
theorem rz.updL {ys:List V} {o:HO} (h:rz K P H xs v) (hl:H l=some (.lst ys)) (nb:∀q,P q->q≠l):rz K P (upd H l o) xs v:=by obtain ⟨q,a,c,d⟩:=h;exact ⟨q,a,c,d.updL hl (nb q c)⟩
theorem bL.ofE {H0:Hp} {rows:List (List Rat)} {us:List V} (g:H l=some (.lst us)) (h:Paired (rz K P H) rows us) (h0:∀q,P q->H0 q=none) (hn:∀q,P q->q≠l):bL K H0 H l rows :=
 ⟨us,g,Paired.imp' (fun _ _ ⟨q,a,c,d⟩=>⟨q,a,h0 q c,d⟩) h,fun z=>by
  obtain ⟨_,_,q,e,c,_⟩:=dk h z;cases e;exact hn _ c rfl⟩
end
theorem uK {α β:Type} {F G:α->β->Prop}:∀{l1:List α} {l2:List β},(∀a b,b∈l2->F a b->G a b)->Paired F l1 l2->Paired G l1 l2
 | _,_,_,.nil=>.nil
 | _,_,h,.cons a r=>.cons (h _ _ (by simp) a) (uK (fun x y hy=>h x y (by simp [hy])) r)
section
variable {rows rows' R R':List (List Rat)} {n w W:Nat} {ps ps':List Nat}
theorem yP (hw:∀xs∈rows,xs.length=n) (hW:1<=W) (ent:∀i,i < (rows.map gX).length->∀c,Fr 1 W (d6 (rows.map gX) i c)):∀P,P<=n->∃ls ps d,C5 (rows.map gX) n P ls ps d:=by
 intro P
 induction P with
 | zero=>intro _;exact ⟨_,_,_,C5.start fun zs hz=>by obtain ⟨x,hx,rfl⟩:=aB.mp hz;rw[rE];exact hw x hx⟩
 | succ P ih =>
  intro hP;obtain ⟨ls,ps,d,I⟩:=ih (by lia);by_cases e:∃t,ps.length<=t/\t < ls.length/\d6 ls t P≠0
  ·obtain ⟨t,h1,h2,h3⟩:=e;exact ⟨_,_,_,I.step hW ent h1 h2 h3⟩
  ·exact ⟨_,_,_,I.skip fun i h1 h2=>by
    by_cases z:d6 ls i P=0
    ·exact z
    ·exact absurd ⟨i,h1,h2,z⟩ e⟩
theorem Cs (hw:∀xs∈rows,xs.length=n) (F:Fq rows n w):∃R ps d ls,SM rows n w R ps d ls:=by
 obtain ⟨W,hW,W2,ent⟩:=F.ent;obtain ⟨ls,ps,d,I⟩:=yP hw hW ent n (aw _);obtain ⟨R,S⟩:=I.done hw F;exact ⟨R,ps,d,_,S⟩
theorem Q4 (hw:∀xs∈rows,xs.length=n) (F:Fq rows n w) (RR:bZ rows n R ps):ps.length<=rows.length/\∃M,0 < M/\M<=2^(min rows.length n*(w+4))/\∀xs∈R,∀x∈xs,Tp M (2^(min rows.length n*(w+4))) x:=by
 obtain ⟨R2,ps2,d,ls,S⟩:=Cs hw F;obtain ⟨rfl,rfl⟩:=S.rr.same RR;exact ⟨S.km,d.natAbs,Int.natAbs_pos.mpr S.d0,S.dsz,S.tp⟩
theorem JL {k:Nat} {p q:Nat->Nat} (hp:∀i j,i < j->j < k->p i < p j) (hq:∀i j,i < j->j < k->q i < q j) (hs:∀i,i < k->∃j,j < k/\q j=p i):∀i,i < k->p i=q i:=by
 have hqm:∀i j,i<=j->j < k->q i<=q j:=fun i j h hj=>by
  rcases cP i j with z | z
  ·exact aS (hq i j z hj)
  ·have:i=j:=by lia
   rw[this];exact aw _
 have hqi:∀i j,i < k->j < k->q i < q j->i < j:=fun i j hi hj h=>by
  rcases cP i j with z | z
  ·exact z
  ·have:=hqm j i z hi
   lia
 have key:∀i,i < k->∀j,j < k->q j=p i->i<=j:=by
  intro i
  induction i with
  | zero=>intro _ j _ _;exact bA _
  | succ i ih =>
   intro hi j hj e;obtain ⟨j',hj',e'⟩:=hs i (by lia);have h1:=ih (by lia) j' hj' e';have h2:=hp i (i+1) (by lia) hi;have:=hqi j' j hj' hj (by lia)
   lia
 have key2:∀t i,i+t+1=k->∀j,j < k->q j=p i->j<=i:=by
  intro t
  induction t with
  | zero=>intro i e j hj _;lia
  | succ t ih =>
   intro i e j hj ej;obtain ⟨j',hj',e'⟩:=hs (i+1) (by lia);have h1:=ih (i+1) (by lia) j' hj' e';have h2:=hp i (i+1) (by lia) (by lia);have:=hqi j j' hj hj' (by lia)
   lia
 intro i hi;obtain ⟨j,hj,e⟩:=hs i hi;have h1:=key i hi j hj e;have h2:=key2 (k - 1 - i) i (by lia) j hj e;have:j=i:=by lia
 rw[<- e,this]
theorem Jo (h:bZ rows n R ps) (h':bZ rows' n R' ps') (hl:ps.length=ps'.length) (hs:∀i,i < ps.length->eH ps'.length (cn R') (cn R i)):R=R'/\ps=ps':=by
 obtain ⟨l1,w1,r1⟩:=h;obtain ⟨l2,w2,r2⟩:=h'
 have ep:∀i,i < ps.length->ps.getD i 0=ps'.getD i 0:=JL r1.inc (by rw[hl];exact r2.inc) fun i hi=>by
  have u:=r1.unit i hi i hi;rw[if_pos rfl] at u;obtain ⟨j,hj,e⟩:=r2.lead_in (hs i hi) (c:=ps.getD i 0) (by rw[u];decide) (fun c hc=>r1.lead i hi c hc);exact ⟨j,by lia,e⟩
 have eps:ps=ps':=by
  apply eU hl;intro i a b;have:=ep i a;rw[aa,aa,af a,af b] at this;exact this
 refine ⟨LH (n:=n) (by lia) w1 w2 fun i hi c=>?_,eps⟩;rw[l1] at hi;rw[r2.coef (hs i hi) c,<- hl,gG hi fun j hj hj'=>?_]
 ·rw[<- ep i hi];have u:=r1.unit i hi i hi;rw[if_pos rfl] at u;rw[u];grind
 ·rw[<- ep j hj];have u:=r1.unit i hi j hj;rw[if_neg (Ne.symm hj')] at u;rw[u];grind
end
def sJ (mv:List (List Rat)) (x:List Rat):List Rat:=mv.map fun xs=>eG xs x
def kry (mv pt:List (List Rat)):Nat->List (List Rat)
 | 0=>[]
 | t+1=>pt++(kry mv pt t).map (sJ mv)
section
variable {mv pt R R' S X Y:List (List Rat)} {n t m i c:Nat} {ps ps':List Nat} {a:Nat->Nat->Rat}
theorem xn {x:List Rat}:(sJ mv x).length=mv.length:=aj ..
theorem K4 (lm:mv.length=n) (wm:∀xs∈mv,xs.length=n) (wR:∀xs∈R,xs.length=n) (hi:i < R.length) (c:Nat):cn (R.map (sJ mv)) i c=bY n fun j=>cn mv c j*cn R i j:=by
 have wi:=wR _ (aQ hi);have e1:(R.map (sJ mv)).getD i []=sJ mv R[i]:=by rw[aa,aG,af hi];rfl
 have e2:R.getD i []=R[i]:=by rw[aa,af hi];rfl
 by_cases hc:c < n
 ·have wc:=wm _ (aQ (show c < mv.length by lia));have e3:mv.getD c []=mv[c]'(by lia):=by rw[aa,af (by lia)];rfl
  have e4:(sJ mv R[i]).getD c 0=eG (mv[c]'(by lia)) R[i]:=by
   unfold sJ;rw[aa,aG,af (by lia)];rfl
  unfold cn;rw[e1,e2,e3,e4,ft (by lia),wc]
 ·have e3:mv.getD c []=[]:=by rw[aa,aM (by lia)];rfl
  unfold cn
  rw[e1,e3,aa,aM (by rw[xn];lia),dH fun j _=>by
   show ([]:List Rat).getD j 0*_=0
   rw[aa];show (0:Rat)*_=0
   grind]
  rfl
theorem AK (lm:mv.length=n) (wm:∀xs∈mv,xs.length=n) (wR:∀xs∈R,xs.length=n) (wS:∀xs∈S,xs.length=n) (hi:i < R.length) (h:eH S.length (cn S) (cn R i)):eH (S.map (sJ mv)).length (cn (S.map (sJ mv))) (cn (R.map (sJ mv)) i):=by
 obtain ⟨w,hw⟩:=h;refine ⟨w,fun c=>?_⟩;rw[K4 lm wm wR hi,aj]
 have e1:bY n (fun j=>cn mv c j*cn R i j)=bY n (fun j=>bY S.length fun s=>w s*(cn mv c j*cn S s j)):=bf fun j _=>by
  rw[hw j,<- dA];exact bf fun s _=>by grind
 rw[e1,jH];exact bf fun s hs=>by rw[dA,K4 lm wm wS hs]
theorem BF (h:i < X.length):cn (X++Y) i=cn X i:=by
 funext c;unfold cn;rw[aa (l:=X++Y),bH h,<- aa]
theorem xA:cn (X++Y) (X.length+i)=cn Y i:=by
 funext c;unfold cn;rw[aa (l:=X++Y),aU (by lia),show X.length+i - X.length=i by lia,<- aa]
theorem xH (h1:∀i,i < X.length->eH m a (cn X i)) (h2:∀i,i < Y.length->eH m a (cn Y i)):∀i,i < (X++Y).length->eH m a (cn (X++Y) i):=fun i hi=>by
 rw[ak] at hi;by_cases h:i < X.length
 ·rw[BF h];exact h1 i h
 ·obtain ⟨j,rfl⟩:∃j,i=X.length+j:=⟨i - X.length,by lia⟩;rw[xA];exact h2 j (by lia)
theorem uC (h:i < X.length):eH (X++Y).length (cn (X++Y)) (cn X i):=by
 have:=eH.row (a:=cn (X++Y)) (m:=(X++Y).length) (i:=i) (by rw[ak];lia);rwa [BF h] at this
theorem rF {x:Nat->Rat} (h:eH Y.length (cn Y) x):eH (X++Y).length (cn (X++Y)) x:=eH.trans (fun s hs=>by
 have:=eH.row (a:=cn (X++Y)) (m:=(X++Y).length) (i:=X.length+s) (by rw[ak];lia);rwa [xA] at this) h
theorem e8 (lm:mv.length=n) (wp:∀xs∈pt,xs.length=n):∀t,∀xs∈kry mv pt t,xs.length=n:=by
 intro t
 induction t with
 | zero=>intro xs hx;cases hx
 | succ t ih =>
  intro xs hx;rcases au.mp hx with hx | hx
  ·exact wp xs hx
  ·obtain ⟨y,_,rfl⟩:=aB.mp hx;rw[xn,lm]
theorem yj (lm:mv.length=n) (wm:∀xs∈mv,xs.length=n) (wp:∀xs∈pt,xs.length=n) (RR:bZ (kry mv pt t) n R ps) (RR':bZ (pt++R.map (sJ mv)) n R' ps'):bZ (kry mv pt (t+1)) n R' ps':=by
 have wk:=e8 (mv:=mv) lm wp t;refine ⟨RR'.1,RR'.2.1,RR'.2.2.other ?_ ?_⟩
 ·refine xH (fun i hi=>uC hi) fun i hi=>rF ?_
  rw[aj] at hi;exact AK lm wm RR.2.1 wk hi (RR.2.2.back i (by rw[<- RR.1];exact hi))
 ·refine xH (fun i hi=>uC hi) fun i hi=>rF ?_
  rw[aj] at hi;have:=RR.2.2.span i hi;rw[<- RR.1] at this;exact AK lm wm wk RR.2.1 hi this
theorem Lp (lm:mv.length=n) (wm:∀xs∈mv,xs.length=n) (wp:∀xs∈pt,xs.length=n):∀t i,i < (kry mv pt t).length->eH (kry mv pt (t+1)).length (cn (kry mv pt (t+1))) (cn (kry mv pt t) i):=by
 intro t
 induction t with
 | zero=>intro i hi;cases hi
 | succ t ih =>
  refine xH (fun i hi=>uC hi) fun i hi=>rF ?_
  rw[aj] at hi;exact AK lm wm (e8 lm wp t) (e8 lm wp (t+1)) hi (ih i hi)
theorem Bq (lm:mv.length=n) (wm:∀xs∈mv,xs.length=n) (wp:∀xs∈pt,xs.length=n) (RR:bZ (kry mv pt t) n R ps) (RR':bZ (kry mv pt (t+1)) n R' ps'):∀i,i < ps.length->eH ps'.length (cn R') (cn R i):=fun i hi =>
 eH.trans (fun s hs=>RR'.2.2.span s hs) (eH.trans (Lp lm wm wp t) (RR.2.2.back i hi))
theorem CJ (lm:mv.length=n) (wm:∀xs∈mv,xs.length=n) (wp:∀xs∈pt,xs.length=n) (RR:bZ (kry mv pt t) n R ps) (RR':bZ (pt++R.map (sJ mv)) n R' ps') (hl:ps'.length=ps.length):∀s,bZ (kry mv pt (t+s)) n R ps:=by
 have K1:=yj lm wm wp RR RR';obtain ⟨e1,e2⟩:=Jo RR K1 hl.symm (Bq lm wm wp RR K1);subst e1 e2;intro s
 induction s with
 | zero=>exact RR
 | succ s ih=>exact yj lm wm wp ih RR'
theorem Fd (lm:mv.length=n) (wm:∀xs∈mv,xs.length=n) (wp:∀xs∈pt,xs.length=n) (RR:bZ (kry mv pt t) n R ps) (RR':bZ (kry mv pt (t+1)) n R' ps'):ps.length<=ps'.length:=by
 have h:=Bq lm wm wp RR RR'
 have hs:∀i,i < ps.length->∃j,j < ps'.length/\ps'.getD j 0=ps.getD i 0:=fun i hi=>by
  have u:=RR.2.2.unit i hi i hi;rw[if_pos rfl] at u;exact RR'.2.2.lead_in (h i hi) (c:=ps.getD i 0) (by rw[u];decide) (fun c hc=>RR.2.2.lead i hi c hc)
 rcases cP ps'.length ps.length with z | z
 ·exfalso
  have key:∀i,i < ps.length->∀j,j < ps'.length->ps'.getD j 0=ps.getD i 0->i<=j:=by
   intro i
   induction i with
   | zero=>intro _ j _ _;exact bA _
   | succ i ih =>
    intro hi j hj e;obtain ⟨j',hj',e'⟩:=hs i (by lia);have h1:=ih (by lia) j' hj' e';have h2:=RR.2.2.inc i (i+1) (by lia) hi;rcases cP j' j with y | y
    ·lia
    ·rcases cP j j' with x | x
     ·have:=RR'.2.2.inc j j' x hj'
      lia
     ·have:j=j':=by lia
      rw[this] at e
      lia
  obtain ⟨j,hj,e⟩:=hs (ps.length - 1) (by lia);have:=key (ps.length - 1) (by lia) j hj e
  lia
 ·exact z
theorem GG {M V c:Nat} (lm:mv.length=n) (wm:∀xs∈mv,xs.length=n) (wp:∀xs∈pt,xs.length=n) (hc:(n+1)*V<=2^c) (fm:GF M V mv) (fp:GF M V pt):∀t,∀xs∈kry mv pt t,∀x∈xs,Fr (M^t) (2^(c*t)) x:=by
 intro t
 induction t with
 | zero=>intro xs hx;cases hx
 | succ t ih =>
  intro xs hx x hx';have hV:V<=2^c:=ai (cV _ (by lia)) hc;rcases au.mp hx with hx | hx
  ·refine Fr.up (fp xs hx x hx') (by rw[ff];exact sA _ _) (ai hV (av (by decide) (dC _ (by lia))))
  ·obtain ⟨y,hy,rfl⟩:=aB.mp hx;unfold sJ at hx';obtain ⟨r,hr,rfl⟩:=aB.mp hx';have wr:=wm r hr;have wy:=e8 (mv:=mv) lm wp t y hy;have f:=NP (by lia) (fm r hr) (ih y hy);rw[ff,bX (M^t)];refine f.mono ?_;rw[fh,Mc,bD,bX (2^(c*t)),<- cL,wr];exact az _ (ai (az _ (by lia)) hc)
def mV (mv pt:List (List Rat)) (a c:Nat):Prop:=∃M V:Nat,0 < M/\M<=2^a/\(mv.length+1)*V<=2^c/\GF M V mv/\GF M V pt/\a<=400/\c<=40/\mv.length*(mv.length*(a+c)+4)<=1740/\mv.length*(mv.length*(mv.length*(a+c)+4)+a+c+4)<=8900
theorem mV.swf {a c:Nat} (F:mV mv pt a c) (D:mv.length<=8) (wm:∀xs∈mv,xs.length=mv.length) (wp:∀xs∈pt,xs.length=mv.length) (ht:t<=mv.length):Fq (kry mv pt t) mv.length (mv.length*(a+c)):=by
 obtain ⟨M,V,M0,Ma,hV,fm,fp,a3,c3,e14,e89⟩:=F;have f:=GG rfl wm wp hV fm fp t;have h1:mv.length*(a+c)<=8*440:=aL D (by lia);have hM:M^t<=2^(a*mv.length):=ai (jd Ma _) (by rw[<- uu];exact av (by decide) (aX _ ht));have h2:a*mv.length<=mv.length*(a+c):=by rw[bX];exact aX _ (by lia)
 have h3:mv.length=0\/mv.length*(a+c)<=1740:=by
  rcases fY mv.length with z | z
  ·exact .inl z
  ·right
   have:=cV (mv.length*(a+c)+4) z
   lia
 have h4:mv.length*(a+c)<=1740:=by
  rcases h3 with z | z
  ·rw[z];lia
  ·exact z
 refine ⟨M^t,2^(mv.length*(a+c)),kN M0,ai hM (av (by decide) (by lia)),ck,aw _,fun xs hx x hx'=>Tp.of (f xs hx x hx') ?_,by lia,by lia,?_⟩
 ·refine ai (aL (av (by decide) (aX c ht)) hM) ?_;rw[<- bD];refine av (by decide) ?_;rw[bX c,bX a,<- fh,qT c];exact aw _
 ·exact ai (az _ (zV _ _)) (by lia)
theorem mV.tp {a c:Nat} (F:mV mv pt a c) (D:mv.length<=8) (wm:∀xs∈mv,xs.length=mv.length) (wp:∀xs∈pt,xs.length=mv.length) (ht:t<=mv.length) (RR:bZ (kry mv pt t) mv.length R ps):∃M,0 < M/\M<=2^(mv.length*(mv.length*(a+c)+4))/\∀xs∈R,∀x∈xs,Tp M (2^(mv.length*(mv.length*(a+c)+4))) x:=by
 obtain ⟨_,M,h0,h1,h2⟩:=Q4 (e8 rfl wp t) (F.swf D wm wp ht) RR;have le:2^(min (kry mv pt t).length mv.length*(mv.length*(a+c)+4))<=2^(mv.length*(mv.length*(a+c)+4)):=av (by decide) (az _ (zV _ _));exact ⟨M,h0,ai h1 le,fun xs hx x hx'=>(h2 xs hx x hx').mono le⟩
theorem mV.step {a c:Nat} (F:mV mv pt a c) (D:mv.length<=8) (wm:∀xs∈mv,xs.length=mv.length) (wp:∀xs∈pt,xs.length=mv.length) (ht:t<=mv.length) (RR:bZ (kry mv pt t) mv.length R ps):Fq (pt++R.map (sJ mv)) mv.length (mv.length*(mv.length*(a+c)+4)+a+c):=by
 obtain ⟨N,N0,N1,tN⟩:=F.tp D wm wp ht RR;obtain ⟨M,V,M0,Ma,hV,fm,fp,a3,c3,e14,e89⟩:=F;generalize mv.length*(mv.length*(a+c)+4)=e at *
 have V1:V<=2^c:=ai (cV _ (by lia)) hV;have eW:(2:Nat)^(e+a+c)=2^c*(2^a*2^e):=by rw[<- bD,<- bD];congr 1;lia
 refine ⟨N*M,2^(e+a+c),cu N0 M0,?_,ck,aw _,fun xs hx x hx'=>?_,by lia,by lia,?_⟩
 ·exact ai (aL N1 Ma) (by rw[<- bD];exact av (by decide) (by lia))
 ·rcases au.mp hx with hx | hx
  ·refine Tp.of ((fp xs hx x hx').scaleL N) ?_;rw[eW,bX N];exact aL V1 (aL Ma N1)
  ·obtain ⟨y,hy,rfl⟩:=aB.mp hx;unfold sJ at hx';obtain ⟨r,hr,rfl⟩:=aB.mp hx';have wr:=wm r hr;have wy:=RR.2.1 y hy;rw[ft (by lia),wr];have t1:∀j,Tp M (V*M) (r.getD j 0):=fun j=>lQ (fun x hx=>Tp.of (fm r hr x hx) (aw _)) j
   have t2:∀j,Tp N (2^e) (y.getD j 0):=fun j=>lQ (tN y hy) j
   have:=Tp.sum (k:=mv.length) (M:=N*M) (W:=V*M*2^e) (f:=fun j=>r.getD j 0*y.getD j 0) fun j _=>by
    have:=(t1 j).mul (t2 j);rwa [bX M N] at this
   refine this.mono ?_;rw[eW,cL V,<- cL mv.length];exact aL (ai (az _ (by lia)) hV) (az _ Ma)
 ·exact ai (az _ (zV _ _)) (by rw[show e+a+c+4=e+a+c+4 from rfl];exact e89)
theorem mV.fit {a c:Nat} (F:mV mv pt a c) (D:mv.length<=8) (wm:∀xs∈mv,xs.length=mv.length) (wp:∀xs∈pt,xs.length=mv.length) (ht:t<=mv.length) (RR:bZ (kry mv pt t) mv.length R ps):∀xs∈mv,∀r∈R,En xs r:=fun xs hx r hr=>by
 obtain ⟨N,N0,N1,tN⟩:=F.tp D wm wp ht RR;obtain ⟨M,V,M0,Ma,hV,fm,fp,a3,c3,e14,e89⟩:=F;have V1:V<=2^c:=ai (cV _ (by lia)) hV;have p14:=av (show 0 < 2 by decide) e14;exact ⟨400,40,1740,1740,⟨M,V,M0,ai Ma (av (by decide) a3),ai V1 (av (by decide) c3),fm xs hx⟩,⟨N,2^1740,N0,ai N1 p14,aw _,fun x hx=>((tN r hr x hx).mono p14).fr N0⟩,by decide⟩
end
def IX (K:PySem.W.Frag) (C:Addr):Sp:=fun vs H Q _=>∃(x p:Addr) (H0 H1:Hp) (mv pt lk R:List (List Rat)),vs=[.ref x,.ref p]/\m8 K H0 H C x mv pt lk/\jk mv pt lk/\bL K H1 H p R/\R.length<=100/\(∀r∈R,r.length=mv.length)/\(∀xs∈mv,∀r∈R,En xs r) /\
 ∀r H',H r=none->aJ H H'->bL K H H' r (R.map (sJ mv))->Q (.ref r) H'
structure BI (mv pt:List (List Rat)) (Rs:List (List (List Rat))):Prop where
 ne:Rs≠[]
 rr:∀t R,Rs[t]?=some R->∃ps,bZ (kry mv pt t) mv.length R ps
 up:∀t R R',Rs[t]?=some R->Rs[t+1]?=some R'->R.length < R'.length
def GrL (K:PySem.W.Frag) (H0 H:Hp) (l:Addr) (Rs:List (List (List Rat))):Prop:=∃us,H l=some (.lst us)/\Paired (fun R v=>∃q,v=V.ref q/\H0 q=none/\q≠l/\bL K H0 H q R) Rs us
def Jf (K:PySem.W.Frag) (C:Addr):Sp:=fun vs H Q _=>∃(x:Addr) (a c st:Nat) (H0:Hp) (mv pt lk:List (List Rat)),vs=[.ref x,.int st]/\st<=1000/\m8 K H0 H C x mv pt lk/\jk mv pt lk/\mV mv pt a c /\
 ∀r Rs H',H r=none->aJ H H'->GrL K H H' r Rs->BI mv pt Rs->Rs.length<=st+1->(∀R,Rs.getLast?=some R->∀s,(Rs.length - 1=st/\s=st\/Rs.length - 1 < st/\Rs.length - 1<=s)->∃ps,bZ (kry mv pt s) mv.length R ps)->Q (.ref r) H'
def IV (K:PySem.W.Frag) (C:Addr):Sp:=fun vs H Q _=>∃(x:Addr) (a c st:Nat) (H0:Hp) (mv pt lk:List (List Rat)),vs=[.ref x,.int st]/\st<=1000/\m8 K H0 H C x mv pt lk/\jk mv pt lk/\mV mv pt a c /\
 ∀r R ps H',H r=none->aJ H H'->bL K H H' r R->bZ (kry mv pt st) mv.length R ps->Q (.ref r) H'
section
variable {K:PySem.W.Frag} {H0 H1 H H':Hp} {p l:Addr} {rows mv pt R R':List (List Rat)} {Rs:List (List (List Rat))} {t:Nat}
theorem bL.weakN (h:bL K H0 H p rows) (hn:∀q,H0 q=none->H1 q=none):bL K H1 H p rows:=by obtain ⟨xs,g,r,n⟩:=h;exact ⟨xs,g,Paired.imp' (fun _ _ ⟨q,a,b,c⟩=>⟨q,a,hn q b,c⟩) r,n⟩
theorem bL.updL {ys:List V} {o:HO} (h:bL K H0 H p rows) (hl:H l=some (.lst ys)) (nl:H0 l≠none) (pl:p≠l):bL K H0 (upd H l o) p rows:=by obtain ⟨xs,g,r,n⟩:=h;exact ⟨xs,by rw[bJ pl];exact g,Paired.imp' (fun _ _ z=>dn.updL z hl nl) r,n⟩
theorem Dz {n:Nat}:bZ [] n [] []:=⟨rfl,(fun _ h=>by cases h),(fun _ _ _ h=>absurd h (fv _)),(fun _ h=>absurd h (fv _)),(fun _ h=>absurd h (fv _)),(fun _ h=>absurd h (fv _)),(fun _ h=>absurd h (fv _)),(fun _ h=>absurd h (fv _))⟩
theorem BI.len (h:BI mv pt Rs):∀(t:Nat) (R:List (List Rat)),Rs[t]?=some R->t<=R.length:=by
 intro t
 induction t with
 | zero=>intro R _;exact bA _
 | succ t ih =>
  intro R e;have ht:=(aI.mp e).1;have e0:=af (show t < Rs.length by lia);have:=ih _ e0;have:=h.up t _ R e0 e
  lia
theorem BI.snoc {ps':List Nat} (h:BI mv pt (Rs++[R])) (h1:bZ (kry mv pt (Rs.length+1)) mv.length R' ps') (h2:R.length < R'.length):BI mv pt ((Rs++[R])++[R']):=by
 have l1:(Rs++[R]).length=Rs.length+1:=by rw[ak];rfl
 refine ⟨by simp,fun t S e=>?_,fun t S S' e e'=>?_⟩
 ·rcases cP t (Rs.length+1) with z | z
  ·rw[bH (by lia)] at e;exact h.rr t S e
  ·have ht:=(aI.mp e).1;rw[ak,bx] at ht;have:t=Rs.length+1:=by lia
   subst this;rw[aU (by lia),l1,fe] at e;cases e;exact ⟨ps',h1⟩
 ·have ht:=(aI.mp e').1;rw[ak,bx] at ht;rw[bH (by lia)] at e;rcases cP (t+1) (Rs.length+1) with z | z
  ·rw[bH (by lia)] at e';exact h.up t S S' e e'
  ·have:t=Rs.length:=by lia
   subst this;rw[aU (by lia),l1,fe] at e';cases e';rw[aU (aw _),fe] at e;cases e;exact h2
end
def ug (k t i:Nat):Nat:=if i < k then i else if i=k then t else if i<=t then i - 1 else i
def EO (k t i:Nat):Nat:=if i < k then i else if i=t then k else if i < t then i+1 else i
section
variable {k t m i j:Nat}
theorem xK (h : k ≤ t) (ht : t < m) (hi : i < m) : ug k t i < m := by     unfold ug; split; · exact hi
                                                                          · split; · exact ht
                                                                            · split <;> lia
theorem Q5 (h : k ≤ t) (ht : t < m) (hi : i < m) : EO k t i < m := by     unfold EO; split; · exact hi
                                                                          · split; · lia
                                                                            · split <;> lia
theorem Q3 (h:k<=t):ug k t (EO k t i)=i:=by
 by_cases h1:i < k
 ·rw[show EO k t i=i by unfold EO;rw[if_pos h1]];unfold ug;rw[if_pos h1]
 ·by_cases h2:i=t
  ·rw[show EO k t i=k by unfold EO;rw[if_neg h1,if_pos h2]];unfold ug;rw[if_neg (by lia),if_pos rfl,h2]
  ·by_cases h3:i < t
   ·rw[show EO k t i=i+1 by unfold EO;rw[if_neg h1,if_neg h2,if_pos h3]];unfold ug;rw[if_neg (by lia),if_neg (by lia),if_pos (by lia)];lia
   ·rw[show EO k t i=i by unfold EO;rw[if_neg h1,if_neg h2,if_neg h3]];unfold ug;rw[if_neg h1,if_neg (by lia),if_neg (by lia)]
theorem Og (h:k<=t):EO k t (ug k t i)=i:=by
 by_cases h1:i < k
 ·rw[show ug k t i=i by unfold ug;rw[if_pos h1]];unfold EO;rw[if_pos h1]
 ·by_cases h2:i=k
  ·rw[show ug k t i=t by unfold ug;rw[if_neg h1,if_pos h2]];unfold EO;rw[if_neg (by lia),if_pos rfl,h2]
  ·by_cases h3:i<=t
   ·rw[show ug k t i=i - 1 by unfold ug;rw[if_neg h1,if_neg h2,if_pos h3]];unfold EO;rw[if_neg (by lia),if_neg (by lia),if_pos (by lia)];lia
   ·rw[show ug k t i=i by unfold ug;rw[if_neg h1,if_neg h2,if_neg h3]];unfold EO;rw[if_neg h1,if_neg (by lia),if_neg (by lia)]
theorem uG (hi:i < k):ug k t i=i:=by unfold ug;rw[if_pos hi]
theorem xM (h:k<=t) (hi:k<=i):k<=ug k t i:=by
 unfold ug;rw[if_neg (by lia)]
 split
 ·exact h
 ·split <;> lia
variable {a l:Nat->Nat->Rat} {pm p:Nat->Nat} {d:Rat} {P:Nat}
theorem yM.rot (B:yM a m k pm p l d) (h:k<=t) (ht:t < m):yM a m k (fun i=>pm (ug k t i)) p (fun i=>l (ug k t i)) d where
 inj i j hi hj e:=by
  have:=B.inj _ _ (xK h ht hi) (xK h ht hj) e;rw[<- Og (i:=i) h,this,Og h]
 rng i hi:=B.rng _ (xK h ht hi)
 km:=B.km
 d0:=B.d0
 det:=by rw[B.det,AV (f:=pm) (g:=fun i=>pm (ug k t i)) fun j hj=>by rw[uG hj]]
 eqs i hi c:=by
  have e:=B.eqs (ug k t i) (xK h ht hi) c;have e1:bY k (fun j=>a (pm (ug k t i)) (p j)*l (ug k t j) c)=bY k (fun j=>a (pm (ug k t i)) (p j)*l j c):=bf fun j hj=>by rw[uG hj]
  rw[e1];by_cases hk:i < k
  ·rw[uG hk] at e ⊢;exact e
  ·rw[if_neg hk];rw[if_neg (by have:=xM h (show k<=i by lia);lia)] at e;exact e
 unit i hi j hj:=by
  rw[B.unit _ (xK h ht hi) j hj];by_cases hk:i < k
  ·rw[uG hk]
  ·have:=xM h (show k<=i by lia);rw[if_neg (by lia),if_neg (by lia)]
theorem lO.rot (E:lO a m k P p l d) (h:k<=t) (ht:t < m):lO a m k P p (fun i=>l (ug k t i)) d where
 km:=E.km
 d0:=E.d0
 unit i hi j hj:=by
  rw[E.unit _ (xK h ht hi) j hj];by_cases hk:i < k
  ·rw[uG hk]
  ·have:=xM h (show k<=i by lia);rw[if_neg (by lia),if_neg (by lia)]
 inc:=E.inc
 low:=E.low
 zero i h1 h2 c hc:=E.zero _ (xM h h1) (xK h ht h2) c hc
 lead j hj c hc:=by rw[uG hj];exact E.lead j hj c hc
 there i hi:=eH.trans (fun s hs=>eH.congr (fun c=>by rw[Q3 h]) (eH.row (a:=fun i=>l (ug k t i)) (i:=EO k t s) (Q5 h ht hs))) (E.there i hi)
 back i hi:=E.back _ (xK h ht hi)
end
section
variable {rows fs ls:List (List Rat)} {n P w a:Nat} {ps:List Nat}
theorem Ms {k i:Nat}:kM k k i=i:=by unfold kM;split <;> (try split) <;> lia
theorem BH.rot (h:BH rows n P (fs++ls) ps) (hf:fs.length=ps.length) {t:Nat} (ht:t < ls.length):BH rows n P (fs++ls.getD t [] :: ls.eraseIdx t) ps:=by
 obtain ⟨len,wide,pm,l,d,B,E,v⟩:=h;rw[ak] at len;have h1:ps.length<=ps.length+t:=by lia
 have h2:ps.length+t < rows.length:=by lia
 have ef:∀i,i < rows.length->∀c,cn (fs++ls.getD t [] :: ls.eraseIdx t) i c=cn (fs++ls) (ug ps.length (ps.length+t) i) c:=fun i hi c=>by
  by_cases z:i < ps.length
  ·rw[uG z,BF (by lia),BF (by lia)]
  ·obtain ⟨j,rfl⟩:∃j,i=fs.length+j:=⟨i - fs.length,by lia⟩;rw[xA];cases j with
   | zero =>
    rw[show ug ps.length (ps.length+t) (fs.length+0)=fs.length+t by unfold ug;rw[if_neg (by lia),if_pos (by lia)];lia,xA];rfl
   | succ j =>
    by_cases y:j < t
    ·rw[show ug ps.length (ps.length+t) (fs.length+(j+1))=fs.length+j by unfold ug;rw[if_neg (by lia),if_neg (by lia),if_pos (by lia)];lia,xA];show cn (ls.eraseIdx t) j c=_
     unfold cn;rw[aa (l:=ls.eraseIdx t),List.getElem?_eraseIdx_of_lt y,<- aa]
    ·rw[show ug ps.length (ps.length+t) (fs.length+(j+1))=fs.length+(j+1) by unfold ug;rw[if_neg (by lia),if_neg (by lia),if_neg (by lia)],xA];show cn (ls.eraseIdx t) j c=_
     unfold cn;rw[aa (l:=ls.eraseIdx t),List.getElem?_eraseIdx_of_ge (by lia),<- aa]
 refine ⟨?_,fun xs hx=>?_,fun i=>pm (ug ps.length (ps.length+t) i),fun i=>l (ug ps.length (ps.length+t) i),d,B.rot h1 h2,E.rot h1 h2,fun i hi c=>?_⟩
 ·rw[ak,aZ,OJ ht];lia
 ·rcases au.mp hx with hx | hx
  ·exact wide xs (au.mpr (.inl hx))
  ·rcases aF.mp hx with rfl | hx
   ·exact wide _ (au.mpr (.inr (getD_in ht)))
   ·exact wide xs (au.mpr (.inr (QD hx)))
 ·rw[ef i hi c,v _ (xK h1 h2 hi) c];by_cases z:i < ps.length
  ·dsimp only
   rw[uG z]
  ·rw[if_neg z,if_neg (by have:=xM h1 (show ps.length<=i by lia);lia)]
def rR (P:Nat) (h:List Rat):List Rat:=h.map fun y=>1 / h.getD P 0*y
def Bj (P:Nat) (u r:List Rat):List Rat:=List.zipWith (fun x y=>x - y) r (u.map fun y=>r.getD P 0*y)
theorem BH.lean (h:BH rows n P (fs++ls) ps) (hf:fs.length=ps.length) {t:Nat} (ht:t < ls.length) (hP:P < n) (hne:(ls.getD t []).getD P 0≠0):BH rows n (P+1) ((fs.map (Bj P (rR P (ls.getD t [])) )++[rR P (ls.getD t [])])++(ls.eraseIdx t).map (Bj P (rR P (ls.getD t [])))) (ps++[P]):=by
 have R:=h.rot hf ht;have len:=R.len;have wide:=R.wide;generalize ls.getD t []=hd at *
 generalize ls.eraseIdx t=l2 at *
 rw[ak,aZ] at len;have whd:hd.length=n:=wide _ (au.mpr (.inr (.head _)));have wu:(rR P hd).length=n:=by unfold rR;rw[aj];exact whd
 have ek:cn (fs++hd :: l2) ps.length=fun c=>hd.getD c 0:=by
  have:=xA (X:=fs) (Y:=hd :: l2) (i:=0);rw[show fs.length+0=ps.length by lia] at this;rw[this];rfl
 have wl:∀r,r.length=n->(Bj P (rR P hd) r).length=n:=fun r hr=>by unfold Bj;rw[cz,aj,wu,hr];lia
 have vl:∀r,r.length=n->∀c,(Bj P (rR P hd) r).getD c 0=r.getD c 0 - r.getD P 0*(1 / hd.getD P 0*hd.getD c 0):=fun r hr c=>by
  unfold Bj;rw[P9 (by rw[aj,wu,hr]),LC];unfold rR;rw[LC]
 refine R.step (t:=ps.length) (aw _) (by rw[ak,aZ];lia) (by rw[ek];exact hne) ?_ ?_ fun i hi c=>?_
 ·rw[ak,ak,aj,aj,bx];lia
 ·intro xs hx;rcases au.mp hx with hx | hx
  ·rcases au.mp hx with hx | hx
   ·obtain ⟨r,hr,rfl⟩:=aB.mp hx;exact wl r (wide r (au.mpr (.inl hr)))
   ·rw[bF.mp hx];exact wu
  ·obtain ⟨r,hr,rfl⟩:=aB.mp hx;exact wl r (wide r (au.mpr (.inr (.tail _ hr))))
 ·rw[Ms,ek]
  dsimp only
  have lf:(fs.map (Bj P (rR P hd))).length=ps.length:=by rw[aj];exact hf
  have key:∀{X:List (List Rat)} {s:Nat} (hs:s < X.length) (_:∀r∈X,r.length=n),cn (X.map (Bj P (rR P hd))) s c=cn X s c - cn X s P*(1 / hd.getD P 0*hd.getD c 0):=fun {X s} hs hX=>by
   unfold cn;have e1:(X.map (Bj P (rR P hd))).getD s []=Bj P (rR P hd) X[s]:=by rw[aa,aG,af hs];rfl
   have e2:X.getD s []=X[s]:=by rw[aa,af hs];rfl
   rw[e1,e2];exact vl _ (hX _ (aQ hs)) c
  rcases qS i ps.length with z | z | z
  ·rw[if_neg (by lia),b9,BF (by lia),BF (by lia),key (by lia) fun r hr=>wide r (au.mpr (.inl hr))]
  ·rw[if_pos z,b9,show i=(fs.map (Bj P (rR P hd))).length+0 by lia,xA];show (rR P hd).getD c 0=_
   unfold rR;rw[LC]
  ·rw[if_neg (by lia)];obtain ⟨j,rfl⟩:∃j,i=ps.length+1+j:=⟨i - ps.length - 1,by lia⟩
   have e1:cn (fs++hd :: l2) (ps.length+1+j)=cn l2 j:=by
    have:=xA (X:=fs) (Y:=hd :: l2) (i:=j+1);rw[show fs.length+(j+1)=ps.length+1+j by lia] at this;rw[this];rfl
   have e2:cn ((fs.map (Bj P (rR P hd))++[rR P hd])++l2.map (Bj P (rR P hd))) (ps.length+1+j)=cn (l2.map (Bj P (rR P hd))) j:=by
    have:=xA (X:=fs.map (Bj P (rR P hd))++[rR P hd]) (Y:=l2.map (Bj P (rR P hd))) (i:=j);rw[ak,lf,bx] at this;exact this
   rw[e1,e2,key (by lia) fun r hr=>wide r (au.mpr (.inr (.tail _ hr)))]
end
theorem xQ {α β:Type} {F:α->β->Prop}:∀{l1:List α} {l2:List β} (_:Paired F l1 l2) (i:Nat),Paired F (l1.eraseIdx i) (l2.eraseIdx i)
 | _,_,.nil,_=>.nil
 | _,_,.cons _ r,0=>r
 | _,_,.cons h r,i+1=>.cons h (xQ r i)
theorem PR {xs:List Rat} {i c:Nat}:c∈NC xs i↔c < i/\xs.getD c 0≠0:=by
 unfold NC;rw[Mi,xg];simp
theorem bL.toE {K:PySem.W.Frag} {H0 H:Hp} {l:Addr} {rows:List (List Rat)} (h:bL K H0 H l rows):∃us,H l=some (.lst us)/\Paired (rz K (fun q=>H0 q=none/\q≠l) H) rows us:=by
 obtain ⟨us,g,pr,nn⟩:=h;exact ⟨us,g,uK (fun xs v hv ⟨q,e,a,b⟩=>⟨q,e,⟨a,fun z=>nn (by rw[<- z,<- e];exact hv)⟩,b⟩) pr⟩
theorem CB {α:Type} {v:α}:∀{l:List α},l.Nodup->v∉l->∀j,(l.set j v).Nodup
 | [],_,_,_=>qU
 | a :: l,h,hn,0=>by
  rw[eC] at h;rw[List.set_cons_zero,eC];exact ⟨fun z=>hn (.tail _ z),h.2⟩
 | a :: l,h,hn,j+1=>by
  rw[eC] at h;rw[List.set_cons_succ,eC];refine ⟨fun z=>?_,CB h.2 (fun z=>hn (.tail _ z)) j⟩;rcases cJ z with z | z
  ·exact h.1 z
  ·exact hn (by rw[z];exact .head _)
structure kH (K:PySem.W.Frag) (A:Addr->Prop) (H:Hp) (n:Nat) (C:V->Rat->Prop) (m p l b q0:Addr) (us ws vs:List V):Prop where
 bag:iC H b
 inn:Inner H b q0
 gm:H m=some (.lst us)
 gp:H p=some (.lst ws)
 gl:H l=some (.lst vs)
 lm:us.length=n
 row:∀x∈us++vs++ws,fH K A H n (C x) x
 nd:(us++vs++ws).Nodup
section
variable {K:PySem.W.Frag} {A:Addr->Prop} {H H':Hp} {n:Nat} {C C':V->Rat->Prop} {m p l b q0 q:Addr} {us ws vs zs:List V} {y:Rat} {v:V}
theorem kH.same (h:kH K A H n C m p l b q0 us ws vs) (e:aJ H H'):kH K A H' n C m p l b q0 us ws vs :=
 ⟨h.bag.same e,(e.upto (p:=b)).2 _ h.inn,e _ _ h.gm,e _ _ h.gp,e _ _ h.gl,h.lm,fun x hx=>(h.row x hx).same e,h.nd⟩
theorem kH.upto (h:kH K A H n C m p l b q0 us ws vs) (M:Fu A m p l b q0) (u:dg b H H') (B':iC H' b):kH K A H' n C m p l b q0 us ws vs :=
 ⟨B',u.2 _ h.inn,u.other M.mb h.gm,u.other M.pb h.gp,u.other M.lb h.gl,h.lm,fun x hx=>(h.row x hx).upto u h.bag M.ab,h.nd⟩
theorem kH.weak (h:kH K A H n C m p l b q0 us ws vs) (w:∀x∈us++vs++ws,∀y,C x y->C' x y):kH K A H n C' m p l b q0 us ws vs :=
 ⟨h.bag,h.inn,h.gm,h.gp,h.gl,h.lm,fun x hx=>(h.row x hx).weak (fun _ z=>z) (w x hx),h.nd⟩
theorem kH.put (h:kH K A H n C m p l b q0 us ws vs) (M:Fu A m p l b q0) (aq:A q) (hq:H q=some (.lst zs)) (hv:cx K H y v) (hc:C (.ref q) y) (j:Nat):kH K A (upd H q (.lst (zs.set j v))) n C m p l b q0 us ws vs:=by
 have ne:∀{z},¬A z->z≠q:=fun h e=>h (by rw[e];exact aq)
 refine ⟨h.bag.upd h.inn (ne M.ab).symm (ne M.aq).symm,h.inn.upd (ne M.ab).symm,by rw[bJ (ne M.am)];exact h.gm,by rw[bJ (ne M.ap)];exact h.gp,by rw[bJ (ne M.al)];exact h.gl,h.lm,fun x hx=>?_,h.nd⟩;by_cases e:x=.ref q
 ·subst e;exact (h.row _ hx).put hq hv hc j
 ·obtain ⟨q1,qs,rfl,a1,r1,l1,c1⟩:=h.row x hx;exact ⟨q1,qs,rfl,a1,r1.updL hq (fun z=>e (by rw[z])),l1,c1⟩
theorem kH.set (h:kH K A H n C m p l b q0 us ws vs) (M:Fu A m p l b q0) (hx:fH K A H n (C v) v) (hn:v∉us++vs++ws) (j:Nat):kH K A (upd H m (.lst (us.set j v))) n C m p l b q0 (us.set j v) ws vs:=by
 have mem:∀x∈us.set j v++vs++ws,x=v\/x∈us++vs++ws:=fun x hx=>by
  rcases au.mp hx with hx | hx
  ·rcases au.mp hx with hx | hx
   ·rcases cJ hx with hx | hx
    ·exact .inr (by simp [hx])
    ·exact .inl hx
   ·exact .inr (by simp [hx])
  ·exact .inr (by simp [hx])
 refine ⟨h.bag.upd h.inn M.mb M.mq,h.inn.upd M.mb,aK,by rw[bJ M.mp.symm];exact h.gp,by rw[bJ M.ml.symm];exact h.gl,by rw[eE];exact h.lm,fun x hx'=>?_,?_⟩
 ·rcases mem x hx' with rfl | hx'
  ·exact hx.other h.gm M.am
  ·exact (h.row x hx').other h.gm M.am
 ·have nd:=h.nd;rw[b9] at nd hn ⊢;obtain ⟨n1,n2,n3⟩:=dN.mp nd;refine dN.mpr ⟨?_,n2,fun a ha c hc=>?_⟩
  ·rcases cP j us.length with z | z
   ·exact CB n1 (fun z'=>hn (au.mpr (.inl z'))) j
   ·rw[List.set_eq_of_length_le z];exact n1
  ·rcases cJ ha with ha | rfl
   ·exact n3 a ha c hc
   ·exact fun z=>hn (au.mpr (.inr (by rw[z];exact hc)))
end
theorem Ik {M W:Nat} {x:Rat} (h0:0 < M) (h1:M<=2^800) (hW:W<=2^140) (h:Fr M W x):ot x :=
 GN h0 (ai h1 (av (by decide) (by decide))) (ai hW (av (by decide) (by decide))) h
theorem Nr {t V c:Nat} (ht:t<=3) (hV:V<=2^20) (hc:c<=9):c*(9^t*V)<=2^140:=by
 have h1:9^t<=9^3:=av (by decide) ht;have h2:c*(9^t*V)<=9*(9^3*2^20):=aL hc (aL h1 hV);exact ai h2 (ai (show 9*(9^3*2^20)<=2^40 by decide) (av (by decide) (by decide)))
theorem sP {α:Type} {l:List α} {v:α} (h:l.Nodup) (hn:v∉l):(l++[v]).Nodup:=dN.mpr ⟨h,by simp,fun a ha c hc=>by rw[bF.mp hc];exact fun z=>hn (by rw[<- z];exact ha)⟩
section
variable {K:PySem.W.Frag} {a:Addr} {xs:List V} {g:TG} {tf:TT} {te:TE} {Q:VK} {σ₀:St} {H:Hp} {α β:Type}
theorem CU {n:Nat} {b:Addr} (G:Hp->β->V->Prop) (C:β->Prop) (hB:iC H b) (hl:n<=1000) (hG:∀{H' H'' c x},G H' c x->dg b H' H''->iC H' b->G H'' c x)
  (hA:∀{H' c x},G H' c x->∃q,x=V.ref q/\H' q≠none)
  (hs:∀(i:Nat) H' NY NN,i < n->dg b H H'->iC H' b->(∀y c H2,dg b H' H2->iC H2 b->C c->G H2 c y->(∃q,y=V.ref q/\H' q=none)->NY y H2)->wA σ₀ g tf te (.int i) H' NY NN)
  (hd:∀ys cs H' p,H p=none->dg b H H'->iC H' b->H' p=some (.lst ys)->cs.length=n->ys.Nodup->(∀c∈cs,C c)->Paired (G H') cs ys->(∃H2,H2 p=none/\Paired (G H2) cs ys)->Q (.ref p) H'):xf (Fz 0 n) σ₀ g tf te Q H:=by
 refine oY (fun i ys H'=>dg b H H'/\iC H' b/\∃cs,cs.length=i/\ys.Nodup/\(∀c∈cs,C c)/\Paired (G H') cs ys) (aS (bG (by lia))) ⟨(aJ.refl _).upto,hB,[],rfl,qU,(fun _ z=>nomatch z),.nil⟩ ?_ ?_
 ·rintro i ys H' hi hlen ⟨u,B,cs,lc,nd,hc,pr⟩;rw[AB];refine hs i H' _ _ hi u B fun y c H2 u2 B2 cc gy ⟨q,ey,nq⟩=>⟨u.trans u2,B2,cs++[c],by simp [lc],sP nd (fun z=>by obtain ⟨c',_,gc⟩:=dk pr z;obtain ⟨q',e',h'⟩:=hA gc;rw[ey] at e';cases e';exact h' nq),Ef hc cc,bT (Paired.imp' (fun _ _ z=>hG z u2 B) pr) (.cons gy .nil)⟩
 ·rintro ys H' hy ⟨u,B,cs,lc,nd,hc,pr⟩ p hp;have s:aJ H' (upd H' p (.lst ys)):=aJ.new hp;exact hd ys cs _ p (u.none B hp) (u.same s) (B.same s) aK lc nd hc (Paired.imp' (fun _ _ z=>hG z s.upto B) pr) ⟨H',hp,pr⟩
end
structure GY (K:PySem.W.Frag) (A:Addr->Prop) (n:Nat) (C:Rat->Prop) (m p l b q0:Addr) (us ws vs:List V) (H0 H:Hp):Prop where
 mix:kH K A H n (fun _=>C) m p l b q0 us ws vs
 gp:H p=some (.lst ws)
 gl:H l=some (.lst vs)
 kp:jf A b m H0 H
section
variable {K:PySem.W.Frag} {A:Addr->Prop} {n:Nat} {C:Rat->Prop} {m p l b q0 q:Addr} {us ws vs:List V} {H0 H H':Hp} {y:Rat} {v:V}
theorem GY.same (h:GY K A n C m p l b q0 us ws vs H0 H) (e:aJ H H'):GY K A n C m p l b q0 us ws vs H0 H':=⟨h.mix.same e,e _ _ h.gp,e _ _ h.gl,h.kp.same e⟩
theorem GY.upto (h:GY K A n C m p l b q0 us ws vs H0 H) (M:Fu A m p l b q0) (u:dg b H H') (B:iC H' b):GY K A n C m p l b q0 us ws vs H0 H':=⟨h.mix.upto M u B,u.other M.pb h.gp,u.other M.lb h.gl,h.kp.upto u⟩
theorem GY.row (h:GY K A n C m p l b q0 us ws vs H0 H) {x:V} (hx:x∈ws\/x∈vs):fH K A H n C x:=h.mix.row x (by rcases hx with hx | hx <;> simp [hx])
theorem GY.put (h:GY K A n C m p l b q0 us ws vs H0 H) (M:Fu A m p l b q0) (hx:V.ref q∈ws\/V.ref q∈vs) (hv:cx K H y v) (hc:C y) (j:Nat):∃zs,H q=some (.lst zs)/\zs.length=n/\GY K A n C m p l b q0 us ws vs H0 (upd H q (.lst (zs.set j v))):=by
 obtain ⟨q',zs,qs,e,a,g,lz,_⟩:=(h.row hx).at;cases e;have ne:∀{z},¬A z->z≠q:=fun h e=>h (by rw[e];exact a)
 exact ⟨zs,g,lz,h.mix.put M a g hv hc j,by rw[bJ (ne M.ap)];exact h.gp,by rw[bJ (ne M.al)];exact h.gl,h.kp.upd (.inl a)⟩
end
def Kr (K:PySem.W.Frag):Sp:=fun vs H Q _=>∃(b:Addr) (n w:Nat) (way first:Int),vs=[.ref b,.int n,.int way,.int first,.int w]/\iC H b/\n<=8/\1<=w/\w<=1000000 /\
 ∀r us H',H r=none->H' r=some (.lst us)->us.length=n->us.Nodup->(∀x∈us,fH K (fun q=>H q=none/\q≠r) H' n (Dr (max w 6)) x)->iC H' b->dg b H H'->Q (.ref r) H'
def PtF (n i o w c:Nat) (mv pt lk:List (List Rat)):Prop:=∃M V1:Nat,0 < M/\GF M V1 mv/\GF M V1 pt/\GF M V1 lk/\((w<=9/\M=2520/\V1=9^3*9)\/(9 < w/\M<=2^(c*((n+i+o)*n))/\V1=9^3*2^c))
def Ks (K:PySem.W.Frag):Sp:=fun vs H Q _=>∃(b:Addr) (n:Nat),vs=[.ref b,.int n]/\iC H b/\1<=n/\n<=8 /\
 ∀r mv pt lk H',fE K H H' r mv pt lk->mv.length=n->pt.length=1->lk.length=1->jk mv pt lk->GF 1 1 mv->GF 1 1 pt->GF 1 1 lk->iC H' b->dg b H H'->Q (.ref r) H'
theorem pM {mv pt:List (List Rat)} {M V1 a c n0:Nat} (M0:0 < M) (hM:M<=2^a) (hn:mv.length<=n0) (hV:(n0+1)*V1<=2^c) (fm:GF M V1 mv) (fp:GF M V1 pt) (h4:a<=400/\c<=40/\n0*(n0*(a+c)+4)<=1740/\n0*(n0*(n0*(a+c)+4)+a+c+4)<=8900):mV mv pt a c:=by
 obtain ⟨h1,h2,h3,h5⟩:=h4;have e1:mv.length*(a+c)<=n0*(a+c):=az _ hn;have e2:mv.length*(mv.length*(a+c)+4)<=n0*(n0*(a+c)+4):=aL hn (by lia);have e3:mv.length*(mv.length*(mv.length*(a+c)+4)+a+c+4)<=n0*(n0*(n0*(a+c)+4)+a+c+4):=aL hn (by lia);exact ⟨M,V1,M0,hM,ai (az _ (by lia)) hV,fm,fp,h1,h2,by lia,by lia⟩
def Mu (K:PySem.W.Frag):Sp:=fun vs H Q _=>∃b:Addr,vs=[.ref b]/\iC H b /\
 ∀r mv pt lk H',fE K H H' r mv pt lk->6<=mv.length->jk mv pt lk->GF 1 (9^3) mv->GF 1 (9^3) pt->GF 1 (9^3) lk->iC H' b->dg b H H'->Q (.ref r) H'
theorem Lq {mv pt R R':List (List Rat)} {n t:Nat} {ps ps':List Nat} (lm:mv.length=n) (wm:∀xs∈mv,xs.length=n) (wp:∀xs∈pt,xs.length=n) (RR:bZ (kry mv pt t) n R ps) (RR':bZ (kry mv pt (t+1)) n R' ps'):bZ (pt++R.map (sJ mv)) n R' ps':=by
 have wk:=e8 (mv:=mv) lm wp t;refine ⟨RR'.1,RR'.2.1,RR'.2.2.other ?_ ?_⟩
 ·refine xH (fun i hi=>uC hi) fun i hi=>rF ?_
  rw[aj] at hi;have:=RR.2.2.span i hi;rw[<- RR.1] at this;exact AK lm wm wk RR.2.1 hi this
 ·refine xH (fun i hi=>uC hi) fun i hi=>rF ?_
  rw[aj] at hi;exact AK lm wm RR.2.1 wk hi (RR.2.2.back i (by rw[<- RR.1];exact hi))
theorem D5 {rs:List Nat} {v v':Nat->hJ}:∀{k:Nat} (pre:List hJ),(∀j,j < k->∀r∈rs,v j r=v' j r)->ji rs (pre++iB v k)=ji rs (pre++iB v' k)
 | 0,_,_=>rfl
 | k+1,pre,h=>by
  show ji rs (pre++v k :: iB v k)=ji rs (pre++v' k :: iB v' k)
  rw[LO (h k (by lia))];have:=D5 (k:=k) (pre++[v' k]) fun j hj=>h j (by lia)
  simpa using this
theorem Oo {F G:List hJ->Rat} {r:Nat} {σ:Nat->Nat} (hF:∀ws:List hJ,F (ws.map fun v i=>v (σ i))=G ws):∀(post pre:List hJ) (s:Rat),Aa F r (pre.map fun v i=>v (σ i)) (post.map fun v i=>v (σ i)) s=Aa G (σ r) pre post s
 | [],_,_=>rfl
 | v :: post,pre,s=>by
  have i1:=hF (pre++post);have i2:=Oo (r:=r) hF post (pre++[v]) (-s);simp only[cI,fV,IF,Aa] at i1 i2 ⊢;rw[i1,i2]
theorem OD {σ:Nat->Nat}:∀(rs:List Nat) (vs:List hJ),ji rs (vs.map fun v i=>v (σ i))=ji (rs.map σ) vs
 | [],[]=>rfl
 | [],_ :: _=>rfl
 | r :: rs,vs=>Oo (fun ws=>OD rs ws) vs [] 1
theorem KL {σ:Nat->Nat}:∀{k:Nat},(kL (fun i=>i) k).map σ=kL σ k
 | 0=>rfl
 | k+1=>by show σ k :: _=_;rw[KL];rfl
theorem cw_map {τ:hJ->hJ} {v:Nat->hJ}:∀{k:Nat},(iB v k).map τ=iB (fun j=>τ (v j)) k
 | 0=>rfl
 | k+1=>by show τ (v k) :: _=_;rw[cw_map];rfl
theorem Qd {σ:Nat->Nat} {v:Nat->hJ} {k:Nat}:ji (kL σ k) (iB v k)=ji (kL (fun i=>i) k) (iB (fun j i=>v j (σ i)) k):=by
 rw[<- KL,<- OD,cw_map]
theorem LN {N : Nat} {W : Nat → Nat} : ∀ {rs : List Nat} {vs : List hJ}, vs.length ≤ N → (∀ v ∈ vs, ∀ r ∈ rs, Fr 1 (W r) (v r)) → Fr 1 ((rs.map fun r => N * W r).foldr (· * ·) 1) (ji rs vs)
  | [], [], _, _ => by show Fr 1 1 1; exact (Fr.int (i := 1) (by decide))
  | [], _ :: _, _, _ => by show Fr 1 _ 0; exact Fr.zero
  | r :: rs, vs, hl, h => by
    have := Lj (F := fun ws => ji rs ws) (r := r) (B := (rs.map fun r => N * W r).foldr (· * ·) 1) (W := W r) (post := vs) (pre := []) (s := 1) (fun ws h1 h2 => LN (by rw [dh] at h2; lia) fun v hv r' hr' => h v (by simpa using h1 v hv) r' (.tail _ hr')) (fun w hw => h w hw r (.head _)) (Fr.int (i := 1) (by decide));refine this.mono ?_;show _ ≤ N * W r * _
    rw [cL N];exact az _ hl
structure Vb (r n:Nat) (Pm Y Z:Nat->Nat->Rat) (d:Rat) (W:Nat):Prop where
 d0:d≠0
 det:d=ji (kL (fun i=>i) r) (iB (fun j i=>Pm i j) r)
 eq:∀i,i < r->∀c,c < n->Z i c=bY r fun s=>Pm i s*Y s c
 pf:∀i,i < r->∀s,s < r->Fr 1 W (Pm i s)
 zf:∀i,i < r->∀c,c < n->Fr 1 W (Z i c)
section
variable {rows fs ls:List (List Rat)} {n r M W Wv Wb k P:Nat} {Pm Y Z B E a:Nat->Nat->Rat} {d:Rat} {ps:List Nat} {rs:List (List Rat)}
def SS (rows:List (List Rat)) (n S:Nat):Prop:=2*S<=3990/\∃J:Nat->List (List Rat)->List Nat->Prop,J 0 rows []/\(∀P rs ps,J P rs ps->(∀i,ps.length<=i->i < rs.length->cn rs i P=0)->J (P+1) rs ps) /\
 (∀P fs ls ps t,J P (fs++ls) ps->fs.length=ps.length->t < ls.length->P < n->(ls.getD t []).getD P 0≠0->J (P+1) ((fs.map (Bj P (rR P (ls.getD t [])) )++[rR P (ls.getD t [])])++(ls.eraseIdx t).map (Bj P (rR P (ls.getD t [])))) (ps++[P])) /\
 (∀P rs ps,J P rs ps->BH rows n P rs ps)/\∀P rs ps,J P rs ps->P<=n->∀i,i < rows.length->∃D:Nat,0 < D/\D<=2^S/\∀c,Tp D (2^S) (cn rs i c)
theorem OG.lws {w a:Nat} (F:OG rows n w a) (hw:∀xs∈rows,xs.length=n):SS rows n (min rows.length n*(w+4)+a):=by
 obtain ⟨_,_,_,_,_,_,_,_,e⟩:=id F;refine ⟨e,BH rows n,BH.start hw,fun _ _ _ h z=>h.skip z,fun _ _ _ _ _ h hf ht hP hne=>h.lean hf ht hP hne,fun _ _ _ h=>h,fun P rs ps h hP i hi=>?_⟩;obtain ⟨D,D0,D1,D2⟩:=h.sz F hP hi;exact ⟨D,D0,D1,fun c=>(D2 c).mono (av (by decide) (by lia))⟩
end
section
variable {rows R R1 R2 mv pt:List (List Rat)} {n r M V1 W W' Wv Wb k P:Nat} {Pm Y Z B E a:Nat->Nat->Rat} {d:Rat} {ps ps1 ps2:List Nat} {rs:List (List Rat)}
theorem Ke (h0:0 < M) (h3:∀xs∈rows,∀x∈xs,Tp M W x):∀i,i < rows.length->∀c,Fr 1 W (d6 (rows.map gX) i c):=fun i hi c=>by
 have hx:=getD_in (e:=[]) hi;rw[AE hi];unfold cn;generalize rows.getD i []=xs at hx ⊢;by_cases hc:c < xs.length
 ·have t:=h3 xs hx _ (getD_in (e:=0) hc);obtain ⟨s,e,b⟩:=yN t h0 (rS (xs:=xs)) (rT (aB.mpr ⟨_,getD_in (e:=0) hc,rfl⟩)) (As h0 (h3 xs hx));rw[dI,e];exact Fr.int b
 ·rw[aa,aM (by lia)];show Fr 1 W (_*0)
  rw[dQ];exact Fr.zero
theorem Vb.of (hw:∀xs∈rows,xs.length=n) (hW:1<=W) (h0:0 < M) (h3:∀xs∈rows,∀x∈xs,Tp M W x) (RR:bZ rows n R ps):∃Pm Z d,Vb ps.length n Pm (cn R) Z d W:=by
 have ent:=Ke h0 h3;obtain ⟨ls,ps2,d,I⟩:=yP hw hW (by rw[aj];exact ent) n (aw _);obtain ⟨_,_,⟨pm,B⟩,E⟩:=I;rw[aj] at B E
 have RF:C7 rows.length n (cn rows) ps2.length (fun j=>ps2.getD j 0) (fun i c=>d6 ls i c / d):=C7.other (E.done fun i hi c hc=>xv (n:=n) (fun zs hz=>by
  obtain ⟨xs,hx,rfl⟩:=aB.mp hz;rw[rE];exact hw xs hx) hc) Af Ag
 obtain ⟨e1,e2,e3⟩:=RF.uniq RR.2.2 (fun _ hi=>eH.row hi) (fun _ hi=>eH.row hi);refine ⟨fun i s=>d6 (rows.map gX) (pm i) (ps2.getD s 0),fun i c=>d6 (rows.map gX) (pm i) c,d,?_⟩;rw[<- e1];have km:=B.km;refine ⟨B.d0,?_,fun i hi c hc=>?_,fun i hi s hs=>ent _ (B.rng i (by lia)) _,fun i hi c hc=>ent _ (B.rng i (by lia)) _⟩
 ·rw[B.det];exact Qd
 ·have:=B.coef (i:=i) (c:=c) (by lia);rw[if_pos hi,qR] at this;rw[this];exact bf fun s hs=>by rw[<- e3 s hs c];exact dI _ _
theorem LG {V:Nat} {f:Nat->Rat}:∀{k:Nat},(∀j,j < k->Fr 1 V (f j))->Fr 1 (k*V) (bY k f)
 | 0,_=>Fr.zero
 | k+1,h=>by
  rw[dR];exact (LG fun j hj=>h j (by lia)).add (h k (by lia))
theorem yQ {f:Nat->Rat} {a:Nat}:∀{b:Nat},bY (a+b) f=bY a f+bY b fun t=>f (a+t)
 | 0=>by show bY a f=bY a f+0;grind
 | b+1=>by
  show bY (a+b) f+f (a+b)=_+(bY b _+f (a+b))
  rw[yQ];grind
end
section
variable {rows R R1 R2 mv pt:List (List Rat)} {n t t2 a c:Nat} {ps ps1 ps2:List Nat}
theorem MM (RR:bZ rows n R ps):bZ R n R ps:=⟨RR.1,RR.2.1,RR.2.2.other (fun i hi=>by rw[RR.1];exact RR.2.2.span i hi) (fun i hi=>RR.2.2.back i (by rw[<- RR.1];exact hi))⟩
theorem MO (RR:bZ rows n R ps) (e:ps.length=n) {i:Nat} (hi:i < n) (c:Nat):cn R i c=if c=i then 1 else 0:=by
 have lo:∀j,j < n->j<=ps.getD j 0:=by
  intro j
  induction j with
  | zero=>intro _;exact bA _
  | succ j ih =>
   intro hj;have:=ih (by lia);have:=RR.2.2.inc j (j+1) (by lia) (by lia)
   lia
 have hi2:∀s j,j+s+1=n->ps.getD j 0<=j:=by
  intro s
  induction s with
  | zero =>
   intro j hj;have:=RR.2.2.low j (by lia)
   lia
  | succ s ih =>
   intro j hj;have:=ih (j+1) (by lia);have:=RR.2.2.inc j (j+1) (by lia) (by lia)
   lia
 have ep:∀j,j < n->ps.getD j 0=j:=fun j hj=>Mg (hi2 (n - 1 - j) j (by lia)) (lo j hj)
 by_cases hc:c < n
 ·have:=RR.2.2.unit i (by lia) c (by lia);rw[ep c hc] at this;rw[this];by_cases z:i=c
  ·rw[if_pos z,if_pos z.symm]
  ·rw[if_neg z,if_neg (Ne.symm z)]
 ·rw[xu RR.2.1 (by lia),if_neg (by lia)]
theorem An {M W:Nat} (h:∀i,i < rows.length->∀c,Tp M W (cn rows i c)):∀xs∈rows,∀x∈xs,Tp M W x:=fun xs hx x hx'=>by
 obtain ⟨i,hi,rfl⟩:=bQ hx;obtain ⟨c,hc,rfl⟩:=bQ hx';have:=h i hi c;unfold cn at this;rw[aa (l:=rows),af hi] at this;have e:(some rows[i]).getD []=rows[i]:=rfl;rw[e,aa,af hc] at this;exact this
theorem mV.vb (F:mV mv pt a c) (wm:∀xs∈mv,xs.length=mv.length) (wp:∀xs∈pt,xs.length=mv.length) (ht:t<=ps.length) (RR:bZ (kry mv pt t) mv.length R ps):∃Pm Z d w,Vb ps.length mv.length Pm (cn R) Z d (2^w)/\(ps.length < mv.length/\w=(mv.length - 1)*(a+c)\/ps.length=mv.length/\w=0):=by
 have le:=RR.le;rcases cP ps.length mv.length with z | z
 ·obtain ⟨M,V,M0,Ma,hV,fm,fp,_⟩:=F;have f:=GG rfl wm wp hV fm fp t
  obtain ⟨Pm,Z,d,vb⟩:=Vb.of (e8 rfl wp t) (ck (n:=(mv.length - 1)*(a+c))) (kN M0 (n:=t)) (fun xs hx x hx'=>Tp.of (f xs hx x hx') (by
   refine ai (aX _ (jd Ma t)) ?_;rw[<- uu,<- bD];refine av (by decide) ?_;rw[<- C8,bX,qT c];exact az _ (by lia))) RR
  exact ⟨Pm,Z,d,_,vb,.inl ⟨z,rfl⟩⟩
 ·have e:ps.length=mv.length:=by lia
  obtain ⟨Pm,Z,d,vb⟩:=Vb.of (W:=2^0) (M:=1) RR.2.1 (by decide) (by decide) (An fun i hi c=>by
   rw[RR.1,e] at hi;rw[MO RR e hi c]
   split
   ·exact ⟨1,by rw[Rat.one_mul];rfl,by decide⟩
   ·exact ⟨0,by rw[fK];rfl,by decide⟩) (MM RR)
  exact ⟨Pm,Z,d,0,vb,.inr ⟨e,rfl⟩⟩
end
def FL (K:PySem.W.Frag):Sp:=fun vs H Q _=>∃(p:Addr) (n S:Nat) (H0:Hp) (rows:List (List Rat)),vs=[.ref p,.int n]/\bL K H0 H p rows/\rows.length<=100/\n<=100/\(∀xs∈rows,xs.length=n)/\SS rows n S /\
 ∀r R ps H',H r=none->aJ H H'->bL K H H' r R->bZ rows n R ps->ps.length<=rows.length->Q (.ref r) H'
section
variable {K:PySem.W.Frag} {a:Addr} {xs:List V} {g:TG} {tf:TT} {te:TE} {Q:VK} {σ₀:St} {H:Hp} {α β:Type}
theorem CP {as:List α} {F:Hp->α->V->Prop} (G:Hp->β->V->Prop) (f:α->β) (hx:H a=some (.lst xs)) (pf:Paired (F H) as xs) (hl:as.length<=1000)
  (hF:∀{H H' c x},F H c x->aJ H H'->F H' c x) (hG:∀{H H' c x},G H c x->aJ H H'->G H' c x) (hA:∀{H' c x},G H' c x->∃q,x=V.ref q/\H' q≠none)
  (hs:∀(i:Nat) c x H' NY NN,as[i]?=some c->aJ H H'->F H' c x->(∀y H2,aJ H' H2->G H2 (f c) y->(∃q,y=V.ref q/\H' q=none)->NY y H2)->wA σ₀ g tf te x H' NY NN)
  (hd:∀ys H' p,H p=none->aJ H H'->H' p=some (.lst ys)->ys.Nodup->(∀y∈ys,∃q,y=V.ref q/\H q=none/\q≠p)->Paired (G H') (as.map f) ys->Q (.ref p) H'):xf (N3 K a) σ₀ g tf te Q H:=by
 have lx:=pf.length;refine fQ (K:=K) (xs:=xs) (fun i ys H'=>aJ H H'/\ys.Nodup/\(∀y∈ys,∃q,y=V.ref q/\H q=none)/\Paired (G H') ((as.take i).map f) ys) (aS (bG (by lia))) ⟨aJ.refl _,qU,(fun _ z=>nomatch z),.nil⟩ (fun i ys H' _ ⟨s,_⟩=>bU.of (s _ _ hx)) ?_ ?_
 ·rintro i x ys H' hx' hlen ⟨s,nd,hn,pr⟩;obtain ⟨c,ec,hc⟩:=cE pf hx';refine hs i c x H' _ _ ec s (hF hc s) fun y H2 s2 gy ⟨q,ey,nq⟩=>⟨s.trans s2,sP nd (fun z=>?_),Ef hn ⟨q,ey,s.none nq⟩,?_⟩
  ·obtain ⟨c',_,gc⟩:=dk pr z;obtain ⟨q',e',h'⟩:=hA gc;rw[ey] at e';cases e';exact h' nq
  ·rw[take_snoc ec,cI];exact bT (Paired.imp' (fun _ _ z=>hG z s2) pr) (.cons gy .nil)
 ·rintro ys H' hy ⟨s,nd,hn,pr⟩ p hp;rw[aH (by lia)] at pr;refine hd ys _ p (s.none hp) (s.trans (aJ.new hp)) aK nd (fun y hy=>?_) (Paired.imp' (fun _ _ z=>hG z (aJ.new hp)) pr);obtain ⟨q,e,nq⟩:=hn y hy;refine ⟨q,e,nq,fun z=>?_⟩;obtain ⟨c',_,gc⟩:=dk pr hy;obtain ⟨q',e',h'⟩:=hA gc;rw[e] at e';cases e';exact h' (by rw[z];exact hp)
end
structure Sj (K:PySem.W.Frag) (H0 H:Hp) (n:Nat) (fd:Addr) (L:List (Addr×List V)):Prop where
 gf:H fd=some (.lst (L.map fun e=>V.ref e.1))
 nf:H0 fd=none
 ls:∀e∈L,H0 e.1=none/\e.1≠fd/\H e.1=some (.lst e.2)
 nd:(L.map fun e=>e.1).Nodup
 rows:∀e∈L,∀x∈e.2,fH K (fun q=>(H0 q=none/\q≠fd)/\q∉L.map fun e=>e.1) H n (Fr 1 1) x
 rd:(L.flatMap fun e=>e.2).Nodup
section
variable {K:PySem.W.Frag} {H0 H H1:Hp} {n:Nat} {fd q:Addr} {L:List (Addr×List V)} {us:List V}
theorem Sj.snoc (h:Sj K H0 H n fd L) (s0:aJ H0 H) (s:aJ H H1) (hq:H q=none) (gq:H1 q=some (.lst us)) (nd:us.Nodup) (hr:∀x∈us,fH K (fun z=>H z=none/\z≠q) H1 n (Fr 1 1) x):Sj K H0 (upd H1 fd (.lst ((L.map fun e=>V.ref e.1)++[.ref q]))) n fd (L++[(q,us)]):=by
 have qf:q≠fd:=fun z=>by rw[z,h.gf] at hq;cases hq
 have old:∀{z},z∈(L.map fun e=>e.1)->H z≠none:=fun hz=>by
  obtain ⟨e,he,rfl⟩:=aB.mp hz;rw[(h.ls e he).2.2];exact fun z=>nomatch z
 have g1:=s _ _ h.gf;refine ⟨by rw[aK,cI];rfl,h.nf,fun e he=>?_,?_,fun e he x hx=>?_,?_⟩
 ·rcases au.mp he with he | he
  ·obtain ⟨a,b,c⟩:=h.ls e he;exact ⟨a,b,by rw[bJ b];exact s _ _ c⟩
  ·rw[bF.mp he];exact ⟨s0.none hq,qf,by rw[bJ qf];exact gq⟩
 ·rw[cI];exact sP h.nd fun z=>old z hq
 ·have key:fH K (fun z=>(H0 z=none/\z≠fd)/\z∉(L++[(q,us)]).map fun e=>e.1) H1 n (Fr 1 1) x:=by
   rcases au.mp he with he | he
   ·obtain ⟨z,qs,e1,⟨e2,e3⟩,e4,e5⟩:=h.rows e he x hx;refine ⟨z,qs,e1,⟨e2,fun hz=>?_⟩,e4.same s,e5⟩;rw[cI] at hz;rcases au.mp hz with hz | hz
    ·exact e3 hz
    ·have hz:z=q:=bF.mp hz;obtain ⟨_,gg,_⟩:=e4;rw[hz,hq] at gg;cases gg
   ·rw[bF.mp he] at hx;refine (hr x hx).weak (fun z hz=>⟨⟨s0.none hz.1,fun y=>by rw[y] at hz;rw[h.gf] at hz;exact absurd hz.1 (fun w=>nomatch w)⟩,fun y=>?_⟩) (fun _ w=>w);rw[cI] at y;rcases au.mp y with y | y
    ·exact old y hz.1
    ·exact hz.2 (bF.mp y)
  exact key.other g1 (fun z=>z.1.2 rfl)
 ·rw[List.flatMap_append];refine dN.mpr ⟨h.rd,by simpa using nd,fun x hx y hy z=>?_⟩;obtain ⟨e,he,hx⟩:=List.mem_flatMap.mp hx;obtain ⟨w,qs,e1,_,⟨_,gg,_⟩,_⟩:=h.rows e he x hx;obtain ⟨w',_,e1',⟨hw,_⟩,_⟩:=hr y (by simpa using hy);rw[<- z,e1] at e1';cases e1';rw[hw] at gg;cases gg
end
def Gd (mv pt:List (List Rat)) (i:Nat) (R:List (List Rat)) (ps:List Nat):Prop:=bZ (kry mv pt i) mv.length R ps/\∃t,t<=ps.length/\t<=i/\bZ (kry mv pt t) mv.length R ps/\(t=i\/∀s,bZ (kry mv pt (t+s)) mv.length R ps)
section
variable {mv pt R R':List (List Rat)} {i:Nat} {ps ps':List Nat}
theorem Gd.start:Gd mv pt 0 [] []:=⟨Dz,0,aw _,aw _,Dz,.inl rfl⟩
theorem KH (wm:∀xs∈mv,xs.length=mv.length) (wp:∀xs∈pt,xs.length=mv.length) (h:bZ (kry mv pt i) mv.length R ps) (h':bZ (kry mv pt (i+1)) mv.length R' ps') (e:ps'.length=ps.length):∀s,bZ (kry mv pt (i+s)) mv.length R ps:=CJ rfl wm wp h (Lq rfl wm wp h h') e
theorem Gd.step (wm:∀xs∈mv,xs.length=mv.length) (wp:∀xs∈pt,xs.length=mv.length) (h:Gd mv pt i R ps) (h':bZ (kry mv pt (i+1)) mv.length R' ps'):Gd mv pt (i+1) R' ps'/\(mv.length<=i->R'=R):=by
 obtain ⟨h0,t,t1,t2,ht,hs⟩:=h
 have st:(∀s,bZ (kry mv pt (t+s)) mv.length R ps)->Gd mv pt (i+1) R' ps'/\(mv.length<=i->R'=R):=fun hs=>by
  have:=hs (i+1 - t);rw[show t+(i+1 - t)=i+1 by lia] at this;obtain ⟨rfl,rfl⟩:=this.same h';exact ⟨⟨h',t,t1,by lia,ht,.inr hs⟩,fun _=>rfl⟩
 rcases hs with rfl | hs
 ·have gr:=Fd rfl wm wp h0 h';by_cases e:ps'.length=ps.length
  ·exact st (KH wm wp h0 h' e)
  ·refine ⟨⟨h',t+1,by lia,aw _,h',.inl rfl⟩,fun hn=>?_⟩;have:=h'.le
   lia
 ·exact st hs
end
theorem KD:typeLookup (.type "list_reverseiterator") "__len__"=pure none:=by
 rw[typeLookup_type,builtinLookup_eq_fast]
 kernel_rfl
theorem MK:typeLookup (.type "list_reverseiterator") "__length_hint__"=pure (some (.builtin "list_reverseiterator.__length_hint__")):=by
 rw[typeLookup_type,builtinLookup_eq_fast]
 kernel_rfl
section
variable {prog:Program} {w:World} {A:Around} {E:Value->Shared->Prop} {s:Shared}
theorem MI {it l:Addr} {i:Int} {Q:Bool->Shared->Prop} (hit:s.heap.IsRevIter it l i) (q:Q false s):wpAny (model prog w) A (Builtin.List.listLengthHint (.ref it)) Q E s:=by
 unfold Builtin.List.listLengthHint;refine wpAny_bind (wpAny_specialOf hit.typeIs KD ?_);show wpAny _ A (specialOf (Value.ref it) (Str.ofString "__length_hint__") >>= _) Q E s
 refine wpAny_bind (wpAny_specialOf hit.typeIs MK ?_);generalize hid:("list_reverseiterator.__length_hint__":String)=id0
 dsimp only
 rw[show splitId id0=some ("list_reverseiterator","__length_hint__") from by subst hid;decide +kernel];subst hid;refine wpAny_bind (wpAny_isInstance (T:="list_reverseiterator") (b:=true) hit.typeIs (by rw[isSubtype_type];kernel_rfl) ?_);refine wpAny_ite_split (fun z=>absurd z (by decide)) (fun _=>?_);refine wpAny_ite_split (fun _=>?_) (fun z=>absurd (by decide +kernel) z);exact wpAny_ite_split (fun z=>absurd z (by decide +kernel)) (fun _=>wpAny_pure q)
theorem ML {R:Result->Shared->Prop} {I l S:Addr} {items:Array Value} {res:Value} {c0:Nat} (hh:A.handled=none) (hit:s.heap.IsRevIter I l ((items.size:Int) - 1)) (hl:s.heap.IsList l items) (nI:l≠I) (nS:S≠I) (nL:S≠l) (hn:items.size<=sizeLine) (hS:s.heap.get? S=some { cls:=.type "list",data:=.seq #[] c0 })
  (hR:∀h' tk acc c,(∀b o,b≠S->b≠I->s.heap.get? b=some o->h'.get? b=some o)->h'.get? S=some { cls:=.type "list",data:=.seq acc c }->ItemsOf (fun i v=>items[items.size - 1 - i]?=some v) acc items.size->R (.ok (.ret res)) { s with heap:=h',toks:=tk }) :
  wpAny (model prog w) A.in1 (Builtin.List.listExtendWith (.ref S) (.ref I) res) (fun fin s2=>match fin with | .done f=>R (.ok f) s2 | .again c=>c.quiet=true/\codeAny (model prog w) A c R s2) (fun e s2=>R (.error e) s2) s:=by
 have W:=(Walks.listRev (prog:=prog) (w:=w) (A:=A.in1) hh I l nI items).toS;unfold Builtin.List.listExtendWith;refine wpAny_bind (wpAny_typeOf hit.typeIs ?_);rw[if_neg (by simp [Builtin.List.listSameRef,nS])];refine wpAny_bind (wpAny_pyIter_revIter hit ?_);refine wpAny_bind (wpAny_holding (MI hit ?_));refine wpAny_ite_split (fun z=>absurd z (by decide +kernel)) (fun _=>?_);have h0:s.heap.IsRevIter I l ((items.size:Int) - 1 - ((0:Nat):Int)):=by simpa using hit
 refine wpAny_pure ⟨plainId_quiet F.plain_extend_loop _,codeAny_extend_loopS W hn S (by simp [nS,nL]) res items.size 0 s #[] c0 rfl (bA _) ⟨bA _,h0,hl⟩ hS (ItemsOf.nil _) fun s2 acc c hm h2 hi=>?_⟩;rw[Moved.eq_with hm];exact hR s2.heap s2.toks acc c (fun b o n1 n2 e=>hm.heap b o (by simp [n1,n2]) e) h2 hi
theorem MJ {Q : Value → Shared → Prop} {I l : Addr} {items : Array Value} (hh : A.handled = none) (hit : s.heap.IsRevIter I l ((items.size : Int) - 1)) (hl : s.heap.IsList l items) (nI : l ≠ I) (hn : items.size ≤ sizeLine)
    (hQ : ∀ h' tk acc c, (∀ b o, b ≠ I → s.heap.get? b = some o → h'.get? b = some o) → h'.get? s.heap.objs.size = some { cls := .type "list", data := .seq acc c } → ItemsOf (fun i v => items[items.size - 1 - i]? = some v) acc items.size → Q (.ref s.heap.objs.size) { s with heap := h', toks := tk }) :
    wpAny (model prog w) A (call (.type "list") [.ref I]) Q E s := by
  refine callType_codes (Q₁ := fun x s2 => x = .ref s.heap.objs.size /\ s2 = { s with heap := s.heap.push { cls := .type "list", data := .seq #[] } }) F.called_list (F.typeCall_list_1 _) F.entry_list_init (code_list_new _ ⟨rfl, rfl⟩) fun x s2 hx => ?_
  obtain ⟨rfl, rfl⟩ := hx;have up : ∀ b o, s.heap.get? b = some o → (s.heap.push { cls := .type "list", data := .seq #[] }).get? b = some o := fun b o e => Heap.get?_push_of_some _ e
  have hS : (s.heap.push { cls := .type "list", data := .seq #[] }).get? s.heap.objs.size = some { cls := .type "list", data := .seq #[] } := Heap.get?_push_size _ rfl
  have lI : I ≠ s.heap.objs.size := by
    obtain ⟨o, ho, _⟩ := hit;exact cm (Heap.lt_size ho)
  have lL : l ≠ s.heap.objs.size := by
    obtain ⟨o, ho, _⟩ := hl;exact cm (Heap.lt_size ho)
  refine ⟨⟨_, hS, rfl⟩, F.args_list_init_2 _ _, ?_⟩;show wpAny _ A.in1.in1 (do let old <- Builtin.List.listItems (.ref s.heap.objs.size); Builtin.List.listUpdate (.ref s.heap.objs.size) (fun _ => #[]); letGo old.toList.reverse; Builtin.List.listExtendWith (.ref s.heap.objs.size) (.ref I) .none) _ _ _
  refine wpAny_bind ?_;unfold Builtin.List.listItems;refine wpAny_bind (wpAny_seqItems hS rfl (wpAny_pure ?_));refine wpAny_bind (m := Builtin.List.listUpdate (.ref s.heap.objs.size) (fun _ => #[])) (wpAny_updateSeq hS rfl ?_);have h3 := Heap.get?_update_self (Obj.mapSeq (fun _ => (#[] : Array Value))) hS rfl;have o3 : ∀ b o, b ≠ s.heap.objs.size → (s.heap.push { cls := .type "list", data := .seq #[] }).get? b = some o → ((s.heap.push { cls := .type "list", data := .seq #[] }).update s.heap.objs.size (Obj.mapSeq (fun _ => (#[] : Array Value)))).get? b = some o := fun b o nb e => (Heap.get?_update_other _ _ (Ne.symm nb)).trans e
  refine wpAny_bind (wpAny_letGo ?_);refine ML (A := A.in1) hh (hit.at fun o e => o3 _ _ lI (up _ _ e)) (hl.at fun o e => o3 _ _ lL (up _ _ e)) nI lI.symm lL.symm hn h3 fun h' tk acc c hk h2 hi => ?_
  exact ⟨rfl, hQ h' tk acc c (fun b o nb e => hk b o (cm (Heap.lt_size e)) nb (o3 _ _ (cm (Heap.lt_size e)) (up _ _ e))) h2 hi⟩
end
section
variable {X:Cx}
def EA (K:PySem.W.Frag) (ta:TA):TE:=fun σ H Q=>ta σ H fun vs H1=>∃l xs,vs=[.ref l]/\bU K H1 l xs/\xs.length<=1000/\∀L H',aJ H1 H'->H1 L=none->H' L=some (.lst xs.reverse)->Q (.ref L) H'
theorem Ex:∀{xs:List V} {us:List Value},cT xs us->cT xs.reverse us.reverse
 | _,_,.nil=>.nil
 | _,_,.cons h r=>by
  rw[yL,yL];exact cT.append (Ex r) (.cons h .nil)
theorem Gh (K:PySem.W.Frag) {e1:Expr} {ta:TA} {p p2 pos pos2:Pos} (hg:Gl X "list") (hm:X.mg "list"=none) (hg2:Gl X "reversed") (hm2:X.mg "reversed"=none) (ha:PA X [e1] ta) (hK:X.K=K:=by rfl) (hc:X.calm=true:=by rfl)
  (hs:starEach [e1] X.env=[(false,eval e1 X.env)]:=by rfl)
  (hs3:starEach [Expr.Call (.Name "reversed" p2) [e1] [] pos2] X.env=[(false,eval (.Call (.Name "reversed" p2) [e1] [] pos2) X.env)]:=by rfl) :
  PE X (.Call (.Name "list" p) [.Call (.Name "reversed" p2) [e1] [] pos2] [] pos) (EA K ta):=by
 subst hK;intro pins s σ H Q I h;refine wpAny_Call_Name_kw (lE I hg hm boot_list ?_);refine PyProof.Rows.callWith_type1 ?_ (by rw[hs3];rfl) rfl;rw[hs3];show wpAny _ _ (spliced ((false,eval (.Call (.Name "reversed" p2) [e1] [] pos2) X.env) :: [])) _ _ s
 refine Calls.spliced_cons ?_;refine Call_ (lE I hg2 hm2 boot_reversed (PyProof.Rows.callWith_type1 (gF (ha pos2 pins s σ H _ I h) fun us s1 ⟨vs,H1,I1,r1,q1⟩=>?_) hs rfl));obtain ⟨l,xs,e,hl,hn,q⟩:=q1;subst e;obtain ⟨u,rfl,ru⟩:=vals1 r1;cases ru;obtain ⟨its,rv,pl,hz⟩:=I1.list hl;have hlen:=rv.length;have pI:=pl.isList;refine call_reversed_list pI ?_;refine Calls.spliced_nil ?_;have kp:∀b o,s1.heap.get? b=some o->(s1.heap.push (revObj l ((its.toArray.size:Int) - 1))).get? b=some o:=fun b o e=>Heap.get?_push_of_some _ e
 have nI:l≠s1.heap.objs.size:=by
  obtain ⟨o,ho,_⟩:=pI;exact cm (Heap.lt_size ho)
 refine MJ (I.ok.hd hc) (I:=s1.heap.objs.size) (l:=l) (items:=its.toArray) ⟨_,Heap.get?_push_size _ rfl,rfl,rfl⟩ (pI.at fun o e=>kp _ _ e) nI (by rw[aP];lia) fun h' tk acc c hk hS hacc=>?_
 have sz:s1.heap.objs.size<=(s1.heap.push (revObj l ((its.toArray.size:Int) - 1))).objs.size:=by rw[Heap.size_push];exact o8 _
 have nS:=I1.hok.fresh sz
 have ea:acc.toList=its.reverse:=by
  apply ig;intro j;rcases cP j its.length with z | z
  ·have hj:j < acc.toList.length:=by rw[Array.length_toList,hacc.1,aP];exact z
   have:=hacc.2 j acc.toList[j] (by rw[<- Array.getElem?_toList];exact af hj);rw[af hj,List.getElem?_reverse z];simpa using this.symm
  ·rw[aM (by rw[Array.length_toList,hacc.1,aP];exact z),aM (by rw[m6];exact z)]
 have vs':cT xs.reverse acc.toList:=by rw[ea];exact Ex rv
 have sl:xs.reverse.length<=sizeLine:=by rw[m6];exact hz
 refine ⟨.ref _,_,I1.laid (o:=.lst xs.reverse) (fun b o e=>hk b o (cm (Heap.lt_size e)) (kp b o e)) sz ?_,rfl,q _ _ (aJ.new nS) nS aK⟩;exact ⟨sl,acc.toList,c,vs',by simpa using hS⟩
end
theorem E8 {F G:List hJ->Rat} {r:Nat} {g:Nat->Rat} {c:Rat} (hF:∀ws:List hJ,F (ws.map fun v i=>g i*v i)=c*G ws):∀(post pre:List hJ) (s:Rat),Aa F r (pre.map fun v i=>g i*v i) (post.map fun v i=>g i*v i) s=g r*c*Aa G r pre post s
 | [],_,_=>by show (0:Rat)=_*0;grind
 | v :: post,pre,s=>by
  have i1:=hF (pre++post);have i2:=E8 (r:=r) hF post (pre++[v]) (-s);simp only[cI,fV,IF,Aa] at i1 i2 ⊢;rw[i1,i2];grind
theorem yo {g : Nat → Rat} : ∀ (rs : List Nat) (vs : List hJ), ji rs (vs.map fun v i => g i * v i) = (rs.map g).foldr (· * ·) 1 * ji rs vs
  | [], [] => by show (1 : Rat) = 1 * 1; grind
  | [], _ :: _ => by show (0 : Rat) = 1 * 0; grind
  | r :: rs, vs => by
    have := E8 (r := r) (F := fun ws => ji rs ws) (G := fun ws => ji rs ws) (c := (rs.map g).foldr (· * ·) 1) (fun ws => yo rs ws) vs [] 1;exact this
theorem DB {g:Nat->Rat}:∀{rs:List Nat},(∀r∈rs,g r≠0)->(rs.map g).foldr (·*·) 1≠0
 | [],_=>by show (1:Rat)≠0;decide
 | r :: rs,h=>by
  show g r*_≠0
  have h1:=h r (.head _);have h2:=DB fun r' hr'=>h r' (.tail _ hr')
  intro z;rcases BL.mp z with z | z
  ·exact h1 z
  ·exact h2 z
section
variable {rows R X K0:List (List Rat)} {due L:List Rat} {n m M W D E W0 W1:Nat} {ps:List Nat}
theorem CO (hw:∀xs∈rows,xs.length=n) (hW:1<=W) (h0:0 < M) (h3:∀xs∈rows,∀x∈xs,Tp M W x) (RR:bZ rows n R ps):∃pm:Nat->Nat,(∀i j,i < ps.length->j < ps.length->pm i=pm j->i=j)/\(∀t,t < ps.length->pm t < rows.length)/\ps.length<=rows.length/\ji (kL pm ps.length) (iB (fun j i=>cn rows i (ps.getD j 0)) ps.length)≠0:=by
 have ent:=Ke h0 h3;obtain ⟨ls,ps2,d,I⟩:=yP hw hW (by rw[aj];exact ent) n (aw _);obtain ⟨_,_,⟨pm,B⟩,E⟩:=I;rw[aj] at B E
 have RF:C7 rows.length n (cn rows) ps2.length (fun j=>ps2.getD j 0) (fun i c=>d6 ls i c / d):=C7.other (E.done fun i hi c hc=>xv (n:=n) (fun zs hz=>by
  obtain ⟨xs,hx,rfl⟩:=aB.mp hz;rw[rE];exact hw xs hx) hc) Af Ag
 obtain ⟨e1,e2,e3⟩:=RF.uniq RR.2.2 (fun _ hi=>eH.row hi) (fun _ hi=>eH.row hi);have km:=B.km;have dt:=B.det;have d0:=B.d0
 have e4:ji (kL pm ps2.length) ([]++iB (fun j r=>d6 (rows.map gX) r (ps2.getD j 0)) ps2.length)=ji (kL pm ps2.length) ([]++iB (fun j i=>uZ rows i*cn rows i (ps.getD j 0)) ps2.length):=D5 [] fun j hj r hr=>by
  obtain ⟨t,ht,rfl⟩:=lA hr;rw[AE (B.rng t (by lia)),e2 j hj];rfl
 have e5:iB (fun j i=>uZ rows i*cn rows i (ps.getD j 0)) ps2.length=(iB (fun j i=>cn rows i (ps.getD j 0)) ps2.length).map fun v i=>uZ rows i*v i:=(cw_map (τ:=fun v i=>uZ rows i*v i)).symm
 refine ⟨pm,fun i j hi hj e=>B.inj i j (by lia) (by lia) e,fun t ht=>B.rng t (by lia),by lia,?_⟩;rw[<- e1];intro z;apply d0;rw[dt];have e4:ji (kL pm ps2.length) (iB (fun j r=>d6 (rows.map gX) r (ps2.getD j 0)) ps2.length)=ji (kL pm ps2.length) (iB (fun j i=>uZ rows i*cn rows i (ps.getD j 0)) ps2.length):=e4;rw[e4,e5,yo,z,dQ]
theorem Oe (hd:due.length=X.length) (hw:∀xs∈X,xs.length=n) (RR:bZ (dq X due) (n+1) R ps) (hn:n∉ps) {i:Nat} (hi:i < X.length):due.getD i 0=bY ps.length fun j=>cn R j n*cn X i (ps.getD j 0):=by
 obtain ⟨j1,j2⟩:=zE hd hw hi;have sp:=RR.2.2.span i (by rw[rj hd];exact hi);have:=RR.2.2.coef sp n;rw[<- j2,this];refine bf fun j hj=>?_
 have lo:=RR.2.2.low j hj;have ne:ps.getD j 0≠n:=fun z=>hn (by rw[<- z];exact getD_in hj)
 rw[j1 _ (by lia)];exact dI _ _
theorem HJ (RR:bZ X (n+1) R ps) {y:Rat} (hy:y∈ij R ps n):y=0\/∃j,j < ps.length/\y=cn R j n:=by
 obtain ⟨c,hc,rfl⟩:=bQ hy;have lc:(ij R ps n).length=n:=kS;have e:(ij R ps n)[c]=(ij R ps n).getD c 0:=by rw[aa,af hc];rfl
 rw[e];by_cases hp:c∈ps
 ·obtain ⟨j,hj,ej⟩:=bQ hp
  right
  refine ⟨j,hj,?_⟩;have ej':ps.getD j 0=c:=by rw[aa,af hj];exact ej
  have:=Ky (R:=R) (ps:=ps) (n:=n) (j:=ps.length) (c:=c) (by lia);unfold ij;rw[this,gG hj fun i hi ne=>if_neg fun z=>?_,if_pos ej'];rcases cP i j with y | y
  ·have:=RR.2.2.inc i j y hj
   lia
  ·have:=RR.2.2.inc j i (by lia) hi
   lia
 ·exact .inl (MG hp)
theorem GQ {N Wx:Nat} {rs:List Nat} {vs:List hJ} (hl:vs.length<=N) (h:∀v∈vs,∀r∈rs,Fr 1 Wx (v r)):∃z:Int,ji rs vs=(z:Rat)/\z.natAbs<=(N*Wx)^rs.length:=by
 have f:=zF hl h;obtain ⟨z,ez⟩:=sT f;rw[ez] at f;exact ⟨z,ez,sS f⟩
theorem O0 (hK:∀xs∈K0,xs.length=n) (hL:L.length=n) (n15:n<=15) (D0:0 < D) (E0:0 < E) (w0:1<=W0) (w1:1<=W1) (tk:∀xs∈K0,∀x∈xs,Tp D W0 x) (tl:∀x∈L,Tp E W1 x) (RR:bZ (dq (di K0 n) L) (K0.length+1) R ps) (hn:K0.length∉ps) :
  ∃q:Nat,0 < q/\q<=(16*W0)^n/\∀y∈ij R ps K0.length,Tp (E*q) (D*(n*(W1*(16*W0)^n))) y:=by
 have lt:(di K0 n).length=n:=dw;have wt:∀xs∈di K0 n,xs.length=K0.length:=kR;have hd:L.length=(di K0 n).length:=by rw[lt];exact hL
 have tfn:∀i,i < n->∀j,cn (di K0 n) i j=cn K0 j i:=fun i hi j=>by
  unfold cn;rw[aa (l:=di K0 n),AG hi];show (K0.map fun xs=>xs.getD i 0).getD j 0=_
  rw[aa,aG,aa (l:=K0)];cases K0[j]? with
  | none=>show (0:Rat)=([]:List Rat).getD i 0;rw[aa];rfl
  | some xs=>rfl
 have tkf:∀j i,Tp D W0 (cn K0 j i):=fun j i=>by
  unfold cn;rw[aa (l:=K0)];by_cases hj:j < K0.length
  ·rw[af hj];exact lQ (tk _ (aQ hj)) i
  ·rw[aM (by lia)];show Tp D W0 (([]:List Rat).getD i 0)
   exact lQ (by intro x z;cases z) i
 have tlf:∀i,Tp E W1 (L.getD i 0):=fun i=>lQ tl i
 have tj:∀xs∈dq (di K0 n) L,∀x∈xs,Tp (D*E) (W0*E+W1*D) x:=An fun i hi c=>by
  rw[rj hd,lt] at hi;obtain ⟨j1,j2⟩:=zE hd wt (by rw[lt];exact hi);by_cases hc:c < K0.length
  ·rw[j1 c hc,tfn i hi];obtain ⟨z,e,b⟩:=tkf c i;exact ⟨z*E,by rw[eB,aN,<- e,aD];grind,by rw[cO,bN];exact ai (az _ b) (zW _ _)⟩
  ·by_cases hc2:c=K0.length
   ·rw[hc2,j2];obtain ⟨z,e,b⟩:=tlf i;exact ⟨z*D,by rw[eB,aN,<- e,aD];grind,by rw[cO,bN];exact ai (az _ b) (Nat.le_add_left _ _)⟩
   ·rw[xu (yk wt) (by lia)];exact ⟨0,by rw[fK];rfl,bA _⟩
 obtain ⟨pm,pinj,plt,kn,dne⟩:=CO (yk wt) (W:=W0*E+W1*D) (ai (cu w0 E0) (zW _ _)) (cu D0 E0) tj RR;rw[rj hd,lt] at plt kn
 have pl:∀j,j < ps.length->ps.getD j 0 < K0.length:=fun j hj=>by
  have lo:=RR.2.2.low j hj;have ne:ps.getD j 0≠K0.length:=fun z=>hn (by rw[<- z];exact getD_in hj)
  lia
 have Dne:(D:Rat)≠0:=fun z=>by
  have:((D:Int):Rat)=0:=by rw[aD];exact z
  have:=ng this
  lia
 have Ene:(E:Rat)≠0:=fun z=>by
  have:((E:Int):Rat)=0:=by rw[aD];exact z
  have:=ng this
  lia
 have rlt:∀r∈kL pm ps.length,r < n:=fun r hr=>by
  obtain ⟨t,ht,rfl⟩:=lA hr;exact plt t ht
 obtain ⟨v,ev⟩:∃v:Nat->hJ,v=fun j i=>(D:Rat)*cn K0 (ps.getD j 0) i:=⟨_,rfl⟩
 have vint:∀j r,Fr 1 W0 (v j r):=fun j r=>by
  obtain ⟨z,e,b⟩:=tkf (ps.getD j 0) r;rw[ev];show Fr 1 W0 ((D:Rat)*_)
  rw[dI,e];exact Fr.int b
 have den:ji (kL pm ps.length) (iB v ps.length)≠0:=by
  have e1:ji (kL pm ps.length) ([]++iB v ps.length)=ji (kL pm ps.length) ([]++iB (fun j i=>(D:Rat)*cn (dq (di K0 n) L) i (ps.getD j 0)) ps.length):=D5 [] fun j hj r hr=>by
   have hr:=rlt r hr;obtain ⟨j1,_⟩:=zE hd wt (i:=r) (by rw[lt];exact hr);rw[j1 _ (pl j hj),tfn r hr,ev]
  have e2:iB (fun j i=>(D:Rat)*cn (dq (di K0 n) L) i (ps.getD j 0)) ps.length=(iB (fun j i=>cn (dq (di K0 n) L) i (ps.getD j 0)) ps.length).map fun v i=>(fun _=>(D:Rat)) i*v i:=(cw_map (τ:=fun v i=>(D:Rat)*v i)).symm
  have e1:ji (kL pm ps.length) (iB v ps.length)=ji (kL pm ps.length) (iB (fun j i=>(D:Rat)*cn (dq (di K0 n) L) i (ps.getD j 0)) ps.length):=e1;rw[e1,e2,yo];intro z;rcases BL.mp z with z | z
  ·exact DB (g:=fun _=>(D:Rat)) (fun _ _=>Dne) z
  ·exact dne z
 obtain ⟨q,eq,bq⟩:=GQ (N:=16) (Wx:=W0) (rs:=kL pm ps.length) (vs:=iB v ps.length) (by rw[cw_len];lia) fun w hw r _=>by
  obtain ⟨t,_,rfl⟩:=cw_in hw;exact vint t r
 rw[qW] at bq;have up:(16*W0)^ps.length<=(16*W0)^n:=av (by lia) kn;have q0:q≠0:=fun z=>den (by rw[eq,z];rfl)
 refine ⟨q.natAbs,by lia,ai bq up,fun y hy=>?_⟩;rcases HJ RR hy with rfl | ⟨i,hi,rfl⟩
 ·exact ⟨0,by rw[fK];rfl,bA _⟩
 ·have hW:∀r∈kL pm ps.length,(E:Rat)*L.getD r 0=bY ps.length fun j=>((E:Rat)*cn R j K0.length / D)*v j r:=fun r hr=>by
   have hr:=rlt r hr;rw[Oe hd wt RR hn (i:=r) (by rw[lt];exact hr),<- dA];refine bf fun j hj=>?_
   rw[tfn r hr,ev]
   dsimp only
   grind
  have cr:=vO (v:=v) (c:=fun j=>(E:Rat)*cn R j K0.length / D) (W:=fun r=>(E:Rat)*L.getD r 0) hi hW
  have ex:ji (kL pm ps.length) (Fg v i ps.length++(fun r=>(E:Rat)*L.getD r 0) :: iB v i)=bY ps.length fun t=>((E:Rat)*L.getD (pm t) 0)*ji (kL pm ps.length) (Fg v i ps.length++(fun r=>if r=pm t then 1 else 0) :: iB v i):=D3 (W:=fun _=>0) (v:=fun t r=>if r=pm t then 1 else 0) (c:=fun t=>(E:Rat)*L.getD (pm t) 0) _ _ (fun r hr=>by
   obtain ⟨t,ht,rfl⟩:=lA hr;rw[gG ht fun j hj ne=>by rw[if_neg fun z=>ne (pinj j t hj ht z.symm),dQ],if_pos rfl,yJ])
  have hlen:∀x:hJ,(Fg v i ps.length++x :: iB v i).length<=16:=fun x=>by
   have:=congrArg List.length (cw_split (v:=v) hi);rw[ak,aZ,cw_len] at this;rw[ak,aZ]
   lia
  have nf:Fr 1 (n*(W1*(16*W0)^n)) (ji (kL pm ps.length) (Fg v i ps.length++(fun r=>(E:Rat)*L.getD r 0) :: iB v i)):=by
   rw[ex];refine (LG (V:=W1*(16*W0)^n) fun t ht=>?_).mono (az _ kn);obtain ⟨z,e,b⟩:=tlf (pm t)
   have f1:Fr 1 W1 ((E:Rat)*L.getD (pm t) 0):=by
    rw[dI,e];exact Fr.int b
   have f2:=zF (W:=W0) (N:=16) (rs:=kL pm ps.length) (hlen fun r=>if r=pm t then 1 else 0) fun w hw r _=>by
    rcases au.mp hw with hw | hw
    ·obtain ⟨s,_,rfl⟩:=Bv hw;exact vint s r
    ·rcases aF.mp hw with rfl | hw
     ·dsimp only
      split
      ·exact Fr.one w0
      ·exact Fr.zero
     ·obtain ⟨s,_,rfl⟩:=cw_in hw;exact vint s r
   rw[qW] at f2;have:=f1.mul f2;rw[yK] at this;exact this.mono (aX _ up)
  obtain ⟨z,ez⟩:=sT nf;rw[ez] at nf cr;have bz:=sS nf;rw[eq] at cr
  have key:cn R i K0.length*((E:Rat)*(q:Rat))=(D:Rat)*(z:Rat):=by
   rw[cr];grind
  have kq:(((E*q.natAbs:Nat):Rat))=(E:Rat)*((q.natAbs:Nat):Rat):=eB ..;rcases uc q with h | h
  ·have hq:((q.natAbs:Nat):Rat)=(q:Rat):=by rw[<- aD,<- h]
   refine ⟨D*z,?_,by rw[cO,bN];exact aX _ bz⟩;rw[kq,hq,key,aN,aD]
  ·have hq:((q.natAbs:Nat):Rat)=-(q:Rat):=by rw[<- aD,<- cH];congr 1;lia
   refine ⟨-(D*z),?_,by rw[kQ,cO,bN];exact aX _ bz⟩;rw[kq,hq,cH,aN,aD,<- key];grind
theorem KJ {pm w : Nat → Nat} {X Y s : Nat} (hX : 1 ≤ X) (hY : 1 ≤ Y) (h1 : ∀ r, r ≠ s → w r ≤ X) (h2 : w s ≤ Y) : ∀ k, (∀ i j, i < k → j < k → pm i = pm j → i = j) → ((∃ t, t < k /\ pm t = s) → ((kL pm k).map w).foldr (· * ·) 1 ≤ X ^ k * Y) /\ ((∀ t, t < k → pm t ≠ s) → ((kL pm k).map w).foldr (· * ·) 1 ≤ X ^ k)
  | 0, _ => ⟨fun ⟨t, h, _⟩ => absurd h (fv _), fun _ => aw _⟩
  | k + 1, inj => by
    obtain ⟨i1, i2⟩ := KJ (pm := pm) (w := w) hX hY h1 h2 k fun i j hi hj => inj i j (by lia) (by lia)
    have mul : ((kL pm (k + 1)).map w).foldr (· * ·) 1 = w (pm k) * ((kL pm k).map w).foldr (· * ·) 1 := rfl;refine ⟨fun ⟨t, ht, et⟩ => ?_, fun h => ?_⟩
    · rw [mul];by_cases e : pm k = s
      · have := i2 fun t' ht' z => by
          have := inj t' k (by lia) (by lia) (z.trans e.symm)
          lia
        rw [e]
        calc w s * _ ≤ Y * X ^ k := aL h2 this
          _ = X ^ k * Y := bX _ _
          _ ≤ X ^ (k + 1) * Y := az _ (av hX (o8 _))
      · have := i1 ⟨t, by rcases cP t k with z | z; exact z; exact absurd (by rw [show k = t by lia]; exact et) e, et⟩
        calc w (pm k) * _ ≤ X * (X ^ k * Y) := aL (h1 _ e) this
          _ = X ^ (k + 1) * Y := by rw [ff, <- cL, bX X]
    · rw [mul, ff, bX (X ^ k)];exact aL (h1 _ (h k (by lia))) (i2 fun t ht => h t (by lia))
theorem MQ {pm w:Nat->Nat} {X Y s:Nat} (hX:1<=X) (hY:1<=Y) (h1:∀r,r≠s->w r<=X) (h2:w s<=Y) {k n:Nat} (hk:k<=n) (inj:∀i j,i < k->j < k->pm i=pm j->i=j):((kL pm k).map w).foldr (·*·) 1<=X^n*Y:=by
 obtain ⟨a,b⟩:=KJ (pm:=pm) (w:=w) hX hY h1 h2 k inj;have up:X^k<=X^n:=av hX hk;by_cases e:∃t,t < k/\pm t=s
 ·exact ai (a e) (az _ up)
 ·exact ai (b fun t ht z=>e ⟨t,ht,z⟩) (ai up (dC _ hY))
theorem KZ (hK:∀xs∈K0,xs.length=n) (hL:L.length=n) (n15:n<=15) (D0:0 < D) (E0:0 < E) (w0:1<=W0) (tk:∀xs∈K0,∀x∈xs,Tp D W0 x) (tl:∀x∈L,Tp E W1 x) (RR:bZ (dq (K0++[L]) (List.replicate K0.length 0++[1])) (n+1) R ps) (hn:n∉ps) :
  ∃q:Nat,0 < q/\q<=(16*W0)^n*(16*(W1+E))/\∀y∈ij R ps n,Tp q ((16*W0)^n*(16*(W1+E))) y:=by
 have hw:∀xs∈K0++[L],xs.length=n:=fun xs hx=>by
  rcases au.mp hx with hx | hx
  ·exact hK xs hx
  ·rw[bF.mp hx];exact hL
 have hd:(List.replicate K0.length (0:Rat)++[1]).length=(K0++[L]).length:=by simp
 have lX:(K0++[L]).length=K0.length+1:=by simp
 have due:∀i,i < K0.length+1->(List.replicate K0.length (0:Rat)++[1]).getD i 0=if i=K0.length then 1 else 0:=fun i hi=>by
  rw[aa];by_cases e:i=K0.length
  ·rw[aU (by simp;lia),if_pos e];simp [e]
  ·rw[bH (by simp;lia),if_neg e,dj,if_pos (by lia)];rfl
 have tX:∀i c,Tp (if i=K0.length then E else D) (if i=K0.length then W1 else W0) (cn (K0++[L]) i c):=fun i c=>by
  by_cases e:i=K0.length
  ·rw[if_pos e,if_pos e,e];have:=xA (X:=K0) (Y:=[L]) (i:=0);rw[Nat.add_zero] at this;rw[this];exact lQ tl c
  ·rw[if_neg e,if_neg e];by_cases h:i < K0.length
   ·rw[BF h];unfold cn;rw[aa (l:=K0),af h];exact lQ (tk _ (aQ h)) c
   ·unfold cn;rw[aa (l:=K0++[L]),aM (by rw[lX];lia)];exact lQ (by intro x z;cases z) c
 have tj:∀xs∈dq (K0++[L]) (List.replicate K0.length 0++[1]),∀x∈xs,Tp (D*E) (W0*E+W1*D+D*E) x:=An fun i hi c=>by
  rw[rj hd] at hi;obtain ⟨j1,j2⟩:=zE hd hw hi;by_cases hc:c < n
  ·rw[j1 c hc];obtain ⟨z,e,b⟩:=tX i c;by_cases h:i=K0.length
   ·rw[if_pos h] at e b;exact ⟨z*D,by rw[eB,aN,<- e,aD];grind,by rw[cO,bN];have:=az D b;lia⟩
   ·rw[if_neg h] at e b;exact ⟨z*E,by rw[eB,aN,<- e,aD];grind,by rw[cO,bN];have:=az E b;lia⟩
  ·by_cases hc2:c=n
   ·rw[hc2,j2,due i (by lia)]
    split
    ·exact ⟨(D*E:Nat),by rw[Rat.one_mul,aD],by rw[bN];lia⟩
    ·exact ⟨0,by rw[fK];rfl,bA _⟩
   ·rw[xu (yk hw) (by lia)];exact ⟨0,by rw[fK];rfl,bA _⟩
 obtain ⟨pm,pinj,plt,_,dne⟩:=CO (yk hw) (W:=W0*E+W1*D+D*E) (by have:=cu D0 E0;lia) (cu D0 E0) tj RR;rw[rj hd,lX] at plt
 have pl:∀j,j < ps.length->ps.getD j 0 < n:=fun j hj=>by
  have lo:=RR.2.2.low j hj;have ne:ps.getD j 0≠n:=fun z=>hn (by rw[<- z];exact getD_in hj)
  lia
 have kn:ps.length<=n:=by
  have inc:∀j,j < ps.length->j<=ps.getD j 0:=by
   intro j
   induction j with
   | zero=>intro _;exact bA _
   | succ j ih =>
    intro hj;have:=ih (by lia);have:=RR.2.2.inc j (j+1) (by lia) hj
    lia
  rcases fY ps.length with z | z
  ·lia
  ·have:=inc (ps.length - 1) (by lia);have:=pl (ps.length - 1) (by lia)
   lia
 obtain ⟨g,eg⟩:∃g:Nat->Rat,g=fun i=>((if i=K0.length then E else D:Nat):Rat):=⟨_,rfl⟩
 have gne:∀i,g i≠0:=fun i z=>by
  rw[eg] at z;have z:(((if i=K0.length then E else D:Nat):Int):Rat)=0:=by rw[aD];exact z
  have:=ng z
  split at this <;> lia
 have rlt:∀r∈kL pm ps.length,r < K0.length+1:=fun r hr=>by
  obtain ⟨t,ht,rfl⟩:=lA hr;exact plt t ht
 obtain ⟨v,ev⟩:∃v:Nat->hJ,v=fun j i=>g i*cn (K0++[L]) i (ps.getD j 0):=⟨_,rfl⟩
 obtain ⟨wt,ew⟩:∃wt:Nat->Nat,wt=fun i=>if i=K0.length then W1+E else W0:=⟨_,rfl⟩
 have vint:∀j r,Fr 1 (wt r) (v j r):=fun j r=>by
  obtain ⟨z,e,b⟩:=tX r (ps.getD j 0);rw[ev,eg,ew];show Fr 1 _ (_*_)
  rw[dI,e];refine (Fr.int b).mono ?_
  dsimp only
  split <;> lia
 have bnd:∀{vs:List hJ},vs.length<=16->(∀w∈vs,∀r∈kL pm ps.length,Fr 1 (wt r) (w r))->∃z:Int,ji (kL pm ps.length) vs=(z:Rat)/\z.natAbs<=(16*W0)^n*(16*(W1+E)):=fun {vs} hl h=>by
  have f:=LN hl h;obtain ⟨z,ez⟩:=sT f;rw[ez] at f;refine ⟨z,ez,ai (sS f) (MQ (s:=K0.length) (by lia) (by lia) (fun r hr=>?_) ?_ kn pinj)⟩
  ·rw[ew];dsimp only;rw[if_neg hr];exact aw _
  ·rw[ew];dsimp only;rw[if_pos rfl];exact aw _
 have den:ji (kL pm ps.length) (iB v ps.length)≠0:=by
  have e1:ji (kL pm ps.length) ([]++iB v ps.length)=ji (kL pm ps.length) ([]++iB (fun j i=>g i*cn (dq (K0++[L]) (List.replicate K0.length 0++[1])) i (ps.getD j 0)) ps.length):=D5 [] fun j hj r hr=>by
   have hr:=rlt r hr;obtain ⟨j1,_⟩:=zE hd hw (i:=r) (by rw[lX];exact hr);rw[j1 _ (pl j hj),ev]
  have e2:iB (fun j i=>g i*cn (dq (K0++[L]) (List.replicate K0.length 0++[1])) i (ps.getD j 0)) ps.length=(iB (fun j i=>cn (dq (K0++[L]) (List.replicate K0.length 0++[1])) i (ps.getD j 0)) ps.length).map fun v i=>g i*v i:=(cw_map (τ:=fun v i=>g i*v i)).symm
  have e1:ji (kL pm ps.length) (iB v ps.length)=ji (kL pm ps.length) (iB (fun j i=>g i*cn (dq (K0++[L]) (List.replicate K0.length 0++[1])) i (ps.getD j 0)) ps.length):=e1;rw[e1,e2,yo];intro z;rcases BL.mp z with z | z
  ·exact DB (fun r _=>gne r) z
  ·exact dne z
 obtain ⟨q,eq,bq⟩:=bnd (vs:=iB v ps.length) (by rw[cw_len];lia) fun w hw r _=>by
  obtain ⟨t,_,rfl⟩:=cw_in hw;exact vint t r
 have q0:q≠0:=fun z=>den (by rw[eq,z];rfl)
 refine ⟨q.natAbs,by lia,bq,fun y hy=>?_⟩;rcases HJ RR hy with rfl | ⟨i,hi,rfl⟩
 ·exact ⟨0,by rw[fK];rfl,bA _⟩
 ·have hW:∀r∈kL pm ps.length,g r*(if r=K0.length then 1 else 0)=bY ps.length fun j=>cn R j n*v j r:=fun r hr=>by
   have hr:=rlt r hr;rw[<- due r hr,Oe hd hw RR hn (i:=r) (by rw[lX];exact hr),<- dA];refine bf fun j hj=>?_
   rw[ev]
   dsimp only
   grind
  have cr:=vO (v:=v) (c:=fun j=>cn R j n) (W:=fun r=>g r*(if r=K0.length then 1 else 0)) hi hW
  obtain ⟨z,ez,bz⟩:=bnd (vs:=Fg v i ps.length++(fun r=>g r*(if r=K0.length then 1 else 0)) :: iB v i) (by
   have:=congrArg List.length (cw_split (v:=v) hi);rw[ak,aZ,cw_len] at this;rw[ak,aZ]
   lia) fun w hw r _=>by
    rcases au.mp hw with hw | hw
    ·obtain ⟨s,_,rfl⟩:=Bv hw;exact vint s r
    ·rcases aF.mp hw with rfl | hw
     ·dsimp only
      by_cases e:r=K0.length
      ·rw[if_pos e,yJ,eg,ew]
       dsimp only
       rw[if_pos e,if_pos e,<- aD];exact Fr.int (by rw[bN];lia)
      ·rw[if_neg e,dQ];exact Fr.zero
     ·obtain ⟨s,_,rfl⟩:=cw_in hw;exact vint s r
  rw[ez,eq] at cr;have key:cn R i n*(q:Rat)=(z:Rat):=cr.symm;rcases uc q with h | h
  ·have hq:((q.natAbs:Nat):Rat)=(q:Rat):=by rw[<- aD,<- h]
   exact ⟨z,by rw[hq,key],bz⟩
  ·have hq:((q.natAbs:Nat):Rat)=-(q:Rat):=by rw[<- aD,<- cH];congr 1;lia
   exact ⟨-z,by rw[hq,cH,<- key];grind,by rw[kQ];exact bz⟩
end
def jD (mv:List (List Rat)):Nat->List Rat->List Rat
 | 0,x=>x
 | t+1,x=>sJ mv (jD mv t x)
section
variable {mv pt lk pus:List (List Rat)} {st pu go:List Rat} {n t T c:Nat}
theorem pF (h:st.length=mv.length):∀t,(jD mv t st).length=mv.length
 | 0=>h
 | _+1=>xn
theorem DX {x y:List Rat} (h:x.length=y.length) (e:∀c,c < x.length->x.getD c 0=y.getD c 0):x=y:=by
 apply eU h;intro c h1 h2;have:=e c h1;rwa [aa,aa,af h1,af h2] at this
theorem Om (wm:∀xs∈mv,xs.length=mv.length) (h:st.length=mv.length) (hc:c < mv.length):(sJ mv st).getD c 0=bY mv.length fun j=>cn mv c j*st.getD j 0:=by
 have e:(sJ mv st).getD c 0=eG mv[c] st:=by
  unfold sJ;rw[aa,aG,af hc];rfl
 have wc:=wm _ (aQ hc);rw[e,ft (by lia),wc];refine bf fun j _=>?_
 unfold cn;rw[aa (l:=mv),af hc];rfl
theorem Lc (D:jk mv pt lk) (h:st.length=mv.length) (hp:pu.length=pt.length) (hc:c < mv.length):(gY mv pt st pu).getD c 0=bY mv.length (fun j=>cn mv c j*st.getD j 0)+bY pt.length fun i=>pu.getD i 0*cn pt i c:=by
 have wc:=D.mw _ (aQ hc)
 have e:(gY mv pt st pu).getD c 0=eG (mv[c]++pt.map fun xs=>xs.getD c 0) (st++pu):=by
  unfold gY;rw[aa,b6,af hc,AG hc];rfl
 rw[e,uX (by lia),ft (by lia),ft (by rw[aj];lia),wc,aj];congr 1
 ·refine bf fun j _=>?_
  unfold cn;rw[aa (l:=mv),af hc];rfl
 ·refine bf fun i hi=>?_
  rw[dI];congr 1;unfold cn;rw[aa,aG,aa (l:=pt),af hi];rfl
theorem vM:∀t,(kry mv pt t).length=t*pt.length
 | 0=>by rw[Nat.zero_mul];rfl
 | t+1=>by
  show (pt++(kry mv pt t).map (sJ mv)).length=_
  rw[ak,aj,vM t,dR,qT]
theorem HF (D:jk mv pt lk) (ls:st.length=mv.length):∀k,k<=pus.length->(∀xs∈pus,xs.length=pt.length)->∀c,c < mv.length->(yR mv pt st pus k).getD c 0=(jD mv k st).getD c 0+bY (kry mv pt k).length fun i=>((pus.take k).reverse.flatten).getD i 0*cn (kry mv pt k) i c:=by
 intro k
 induction k with
 | zero =>
  intro _ _ c _;show st.getD c 0=st.getD c 0+0
  grind
 | succ k ih =>
  intro hk hp c hc;have hk':k < pus.length:=hk;have e:=af hk';have hl:=hp _ (aQ hk');have ls':=vE (pt:=pt) (pus:=pus) ls (k:=k) (by lia)
  have lf:((pus.take k).reverse.flatten).length=(kry mv pt k).length:=by
   rw[vM,Fe (i:=pt.length) fun xs hx=>hp xs (cv (zX.mp hx)),m6,cM,oy (by lia)]
  rw[uB e,Lc D ls' hl hc]
  have er:(pus.take (k+1)).reverse.flatten=pus[k]++(pus.take k).reverse.flatten:=by
   rw[take_snoc e,List.reverse_append];simp
  have ek:kry mv pt (k+1)=pt++(kry mv pt k).map (sJ mv):=rfl;rw[er,ek,ak,aj,yQ]
  have p1:(bY pt.length fun i=>(pus[k]++(pus.take k).reverse.flatten).getD i 0*cn (pt++(kry mv pt k).map (sJ mv)) i c)=bY pt.length fun i=>pus[k].getD i 0*cn pt i c:=bf fun i hi=>by
   rw[BF hi,aa,bH (by lia),aa]
  have p2:(bY (kry mv pt k).length fun i=>(pus[k]++(pus.take k).reverse.flatten).getD (pt.length+i) 0*cn (pt++(kry mv pt k).map (sJ mv)) (pt.length+i) c)=bY mv.length fun j=>cn mv c j*bY (kry mv pt k).length fun i=>((pus.take k).reverse.flatten).getD i 0*cn (kry mv pt k) i j:=by
   have q1:∀i,i < (kry mv pt k).length->(pus[k]++(pus.take k).reverse.flatten).getD (pt.length+i) 0*cn (pt++(kry mv pt k).map (sJ mv)) (pt.length+i) c=bY mv.length fun j=>cn mv c j*(((pus.take k).reverse.flatten).getD i 0*cn (kry mv pt k) i j):=fun i hi=>by
    rw[xA,K4 rfl D.mw (e8 rfl D.pw k) hi,aa,aU (by lia),hl,R9,<- aa,<- dA];exact bf fun j _=>by grind
   rw[bf q1,jH];exact bf fun j _=>dA
  rw[p1,p2];have p3:(jD mv (k+1) st).getD c 0=bY mv.length fun j=>cn mv c j*(jD mv k st).getD j 0:=Om D.mw (pF ls k) hc
  rw[p3]
  have p4:(bY mv.length fun j=>cn mv c j*(yR mv pt st pus k).getD j 0)=(bY mv.length fun j=>cn mv c j*(jD mv k st).getD j 0)+bY mv.length fun j=>cn mv c j*bY (kry mv pt k).length fun i=>((pus.take k).reverse.flatten).getD i 0*cn (kry mv pt k) i j:=by
   rw[<- uA];refine bf fun j hj=>?_
   rw[ih (by lia) hp j hj];grind
  rw[p4];grind
end
section
variable {mv pt lk pus R:List (List Rat)} {st pu go w pr L:List Rat} {n t T c u k:Nat} {ps:List Nat}
theorem FH (D:jk mv pt lk) (ls:st.length=mv.length):yR mv pt st (List.replicate T (List.replicate pt.length 0)) T=jD mv T st:=by
 have l1:=vE (pt:=pt) (pus:=List.replicate T (List.replicate pt.length 0)) ls (k:=T) (by rw[aE];exact aw _);refine DX (by rw[l1,pF ls]) fun c hc=>?_
 rw[l1] at hc;rw[HF D ls T (by rw[aE];exact aw _) (fun xs hx=>by rw[(cN.mp hx).2,aE]) c hc,dH fun i _=>?_,qR]
 have z:(((List.replicate T (List.replicate pt.length (0:Rat))).take T).reverse.flatten).getD i 0=0:=by
  rw[aa];cases e:(((List.replicate T (List.replicate pt.length (0:Rat))).take T).reverse.flatten)[i]? with
  | none=>rfl
  | some y =>
   have:=ax e;obtain ⟨l,hl,hy⟩:=J0.mp this;have hl:=cv (zX.mp hl);rw[(cN.mp hl).2] at hy;exact (cN.mp hy).2
 rw[z,fK]
def pL (mv:List (List Rat)) (T:Nat) (st go:List Rat):List Rat:=List.zipWith (fun x y=>x - y) go (jD mv T st)
theorem Lm (ls:st.length=mv.length) (lg:go.length=mv.length):(pL mv T st go).length=mv.length:=by
 unfold pL;rw[cz,pF ls,lg,IE]
theorem J9 {x y:List Rat} (h:x.length=y.length) (hc:c < x.length):(List.zipWith (fun x y=>x - y) x y).getD c 0=x.getD c 0 - y.getD c 0:=by
 rw[aa,b6,aa (l:=x),aa (l:=y),af hc,af (by lia)];rfl
theorem Ie:∀u,∃Z,kry mv pt (u+1)=kry mv pt u++Z
 | 0=>⟨pt++[],rfl⟩
 | u+1=>by
  obtain ⟨Z,e⟩:=Ie u;refine ⟨Z.map (sJ mv),?_⟩;show pt++(kry mv pt (u+1)).map (sJ mv)=(pt++(kry mv pt u).map (sJ mv))++_
  rw[e,cI,b9]
theorem Fc {u:Nat}:∀s,∃Z,kry mv pt (u+s)=kry mv pt u++Z
 | 0=>⟨[],by rw[j6];rfl⟩
 | s+1=>by
  obtain ⟨Z,e⟩:=Fc (u:=u) s;obtain ⟨Y,e'⟩:=Ie (mv:=mv) (pt:=pt) (u+s);exact ⟨Z++Y,by rw[<- Nat.add_assoc,e',e,b9]⟩
def Ac (w:List Rat) (u k:Nat):List (List Rat):=(List.range u).map fun t=>(w.drop (t*k)).take k
theorem Fh:∀{u:Nat} {w:List Rat},w.length=u*k->(Ac w u k).flatten=w
 | 0,w,h=>by
  rw[Nat.zero_mul] at h;rw[List.length_eq_zero_iff.mp h];rfl
 | u+1,w,h=>by
  have e:Ac w (u+1) k=Ac (w.take (u*k)) u k++[w.drop (u*k)]:=by
   unfold Ac;rw[uw,cI];congr 1
   ·refine vD fun t ht=>?_
    have ht:=xg.mp ht;have:t*k+k<=u*k:=by rw[<- dR];exact az _ ht
    rw[List.drop_take,List.take_take,oy (by lia)]
   ·show [(w.drop (u*k)).take k]=_
    rw[aH (by rw[J5,h,dR];lia)]
  rw[e,je,Fh (by rw[cM,h,dR];lia)];simp
theorem RQ (h:w.length=u*k):∀xs∈Ac w u k,xs.length=k:=fun xs hx=>by
 obtain ⟨t,ht,rfl⟩:=aB.mp hx;have ht:=xg.mp ht;have:t*k+k<=u*k:=by rw[<- dR];exact az _ ht
 rw[cM,J5]
 lia
theorem LY {x:Rat} {xs:List Rat} (hx:xs∈Ac w u k) (hx':x∈xs):x∈w:=by
 obtain ⟨t,_,rfl⟩:=aB.mp hx;exact List.mem_of_mem_drop (cv hx')
def DA (w:List Rat) (T u k:Nat):List (List Rat):=List.replicate (T - u) (List.replicate k 0)++(Ac w u k).reverse
theorem HL (hu:u<=T):(DA w T u k).length=T:=by
 unfold DA Ac;rw[ak,aE,m6,aj,b8]
 lia
theorem Ol (h:w.length=u*k):∀xs∈DA w T u k,xs.length=k:=fun xs hx=>by
 rcases au.mp hx with hx | hx
 ·rw[(cN.mp hx).2,aE]
 ·exact RQ h xs (zX.mp hx)
theorem Nn {P:Rat->Prop} (h0:P 0) (h:∀x∈w,P x):∀xs∈DA w T u k,∀x∈xs,P x:=fun xs hx x hx'=>by
 rcases au.mp hx with hx | hx
 ·rw[(cN.mp hx).2] at hx';rw[(cN.mp hx').2];exact h0
 ·exact h x (LY (zX.mp hx) hx')
theorem KN {T k:Nat}:(List.replicate T (List.replicate k (0:Rat))).flatten=List.replicate (T*k) 0:=by
 rw[List.flatten_replicate_replicate]
theorem GS (D:jk mv pt lk) (ls:st.length=mv.length) (lg:go.length=mv.length) (hu:u<=T) (hw:w.length=(kry mv pt u).length) (e:OM (kry mv pt u) w mv.length=pL mv T st go):yR mv pt st (DA w T u pt.length) T=go:=by
 have hw':w.length=u*pt.length:=by rw[hw,vM]
 have lp:=HL (w:=w) (k:=pt.length) hu;have l1:=vE (pt:=pt) (pus:=DA w T u pt.length) ls (k:=T) (by lia);refine DX (by rw[l1,lg]) fun c hc=>?_
 rw[l1] at hc;rw[HF D ls T (by lia) (Ol hw') c hc,aH (by lia)]
 have er:(DA w T u pt.length).reverse.flatten=w++List.replicate ((T - u)*pt.length) 0:=by
  unfold DA;rw[List.reverse_append,List.reverse_reverse,je,Fh hw',List.reverse_replicate,KN]
 obtain ⟨Z,eZ⟩:=Fc (mv:=mv) (pt:=pt) (u:=u) (T - u);rw[show u+(T - u)=T by lia] at eZ;rw[er,eZ,ak,yQ]
 have p1:(bY (kry mv pt u).length fun i=>(w++List.replicate ((T - u)*pt.length) 0).getD i 0*cn (kry mv pt u++Z) i c)=(pL mv T st go).getD c 0:=by
  rw[<- e,Hw hc,hw];exact bf fun i hi=>by rw[BF hi,aa,bH (by lia),aa]
 have p2:(bY Z.length fun i=>(w++List.replicate ((T - u)*pt.length) 0).getD ((kry mv pt u).length+i) 0*cn (kry mv pt u++Z) ((kry mv pt u).length+i) c)=0:=dH fun i _=>by
  have z:(w++List.replicate ((T - u)*pt.length) (0:Rat)).getD ((kry mv pt u).length+i) 0=0:=by
   rw[aa,aU (by lia),dj]
   split <;> rfl
  rw[z,fK]
 rw[p1,p2,qR];unfold pL;rw[J9 (by rw[lg,pF ls]) (by lia)];grind
theorem Jt {ps':List Nat} (wp:∀xs∈pt,xs.length=mv.length) (RRu:bZ (kry mv pt u) mv.length R ps) (RRT:bZ (kry mv pt T) mv.length R ps') (lp:pr.length=mv.length) (h:∀xs∈kry mv pt u,eG xs pr=0):∀xs∈kry mv pt T,eG xs pr=0:=fun xs hx=>by
 have wu:=e8 (mv:=mv) rfl wp u;have wT:=e8 (mv:=mv) rfl wp T;obtain ⟨i,hi,rfl⟩:=bQ hx;have s1:eH (kry mv pt u).length (cn (kry mv pt u)) (cn (kry mv pt T) i):=eH.trans (fun t ht=>RRu.2.2.back t (by rw[<- RRu.1,RRT.1];exact ht)) (RRT.2.2.span i hi);obtain ⟨v,hv⟩:=s1
 have fn:∀{X:List (List Rat)} {i:Nat} (h:i < X.length) (c:Nat),X[i].getD c 0=cn X i c:=fun {X i} h c=>by
  unfold cn;rw[aa (l:=X),af h];rfl
 have w1:=wT _ (aQ hi);rw[ft (by lia),w1]
 have e1:(bY mv.length fun c=>(kry mv pt T)[i].getD c 0*pr.getD c 0)=bY (kry mv pt u).length fun t=>v t*bY mv.length fun c=>cn (kry mv pt u) t c*pr.getD c 0:=by
  have q:∀c,c < mv.length->(kry mv pt T)[i].getD c 0*pr.getD c 0=bY (kry mv pt u).length fun t=>v t*(cn (kry mv pt u) t c*pr.getD c 0):=fun c _=>by
   rw[fn hi c,hv c,dI,<- dA];exact bf fun t _=>by grind
  rw[bf q,jH];exact bf fun t _=>dA
 rw[e1];refine dH fun t ht=>?_
 have w2:=wu _ (aQ ht);have:=h _ (aQ ht);rw[ft (by lia),w2] at this
 have q:(bY mv.length fun c=>cn (kry mv pt u) t c*pr.getD c 0)=0:=by
  refine Eq.trans ?_ this;exact bf fun c _=>by rw[fn ht c]
 rw[q,dQ]
end
def Cf (l:Addr):Hp:=fun q=>if q=l then some (.lst []) else none
theorem off_ne {l:Addr}:Cf l l≠none:=by unfold Cf;rw[if_pos rfl];exact fun z=>nomatch z
theorem K7 {l q:Addr} (h:q≠l):Cf l q=none:=by unfold Cf;rw[if_neg h]
def JY (K:PySem.W.Frag) (l:Addr) (H:Hp) (R:List (List Rat)) (v:V):Prop:=∃q,v=V.ref q/\q≠l/\bL K (Cf l) H q R
section
variable {K:PySem.W.Frag} {H0 H H':Hp} {l p q:Addr} {R:List (List Rat)} {v:V} {mv pt:List (List Rat)} {u T:Nat}
theorem bL.off (h:bL K H0 H p R) (hl:H l=none):p≠l/\bL K (Cf l) H p R:=by
 obtain ⟨xs,g,r,n⟩:=h;refine ⟨fun z=>(by rw[z,hl] at g;cases g),xs,g,Paired.imp' (fun _ _ ⟨q,a,b,c⟩=>⟨q,a,K7 fun z=>?_,c⟩) r,n⟩;obtain ⟨_,gg,_⟩:=c;rw[z,hl] at gg;cases gg
theorem JY.same (h:JY K l H R v) (s:aJ H H'):JY K l H' R v:=by obtain ⟨q,a,b,c⟩:=h;exact ⟨q,a,b,c.same s⟩
theorem JY.upd {ys zs:List V} (h:JY K l H R v) (g:H l=some (.lst ys)):JY K l (upd H l (.lst zs)) R v:=by obtain ⟨q,a,b,c⟩:=h;exact ⟨q,a,b,c.updL g off_ne b⟩
def JT (mv pt:List (List Rat)) (u:Nat):List (List (List Rat)):=(List.range u).map fun s=>pt.map (jD mv s)
theorem Eh:JT mv pt (u+1)=JT mv pt u++[pt.map (jD mv u)]:=by unfold JT;rw[uw,cI];rfl
theorem vY:∀u,(JT mv pt u).flatten=kry mv pt u
 | 0=>rfl
 | u+1=>by
  have e:JT mv pt (u+1)=pt :: (JT mv pt u).map (List.map (sJ mv)):=by
   unfold JT;rw[List.range_succ_eq_map,fV,qV];congr 1
   ·exact o9 pt
   ·rw[qV];refine vD fun s _=>?_
    show pt.map (jD mv (s+1))=(pt.map (jD mv s)).map (sJ mv)
    rw[qV];rfl
  rw[e,ie,<- List.map_flatten,vY u];rfl
theorem Qk {s:Nat} {xs:List Rat} (h:xs∈pt.map (jD mv s)):xs∈kry mv pt (s+1):=by
 rw[<- vY,Eh,je];exact bV _ (by simpa using h)
theorem mV.fitP {a c s:Nat} (F:mV mv pt a c) (wm:∀xs∈mv,xs.length=mv.length) (wp:∀xs∈pt,xs.length=mv.length) (hs:s+1<=mv.length):∀xs∈mv,∀r∈pt.map (jD mv s),En xs r:=fun xs hx r hr=>by
 obtain ⟨M,V,M0,Ma,hV,fm,fp,a3,c3,e14,_⟩:=F;have f:=GG rfl wm wp hV fm fp (s+1) r (Qk hr);have V1:V<=2^c:=ai (cV _ (by lia)) hV;have e1:(s+1)*(a+c)<=mv.length*(a+c):=az _ hs;have e2:mv.length*(a+c)+4<=mv.length*(mv.length*(a+c)+4):=cV _ (by lia);have e3:(s+1)*(a+c)=a*(s+1)+c*(s+1):=by rw[fh,bX,bX c]
 refine ⟨a,c,a*(s+1),c*(s+1),⟨M,V,M0,Ma,V1,fm xs hx⟩,⟨M^(s+1),2^(c*(s+1)),kN M0,?_,aw _,f⟩,by lia⟩;exact ai (jd Ma _) (by rw[<- uu];exact aw _)
end
def Kx (K:PySem.W.Frag) (C:Addr):Sp:=fun vs H Q _=>∃(x:Addr) (u a c:Nat) (H0:Hp) (mv pt lk:List (List Rat)),vs=[.ref x,.int u]/\u<=mv.length/\m8 K H0 H C x mv pt lk/\jk mv pt lk/\mV mv pt a c /\
 ∀r us H',H r=none->aJ H H'->H' r=some (.lst us)->Paired (JY K r H') (JT mv pt u) us->Q (.ref r) H'
def Ku (K:PySem.W.Frag):Sp:=fun vs H Q _=>∃(p:Addr) (xs:List V) (Rs:List (List (List Rat))),vs=[.ref p]/\H p=some (.lst xs)/\Paired (JY K p H) Rs xs/\Rs.flatten.length<=1000 /\
 ∀r H0 H',H r=none->aJ H H'->bL K H0 H' r Rs.flatten->Q (.ref r) H'
def MB (K:PySem.W.Frag):Sp:=fun vs H Q _=>∃(p:Addr) (u k:Nat) (w:List Rat),vs=[.ref p,.int u,.int k]/\cQ K H p w/\w.length=u*k/\u*k<=1000/\u<=1000/\k<=1000 /\
 ∀r H',H r=none->aJ H H'->bL K H H' r (Ac w u k)->Q (.ref r) H'
def Kp (K:PySem.W.Frag) (C:Addr):Sp:=fun vs H Q _=>∃(x:Addr) (T:Nat) (H0:Hp) (mv pt lk:List (List Rat)),vs=[.ref x,.int T]/\T<=100/\m8 K H0 H C x mv pt lk/\jk mv pt lk /\
 ∀r H',H r=none->aJ H H'->bL K H H' r (List.replicate T (List.replicate pt.length 0))->Q (.ref r) H'
def Kt (K:PySem.W.Frag) (C:Addr):Sp:=fun vs H Q _=>∃(x s g:Addr) (T:Nat) (H0:Hp) (mv pt lk:List (List Rat)) (st go:List Rat),vs=[.ref x,.ref s,.ref g,.int T]/\T<=99/\m8 K H0 H C x mv pt lk/\jk mv pt lk/\JU mv pt lk/\cQ K H s st/\st.length=mv.length/\cQ K H g go/\go.length=mv.length/\Es mv pt st (List.replicate T (List.replicate pt.length 0))/\(∀x∈go,ot x) /\
 ∀r H',H r=none->aJ H H'->cQ K H' r (pL mv T st go)->Q (.ref r) H'
structure Sl (mv pt:List (List Rat)) (L:List Rat) (D W0 E W1:Nat):Prop where
 d0:0 < D
 e0:0 < E
 w0:1<=W0
 w1:1<=W1
 tk:∀u,u<=mv.length->∀xs∈kry mv pt u,∀x∈xs,Tp D W0 x
 tl:∀x∈L,Tp E W1 x
 de:D*E<=2^4300
 sw:∃w,W0*E+W1*D+D*E<=2^w/\w<=4300/\(mv.length+1)*(w+4)<=8900
def Kw (K:PySem.W.Frag) (C:Addr):Sp:=fun vs H Q _=>∃(x s g:Addr) (T a c D W0 E W1:Nat) (H0:Hp) (mv pt lk:List (List Rat)) (st go:List Rat),vs=[.ref x,.ref s,.ref g,.int T]/\T<=99/\m8 K H0 H C x mv pt lk/\jk mv pt lk/\JU mv pt lk/\mV mv pt a c/\cQ K H s st/\st.length=mv.length/\cQ K H g go/\go.length=mv.length/\Es mv pt st (List.replicate T (List.replicate pt.length 0))/\(∀x∈go,ot x)/\Sl mv pt (pL mv T st go) D W0 E W1 /\
 (∀t p pus q H',H' t=some (.tup [.str (Str.ofString "puts"),.ref p])->H p=none->aJ H H'->bL K H H' p pus->pus.length=T->(∀xs∈pus,xs.length=pt.length)->yR mv pt st pus T=go->0 < q->q<=(16*W0)^mv.length->(∀xs∈pus,∀x∈xs,Tp (E*q) (D*(mv.length*(W1*(16*W0)^mv.length))) x)->Q (.ref t) H') /\
 (∀t p pr q H',H' t=some (.tup [.str (Str.ofString "never"),.ref p])->H p=none->aJ H H'->cQ K H' p pr->pr.length=mv.length->(∀xs∈kry mv pt T,eG xs pr=0)->eG pr (pL mv T st go)=1->0 < q->q<=(16*W0)^mv.length*(16*(W1+E))->(∀y∈pr,Tp q ((16*W0)^mv.length*(16*(W1+E))) y)->Q (.ref t) H')
theorem Sl.join {mv pt:List (List Rat)} {L:List Rat} {D W0 E W1:Nat} (F:Sl mv pt L D W0 E W1) {rows:List (List Rat)} {due:List Rat} {n':Nat} (hd:due.length=rows.length) (h1:∀xs∈rows,∀x∈xs,Tp (D*E) (W0*E+W1*D+D*E) x) (h2:∀x∈due,Tp (D*E) (W0*E+W1*D+D*E) x) (n8:mv.length<=8) (hm:min rows.length n'<=mv.length+1):∃w,Fq (dq rows due) n' w:=by
 obtain ⟨w,b1,b2,b3⟩:=F.sw;have:=cu F.d0 F.e0;refine ⟨w,D*E,W0*E+W1*D+D*E,cu F.d0 F.e0,F.de,by lia,b1,fun xs hx x hx'=>?_,b2,by rw[rj hd];lia,by rw[rj hd];exact ai (az _ hm) b3⟩;unfold dq at hx;obtain ⟨i,hi,rfl⟩:=bQ hx;rw[uv] at hx';rcases au.mp hx' with z | z
 ·exact h1 _ (aQ _) x z
 ·rw[bF.mp z];exact h2 _ (aQ _)
theorem Tp.up {M W x:Nat} {q:Rat} (h:Tp M W q) (k:Nat) (hx:W*k<=x):Tp (M*k) x q:=by
 obtain ⟨z,e,b⟩:=h;exact ⟨z*k,by rw[eB,aN,<- e,aD];grind,by rw[cO,bN];exact ai (az _ b) hx⟩
section
variable {mv pt lk rows R N Hd:List (List Rat)} {st pr go:List Rat} {n r t T a c W B:Nat} {ps psd:List Nat} {Pm Y Z:Nat->Nat->Rat} {d:Rat}
theorem Vb.tp (V:Vb r n Pm Y Z d W) (r15:r<=15) (w1:1<=W):∃q:Nat,0 < q/\q<=(16*W)^r/\∀s,s < r->∀c,c < n->Tp q ((16*W)^r) (Y s c):=by
 have rlt:∀i∈kL (fun i=>i) r,i < r:=fun i hi=>by
  obtain ⟨t,ht,e⟩:=lA hi;have e:i=t:=e
  lia
 obtain ⟨q,eq,bq⟩:=GQ (N:=16) (Wx:=W) (rs:=kL (fun i=>i) r) (vs:=iB (fun j i=>Pm i j) r) (by rw[cw_len];lia) fun w hw i hi=>by
  obtain ⟨s,hs,rfl⟩:=cw_in hw;exact V.pf i (rlt i hi) s hs
 rw[qW] at bq;rw[<- V.det] at eq;have q0:q≠0:=fun z=>V.d0 (by rw[eq,z];rfl)
 refine ⟨q.natAbs,by lia,bq,fun s hs c hc=>?_⟩
 have cr:=vO (rs:=kL (fun i=>i) r) (v:=fun j i=>Pm i j) (c:=fun j=>Y j c) (W:=fun i=>Z i c) hs (fun i hi=>by
  rw[V.eq i (rlt i hi) c hc];exact bf fun j _=>dI _ _)
 obtain ⟨z,ez,bz⟩:=GQ (N:=16) (Wx:=W) (rs:=kL (fun i=>i) r) (vs:=Fg (fun j i=>Pm i j) s r++(fun i=>Z i c) :: iB (fun j i=>Pm i j) s) (by
  have:=congrArg List.length (cw_split (v:=fun j i=>Pm i j) hs);rw[ak,aZ,cw_len] at this;rw[ak,aZ]
  lia) fun w hw i hi=>by
   rcases au.mp hw with hw | hw
   ·obtain ⟨s',hs',rfl⟩:=Bv hw;exact V.pf i (rlt i hi) s' hs'
   ·rcases aF.mp hw with rfl | hw
    ·exact V.zf i (rlt i hi) c hc
    ·obtain ⟨s',hs',rfl⟩:=cw_in hw;exact V.pf i (rlt i hi) s' (by lia)
 rw[qW] at bz;rw[ez,<- V.det,eq] at cr;have key:Y s c*(q:Rat)=(z:Rat):=cr.symm;rcases uc q with h | h
 ·have hq:((q.natAbs:Nat):Rat)=(q:Rat):=by rw[<- aD,<- h]
  exact ⟨z,by rw[hq,key],bz⟩
 ·have hq:((q.natAbs:Nat):Rat)=-(q:Rat):=by rw[<- aD,<- cH];congr 1;lia
  exact ⟨-z,by rw[hq,cH,<- key];grind,by rw[kQ];exact bz⟩
theorem Qa (F:mV mv pt a c) (D8:mv.length<=8) (wm:∀xs∈mv,xs.length=mv.length) (wp:∀xs∈pt,xs.length=mv.length):∀T,∃R ps,Gd mv pt T R ps:=by
 intro T
 induction T with
 | zero=>exact ⟨_,_,Gd.start⟩
 | succ T ih =>
  obtain ⟨R,ps,G⟩:=ih;obtain ⟨RR,t,t1,t2,RRt,hs⟩:=id G;have le:=RR.le
  obtain ⟨R',ps',d,ls,S⟩:=Cs (n:=mv.length) (rows:=pt++R.map (sJ mv)) (fun xs hx=>by
   rcases au.mp hx with hx | hx
   ·exact wp xs hx
   ·obtain ⟨y,_,rfl⟩:=aB.mp hx;exact xn) (F.step D8 wm wp (t:=t) (by lia) RRt)
  have RR':=yj rfl wm wp RR S.rr;exact ⟨R',ps',(G.step wm wp RR').1⟩
theorem RL (F:mV mv pt a c) (D8:mv.length<=8) (wm:∀xs∈mv,xs.length=mv.length) (wp:∀xs∈pt,xs.length=mv.length) (RR:bZ (kry mv pt T) mv.length R ps):Gd mv pt T R ps:=by
 obtain ⟨R',ps',G⟩:=Qa F D8 wm wp T;obtain ⟨rfl,rfl⟩:=RR.same G.1;exact G
theorem mV.rtp (F:mV mv pt a c) (D8:mv.length<=8) (wm:∀xs∈mv,xs.length=mv.length) (wp:∀xs∈pt,xs.length=mv.length) (RR:bZ (kry mv pt T) mv.length R ps):∃q,0 < q/\q<=2^(ps.length*((mv.length - 1)*(a+c)+4))/\∀xs∈R,∀x∈xs,Tp q (2^(ps.length*((mv.length - 1)*(a+c)+4))) x:=by
 obtain ⟨_,t,t1,_,RRt,_⟩:=RL F D8 wm wp RR;obtain ⟨Pm,Z,d,w,vb,hw⟩:=F.vb wm wp t1 RRt;have le:=RR.le;obtain ⟨q,q0,q1,q2⟩:=vb.tp (by lia) ck
 have up:(16*2^w)^ps.length<=2^(ps.length*((mv.length - 1)*(a+c)+4)):=by
  have e:(16*2^w)^ps.length=2^(ps.length*(w+4)):=by rw[show (16:Nat)=2^4 from rfl,<- bD,<- uu,bX ps.length,qT w]
  rw[e];refine av (by decide) (aX _ ?_);rcases hw with ⟨_,rfl⟩ | ⟨_,rfl⟩ <;> lia
 refine ⟨q,q0,ai q1 up,An fun i hi e=>?_⟩;by_cases he:e < mv.length
 ·exact (q2 i (by rw[<- RR.1];exact hi) e he).mono up
 ·rw[xu RR.2.1 (by lia)];exact Tp.zero
end
theorem yY {mv:List (List Rat)} (wm:∀xs∈mv,xs.length=mv.length):∀t,jD mv t (List.replicate mv.length 0)=List.replicate mv.length 0
 | 0=>rfl
 | t+1=>by
  show sJ mv (jD mv t _)=_
  rw[yY wm t];refine DX (by rw[xn,aE]) fun c hc=>?_
  rw[xn] at hc;rw[Om wm (by rw[aE]) hc,dH fun j _=>?_]
  ·rw[aa,dj,if_pos hc];rfl
  ·rw[aa,dj]
   split <;> exact dQ _
section
variable {mv pt lk pus:List (List Rat)} {pr go:List Rat} {T:Nat}
theorem Oq (wm:∀xs∈mv,xs.length=mv.length) (lg:go.length=mv.length):pL mv T (List.replicate mv.length 0) go=go:=by
 unfold pL;rw[yY wm];refine DX (by rw[cz,aE,lg,IE]) fun c hc=>?_
 rw[cz,aE,lg,IE] at hc;rw[J9 (by rw[aE,lg]) (by lia)];have:(List.replicate mv.length (0:Rat)).getD c 0=0:=by rw[aa,dj];split <;> rfl
 rw[this];grind
theorem cf0 (D:jk mv pt lk):Es mv pt (List.replicate mv.length 0) (List.replicate T (List.replicate pt.length 0)):=fun k hk=>by
 rw[aE] at hk
 have e:yR mv pt (List.replicate mv.length 0) (List.replicate T (List.replicate pt.length 0)) k=List.replicate mv.length 0:=by
  have:=FH (T:=k) D (st:=List.replicate mv.length 0) (by rw[aE]);rw[yY D.mw] at this;refine Eq.trans ?_ this;unfold yR;rw[List.take_replicate,List.take_replicate,oy hk,IE]
 refine ⟨1,1,by decide,ck,ck,fun x hx=>?_,fun xs hx x hx'=>?_⟩
 ·rw[e] at hx;rw[(cN.mp hx).2];exact Fr.zero
 ·rw[(cN.mp hx).2] at hx';rw[(cN.mp hx').2];exact Fr.zero
end
structure RV (mv pt:List (List Rat)) (st pu:List Rat):Prop where
 f2:∀xs∈mv,En xs st
 part:∀kk,∀x∈nextK mv pt st pu kk,ot x
 su:∀u∈pu,ot u
 sp:∀row∈pt,∀y∈row,ot y
 mul:∀u∈pu,∀row∈pt,∀y∈row,ot (u*y)
def Kq (K:PySem.W.Frag):Sp:=fun vs H Q _=>∃(r s u:Addr) (H0:Hp) (mv pt lk:List (List Rat)) (st pu:List Rat),vs=[.ref r,.ref s,.ref u]/\fE K H0 H r mv pt lk/\jk mv pt lk/\cQ K H s st/\cQ K H u pu/\st.length=mv.length/\pu.length=pt.length/\RV mv pt st pu /\
 ∀t H',H t=none->aJ H H'->cQ K H' t (gY mv pt st pu)->Q (.ref t) H'
structure Bd (mv pt:List (List Rat)) (M1 M2 V a1 a2 c:Nat):Prop where
 m1:0 < M1
 m2:0 < M2
 b1:M1<=2^a1
 b2:M2<=2^a2
 gm:GF M1 V mv
 gp:GF M2 V pt
 vc:(mv.length+4)*V<=2^c
section
variable {mv pt lk pus:List (List Rat)} {st pu go:List Rat} {M1 M2 V a1 a2 c N Np p t T ν:Nat}
theorem Bd.v1 (B:Bd mv pt M1 M2 V a1 a2 c):V<=2^c:=ai (cV _ (by lia)) B.vc
theorem Bt {M W:Nat} {x:Rat} (h0:0 < M) {a b:Nat} (h1:M<=2^a) (h2:W<=2^b) (hab:a+b<=3990) (h:Fr M W x):ot x:=by
 refine AH (Tp.of h (aw _)) h0 (ai h1 (av (by decide) (by lia))) ?_;refine ai (aL h2 h1) ?_;rw[<- bD];exact av (by decide) (by lia)
theorem Bd.next (B:Bd mv pt M1 M2 V a1 a2 c) (D:jk mv pt lk) (ls:st.length=mv.length) (lu:pu.length=pt.length) (N0:0 < N) (dv:M2*Np∣M1*N) (hs:∀x∈st,Fr N (2^p) x) (hu:∀x∈pu,Fr Np (2^p) x) (hN:N<=2^ν) (sz:a1+ν+c+p<=3900) (sp2:a2+c<=3900):RV mv pt st pu/\∀x∈gY mv pt st pu,Fr (M1*N) (2^(c+p)) x:=by
 have V1:=B.v1;have i4:=D.i4;have MN0:0 < M1*N:=cu B.m1 N0;have MN:M1*N<=2^(a1+ν):=by rw[bD];exact aL B.b1 hN
 have Np0:0 < Np:=by
  rcases fY Np with z | z
  ·rw[z,AA] at dv;have:=R8 dv
   lia
  ·exact z
 have NpMN:Np<=M1*N:=ai (cV _ B.m2) (fU MN0 dv)
 have one:∀u∈pu,∀row∈pt,∀y∈row,Fr (M1*N) (V*2^p) (u*y):=fun u hu' row hr y hy=>by
  have:=(B.gp row hr y hy).mul (hu u hu');rw[dI];exact this.dvd dv
 have part:∀kk,kk<=pt.length->∀x∈nextK mv pt st pu kk,Fr (M1*N) (2^(c+p)) x:=fun kk hkk x hx=>by
  obtain ⟨j,hj,e⟩:=bQ hx;rw[jY] at hj;have e2:=A9 (mv:=mv) (pt:=pt) (st:=st) (pu:=pu) (k:=kk) hj;rw[aa,af (by rw[jY];exact hj)] at e2;have e3:x=eG (mv[j]++(pt.map fun xs=>xs.getD j 0).take kk) (st++pu.take kk):=by rw[<- e,<- e2];rfl
  have wj:=D.mw _ (aQ hj);rw[e3,uX (by lia)];have f1:=Fr.dot (B.gm _ (aQ hj)) hs;rw[wj] at f1
  have f2:Fr (M1*N) (4*(V*2^p)) (eG ((pt.map fun xs=>xs.getD j 0).take kk) (pu.take kk)):=by
   have hc:∀y∈(pt.map fun xs=>xs.getD j 0).take kk,Fr M2 V y:=fun y hy=>by
    obtain ⟨xs,hxs,rfl⟩:=aB.mp (cv hy);rw[aa];cases e:xs[j]? with
    | none=>exact Fr.zero
    | some z=>exact B.gp xs hxs z (ax e)
   have:=Fr.dot (ys:=pu.take kk) hc (fun y hy=>hu y (cv hy));refine (this.dvd dv).mono (az _ ?_);rw[cM,aj]
   lia
  refine (f1.add f2).mono ?_;rw[<- C8,bD,<- cL];exact az _ B.vc
 have szb:∀{x:Rat},Fr (M1*N) (2^(c+p)) x->ot x:=fun h=>Bt MN0 MN (aw _) (by lia) h
 have all:∀kk,∀x∈nextK mv pt st pu kk,Fr (M1*N) (2^(c+p)) x:=fun kk x hx=>by
  rcases cP pt.length kk with z | z
  ·have e:nextK mv pt st pu kk=nextK mv pt st pu pt.length:=(vL (by lia) (by lia)).trans (vL (aw _) (by lia)).symm;rw[e] at hx;exact part _ (aw _) x hx
  ·exact part kk z x hx
 refine ⟨⟨fun xs hx=>⟨a1,c,ν,p,⟨M1,V,B.m1,B.b1,V1,B.gm xs hx⟩,⟨N,2^p,N0,hN,aw _,hs⟩,by lia⟩,fun kk x hx=>szb (all kk x hx),fun u hu'=>?_,fun row hr y hy=>?_,fun u hu' row hr y hy=>szb ((one u hu' row hr y hy).mono (by rw[bD];exact az _ V1))⟩,fun x hx=>?_⟩
 ·exact Bt Np0 (ai NpMN MN) (aw _) (by lia) (hu u hu')
 ·exact Bt B.m2 B.b2 V1 (by lia) (B.gp row hr y hy)
 ·rw[<- vL (k:=pt.length) (aw _) (by lia)] at hx;exact all _ x hx
end
section
variable {mv pt lk pus:List (List Rat)} {st pu go:List Rat} {M1 M2 V a1 a2 c N Np p t T ν k:Nat}
def Qq (mv pt pus:List (List Rat)) (st:List Rat):Prop:=∃M1 M2 V a1 a2 c N Np p ν,Bd mv pt M1 M2 V a1 a2 c/\0 < N/\N<=2^ν/\M2*Np∣N/\(∀x∈st,Fr N (2^p) x)/\(∀xs∈pus,∀x∈xs,Fr Np (2^p) x)/\a1*(pus.length+1)+ν+c*(pus.length+1)+p<=3900/\a2+c<=3900
theorem rM {M a t N ν:Nat} (h:M<=2^a) (hN:N<=2^ν):M^t*N<=2^(a*t+ν):=by
 rw[bD,uu];exact aL (jd h t) hN
theorem Bd.states (B:Bd mv pt M1 M2 V a1 a2 c) (D:jk mv pt lk) (ls:st.length=mv.length) (wp:∀xs∈pus,xs.length=pt.length) (N0:0 < N) (hN:N<=2^ν) (dv:M2*Np∣N) (hs:∀x∈st,Fr N (2^p) x) (hu:∀xs∈pus,∀x∈xs,Fr Np (2^p) x) (sz:a1*(pus.length+1)+ν+c*(pus.length+1)+p<=3900) (sp2:a2+c<=3900):∀k,k<=pus.length->(∀x∈yR mv pt st pus k,Fr (M1^k*N) (2^(c*k+p)) x)/\∀pu,pus[k]?=some pu->RV mv pt (yR mv pt st pus k) pu:=by
 have key:∀k,k<=pus.length->(∀x∈yR mv pt st pus k,Fr (M1^k*N) (2^(c*k+p)) x)->∀pu,pus[k]?=some pu->RV mv pt (yR mv pt st pus k) pu/\∀x∈gY mv pt (yR mv pt st pus k) pu,Fr (M1*(M1^k*N)) (2^(c+(c*k+p))) x:=fun k hk f pu hpu=>by
  have mp:=ax hpu;have kl:=(aI.mp hpu).1;have e1:a1*(k+1)<=a1*(pus.length+1):=aX _ (by lia);have e2:c*(k+1)<=c*(pus.length+1):=aX _ (by lia);rw[fh,Mc] at e1 e2;refine B.next D (vE ls hk) (wp pu mp) (cu (kN B.m1) N0) ?_ f (fun x hx=>(hu pu mp x hx).mono (av (by decide) (Nat.le_add_left _ _))) (rM B.b1 hN) (by lia) sp2;exact Fw dv (Fw (sA _ _) (sA _ _))
 have fr:∀k,k<=pus.length->∀x∈yR mv pt st pus k,Fr (M1^k*N) (2^(c*k+p)) x:=by
  intro k
  induction k with
  | zero =>
   intro _ x hx;rw[Nat.pow_zero,yK,AA,Nat.zero_add];exact hs x hx
  | succ k ih =>
   intro hk x hx;have e:=af (show k < pus.length by lia);rw[uB e] at hx;have:=(key k (by lia) (ih (by lia)) _ e).2 x hx;rw[<- cL,bX M1,<- ff,show c+(c*k+p)=c*(k+1)+p by rw[fh];lia] at this;exact this
 exact fun k hk=>⟨fr k hk,fun pu hpu=>(key k hk (fr k hk) pu hpu).1⟩
theorem Qq.nx (h:Qq mv pt pus st) (D:jk mv pt lk) (ls:st.length=mv.length) (wp:∀xs∈pus,xs.length=pt.length) (hk:k<=pus.length) (hpu:pus[k]?=some pu):RV mv pt (yR mv pt st pus k) pu:=by
 obtain ⟨M1,M2,V,a1,a2,c,N,Np,p,ν,B,N0,hN,dv,hs,hu,sz,sp2⟩:=h;exact (B.states D ls wp N0 hN dv hs hu sz sp2 k hk).2 pu hpu
def SU (mv:List (List Rat)) (st:List Rat) (T:Nat):Prop:=∃M1 V a1 c N p ν,0 < M1/\M1<=2^a1/\GF M1 V mv/\(mv.length+4)*V<=2^c/\0 < N/\N<=2^ν/\(∀x∈st,Fr N (2^p) x)/\a1*(T+1)+ν+c*(T+1)+p<=3900
theorem PD (gm:GF M1 V mv) (wm:∀xs∈mv,xs.length=mv.length) (vc:(mv.length+4)*V<=2^c) (ls:st.length=mv.length) (hs:∀x∈st,Fr N (2^p) x):∀t,∀x∈jD mv t st,Fr (M1^t*N) (2^(c*t+p)) x:=by
 intro t
 induction t with
 | zero =>
  intro x hx;rw[Nat.pow_zero,yK,AA,Nat.zero_add];exact hs x hx
 | succ t ih =>
  intro x hx;obtain ⟨row,hr,rfl⟩:=aB.mp (show x∈mv.map fun xs=>eG xs (jD mv t st) from hx);have f:=Fr.dot (gm row hr) ih;rw[<- cL,bX M1,<- ff] at f;refine f.mono ?_;rw[wm row hr,<- cL,show c*(t+1)+p=c+(c*t+p) by rw[fh];lia,bD 2 c];exact az _ (ai (az V (show mv.length<=mv.length+4 by lia)) vc)
theorem SU.fit (h:SU mv st T) (wm:∀xs∈mv,xs.length=mv.length) (ls:st.length=mv.length) (ht:t<=T):(∀xs∈mv,En xs (jD mv t st))/\∀x∈jD mv t st,ot x:=by
 obtain ⟨M1,V,a1,c,N,p,ν,m0,m1,gm,vc,N0,hN,hs,sz⟩:=h;have f:=PD gm wm vc ls hs t;have V1:V<=2^c:=ai (cV _ (by lia)) vc;have e1:a1*t<=a1*T:=aX _ ht;have e2:c*t<=c*T:=aX _ ht;rw[fh,fh,Mc,Mc] at sz;exact ⟨fun xs hx=>⟨a1,c,a1*t+ν,c*t+p,⟨M1,V,m0,m1,V1,gm xs hx⟩,⟨M1^t*N,2^(c*t+p),cu (kN m0) N0,rM m1 hN,aw _,f⟩,by lia⟩,fun x hx=>Bt (cu (kN m0) N0) (rM m1 hN) (aw _) (by lia) (f x hx)⟩
def Sm (mv pt:List (List Rat)) (T:Nat):Prop:=∃M1 M2 V a1 a2 c,Bd mv pt M1 M2 V a1 a2 c/\a1*(T+1)+a2+c*(T+2)<=3900
theorem Sm.row (h:Sm mv pt T) (wm:∀xs∈mv,xs.length=mv.length) (wp:∀xs∈pt,xs.length=mv.length):∀xs∈pt,SU mv xs T:=fun xs hx=>by
 obtain ⟨M1,M2,V,a1,a2,c,B,sz⟩:=h;refine ⟨M1,V,a1,c,M2,c,a2,B.m1,B.b1,B.gm,B.vc,B.m2,B.b2,fun x hx'=>(B.gp xs hx x hx').mono B.v1,?_⟩;rw[fh c T 2] at sz;rw[fh c T 1]
 lia
end
def Mz (K:PySem.W.Frag):Sp:=fun vs H Q _=>∃(r s p:Addr) (H0 H1:Hp) (mv pt lk pus:List (List Rat)) (st:List Rat),vs=[.ref r,.ref s,.ref p]/\fE K H0 H r mv pt lk/\jk mv pt lk/\cQ K H s st/\st.length=mv.length/\bL K H1 H p pus/\pus.length<=100/\(∀xs∈pus,xs.length=pt.length)/\Qq mv pt pus st /\
 ∀t H',H t=none->aJ H H'->cQ K H' t (yR mv pt st pus pus.length)->Q (.ref t) H'
def Ji (K:PySem.W.Frag):Sp:=fun vs H Q _=>∃(r:Addr) (T:Nat) (H0:Hp) (mv pt lk:List (List Rat)),vs=[.ref r,.int T]/\T<=20/\fE K H0 H r mv pt lk/\jk mv pt lk/\Sm mv pt T /\
 ∀q H',H q=none->aJ H H'->bL K H H' q (kry mv pt T)->Q (.ref q) H'
section
variable {X:Cx}
theorem JQ (hc:X.calm=true):uq X (.builtin "max") (fun xs H Q=>∃(p:Addr) (ns:List Int),xs=[.ref p]/\bU X.K H p (ns.map V.int)/\0 < ns.length/\∀M,M∈ns->(∀a,a∈ns->a<=M)->Q (.int M) H):=by
 intro pins s σ H xs us Q I r h;obtain ⟨p,ns,rfl,hp,hne,q⟩:=h;obtain ⟨u,rfl,ru⟩:=vals1 r;cases ru;obtain ⟨its,r2,pl,_⟩:=I.list hp;have hi:=intsAre_of r2;have hl:=pl.isList;obtain ⟨xs,e⟩:=hi.allInts.items
 have hns:ns=xs.toList.map (·.1):=by
  rw[<- hi.numsOf,<- nums_intItems,<- e]
 have hsz:0 < xs.size:=by
  have h3:=hne;rw[hns,aj,Array.length_toList] at h3;exact h3
 rw[e] at hl;refine max_intList (I.ok.hd hc) hl hsz fun v h' tk hv hk=>?_
 obtain ⟨t,rfl⟩:=intItems_at hv;obtain ⟨h1,h2⟩:=argBest_gt (numAt xs) (xs.size - 1);refine ⟨.int _,H,I.kept hk,⟨_,rfl⟩,q _ ?_ fun a ha=>?_⟩
 ·rw[hns,numAt_eq];exact getD_in (by rw[aj,Array.length_toList];lia)
 ·rw[hns] at ha;obtain ⟨j,hj,rfl⟩:=mem_getD ha;rw[aj,Array.length_toList] at hj;rw[<- numAt_eq];exact h2 j (by lia)
end
theorem Cy {α β:Type} {f:α->β}:∀{l1:List α} {l2:List β},Paired (fun a b=>b=f a) l1 l2->l2=l1.map f
 | _,_,.nil=>rfl
 | _,_,.cons h r=>by rw[h,Cy r];rfl
def SN (mv pt:List (List Rat)) (T:Nat):Prop:=T<=12/\(T<=3\/((∀xs∈mv++pt,∀x∈xs,x.den<=9/\x.num.natAbs < 1000)/\(5 < mv.length->T<=mv.length)/\(3<=mv.length->mv.length<=5->T<=mv.length+1)))
def Qw (x:Rat):Int:=(x.den:Int)+(x.num.natAbs:Int) / 1000*9
theorem NS {x:Rat} (h:Qw x<=9):x.den<=9/\x.num.natAbs < 1000:=by
 unfold Qw at h;have:=x.den_pos
 lia
def IS (K:PySem.W.Frag):Sp:=fun vs H Q _=>∃(b r:Addr) (H0:Hp) (mv pt lk:List (List Rat)),vs=[.ref b,.ref r]/\iC H b/\H0 b≠none/\fE K H0 H r mv pt lk/\jk mv pt lk/\(∀xs∈mv++pt,∀x∈xs,ot x) /\
 ∀(T:Nat) H',SN mv pt T->iC H' b->dg b H H'->Q (.int T) H'
section
variable {mv pt lk pus:List (List Rat)} {st pr go:List Rat} {T k:Nat}
theorem Qq.sznP (h:Qq mv pt pus st):∀xs∈pus,∀x∈xs,ot x:=fun xs hx x hx'=>by
 obtain ⟨M1,M2,V,a1,a2,c,N,Np,p,ν,B,N0,hN,dv,hs,hu,sz,sp2⟩:=h
 have Np0:0 < Np:=by
  rcases fY Np with z | z
  ·rw[z,AA] at dv;have:=R8 dv
   lia
  ·exact z
 have le:Np<=N:=ai (cV _ B.m2) (fU N0 dv);exact Bt Np0 (ai le hN) (aw _) (by lia) (hu xs hx x hx')
end
def Jc (K:PySem.W.Frag):Sp:=fun vs H Q _=>∃(r s g p:Addr) (T:Nat) (H0 H1:Hp) (mv pt lk pus:List (List Rat)) (st go:List Rat),vs=[.ref r,.ref s,.ref g,.int T,.ref p]/\T<=100/\fE K H0 H r mv pt lk/\jk mv pt lk/\cQ K H s st/\st.length=mv.length/\cQ K H g go/\bL K H1 H p pus/\pus.length=T/\(∀xs∈pus,xs.length=pt.length)/\Qq mv pt pus st/\yR mv pt st pus T=go/\∀H',aJ H H'->Q (.bl true) H'
structure CtF (mv pt:List (List Rat)) (T:Nat) (st go:List Rat) (D W0 E W1:Nat):Prop where
 cf:Es mv pt st (List.replicate T (List.replicate pt.length 0))
 sg:∀x∈go,ot x
 co:Sl mv pt (pL mv T st go) D W0 E W1
 en:∀(pus:List (List Rat)) (q:Nat),0 < q->q<=(16*W0)^mv.length->pus.length=T->(∀xs∈pus,∀x∈xs,Tp (E*q) (D*(mv.length*(W1*(16*W0)^mv.length))) x)->Qq mv pt pus st
theorem La (ws vs:List V) (M1 M2 M3:Nat):∃μ:V->Nat,(∀x∈ws,μ x=M2)/\(∀x∈vs,x∉ws->μ x=M3)/\(∀x,x∉ws->x∉vs->μ x=M1)/\∀x,μ x=M1\/μ x=M2\/μ x=M3:=by
 classical
 refine ⟨fun x=>if x∈ws then M2 else if x∈vs then M3 else M1,fun x h=>if_pos h,fun x h h'=>?_,fun x h h'=>?_,fun x=>?_⟩
 ·show (if x∈ws then M2 else if x∈vs then M3 else M1)=M3
  rw[if_neg h',if_pos h]
 ·show (if x∈ws then M2 else if x∈vs then M3 else M1)=M1
  rw[if_neg h,if_neg h']
 ·show (if x∈ws then M2 else if x∈vs then M3 else M1)=M1\/(if x∈ws then M2 else if x∈vs then M3 else M1)=M2\/(if x∈ws then M2 else if x∈vs then M3 else M1)=M3
  by_cases h:x∈ws
  ·rw[if_pos h];exact .inr (.inl rfl)
  ·rw[if_neg h];by_cases h':x∈vs
   ·rw[if_pos h'];exact .inr (.inr rfl)
   ·rw[if_neg h'];exact .inl rfl
theorem kH.apart {K:PySem.W.Frag} {A:Addr->Prop} {H:Hp} {n:Nat} {C:V->Rat->Prop} {m p l b q0:Addr} {us ws vs:List V} (h:kH K A H n C m p l b q0 us ws vs):(∀x∈us,x∉ws/\x∉vs)/\∀x∈vs,x∉ws:=by
 obtain ⟨n1,n2,n3⟩:=dN.mp h.nd;obtain ⟨n4,n5,n6⟩:=dN.mp n1;exact ⟨fun x hx=>⟨fun z=>n3 x (au.mpr (.inl hx)) x z rfl,fun z=>n6 x hx x z rfl⟩,fun x hx z=>n3 x (au.mpr (.inr hx)) x z rfl⟩
theorem kH.fr3 {K:PySem.W.Frag} {A:Addr->Prop} {H:Hp} {n c:Nat} {m p l b q0:Addr} {us ws vs:List V} (h:kH K A H n (fun _=>Dr (2^c)) m p l b q0 us ws vs):∃M1 M2 M3,0 < M1/\0 < M2/\0 < M3/\M1<=2^(c*(n*n))/\M2<=2^(c*(ws.length*n))/\M3<=2^(c*(vs.length*n))/\(∀x∈us,fH K A H n (Fr M1 (2^c)) x)/\(∀x∈ws,fH K A H n (Fr M2 (2^c)) x)/\∀x∈vs,fH K A H n (Fr M3 (2^c)) x:=by
 have one:∀l:List V,(∀x∈l,x∈us++vs++ws)->∃M,0 < M/\M<=2^(c*(l.length*n))/\∀x∈l,fH K A H n (Fr M (2^c)) x:=fun l hl=>by
  obtain ⟨ra,pa,la,ha⟩:=AS fun x hx=>h.row x (hl x hx)
  obtain ⟨M,m0,m1,m2⟩:=MP (c:=c) (n:=n) (rows:=ra) ha;exact ⟨M,m0,by rw[la] at m1;exact m1,FX pa fun qs hq=>⟨(ha qs hq).1,m2 qs hq⟩⟩
 obtain ⟨M1,a1,a2,a3⟩:=one us fun x hx=>by simp [hx]
 obtain ⟨M2,b1,b2,b3⟩:=one ws fun x hx=>by simp [hx]
 obtain ⟨M3,c1,c2,c3⟩:=one vs fun x hx=>by simp [hx]
 rw[h.lm] at a2;exact ⟨M1,M2,M3,a1,b1,c1,a2,b2,c2,a3,b3,c3⟩
def IZ (K:PySem.W.Frag):Sp:=fun xs H Q _=>∃(b m p l q0:Addr) (n V1:Nat) (μ:V->Nat) (A:Addr->Prop) (us ws vs:List V),xs=[.ref b,.ref m,.ref p,.ref l]/\Fu A m p l b q0/\kH K A H n (fun x=>Fr (μ x) V1) m p l b q0 us ws vs/\n<=8/\ws.length<=4/\vs.length<=4/\(∀x,0 < μ x)/\(∀x,μ x<=2^800)/\(∃M,∀x,x∉ws->x∉vs->μ x=M)/\V1<=2^20/\(∀q,H q=none->A q) /\
 ∀r us' H',H' r=some (.tup [.ref m,.ref p,.ref l])->kH K A H' n (fun x=>Fr (μ x) (9^3*V1)) m p l b q0 us' ws vs->jf A b m H H'->Q (.ref r) H'
def SQ (n i o w c:Nat) (mv pt lk:List (List Rat)):Prop:=∃M1 M2 M3 V1:Nat,0 < M1/\0 < M2/\0 < M3/\GF M1 V1 mv/\GF M2 V1 pt/\GF M3 V1 lk/\((w<=9/\M1=2520/\M2=2520/\M3=2520/\V1=9^3*9)\/(9 < w/\M1<=2^(c*(n*n))/\M2<=2^(c*(i*n))/\M3<=2^(c*(o*n))/\V1=9^3*2^c))
def IW (K:PySem.W.Frag):Sp:=fun vs H Q _=>∃(b:Addr) (n i o w c:Nat),vs=[.ref b,.int n,.int i,.int o,.int w]/\iC H b/\n<=8/\i<=4/\o<=4/\1<=w/\w<=1000000/\max w 6<=2^c/\c<=20/\c*((n+i+o)*n)<=800 /\
 ∀r mv pt lk H',fE K H H' r mv pt lk->mv.length=n->pt.length=i->lk.length=o->jk mv pt lk->SQ n i o w c mv pt lk->iC H' b->dg b H H'->Q (.ref r) H'
def Rg (mv pt:List (List Rat)) (w:Nat):Prop:=(w<=9/\Bd mv pt 1 1 (9^3) 0 0 14)\/(w<=9/\mv.length<=5/\Bd mv pt 2520 2520 (9^3*9) 12 12 16)\/(w=1000/\mv.length<=2/\∃M1 M2,Bd mv pt M1 M2 (9^3*2^20) 80 160 33)
def Mw (K:PySem.W.Frag):Sp:=fun vs H Q _=>∃b:Addr,vs=[.ref b]/\iC H b /\
 ∀t r (w a c:Nat) mv pt lk H',H' t=some (.tup [.ref r,.int w])->fE K H H' r mv pt lk->jk mv pt lk->JU mv pt lk->mV mv pt a c->Rg mv pt w->1<=w->w<=1000->iC H' b->dg b H H'->Q (.ref t) H'
theorem GH {M V:Nat} {l:List (List Rat)} (h:GF M V l) (k:Nat):GF (k*M) V l:=fun xs hx x hx'=>(h xs hx x hx').scaleL k
theorem SQ.n {n i o w c:Nat} {mv pt lk:List (List Rat)} (h:SQ n i o w c mv pt lk):PtF n i o w c mv pt lk:=by
 obtain ⟨M1,M2,M3,V1,a1,a2,a3,f1,f2,f3,hc⟩:=h;rcases hc with ⟨w9,rfl,rfl,rfl,e⟩ | ⟨w9,e1,e2,e3,e⟩
 ·exact ⟨2520,V1,by decide,f1,f2,f3,.inl ⟨w9,rfl,e⟩⟩
 ·refine ⟨M1*M2*M3,V1,cu (cu a1 a2) a3,?_,?_,?_,.inr ⟨w9,?_,e⟩⟩
  ·have:=GH f1 (M2*M3);rwa [show M2*M3*M1=M1*M2*M3 by rw[bX (M2*M3),cL]] at this
  ·have:=GH f2 (M1*M3);rwa [show M1*M3*M2=M1*M2*M3 by rw[cL,bX M3,cL]] at this
  ·exact GH f3 (M1*M2)
  ·refine ai (aL (aL e1 e2) e3) ?_;rw[<- bD,<- bD,show c*((n+i+o)*n)=c*(n*n)+c*(i*n)+c*(o*n) by rw[C8,C8,fh,fh]];exact aw _
section
variable {mv pt lk pus:List (List Rat)} {st pu go pr:List Rat} {M1 M2 V a1 a2 c B b g p t T w:Nat}
theorem Bd.kry (X:Bd mv pt M1 M2 V a1 a2 c) (D:jk mv pt lk):∀t,∀xs∈kry mv pt t,∀x∈xs,Fr (M1^(t - 1)*M2) (2^(c*t)) x:=by
 intro t
 induction t with
 | zero=>intro xs hx;exact nomatch hx
 | succ t ih =>
  intro xs hx x hx';rcases au.mp (show xs∈pt++(L2.kry mv pt t).map (sJ mv) from hx) with hx | hx
  ·refine Fr.up (X.gp xs hx x hx') (sA _ _) (ai X.v1 (av (by decide) ?_));exact dC _ (by lia)
  ·obtain ⟨ys,hy,rfl⟩:=aB.mp hx;obtain ⟨row,hr,rfl⟩:=aB.mp (show x∈mv.map fun zs=>eG zs ys from hx');rcases t with _ | t
   ·exact nomatch hy
   have f:=Fr.dot (X.gm row hr) (ih ys hy);rw[show M1*(M1^(t+1 - 1)*M2)=M1^(t+1+1 - 1)*M2 by rw[<- cL,show t+1 - 1=t by lia,show t+1+1 - 1=t+1 by lia,ff,bX M1]] at f;refine f.mono ?_;rw[D.mw row hr,<- cL,show c*(t+1+1)=c+c*(t+1) by rw[fh c (t+1)];lia,bD 2 c];exact az _ (ai (az V (show mv.length<=mv.length+4 by lia)) X.vc)
end
open PySem.MeetsSeq
theorem O6 {R Z:List (List Rat)} {ps:List Nat} {n:Nat} (hz:∀i c,cn Z i c=0) (hl:R.length=ps.length) (hw:∀xs∈R,xs.length=n) (inc:∀i j,i < j->j < ps.length->ps.getD i 0 < ps.getD j 0) (low:∀j,j < ps.length->ps.getD j 0 < n)
  (unit:∀i,i < ps.length->∀j,j < ps.length->cn R i (ps.getD j 0)=if i=j then 1 else 0) (lead:∀i,i < ps.length->∀c,c < ps.getD i 0->cn R i c=0):bZ (R++Z) n R ps:=by
 refine ⟨hl,hw,⟨inc,low,unit,lead,fun i hi=>?_,fun i hi=>?_⟩⟩
 ·by_cases y:i < R.length
  ·rw[BF y,<- hl];exact eH.row y
  ·obtain ⟨j,rfl⟩:∃j,i=R.length+j:=⟨i - R.length,by lia⟩;rw[xA];exact eH.zero (hz j)
 ·rw[show cn R i=cn (R++Z) i from (BF (by lia)).symm];exact eH.row (by rw[ak];lia)
def N4 (a:Nat):List Rat:=(List.range 8).map fun j=>if j=a then 1 else 0
def Jn:List (List Rat):=(List.range 8).map fun i=>N4 (i+1)
theorem QE (i c:Nat):cn [] i c=0:=rfl
theorem Kc {a:Nat}:((List.range 8).map fun (j:Nat)=>(((if decide ((j:Int)=(a:Int))=true then 1 else 0:Int)):Rat))=N4 a:=by
 unfold N4;refine vD fun j _=>?_
 by_cases e:j=a
 ·rw[if_pos (decide_eq_true (by lia)),if_pos e];rfl
 ·rw[if_neg (by intro z;exact e (by have:=of_decide_eq_true z;lia)),if_neg e];rfl
theorem O4:((List.range 8).map fun (i:Nat)=>(List.range 8).map fun (j:Nat)=>(((if decide ((j:Int)=(i:Int)+1)=true then 1 else 0:Int)):Rat))=Jn:=by
 unfold Jn;exact vD fun i _=>Kc (a:=i+1)
theorem Q2:GF 1 1 Jn/\GF 1 1 []/\GF 1 1 [N4 0]:=by
 have b:∀{x:Rat},x=0\/x=1->Fr 1 1 x:=fun h=>by
  rcases h with rfl | rfl
  ·exact Fr.zero
  ·exact Fr.one (aw _)
 have q:(∀xs∈Jn,∀x∈xs,x=0\/x=1)/\∀xs∈[N4 0],∀x∈xs,x=0\/x=1:=by decide +kernel
 exact ⟨fun xs hx x hx'=>b (q.1 xs hx x hx'),(fun _ h=>nomatch h),fun xs hx x hx'=>b (q.2 xs hx x hx')⟩
def Sh (N T a1 a2 c ρ:Nat):Prop :=
 ρ<=3000/\(a1*(N - 1)+a2)+ρ<=4300/\c*N+(a1*(N - 1)+a2)+ρ+2<=4300/\(N+1)*(c*N+(a1*(N - 1)+a2)+ρ+2+4)<=8900/\a1*(T+1)+(a2+(ρ+N*(4+(c*N+(a1*(N - 1)+a2)))))+c*(T+1)+((a1*(N - 1)+a2)+3+(ρ+N*(4+(c*N+(a1*(N - 1)+a2)))))<=3900/\a2+c<=3900/\a1*(T+1)+a2+c*(T+2)<=3900/\2*(N*(c*T+(a1*(T - 1)+a2)+4)+(a1*(T - 1)+a2))<=3990
structure Si (mv pt:List (List Rat)) (T:Nat):Prop where
 kf:∃a c,mV mv pt a c
 ad:Sm mv pt T
 lw:∃S,SS (kry mv pt T) mv.length S
 row:∀R ps,bZ (kry mv pt T) mv.length R ps->(∀xs∈R,∀z∈xs,ot z)/\∀xs∈R,∃D W0 E W1,CtF mv pt T (List.replicate mv.length 0) xs D W0 E W1
section
variable {mv pt lk R:List (List Rat)} {M1 M2 Vx a1 a2 c N T Tm a k ρ w:Nat} {ps:List Nat}
theorem L5 (B:Bd mv pt M1 M2 Vx a1 a2 c) (D:jk mv pt lk) (KF:mV mv pt a k) (hρ:mv.length*((mv.length - 1)*(a+k)+4)<=ρ) (hn:mv.length<=N) (n15:N<=15) (hT:T<=Tm) (Z:Sh N Tm a1 a2 c ρ):Si mv pt T:=by
 obtain ⟨z0,z1,z2,z3,z4,z5,z6,z7⟩:=Z;have n8:mv.length<=2^3:=D.n8;have up:∀{p r:Nat},p<=r->2^p<=2^r:=fun z=>av (by decide) z
 have t1:a1*(T+1)<=a1*(Tm+1):=aX _ (by lia);have t2:c*(T+1)<=c*(Tm+1):=aX _ (by lia);have t3:c*(T+2)<=c*(Tm+2):=aX _ (by lia);have t4:a1*(T - 1)<=a1*(Tm - 1):=aX _ (by lia);have t5:c*T<=c*Tm:=aX _ hT;have D0:0 < M1^(N - 1)*M2:=cu (kN B.m1) B.m2;have D1:M1^(N - 1)*M2<=2^(a1*(N - 1)+a2):=rM B.b1 B.b2
 have kf:∀u m,u<=m->∀xs∈kry mv pt u,∀x∈xs,Fr (M1^(m - 1)*M2) (2^(c*m)) x:=fun u m hu xs hx x hx' =>
  Fr.up (B.kry D u xs hx x hx') (Nat.mul_dvd_mul_right (Nat.pow_dvd_pow _ (by lia)) _) (av (by decide) (aX _ hu))
 have W0:2^(c*N)*(M1^(N - 1)*M2)<=2^(c*N+(a1*(N - 1)+a2)):=by rw[bD];exact aX _ D1
 refine ⟨⟨a,k,KF⟩,⟨M1,M2,Vx,a1,a2,c,B,by lia⟩,⟨_,OG.lws (w:=c*T+(a1*(T - 1)+a2)) (a:=a1*(T - 1)+a2) ⟨M1^(T - 1)*M2,2^(c*T+(a1*(T - 1)+a2)),cu (kN B.m1) B.m2,rM B.b1 B.b2,ck,aw _,fun xs hx x hx'=>Tp.of (kf T T (aw _) xs hx x hx') (by rw[bD];exact aX _ (rM B.b1 B.b2)),by lia,?_⟩ (e8 rfl D.pw T)⟩,fun R ps RR=>?_⟩
 ·have:min (kry mv pt T).length mv.length*(c*T+(a1*(T - 1)+a2)+4)<=N*(c*Tm+(a1*(Tm - 1)+a2)+4):=aL (by lia) (by lia)
  lia
 obtain ⟨q,q0,q1,q2⟩:=KF.rtp D.n8 D.mw D.pw RR;have le:=RR.le;have pe:ps.length*((mv.length - 1)*(a+k)+4)<=ρ:=ai (az _ le) hρ;have q1:=ai q1 (up pe)
 have q2:∀xs∈R,∀x∈xs,Tp q (2^ρ) x:=fun xs hx x hx'=>by
  obtain ⟨z,e,l⟩:=q2 xs hx x hx';exact ⟨z,e,ai l (up pe)⟩
 have szR:∀xs∈R,∀x∈xs,ot x:=fun xs hx x hx'=>AH (q2 xs hx x hx') q0 (ai q1 (up (by lia))) (up (by lia))
 refine ⟨szR,fun xs hx=>⟨M1^(N - 1)*M2,2^(c*N)*(M1^(N - 1)*M2),q,2^ρ,cf0 D,szR xs hx,?_,fun pus q' q0' q1' lp hp=>?_⟩⟩
 ·rw[Oq D.mw (RR.2.1 xs hx)];generalize a1*(N - 1)+a2=dd at *
  refine ⟨D0,q0,cu (kN (by decide)) D0,ck,fun u hu ys hy x hx'=>Tp.of (kf u N (by lia) ys hy x hx') (aw _),q2 xs hx,?_,⟨c*N+dd+ρ+2,?_,z2,ai (az _ (by lia)) z3⟩⟩
  ·refine ai (aL D1 q1) ?_;rw[<- bD];exact up (by lia)
  ·have S:∀{x y k j:Nat},x<=2^k->y<=2^j->k+j<=c*N+dd+ρ->x*y<=2^(c*N+dd+ρ):=fun hx hy hk=>by
    refine ai (aL hx hy) ?_;rw[<- bD];exact up hk
   have s1:=S W0 q1 (by lia);have s2:=S (aw (2^ρ)) D1 (by lia);have s3:=S D1 q1 (by lia);rw[bD 2 (c*N+dd+ρ) 2];generalize 2^(c*N+dd+ρ)=P at s1 s2 s3 ⊢
   lia
 ·have Np0:0 < q*q':=cu q0 q0'
  have qx:(16*(2^(c*N)*(M1^(N - 1)*M2)))^mv.length<=2^(N*(4+(c*N+(a1*(N - 1)+a2)))):=by
   have e1:16*(2^(c*N)*(M1^(N - 1)*M2))<=2^(4+(c*N+(a1*(N - 1)+a2))):=by rw[bD 2 4];exact aX _ W0
   refine ai (jd e1 _) ?_;rw[<- uu,bX N];exact up (aX _ hn)
  have hq':=ai q1' qx
  have hP:M1^(N - 1)*M2*(mv.length*(2^ρ*(16*(2^(c*N)*(M1^(N - 1)*M2)))^mv.length))<=2^((a1*(N - 1)+a2)+3+(ρ+N*(4+(c*N+(a1*(N - 1)+a2))))):=by
   refine ai (aL D1 (aL n8 (aX _ qx))) ?_;rw[<- bD,<- bD,<- bD,<- Nat.add_assoc];exact aw _
  refine ⟨M1,M2,Vx,a1,a2,c,M2*(q*q'),q*q',_,a2+(ρ+N*(4+(c*N+(a1*(N - 1)+a2)))),B,cu B.m2 Np0,?_,Nat.dvd_refl _,fun x hx'=>by rw[List.eq_of_mem_replicate hx'];exact Fr.zero,fun xs' hx' x hx''=>((hp xs' hx' x hx'').fr Np0).mono hP,by rw[lp];lia,z5⟩;rw[bD,bD];exact aL B.b2 (aL q1 hq')
def Ql (mv pt:List (List Rat)) (T:Nat):Prop:=T<=12/\(T<=3\/5 < mv.length\/∀xs∈mv++pt,∀x∈xs,x.den<=9/\x.num.natAbs < 1000)
theorem SN.s41 (h:SN mv pt T):Ql mv pt T:=⟨h.1,h.2.elim .inl fun h=>.inr (.inr h.1)⟩
theorem Q6 (G:Rg mv pt w) (D:jk mv pt lk) (St:Ql mv pt T):Si mv pt T:=by
 obtain ⟨t12,hs⟩:=St;have md:∀{n N e:Nat},n<=N->n*((n - 1)*e+4)<=N*((N - 1)*e+4):=fun h=>aL h (Nat.add_le_add_right (az _ (by lia)) _)
 have two:mv.length<=5->Bd mv pt 2520 2520 (9^3*9) 12 12 16->Si mv pt T:=fun n5 B =>
  L5 (N:=5) (Tm:=12) (ρ:=580) B D (pM (M:=2520) (V1:=9^3*9) (a:=12) (c:=16) (n0:=5) (by decide) (by decide) n5 (by decide) B.gm B.gp (by decide)) (ai (md n5) (by decide)) n5 (by decide) t12 (by unfold Sh;decide)
 rcases G with ⟨_,B⟩ | ⟨_,n5,B⟩ | ⟨w1,n2,M1,M2,B⟩
 ·exact L5 (N:=8) (Tm:=12) (ρ:=816) B D (pM (M:=1) (V1:=9^3) (a:=0) (c:=14) (n0:=8) (by decide) (by decide) D.n8 (by decide) B.gm B.gp (by decide)) (ai (md D.n8) (by decide)) D.n8 (by decide) t12 (by unfold Sh;decide)
 ·exact two n5 B
 ·rcases hs with t3 | n6 | hd
  ·have fm:GF (M1*M2) (9^3*2^20) mv:=fun xs hx x hx'=>(B.gm xs hx x hx').scale M2
   have fp:GF (M1*M2) (9^3*2^20) pt:=fun xs hx x hx'=>(B.gp xs hx x hx').scaleL M1
   have hM:M1*M2<=2^240:=ai (aL B.b1 B.b2) (by rw[<- bD];exact aw _);exact L5 (N:=2) (Tm:=3) (ρ:=552) B D (pM (a:=240) (c:=32) (n0:=2) (cu B.m1 B.m2) hM n2 (by decide) fm fp (by decide)) (ai (md n2) (by decide)) n2 (by decide) t3 (by unfold Sh;decide)
  ·lia
  ·have gf:∀l:List (List Rat),(∀xs∈l,xs∈mv++pt)->GF 2520 (9^3*9) l:=fun l hl xs hx x hx'=>by
    have:=hd xs (hl xs hx) x hx';exact ((Fr.own x (aS this.2)).dvd (Im this.1)).mono (by decide)
   exact two (by lia) ⟨by decide,by decide,by decide,by decide,gf mv fun xs hx=>au.mpr (.inl hx),gf pt fun xs hx=>au.mpr (.inr hx),ai (az _ (show mv.length+4<=9 by lia)) (by decide)⟩
theorem O7 (wp:∀xs∈pt,xs.length=mv.length) (RR:bZ (kry mv pt T) mv.length R ps) {L pr:List Rat} (hL:L∈R) (lpr:pr.length=mv.length) (h2:∀xs∈kry mv pt T,eG xs pr=0) (h3:eG pr L=1):False:=by
 have wT:=e8 (mv:=mv) rfl wp T;obtain ⟨i,hi,rfl⟩:=bQ hL;have wL:=RR.2.1 _ hL;obtain ⟨v,hv⟩:=RR.2.2.back i (by rw[<- RR.1];exact hi);rw[ft (by lia),lpr] at h3
 have e1:∀c,c < mv.length->pr.getD c 0*R[i].getD c 0=bY (kry mv pt T).length fun s=>v s*(cn (kry mv pt T) s c*pr.getD c 0):=fun c _=>by
  have:R[i].getD c 0=cn R i c:=by
   unfold cn;rw[aa (l:=R),af hi];rfl
  rw[this,hv c,<- dA];exact bf fun s _=>by grind
 rw[bf e1,jH,dH fun s hs=>?_] at h3
 ·exact absurd h3 (by decide)
 ·rw[dA];have:=h2 _ (aQ hs);rw[ft (by rw[wT _ (aQ hs),lpr]),wT _ (aQ hs)] at this
  have q:(bY mv.length fun c=>cn (kry mv pt T) s c*pr.getD c 0)=0:=by
   refine Eq.trans (bf fun c _=>?_) this;unfold cn;rw[aa (l:=kry mv pt T),af hs];rfl
  rw[q,dQ]
end
def MC (K:PySem.W.Frag) (C:Addr):Sp:=fun vs H Q _=>∃(x r q:Addr) (T:Nat) (H0 H1 H2:Hp) (mv pt lk R:List (List Rat)) (ps:List Nat),vs=[.ref x,.ref r,.ref q,.int T]/\T<=12/\m8 K H0 H C x mv pt lk/\fE K H1 H r mv pt lk/\jk mv pt lk/\JU mv pt lk/\Si mv pt T/\bL K H2 H q R/\bZ (kry mv pt T) mv.length R ps/\∀H',aJ H H'->Q (.bl true) H'
def Jb:Sp:=fun vs H Q _=>∃b:Addr,vs=[.ref b]/\iC H b/\∀H',iC H' b->dg b H H'->Q (.bl true) H'
def Dy (c:Rat) (t:Nat):List Rat:=(List.range 8).map fun j=>if j+t=7 then c else 0
def Fx (T:Nat):List (List Rat):=(List.range (8 - (8 - T))).map fun i=>N4 (8 - T+i)
theorem O5:∀v,v < 9->∀T,T < 13->kry Jn [Dy ((v+1:Nat):Rat) 0] T=(List.range T).map (Dy ((v+1:Nat):Rat)):=by decide +kernel
def Jm (T:Nat):List Nat:=(List.range (8 - (8 - T))).map fun i=>8 - T+i
theorem Su:∀T,T < 13->(Fx T).length=(Jm T).length/\(∀xs∈Fx T,xs.length=8)/\(∀j,j < (Jm T).length->∀i,i < j->(Jm T).getD i 0 < (Jm T).getD j 0)/\(∀j,j < (Jm T).length->(Jm T).getD j 0 < 8)/\(∀i,i < (Jm T).length->∀j,j < (Jm T).length->cn (Fx T) i ((Jm T).getD j 0)=if i=j then 1 else 0)/\∀i,i < (Jm T).length->∀c,c < (Jm T).getD i 0->cn (Fx T) i c=0:=by decide +kernel
theorem Of:∀T,T < 13->∀i,i < (Fx T).length->∀c,c < 8->cn (Fx T) i c=if c=8 - T+i then 1 else 0:=by decide +kernel
theorem KC {q:Rat} {T t c:Nat} (hc:c < 8) (ht:t < T):cn ((List.range T).map (Dy q)) t c=if c+t=7 then q else 0:=by
 unfold cn;rw[aa (l:=List.map _ _),aG,df ht];show (Dy q t).getD c 0=_
 unfold Dy;rw[aa,aG,df hc];rfl
theorem Ss {q:Rat} {T:Nat}:∀xs∈(List.range T).map (Dy q),xs.length=8:=fun xs hx=>by
 obtain ⟨t,_,rfl⟩:=aB.mp hx;unfold Dy;rw[aj,b8]
theorem Q1 {v T:Nat} (hv:v < 9) (hT:T < 13):bZ (kry Jn [Dy ((v+1:Nat):Rat) 0] T) 8 (Fx T) (Jm T):=by
 rw[O5 v hv T hT];obtain ⟨l,w,inc,low,unit,lead⟩:=Su T hT;have A:bZ (Fx T++[]) 8 (Fx T) (Jm T):=O6 QE l w (fun i j h1 h2=>inc j h2 i h1) low unit lead;rw[j6] at A;have lu:(Fx T).length=8 - (8 - T):=by unfold Fx;rw[aj,b8]
 have q0:((v+1:Nat):Rat)≠0:=fun z=>by
  have z:(((v+1:Nat):Int):Rat)=0:=by rw[aD];exact z
  have:=ng z
  lia
 generalize ((v+1:Nat):Rat)=q at q0;have lr:((List.range T).map (Dy q)).length=T:=by rw[aj,b8]
 have far:∀i c,8<=c->cn ((List.range T).map (Dy q)) i c=0:=fun i c hc=>xu Ss hc
 have faru:∀i c,8<=c->cn (Fx T) i c=0:=fun i c hc=>xu w hc
 refine ⟨l,w,A.2.2.other (fun i hi=>?_) fun t ht=>?_⟩
 ·rw[lr];refine ⟨fun s=>if s=7 - (8 - T+i) then 1 / q else 0,fun c=>?_⟩
  rw[gG (i:=7 - (8 - T+i)) (by lia) fun j _ ne=>by
   show (if j=7 - (8 - T+i) then _ else (0:Rat))*_=0
   rw[if_neg ne,fK]]
  show _=(if 7 - (8 - T+i)=7 - (8 - T+i) then 1 / q else (0:Rat))*_
  rw[if_pos rfl];by_cases hc:c < 8
  ·rw[Of T hT i hi c hc,KC hc (by lia)];by_cases e:c=8 - T+i
   ·rw[if_pos e,if_pos (by lia)];grind
   ·rw[if_neg e,if_neg (by lia),dQ]
  ·rw[faru _ _ (by lia),far _ _ (by lia),dQ]
 ·rw[lr] at ht;by_cases t8:t < 8
  ·refine ⟨fun s=>if s=7 - t - (8 - T) then q else 0,fun c=>?_⟩
   rw[gG (i:=7 - t - (8 - T)) (by lia) fun j _ ne=>by
    show (if j=7 - t - (8 - T) then _ else (0:Rat))*_=0
    rw[if_neg ne,fK]]
   show _=(if 7 - t - (8 - T)=7 - t - (8 - T) then q else (0:Rat))*_
   rw[if_pos rfl];by_cases hc:c < 8
   ·rw[Of T hT _ (by lia) c hc,KC hc ht];by_cases e:c+t=7
    ·rw[if_pos e,if_pos (by lia),yJ]
    ·rw[if_neg e,if_neg (by lia),dQ]
   ·rw[faru _ _ (by lia),far _ _ (by lia),dQ]
  ·refine eH.zero fun c=>?_
   by_cases hc:c < 8
   ·rw[KC hc ht,if_neg (by lia)]
   ·exact far _ _ (by lia)
theorem Lo {q:Rat}:jk Jn [Dy q 0] []:=⟨by decide,by simp,by decide,by decide,fun xs hx=>by rw[bF.mp hx];unfold Dy;rw[aj,b8];rfl,by decide⟩
theorem Ln {v:Nat} (hv:v < 9):GF 1 9 Jn/\GF 1 9 [Dy ((v+1:Nat):Rat) 0]/\GF 1 9 []:=by
 refine ⟨fun xs hx x hx'=>(Q2.1 xs hx x hx').mono (by decide),fun xs hx x hx'=>?_,(fun _ h=>nomatch h)⟩;rw[bF.mp hx] at hx';obtain ⟨j,_,rfl⟩:=aB.mp hx';show Fr 1 9 (if j+0=7 then ((v+1:Nat):Rat) else 0)
 split
 ·have:Fr 1 9 (((v+1:Nat):Int):Rat):=Fr.int (by rw[bN];lia);rwa [aD] at this
 ·exact Fr.zero
theorem RC {v:Nat} (hv:v < 9):JU Jn [Dy ((v+1:Nat):Rat) 0] []:=⟨1,9,by decide,ck,ai (show 9<=2^4 by decide) (av (by decide) (by decide)),Ln hv⟩
theorem RD {v:Nat} (hv:v < 9):mV Jn [Dy ((v+1:Nat):Rat) 0] 0 14:=pM (M:=1) (V1:=9) (n0:=8) (by decide) (by decide) (by decide) (by decide) (Ln hv).1 (Ln hv).2.1 (by decide)
theorem O3 {v:Nat}:List.replicate 7 (0:Rat)++[((v+1:Nat):Rat)]=Dy ((v+1:Nat):Rat) 0:=by
 unfold Dy;rfl
end L2
open L2
local macro_rules | `(tactic| walk_at "hl") => `(tactic| first | (show _ ≤ sizeLine; with_unfolding_all decide) | (with_unfolding_all exact (by decide)))
local macro_rules | `(tactic| walk_at "sq") => `(tactic| first | with_reducible assumption | with_reducible exact sv.of (by assumption) | with_reducible exact bU.of (by assumption) | with_reducible exact sv.of aK | with_reducible exact bU.of aK | assumption)
local macro_rules | `(tactic| walk_at "sc") => `(tactic| first | (with_reducible show (0 : Int) < _; decide) | with_reducible exact Iu (by decide) (by decide) | with_reducible exact Eb (by decide) (by decide) | with_reducible exact cpow_of (by decide) (by decide) (by decide))
local macro_rules | `(tactic| walk_at "rd") => `(tactic| first
  | with_reducible refine Pc ?_
  | with_reducible refine MW ?_
  | with_reducible refine Pw ?_
  | with_reducible refine KS ?_
  | ((with_reducible refine' O9 ?hx1 ?_); (case hx1 => with_unfolding_all rfl))
  | with_reducible refine Sv ?_
  | with_reducible refine Rh ?_
  | with_reducible refine Rm ?_
  | with_reducible refine Q7 ?_
  | with_reducible refine Sw ?_
  | with_reducible refine Pu ?_
  | with_reducible refine Pj ?_
  | with_reducible refine Pt ?_
  | with_reducible refine Ph ?_
  | with_reducible refine rd_eqB ?_
  | with_reducible refine rd_neB ?_
  | with_reducible refine MZ ?_
  | with_reducible refine FZ ?_
  | with_reducible refine Pq ?_
  | with_reducible refine MT ?_
  | with_reducible refine MX ?_
  | with_reducible refine MY ?_
  | with_reducible refine KR ?_
  | with_reducible refine MS ?_
  | with_reducible refine Q8 ?_
  | with_reducible refine Pd ?_
  | with_reducible refine rd_retN ?_
  | with_reducible refine Pn ?_
  | with_reducible refine Px ?_
  | with_reducible refine Rf ?_
  | with_reducible refine Pf ?_
  | with_reducible refine Ni ?_
  | with_reducible refine rd_orV ?_
  | with_reducible refine MV ?_
  | with_reducible refine Po ?_
  | with_reducible refine O8 ?_
  | with_reducible refine NH ?_
  | with_reducible refine RH ?_
  | with_reducible refine RI ?_
  | with_reducible refine RJ ?_
  | with_reducible refine Oh ?_
  | with_reducible refine Pg ?_
  | with_reducible refine Nd ?_
  | with_reducible refine Pa ?_
  | with_reducible refine Pk ?_
  | with_reducible refine Ng ?_
  | with_reducible refine Ri ?_
  | with_reducible refine Nc ?_
  | with_reducible refine Pe ?_
  | with_reducible refine Nh ?_
  | ((with_reducible refine' rd_aug ?hx1 ?_); (case hx1 => with_unfolding_all rfl))
  | with_reducible refine Pl ?_
  | with_reducible refine M8 ?_
  | with_reducible refine KU ?_
  | with_reducible refine Na ?_
  | with_reducible refine Q9 ?_
  | with_reducible refine Jp ?_
  | with_reducible refine MU ?_
  | with_reducible refine Pp ?_
  | with_reducible refine KQ ?_
  | with_reducible refine M6 ?_
  | with_reducible refine KP ?_
  | with_reducible refine KO ?_
  | ((with_reducible refine' Nf ?hx1 ?_); (case hx1 => with_unfolding_all rfl))
  | with_reducible refine MR ?_
  | with_reducible refine Rj ?_
  | with_reducible refine rd_bm0 ?_
  | with_reducible refine rd_brk ?_
  | ((with_reducible refine' M7 ?hx1 ?hx2 ?_); (case hx1 => walk_at "sq"); (case hx2 => with_unfolding_all rfl))
  | with_reducible refine rd_cont ?_
  | ((with_reducible refine' fw ?hx1 ?_); (case hx1 => walk_at "sc"))
  | ((with_reducible refine' Gf ?hx1 ?hx2 ?_); (case hx1 => walk_at "sq"); (case hx2 => with_unfolding_all rfl))
  | ((with_reducible refine' cD ?hx1 ?hx2 ?_); (case hx1 => walk_at "sq"); (case hx2 => with_unfolding_all rfl))
  | ((with_reducible refine' Nb ?hx1 ?hx2 ?_); (case hx1 => walk_at "sq"); (case hx2 => with_unfolding_all rfl))
  | ((with_reducible refine' fk ?hx1 ?hx2 ?hx3 ?_); (case hx1 => with_reducible first | assumption | exact aK); (case hx2 => with_unfolding_all rfl); (case hx3 => with_unfolding_all rfl))
  | with_reducible refine ⟨_, rfl, ?_⟩
  | with_reducible refine ⟨_, _, rfl, ?_⟩)
local macro_rules | `(tactic| walk_at "w") => `(tactic| repeat walk_at "rd")
local macro_rules | `(tactic| walk_at "d") => `(tactic| exact ⟨rfl,rfl,rfl,by decide +kernel,rfl,by decide +kernel,by decide +kernel⟩)
namespace Lw
open PySem PySem.Spec PyProof.Rows L2 Nm
set_option maxHeartbeats 4000000
def top (i:Nat):Stmt:=PySem.Challenge.pw_helmsum_k41_reach_rows.main.body.getD i (.Pass ⟨0,0,0,0⟩)
abbrev lh:Stmt:=top 55
abbrev jN:Stmt:=top 56
abbrev jI:Stmt:=top 51
abbrev kT:Stmt:=top 9
abbrev eO:Stmt:=top 10
abbrev jL:Stmt:=top 12
abbrev rK:Stmt:=top 16
abbrev gO:Stmt:=top 52
abbrev ee:Stmt:=inClass (top 53) 0
abbrev jJ:Stmt:=top 19
abbrev d9:Stmt:=top 11
abbrev fj:Stmt:=top 18
abbrev iI:Stmt:=top 30
abbrev oG:Stmt:=top 32
abbrev iJ:Stmt:=top 31
abbrev vF:Stmt:=top 33
abbrev rJ:Stmt:=top 13
abbrev oC:Stmt:=top 34
abbrev oB:Stmt:=top 20
abbrev oF:Stmt:=top 23
abbrev iH:Stmt:=top 40
abbrev gL:Stmt:=top 42
abbrev iF:Stmt:=top 43
abbrev jU:Stmt:=top 87
abbrev gC:Stmt:=top 72
abbrev jV:Stmt:=top 74
abbrev kX:Stmt:=top 57
abbrev kU:Stmt:=top 58
abbrev jQ:Stmt:=top 65
abbrev jP:Stmt:=top 60
abbrev oI:Stmt:=top 67
abbrev iM:Stmt:=top 69
abbrev eP:Stmt:=top 75
abbrev gQ:Stmt:=top 62
abbrev kW:Stmt:=top 63
abbrev jS:Stmt:=top 68
abbrev iL:Stmt:=top 70
abbrev gP:Stmt:=top 76
abbrev gU:Stmt:=top 71
abbrev jT:Stmt:=top 77
abbrev iK:Stmt:=top 78
abbrev jO:Stmt:=top 61
abbrev jW:Stmt:=top 59
abbrev iN:Stmt:=top 66
abbrev jX:Stmt:=top 84
abbrev kZ:Stmt:=top 64
abbrev oH:Stmt:=top 73
abbrev iP:Stmt:=top 85
abbrev eQ:Stmt:=top 81
abbrev gR:Stmt:=top 82
abbrev fM:Stmt:=top 83
abbrev yV:Stmt:=top 25
abbrev jM:Stmt:=top 41
abbrev iG:Stmt:=top 21
abbrev rH:Stmt:=top 36
abbrev gN:Stmt:=top 24
abbrev vG:Stmt:=top 37
abbrev gK:Stmt:=top 38
abbrev vH:Stmt:=top 14
abbrev jK:Stmt:=top 17
abbrev fO:Stmt:=inClass (top 53) 1
abbrev rL:Stmt:=top 28
abbrev gM:Stmt:=top 44
abbrev oE:Stmt:=top 45
abbrev Cr:Stmt:=top 26
abbrev yW:Stmt:=top 46
abbrev jR:Stmt:=top 79
abbrev kY:Stmt:=top 80
abbrev iO:Stmt:=top 86
abbrev fN:Stmt:=top 88
abbrev Cq:Stmt:=top 89
set_option genInjectivity false in
set_option genSizeOf false in
structure Ads where
 tP:Addr
 tm:FuncData
 qE:Addr
 pS:FuncData
 qq:Addr
 pN:FuncData
 tH:Addr
 sV:FuncData
 i5:Addr
 iV:FuncData
 qC:Addr
 pQ:FuncData
 yG:Addr
 yu:FuncData
 mI:Addr
 me:FuncData
 ic:Addr
 ia:FuncData
 qA:Addr
 pO:FuncData
 ib:Addr
 h9:FuncData
 jx:Addr
 jv:FuncData
 nY:Addr
 nH:FuncData
 v9:Addr
 vT:FuncData
 nZ:Addr
 nJ:FuncData
 Au:Addr
 Ao:FuncData
 yF:Addr
 yt:FuncData
 v5:Addr
 vQ:FuncData
 vZ:Addr
 vP:FuncData
 v8:Addr
 vS:FuncData
 nX:Addr
 nG:FuncData
 mF:Addr
 lY:FuncData
 nV:Addr
 nE:FuncData
 qL:Addr
 pZ:FuncData
 og:Addr
 nM:FuncData
 qM:Addr
 p5:FuncData
 tK:Addr
 sY:FuncData
 tI:Addr
 sW:FuncData
 qH:Addr
 pV:FuncData
 qG:Addr
 pU:FuncData
 we:Addr
 vV:FuncData
 oi:Addr
 nO:FuncData
 ja:Addr
 iW:FuncData
 mK:Addr
 mi:FuncData
 tJ:Addr
 sX:FuncData
 qJ:Addr
 pX:FuncData
 oh:Addr
 nN:FuncData
 mJ:Addr
 mh:FuncData
 mM:Addr
 mo:FuncData
 qK:Addr
 pY:FuncData
 oa:Addr
 nK:FuncData
 qF:Addr
 pT:FuncData
 qN:Addr
 p6:FuncData
 oj:Addr
 nP:FuncData
 qO:Addr
 p9:FuncData
 tO:Addr
 td:FuncData
 wd:Addr
 vU:FuncData
 oq:Addr
 nR:FuncData
 jb:Addr
 iX:FuncData
 mL:Addr
 mj:FuncData
 kD:Addr
 kx:FuncData
 Ei:Addr
 D7:FuncData
 qD:Addr
 pR:FuncData
 nW:Addr
 nF:FuncData
 yE:Addr
 yr:FuncData
 mH:Addr
 ma:FuncData
 Av:Addr
 Ap:FuncData
 mE:Addr
 lW:FuncData
 Aw:Addr
 Aq:FuncData
 qB:Addr
 pP:FuncData
 kF:Addr
 kz:FuncData
 yH:Addr
 yv:FuncData
 mG:Addr
 lZ:FuncData
 v7:Addr
 vR:FuncData
 IA:Addr
 Ir:FuncData
 Ej:Addr
 D9:FuncData
 qI:Addr
 pW:FuncData
 tL:Addr
 sZ:FuncData
 oo:Addr
 nQ:FuncData
 kE:Addr
 ky:FuncData
 L8:Addr
 LU:FuncData
 a_NOUGHT:Addr
 a_ONE:Addr
 t_MOST_STATES:Tok
 t_MOST_PUTS:Tok
 t_MOST_LOOKS:Tok
 a_System:Addr
structure Txt (K:W.Frag) (mg:Str->Option Value) (Z:Ads):Prop where
 zC:mg "_law_bag"=some (.ref Z.tP)
 BE:Binds K Z.tm ["_law_script"] []
 xD:gW K "_law_bag" "_law_bag" lh Z.tP Z.tm
 aT:mg "_law_take"=some (.ref Z.qE)
 br:Binds K Z.pS ["_law_bag_here","_law_many"] []
 be:gW K "_law_take" "_law_take" jN Z.qE Z.pS
 nA:mg "want_list"=some (.ref Z.qq)
 qg:Binds K Z.pN ["thing","at","most"] []
 mW:gW K "want_list" "want_list" jI Z.qq Z.pN
 uP:mg "is_whole"=some (.ref Z.tH)
 xy:Binds K Z.sV ["thing"] []
 tS:gW K "is_whole" "is_whole" kT Z.tH Z.sV
 h8:mg "common_divisor"=some (.ref Z.i5)
 iZ:Binds K Z.iV ["one","other"] []
 fR:gW K "common_divisor" "common_divisor" eO Z.i5 Z.iV
 xX:mg "is_number"=some (.ref Z.qC)
 zI:Binds K Z.pQ ["thing"] []
 vn:gW K "is_number" "is_number" jL Z.qC Z.pQ
 CD:mg "is_row"=some (.ref Z.yG)
 Fn:Binds K Z.yu ["thing","many"] []
 BJ:gW K "is_row" "is_row" rK Z.yG Z.yu
 kr:mg "copied_rows"=some (.ref Z.mI)
 mC:Binds K Z.me ["things","wide"] []
 jq:gW K "copied_rows" "copied_rows" gO Z.mI Z.me
 kC:Binds K Z.ia ["self","move","put","look"] []
 qQ:gW K "__init__" "System.__init__" ee Z.ic Z.ia
 nB:mg "tops_over"=some (.ref Z.qA)
 qh:Binds K Z.pO ["row","bottom"] []
 mX:gW K "tops_over" "tops_over" jJ Z.qA Z.pO
 oX:mg "common_multiple"=some (.ref Z.ib)
 qi:Binds K Z.h9 ["wholes"] []
 kJ:gW K "common_multiple" "common_multiple" d9 Z.ib Z.h9
 iU:mg "common_bottom"=some (.ref Z.jx)
 jw:Binds K Z.jv ["row"] []
 gI:gW K "common_bottom" "common_bottom" fj Z.jx Z.jv
 wK:mg "first_with"=some (.ref Z.nY)
 yx:Binds K Z.nH ["lines","begin","place"] []
 tT:gW K "first_with" "first_with" iI Z.nY Z.nH
 Bh:mg "cleared"=some (.ref Z.v9)
 C4:Binds K Z.vT ["lines","at","place","before"] []
 zx:gW K "cleared" "cleared" oG Z.v9 Z.vT
 wM:mg "brought_up"=some (.ref Z.nZ)
 yy:Binds K Z.nJ ["lines","at","to"] []
 tU:gW K "brought_up" "brought_up" iJ Z.nZ Z.nJ
 Bc:mg "swept"=some (.ref Z.Au)
 Ed:Binds K Z.Ao ["rows","wide"] []
 Ay:gW K "swept" "swept" vF Z.Au Z.Ao
 rQ:mg "lowest"=some (.ref Z.yF)
 va:Binds K Z.yt ["top","bottom"] []
 rX:gW K "lowest" "lowest" rJ Z.yF Z.yt
 Be:mg "reduced"=some (.ref Z.v5)
 C1:Binds K Z.vQ ["rows","wide"] []
 zu:gW K "reduced" "reduced" oC Z.v5 Z.vQ
 xp:mg "row_dot"=some (.ref Z.vZ)
 zh:Binds K Z.vP ["one","other"] []
 wg:gW K "row_dot" "row_dot" oB Z.vZ Z.vP
 Bg:mg "grid_on"=some (.ref Z.v8)
 C3:Binds K Z.vS ["grid","row"] []
 zw:gW K "grid_on" "grid_on" oF Z.v8 Z.vS
 rf:mg "moved_rows"=some (.ref Z.nX)
 tD:Binds K Z.nG ["system","rows"] []
 ou:gW K "moved_rows" "moved_rows" iH Z.nX Z.nG
 oV:mg "reach_grown"=some (.ref Z.mF)
 rk:Binds K Z.lY ["system","steps"] []
 mN:gW K "reach_grown" "reach_grown" gL Z.mF Z.lY
 jm:mg "reach_rows"=some (.ref Z.nV)
 kB:Binds K Z.nE ["system","steps"] []
 jc:gW K "reach_rows" "reach_rows" iF Z.nV Z.nE
 ye:mg "_law_long"=some (.ref Z.qL)
 zO:Binds K Z.pZ ["_law_bag_here"] []
 vz:gW K "_law_long" "_law_long" jU Z.qL Z.pZ
 wO:mg "_law_sizes"=some (.ref Z.og)
 yA:Binds K Z.nM ["_law_bag_here"] []
 tW:gW K "_law_sizes" "_law_sizes" gC Z.og Z.nM
 nC:mg "_law_line"=some (.ref Z.qM)
 qo:Binds K Z.p5 ["_law_bag_here","_law_n"] []
 mY:gW K "_law_line" "_law_line" jV Z.qM Z.p5
 fo:mg "_law_low"=some (.ref Z.tK)
 gD:Binds K Z.sY ["_law_top","_law_bottom"] []
 fF:gW K "_law_low" "_law_low" kX Z.tK Z.sY
 mS:mg "_law_sum"=some (.ref Z.tI)
 oZ:Binds K Z.sW ["_law_one","_law_other"] []
 lK:gW K "_law_sum" "_law_sum" kU Z.tI Z.sW
 sQ:mg "_law_plus"=some (.ref Z.qH)
 vd:Binds K Z.pV ["_law_one","_law_other"] []
 qP:gW K "_law_plus" "_law_plus" jQ Z.qH Z.pV
 ks:mg "_law_prod"=some (.ref Z.qG)
 mT:Binds K Z.pU ["_law_one","_law_other"] []
 j5:gW K "_law_prod" "_law_prod" jP Z.qG Z.pU
 lD:mg "_law_by"=some (.ref Z.we)
 oJ:Binds K Z.vV ["_law_by_here","_law_row_here"] []
 lN:gW K "_law_by" "_law_by" oI Z.we Z.vV
 rg:mg "_law_mixed"=some (.ref Z.oi)
 tF:Binds K Z.nO ["_law_bag_here","_law_move_here","_law_put","_law_look"] []
 ow:gW K "_law_mixed" "_law_mixed" iM Z.oi Z.nO
 pH:mg "_law_two_lines"=some (.ref Z.ja)
 rV:Binds K Z.iW ["_law_bag_here"] []
 lJ:gW K "_law_two_lines" "_law_two_lines" eP Z.ja Z.iW
 uR:mg "_law_number"=some (.ref Z.mK)
 wY:Binds K Z.mi ["_law_bag_here","_law_wide"] []
 rC:gW K "_law_number" "_law_number" gQ Z.mK Z.mi
 pJ:mg "_law_row"=some (.ref Z.tJ)
 tE:Binds K Z.sX ["_law_bag_here","_law_many","_law_wide"] []
 o6:gW K "_law_row" "_law_row" kW Z.tJ Z.sX
 yc:mg "_law_move"=some (.ref Z.qJ)
 zM:Binds K Z.pX ["_law_bag_here","_law_n","_law_way","_law_first","_law_wide"] []
 vv:gW K "_law_move" "_law_move" jS Z.qJ Z.pX
 wQ:mg "_law_parts"=some (.ref Z.oh)
 yB:Binds K Z.nN ["_law_bag_here","_law_n","_law_ins","_law_outs","_law_wide"] []
 tY:gW K "_law_parts" "_law_parts" iL Z.oh Z.nN
 uQ:mg "_law_system"=some (.ref Z.mJ)
 wX:Binds K Z.mh ["_law_bag_here"] []
 rB:gW K "_law_system" "_law_system" gP Z.mJ Z.mh
 kv:mg "_law_copied"=some (.ref Z.mM)
 mD:Binds K Z.mo ["_law_grid"] []
 jr:gW K "_law_copied" "_law_copied" gU Z.mM Z.mo
 yd:mg "_law_made"=some (.ref Z.qK)
 zN:Binds K Z.pY ["_law_parts_here"] []
 vw:gW K "_law_made" "_law_made" jT Z.qK Z.pY
 wN:mg "_law_steps"=some (.ref Z.oa)
 yz:Binds K Z.nK ["_law_bag_here","_law_parts_here"] []
 tV:gW K "_law_steps" "_law_steps" iK Z.oa Z.nK
 xZ:mg "_law_quot"=some (.ref Z.qF)
 zK:Binds K Z.pT ["_law_one","_law_other"] []
 vp:gW K "_law_quot" "_law_quot" jO Z.qF Z.pT
 yg:mg "_law_less"=some (.ref Z.qN)
 zP:Binds K Z.p6 ["_law_one","_law_other"] []
 vA:gW K "_law_less" "_law_less" jW Z.qN Z.p6
 rh:mg "_law_minus"=some (.ref Z.oj)
 tG:Binds K Z.nP ["_law_one","_law_other"] []
 ox:gW K "_law_minus" "_law_minus" iN Z.oj Z.nP
 yh:mg "_law_lean"=some (.ref Z.qO)
 zQ:Binds K Z.p9 ["_law_rows","_law_wide"] []
 vB:gW K "_law_lean" "_law_lean" jX Z.qO Z.p9
 zB:mg "_law_dot"=some (.ref Z.tO)
 BD:Binds K Z.td ["_law_one","_law_other"] []
 xC:gW K "_law_dot" "_law_dot" kZ Z.tO Z.td
 xr:mg "_law_on"=some (.ref Z.wd)
 zi:Binds K Z.vU ["_law_grid","_law_row_here"] []
 wo:gW K "_law_on" "_law_on" oH Z.wd Z.vU
 wV:mg "_law_added"=some (.ref Z.oq)
 yD:Binds K Z.nR ["_law_parts_here","_law_steps_here"] []
 t9:gW K "_law_added" "_law_added" iP Z.oq Z.nR
 pK:mg "_law_is_number"=some (.ref Z.jb)
 rW:Binds K Z.iX ["_law_thing"] []
 lM:gW K "_law_is_number" "_law_is_number" eQ Z.jb Z.iX
 uS:mg "_law_is_row"=some (.ref Z.mL)
 wZ:Binds K Z.mj ["_law_thing","_law_many"] []
 rD:gW K "_law_is_row" "_law_is_row" gR Z.mL Z.mj
 m7:mg "_law_is_grid"=some (.ref Z.kD)
 o5:Binds K Z.kx ["_law_thing","_law_many","_law_wide"] []
 kK:gW K "_law_is_grid" "_law_is_grid" fM Z.kD Z.kx
 HX:mg "flat"=some (.ref Z.Ei)
 L6:Binds K Z.D7 ["lists"] []
 Ht:gW K "flat" "flat" yV Z.Ei Z.D7
 xY:mg "additions"=some (.ref Z.qD)
 zJ:Binds K Z.pR ["system","steps"] []
 vo:gW K "additions" "additions" jM Z.qD Z.pR
 lV:mg "nought_row"=some (.ref Z.nW)
 nU:Binds K Z.nF ["many"] []
 kI:gW K "nought_row" "nought_row" iG Z.nW Z.nF
 y8:mg "solved"=some (.ref Z.yE)
 BB:Binds K Z.yr ["rows","wide","due"] []
 yI:gW K "solved" "solved" rH Z.yE Z.yr
 ko:mg "grid_turned"=some (.ref Z.mH)
 mB:Binds K Z.ma ["grid","wide"] []
 jo:gW K "grid_turned" "grid_turned" gN Z.mH Z.ma
 E6:mg "solve"=some (.ref Z.Av)
 Iw:Binds K Z.Ap ["rows","wide","due"] []
 Eo:gW K "solve" "solve" vG Z.Av Z.Ap
 uO:mg "weights_for"=some (.ref Z.mE)
 wW:Binds K Z.lW ["rows","wide","row"] []
 rA:gW K "weights_for" "weights_for" gK Z.mE Z.lW
 E7:mg "minus"=some (.ref Z.Aw)
 Iy:Binds K Z.Aq ["one","other"] []
 Ep:gW K "minus" "minus" vH Z.Aw Z.Aq
 xW:mg "row_minus"=some (.ref Z.qB)
 zH:Binds K Z.pP ["one","other"] []
 vm:gW K "row_minus" "row_minus" jK Z.qB Z.pP
 uj:Qo K Z.a_System "moved" Z.kF
 vf:Binds K Z.kz ["self","state","puts"] []
 vC:gW K "moved" "System.moved" fO Z.kF Z.kz
 CG:mg "course"=some (.ref Z.yH)
 Fo:Binds K Z.yv ["system","start","puts"] []
 BK:gW K "course" "course" rL Z.yH Z.yv
 oW:mg "nothing_for"=some (.ref Z.mG)
 rn:Binds K Z.lZ ["system","steps"] []
 mO:gW K "nothing_for" "nothing_for" gM Z.mG Z.lZ
 Bf:mg "lacking"=some (.ref Z.v7)
 C2:Binds K Z.vR ["system","start","goal","steps"] []
 zv:gW K "lacking" "lacking" oE Z.v7 Z.vR
 Le:mg "cut"=some (.ref Z.IA)
 OE:Binds K Z.Ir ["row","many","wide"] []
 Mb:gW K "cut" "cut" Cr Z.IA Z.Ir
 HY:mg "come"=some (.ref Z.Ej)
 L7:Binds K Z.D9 ["system","start","goal","steps"] []
 Hu:gW K "come" "come" yW Z.Ej Z.D9
 ya:mg "_law_next"=some (.ref Z.qI)
 zL:Binds K Z.pW ["_law_parts_here","_law_state","_law_puts"] []
 vq:gW K "_law_next" "_law_next" jR Z.qI Z.pW
 zA:mg "_law_end"=some (.ref Z.tL)
 BC:Binds K Z.sZ ["_law_parts_here","_law_start","_law_rows"] []
 xB:gW K "_law_end" "_law_end" kY Z.tL Z.sZ
 wU:mg "_law_leads"=some (.ref Z.oo)
 yC:Binds K Z.nQ ["_law_parts_here","_law_start","_law_goal","_law_steps_here","_law_puts"] []
 tZ:gW K "_law_leads" "_law_leads" iO Z.oo Z.nQ
 ui:mg "_law_come_to"=some (.ref Z.kE)
 ve:Binds K Z.ky ["_law_system_here","_law_parts_here","_law_rows","_law_steps_here"] []
 o7:gW K "_law_come_to" "_law_come_to" fN Z.kE Z.ky
 OI:gW K "law" "law" Cq Z.L8 Z.LU
 abs:mg "abs"=none
 len:mg "len"=none
 isinstance:mg "isinstance"=none
 list:mg "list"=none
 int:mg "int"=none
 bool:mg "bool"=none
 tuple:mg "tuple"=none
 all:mg "all"=none
 enumerate:mg "enumerate"=none
 range:mg "range"=none
 zip:mg "zip"=none
 sum:mg "sum"=none
 max:mg "max"=none
 min:mg "min"=none
 reversed:mg "reversed"=none
 mg_NOUGHT:mg "NOUGHT"=some (.ref Z.a_NOUGHT)
 sq_NOUGHT:∀H,sv K H Z.a_NOUGHT [.int 0,.int 1]
 mg_ONE:mg "ONE"=some (.ref Z.a_ONE)
 sq_ONE:∀H,sv K H Z.a_ONE [.int 1,.int 1]
 mg_MOST_STATES:mg "MOST_STATES"=some (.int 8 Z.t_MOST_STATES)
 mg_MOST_PUTS:mg "MOST_PUTS"=some (.int 4 Z.t_MOST_PUTS)
 mg_MOST_LOOKS:mg "MOST_LOOKS"=some (.int 4 Z.t_MOST_LOOKS)
 mg_System:mg "System"=some (.ref Z.a_System)
 cl_System:JZ K Z.a_System
 na_move:kG K Z.a_System "move"
 na_states:kG K Z.a_System "states"
 na_put:kG K Z.a_System "put"
 na_ins:kG K Z.a_System "ins"
 na_look:kG K Z.a_System "look"
 na_outs:kG K Z.a_System "outs"
 mk_System:Mk K Z.a_System Z.ic
section
variable {P:Program} {w:World} {K:W.Frag} {mg:Str->Option Value} {base:Heap} {Z:Ads}
theorem EL:bu ["_law_script"] ["_law_script"] (ay lh):=by walk_at "d"
theorem E2 (T:Txt K mg Z):cU P w K mg base gE 1 Z.tP Z.tm ["_law_script"] (OZ K):=by
 refine T.xD.ok EL (fun vs H Q E h=>?_) (fun cdv A outer s H vs Q E hr h=>?_)
 ·obtain ⟨a,ns,rfl,hS,hlen,k⟩:=h;rfl
 ·obtain ⟨a,ns,rfl,hS,hlen,k⟩:=h;refine ⟨_,(aA (aW (dr (ae ao (ae ao (ae ao (ae (cF ["_law_cell"] [] [] (cK (AY Dk (pv 0) HM (Aj ao))) (fun _=>(aO (i:=0) (show List.Nodup (α:=PySem.Str) ["_law_cell"] by decide +kernel))) (fun _=>cC) (fun _=>(bP yw (by rfl) T.abs PyProof.Rows.boot_abs (ae (pv 0) ag)))) ag))))))),?_⟩;refine aR (σ:=[some (.ref a)]) rfl ?_;walk_at "w";refine ⟨a,_,rfl,hS,fun l hl=>?_⟩;have hcl:(wq (ns.map V.int) none (some 63)).length<=63:=ai (zG _ _ _) (by simpa using hlen);refine ⟨l,rfl,⟨_,bU.of aK⟩,?_⟩;refine fQ (K:=K) (a:=l) (xs:=wq (ns.map V.int) none (some 63)) (fun i ys H'=>H'=upd H l (.lst (wq (ns.map V.int) none (some 63)))/\∃cs:List Int,ys=cs.map V.int/\∀x∈cs,0<=x) (ai hcl (by decide)) ⟨rfl,[],rfl,fun _ z=>nomatch z⟩ (fun i ys H' _ ⟨e,_⟩=>by subst e;exact bU.of aK) ?_ ?_
  ·rintro i x ys H' hx hi ⟨rfl,cs,rfl,hcs⟩
   obtain ⟨z,rfl⟩:∃z,x=V.int z:=by
    have hm:x∈ns.map V.int:=List.mem_of_mem_drop (cv (ax hx));obtain ⟨z,_,e⟩:=aB.mp hm;exact ⟨z,e.symm⟩
   walk_at "w";refine ⟨rfl,cs++[if z < 0 then -z else z],by simp,fun x hx=>?_⟩;rcases au.mp hx with hx | hx
   ·exact hcs x hx
   ·have e:x=if z < 0 then -z else z:=by simpa using hx
    subst e
    split <;> lia
  ·rintro ys H' hy ⟨rfl,cs,rfl,hcs⟩ p hp;walk_at "w";refine ⟨by show 4<=sizeLine;decide,fun b hb=>?_⟩;have n1:b≠p:=fun z=>by rw[z,aK] at hb;cases hb
   have hb1:(upd H l (.lst (wq (ns.map V.int) none (some 63)))) b=none:=by rw[bJ n1] at hb;exact hb
   have s1:aJ H (upd H l (.lst (wq (ns.map V.int) none (some 63)))):=aJ.new hl;refine k b _ (s1.free hb1) ⟨p,0,1234567891,0,cs,aK,by rw[bJ n1.symm];exact aK,by decide,by decide,by lia,hcs⟩ ((s1.trans (aJ.new hp)).trans (aJ.new hb))
theorem gA:bu ["_law_bag_here","_law_many","_law_more","_law_cell","_law_value","_law_first","_law_second"] ["_law_bag_here","_law_many"] (ay jN):=by walk_at "d"
theorem bo (T:Txt K mg Z):cU P w K mg base gE 1 Z.qE Z.pS ["_law_bag_here","_law_many"] Mv:=by
 refine T.be.ok gA (fun vs H Q E h=>?_) (fun cdv A outer s H vs Q E hr h=>?_)
 ·obtain ⟨p,n,rfl,⟨q,a,b,c,cs,hp,hq,ha,hc,hcl,hcs⟩,hn,hn2,k⟩:=h;rfl
 ·obtain ⟨p,n,rfl,⟨q,a,b,c,cs,hp,hq,ha,hc,hcl,hcs⟩,hn,hn2,k⟩:=h;have nqp:q≠p:=JS hp hq
  refine ⟨_,(gV (dm (bE eK (aV bW (pv 0) ao) ao (bK _)) (ar (bc (i:=2) gA.nd rfl (Or.inl rfl) ao)
   (gV (dm (bE uL (aV bW (pv 0) ao) (bP bC (by rfl) T.len bg (ae (aV bW (pv 0) ao) ag)) (bK _)) (ar (bc (i:=3) gA.nd rfl (Or.inl rfl) (aV bW (aV bW (pv 0) ao) (aV bW (pv 0) ao)))
   (ar (Nq (pv 0) ao LB ao P7 set_list)
   (ar (dm (bE Cz (pv 3) ao (bK _)) (aA (fz (pv 3) (ip (pv 0) ao set_list))) b7)
   (aA (bc (i:=2) gA.nd rfl (Or.inl rfl) (bI eY (bI qX (pv 3) ao) ao)))))) b7)
   (aA (fz (bI qX (bI eY (bI dc (aV bW (pv 0) ao) ao) (pv 2)) ao) (ip (pv 0) ao set_list))))) b7)
   (ar (dm (bE wG (aV bW (pv 0) ao) ao (bK _)) (ar (bc (i:=4) gA.nd rfl (Or.inl rfl) (bI qX (aV bW (pv 0) ao) (pv 1)))
   (ar (fz (bI jl (aV bW (pv 0) ao) (pv 1)) (ip (pv 0) ao set_list))
   (aA (aW (pv 4))))) b7)
   (ar (bc (i:=5) gA.nd rfl (Or.inl rfl) (bI qX (bI dc (aV bW (pv 0) ao) ao) ao))
   (ar (bc (i:=6) gA.nd rfl (Or.inl rfl) (bI qX (bI dc (pv 5) ao) ao))
   (ar (dm (bE wG (pv 1) ao (bK _)) (aA (aW (bI qX (bI eY (bI dc (pv 6) ao) (pv 5)) (pv 1)))) b7)
   (aA (aW (bI qX (bI jl (pv 6) ao) (pv 1))))))))),?_⟩
  refine aR (σ:=[some (.ref p),some (.int n),none,none,none,none,none]) rfl ?_;refine ⟨fun σ' H'=>∃(x y:Option V) (a' b' c':Int),σ'=[some (.ref p),some (.int n),x,y,none,none,none]/\H' p=some (.lst [.int a',.int b',.int c',.ref q])/\0<=a'/\0<=c'/\c'<=cs.length/\dg p H H',?_,?_⟩
  ·walk_at "w";refine gZ (fun h0=>?_) (fun h0=>?_)
   ·walk_at "w";refine ⟨fun σ' H'=>∃(m:Int) (y:Option V) (a' c':Int),σ'=[some (.ref p),some (.int n),some (.int m),y,none,none,none]/\H' p=some (.lst [.int a',.int b,.int c',.ref q])/\0<=a'/\0<=c'/\c'<=cs.length/\dg p H H',?_,?_⟩
    ·walk_at "w";refine ⟨_,_,rfl,.inl (bU.of hq),?_⟩;walk_at "w";refine gZ (fun h1=>?_) (fun h1=>?_)
     ·have h1':c < cs.length:=by simpa using of_decide_eq_true h1
      obtain ⟨z,hz⟩:∃z,cs[c.toNat]?=some z:=⟨_,af (by lia)⟩;have hz0:0<=z:=hcs z (ax hz);walk_at "w";refine cD (bU.of hq) (v:=.int z) ?_ ?_
      ·have:=fJ (xs:=cs.map V.int) (j:=c.toNat) (v:=.int z) (by rw[aG,hz];rfl);rwa [Int.toNat_of_nonneg hc] at this
      walk_at "w";refine gZ (fun h2=>?_) (fun h2=>?_)
      ·walk_at "w";exact ⟨_,_,z,c+1,rfl,aK,hz0,by lia,by lia,(dg.set hp).trans (dg.set aK)⟩
      ·walk_at "w";exact ⟨_,_,a,c+1,rfl,aK,ha,by lia,by lia,dg.set hp⟩
     ·walk_at "w";exact ⟨_,_,a,c,rfl,hp,ha,hc,hcl,dg.refl _⟩
    ·rintro σ' H' ⟨m,y,a',c',rfl,hp',ha',hc',hcl',u'⟩;walk_at "w";exact ⟨_,_,a',_,c',rfl,aK,ha',hc',hcl',u'.trans (dg.set hp')⟩
   ·walk_at "w";exact ⟨_,_,a,b,c,rfl,hp,ha,hc,hcl,dg.refl _⟩
  ·rintro σ' H' ⟨x,y,a',b',c',rfl,hp',ha',hc',hcl',u'⟩;have hq':H' q=some (.lst (cs.map V.int)):=u'.1 q _ hq nqp
   have sn:Sz 8999 n:=by
    show n.natAbs < 2^8999
    exact bM (show n.natAbs < 2^64 by lia) (av (by decide) (by decide))
   walk_at "w";refine gZ (fun h0=>?_) (fun h0=>?_)
   ·walk_at "w";refine fw (show (0:Int) < n from hn) ?_;walk_at "w";refine fw (show rY _ _ from ⟨by lia,sn⟩) ?_;walk_at "w";refine k _ _ (oz _ (by lia)) (jy _ hn) ⟨q,_,b',c',cs,aK,by rw[bJ nqp];exact hq',?_,hc',hcl',hcs⟩ (u'.trans (dg.set hp'));rw[cB _ (by lia)];exact Int.ediv_nonneg ha' (by lia)
   ·walk_at "w";refine gZ (fun h1=>?_) (fun h1=>?_)
    ·walk_at "w";refine fw (show (0:Int) < n from hn) ?_;exact k _ _ (oz _ (by lia)) (jy _ hn) ⟨q,a',b',c',cs,hp',hq',ha',hc',hcl',hcs⟩ u'
    ·walk_at "w";refine fw (show rY _ _ from ⟨by decide,by show (3:Nat) < 2^8999;exact bM (show 3 < 2^2 by decide) (av (by decide) (by decide))⟩) ?_;walk_at "w";refine fw (show (0:Int) < n from hn) ?_;exact k _ _ (oz _ (by lia)) (jy _ hn) ⟨q,a',b',c',cs,hp',hq',ha',hc',hcl',hcs⟩ u'
theorem Dl:bu ["thing","at","most"] ["thing","at","most"] (ay jI):=by walk_at "d"
theorem sL (T:Txt K mg Z):cU P w K mg base gE 1 Z.qq Z.pN ["thing","at","most"] Mt:=by
 refine T.mW.ok Dl (fun vs H Q E h=>?_) (fun cdv A outer s H vs Q E hr h=>?_)
 ·obtain ⟨p,xs,a,m,rfl,gx,hm,k⟩:=h;rfl
 ·obtain ⟨p,xs,a,m,rfl,gx,hm,k⟩:=h
  refine ⟨_,(ar (dm (kh (jC (y7 rfl T.isinstance PyProof.Rows.boot_list T.list (pv 0)))) (aA KY) b7)
   (aA (dm (bE wG (bP bC (by rfl) T.len bg (ae (pv 0) ag)) (pv 2) (bK _)) (aA KY) b7))),?_⟩
  refine aR (σ:=[some (.ref p),some (.int a),some (.int m)]) rfl ?_;walk_at "w";refine ⟨_,_,.lst gx,rfl,?_⟩;walk_at "w";refine ⟨_,_,rfl,.inl (bU.of gx),?_⟩;walk_at "w";rw[decide_eq_false (show ¬m < (xs.length:Int) by lia)];walk_at "w";exact k
theorem EI:bu ["thing"] ["thing"] (ay kT):=by walk_at "d"
theorem zy (T:Txt K mg Z):cU P w K mg base gE 1 Z.tH Z.sV ["thing"] IP:=by
 refine T.tS.ok EI (fun vs H Q E h=>?_) (fun cdv A outer s H vs Q E hr h=>?_)
 ·obtain ⟨i,rfl,k⟩:=h;rfl
 ·obtain ⟨i,rfl,k⟩:=h;refine ⟨_,(aA (aW (DE (y7 rfl T.isinstance PyProof.Rows.boot_int T.int (pv 0)) (DC (PL (y7 rfl T.isinstance PyProof.Rows.boot_bool T.bool (pv 0))))))),?_⟩;refine aR (σ:=[some (.int i)]) rfl ?_;walk_at "w";refine ⟨_,_,.int i,rfl,?_⟩;walk_at "w";refine ⟨_,_,.int i,rfl,?_⟩;walk_at "w";exact k
theorem hZ:bu ["one","other","rest"] ["one","other"] (ay eO):=by walk_at "d"
theorem ki (T:Txt K mg Z):cU P w K mg base gE 1 Z.i5 Z.iV ["one","other"] QW:=by
 refine T.fR.ok hZ (fun vs H Q E h=>?_) (fun cdv A outer s H vs Q E hr h=>?_)
 ·obtain ⟨a,b,rfl,k⟩:=h;rfl
 ·obtain ⟨a,b,rfl,k⟩:=h
  refine ⟨_,(ar (AW PassesOwn.never (bE xR (pv 1) ao (bK _))
    (ar (bc (i:=2) hZ.nd rfl (Or.inl rfl) (bI Nx (pv 0) (pv 1)))
   (ar (bc (i:=0) hZ.nd rfl (Or.inl rfl) (pv 1))
   (aA (bc (i:=1) hZ.nd rfl (Or.inl rfl) (pv 2))))))
   (aA (aW (bP yw (by rfl) T.abs PyProof.Rows.boot_abs (ae (pv 0) ag))))),?_⟩
  refine aR (σ:=[some (.int a),some (.int b),none]) rfl ?_;walk_at "w";refine De (fun σ' H'=>∃(u v:Int) (r:Option V),σ'=[some (.int u),some (.int v),r]/\H'=H/\Int.gcd u v=Int.gcd a b) (fun σ' _=>match σ' with | [_,some (.int v),_]=>v.natAbs | _=>0) ⟨a,b,none,rfl,rfl,rfl⟩ ?_;rintro σ' H' ⟨u,v,r,rfl,rfl,hg⟩;walk_at "w";refine gZ (fun h=>?_) (fun h=>?_)
  ·have hv:v≠0:=fun z=>by subst z;simp at h
   walk_at "w";refine fw (show v≠0 from hv) ?_;walk_at "w";exact ⟨⟨v,u.fmod v,_,rfl,rfl,(LD u v).trans hg⟩,NL u v hv⟩
  ·have hv:v=0:=by
    by_cases z:v=0
    ·exact z
    ·exfalso;apply h;simp [z]
   subst hv;walk_at "w"
   have e:(if u < 0 then -u else u)=g a b:=by
    unfold g;rw[<- hg,Int.gcd_zero_right]
    split <;> lia
   rw[e];exact k
theorem Dp:bu ["thing"] ["thing"] (ay jL):=by walk_at "d"
theorem DH (T:Txt K mg Z):cU P w K mg base gE 2 Z.qC Z.pQ ["thing"] (Jd K):=by
 refine T.vn.ok Dp (fun vs H Q E h=>?_) (fun cdv A outer s H vs Q E hr h=>?_)
 ·obtain ⟨x,n,rfl,⟨p,rfl,hp⟩,hn,k⟩:=h;rfl
 ·obtain ⟨x,n,rfl,⟨p,rfl,hp⟩,hn,k⟩:=h
  refine ⟨_,(ar (dm (PW.pt (pE (kh (jC (Ak rfl T.isinstance PyProof.Rows.boot_tuple T.tuple (pv 0)))) (ke (bE xR (bP bC (by rfl) T.len bg (ae (pv 0) ag)) ao (bK _))))) (aA (aW rN)) b7)
   (ar (dm (PW.pt (pE (kh (jC (cX (zy T) hr T.uP T.tS.kp T.xy (ae (aV bS (pv 0) ao) ag)))) (ke (kh (jC (cX (zy T) hr T.uP T.tS.kp T.xy (ae (aV bS (pv 0) ao) ag))))))) (aA (aW rN)) b7)
   (aA (aW (DE (h7 Cz (aV bS (pv 0) ao) ao (bK _)) (DC (h7 eK (cX (ki T) hr T.h8 T.fR.kp T.iZ (ae (aV bS (pv 0) ao) (ae (aV bS (pv 0) ao) ag))) ao (bK _)))))))),?_⟩
  refine aR (σ:=[some (.ref p)]) rfl ?_;obtain ⟨hb,hg,s1,s2⟩:=hn;walk_at "w";refine .inr ⟨p,_,_,rfl,hp,rfl,?_⟩;walk_at "w";refine ⟨_,_,rfl,.inr hp,?_⟩;walk_at "w"
  try refine NH ?_
  walk_at "w";refine ⟨n.1,rfl,?_⟩;walk_at "w";refine ⟨n.2,rfl,?_⟩;walk_at "w";rw[decide_eq_true (show (1:Int)<=n.2 by lia)];walk_at "w";refine ⟨n.1,n.2,rfl,?_⟩;walk_at "w";have e:g n.1 n.2=1:=by unfold g;rw[hg];rfl
  rw[e,decide_eq_true rfl];exact k _ (aJ.refl _)
theorem Jk:bu ["thing","many"] ["thing","many"] (ay rK):=by walk_at "d"
theorem Jx (T:Txt K mg Z):cU P w K mg base gE 3 Z.yG Z.yu ["thing","many"] (Cp K):=by
 refine T.BJ.ok Jk (fun vs H Q E h=>?_) (fun cdv A outer s H vs Q E hr h=>?_)
 ·obtain ⟨p,ns,rfl,hp,hl,hn,k⟩:=h;rfl
 ·obtain ⟨p,ns,rfl,hp,hl,hn,k⟩:=h
  refine ⟨_,(ar (dm (PW.pt (pE (kh (jC (y7 rfl T.isinstance PyProof.Rows.boot_list T.list (pv 0)))) (ke (bE xR (bP bC (by rfl) T.len bg (ae (pv 0) ag)) (pv 1) (bK _))))) (aA (aW rN)) b7)
   (aA (aW (bP (By rfl) (by rfl) T.all PyProof.Rows.boot_all (ae (cF ["value"] [] [] (cK (pv 0)) (fun _=>(aO (i:=0) (show List.Nodup (α:=PySem.Str) ["value"] by decide +kernel))) (fun _=>cC) (fun _=>(cX (DH T) hr T.xX T.vn.kp T.zI (ae (pv 0) ag)))) ag))))),?_⟩
  refine aR (σ:=[some (.ref p),some (.int ns.length)]) rfl ?_;obtain ⟨xs,gx,qx⟩:=id hp;have lx:=qx.length;walk_at "w";refine ⟨_,_,.lst gx,rfl,?_⟩;walk_at "w";refine ⟨_,_,rfl,.inl (bU.of gx),?_⟩;walk_at "w";rw[show ((xs.length:Nat):Int)=(ns.length:Nat) by rw[lx],decide_eq_true rfl];walk_at "w";refine ⟨⟨_,bU.of gx⟩,?_⟩;refine fQ (K:=K) (xs:=xs) (fun i ys H'=>aJ H H'/\ys=List.replicate i (.bl true)) (aS (bG (by lia))) ⟨aJ.refl _,rfl⟩ (fun i ys H' _ ⟨s,_⟩=>bU.of (s _ _ gx)) ?_ ?_
  ·rintro i x ys H' hx hlen ⟨s,rfl⟩;obtain ⟨n,en,z⟩:=cE qx hx;walk_at "w";exact ⟨x,n,rfl,s.num z,hn n (ax en),fun H2 s2=>⟨s.trans s2,by rw[C9]⟩⟩
  ·rintro ys H' hy ⟨s,rfl⟩ l hl';walk_at "w";refine ⟨l,List.replicate xs.length true,rfl,bU.of (by rw[aK];simp),?_⟩;have e4:(List.replicate xs.length true).all id=true:=by simp
   rw[e4];exact k _ (s.trans (aJ.new hl'))
theorem oO:bu ["things","wide","place","thing"] ["things","wide"] (ay gO):=by walk_at "d"
theorem oR (T:Txt K mg Z):cU P w K mg base gE 4 Z.mI Z.me ["things","wide"] (MD K):=by
 refine T.jq.ok oO (fun vs H Q E h=>?_) (fun cdv A outer s H vs Q E hr h=>?_)
 ·obtain ⟨p,H0,rows,w,rfl,hp,hl,hw,hn,k⟩:=h;rfl
 ·obtain ⟨p,H0,rows,w,rfl,hp,hl,hw,hn,k⟩:=h
  refine ⟨_,(ar (dZ PassesOwn.never rfl (Nt rfl T.enumerate (ae (pv 0) ag)) (xm rfl (cS (aO (i:=2) oO.nd) (cS (aO (i:=3) oO.nd) ju)))
    (aA (dm (kh (jC (cX (Jx T) hr T.CD T.BJ.kp T.Fn (ae (pv 3) (ae (pv 1) ag))))) (aA KY) b7)))
   (aA (aW (cF ["row"] [] [] (cK (pv 0)) (fun _=>(aO (i:=0) (show List.Nodup (α:=PySem.Str) ["row"] by decide +kernel))) (fun _=>cC) (fun _=>(dO (fD K (by rfl)) (by rfl) T.list PyProof.Rows.boot_list (ae (pv 0) ag))))))),?_⟩
  refine aR (σ:=[some (.ref p),some (.int w),none,none]) rfl ?_;obtain ⟨xs,gx,qx,_⟩:=id hp;walk_at "w";refine ⟨⟨_,bU.of gx⟩,?_⟩;refine LI (K:=K) (l:=p) (xs:=xs) (fun i σ' H'=>aJ H H'/\∃x y,σ'=[some (.ref p),some (.int w),x,y]) ⟨aJ.refl _,none,none,rfl⟩ (fun i σ' H' _ ⟨s,_⟩=>bU.of (s _ _ gx)) ?_ ?_
  ·rintro i x σ' H' t hx ⟨s,x1,y1,rfl⟩ ht;obtain ⟨qs,eq,q,rfl,_,Rq⟩:=cE qx hx;have hm:=ax eq;have st:aJ H' (upd H' t (.tup [.int i,.ref q])):=aJ.new ht;have gt:(upd H' t (.tup [.int i,.ref q])) t=some (.tup [.int i,.ref q]):=aK;have s2:=s.trans st;generalize upd H' t (.tup [.int i,.ref q])=H2 at st gt s2 ⊢;have lq:(qs.map nm).length=w:=by rw[aj];exact (hn qs hm).1
   walk_at "w";refine ⟨q,_,by rw[lq],(Rq.same s2).rowK,by rw[lq];exact hw,fun n hn'=>?_,fun H3 s3=>?_⟩
   ·obtain ⟨y,hy,rfl⟩:=aB.mp hn';exact (hn qs hm).2 y hy
   walk_at "w";exact ⟨s2.trans s3,_,_,rfl⟩
  ·rintro σ' H' ⟨s,x1,y1,rfl⟩;walk_at "w";refine ⟨⟨_,bU.of (s _ _ gx)⟩,?_⟩;refine dS (K:=K) (F:=dn K H0) (dn K H) id (s _ _ gx) (Paired.imp' (fun _ _ z=>z.same s) qx) hl (fun a b=>a.same b) (fun a b=>a.same b) ?_ ?_
   ·rintro i ns x H2 NY NN en s2 ⟨u,rfl,_,zs,gz,qz⟩ k1;walk_at "w";refine ⟨u,zs,rfl,.inl (bU.of gz),fun l1 hl1=>?_⟩;exact k1 _ _ (aJ.new hl1) ⟨l1,rfl,s.none (s2.none hl1),zs,aK,Paired.imp' (fun _ _ z=>z.same (aJ.new hl1)) qz⟩
   ·rintro ys' H2 r hr s2 g pr nx;rw[o9] at pr nx;exact k r H2 (s.none hr) (s.trans s2) ⟨ys',g,pr,kj nx⟩
theorem xl:bu ["self","move","put","look"] ["self","move","put","look"] (ay ee):=by walk_at "d"
theorem oU (T:Txt K mg Z):cU P w K mg base gE 5 Z.ic Z.ia ["self","move","put","look"] (My K Z.a_System):=by
 refine T.qQ.ok xl (fun vs H Q E h=>?_) (fun cdv A outer s H vs Q E hr h=>?_)
 ·obtain ⟨x,dx,p,q,r,Hb,H0,H1,H2,mv,pt,lk,rfl,nx,ndx,nex,rfl,gp,gq,gr,D,om,op,ol,k⟩:=h;rfl
 ·obtain ⟨x,dx,p,q,r,Hb,H0,H1,H2,mv,pt,lk,rfl,nx,ndx,nex,rfl,gp,gq,gr,D,om,op,ol,k⟩:=h
  refine ⟨_,(ar (iS (cX (sL T) hr T.nA T.mW.kp T.qg (ae (pv 1) (ae ao (ae (xP (v:=.int 8) rfl T.mg_MOST_STATES ⟨_,rfl⟩) ag)))))
   (ar (yX (pv 0) (cX (oR T) hr T.kr T.jq.kp T.mC (ae (pv 1) (ae (bP bC (by rfl) T.len bg (ae (pv 1) ag)) ag))) rfl)
   (ar (yX (pv 0) (bP bC (by rfl) T.len bg (ae (jE (pv 0) rfl) ag)) rfl)
   (ar (iS (cX (sL T) hr T.nA T.mW.kp T.qg (ae (pv 2) (ae ao (ae (xP (v:=.int 4) rfl T.mg_MOST_PUTS ⟨_,rfl⟩) ag)))))
   (ar (yX (pv 0) (cX (oR T) hr T.kr T.jq.kp T.mC (ae (pv 2) (ae (jE (pv 0) rfl) ag))) rfl)
   (ar (yX (pv 0) (bP bC (by rfl) T.len bg (ae (jE (pv 0) rfl) ag)) rfl)
   (ar (iS (cX (sL T) hr T.nA T.mW.kp T.qg (ae (pv 3) (ae ao (ae (xP (v:=.int 4) rfl T.mg_MOST_LOOKS ⟨_,rfl⟩) ag)))))
   (ar (yX (pv 0) (cX (oR T) hr T.kr T.jq.kp T.mC (ae (pv 3) (ae (jE (pv 0) rfl) ag))) rfl)
   (aA (yX (pv 0) (bP bC (by rfl) T.len bg (ae (jE (pv 0) rfl) ag)) rfl)))))))))),?_⟩
  refine aR (σ:=[some (.ref x),some (.ref p),some (.ref q),some (.ref r)]) rfl ?_
  have s0:aJ Hb (upd (upd Hb dx (.own x)) x (.ins Z.a_System dx [])):=fun b o e=>by
   rw[bJ (fA e nx),bJ (fA e ndx)];exact e
  have hx:(upd (upd Hb dx (.own x)) x (.ins Z.a_System dx [])) x=some (.ins Z.a_System dx []):=aK;have back:∀{b},(upd (upd Hb dx (.own x)) x (.ins Z.a_System dx [])) b=none->Hb b=none:=fun h=>s0.none h
  generalize upd (upd Hb dx (.own x)) x (.ins Z.a_System dx [])=Ha at s0 hx back ⊢;obtain ⟨xs,gx,qx,_⟩:=id gp;obtain ⟨ys,gy,qy,_⟩:=id gq;obtain ⟨zs,gz,qz,_⟩:=id gr;have lx:=qx.length;have ly:=qy.length;have lz:=qz.length;have d1:=D.n8;have d2:=D.i4;have d3:=D.o4;walk_at "w";refine ⟨p,xs,0,8,rfl,s0 _ _ gx,by lia,?_⟩;walk_at "w";refine ⟨_,_,rfl,.inl (bU.of (s0 _ _ gx)),?_⟩;walk_at "w";refine ⟨p,H0,mv,mv.length,by rw[lx],gp.same s0,by lia,by lia,fun ws hw=>⟨D.mw ws hw,om ws hw⟩,fun a H3 na s3 Ga=>?_⟩;have hx3:=s3 _ _ hx;walk_at "w";refine ⟨x,Z.a_System,dx,_,rfl,hx3,T.cl_System,T.na_move,(by show 0 < 1000;decide),?_⟩;have e3:Er x H3 (upd H3 x (.ins Z.a_System dx (cA "move" (.ref a) []))):=Er.upd;have i3:w5 H3 x:=⟨_,_,_,hx3⟩;have hx4:(upd H3 x (.ins Z.a_System dx (cA "move" (.ref a) []))) x=some (.ins Z.a_System dx (cA "move" (.ref a) [])):=aK;have Ga4:=Ga.exc e3 i3;have k4:aJ Hb (upd H3 x (.ins Z.a_System dx (cA "move" (.ref a) []))):=(s0.trans s3).after nx;generalize upd H3 x (.ins Z.a_System dx (cA "move" (.ref a) []))=H4 at e3 hx4 Ga4 k4 ⊢;walk_at "w";refine ⟨x,Z.a_System,dx,_,_,rfl,hx4,T.cl_System,T.na_move,(by rw[bO,if_pos rfl]),?_⟩;obtain ⟨as,ga,qa,_⟩:=id Ga4;have la:=qa.length;walk_at "w";refine ⟨_,_,rfl,.inl (bU.of ga),?_⟩;walk_at "w";refine ⟨x,Z.a_System,dx,_,rfl,hx4,T.cl_System,T.na_states,bB eh (by show 1 < 1000;decide),?_⟩;rw[show ((as.length:Nat):Int)=((mv.length:Nat):Int) by rw[la]];have e4:Er x H4 (upd H4 x (.ins Z.a_System dx (cA "states" (.int mv.length) (cA "move" (.ref a) [])))):=Er.upd;have i4:w5 H4 x:=⟨_,_,_,hx4⟩;have hx5:(upd H4 x (.ins Z.a_System dx (cA "states" (.int mv.length) (cA "move" (.ref a) [])))) x=some (.ins Z.a_System dx (cA "states" (.int mv.length) (cA "move" (.ref a) []))):=aK;have Ga5:=Ga4.exc e4 i4;have k5:aJ Hb (upd H4 x (.ins Z.a_System dx (cA "states" (.int mv.length) (cA "move" (.ref a) [])))):=k4.after nx;generalize upd H4 x (.ins Z.a_System dx (cA "states" (.int mv.length) (cA "move" (.ref a) [])))=H5 at e4 hx5 Ga5 k5 ⊢;clear e3 e4 i3 i4 hx4 Ga4 ga qa;walk_at "w";refine ⟨q,ys,1,4,rfl,k5 _ _ gy,by lia,?_⟩;walk_at "w";refine ⟨x,Z.a_System,dx,_,_,rfl,hx5,T.cl_System,T.na_states,(by rw[bO,if_pos rfl]),?_⟩;walk_at "w";refine ⟨q,H1,pt,mv.length,rfl,gq.same k5,by lia,by lia,fun ws hw=>⟨D.pw ws hw,op ws hw⟩,fun b H6 nb s6 Gb=>?_⟩;have hx6:=s6 _ _ hx5;have i6:w5 H6 x:=⟨_,_,_,hx6⟩;walk_at "w";refine ⟨x,Z.a_System,dx,_,rfl,hx6,T.cl_System,T.na_put,bB eh (bB (dJ eh) (by show 2 < 1000;decide)),?_⟩;have e6:Er x H6 (upd H6 x (.ins Z.a_System dx (cA "put" (.ref b) (cA "states" (.int mv.length) (cA "move" (.ref a) []))))):=Er.upd;have hx7:(upd H6 x (.ins Z.a_System dx (cA "put" (.ref b) (cA "states" (.int mv.length) (cA "move" (.ref a) []))))) x=some (.ins Z.a_System dx (cA "put" (.ref b) (cA "states" (.int mv.length) (cA "move" (.ref a) [])))):=aK;have Ga7:=(Ga5.same s6).exc e6 i6;have Gb7:=(Gb.weak k5).exc e6 i6;have k7:aJ Hb (upd H6 x (.ins Z.a_System dx (cA "put" (.ref b) (cA "states" (.int mv.length) (cA "move" (.ref a) []))))):=(k5.trans s6).after nx;generalize upd H6 x (.ins Z.a_System dx (cA "put" (.ref b) (cA "states" (.int mv.length) (cA "move" (.ref a) []))))=H7 at e6 hx7 Ga7 Gb7 k7 ⊢;obtain ⟨bs,gb,qb,_⟩:=id Gb7;have lb:=qb.length;walk_at "w";refine ⟨x,Z.a_System,dx,_,_,rfl,hx7,T.cl_System,T.na_put,(by rw[bO,if_pos rfl]),?_⟩;walk_at "w";refine ⟨_,_,rfl,.inl (bU.of gb),?_⟩;walk_at "w";refine ⟨x,Z.a_System,dx,_,rfl,hx7,T.cl_System,T.na_ins,bB eh (bB (dJ (ai eh (dJ eh))) (by show 3 < 1000;decide)),?_⟩;rw[show ((bs.length:Nat):Int)=((pt.length:Nat):Int) by rw[lb]];have i7:w5 H7 x:=⟨_,_,_,hx7⟩;have e7:Er x H7 (upd H7 x (.ins Z.a_System dx (cA "ins" (.int pt.length) (cA "put" (.ref b) (cA "states" (.int mv.length) (cA "move" (.ref a) [])))))):=Er.upd;have hx8:(upd H7 x (.ins Z.a_System dx (cA "ins" (.int pt.length) (cA "put" (.ref b) (cA "states" (.int mv.length) (cA "move" (.ref a) [])))))) x=some (.ins Z.a_System dx (cA "ins" (.int pt.length) (cA "put" (.ref b) (cA "states" (.int mv.length) (cA "move" (.ref a) []))))):=aK;have Ga8:=Ga7.exc e7 i7;have Gb8:=Gb7.exc e7 i7;have k8:aJ Hb (upd H7 x (.ins Z.a_System dx (cA "ins" (.int pt.length) (cA "put" (.ref b) (cA "states" (.int mv.length) (cA "move" (.ref a) [])))))):=k7.after nx;generalize upd H7 x (.ins Z.a_System dx (cA "ins" (.int pt.length) (cA "put" (.ref b) (cA "states" (.int mv.length) (cA "move" (.ref a) [])))))=H8 at e7 hx8 Ga8 Gb8 k8 ⊢;clear e6 e7 i6 i7 hx7 Ga7 Gb7 gb qb;walk_at "w";refine ⟨r,zs,2,4,rfl,k8 _ _ gz,by lia,?_⟩;walk_at "w";refine ⟨x,Z.a_System,dx,_,_,rfl,hx8,T.cl_System,T.na_states,(by rw[bO,if_neg (by decide +kernel),bO,if_neg (by decide +kernel),bO,if_pos rfl]),?_⟩;walk_at "w";refine ⟨r,H2,lk,mv.length,rfl,gr.same k8,by lia,by lia,fun ws hw=>⟨D.lw ws hw,ol ws hw⟩,fun c H9 nc s9 Gc=>?_⟩;have hx9:=s9 _ _ hx8;have i9:w5 H9 x:=⟨_,_,_,hx9⟩;walk_at "w";refine ⟨x,Z.a_System,dx,_,rfl,hx9,T.cl_System,T.na_look,bB eh (bB (dJ (ai eh (dJ (ai eh (dJ eh))))) (by show 4 < 1000;decide)),?_⟩;have e9:Er x H9 (upd H9 x (.ins Z.a_System dx (cA "look" (.ref c) (cA "ins" (.int pt.length) (cA "put" (.ref b) (cA "states" (.int mv.length) (cA "move" (.ref a) []))))))):=Er.upd;have hxA:(upd H9 x (.ins Z.a_System dx (cA "look" (.ref c) (cA "ins" (.int pt.length) (cA "put" (.ref b) (cA "states" (.int mv.length) (cA "move" (.ref a) []))))))) x=some (.ins Z.a_System dx (cA "look" (.ref c) (cA "ins" (.int pt.length) (cA "put" (.ref b) (cA "states" (.int mv.length) (cA "move" (.ref a) [])))))):=aK;have GaA:=(Ga8.same s9).exc e9 i9;have GbA:=(Gb8.same s9).exc e9 i9;have GcA:=(Gc.weak k8).exc e9 i9;have kA:aJ Hb (upd H9 x (.ins Z.a_System dx (cA "look" (.ref c) (cA "ins" (.int pt.length) (cA "put" (.ref b) (cA "states" (.int mv.length) (cA "move" (.ref a) []))))))):=(k8.trans s9).after nx;generalize upd H9 x (.ins Z.a_System dx (cA "look" (.ref c) (cA "ins" (.int pt.length) (cA "put" (.ref b) (cA "states" (.int mv.length) (cA "move" (.ref a) []))))))=HA at e9 hxA GaA GbA GcA kA ⊢;obtain ⟨cs,gc,qc,_⟩:=id GcA;have lc:=qc.length;walk_at "w";refine ⟨x,Z.a_System,dx,_,_,rfl,hxA,T.cl_System,T.na_look,(by rw[bO,if_pos rfl]),?_⟩;walk_at "w";refine ⟨_,_,rfl,.inl (bU.of gc),?_⟩;walk_at "w";refine ⟨x,Z.a_System,dx,_,rfl,hxA,T.cl_System,T.na_outs,bB eh (bB (dJ (ai eh (dJ (ai eh (dJ (ai eh (dJ eh))))))) (by show 5 < 1000;decide)),?_⟩;rw[show ((cs.length:Nat):Int)=((lk.length:Nat):Int) by rw[lc]];have iA:w5 HA x:=⟨_,_,_,hxA⟩;exact k _ (kA.after nx) ⟨dx,a,b,c,aK,back na,k5.none nb,k8.none nc,(GaA.exc Er.upd iA).weak s0,GbA.exc Er.upd iA,GcA.exc Er.upd iA⟩
theorem Dm:bu ["row","bottom"] ["row","bottom"] (ay jJ):=by walk_at "d"
theorem xS (T:Txt K mg Z):cU P w K mg base gE 1 Z.qA Z.pO ["row","bottom"] (Km K):=by
 refine T.mX.ok Dm (fun vs H Q E h=>?_) (fun cdv A outer s H vs Q E hr h=>?_)
 ·obtain ⟨p,ns,M,B,rfl,hp,hl,hz,hB,sB,q⟩:=h;rfl
 ·obtain ⟨p,ns,M,B,rfl,hp,hl,hz,hB,sB,q⟩:=h;refine ⟨_,(aA (aW (cF ["value"] ["bottom"] [1] (cK (pv 0)) (fun _=>(aO (i:=0) (show List.Nodup (α:=PySem.Str) ["value","bottom"] by decide +kernel))) (fun _=>cC) (fun _=>(bI dc (aV (vN K (by rfl)) (pv 0) ao) (bI jl (pv 1) (aV (vN K (by rfl)) (pv 0) ao))))))),?_⟩;refine aR (σ:=[some (.ref p),some (.int B)]) rfl ?_;obtain ⟨xs,gx,qx⟩:=id hp;have lx:=qx.length;walk_at "w";refine ⟨⟨_,bU.of gx⟩,?_⟩;refine fQ (K:=K) (xs:=xs) (fun i ys H'=>H'=H/\ys=(fG (ns.take i) B).map V.int) (aS (bG (by lia))) ⟨rfl,rfl⟩ (fun i ys H' _ ⟨e,_⟩=>by subst e;exact bU.of gx) ?_ ?_
  ·rintro i x ys H' hx hlen ⟨rfl,rfl⟩;obtain ⟨n,en,r,rfl,hr1⟩:=cE qx hx;have nz:=hz.2.2 n (ax en);have sn:Sz 4400 n.2:=DZ hz.1 nz.2.1 hz.2.1;walk_at "w";refine fw (show rY _ _ from ⟨by lia,sn.mono (by decide)⟩) ?_;rw[cB _ (by lia)]
   have sq:Sz 4400 (B / n.2):=sB.le (by
    rw[Qu (by lia)];exact Nat.div_le_self ..)
   walk_at "w";refine fw (show fX _ _ from .inr ⟨_,_,nz.2.2,sq,by decide⟩) ?_;exact ⟨rfl,by rw[take_snoc en];simp [fG]⟩
  ·rintro ys H' hy ⟨rfl,rfl⟩ l hl';exact q l _ hl' (aJ.new hl') (by rw[aK,aH (by lia)])
theorem fZ:bu ["wholes","multiple","whole"] ["wholes"] (ay d9):=by walk_at "d"
theorem xo (T:Txt K mg Z):cU P w K mg base gE 2 Z.ib Z.h9 ["wholes"] (OW K):=by
 refine T.kJ.ok fZ (fun vs H Q E h=>?_) (fun cdv A outer s H vs Q E hr h=>?_)
 ·obtain ⟨p,bs,M,rfl,hp,hM,sM,hb,q⟩:=h;rfl
 ·obtain ⟨p,bs,M,rfl,hp,hM,sM,hb,q⟩:=h
  refine ⟨_,(ar (bc (i:=1) fZ.nd rfl (Or.inl rfl) ao)
   (ar (dZ PassesOwn.never rfl (cK (pv 0)) (aO (i:=2) fZ.nd)
    (aA (bc (i:=1) fZ.nd rfl (Or.inl rfl) (bI dc (pv 1) (bI jl (pv 2) (cX (ki T) hr T.h8 T.fR.kp T.iZ (ae (pv 1) (ae (pv 2) ag))))))))
   (aA (aW (pv 1))))),?_⟩
  refine aR (σ:=[some (.ref p),none,none]) rfl ?_;walk_at "w";refine ⟨⟨_,hp⟩,?_⟩;refine iw (K:=K) (a:=p) (xs:=bs.map V.int) (fun i σ' H'=>H'=H/\∃x,σ'=[some (.ref p),some (.int (y9 (bs.take i) 1)),x]) ⟨rfl,none,rfl⟩ (fun i σ' H' _ ⟨e,_⟩=>by subst e;exact hp) ?_ ?_
  ·rintro i x σ' H' hx ⟨rfl,y,rfl⟩;rw[aG] at hx
   obtain ⟨b,eb,rfl⟩:∃b,bs[i]?=some b/\x=.int b:=by
    cases e:bs[i]? with
    | none=>rw[e] at hx;cases hx
    | some b=>rw[e] at hx;cases hx;exact ⟨b,rfl,rfl⟩
   have b1:=hb b (ax eb);have sb:Sz 4400 b:=DZ hM b1.2 sM;have ht:∀c∈bs.take i,0 < c/\c∣M:=fun c hc=>hb c (cv hc)
   have msz:Sz 4400 (y9 (bs.take i) 1):=DZ hM (Al (by decide) (Int.one_dvd _) ht) sM;generalize hm:y9 (bs.take i) 1=m at msz ⊢;have gp:0 < g m b:=Bs (by lia);walk_at "w";refine ⟨m,b,rfl,?_⟩;walk_at "w";refine fw (show rY _ _ from ⟨by lia,(SH b1.1 sb).mono (by decide)⟩) ?_;rw[cB _ (by lia)];walk_at "w";refine fw (show fX _ _ from .inr ⟨_,_,msz,sb.hi (t:=m) (by lia),by decide⟩) ?_;walk_at "w";exact ⟨rfl,_,by rw[take_snoc eb,CI,hm];rfl⟩
  ·rintro σ' H' ⟨rfl,y,rfl⟩;walk_at "w";rw[aH (by simp)];exact q
theorem yU:bu ["row"] ["row"] (ay fj):=by walk_at "d"
theorem rO (T:Txt K mg Z):cU P w K mg base gE 3 Z.jx Z.jv ["row"] (OX K):=by
 refine T.gI.ok yU (fun vs H Q E h=>?_) (fun cdv A outer s H vs Q E hr h=>?_)
 ·obtain ⟨p,ns,M,rfl,hp,hl,hz,q⟩:=h;rfl
 ·obtain ⟨p,ns,M,rfl,hp,hl,hz,q⟩:=h;refine ⟨_,(aA (aW (cX (xo T) hr T.oX T.kJ.kp T.qi (ae (cF ["value"] [] [] (cK (pv 0)) (fun _=>(aO (i:=0) (show List.Nodup (α:=PySem.Str) ["value"] by decide +kernel))) (fun _=>cC) (fun _=>(aV (vN K (by rfl)) (pv 0) ao))) ag)))),?_⟩;refine aR (σ:=[some (.ref p)]) rfl ?_;obtain ⟨xs,gx,qx⟩:=id hp;have lx:=qx.length;walk_at "w";refine ⟨⟨_,bU.of gx⟩,?_⟩;refine fQ (K:=K) (xs:=xs) (fun i ys H'=>H'=H/\ys=((ns.take i).map (·.2)).map V.int) (aS (bG (by lia))) ⟨rfl,rfl⟩ (fun i ys H' _ ⟨e,_⟩=>by subst e;exact bU.of gx) ?_ ?_
  ·rintro i x ys H' hx hlen ⟨rfl,rfl⟩;obtain ⟨n,en,r,rfl,hr1⟩:=cE qx hx;walk_at "w";exact ⟨rfl,by rw[take_snoc en];simp⟩
  ·rintro ys H' hy ⟨rfl,rfl⟩ l hl';walk_at "w";refine ⟨l,ns.map (·.2),M,rfl,bU.of (by rw[aK,aH (by lia)]),hz.1,hz.2.1,fun b hb=>?_,?_⟩
   ·obtain ⟨n,hn,rfl⟩:=aB.mp hb;exact ⟨(hz.2.2 n hn).1,(hz.2.2 n hn).2.1⟩
   ·exact q _ (aJ.new hl')
theorem wC:bu ["lines","begin","place","at"] ["lines","begin","place"] (ay iI):=by walk_at "d"
theorem BY (T:Txt K mg Z):cU P w K mg base gE 1 Z.nY Z.nH ["lines","begin","place"] Jg:=by
 refine T.tT.ok wC (fun vs H Q E h=>?_) (fun cdv A outer s H vs Q E hr h=>?_)
 ·obtain ⟨l,p,ls,b,c,rfl,G,l1000,b1000,hc,k1,k2⟩:=h;rfl
 ·obtain ⟨l,p,ls,b,c,rfl,G,l1000,b1000,hc,k1,k2⟩:=h
  refine ⟨_,(ar (dZ PassesOwn.never rfl (Cw rfl T.range (ae (pv 1) (ae (bP bC (by rfl) T.len bg (ae (pv 0) ag)) ag))) (aO (i:=3) wC.nd)
    (aA (dm (bE xR (aV bW (aV bW (pv 0) (pv 3)) (pv 2)) ao (bK _)) (aA (aW (pv 3))) b7)))
   (aA (aW DD))),?_⟩
  refine aR (σ:=[some (.ref p),some (.int b),some (.int c),none]) rfl ?_;obtain ⟨_,xs,gx,qx⟩:=id G;have lx:=qx.length;walk_at "w";refine ⟨_,_,rfl,.inl (bU.of gx),?_⟩;rw[<- lx];walk_at "w";refine ⟨⟨by lia,by lia,by lia,by lia⟩,?_⟩;refine CL (lo:=(b:Int)) (n:=((ls.length:Int) - (b:Int)).toNat) (fun i σ' H'=>H'=H/\(∃y,σ'=[some (.ref p),some (.int b),some (.int c),y])/\∀s,b<=s->s < b+i->d6 ls s c=0) ⟨rfl,⟨_,rfl⟩,fun s h1 h2=>absurd h2 (by lia)⟩ ?_ ?_
  ·rintro i σ' H' hi ⟨rfl,⟨y,rfl⟩,hz⟩;rw[show ((b:Int)+(i:Int))=((b+i:Nat):Int) by lia];obtain ⟨zs,v,ez,ev,mz,q,rfl,_,gq⟩:=iq qx (i:=b+i) (by lia);walk_at "w";refine cD (bU.of gx) (fJ ev) ?_;walk_at "w";refine cD (bU.of gq) (AD (hc zs mz)) ?_;walk_at "w";have ef:=Kb (c:=c) ez;by_cases e:zs.getD c 0=0
   ·rw[decide_eq_true e];walk_at "w";refine ⟨rfl,⟨_,rfl⟩,fun s h1 h2=>?_⟩;by_cases e2:s=b+i
    ·rw[e2,ef,e];rfl
    ·exact hz s h1 (by lia)
   ·rw[decide_eq_false e];walk_at "w";exact k1 (b+i) (by lia) (by lia) (by rw[ef];exact So.mpr e)
  ·rintro σ' H' ⟨rfl,⟨y,rfl⟩,hz⟩;walk_at "w";exact k2 fun t h1 h2=>hz t h1 (by lia)
theorem sG:bu ["lines","at","place","before","used","by","swept"] ["lines","at","place","before"] (ay oG):=by walk_at "d"
theorem Gv (T:Txt K mg Z):cU P w K mg base gE 1 Z.v9 Z.vT ["lines","at","place","before"] Jh:=by
 refine T.zx.ok sG (fun vs H Q E h=>?_) (fun cdv A outer s H vs Q E hr h=>?_)
 ·obtain ⟨l,p,ls,kk,c,n,b,rfl,hl,G,l1000,hk,hw,n1000,hc,b0,sb,hs,k⟩:=h;rfl
 ·obtain ⟨l,p,ls,kk,c,n,b,rfl,hl,G,l1000,hk,hw,n1000,hc,b0,sb,hs,k⟩:=h
  refine ⟨_,(ar (bc (i:=4) sG.nd rfl (Or.inr rfl) (aV bW (pv 0) (pv 1)))
   (ar (bc (i:=5) sG.nd rfl (Or.inr rfl) (aV bW (pv 4) (pv 2)))
   (ar (jt 6 ["line"] ["used","by","place","before"] [4,5,2,3] sG.nd rfl rfl (cK (pv 0)) (fun _=>(aO (i:=0) (show List.Nodup (α:=PySem.Str) ["line","used","by","place","before"] by decide +kernel) rfl (Or.inr rfl) (Or.inl rfl))) (fun _=>cC) (fun _=>(cF ["mine","yours"] ["by","line","place","before"] [2,0,3,4] (K2 K rfl T.zip (ae (pv 0) (ae (pv 1) ag))) (fun _=>(vJ K 2 (cS (aO (i:=0) (show List.Nodup (α:=PySem.Str) ["mine","yours","by","line","place","before"] by decide +kernel)) (cS (aO (i:=1) (show List.Nodup (α:=PySem.Str) ["mine","yours","by","line","place","before"] by decide +kernel)) ju)))) (fun _=>cC) (fun _=>(bI jl (bI jh (bI dc (pv 2) (pv 0)) (bI dc (aV (iu K (by rfl)) (pv 3) (pv 4)) (pv 1))) (pv 5))))))
   (ar (fz (pv 4) (ip (pv 6) (pv 1) set_list))
   (aA (aW (pv 6))))))),?_⟩
  refine aR (σ:=[some (.ref p),some (.int kk),some (.int c),some (.int b),none,none,none]) rfl ?_;obtain ⟨pl,xs,gx,qx⟩:=id G;have lx:=qx.length;obtain ⟨zk,vk,ek,evk,mk,qk,rfl,qkl,gk⟩:=iq qx hk;have wk:=hw zk mk;have ek':ls.getD kk []=zk:=by rw[aa,ek];rfl
  walk_at "w";refine cD (bU.of gx) (fJ evk) ?_;walk_at "w";refine cD (bU.of gk) (AD (by lia)) ?_;walk_at "w";refine ⟨⟨_,bU.of gx⟩,?_⟩;refine fQ (K:=K) (xs:=xs) (fun i ys H'=>aJ H H'/\Paired (IB l H') ((ls.take i).map fun zs=>List.zipWith (fun x y=>(zk.getD c 0*x - zs.getD c 0*y).fdiv b) zs zk) ys) (aS (bG (by lia))) ⟨aJ.refl _,.nil⟩ (fun i ys H' _ ⟨s,_⟩=>bU.of (s _ _ gx)) ?_ ?_
  ·rintro i v ys0 H' hx hlen ⟨s',pr⟩;obtain ⟨zs,ec,q,rfl,ql,gq⟩:=cE qx hx;have mz:=ax ec;have wz:=hw zs mz;have gq':=s' _ _ gq;have gk':=s' _ _ gk;walk_at "w";refine ⟨⟨_,bU.of gq'⟩,⟨_,bU.of gk'⟩,?_⟩;refine uY (K:=K) (xs:=zs.map V.int) (ws:=zk.map V.int) (fun j ys H2=>aJ H' H2/\ys=((List.zipWith (fun x y=>(zk.getD c 0*x - zs.getD c 0*y).fdiv b) zs zk).take j).map V.int) (aS (bG (by rw[aj];lia))) (by rw[aj,aj];lia) ⟨aJ.refl _,rfl⟩ (fun j ys H2 _ ⟨s2,_⟩=>⟨bU.of (s2 _ _ gq'),bU.of (s2 _ _ gk')⟩) ?_ ?_
   ·rintro j v1 v2 ys H2 r h1 h2 hy ⟨s2,rfl⟩ hr
    obtain ⟨x,ex,rfl⟩:∃x,zs[j]?=some x/\V.int x=v1:=by
     rw[aG] at h1;cases e:zs[j]? with
     | none=>rw[e] at h1;cases h1
     | some x=>rw[e] at h1;exact ⟨x,rfl,cp h1⟩
    obtain ⟨y,ey,rfl⟩:∃y,zk[j]?=some y/\V.int y=v2:=by
     rw[aG] at h2;cases e:zk[j]? with
     | none=>rw[e] at h2;cases h2
     | some x=>rw[e] at h2;exact ⟨x,rfl,cp h2⟩
    have sr:aJ H2 (upd H2 r (.tup [.int x,.int y])):=aJ.new hr;have gr:(upd H2 r (.tup [.int x,.int y])) r=some (.tup [.int x,.int y]):=aK;generalize upd H2 r (.tup [.int x,.int y])=H3 at sr gr ⊢;have gq3:=sr _ _ (s2 _ _ gq');have sx:=hs zs mz x (ax ex);have sy:=hs zk mk y (ax ey);have s1:=hs zk mk _ (getD_in (e:=0) (show c < zk.length by lia));have s3:=hs zs mz _ (getD_in (e:=0) (show c < zs.length by lia));walk_at "w";refine fw (show fX _ _ from .inr ⟨_,_,s1,sx,by decide⟩) ?_;walk_at "w";refine cD (bU.of gq3) (AD (by lia)) ?_;walk_at "w";refine fw (show fX _ _ from .inr ⟨_,_,s3,sy,by decide⟩) ?_;walk_at "w";refine fw (show rY _ _ from ⟨b0,sb⟩) ?_;have ez:(List.zipWith (fun x y=>(zk.getD c 0*x - zs.getD c 0*y).fdiv b) zs zk)[j]?=some ((zk.getD c 0*x - zs.getD c 0*y).fdiv b):=by rw[b6,ex,ey]
    exact ⟨s2.trans sr,by rw[take_snoc ez];simp⟩
   ·rintro ys H2 hy ⟨s2,rfl⟩ r hr;have sn:aJ H2 (upd H2 r (.lst (((List.zipWith (fun x y=>(zk.getD c 0*x - zs.getD c 0*y).fdiv b) zs zk).take (zs.map V.int).length).map V.int))):=aJ.new hr;refine ⟨(s'.trans s2).trans sn,?_⟩;rw[take_snoc ec,cI];refine bT (Paired.imp' (fun _ _ z=>(IB.same z s2).same sn) pr) (.cons ⟨r,rfl,ne_old (fun z=>hl (s'.none (s2.none z))) hr,?_⟩ .nil);rw[aK,aH (by rw[cz,aj];lia)]
  ·rintro ys H1 hy ⟨s1,pr⟩ r hr;have sn:aJ H1 (upd H1 r (.lst ys)):=aJ.new hr;have gn:(upd H1 r (.lst ys)) r=some (.lst ys):=aK;have ly:=pr.length;rw[aj,cM] at ly;generalize upd H1 r (.lst ys)=H2 at sn gn ⊢;walk_at "w";refine fk gn (fI (by lia)) rfl ?_;have s2:aJ H1 (upd H2 r (.lst (ys.set kk (.ref qk)))):=sn.after hr;walk_at "w";refine k r _ (s1.none hr) (s1.trans s2) ⟨ne_old (fun z=>hl (s1.none z)) hr,_,aK,?_⟩;unfold Fi;rw[ek'];rw[aH (by lia)] at pr;exact lB (Paired.imp' (fun _ _ z=>IB.same z s2) pr) kk ⟨qk,rfl,qkl,(s1.trans s2) _ _ gk⟩
theorem wD:bu ["lines","at","to","swapped"] ["lines","at","to"] (ay iJ):=by walk_at "d"
theorem BZ (T:Txt K mg Z):cU P w K mg base gE 1 Z.nZ Z.nJ ["lines","at","to"] EG:=by
 refine T.tU.ok wD (fun vs H Q E h=>?_) (fun cdv A outer s H vs Q E hr h=>?_)
 ·obtain ⟨l,p,ls,t,kk,rfl,hl,G,l1000,ht,hk,k⟩:=h;rfl
 ·obtain ⟨l,p,ls,t,kk,rfl,hl,G,l1000,ht,hk,k⟩:=h
  refine ⟨_,(ar (bc (i:=3) wD.nd rfl (Or.inl rfl) (dO tx (by rfl) T.list PyProof.Rows.boot_list (ae (pv 0) ag)))
   (ar (fz (aV bW (pv 0) (pv 1)) (ip (pv 3) (pv 2) set_list))
   (ar (fz (aV bW (pv 0) (pv 2)) (ip (pv 3) (pv 1) set_list))
   (aA (aW (pv 3)))))),?_⟩
  refine aR (σ:=[some (.ref p),some (.int t),some (.int kk),none]) rfl ?_;obtain ⟨pl,xs,gx,qx⟩:=id G;have lx:=qx.length;obtain ⟨zt,vt,et,evt,_,Ft⟩:=iq qx ht;obtain ⟨zk,vk,ek,evk,_,Fk⟩:=iq qx hk;walk_at "w";refine ⟨p,xs,rfl,.inl (bU.of gx),fun c hc=>?_⟩;have sc:aJ H (upd H c (.lst xs)):=aJ.new hc;have gc:(upd H c (.lst xs)) c=some (.lst xs):=aK;generalize upd H c (.lst xs)=Hc at sc gc ⊢;walk_at "w";refine cD (bU.of (sc _ _ gx)) (fJ evt) ?_;walk_at "w";refine fk gc (fI (by lia)) rfl ?_;have s1:aJ H (upd Hc c (.lst (xs.set kk vt))):=sc.after hc;have g1:(upd Hc c (.lst (xs.set kk vt))) c=some (.lst (xs.set kk vt)):=aK;generalize upd Hc c (.lst (xs.set kk vt))=H1 at s1 g1 ⊢;walk_at "w";refine cD (bU.of (s1 _ _ gx)) (fJ evk) ?_;walk_at "w";refine fk g1 (fI (by rw[eE];lia)) rfl ?_;have s2:aJ H (upd H1 c (.lst ((xs.set kk vt).set t vk))):=s1.after hc;walk_at "w";refine k c _ hc s2 ⟨ne_old hl hc,_,aK,?_⟩;have et':ls.getD t []=zt:=by rw[aa,et];rfl
  have ek':ls.getD kk []=zk:=by rw[aa,ek];rfl
  unfold sE;rw[et',ek'];exact lB (lB (Paired.imp' (fun _ _ z=>IB.same z s2) qx) kk (IB.same Ft s2)) t (IB.same Fk s2)
theorem j8:bu ["rows","wide","lines","leads","before","place","many","at"] ["rows","wide"] (ay vF):=by walk_at "d"
theorem EX (T:Txt K mg Z):cU P w K mg base gE 4 Z.Au Z.Ao ["rows","wide"] (IQ K):=by
 refine T.Ay.ok j8 (fun vs H Q E h=>?_) (fun cdv A outer s H vs Q E hr h=>?_)
 ·obtain ⟨p,n,w,H0,rows,rfl,G,r100,n100,hw,F,k⟩:=h;rfl
 ·obtain ⟨p,n,w,H0,rows,rfl,G,r100,n100,hw,F,k⟩:=h
  refine ⟨_,(ar (jt 2 ["row"] [] [] j8.nd rfl rfl (cK (pv 0)) (fun _=>(aO (i:=0) (show List.Nodup (α:=PySem.Str) ["row"] by decide +kernel))) (fun _=>cC) (fun _=>(cX (xS T) hr T.nB T.mX.kp T.qh (ae (pv 0) (ae (cX (rO T) hr T.iU T.gI.kp T.jw (ae (pv 0) ag)) ag)))))
   (ar (bc (i:=3) j8.nd rfl (Or.inl rfl) (dr ag))
   (ar (bc (i:=4) j8.nd rfl (Or.inl rfl) ao)
   (ar (dZ PassesOwn.never rfl (cy rfl T.range (ae (pv 1) ag)) (aO (i:=5) j8.nd)
    (ar (bc (i:=6) j8.nd rfl (Or.inl rfl) (bP bC (by rfl) T.len bg (ae (pv 3) ag)))
   (ar (bc (i:=7) j8.nd rfl (Or.inl rfl) (cX (BY T) hr T.wK T.tT.kp T.yx (ae (pv 2) (ae (pv 6) (ae (pv 5) ag)))))
   (aA (dm (bE HS (pv 7) DD (bK _)) (ar (bc (i:=2) j8.nd rfl (Or.inl rfl) (cX (Gv T) hr T.Bh T.zx.kp T.C4 (ae (cX (BZ T) hr T.wM T.tU.kp T.yy (ae (pv 2) (ae (pv 7) (ae (pv 6) ag)))) (ae (pv 6) (ae (pv 5) (ae (pv 4) ag))))))
   (ar (bc (i:=4) j8.nd rfl (Or.inl rfl) (aV bW (aV bW (pv 2) (pv 6)) (pv 5)))
   (aA (iS (uH cG cZ cY iT (pv 3) (ae (pv 5) ag)))))) b7)))))
   (aA (aW (cW (ae (AY Dk (pv 2) HM (Aj (bP bC (by rfl) T.len bg (ae (pv 3) ag)))) (ae (pv 3) ag))))))))),?_⟩
  refine aR (σ:=[some (.ref p),some (.int n),none,none,none,none,none,none]) rfl ?_;obtain ⟨xs,gx,qx,_⟩:=id G;obtain ⟨W,hW,W2,ent⟩:=F.ent;obtain ⟨_,_,_,_,_,_,_,_,r15,r89⟩:=id F;walk_at "w";refine ⟨⟨_,bU.of gx⟩,?_⟩;refine dS (K:=K) (as:=rows) (F:=dn K H0) (fun (H:Hp) (zs:List Int) (v:V)=>∃q,v=V.ref q/\H q=some (.lst (zs.map V.int))) gX gx qx (by lia) (fun a b=>a.same b) (fun ⟨q,a,b⟩ s=>⟨q,a,s _ _ b⟩) ?_ ?_
  ·rintro i qs v H' NY NN ec s' ⟨u,rfl,_,R⟩ k1;have mx:=ax ec;obtain ⟨M,hM⟩:=F.rowM mx;obtain ⟨b1,sb⟩:=hM.bot;have lq:(qs.map nm).length<=1000:=by rw[aj,hw qs mx];lia
   walk_at "w";refine ⟨u,_,M,rfl,R.rowK,lq,hM,fun H2 s2=>?_⟩;walk_at "w";exact ⟨u,_,M,_,rfl,(R.same s2).rowK,lq,hM,b1,sb,fun r H3 n3 s3 g3=>k1 _ _ (s2.trans s3) ⟨r,rfl,g3⟩⟩
  rintro ys H1 lp0 hlp s1 g1 pr1 nx1;walk_at "w";refine cR fun qp H2 s2 nq gq=>?_
  have G2:vh qp H2 lp0 (rows.map gX):=⟨(fun z=>by rw[z,nq] at g1;cases g1),ys,s2 _ _ g1,Paired.imp' (fun _ _ ⟨q,a,b⟩=>⟨q,a,(fun z=>by rw[z,nq] at b;cases b),s2 _ _ b⟩) pr1⟩;have hq0:H qp=none:=s1.none nq;have s02:=s1.trans s2;have hm:(rows.map gX).length=rows.length:=aj ..;clear g1 pr1 nx1;walk_at "w";refine ⟨by lia,by lia,?_⟩;refine fb (n:=n) (fun P σ' H'=>aJ H H'/\∃lp ls ps d y1 y2 y3,σ'=[some (.ref p),some (.int n),some (.ref lp),some (.ref qp),some (.int d),y1,y2,y3]/\H' qp=some (.lst (fP ps))/\vh qp H' lp ls/\C5 (rows.map gX) n P ls ps d) ⟨s02,lp0,rows.map gX,[],1,_,_,_,rfl,gq,G2,C5.start fun zs hz=>by obtain ⟨x,hx,rfl⟩:=aB.mp hz;rw[rE];exact hw x hx⟩ ?_ ?_
  ·rintro P σ' H' hP ⟨s',lp,ls,ps,d,y1,y2,y3,rfl,gq',G',I⟩;have hl:=I.len;have kP:=I.el.kP;have km:=I.el.km;have lps:(fP ps).length=ps.length:=aj ..;have hqp:H' qp≠none:=by rw[gq'];exact fun z=>nomatch z
   obtain ⟨z1,z2⟩:=I.sz (r:=min rows.length n) hW ent (by lia) (by rw[hm];exact aw _) r15;have big:(16*W)^min rows.length n < 2^8999:=bB (yZ W2) (dU (by decide) (by lia));walk_at "w";refine ⟨_,_,rfl,.inl (bU.of gq'),?_⟩;rw[lps];walk_at "w";refine ⟨qp,lp,ls,ps.length,P,rfl,G',by lia,by lia,fun zs hz=>by rw[I.wide zs hz];exact hP,fun t h1 h2 h3=>?_,fun hz=>?_⟩
   ·walk_at "w";refine ⟨rfl,_,rfl,?_⟩;rw[show decide (V.int (t:Int)=V.non)=false from decide_eq_false (fun z=>nomatch z)];walk_at "w";refine ⟨qp,lp,ls,t,ps.length,rfl,hqp,G',by lia,h2,by lia,fun l1 Ha na sa Ga=>?_⟩;walk_at "w";refine ⟨qp,l1,_,ps.length,P,n,d,rfl,fun z=>hqp (sa.none z),Ga,by rw[yO];lia,by rw[yO];lia,HE I.wide (by lia) h2,by lia,hP,I.d0,bB z1 big,fun zs hz z hz'=>?_,fun l2 Hb nb sb Gb=>?_⟩
    ·unfold sE at hz;have key:∀ys,ys∈ls->∀z∈ys,Sz 8999 z:=fun ys hy z hz=>bB (z2 ys hy z hz) big
     rcases cJ hz with h | h
     ·rcases cJ h with h | h
      ·exact key zs h z hz'
      ·rw[h] at hz';exact key _ (getD_in h2) z hz'
     ·rw[h] at hz';exact key _ (getD_in (by lia)) z hz'
    have sab:=sa.trans sb;have I2:=I.step hW ent h1 h2 h3;have hk2:ps.length < (Fi (sE ls ps.length t) ps.length P d).length:=by rw[LZ,yO];lia
    obtain ⟨n2,xs2,gx2,qx2⟩:=id Gb;obtain ⟨zk,vk,ek,evk,mk,qk,rfl,_,gk⟩:=iq qx2 hk2;have wk:=I2.wide zk mk;walk_at "w";refine cD (bU.of gx2) (fJ evk) ?_;walk_at "w";refine cD (bU.of gk) (AD (by lia)) ?_;have gqb:=sab _ _ gq';walk_at "w";refine ⟨.inl ⟨rfl,_,bU.of gqb⟩,?_⟩;walk_at "w";refine iQ gqb (bG (by lia)) ?_;refine ⟨(s'.trans sab).after hq0,l2,_,ps++[P],_,_,_,_,rfl,?_,Gb.upd,?_⟩
    ·rw[aK];unfold fP;rw[cI];rfl
    ·have e:(Fi (sE ls ps.length t) ps.length P d).getD ps.length []=zk:=by rw[aa,ek];rfl
     rw[e] at I2;exact I2
   ·walk_at "w";refine ⟨rfl,_,rfl,?_⟩;rw[show decide (V.non=V.non)=true from decide_eq_true rfl];walk_at "w";exact ⟨s',lp,ls,ps,d,_,_,_,rfl,gq',G',I.skip hz⟩
  rintro σ' H' ⟨s',lp,ls,ps,d,y1,y2,y3,rfl,gq',G',I⟩;obtain ⟨R,hR⟩:=I.done hw F;have lps:(fP ps).length=ps.length:=aj ..;obtain ⟨nl,xs',gx',qx'⟩:=id G';walk_at "w";refine ⟨_,_,rfl,.inl (bU.of gq'),?_⟩;rw[lps];walk_at "w";refine Pb (bU.of gx') fun sl H3 s3 n3 g3=>?_
  rw[LX] at g3;walk_at "w";refine cg fun t H4 s4 g4=>?_
  have s34:=s3.trans s4;exact k t sl qp R ps d _ H4 g4 (s34 _ _ gq') ⟨(fun z=>by rw[z,gq'] at n3;cases n3),_,s4 _ _ g3,Paired.imp' (fun _ _ z=>IB.same z s34) (uI qx' ps.length)⟩ (s'.trans s34) hR
theorem yS:bu ["top","bottom","divisor"] ["top","bottom"] (ay rJ):=by walk_at "d"
theorem vK (T:Txt K mg Z):cU P w K mg base gE 2 Z.yF Z.yt ["top","bottom"] Ja:=by
 refine T.rX.ok yS (fun vs H Q E h=>?_) (fun cdv A outer s H vs Q E hr h=>?_)
 ·obtain ⟨t,b,rfl,hb,hs,k⟩:=h;rfl
 ·obtain ⟨t,b,rfl,hb,hs,k⟩:=h
  refine ⟨_,(ar (bc (i:=2) yS.nd rfl (Or.inl rfl) (cX (ki T) hr T.h8 T.fR.kp T.iZ (ae (pv 0) (ae (pv 1) ag))))
   (ar (dm (bE uL (pv 1) ao (bK _)) (aA (bc (i:=2) yS.nd rfl (Or.inl rfl) (xO sD (pv 2)))) b7)
   (aA (aW (cW (ae (bI jl (pv 0) (pv 2)) (ae (bI jl (pv 1) (pv 2)) ag))))))),?_⟩
  refine aR (σ:=[some (.int t),some (.int b),none]) rfl ?_;walk_at "w";refine ⟨t,b,rfl,?_⟩;have hg:=Bs (t:=t) hb
  have hgs:Sz 8999 (g t b):=hs.le (by
   have h1:(g t b).natAbs=Int.gcd t b:=by unfold g;simp
   rw[h1];exact fU (by lia) (by have:=fu (a:=t) (b:=b);exact eN.mpr this |> fun z=>by simpa using z))
  have hgn:g (-t) (-b)=g t b:=by unfold g;rw[Int.gcd_neg,Int.neg_gcd]
  walk_at "w";refine gZ (fun h=>?_) (fun h=>?_)
  ·have hb0:b < 0:=of_decide_eq_true h;walk_at "w";refine fw (show rY _ _ from ⟨by lia,hgs.neg⟩) ?_;walk_at "w";refine fw (show rY _ _ from ⟨by lia,hgs.neg⟩) ?_;walk_at "w";refine cg fun r H' s' h'=>?_
   have e1:t.fdiv (-g t b)=lo (-t) (-b):=by
    unfold Nm.lo;rw[hgn,<- cB _ (by lia),<- Int.neg_fdiv_neg (-t),Int.neg_neg]
   have e2:b.fdiv (-g t b)=hi (-t) (-b):=by
    unfold Nm.hi;rw[hgn,<- cB _ (by lia),<- Int.neg_fdiv_neg (-b),Int.neg_neg]
   exact k r H' s' (by rw[if_pos hb0,if_pos hb0,<- e1,<- e2];exact h')
  ·have hb0:¬b < 0:=fun z=>h (decide_eq_true z)
   walk_at "w";refine fw (show rY _ _ from ⟨by lia,hgs⟩) ?_;walk_at "w";refine fw (show rY _ _ from ⟨by lia,hgs⟩) ?_;walk_at "w";refine cg fun r H' s' h'=>?_
   rw[cB _ (by lia),cB _ (by lia)] at h';exact k r H' s' (by rw[if_neg hb0,if_neg hb0];exact h')
theorem AM:bu ["rows","wide","found"] ["rows","wide"] (ay oC):=by walk_at "d"
theorem Gn (T:Txt K mg Z):cU P w K mg base gE 5 Z.v5 Z.vQ ["rows","wide"] (ED K):=by
 refine T.zu.ok AM (fun vs H Q E h=>?_) (fun cdv A outer s H vs Q E hr h=>?_)
 ·obtain ⟨p,n,w,H0,rows,rfl,G,r100,n100,hw,F,k⟩:=h;rfl
 ·obtain ⟨p,n,w,H0,rows,rfl,G,r100,n100,hw,F,k⟩:=h
  refine ⟨_,(ar (bc (i:=2) AM.nd rfl (Or.inl rfl) (cX (EX T) hr T.Bc T.Ay.kp T.Ed (ae (pv 0) (ae (pv 1) ag))))
   (aA (aW (cF ["line","lead"] [] [] (vI rfl T.zip (ae (aV bS (pv 2) ao) (ae (aV bS (pv 2) ao) ag))) (fun _=>(vJ K 2 (cS (aO (i:=0) (show List.Nodup (α:=PySem.Str) ["line","lead"] by decide +kernel) rfl (Or.inr rfl) (Or.inl rfl)) (cS (aO (i:=1) (show List.Nodup (α:=PySem.Str) ["line","lead"] by decide +kernel) rfl (Or.inr rfl) (Or.inl rfl)) ju)))) (fun _=>cC) (fun _=>(cF ["top"] ["line","lead"] [0,1] (EW K (pv 0)) (fun _=>(aO (i:=0) (show List.Nodup (α:=PySem.Str) ["top","line","lead"] by decide +kernel))) (fun _=>cC) (fun _=>(cX (vK T) hr T.rQ T.rX.kp T.va (ae (pv 0) (ae (aV (iu K (by rfl)) (pv 1) (pv 2)) ag)))))))))),?_⟩
  refine aR (σ:=[some (.ref p),some (.int n),none]) rfl ?_;obtain ⟨_,_,_,_,_,_,_,_,r15,r89⟩:=id F;walk_at "w";refine ⟨p,n,w,H0,rows,rfl,G,r100,n100,hw,F,fun t lp qp R ps d ls H1 gt gq G1 s1 S=>?_⟩;obtain ⟨lR,wR,RR⟩:=id S.rr;have hl:=S.len;obtain ⟨_,xs,gx,qx⟩:=id G1;have lx:=qx.length;have lps:(fP ps).length=ps.length:=aj ..;have d0:(d:Rat)≠0:=fun z=>S.d0 (ng z)
  have dsz:Sz 8999 d:=bB S.dsz (dU (by decide) (by lia))
  have km:ps.length<=n:=by
   rcases cP n ps.length with z | z
   ·have inc:∀j,j < ps.length->j<=ps.getD j 0:=by
     intro j
     induction j with
     | zero=>intro _;exact bA _
     | succ j ih =>
      intro hj;have:=ih (by lia);have:=RR.inc j (j+1) (by lia) hj
      lia
    have h1:=inc (ps.length - 1) (by lia);have h2:=RR.low (ps.length - 1) (by lia)
    lia
   ·exact z
  walk_at "w";refine ⟨⟨_,bU.of gx⟩,⟨_,bU.of gq⟩,?_⟩;refine uY (K:=K) (xs:=xs) (ws:=fP ps) (fun i ys H'=>aJ H1 H'/\Paired (dn K H1 H') (R.take i) ys) (aS (bG (by lia))) (by lia) ⟨aJ.refl _,.nil⟩ (fun i ys H' _ ⟨s,_⟩=>⟨bU.of (s _ _ gx),bU.of (s _ _ gq)⟩) ?_ ?_
  ·rintro i v1 v2 ys H' r h1 h2 hy ⟨s,pr⟩ hr;obtain ⟨zs,ez,q,rfl,_,gq1⟩:=cE qx h1;have hi:i < ls.length:=(aI.mp ez).1;have mz:=ax ez;have wz:=S.wide zs mz
   obtain ⟨j,ej,rfl⟩:∃j:Nat,ps[i]?=some j/\V.int (j:Int)=v2:=by
    unfold fP at h2;rw[aG] at h2;cases e:ps[i]? with
    | none=>rw[e] at h2;cases h2
    | some x=>rw[e] at h2;exact ⟨x,rfl,cp h2⟩
   have ej':ps.getD i 0=j:=by rw[aa,ej];rfl
   have jn:j < n:=by have:=RR.low i (by lia);rw[ej'] at this;exact this
   have sr:aJ H' (upd H' r (.tup [.ref q,.int j])):=aJ.new hr;have gr:(upd H' r (.tup [.ref q,.int j])) r=some (.tup [.ref q,.int j]):=aK;generalize upd H' r (.tup [.ref q,.int j])=H2 at sr gr ⊢;have s2:=s.trans sr;have iR:i < R.length:=by lia
   have eR:=af iR;have wRi:=wR _ (aQ iR)
   have ed:zs.getD j 0=d:=by
    have h:=S.val i j;rw[Kb ez] at h;have u:=RR.unit i (by lia) i (by lia);rw[if_pos rfl,ej'] at u;rw[u,yJ] at h;exact dF.mp h
   have val:∀c,((zs.getD c 0:Int):Rat)=(d:Rat)*(R[i]).getD c 0:=fun c=>by
    have h:=S.val i c;rw[Kb ez] at h;rw[h];unfold cn;rw[aa (l:=R),eR];rfl
   walk_at "w";refine ⟨⟨_,bU.of (s2 _ _ gq1)⟩,?_⟩;refine fQ (K:=K) (xs:=zs.map V.int) (fun c ys' H3=>aJ H2 H3/\Paired (cx K H3) ((R[i]).take c) ys') (aS (bG (by rw[aj];lia))) ⟨aJ.refl _,.nil⟩ (fun c ys' H3 _ ⟨s3,_⟩=>bU.of ((s2.trans s3) _ _ gq1)) ?_ ?_
   ·rintro c x ys' H3 hx hlen ⟨s3,pr3⟩
    obtain ⟨z,ec,rfl⟩:∃z,zs[c]?=some z/\V.int z=x:=by
     rw[aG] at hx;cases e:zs[c]? with
     | none=>rw[e] at hx;cases hx
     | some x=>rw[e] at hx;exact ⟨x,rfl,cp hx⟩
    have hc:c < zs.length:=(aI.mp ec).1;have vc:=val c;have e1:zs.getD c 0=z:=by rw[aa,ec];rfl
    rw[e1] at vc;walk_at "w";refine cD (bU.of ((s2.trans s3) _ _ gq1)) (AD (by lia)) ?_;rw[ed];walk_at "w";refine ⟨z,d,rfl,S.d0,dsz,fun r4 H4 s4 g4=>?_⟩;have ec':(R[i])[c]?=some ((R[i]).getD c 0):=by rw[aa,af (show c < (R[i]).length by lia)];rfl
    refine ⟨s3.trans s4,?_⟩;rw[take_snoc ec'];refine bT (Paired.imp' (fun _ _ z=>cx.same z s4) pr3) (.cons (cx.mk g4 ?_) .nil);rcases Int.lt_or_lt_of_ne S.d0 with hd | hd
    ·rw[if_pos hd,if_pos hd];refine nD (by lia) ?_;rw[cH,cH,vc];grind
    ·rw[if_neg (by lia),if_neg (by lia)];refine nD hd ?_;rw[vc];grind
   ·rintro ys' H3 hy' ⟨s3,pr3⟩ l4 hl4;have sn:aJ H3 (upd H3 l4 (.lst ys')):=aJ.new hl4;refine ⟨(s2.trans s3).trans sn,?_⟩;rw[take_snoc eR];rw[aH (by rw[aj];lia)] at pr3;exact bT (Paired.imp' (fun _ _ z=>dn.same z ((sr.trans s3).trans sn)) pr) (.cons ⟨l4,rfl,(s2.trans s3).none hl4,ys',aK,Paired.imp' (fun _ _ z=>cx.same z sn) pr3⟩ .nil)
  ·rintro ys H' hy ⟨s,pr⟩ r hr;have sn:aJ H' (upd H' r (.lst ys)):=aJ.new hr;rw[aH (by lia)] at pr;refine k r R ps d.natAbs _ (s1.none (s.none hr)) ((s1.trans s).trans sn) ⟨ys,aK,Paired.imp' (fun _ _ z=>(dn.weak z s1).same sn) pr,kj (H0:=H1) (rows:=R) ⟨H',hr,pr⟩⟩ S.rr S.km ?_ S.dsz S.tp;have:=S.d0
   lia
theorem sF:bu ["one","other","one_bottom","other_bottom","pairs"] ["one","other"] (ay oB):=by walk_at "d"
theorem A4 (T : Txt K mg Z) : cU P w K mg base gE 4 Z.vZ Z.vP ["one", "other"] (HH K) := by
  have uo := rO (P := P) (w := w) (base := base) T;have zS := xS (P := P) (w := w) (base := base) T;have L9 := vK (P := P) (w := w) (base := base) T;refine T.wg.ok sF (fun vs H Q E h => ?_) (fun cdv A outer s H vs Q E hr h => ?_)
  · obtain ⟨p, q, xs, ys, rfl, hp, hq, hl, hz, ⟨k1, j1, k2, j2, h1, h2, hkj⟩, kk⟩ := h;rfl
  · obtain ⟨p, q, xs, ys, rfl, hp, hq, hl, hz, ⟨k1, j1, k2, j2, h1, h2, hkj⟩, kk⟩ := h
    refine ⟨_, (ar (bc (i := 2) sF.nd rfl (Or.inl rfl) (cX uo hr T.iU T.gI.kp T.jw (ae (pv 0) ag)))
      (ar (bc (i := 3) sF.nd rfl (Or.inl rfl) (cX uo hr T.iU T.gI.kp T.jw (ae (pv 1) ag)))
      (ar (bc (i := 4) sF.nd rfl (Or.inl rfl) (Gg rfl T.list rfl T.zip (ae (cX zS hr T.nB T.mX.kp T.qh (ae (pv 0) (ae (pv 2) ag))) (ae (cX zS hr T.nB T.mX.kp T.qh (ae (pv 1) (ae (pv 3) ag))) ag))))
      (aA (aW (cX L9 hr T.rQ T.rX.kp T.va (ae (bP (L0 rfl) (by rfl) T.sum PyProof.Rows.boot_sum (ae (cF ["mine", "yours"] [] [] (cK (pv 4)) (fun _ => (vJ K 2 (cS (aO (i := 0) (show List.Nodup (α := PySem.Str) ["mine", "yours"] by decide +kernel)) (cS (aO (i := 1) (show List.Nodup (α := PySem.Str) ["mine", "yours"] by decide +kernel)) ju)))) (fun _ => cC) (fun _ => (bI dc (pv 0) (pv 1)))) ag)) (ae (bI dc (pv 2) (pv 3)) ag)))))))), ?_⟩
    refine aR (σ := [some (.ref p), some (.ref q), none, none, none]) rfl ?_;obtain ⟨M, h1⟩ := h1.rowM (by lia);obtain ⟨N, h2⟩ := h2.rowM (by lia);replace hp := hp.rowK;replace hq := hq.rowK;replace hl : (ys.map nm).length = (xs.map nm).length := by simpa using hl
    replace hz : (xs.map nm).length ≤ 1000 := by simpa using hz
    obtain ⟨b1, s1⟩ := h1.bot;obtain ⟨b2, s2⟩ := h2.bot;have k2 : ∀ r H', aJ H H' → H' r = some (.tup [.int (lo (LR (xs.map nm) (ys.map nm)) (ik (xs.map nm) * ik (ys.map nm))), .int (hi (LR (xs.map nm) (ys.map nm)) (ik (xs.map nm) * ik (ys.map nm)))]) → Q (.ref r) H' := fun r H' s g => kk r H' s (cx.mk g (NQ b1 b2))
    clear kk;generalize xs.map nm = ns at hp hq hl hz h1 h2 b1 b2 s1 s2 k2;generalize ys.map nm = ms at hp hq hl hz h1 h2 b1 b2 s1 s2 k2;have hb : 0 < ik ns * ik ms := js b1 b2;walk_at "w";refine ⟨p, ns, M, rfl, hp, hz, h1, fun H1 t1 => ?_⟩;walk_at "w";refine ⟨q, ms, N, rfl, hq.same t1, by lia, h2, fun H2 t2 => ?_⟩;have u2 := t1.trans t2;walk_at "w";refine ⟨p, ns, M, _, rfl, hp.same u2, hz, h1, b1, s1, fun r1 H3 n3 t3 g3 => ?_⟩;walk_at "w";refine ⟨q, ms, N, _, rfl, (hq.same u2).same t3, by lia, h2, b2, s2, fun r2 H4 n4 t4 g4 => ?_⟩;walk_at "w";refine ⟨r1, r2, _, _, rfl, bU.of (t4 _ _ g3), bU.of g4, by simp [fG, hl], fun L ts H5 t5 n5 g5 pr => ?_⟩;have lt := pr.length;have ll : (fG ns (ik ns)).length = ns.length := by simp [fG]
    have lm : (fG ms (ik ms)).length = ns.length := by simp [fG, hl]
    rw [BP, aj, aj, ll, lm] at lt;walk_at "w";refine ⟨⟨_, bU.of g5⟩, ?_⟩;refine fQ (K := K) (xs := ts) (fun i ys H' => H' = H5 /\ ys = ((List.zipWith (· * ·) (fG ns (ik ns)) (fG ms (ik ms))).take i).map V.int) (aS (bG (by lia))) ⟨rfl, rfl⟩ (fun i ys H' _ ⟨e, _⟩ => by subst e; exact bU.of g5) ?_ ?_
    · rintro i x ys H' hx hlen ⟨rfl, rfl⟩;obtain ⟨pq, epq, T, rfl, gT⟩ := cE pr hx;obtain ⟨t, u, et, eu, rfl⟩ := Mm epq;walk_at "w";refine fw (show fX _ _ from .inr ⟨_, _, Ey h1 b1 s1 (ax et), Ey h2 b2 s2 (ax eu), by decide⟩) ?_;have ez : (List.zipWith (· * ·) (fG ns (ik ns)) (fG ms (ik ms)))[i]? = some (t * u) := by rw [b6, et, eu]
      exact ⟨rfl, by rw [take_snoc ez]; simp⟩
    · rintro ys H' hy ⟨rfl, rfl⟩ l hl';walk_at "w";refine ⟨l, List.zipWith (· * ·) (fG ns (ik ns)) (fG ms (ik ms)), rfl, bU.of (by rw [aK, aH (by rw [cz]; lia)]), ?_⟩;walk_at "w";refine fw (show fX _ _ from .inr ⟨_, _, s1, s2, by decide⟩) ?_;walk_at "w";refine ⟨_, _, rfl, by lia, (s1.mul s2).mono (by decide), fun r H6 t6 g6 => ?_⟩;rw [if_neg (by lia), if_neg (by lia)] at g6;exact k2 r H6 ((((u2.trans t3).trans t4).trans t5).trans ((aJ.new hl').trans t6)) g6
theorem FU:bu ["grid","row"] ["grid","row"] (ay oF):=by walk_at "d"
theorem Gu (T:Txt K mg Z):cU P w K mg base gE 5 Z.v8 Z.vS ["grid","row"] (HG K):=by
 refine T.zw.ok FU (fun vs H Q E h=>?_) (fun cdv A outer s H vs Q E hr h=>?_)
 ·obtain ⟨p,q,H0,rows,ys,rfl,hp,hq,hz,hl,hr1,kk⟩:=h;rfl
 ·obtain ⟨p,q,H0,rows,ys,rfl,hp,hq,hz,hl,hr1,kk⟩:=h;refine ⟨_,(aA (aW (cF ["line"] ["row"] [1] (cK (pv 0)) (fun _=>(aO (i:=0) (show List.Nodup (α:=PySem.Str) ["line","row"] by decide +kernel))) (fun _=>cC) (fun _=>(cX (A4 T) hr T.xp T.wg.kp T.zh (ae (pv 0) (ae (pv 1) ag))))))),?_⟩;refine aR (σ:=[some (.ref p),some (.ref q)]) rfl ?_;obtain ⟨xs,gx,qx,_⟩:=id hp;walk_at "w";refine ⟨⟨_,bU.of gx⟩,?_⟩;refine dS (K:=K) (F:=dn K H0) (cx K) (fun xs=>eG xs ys) gx qx hz (fun a b=>a.same b) (fun a b=>a.same b) ?_ ?_
  ·rintro i ns x H' NY NN en s ⟨u,rfl,_,hu⟩ k;obtain ⟨e1,e2⟩:=hr1 ns (ax en);walk_at "w";exact ⟨u,q,ns,ys,rfl,hu,hq.same s,e1.symm,by lia,e2,fun r H2 s2 h2'=>k _ _ s2 h2'⟩
  ·rintro ys' H' r hr s g pr nx;exact kk r H' hr s ⟨ys',g,pr⟩
theorem BV:bu ["system","rows"] ["system","rows"] (ay iH):=by walk_at "d"
theorem wH (T:Txt K mg Z):cU P w K mg base gE 6 Z.nX Z.nG ["system","rows"] (IX K Z.a_System):=by
 refine T.ou.ok BV (fun vs H Q E h=>?_) (fun cdv A outer s H vs Q E hr h=>?_)
 ·obtain ⟨x,p,H0,H1,mv,pt,lk,R,rfl,S,D,G,l100,wR,hf,k⟩:=h;rfl
 ·obtain ⟨x,p,H0,H1,mv,pt,lk,R,rfl,S,D,G,l100,wR,hf,k⟩:=h;refine ⟨_,(aA (aW (cF ["row"] ["system"] [0] (cK (pv 1)) (fun _=>(aO (i:=0) (show List.Nodup (α:=PySem.Str) ["row","system"] by decide +kernel))) (fun _=>cC) (fun _=>(cX (Gu T) hr T.Bg T.zw.kp T.C3 (ae (HP K (pv 1) rfl) (ae (pv 0) ag))))))),?_⟩;refine aR (σ:=[some (.ref x),some (.ref p)]) rfl ?_;obtain ⟨dx,a',b',c',gx,_,_,_,Ga,Gb,Gc⟩:=id S;have d8:=D.n8;obtain ⟨xs,gxs,qx,_⟩:=id G;walk_at "w";refine ⟨⟨_,bU.of gxs⟩,?_⟩;refine dS (K:=K) (F:=dn K H1) (dn K H) (sJ mv) gxs qx (by lia) (fun a b=>a.same b) (fun a b=>a.same b) ?_ ?_
  ·rintro i ns v H' NY NN en s ⟨u,rfl,_,hu⟩ k1;have mn:=ax en;walk_at "w";refine ⟨x,Z.a_System,dx,_,_,rfl,s _ _ gx,T.cl_System,T.na_move,AJ,?_⟩;walk_at "w";exact ⟨a',u,H0,mv,ns,rfl,Ga.same s,hu,by lia,by rw[wR ns mn];lia,fun xs hx=>⟨by rw[D.mw xs hx,wR ns mn],hf xs hx ns mn⟩,fun r H2 nr s2 R2=>k1 _ _ s2 ⟨r,rfl,s.none nr,R2⟩⟩
  ·rintro ys H' r hr s g pr nx;exact k r H' hr s ⟨ys,g,pr,kj nx⟩
theorem oM:bu ["system","steps","lists","rows"] ["system","steps"] (ay gL):=by walk_at "d"
theorem uM (T:Txt K mg Z):cU P w K mg base gE 7 Z.mF Z.lY ["system","steps"] (Jf K Z.a_System):=by
 refine T.mN.ok oM (fun vs H Q E h=>?_) (fun cdv A outer s H vs Q E hr h=>?_)
 ·obtain ⟨x,a,c,st,H0,mv,pt,lk,rfl,s1000,S,D,F,k⟩:=h;rfl
 ·obtain ⟨x,a,c,st,H0,mv,pt,lk,rfl,s1000,S,D,F,k⟩:=h
  refine ⟨_,(ar (bc (i:=2) oM.nd rfl (Or.inl rfl) (dr (ae (dr ag) ag)))
   (ar (AW PassesOwn.never (bE Ry (bP bC (by rfl) T.len bg (ae (pv 2) ag)) (pv 1) (bK _))
    (ar (bc (i:=3) oM.nd rfl (Or.inl rfl) (cX (Gn T) hr T.Be T.zu.kp T.C1 (ae (bI jF (jE (pv 0) rfl) (cX (wH T) hr T.rf T.ou.kp T.tD (ae (pv 0) (ae (aV bW (pv 2) (xO sD ao)) ag)))) (ae (jE (pv 0) rfl) ag))))
   (ar (dm (bE eK (bP bC (by rfl) T.len bg (ae (pv 3) ag)) (bP bC (by rfl) T.len bg (ae (aV bW (pv 2) (xO sD ao)) ag)) (bK _)) (aA (aW (pv 2))) b7)
   (aA (iS (uH cG cZ cY iT (pv 2) (ae (pv 3) ag)))))))
   (aA (aW (pv 2))))),?_⟩
  refine aR (σ:=[some (.ref x),some (.int st),none,none]) rfl ?_;obtain ⟨dx,a',b',c',gx,_,_,_,Ga,Gb,Gc⟩:=id S;have d8:=D.n8;have i4:=D.i4;have lP:=e8 (mv:=mv) (pt:=pt) rfl D.pw;walk_at "w";refine cR fun q0 H1 s1 nq0 g1=>?_
  walk_at "w";refine cR fun l H2 s2 nl g2=>?_
  have s02:=s1.trans s2;have nl0:H l=none:=s1.none nl;obtain ⟨Hz,eHz⟩:∃Hz,Hz=upd H l (.lst []):=⟨_,rfl⟩;have zl:Hz l≠none:=by rw[eHz,aK];exact fun z=>nomatch z
  have zn:∀q,Hz q=none->H q=none/\q≠l:=fun q h=>by
   have ne:q≠l:=fun z=>zl (by rw[<- z];exact h)
   rw[eHz,bJ ne] at h;exact ⟨h,ne⟩
  have nz:∀q,H q=none->q≠l->Hz q=none:=fun q h ne=>by rw[eHz,bJ ne];exact h
  clear eHz;have q0l:q0≠l:=fun z=>by rw[z,nl] at g1;cases g1
  have G0:bL K Hz H2 q0 []:=⟨[],s2 _ _ g1,.nil,fun z=>nomatch z⟩;walk_at "w";refine De (fun σ' H'=>aJ H H'/\∃Rs R us y,σ'=[some (.ref x),some (.int st),some (.ref l),y]/\H' l=some (.lst us)/\Paired (fun R v=>∃q,v=V.ref q/\Hz q=none/\bL K Hz H' q R) (Rs++[R]) us/\BI mv pt (Rs++[R])/\Rs.length<=st) (fun _ H'=>match H' l with | some (.lst us)=>st+1 - us.length | _=>0) ⟨s02,[],[],_,_,rfl,g2,.cons ⟨q0,rfl,nz q0 nq0 q0l,G0⟩ .nil,⟨by simp,fun t R e=>?_,fun t R R' e e'=>?_⟩,bA _⟩ ?_
  ·have ht:=(aI.mp e).1;have:t=0:=by simpa using ht
   subst this;cases e;exact ⟨[],Dz⟩
  ·have ht:=(aI.mp e').1;simp at ht
  rintro σ' Ha ⟨sa,Rs,R,us,y,rfl,gu,pa,Gw,hst⟩;have lu:=pa.length;rw[ak,bx] at lu;have eR:(Rs++[R])[Rs.length]?=some R:=by rw[aU (aw _),fe];rfl
  obtain ⟨ps,RR⟩:=Gw.rr _ _ eR;have tn:Rs.length<=mv.length:=by have:=Gw.len _ _ eR;have:=RR.le;have:=RR.1;lia
  have fin:∀(Hx:Hp) (sx:aJ Ha Hx) (hh:∀s,(Rs.length=st/\s=st\/Rs.length < st/\Rs.length<=s)->∃ps,bZ (kry mv pt s) mv.length R ps),Q (.ref l) Hx:=fun Hx sx hh=>by
   refine k l (Rs++[R]) Hx nl0 (sa.trans sx) ⟨us,sx _ _ gu,Paired.imp' (fun _ _ ⟨q,e1,e2,e3⟩=>⟨q,e1,(zn q e2).1,(zn q e2).2,bL.weakN (bL.same e3 sx) fun q h=>(zn q h).1⟩) pa⟩ Gw (by rw[ak,bx];lia) fun R2 e2 s hs=>?_
   rw[List.getLast?_concat] at e2;cases e2;rw[ak,bx,Nat.add_sub_cancel] at hs;exact hh s hs
  walk_at "w";refine ⟨_,_,rfl,.inl (bU.of gu),?_⟩;walk_at "w";refine gZ (fun h0=>?_) (fun h0=>?_)
  ·have h0:=of_decide_eq_true h0;refine Oh ?_
   obtain ⟨zs,gS⟩:∃zs q,us=zs++[V.ref q]/\Hz q=none/\bL K Hz Ha q R:=by
    obtain ⟨v,ev,q,rfl,e2,e3⟩:∃v,us[Rs.length]?=some v/\∃q,v=V.ref q/\Hz q=none/\bL K Hz Ha q R:=by
     have ev:=af (show Rs.length < us.length by lia);obtain ⟨R2,e2,w⟩:=cE pa ev;rw[eR] at e2;cases e2;exact ⟨_,ev,w⟩
    refine ⟨us.take Rs.length,q,?_,e2,e3⟩;rw[<- take_snoc ev,aH (by lia)]
   obtain ⟨q,rfl,zq,Gq⟩:=gS;have gxa:=sa _ _ gx;walk_at "w";refine ⟨x,Z.a_System,dx,_,_,rfl,gxa,T.cl_System,T.na_put,Dh,?_⟩;walk_at "w";refine cD (bU.of gu) (vg _ _) ?_;have wR:=RR.2.1;have lR:=RR.1;have pn:=RR.le;walk_at "w";refine ⟨x,q,H0,Hz,mv,pt,lk,R,rfl,S.same sa,D,Gq,by lia,wR,F.fit d8 D.mw D.pw tn RR,fun mr Hb nmr sb Gm=>?_⟩;obtain ⟨pv,gpv,qpv,_⟩:=Gb.same (sa.trans sb);obtain ⟨mvs,gmv,qmv,_⟩:=id Gm;have lpv:=qpv.length;have lmv:=qmv.length;rw[aj] at lmv;walk_at "w";refine jA gpv gmv (aS (bG (by lia))) fun cr Hc sc nc gc=>?_
   have sab:=sa.trans (sb.trans sc);have Gc':bL K (fun _=>none) Hc cr (pt++R.map (sJ mv)):=ze (H:=Hb) (bT (Paired.imp' (fun _ _ ⟨q,e1,e2,e3⟩=>⟨q,e1,rfl,e3⟩) qpv) (Paired.imp' (fun _ _ ⟨q,e1,e2,e3⟩=>⟨q,e1,rfl,e3⟩) qmv)) sc nc gc;walk_at "w";refine ⟨x,Z.a_System,dx,_,_,rfl,sab _ _ gx,T.cl_System,T.na_states,xj,?_⟩;walk_at "w";refine ⟨cr,mv.length,_,_,_,rfl,Gc',by rw[ak,aj];lia,by lia,fun xs hx=>?_,F.step d8 D.mw D.pw tn RR,fun rr R' ps' M' Hd nrr sd G' RR' pm' _ _ _=>?_⟩
   ·rcases au.mp hx with hx | hx
    ·exact D.pw xs hx
    ·obtain ⟨y,_,rfl⟩:=aB.mp hx;exact xn
   have sbd:=sb.trans (sc.trans sd);have sad:=sa.trans sbd;have K1:=yj rfl D.mw D.pw RR RR';have gud:=sbd _ _ gu;obtain ⟨rv,grv,qrv,_⟩:=id G';have lrv:=qrv.length;have lR':=RR'.1;have pn':=RR'.le;walk_at "w";refine ⟨_,_,rfl,.inl (bU.of grv),?_⟩;walk_at "w";refine cD (bU.of gud) (vg _ _) ?_;obtain ⟨ov,gov,qov,_⟩:=Gq.same sbd;have lov:=qov.length;walk_at "w";refine ⟨_,_,rfl,.inl (bU.of gov),?_⟩;walk_at "w";refine gZ (fun h1=>?_) (fun h1=>?_)
   ·have h1:=of_decide_eq_true h1;walk_at "w";refine fin Hd sbd fun s hs=>⟨ps,?_⟩
    obtain ⟨s',rfl⟩:∃s',s=Rs.length+s':=⟨s - Rs.length,by lia⟩;exact CJ rfl D.mw D.pw RR RR' (by lia) s'
   ·have h1:¬((rv.length:Int)=ov.length):=fun z=>h1 (decide_eq_true z)
    have gr:=Fd rfl D.mw D.pw RR K1;have rl:rr≠l:=fun z=>by rw[z,(sb.trans sc) _ _ gu] at nrr;cases nrr
    have zc:∀q,Hc q=none->Hz q=none:=fun q h=>nz q (sab.none h) (fun z=>by rw[z,(sb.trans sc) _ _ gu] at h;cases h)
    walk_at "w";refine ⟨.inl ⟨rfl,_,bU.of gud⟩,?_⟩;walk_at "w";refine iQ gud (bG (by lia)) ?_;refine ⟨⟨sad.after nl0,Rs++[R],R',_,_,rfl,aK,bT (Paired.imp' (fun _ _ ⟨q,e1,e2,e3⟩=>⟨q,e1,e2,bL.updL (bL.same e3 sbd) gud zl (zn q e2).2⟩) pa) (.cons ⟨rr,rfl,zc rr nrr,bL.updL (G'.weakN zc) gud zl rl⟩ .nil),Gw.snoc K1 (by lia),by rw[ak,bx];lia⟩,?_⟩;simp only[gu,aK,ak,bx] at lu h0 ⊢
    lia
  ·have h0:¬((us.length:Int)<=st):=fun z=>h0 (decide_eq_true z)
   walk_at "w"
   exact fin Ha (aJ.refl _) fun s hs=>⟨ps,by
    have:s=Rs.length:=by lia
    rw[this];exact RR⟩
theorem BS:bu ["system","steps"] ["system","steps"] (ay iF):=by walk_at "d"
theorem lU (T:Txt K mg Z):cU P w K mg base gE 8 Z.nV Z.nE ["system","steps"] (IV K Z.a_System):=by
 refine T.jc.ok BS (fun vs H Q E h=>?_) (fun cdv A outer s H vs Q E hr h=>?_)
 ·obtain ⟨x,a,c,st,H0,mv,pt,lk,rfl,s1000,S,D,F,k⟩:=h;rfl
 ·obtain ⟨x,a,c,st,H0,mv,pt,lk,rfl,s1000,S,D,F,k⟩:=h;refine ⟨_,(aA (aW (aV bW (cX (uM T) hr T.oV T.mN.kp T.rk (ae (pv 0) (ae (pv 1) ag))) (xO sD ao)))),?_⟩;refine aR (σ:=[some (.ref x),some (.int st)]) rfl ?_;walk_at "w";refine ⟨x,a,c,st,H0,mv,pt,lk,rfl,s1000,S,D,F,fun r Rs H1 nr s1 ⟨us,gu,pa⟩ Gw hl hh=>?_⟩;have lu:=pa.length;obtain ⟨Rs',R,rfl⟩:∃Rs' R,Rs=Rs'++[R]:=⟨Rs.dropLast,Rs.getLast Gw.ne,(List.dropLast_concat_getLast Gw.ne).symm⟩;rw[ak,bx] at lu hl;have eR:(Rs'++[R])[Rs'.length]?=some R:=by rw[aU (aw _),fe];rfl
  obtain ⟨zs,q,rfl,zq,ql,Gq⟩:∃zs q,us=zs++[V.ref q]/\H q=none/\q≠r/\bL K H H1 q R:=by
   have ev:=af (show Rs'.length < us.length by lia);obtain ⟨R2,e2,q,e3,e4,e5,e6⟩:=cE pa ev;rw[eR] at e2;cases e2;rw[e3] at ev;refine ⟨us.take Rs'.length,q,?_,e4,e5,e6⟩;rw[<- take_snoc ev,aH (by lia)]
  obtain ⟨ps,RR⟩:=hh R (by rw[List.getLast?_concat]) st (by rw[ak,bx,Nat.add_sub_cancel];lia);walk_at "w";refine cD (bU.of gu) (vg _ _) ?_;exact k q R ps H1 zq s1 Gq RR
theorem iD:bu ["_law_bag_here","_law_move_here","_law_last","_law_system_here","_law_steps_here","_law_units"] ["_law_bag_here"] (ay jU):=by walk_at "d"
theorem DN (T:Txt K mg Z):cU P w K mg base gE 9 Z.qL Z.pZ ["_law_bag_here"] Jb:=by
 refine T.vz.ok iD (fun vs H Q E h=>?_) (fun cdv A outer s H vs Q E hr h=>?_)
 ·obtain ⟨b,rfl,B,k⟩:=h;rfl
 ·obtain ⟨b,rfl,B,k⟩:=h
  refine ⟨_,(ar (jt 1 ["_law_i"] [] [] iD.nd rfl rfl (cy rfl T.range (ae ao ag)) (fun _=>(aO (i:=0) (show List.Nodup (α:=PySem.Str) ["_law_i"] by decide +kernel) rfl (Or.inr rfl) (Or.inl rfl))) (fun _=>cC) (fun _=>(cF ["_law_j"] ["_law_i"] [0] (cy rfl T.range (ae ao ag)) (fun _=>(aO (i:=0) (show List.Nodup (α:=PySem.Str) ["_law_j","_law_i"] by decide +kernel))) (fun _=>cC) (fun _=>(cW (ae (dO lG (by rfl) T.int PyProof.Rows.boot_int (ae (h7 eK (pv 0) (bI eY (pv 1) ao) (bK _)) ag)) (ae ao ag)))))))
   (ar (bc (i:=2) iD.nd rfl (Or.inl rfl) (bI jF (bI Gi (dr (ae (cW (ae ao (ae ao ag))) ag)) ao) (dr (ae (cW (ae (bI eY ao (cX (bo T) hr T.aT T.be.kp T.br (ae (pv 0) (ae ao ag)))) (ae ao ag))) ag))))
   (ar (bc (i:=3) iD.nd rfl (Or.inl rfl) (HN T.mk_System (oU T) (hr.mono (by decide)) rfl T.mg_System T.kC .nil HR (ae (pv 1) (ae (dr (ae (pv 2) ag)) (ae (dr ag) ag)))))
   (ar (bc (i:=4) iD.nd rfl (Or.inl rfl) (cX (bo T) hr T.aT T.be.kp T.br (ae (pv 0) (ae ao ag))))
   (ar (jt 5 ["_law_i"] [] [] iD.nd rfl rfl (Cw rfl T.range (ae (bP (JR rfl) (by rfl) T.max PyProof.Rows.boot_max (ae ao (ae (bI jh ao (pv 4)) ag))) (ae ao ag))) (fun _=>(aO (i:=0) (show List.Nodup (α:=PySem.Str) ["_law_i"] by decide +kernel) rfl (Or.inr rfl) (Or.inl rfl))) (fun _=>cC) (fun _=>(cF ["_law_j"] ["_law_i"] [0] (cy rfl T.range (ae ao ag)) (fun _=>(aO (i:=0) (show List.Nodup (α:=PySem.Str) ["_law_j","_law_i"] by decide +kernel))) (fun _=>cC) (fun _=>(cW (ae (dO lG (by rfl) T.int PyProof.Rows.boot_int (ae (h7 eK (pv 0) (pv 1) (bK _)) ag)) (ae ao ag)))))))
   (aA (aW (h7 (DF (DU hr)) (cX (lU T) hr T.jm T.jc.kp T.kB (ae (pv 3) (ae (pv 4) ag))) (pv 5) (bK _))))))))),?_⟩
  refine aR (σ:=[some (.ref b),none,none,none,none,none]) rfl ?_;walk_at "w";refine ⟨by decide,by decide,?_⟩;refine eT (n:=8) (dn K H) (fun (i:Nat)=>(List.range 8).map fun (j:Nat)=>(((if decide ((j:Int)=(i:Int)+1)=true then 1 else 0:Int)):Rat)) (by decide) (fun a b=>a.same b) ?_ ?_
  ·rintro i Hb NY NN hi sa k1;walk_at "w";refine ⟨by decide,by decide,?_⟩;refine eT (n:=8) (cx K) (fun (j:Nat)=>(((if decide ((j:Int)=(i:Int)+1)=true then 1 else 0:Int)):Rat)) (by decide) (fun a b=>a.same b) ?_ ?_
   ·rintro j Hz NY2 NN2 hj sz k2;walk_at "w";refine cg fun t Hy sy gy=>?_
    exact k2 _ _ sy (cx.mk gy rfl)
   ·rintro ys Hz t ht sz g pr nx;exact k1 _ _ sz ⟨t,rfl,sa.none ht,ys,g,pr⟩
  rintro ys H1 mm hm s1 g1 pr1 nx1;rw[O4] at pr1 nx1;have Gm:bL K H H1 mm Jn:=⟨ys,g1,pr1,kj nx1⟩;clear g1 pr1 nx1;have B1:=B.same s1;walk_at "w";refine cg fun t2 H2 s2 g2=>?_
  walk_at "w";refine cR fun l3 H3 s3 n3 g3=>?_
  walk_at "w";refine FY g3 (by decide) fun l4 H4 s4 n4 g4=>?_
  have s14:=(s2.trans s3).trans s4;have B4:=B1.same s14;have b4:l4≠b:=fun z=>((B1.same s2).same s3).at (by rw[<- z];exact n4)
  walk_at "w";refine ⟨b,9,rfl,B4,by decide,by decide,fun v H5 v0 v1 B5 u5=>?_⟩;obtain ⟨v,rfl⟩:=cw v0;have hv:v < 9:=by lia
  walk_at "w";refine cg fun t6 H6 s6 g6=>?_
  rw[show ((1:Int)+(v:Int))=((v+1:Nat):Int) by lia] at g6;walk_at "w";refine cR fun l7 H7 s7 n7 g7=>?_
  have s57:=s6.trans s7;have g47:=s57 _ _ (u5.other b4 g4);walk_at "w";refine jA g47 g7 (aS (bG (by simp))) fun la H8 s8 n8 g8=>?_
  have s58:=s57.trans s8;have B8:=B5.same s58;have u08:dg b H H8:=((s1.trans s14).upto.trans u5).same s58;have u18:dg b H1 H8:=(s14.upto.trans u5).same s58;have Gm8:=Gm.upto u18 B1 (fun z=>B.at (by rw[<- z];exact hm)) B.at;have nz:cx K H8 0 (.ref t2):=cx.mk (q:=0) (s58 _ _ (u5.tup B4 ((s3.trans s4) _ _ g2))) rfl;have nv:cx K H8 (((v+1:Nat):Rat)) (.ref t6):=cx.mk (q:=((v+1:Nat):Rat)) ((s7.trans s8) _ _ g6) rfl
  have Rl:cQ K H8 la (Dy ((v+1:Nat):Rat) 0):=by
   rw[<- O3];exact ⟨_,g8,bT (sI nz 7) (.cons nv .nil)⟩
  walk_at "w";refine cR fun pl H9 s9 n9 g9=>?_
  have Gp:bL K H7 H9 pl [Dy ((v+1:Nat):Rat) 0]:=⟨_,g9,.cons ⟨la,rfl,n8,Rl.same s9⟩ .nil,fun z=>by
   rw[bF] at z;cases z;rw[g8] at n9;cases n9⟩
  walk_at "w";refine cR fun ll H10 s10 n10 g10=>?_
  have Gl:bL K H9 H10 ll []:=⟨_,g10,.nil,fun z=>nomatch z⟩;have s810:=s9.trans s10;have SF:=RC hv;walk_at "w";intro z dz nz' ndz nez;refine ⟨z,dz,mm,pl,ll,H10,H,H7,H9,Jn,_,[],rfl,nz',ndz,nez,rfl,Gm8.same s810,Gp.same s10,Gl,Lo,SF.sf.ok.1,SF.sf.ok.2.1,SF.sf.ok.2.2,fun H11 s11 S11=>⟨rfl,?_⟩⟩;have s811:=s810.trans s11;have B11:=B8.same s811;walk_at "w";refine ⟨b,13,rfl,B11,by decide,by decide,fun tt H12 t0 t1 B12 u12=>?_⟩;obtain ⟨tt,rfl⟩:=cw t0;have hT:tt < 13:=by lia
  have S12:=S11.upto u12 B11 (B8.same s810).at;have u012:dg b H H12:=(u08.same s811).trans u12;have em:(if 8 - (tt:Int) > 0 then 8 - (tt:Int) else 0)=((8 - tt:Nat):Int):=by split <;> lia
  walk_at "w";rw[em];refine ⟨⟨by lia,by lia,by decide,by decide⟩,?_⟩;rw[show (8 - ((8 - tt:Nat):Int)).toNat=8 - (8 - tt) by lia];refine oY (lo:=((8 - tt:Nat):Int)) (n:=8 - (8 - tt)) (fun i ys H'=>aJ H12 H'/\Paired (dn K H12 H') ((List.range i).map fun i=>N4 (8 - tt+i)) ys) (aS (bG (by lia))) ⟨aJ.refl _,.nil⟩ ?_ ?_
  ·rintro i ys H8 hi hlen ⟨s8,pr⟩;walk_at "w";refine ⟨by decide,by decide,?_⟩;refine eT (n:=8) (cx K) (fun (j:Nat)=>(((if decide ((j:Int)=((8 - tt:Nat):Int)+(i:Int))=true then 1 else 0:Int)):Rat)) (by decide) (fun a b=>a.same b) ?_ ?_
   ·rintro j Hz NY2 NN2 hj sz k2;walk_at "w";refine cg fun t Hy sy gy=>?_
    exact k2 _ _ sy (cx.mk gy rfl)
   ·rintro ys9 H9 q9 hq9 s9 g9 pr9 _;rw[show ((List.range 8).map fun (j:Nat)=>(((if decide ((j:Int)=((8 - tt:Nat):Int)+(i:Int))=true then 1 else 0:Int)):Rat))=N4 (8 - tt+i) from Kc (a:=8 - tt+i)] at pr9;refine ⟨s8.trans s9,?_⟩;rw[uw,cI];exact bT (Paired.imp' (fun _ _ z=>dn.same z s9) pr) (.cons ⟨q9,rfl,s8.none hq9,ys9,g9,pr9⟩ .nil)
  rintro ys H8 hy ⟨s8,pr⟩ du hdu;have sn:aJ H8 (upd H8 du (.lst ys)):=aJ.new hdu;have Gd:bL K H12 (upd H8 du (.lst ys)) du (Fx tt):=⟨ys,aK,Paired.imp' (fun _ _ z=>dn.same z sn) pr,kj (H0:=H12) (rows:=Fx tt) ⟨H8,hdu,pr⟩⟩;generalize upd H8 du (.lst ys)=H14 at sn Gd ⊢;have s1214:=s8.trans sn;walk_at "w";refine ⟨z,0,14,tt,H10,Jn,_,[],rfl,by lia,S12.same s1214,Lo,RD hv,fun rr R ps H15 nr s15 G15 RR=>?_⟩;have eR:R=Fx tt:=(RR.same (Q1 hv hT)).1;walk_at "w";refine ⟨_,_,zb,R,Fx tt,by decide,G15.kind,(Gd.same s15).kind,?_⟩;rw[decide_eq_true eR];exact k _ (B12.same (s1214.trans s15)) (u012.same (s1214.trans s15))
theorem Cg:∃x1 x2 x3 x4 x5 x6 x7 x8 x9 x10 x11 x12 x13 x14 x15 x16:Expr,x1=(Expr.Constant (Const.int 0) 0 ⟨312,16,312,17⟩)/\x2=(Expr.Constant (Const.int 1) 0 ⟨312,19,312,20⟩)/\x3=(Expr.Constant (Const.int 1) 0 ⟨312,22,312,23⟩)/\x4=(Expr.Constant (Const.int 1) 0 ⟨312,25,312,26⟩)/\x5=(Expr.Constant (Const.int 2) 0 ⟨312,28,312,29⟩)/\x6=(Expr.Constant (Const.int 2) 0 ⟨312,31,312,32⟩)/\x7=(Expr.Constant (Const.int 3) 0 ⟨312,34,312,35⟩)/\x8=(Expr.Constant (Const.int 4) 0 ⟨312,37,312,38⟩)/\x9=(Expr.Constant (Const.int 0) 0 ⟨313,17,313,18⟩)/\x10=(Expr.Constant (Const.int 1) 0 ⟨313,20,313,21⟩)/\x11=(Expr.Constant (Const.int 1) 0 ⟨313,23,313,24⟩)/\x12=(Expr.Constant (Const.int 1) 0 ⟨313,26,313,27⟩)/\x13=(Expr.Constant (Const.int 2) 0 ⟨313,29,313,30⟩)/\x14=(Expr.Constant (Const.int 2) 0 ⟨313,32,313,33⟩)/\x15=(Expr.Constant (Const.int 3) 0 ⟨313,35,313,36⟩)/\x16=(Expr.Constant (Const.int 4) 0 ⟨313,38,313,39⟩)/\ba gC=[ (Stmt.Assign (targets:=[(Expr.Name "_law_n" ⟨309,4,309,10⟩)]) (value:=(Expr.Call (func:=(Expr.Name "_law_take" ⟨309,13,309,22⟩)) (args:=[ (Expr.Name "_law_bag_here" ⟨309,23,309,36⟩),(Expr.Constant (Const.int 5) 0 ⟨309,38,309,39⟩)]) (keywords:=[]) (pos:=⟨309,13,309,40⟩))) (pos:=⟨309,4,309,40⟩)),(Stmt.If (test:=(Expr.Compare (left:=(Expr.Call (func:=(Expr.Name "_law_take" ⟨310,7,310,16⟩)) (args:=[ (Expr.Name "_law_bag_here" ⟨310,17,310,30⟩),(Expr.Constant (Const.int 8) 0 ⟨310,32,310,33⟩)]) (keywords:=[]) (pos:=⟨310,7,310,34⟩))) (ops:=[PySem.CmpOp.Eq]) (comparators:=[(Expr.Constant (Const.int 7) 0 ⟨310,38,310,39⟩)]) (pos:=⟨310,7,310,39⟩))) (body:=[ (Stmt.Assign (targets:=[(Expr.Name "_law_n" ⟨311,8,311,14⟩)]) (value:=(Expr.Constant (Const.int 5) 0 ⟨311,17,311,18⟩)) (pos:=⟨311,8,311,18⟩))]) (orelse:=[]) (pos:=⟨310,4,311,18⟩)),(Stmt.Assign (targets:=[(Expr.Name "_law_ins" ⟨312,4,312,12⟩)]) (value:=(Expr.Subscript (value:=(Expr.List (elts:=[x1,x2,x3,x4,x5,x6,x7,x8]) (pos:=⟨312,15,312,39⟩))) (slice:=(Expr.Call (func:=(Expr.Name "_law_take" ⟨312,40,312,49⟩)) (args:=[ (Expr.Name "_law_bag_here" ⟨312,50,312,63⟩),(Expr.Constant (Const.int 8) 0 ⟨312,65,312,66⟩)]) (keywords:=[]) (pos:=⟨312,40,312,67⟩))) (pos:=⟨312,15,312,68⟩))) (pos:=⟨312,4,312,68⟩)),(Stmt.Assign (targets:=[(Expr.Name "_law_outs" ⟨313,4,313,13⟩)]) (value:=(Expr.Subscript (value:=(Expr.List (elts:=[x9,x10,x11,x12,x13,x14,x15,x16]) (pos:=⟨313,16,313,40⟩))) (slice:=(Expr.Call (func:=(Expr.Name "_law_take" ⟨313,41,313,50⟩)) (args:=[ (Expr.Name "_law_bag_here" ⟨313,51,313,64⟩),(Expr.Constant (Const.int 8) 0 ⟨313,66,313,67⟩)]) (keywords:=[]) (pos:=⟨313,41,313,68⟩))) (pos:=⟨313,16,313,69⟩))) (pos:=⟨313,4,313,69⟩)),(Stmt.If (test:=(Expr.Compare (left:=(Expr.Name "_law_n" ⟨314,7,314,13⟩)) (ops:=[PySem.CmpOp.Eq]) (comparators:=[(Expr.Constant (Const.int 5) 0 ⟨314,17,314,18⟩)]) (pos:=⟨314,7,314,18⟩))) (body:=[ (Stmt.Assign (targets:=[ (Expr.Tuple (elts:=[(Expr.Name "_law_ins" ⟨315,8,315,16⟩),(Expr.Name "_law_outs" ⟨315,18,315,27⟩)]) (k:=0) (pos:=⟨315,8,315,27⟩))]) (value:=(Expr.Tuple (elts:=[ (Expr.Call (func:=(Expr.Name "min" ⟨315,31,315,34⟩)) (args:=[ (Expr.Name "_law_ins" ⟨315,35,315,43⟩),(Expr.Constant (Const.int 2) 0 ⟨315,45,315,46⟩)]) (keywords:=[]) (pos:=⟨315,31,315,47⟩)),(Expr.Call (func:=(Expr.Name "min" ⟨315,49,315,52⟩)) (args:=[ (Expr.Name "_law_outs" ⟨315,53,315,62⟩),(Expr.Constant (Const.int 2) 0 ⟨315,64,315,65⟩)]) (keywords:=[]) (pos:=⟨315,49,315,66⟩))]) (k:=0) (pos:=⟨315,30,315,67⟩))) (pos:=⟨315,8,315,67⟩))]) (orelse:=[]) (pos:=⟨314,4,315,67⟩)),(Stmt.Assign (targets:=[(Expr.Name "_law_wide" ⟨316,4,316,13⟩)]) (value:=(Expr.Subscript (value:=(Expr.List (elts:=[ (Expr.Constant (Const.int 4) 0 ⟨316,17,316,18⟩),(Expr.Constant (Const.int 4) 0 ⟨316,20,316,21⟩),(Expr.Constant (Const.int 9) 0 ⟨316,23,316,24⟩),(Expr.Constant (Const.int 1000000) 0 ⟨316,26,316,33⟩)]) (pos:=⟨316,16,316,34⟩))) (slice:=(Expr.Call (func:=(Expr.Name "_law_take" ⟨316,35,316,44⟩)) (args:=[ (Expr.Name "_law_bag_here" ⟨316,45,316,58⟩),(Expr.Constant (Const.int 4) 0 ⟨316,60,316,61⟩)]) (keywords:=[]) (pos:=⟨316,35,316,62⟩))) (pos:=⟨316,16,316,63⟩))) (pos:=⟨316,4,316,63⟩)),(Stmt.If (test:=(Expr.Compare (left:=(Expr.Name "_law_wide" ⟨317,7,317,16⟩)) (ops:=[PySem.CmpOp.Gt]) (comparators:=[(Expr.Constant (Const.int 9) 0 ⟨317,19,317,20⟩)]) (pos:=⟨317,7,317,20⟩))) (body:=[ (Stmt.Assign (targets:=[(Expr.Name "_law_n" ⟨318,8,318,14⟩)]) (value:=(Expr.Call (func:=(Expr.Name "min" ⟨318,17,318,20⟩)) (args:=[ (Expr.Name "_law_n" ⟨318,21,318,27⟩),(Expr.Constant (Const.int 2) 0 ⟨318,29,318,30⟩)]) (keywords:=[]) (pos:=⟨318,17,318,31⟩))) (pos:=⟨318,8,318,31⟩))]) (orelse:=[]) (pos:=⟨317,4,318,31⟩)),(Stmt.Return (value:=(some (Expr.Tuple (elts:=[ (Expr.Name "_law_n" ⟨319,12,319,18⟩),(Expr.Name "_law_ins" ⟨319,20,319,28⟩),(Expr.Name "_law_outs" ⟨319,30,319,39⟩),(Expr.Name "_law_wide" ⟨319,41,319,50⟩)]) (k:=0) (pos:=⟨319,11,319,51⟩)))) (pos:=⟨319,4,319,51⟩))]:=⟨_,_,_,_,_,_,_,_,_,_,_,_,_,_,_,_,rfl,rfl,rfl,rfl,rfl,rfl,rfl,rfl,rfl,rfl,rfl,rfl,rfl,rfl,rfl,rfl,by with_unfolding_all rfl⟩
theorem eJ:bu ["_law_bag_here","_law_n","_law_ins","_law_outs","_law_wide"] ["_law_bag_here"] (ay gC):=by walk_at "d"
theorem Cb (T:Txt K mg Z):cU P w K mg base gE 2 Z.og Z.nM ["_law_bag_here"] IU:=by
 refine T.tW.ok eJ (fun vs H Q E h=>?_) (fun cdv A outer s H vs Q E hr h=>?_)
 ·obtain ⟨b,rfl,hB,k⟩:=h;rfl
 ·obtain ⟨b,rfl,hB,k⟩:=h;obtain ⟨x1,x2,x3,x4,x5,x6,x7,x8,x9,x10,x11,x12,x13,x14,x15,x16,hx1,hx2,hx3,hx4,hx5,hx6,hx7,hx8,hx9,hx10,hx11,hx12,hx13,hx14,hx15,hx16,hbd⟩:=Cg;rw[hbd]
  refine ⟨_,(ar (bc (i:=1) eJ.nd rfl (Or.inl rfl) (cX (bo T) hr T.aT T.be.kp T.br (ae (pv 0) (ae ao ag))))
   (gV (dm (bE eK (cX (bo T) hr T.aT T.be.kp T.br (ae (pv 0) (ae ao ag))) ao (bK _)) (aA (bc (i:=1) eJ.nd rfl (Or.inl rfl) ao)) b7)
   (ar (bc (i:=2) eJ.nd rfl (Or.inl rfl) (aV bW (dr (eo hx1 ao (eo hx2 ao (eo hx3 ao (eo hx4 ao (eo hx5 ao (eo hx6 ao (eo hx7 ao (eo hx8 ao ag))))))))) (cX (bo T) hr T.aT T.be.kp T.br (ae (pv 0) (ae ao ag)))))
   (ar (bc (i:=3) eJ.nd rfl (Or.inl rfl) (aV bW (dr (eo hx9 ao (eo hx10 ao (eo hx11 ao (eo hx12 ao (eo hx13 ao (eo hx14 ao (eo hx15 ao (eo hx16 ao ag))))))))) (cX (bo T) hr T.aT T.be.kp T.br (ae (pv 0) (ae ao ag)))))
   (gV (dm (bE eK (pv 1) ao (bK _)) (aA (KW (i:=2) (j:=3) rfl eJ.nd rfl rfl (by decide) rfl rfl (ae (bP (vX rfl) (by rfl) T.min PyProof.Rows.boot_min (ae (pv 2) (ae ao ag))) (ae (bP (vX rfl) (by rfl) T.min PyProof.Rows.boot_min (ae (pv 3) (ae ao ag))) ag)) rfl)) b7)
   (ar (bc (i:=4) eJ.nd rfl (Or.inl rfl) (aV bW (dr (ae ao (ae ao (ae ao (ae ao ag))))) (cX (bo T) hr T.aT T.be.kp T.br (ae (pv 0) (ae ao ag)))))
   (gV (dm (bE wG (pv 4) ao (bK _)) (aA (bc (i:=1) eJ.nd rfl (Or.inl rfl) (bP (vX rfl) (by rfl) T.min PyProof.Rows.boot_min (ae (pv 1) (ae ao ag))))) b7)
   (aA (aW (cW (ae (pv 1) (ae (pv 2) (ae (pv 3) (ae (pv 4) ag)))))))))))))),?_⟩
  refine aR (σ:=[some (.ref b),none,none,none,none]) rfl ?_;walk_at "w";refine ⟨b,5,rfl,hB,by decide,by decide,fun n H1 n0 n1 B1 u1=>?_⟩;obtain ⟨n,rfl⟩:=cw n0;walk_at "w";refine ⟨fun σ' H'=>(∃n:Nat,σ'=[some (.ref b),some (.int n),none,none,none]/\n<=5)/\iC H' b/\dg b H H',?_,?_⟩
  ·walk_at "w";refine ⟨b,8,rfl,B1,by decide,by decide,fun v H2 v0 v1 B2 u2=>?_⟩;walk_at "w";refine gZ (fun _=>?_) (fun _=>?_)
   ·walk_at "w";exact ⟨⟨5,rfl,by decide⟩,B2,u1.trans u2⟩
   ·walk_at "w";exact ⟨⟨n,rfl,by lia⟩,B2,u1.trans u2⟩
  clear n0 n1 u1 B1;rintro σ' H1 ⟨⟨n,rfl,n5⟩,B1,u1⟩;walk_at "w";refine cR fun l0 H2 s2 n2 g2=>?_
  walk_at "w";refine ⟨b,8,rfl,B1.same s2,by decide,by decide,fun v H3 v0 v1 B3 u3=>?_⟩;have g3:=u3.other (fun z=>B1.at (by rw[<- z];exact n2)) g2;obtain ⟨x,ex,mx,_⟩:=mU (xs:=[V.int 0,V.int 1,V.int 1,V.int 1,V.int 2,V.int 2,V.int 3,V.int 4]) v0 (by simpa using v1)
  obtain ⟨i,rfl,hi⟩:∃z:Nat,x=.int z/\z<=4:=by
   simp only[aF,aY,or_false] at mx;rcases mx with rfl | rfl | rfl | rfl | rfl | rfl | rfl | rfl
   ·exact ⟨0,rfl,by decide⟩
   ·exact ⟨1,rfl,by decide⟩
   ·exact ⟨1,rfl,by decide⟩
   ·exact ⟨1,rfl,by decide⟩
   ·exact ⟨2,rfl,by decide⟩
   ·exact ⟨2,rfl,by decide⟩
   ·exact ⟨3,rfl,by decide⟩
   ·exact ⟨4,rfl,by decide⟩
  walk_at "w";refine cD (bU.of g3) ex ?_;clear ex mx g3 g2;walk_at "w";refine cR fun l1 H4 s4 n4 g4=>?_
  walk_at "w";refine ⟨b,8,rfl,B3.same s4,by decide,by decide,fun t H5 t0 t1 B5 u5=>?_⟩;have g5:=u5.other (fun z=>B3.at (by rw[<- z];exact n4)) g4;obtain ⟨x,ex,mx,_⟩:=mU (xs:=[V.int 0,V.int 1,V.int 1,V.int 1,V.int 2,V.int 2,V.int 3,V.int 4]) t0 (by simpa using t1)
  obtain ⟨o,rfl,ho⟩:∃z:Nat,x=.int z/\z<=4:=by
   simp only[aF,aY,or_false] at mx;rcases mx with rfl | rfl | rfl | rfl | rfl | rfl | rfl | rfl
   ·exact ⟨0,rfl,by decide⟩
   ·exact ⟨1,rfl,by decide⟩
   ·exact ⟨1,rfl,by decide⟩
   ·exact ⟨1,rfl,by decide⟩
   ·exact ⟨2,rfl,by decide⟩
   ·exact ⟨2,rfl,by decide⟩
   ·exact ⟨3,rfl,by decide⟩
   ·exact ⟨4,rfl,by decide⟩
  walk_at "w";refine cD (bU.of g5) ex ?_;clear ex mx g5 g4;have u15:=(((u1.same s2).trans u3).same s4).trans u5;walk_at "w";refine ⟨fun σ' H'=>(∃i o:Nat,σ'=[some (.ref b),some (.int n),some (.int i),some (.int o),none]/\i<=4/\o<=4/\(n=5->i<=2/\o<=2))/\iC H' b/\dg b H H',?_,?_⟩
  ·walk_at "w";refine gZ (fun h0=>?_) (fun h0=>?_)
   ·walk_at "w";refine ⟨⟨min i 2,min o 2,?_,by lia,by lia,fun _=>⟨by lia,by lia⟩⟩,B5,u15⟩;have e1:(if (2:Int) < (i:Int) then (2:Int) else (i:Int))=((min i 2:Nat):Int):=by split <;> lia
    have e2:(if (2:Int) < (o:Int) then (2:Int) else (o:Int))=((min o 2:Nat):Int):=by split <;> lia
    rw[<- e1,<- e2];rfl
   ·walk_at "w";exact ⟨⟨i,o,rfl,hi,ho,fun z=>absurd (decide_eq_true (show (n:Int)=5 by lia)) h0⟩,B5,u15⟩
  clear hi ho u15 B5 u5 u3 u1;rintro σ' H5 ⟨⟨i,o,rfl,hi,ho,h5⟩,B5,u5⟩;walk_at "w";refine cR fun l2 H6 s6 n6 g6=>?_
  walk_at "w";refine ⟨b,4,rfl,B5.same s6,by decide,by decide,fun v H7 v0 v1 B7 u7=>?_⟩;have g7:=u7.other (fun z=>B5.at (by rw[<- z];exact n6)) g6;obtain ⟨x,ex,mx,_⟩:=mU (xs:=[V.int 4,V.int 4,V.int 9,V.int 1000000]) v0 (by simpa using v1)
  obtain ⟨w,rfl,hw⟩:∃w:Nat,x=.int w/\(w=4\/w=9\/w=1000000):=by
   simp only[aF,aY,or_false] at mx;rcases mx with rfl | rfl | rfl | rfl
   ·exact ⟨4,rfl,.inl rfl⟩
   ·exact ⟨4,rfl,.inl rfl⟩
   ·exact ⟨9,rfl,.inr (.inl rfl)⟩
   ·exact ⟨1000000,rfl,.inr (.inr rfl)⟩
  walk_at "w";refine cD (bU.of g7) ex ?_;have u07:=(u5.same s6).trans u7;walk_at "w";refine ⟨fun σ' H'=>(∃n:Nat,σ'=[some (.ref b),some (.int n),some (.int i),some (.int o),some (.int w)]/\n<=5/\(w=4\/w=9\/(w=1000000/\n<=2))/\(n=5->i<=2/\o<=2))/\iC H' b/\dg b H H',?_,?_⟩
  ·walk_at "w";refine gZ (fun h0=>?_) (fun h0=>?_)
   ·walk_at "w";refine ⟨⟨min n 2,?_,by lia,by lia,fun z=>by lia⟩,B7,u07⟩;have e1:(if (2:Int) < (n:Int) then (2:Int) else (n:Int))=((min n 2:Nat):Int):=by split <;> lia
    rw[<- e1];rfl
   ·walk_at "w";refine ⟨⟨n,rfl,n5,?_,h5⟩,B7,u07⟩;rcases hw with z | z | z
    ·exact .inl z
    ·exact .inr (.inl z)
    ·exact absurd (decide_eq_true (show (9:Int) < (w:Int) by lia)) h0
  ·clear h5 n5;rintro σ' H8 ⟨⟨n',rfl,n5,hwn,h5⟩,B8,u8⟩;walk_at "w";refine cg fun r H9 s9 g9=>?_
   exact k r n' i o w H9 g9 n5 hi ho hwn h5 (B8.same s9) (u8.same s9)
theorem iE:bu ["_law_bag_here","_law_n","_law_move_here","_law_at","_law_put","_law_first","_law_look"] ["_law_bag_here","_law_n"] (ay jV):=by walk_at "d"
theorem sN (T:Txt K mg Z):cU P w K mg base gE 2 Z.qM Z.p5 ["_law_bag_here","_law_n"] (Ks K):=by
 refine T.mY.ok iE (fun vs H Q E h=>?_) (fun cdv A outer s H vs Q E hr h=>?_)
 ·obtain ⟨b,n,rfl,hB,n1,n8,k⟩:=h;rfl
 ·obtain ⟨b,n,rfl,hB,n1,n8,k⟩:=h
  refine ⟨_,(ar (jt 2 ["_law_i"] ["_law_n"] [1] iE.nd rfl rfl (cy rfl T.range (ae (pv 1) ag)) (fun _=>(aO (i:=0) (show List.Nodup (α:=PySem.Str) ["_law_i","_law_n"] by decide +kernel) rfl (Or.inr rfl) (Or.inl rfl))) (fun _=>cC) (fun _=>(cF ["_law_j"] ["_law_i"] [0] (cy rfl T.range (ae (pv 1) ag)) (fun _=>(aO (i:=0) (show List.Nodup (α:=PySem.Str) ["_law_j","_law_i"] by decide +kernel))) (fun _=>cC) (fun _=>(cW (ae (dO lG (by rfl) T.int PyProof.Rows.boot_int (ae (h7 eK (pv 0) (bI eY (pv 1) ao) (bK _)) ag)) (ae ao ag)))))))
   (ar (fz (cF ["_law_j"] ["_law_bag_here"] [0] (cy rfl T.range (ae (pv 1) ag)) (fun _=>(aO (i:=0) (show List.Nodup (α:=PySem.Str) ["_law_j","_law_bag_here"] by decide +kernel))) (fun _=>cC) (fun _=>(cW (ae (bI jh (cX (bo T) hr T.aT T.be.kp T.br (ae (pv 1) (ae ao ag))) ao) (ae ao ag))))) (ip (pv 2) (bI jh (pv 1) ao) set_list))
   (ar (bc (i:=3) iE.nd rfl (Or.inr rfl) (aV bW (dr (ae (bI jh (pv 1) ao) (ae (cX (bo T) hr T.aT T.be.kp T.br (ae (pv 0) (ae (pv 1) ag))) ag))) (cX (bo T) hr T.aT T.be.kp T.br (ae (pv 0) (ae ao ag)))))
   (ar (bc (i:=4) iE.nd rfl (Or.inl rfl) (dr (ae (cF ["_law_j"] ["_law_at"] [3] (cy rfl T.range (ae (pv 1) ag)) (fun _=>(aO (i:=0) (show List.Nodup (α:=PySem.Str) ["_law_j","_law_at"] by decide +kernel))) (fun _=>cC) (fun _=>(cW (ae (dO lG (by rfl) T.int PyProof.Rows.boot_int (ae (h7 eK (pv 0) (pv 1) (bK _)) ag)) (ae ao ag))))) ag)))
   (ar (bc (i:=5) iE.nd rfl (Or.inr rfl) (aV bW (dr (ae ao (ae ao (ae (cX (bo T) hr T.aT T.be.kp T.br (ae (pv 0) (ae (pv 1) ag))) ag)))) (cX (bo T) hr T.aT T.be.kp T.br (ae (pv 0) (ae ao ag)))))
   (ar (bc (i:=6) iE.nd rfl (Or.inl rfl) (dr (ae (cF ["_law_j"] ["_law_first"] [5] (cy rfl T.range (ae (pv 1) ag)) (fun _=>(aO (i:=0) (show List.Nodup (α:=PySem.Str) ["_law_j","_law_first"] by decide +kernel))) (fun _=>cC) (fun _=>(cW (ae (dO lG (by rfl) T.int PyProof.Rows.boot_int (ae (h7 eK (pv 0) (pv 1) (bK _)) ag)) (ae ao ag))))) ag)))
   (aA (aW (cW (ae (pv 2) (ae (pv 4) (ae (pv 6) ag)))))))))))),?_⟩
  refine aR (σ:=[some (.ref b),some (.int n),none,none,none,none,none]) rfl ?_
  have bit:∀{z:Int},∀y∈(List.range n).map (fun (j:Nat)=>(((if decide ((j:Int)=z)=true then 1 else 0:Int)):Rat)),Fr 1 1 y:=fun y hy=>by
   obtain ⟨j,_,rfl⟩:=aB.mp hy;exact QY (by split <;> simp)
  walk_at "w";refine ⟨by lia,by lia,?_⟩;refine eT (n:=n) (dn K H) (fun (i:Nat)=>(List.range n).map fun (j:Nat)=>(((if decide ((j:Int)=(i:Int)+1)=true then 1 else 0:Int)):Rat)) (by lia) (fun a b=>a.same b) ?_ ?_
  ·rintro i Hb NY NN hi sa k1;walk_at "w";refine ⟨by lia,by lia,?_⟩;refine eT (n:=n) (cx K) (fun (j:Nat)=>(((if decide ((j:Int)=(i:Int)+1)=true then 1 else 0:Int)):Rat)) (by lia) (fun a b=>a.same b) ?_ ?_
   ·rintro j Hz NY2 NN2 hj sz k2;walk_at "w";refine cg fun t Hy sy gy=>?_
    exact k2 _ _ sy (cx.mk gy rfl)
   ·rintro ys Hz t ht sz g pr nx;exact k1 _ _ sz ⟨t,rfl,sa.none ht,ys,g,pr⟩
  rintro ys H1 mm hm s1 g1 pr1 nx1;have G1:bL K H H1 mm ((List.range n).map fun (i:Nat)=>(List.range n).map fun (j:Nat)=>(((if decide ((j:Int)=(i:Int)+1)=true then 1 else 0:Int)):Rat)):=⟨ys,g1,pr1,kj nx1⟩;clear g1 pr1 nx1;have B1:=hB.same s1;have mb:mm≠b:=fun z=>hB.at (by rw[<- z];exact hm)
  obtain ⟨q0,I0,xq,gq0⟩:=hB.inner;have mq:mm≠q0:=fun z=>by rw[<- z,hm] at gq0;cases gq0
  walk_at "w";refine ⟨by lia,by lia,?_⟩;refine CS (n:=n) (b:=b) (cx K) (Fr 1 1) B1 (by lia) (fun a u B=>a.upto u B) ?_ ?_
  ·rintro j Ha NY NN hj ua Ba k1;walk_at "w";refine ⟨b,3,rfl,Ba,by decide,by decide,fun v Hb v0 v1 Bb ub=>?_⟩;walk_at "w";refine cg fun t Hc sc gc=>?_
   exact k1 _ ((v - 1:Int):Rat) _ (ub.same sc) (Bb.same sc) (Fr.int (by lia)) (cx.mk gc rfl)
  rintro ys2 cs H2 q2 hq2 u2 B2 g2 lc hc pr2 _;have u02:=(s1.upto (p:=b)).trans u2;have nq2:H q2=none:=s1.none hq2;obtain ⟨us,gu,pu⟩:=(G1.upto u2 B1 mb hB.at).toE;have lu:=pu.length;rw[aj,b8] at lu
  have q2m:q2≠mm:=fun z=>by
   obtain ⟨_,gg,_⟩:=id G1;rw[z,gg] at hq2;cases hq2
  walk_at "w";rw[show ((n:Int) - 1)=((n - 1:Nat):Int) by lia];refine fk gu (fI (by lia)) rfl ?_;have G3:bL K H (upd H2 mm (.lst (us.set (n - 1) (.ref q2)))) mm (((List.range n).map fun (i:Nat)=>(List.range n).map fun (j:Nat)=>(((if decide ((j:Int)=(i:Int)+1)=true then 1 else 0:Int)):Rat)).set (n - 1) cs):=bL.ofE aK (lB (Paired.imp' (fun _ _ z=>rz.updL z gu (fun q h=>h.2)) pu) (n - 1) ⟨q2,rfl,⟨nq2,q2m⟩,cQ.updL ⟨ys2,g2,pr2⟩ gu q2m⟩) (fun q h=>h.1) (fun q h=>h.2);have B3:iC (upd H2 mm (.lst (us.set (n - 1) (.ref q2)))) b:=B2.upd (u02.2 _ I0) mb mq;have u03:dg b H (upd H2 mm (.lst (us.set (n - 1) (.ref q2)))):=u02.after hm;obtain ⟨mv,emv⟩:∃mv,mv=((List.range n).map fun (i:Nat)=>(List.range n).map fun (j:Nat)=>(((if decide ((j:Int)=(i:Int)+1)=true then 1 else 0:Int)):Rat)).set (n - 1) cs:=⟨_,rfl⟩;have lmv:mv.length=n:=by rw[emv,eE,aj,b8]
  have hmv:∀xs∈mv,xs.length=n/\∀y∈xs,Fr 1 1 y:=fun xs hx=>by
   rw[emv] at hx;rcases cJ hx with hx | rfl
   ·obtain ⟨i,_,rfl⟩:=aB.mp hx;exact ⟨by rw[aj,b8],bit⟩
   ·exact ⟨lc,hc⟩
  rw[<- emv] at G3;generalize upd H2 mm (.lst (us.set (n - 1) (.ref q2)))=H3 at G3 B3 u03 ⊢;clear emv pu gu G1 u2 pr2 g2 B2;walk_at "w";refine ⟨b,n,rfl,B3,by lia,by lia,fun a1 H4 a10 a11 B4 u4=>?_⟩;walk_at "w";refine cR fun l1 H5 s5 nl1 g5=>?_
  walk_at "w";refine ⟨b,2,rfl,B4.same s5,by decide,by decide,fun v H6 v0 v1 B6 u6=>?_⟩;have g6:=u6.other (fun z=>B4.at (by rw[<- z];exact nl1)) g5;obtain ⟨x,ex,mx,_⟩:=mU (xs:=[V.int ((n:Int) - 1),V.int a1]) v0 (by simpa using v1)
  obtain ⟨at',rfl⟩:∃a:Int,x=.int a:=by
   simp only[aF,aY,or_false] at mx;rcases mx with rfl | rfl
   ·exact ⟨_,rfl⟩
   ·exact ⟨_,rfl⟩
  walk_at "w";refine cD (bU.of g6) ex ?_;have u36:=(u4.same s5).trans u6;have G6:=G3.upto u36 B3 mb hB.at;have u06:=u03.trans u36;clear ex mx g6 g5 G3 u4 u6;walk_at "w";refine ⟨by lia,by lia,?_⟩;refine eT (n:=n) (cx K) (fun (j:Nat)=>(((if decide ((j:Int)=at')=true then 1 else 0:Int)):Rat)) (by lia) (fun a b=>a.same b) ?_ ?_
  ·rintro j Hz NY2 NN2 hj sz k2;walk_at "w";refine cg fun t Hy sy gy=>?_
   exact k2 _ _ sy (cx.mk gy rfl)
  rintro ys7 H7 q7 hq7 s7 g7 pr7 _;have R7:cQ K H7 q7 _:=⟨ys7,g7,pr7⟩;walk_at "w";refine cR fun p8 H8 s8 n8' g8=>?_
  have s68:=s7.trans s8;have q78:q7≠p8:=fun z=>by rw[z,n8'] at g7;cases g7
  have np8:H p8=none:=u06.none B6 (s7.none n8');have nq7:H q7=none:=u06.none B6 hq7
  have GP:bL K H H8 p8 [(List.range n).map fun (j:Nat)=>(((if decide ((j:Int)=at')=true then 1 else 0:Int)):Rat)]:=⟨_,g8,.cons ⟨q7,rfl,nq7,R7.same s8⟩ .nil,fun z=>by
   rw[bF] at z;cases z;exact q78 rfl⟩
  have B8:=B6.same s68;have u08:=u06.same s68;have G8:=G6.same s68;have pb:p8≠b:=fun z=>hB.at (by rw[<- z];exact np8)
  walk_at "w";refine ⟨b,n,rfl,B8,by lia,by lia,fun a2 H9 a20 a21 B9 u9=>?_⟩;walk_at "w";refine cR fun l2 Ha sa nl2 ga=>?_
  walk_at "w";refine ⟨b,3,rfl,B9.same sa,by decide,by decide,fun v' Hb v0' v1' Bb ub=>?_⟩;have gb:=ub.other (fun z=>B9.at (by rw[<- z];exact nl2)) ga;obtain ⟨x,ex,mx,_⟩:=mU (xs:=[V.int 0,V.int 0,V.int a2]) v0' (by simpa using v1')
  obtain ⟨fi,rfl⟩:∃a:Int,x=.int a:=by
   simp only[aF,aY,or_false] at mx;rcases mx with rfl | rfl | rfl
   ·exact ⟨_,rfl⟩
   ·exact ⟨_,rfl⟩
   ·exact ⟨_,rfl⟩
  walk_at "w";refine cD (bU.of gb) ex ?_;have u8b:=(u9.same sa).trans ub;have Gb:=G8.upto u8b B8 mb hB.at;have GPb:=GP.upto u8b B8 pb hB.at;have u0b:=u08.trans u8b;clear ex mx gb ga G8 GP u9 ub;walk_at "w";refine ⟨by lia,by lia,?_⟩;refine eT (n:=n) (cx K) (fun (j:Nat)=>(((if decide ((j:Int)=fi)=true then 1 else 0:Int)):Rat)) (by lia) (fun a b=>a.same b) ?_ ?_
  ·rintro j Hz NY2 NN2 hj sz k2;walk_at "w";refine cg fun t Hy sy gy=>?_
   exact k2 _ _ sy (cx.mk gy rfl)
  rintro ysc Hc qc hqc sc gc prc _;have Rc:cQ K Hc qc _:=⟨ysc,gc,prc⟩;walk_at "w";refine cR fun pd Hd sd nd gd=>?_
  have sbd:=sc.trans sd;have qcd:qc≠pd:=fun z=>by rw[z,nd] at gc;cases gc
  have npd:H pd=none:=u0b.none Bb (sc.none nd);have nqc:H qc=none:=u0b.none Bb hqc
  have GL:bL K H Hd pd [(List.range n).map fun (j:Nat)=>(((if decide ((j:Int)=fi)=true then 1 else 0:Int)):Rat)]:=⟨_,gd,.cons ⟨qc,rfl,nqc,Rc.same sd⟩ .nil,fun z=>by
   rw[bF] at z;cases z;exact qcd rfl⟩
  walk_at "w";refine cg fun r He se ge=>?_
  have sbe:=sbd.trans se;refine k r mv _ _ He ⟨mm,p8,pd,ge,hm,np8,npd,Gb.same sbe,GPb.same sbe,GL.same se⟩ lmv rfl rfl ⟨by lia,by simp,by simp,fun xs hx=>by rw[(hmv xs hx).1,lmv],fun xs hx=>?_,fun xs hx=>?_⟩ (fun xs hx=>(hmv xs hx).2) (fun xs hx=>?_) (fun xs hx=>?_) (Bb.same sbe) (u0b.same sbe)
  ·rw[bF.mp hx,aj,b8,lmv]
  ·rw[bF.mp hx,aj,b8,lmv]
  ·rw[bF.mp hx];exact bit
  ·rw[bF.mp hx];exact bit
theorem pz:bu ["_law_top","_law_bottom","_law_one","_law_other"] ["_law_top","_law_bottom"] (ay kX):=by walk_at "d"
theorem fW (T:Txt K mg Z):cU P w K mg base gE 1 Z.tK Z.sY ["_law_top","_law_bottom"] OV:=by
 refine T.fF.ok pz (fun vs H Q E h=>?_) (fun cdv A outer s H vs Q E hr h=>?_)
 ·obtain ⟨t,b,rfl,hb,hs,k⟩:=h;rfl
 ·obtain ⟨t,b,rfl,hb,hs,k⟩:=h
  refine ⟨_,(ar (bc (i:=2) pz.nd rfl (Or.inl rfl) (bP yw (by rfl) T.abs PyProof.Rows.boot_abs (ae (pv 0) ag)))
   (ar (bc (i:=3) pz.nd rfl (Or.inl rfl) (pv 1))
   (ar (AW PassesOwn.never (bE xR (pv 2) ao (bK _))
    (aA (KW (i:=2) (j:=3) rfl pz.nd rfl rfl (by decide) rfl rfl (ae (bI qX (pv 3) (pv 2)) (ae (pv 2) ag)) rfl)))
   (aA (aW (cW (ae (bI jl (pv 0) (pv 3)) (ae (bI jl (pv 1) (pv 3)) ag)))))))),?_⟩
  refine aR (σ:=[some (.int t),some (.int b),none,none]) rfl ?_;walk_at "w"
  refine De (fun σ' H'=>∃(u v:Int),σ'=[some (.int t),some (.int b),some (.int u),some (.int v)]/\H'=H/\0<=u/\0 < v/\Int.gcd u v=Int.gcd t b) (fun σ' _=>match σ' with | [_,_,some (.int u),_]=>u.natAbs | _=>0) ⟨_,b,rfl,rfl,by split <;> lia,hb,by
   split
   ·rw[Int.neg_gcd]
   ·rfl⟩ ?_
  rintro σ' H' ⟨u,v,rfl,rfl,hu,hv,hg⟩;walk_at "w";refine gZ (fun h=>?_) (fun h=>?_)
  ·have hu0:u≠0:=fun z=>by subst z;simp at h
   walk_at "w";refine fw (show (0:Int) < u by lia) ?_;walk_at "w";have h1:=oz v hu0;have h2:=jy v (show 0 < u by lia);exact ⟨⟨v % u,u,rfl,rfl,h1,by lia,by rw[mR,LF,mR];exact hg⟩,by show (v % u).natAbs < u.natAbs;lia⟩
  ·have hu0:u=0:=by
    by_cases z:u=0
    ·exact z
    ·exfalso;apply h;simp [z]
   subst hu0
   have e:v=g t b:=by
    unfold g;rw[<- hg,Int.gcd_zero_left]
    lia
   have hgs:Sz 8999 v:=hs.le (by
    rw[e];have h1:(g t b).natAbs=Int.gcd t b:=by unfold g;simp
    rw[h1];exact fU (by lia) (by have:=fu (a:=t) (b:=b);exact eN.mpr this |> fun z=>by simpa using z))
   walk_at "w";refine fw (show rY _ _ from ⟨by lia,hgs⟩) ?_;walk_at "w";refine fw (show rY _ _ from ⟨by lia,hgs⟩) ?_;walk_at "w";refine cg fun r H' s' h'=>?_
   rw[cB _ (by lia),cB _ (by lia),e] at h';exact k r H' s' h'
theorem EJ:bu ["_law_one","_law_other"] ["_law_one","_law_other"] (ay kU):=by walk_at "d"
theorem pG (T:Txt K mg Z):cU P w K mg base gE 2 Z.tI Z.sW ["_law_one","_law_other"] (uD K (fun x y=>x+y)):=by
 refine T.lK.ok EJ (fun vs H Q E h=>?_) (fun cdv A outer s H vs Q E hr h=>?_)
 ·obtain ⟨p,q,a,b,c,d,rfl,hp,hq,hb,hd,sa,sb,sc,sd,k⟩:=Iz h;rfl
 ·obtain ⟨p,q,a,b,c,d,rfl,hp,hq,hb,hd,sa,sb,sc,sd,k⟩:=Iz h;refine ⟨_,(aA (aW (cX (fW T) hr T.fo T.fF.kp T.gD (ae (bI eY (bI dc (aV bS (pv 0) ao) (aV bS (pv 1) ao)) (bI dc (aV bS (pv 1) ao) (aV bS (pv 0) ao))) (ae (bI dc (aV bS (pv 0) ao) (aV bS (pv 1) ao)) ag))))),?_⟩;refine aR (σ:=[some (.ref p),some (.ref q)]) rfl ?_;have hbd:0 < b*d:=js hb hd;have sbd:Sz 8999 (b*d):=(sb.mul sd).mono (by decide);walk_at "w";refine fw (show fX _ _ from .inr ⟨_,_,sa,sd,by decide⟩) ?_;walk_at "w";refine fw (show fX _ _ from .inr ⟨_,_,sc,sb,by decide⟩) ?_;walk_at "w";refine fw (show fX _ _ from .inr ⟨_,_,sb,sd,by decide⟩) ?_;walk_at "w";walk_at "w";refine ⟨_,_,rfl,hbd,sbd,k⟩
theorem Dv:bu ["_law_one","_law_other"] ["_law_one","_law_other"] (ay jQ):=by walk_at "d"
theorem xU (T:Txt K mg Z):cU P w K mg base gE 3 Z.qH Z.pV ["_law_one","_law_other"] (Ko K):=by
 refine T.qP.ok Dv (fun vs H Q E h=>?_) (fun cdv A outer s H vs Q E hr h=>?_)
 ·obtain ⟨p,q,xs,ys,rfl,hp,hq,hl,hz,h1,h2,kk⟩:=h;rfl
 ·obtain ⟨p,q,xs,ys,rfl,hp,hq,hl,hz,h1,h2,kk⟩:=h;refine ⟨_,(aA (aW (cF ["_law_k"] ["_law_one","_law_other"] [0,1] (cy rfl T.range (ae (bP bC (by rfl) T.len bg (ae (pv 0) ag)) ag)) (fun _=>(aO (i:=0) (show List.Nodup (α:=PySem.Str) ["_law_k","_law_one","_law_other"] by decide +kernel))) (fun _=>cC) (fun _=>(cX (pG T) hr T.mS T.lK.kp T.oZ (ae (aV (iu K (by rfl)) (pv 1) (pv 0)) (ae (aV (iu K (by rfl)) (pv 2) (pv 0)) ag))))))),?_⟩;refine aR (σ:=[some (.ref p),some (.ref q)]) rfl ?_;obtain ⟨us,gu,qu⟩:=id hp;obtain ⟨ws,gw,qw⟩:=id hq;have lu:=qu.length;walk_at "w";refine ⟨_,_,rfl,.inl (bU.of gu),?_⟩;walk_at "w";refine ⟨by lia,by lia,?_⟩;refine eT (n:=us.length) (cx K) (fun i=>xs.getD i 0+ys.getD i 0) (by lia) (fun a b=>a.same b) ?_ ?_
  ·rintro i H' NY NN hi s k1;have ix:i < xs.length:=by lia
   have iy:i < ys.length:=by lia
   obtain ⟨vx,ex,nx⟩:=Fy (Paired.imp' (fun _ _ z=>z.same s) qu) ix;obtain ⟨vy,ey,ny⟩:=Fy (Paired.imp' (fun _ _ z=>z.same s) qw) iy;walk_at "w";refine cD (bU.of (s _ _ gu)) ex ?_;walk_at "w";refine cD (bU.of (s _ _ gw)) ey ?_;walk_at "w";exact ⟨_,_,_,_,rfl,nx,ny,h1 _ (getD_mem ix),h2 _ (getD_mem iy),fun r3 H3 s3 n3=>k1 _ _ s3 n3⟩
  ·rintro ys' H' l hl' s g pr nx;exact kk l H' hl' s ⟨ys',g,by rw[Cj (by lia)];rw[<- lu] at pr;exact pr⟩
theorem Dt:bu ["_law_one","_law_other"] ["_law_one","_law_other"] (ay jP):=by walk_at "d"
theorem ni (T:Txt K mg Z):cU P w K mg base gE 2 Z.qG Z.pU ["_law_one","_law_other"] (uD K (fun x y=>x*y)):=by
 refine T.j5.ok Dt (fun vs H Q E h=>?_) (fun cdv A outer s H vs Q E hr h=>?_)
 ·obtain ⟨p,q,a,b,c,d,rfl,hp,hq,hb,hd,sa,sb,sc,sd,k⟩:=HV h;rfl
 ·obtain ⟨p,q,a,b,c,d,rfl,hp,hq,hb,hd,sa,sb,sc,sd,k⟩:=HV h;refine ⟨_,(aA (aW (cX (fW T) hr T.fo T.fF.kp T.gD (ae (bI dc (aV bS (pv 0) ao) (aV bS (pv 1) ao)) (ae (bI dc (aV bS (pv 0) ao) (aV bS (pv 1) ao)) ag))))),?_⟩;refine aR (σ:=[some (.ref p),some (.ref q)]) rfl ?_;have hbd:0 < b*d:=js hb hd;have sbd:Sz 8999 (b*d):=(sb.mul sd).mono (by decide);walk_at "w";refine fw (show fX _ _ from .inr ⟨_,_,sa,sc,by decide⟩) ?_;walk_at "w";refine fw (show fX _ _ from .inr ⟨_,_,sb,sd,by decide⟩) ?_;walk_at "w";walk_at "w";refine ⟨_,_,rfl,hbd,sbd,k⟩
theorem FW:bu ["_law_by_here","_law_row_here"] ["_law_by_here","_law_row_here"] (ay oI):=by walk_at "d"
theorem oT (T:Txt K mg Z):cU P w K mg base gE 3 Z.we Z.vV ["_law_by_here","_law_row_here"] (OY K):=by
 refine T.lN.ok FW (fun vs H Q E h=>?_) (fun cdv A outer s H vs Q E hr h=>?_)
 ·obtain ⟨u,q,c,ys,rfl,hc,sc,hq,hz,h2,kk⟩:=h;rfl
 ·obtain ⟨u,q,c,ys,rfl,hc,sc,hq,hz,h2,kk⟩:=h;refine ⟨_,(aA (aW (cF ["_law_one"] ["_law_by_here"] [0] (cK (pv 1)) (fun _=>(aO (i:=0) (show List.Nodup (α:=PySem.Str) ["_law_one","_law_by_here"] by decide +kernel))) (fun _=>cC) (fun _=>(cX (ni T) hr T.ks T.j5.kp T.mT (ae (pv 1) (ae (pv 0) ag))))))),?_⟩;refine aR (σ:=[some u,some (.ref q)]) rfl ?_;obtain ⟨us,gu,qu⟩:=id hq;walk_at "w";refine ⟨⟨_,bU.of gu⟩,?_⟩;refine dS (K:=K) (F:=cx K) (cx K) (fun y=>c*y) gu qu hz (fun a b=>a.same b) (fun a b=>a.same b) ?_ ?_
  ·rintro i y x H' NY NN en s hx k;walk_at "w";exact ⟨_,_,_,_,rfl,hc.same s,hx,sc,h2 y (ax en),fun r H2 s2 h2'=>k _ _ s2 h2'⟩
  ·rintro ys' H' r hr s g pr nx;exact kk r H' hr s ⟨ys',g,pr⟩
theorem dY:bu ["_law_bag_here","_law_move_here","_law_put","_law_look","_law_n","_law_turn","_law_i","_law_j","_law_by_here","_law_less_here","_law_row_here"] ["_law_bag_here","_law_move_here","_law_put","_law_look"] (ay iM):=by walk_at "d"
theorem wI (T:Txt K mg Z):cU P w K mg base gE 4 Z.oi Z.nO ["_law_bag_here","_law_move_here","_law_put","_law_look"] (IZ K):=by
 refine T.ow.ok dY (fun vs H Q E h=>?_) (fun cdv A outer s H vs Q E hr h=>?_)
 ·obtain ⟨b,m,p,l,q0,n,WV,μ,A,us,ws,vs,rfl,MA,X,n8,i4,o4,M0,M1,⟨M,eM⟩,V1,hA,k⟩:=h;rfl
 ·obtain ⟨b,m,p,l,q0,n,WV,μ,A,us,ws,vs,rfl,MA,X,n8,i4,o4,M0,M1,⟨M,eM⟩,V1,hA,k⟩:=h
  refine ⟨_,(ar (bc (i:=4) dY.nd rfl (Or.inl rfl) (bP bC (by rfl) T.len bg (ae (pv 1) ag)))
   (ar (dm (PW.pt (pE (bE uL (pv 4) ao (bK _)) (ke (bE eK (cX (bo T) hr T.aT T.be.kp T.br (ae (pv 0) (ae ao ag))) ao (bK _))))) (aA (aW (cW (ae (pv 1) (ae (pv 2) (ae (pv 3) ag)))))) b7)
   (ar (dZ PassesOwn.never rfl (cy rfl T.range (ae (bI eY ao (cX (bo T) hr T.aT T.be.kp T.br (ae (pv 0) (ae ao ag)))) ag)) (aO (i:=5) dY.nd)
    (ar (bc (i:=6) dY.nd rfl (Or.inl rfl) (cX (bo T) hr T.aT T.be.kp T.br (ae (pv 0) (ae (pv 4) ag))))
   (ar (bc (i:=7) dY.nd rfl (Or.inl rfl) (bI qX (bI eY (bI eY (pv 6) ao) (cX (bo T) hr T.aT T.be.kp T.br (ae (pv 0) (ae (bI jh (pv 4) ao) ag)))) (pv 4)))
   (ar (bc (i:=8) dY.nd rfl (Or.inl rfl) (cW (ae (aV bW (dr (ae ao (ae (xO sD ao) (ae ao (ae (xO sD ao) ag))))) (cX (bo T) hr T.aT T.be.kp T.br (ae (pv 0) (ae ao ag)))) (ae ao ag))))
   (ar (bc (i:=9) dY.nd rfl (Or.inl rfl) (cW (ae (bI jh ao (aV bS (pv 8) ao)) (ae ao ag))))
   (ar (fz (cX (xU T) hr T.sQ T.qP.kp T.vd (ae (aV bW (pv 1) (pv 6)) (ae (cX (oT T) hr T.lD T.lN.kp T.oJ (ae (pv 8) (ae (aV bW (pv 1) (pv 7)) ag))) ag))) (ip (pv 1) (pv 6) set_list))
   (ar (dZ PassesOwn.never rfl (cK (bI jF (pv 1) (pv 3))) (aO (i:=10) dY.nd)
    (aA (fz (cX (pG T) hr T.mS T.lK.kp T.oZ (ae (aV bW (pv 10) (pv 7)) (ae (cX (ni T) hr T.ks T.j5.kp T.mT (ae (pv 9) (ae (aV bW (pv 10) (pv 6)) ag))) ag))) (ip (pv 10) (pv 7) set_list))))
   (aA (dZ PassesOwn.never rfl (cK (pv 2)) (aO (i:=10) dY.nd)
    (aA (fz (cX (pG T) hr T.mS T.lK.kp T.oZ (ae (aV bW (pv 10) (pv 6)) (ae (cX (ni T) hr T.ks T.j5.kp T.mT (ae (pv 8) (ae (aV bW (pv 10) (pv 7)) ag))) ag))) (ip (pv 10) (pv 6) set_list))))))))))))
   (aA (aW (cW (ae (pv 1) (ae (pv 2) (ae (pv 3) ag))))))))),?_⟩
  refine aR (σ:=[some (.ref b),some (.ref m),some (.ref p),some (.ref l),none,none,none,none,none,none,none]) rfl ?_;have done:∀r us' H' t,t<=3->H' r=some (.tup [.ref m,.ref p,.ref l])->kH K A H' n (fun x=>Fr (μ x) (9^t*WV)) m p l b q0 us' ws vs->jf A b m H H'->Q (.ref r) H':=fun r us' H' t ht g x kp=>k r us' H' g (x.weak fun _ _ y h=>h.mono (az _ (av (by decide) ht))) kp
  have X0:kH K A H n (fun x=>Fr (μ x) (9^0*WV)) m p l b q0 us ws vs:=X.weak fun _ _ y h=>h.mono (by simp)
  clear X k;have gu:=X0.gm;have lu:=X0.lm;walk_at "w";refine ⟨_,_,rfl,.inl (bU.of gu),?_⟩;rw[lu];clear gu lu;have kp0:jf A b m H H:=fun _ _ h _ _ _=>h
  walk_at "w";refine gZ (fun h0=>?_) (fun h0=>?_)
  ·walk_at "w";refine cg fun r H' s' g'=>?_
   exact done r us H' 0 (by decide) g' (X0.same s') (kp0.same s')
  have n2:2<=n:=by
   rcases cP n 2 with z | z
   ·exact absurd (decide_eq_true (show (n:Int) < 2 by lia)) h0
   ·exact z
  walk_at "w";refine ⟨b,2,rfl,X0.bag,by decide,by decide,fun v H1 v0 v1 B1 u1=>?_⟩;have X1:=X0.upto MA u1 B1;have kp1:=kp0.upto u1;walk_at "w";refine gZ (fun h1=>?_) (fun h1=>?_)
  ·walk_at "w";refine cg fun r H' s' g'=>?_
   exact done r us H' 0 (by decide) g' (X1.same s') (kp1.same s')
  walk_at "w";refine ⟨b,3,rfl,B1,by decide,by decide,fun c H2 c0 c1 B2 u2=>?_⟩;have X2:=X1.upto MA u2 B2;have kp2:=kp1.upto u2;clear X0 X1 kp0 kp1 u1 u2 B1;walk_at "w";refine ⟨by lia,by lia,?_⟩;refine fb (n:=(1+c).toNat) (fun t σ' H'=>∃(x1 x2 x3 x4 x5 x6:Option V) (us:List V),σ'=[some (.ref b),some (.ref m),some (.ref p),some (.ref l),some (.int n),x1,x2,x3,x4,x5,x6]/\kH K A H' n (fun x=>Fr (μ x) (9^t*WV)) m p l b q0 us ws vs/\jf A b m H H') ⟨none,none,none,none,none,none,us,rfl,X2,kp2⟩ ?_ ?_
  ·rintro t σ' H' ht ⟨x1,x2,x3,x4,x5,x6,us,rfl,X,kp⟩;have t3:t<=2:=by lia
   walk_at "w";refine ⟨b,n,rfl,X.bag,by lia,by lia,fun ii Ha i0 i1 Ba ua=>?_⟩;obtain ⟨ii,rfl⟩:=cw i0;have Xa:=X.upto MA ua Ba;have kpa:=kp.upto ua;walk_at "w";refine ⟨b,_,rfl,Ba,by lia,by lia,fun d Hb d0 d1 Bb ub=>?_⟩;have Xb:=Xa.upto MA ub Bb;have kpb:=kpa.upto ub;walk_at "w";refine fw (show (0:Int) < n by lia) ?_;have j0:=oz ((ii:Int)+1+d) (show (n:Int)≠0 by lia);have j1:=jy ((ii:Int)+1+d) (show (0:Int) < n by lia);generalize ((ii:Int)+1+d) % (n:Int)=jj at j0 j1 ⊢;obtain ⟨jj,rfl⟩:=cw j0;walk_at "w";refine cR fun l0 Hc sc nc gc=>?_
   walk_at "w";refine ⟨b,4,rfl,Bb.same sc,by decide,by decide,fun v' Hd v0' v1' Bd ud=>?_⟩;have gd:=ud.other (fun z=>Bb.at (by rw[<- z];exact nc)) gc;obtain ⟨x,ex,mx,_⟩:=mU (xs:=[V.int 1,V.int (-1),V.int 2,V.int (-2)]) v0' (by simpa using v1')
   obtain ⟨z,rfl,hz⟩:∃z:Int,x=.int z/\z.natAbs<=2:=by
    simp only[aF,aY,or_false] at mx;rcases mx with rfl | rfl | rfl | rfl
    ·exact ⟨1,rfl,by decide⟩
    ·exact ⟨-1,rfl,by decide⟩
    ·exact ⟨2,rfl,by decide⟩
    ·exact ⟨-2,rfl,by decide⟩
   have Xd:=(Xb.same sc).upto MA ud Bd;have kpd:=(kpb.same sc).upto ud;walk_at "w";refine cD (bU.of gd) ex ?_;walk_at "w";refine cg fun bt He se ge=>?_
   walk_at "w";refine cg fun lt Hf sf gf=>?_
   have Xf:=(Xd.same se).same sf;have kpf:=(kpd.same se).same sf;have nb:cx K Hf ((z:Int):Rat) (.ref bt):=cx.mk (sf _ _ ge) rfl;have nl:cx K Hf ((0 - z:Int):Rat) (.ref lt):=cx.mk gf rfl;clear X Xa Xb Xd kp kpa kpb kpd ua ub ud sc gc gd ex mx ge gf se sf Ba Bb Bd nc;have gu:=Xf.gm;have lu:=Xf.lm
   have ru:∀x∈us,fH K A Hf n (Fr M (9^t*WV)) x:=fun x hx=>by
    have:=Xf.row x (by simp [hx]);rwa [eM x (Xf.apart.1 x hx).1 (Xf.apart.1 x hx).2] at this
   have hM:0 < M/\M<=2^800:=by
    have hx:us[ii]'(by lia)∈us:=aQ _;have:=eM _ (Xf.apart.1 _ hx).1 (Xf.apart.1 _ hx).2;rw[<- this];exact ⟨M0 _,M1 _⟩
   have e1:us[ii]?=some (us[ii]'(by lia)):=by simp
   have e2:us[jj]?=some (us[jj]'(by lia)):=by simp
   obtain ⟨q1,z1,qs1,w1,a1,g1,k1,p1,l1,c1⟩:=(ru _ (ax e1)).at;obtain ⟨q2,z2,qs2,w2,a2,g2,k2,p2,l2,c2⟩:=(ru _ (ax e2)).at;rw[w1] at e1;rw[w2] at e2;generalize eW:9^t*WV=W at *
   have W9:9*W<=2^140:=by rw[<- eW];exact Nr (by lia) V1 (by decide)
   have sz9M:∀{x:Rat} {U:Nat},U<=9*W->Fr M U x->ot x:=fun hU h=>Ik hM.1 hM.2 (ai hU W9) h
   have sz9:∀{x:Rat} {U:Nat} {v:V},U<=9*W->Fr (μ v) U x->ot x:=fun hU h=>Ik (M0 _) (M1 _) (ai hU W9) h
   walk_at "w";refine cD (bU.of gu) (fJ e1) ?_;walk_at "w";refine cD (bU.of gu) (fJ e2) ?_;walk_at "w";refine ⟨_,q2,_,qs2,rfl,nb,Dg (by lia),⟨z2,g2,p2⟩,by lia,fun y hy=>sz9M (by lia) (c2 y hy),fun r1 Hg n1 sg R1=>?_⟩;walk_at "w";refine ⟨q1,r1,qs1,_,rfl,⟨z1,sg _ _ g1,Paired.imp' (fun _ _ y=>y.same sg) p1⟩,R1,by rw[aj,l1,l2],by lia,fun y hy=>sz9M (by lia) (c1 y hy),fun y hy=>?_,fun r2 Hh n2' sh R2=>?_⟩
   ·obtain ⟨y',hy',rfl⟩:=aB.mp hy;exact AI hz (c2 y' hy') hM.1 hM.2 (by lia)
   have sfh:=sg.trans sh
   have new:V.ref r2∉us++vs++ws:=fun z=>by
    obtain ⟨q',_,_,e',_,g',_⟩:=((Xf.same sg).row _ z).at;cases e';rw[n2'] at g';cases g'
   have Xh:=(Xf.same sfh).weak (C':=fun x y=>(x∈ws->Fr (μ x) W y)/\Fr (μ x) (3*W) y) fun x _ y h=>⟨fun _=>h,h.mono (by lia)⟩
   have kph:=kpf.same sfh;have guh:=sfh _ _ gu;have ar2:A r2:=(kpf.same sg).new hA (Xf.same sg).bag (by rw[sg _ _ gu];simp) n2'
   have rp2:fH K A Hh n (fun y=>(V.ref r2∈ws->Fr (μ (.ref r2)) W y)/\Fr (μ (.ref r2)) (3*W) y) (.ref r2):=by
    rw[eM (.ref r2) (fun z=>new (au.mpr (.inr z))) (fun z=>new (au.mpr (.inl (au.mpr (.inr z)))))];refine ⟨r2,_,rfl,ar2,R2,by rw[cz,aj];lia,fun y hy=>⟨fun z=>absurd (au.mpr (.inr z)) new,?_⟩⟩;obtain ⟨j',hj',e⟩:=bQ hy;rw[uv,zY] at e;rw[<- e];exact DY hz (c1 _ (aQ _)) (c2 _ (aQ _))
   walk_at "w";refine fk guh (fI (by lia)) rfl ?_;have Xi:=Xh.set MA rp2 new ii;have kpi:=kph.upd (o:=.lst (us.set ii (.ref r2))) (q:=m) (.inr rfl);have nli:cx K (upd Hh m (.lst (us.set ii (.ref r2)))) ((0 - z:Int):Rat) (.ref lt):=(nl.same sfh).updL guh;have nbi:cx K (upd Hh m (.lst (us.set ii (.ref r2)))) ((z:Int):Rat) (.ref bt):=(nb.same sfh).updL guh;generalize upd Hh m (.lst (us.set ii (.ref r2)))=Hi at Xi kpi nli nbi ⊢;generalize us.set ii (.ref r2)=um at Xi;clear nb nl Xf kpf gu ru e1 e2 g1 p1 g2 p2 R1 R2 Xh kph guh rp2 sg sh sfh new;have gm:=Xi.gm;have lm:=Xi.lm;have gl:=Xi.gl;have nd:=Xi.nd;obtain ⟨nd1,nd2,nd3⟩:=dN.mp nd;walk_at "w";refine jA gm gl (aS (bG (by lia))) fun cl Hj sj nj gj=>?_
   have kpj:=kpi.same sj
   have rows:∀x∈um++vs,∀q,x=V.ref q->q≠cl:=fun x hx q e y=>by
    obtain ⟨q',zs,_,e',_,g',_⟩:=(Xi.row x (au.mpr (.inl hx))).at;rw[e] at e';cases e';rw[y,nj] at g';cases g'
   have Xj:=(Xi.same sj).weak (C':=fun x y=>(x∈ws->Fr (μ x) W y)/\(x∈(um++vs).drop 0->Fr (μ x) (3*W) y)/\Fr (μ x) (9*W) y) fun x _ y h=>⟨h.1,fun _=>h.2,h.2.mono (by lia)⟩
   have lj:cx K Hj ((0 - z:Int):Rat) (.ref lt):=nli.same sj;have bj:cx K Hj ((z:Int):Rat) (.ref bt):=nbi.same sj;clear Xi kpi nli nbi;refine ⟨_,rfl,⟨_,bU.of gj⟩,?_⟩;refine iw (K:=K) (a:=cl) (xs:=um++vs) (fun s σ' H'=>∃x6:Option V,σ'=[some (.ref b),some (.ref m),some (.ref p),some (.ref l),some (.int n),some (.int t),some (.int ii),some (.int jj),some (.ref bt),some (.ref lt),x6]/\kH K A H' n (fun x y=>(x∈ws->Fr (μ x) W y)/\(x∈(um++vs).drop s->Fr (μ x) (3*W) y)/\Fr (μ x) (9*W) y) m p l b q0 um ws vs/\jf A b m H H'/\H' cl=some (.lst (um++vs))/\cx K H' ((0 - z:Int):Rat) (.ref lt)/\cx K H' ((z:Int):Rat) (.ref bt)) ⟨_,rfl,Xj,kpj,gj,lj,bj⟩ (fun s σ' H' _ ⟨_,_,_,_,e,_⟩=>bU.of e) ?_ ?_
   ·rintro s x σ' Hk hx ⟨y6,rfl,Xk,kpk,gk,lk,bk⟩;have hs:s < (um++vs).length:=(aI.mp hx).1;have mx:=ax hx
    have xd:x∈(um++vs).drop s:=by
     rw[eI hs,(aI.mp hx).2];exact .head _
    have xd2:x∉(um++vs).drop (s+1):=fun z=>by
     have:=nd1.sublist (List.drop_sublist s _);rw[eI hs,eC,(aI.mp hx).2] at this;exact this.1 z
    have xw:x∉ws:=fun z=>nd3 x mx x z rfl
    have rx:=Xk.row x (au.mpr (.inl mx));obtain ⟨q,zs,qs,rfl,aq,gq,lq,pq,lq2,cq⟩:=rx.at;have qcl:=rows _ mx q rfl;obtain ⟨vj,ej,nj'⟩:=Fy pq (j:=jj) (by lia);obtain ⟨vi,ei,ni'⟩:=Fy pq (j:=ii) (by lia);have cj:=(cq _ (getD_mem (xs:=qs) (i:=jj) (by lia))).2.1 xd;have ci:=(cq _ (getD_mem (xs:=qs) (i:=ii) (by lia))).2.1 xd;walk_at "w";refine cD (bU.of gq) ej ?_;walk_at "w";refine cD (bU.of gq) ei ?_;walk_at "w";refine ⟨_,_,_,_,rfl,lk,ni',Dg (by lia),sz9 (by lia) ci,fun r3 Hl sl n3=>?_⟩;walk_at "w";refine ⟨_,_,_,_,rfl,nj'.same sl,n3,sz9 (by lia) cj,AI (by lia) ci (M0 _) (M1 _) (by lia),fun r4 Hm sm n4=>?_⟩;have slm:=sl.trans sm;walk_at "w";refine fk (slm _ _ gq) (fI (by lia)) rfl ?_;refine ⟨_,rfl,?_,(kpk.same slm).upd (.inl aq),by rw[bJ qcl.symm];exact slm _ _ gk,(lk.same slm).updL (slm _ _ gq),(bk.same slm).updL (slm _ _ gq)⟩;refine ((Xk.same slm).weak fun x' _ y h=>⟨h.1,fun z=>h.2.1 ?_,h.2.2⟩).put MA aq (slm _ _ gq) n4 ⟨fun z=>absurd z xw,fun z=>absurd z xd2,?_⟩ jj
    ·rw[eI hs];exact .tail _ z
    ·exact (DY (by lia) cj ci).mono (by lia)
   ·rintro σ' Hk ⟨y6,rfl,Xk,kpk,gk,lk,bk⟩;have gp:=Xk.gp;have Xk2:=Xk.weak (C':=fun x y=>(x∈ws.drop 0->Fr (μ x) W y)/\Fr (μ x) (9*W) y) fun x _ y h=>⟨fun z=>h.1 (by simpa using z),h.2.2⟩
    clear Xk;walk_at "w";refine ⟨⟨_,bU.of gp⟩,?_⟩;refine iw (K:=K) (a:=p) (xs:=ws) (fun s σ' H'=>∃x6:Option V,σ'=[some (.ref b),some (.ref m),some (.ref p),some (.ref l),some (.int n),some (.int t),some (.int ii),some (.int jj),some (.ref bt),some (.ref lt),x6]/\kH K A H' n (fun x y=>(x∈ws.drop s->Fr (μ x) W y)/\Fr (μ x) (9*W) y) m p l b q0 um ws vs/\jf A b m H H'/\cx K H' ((z:Int):Rat) (.ref bt)) ⟨_,rfl,Xk2,kpk,bk⟩ (fun s σ' H' _ ⟨_,_,X,_⟩=>bU.of X.gp) ?_ ?_
    ·rintro s x σ' Hl hx ⟨w6,rfl,Xl,kpl,bl⟩;have hs:s < ws.length:=(aI.mp hx).1;have mx:=ax hx
     have xd:x∈ws.drop s:=by
      rw[eI hs,(aI.mp hx).2];exact .head _
     have xd2:x∉ws.drop (s+1):=fun z=>by
      have:=nd2.sublist (List.drop_sublist s _);rw[eI hs,eC,(aI.mp hx).2] at this;exact this.1 z
     have rx:=Xl.row x (au.mpr (.inr mx));obtain ⟨q,zs,qs,rfl,aq,gq,lq,pq,lq2,cq⟩:=rx.at;obtain ⟨vj,ej,nj'⟩:=Fy pq (j:=jj) (by lia);obtain ⟨vi,ei,ni'⟩:=Fy pq (j:=ii) (by lia);have cj:=(cq _ (getD_mem (xs:=qs) (i:=jj) (by lia))).1 xd;have ci:=(cq _ (getD_mem (xs:=qs) (i:=ii) (by lia))).1 xd;walk_at "w";refine cD (bU.of gq) ei ?_;walk_at "w";refine cD (bU.of gq) ej ?_;walk_at "w";refine ⟨_,_,_,_,rfl,bl,nj',Dg (by lia),sz9 (by lia) cj,fun r3 Hm sm n3=>?_⟩;walk_at "w";refine ⟨_,_,_,_,rfl,ni'.same sm,n3,sz9 (by lia) ci,AI (by lia) cj (M0 _) (M1 _) (by lia),fun r4 Hn sn n4=>?_⟩;have smn:=sm.trans sn;walk_at "w";refine fk (smn _ _ gq) (fI (by lia)) rfl ?_;refine ⟨_,rfl,?_,(kpl.same smn).upd (.inl aq),(bl.same smn).updL (smn _ _ gq)⟩;refine ((Xl.same smn).weak fun x' _ y h=>⟨fun z=>h.1 ?_,h.2⟩).put MA aq (smn _ _ gq) n4 ⟨fun z=>absurd z xd2,?_⟩ ii
     ·rw[eI hs];exact .tail _ z
     ·exact (DY (by lia) ci cj).mono (by lia)
    ·rintro σ' Hl ⟨w6,rfl,Xl,kpl,bl⟩;refine ⟨_,_,_,_,_,_,um,rfl,Xl.weak fun _ _ y h=>h.2.mono ?_,kpl⟩;rw[<- eW,ff,bX (9^t) 9,cL];exact aw _
  ·rintro σ' H' ⟨x1,x2,x3,x4,x5,x6,us',rfl,X,kp⟩;walk_at "w";refine cg fun r H2' s' g'=>?_
   exact done r us' H2' _ (by lia) g' (X.same s') (kp.same s')
theorem dM:bu ["_law_bag_here","_law_one","_law_other","_law_ahead","_law_behind","_law_found","_law_k"] ["_law_bag_here"] (ay eP):=by walk_at "d"
theorem xT (T:Txt K mg Z):cU P w K mg base gE 5 Z.ja Z.iW ["_law_bag_here"] (Mu K):=by
 refine T.lJ.ok dM (fun vs H Q E h=>?_) (fun cdv A outer s H vs Q E hr h=>?_)
 ·obtain ⟨b,rfl,hB,k⟩:=h;rfl
 ·obtain ⟨b,rfl,hB,k⟩:=h
  refine ⟨_,(ar (bc (i:=1) dM.nd rfl (Or.inl rfl) (cX (sN T) hr T.nC T.mY.kp T.qo (ae (pv 0) (ae ao ag))))
   (ar (bc (i:=2) dM.nd rfl (Or.inl rfl) (cX (sN T) hr T.nC T.mY.kp T.qo (ae (pv 0) (ae (bI eY ao (cX (bo T) hr T.aT T.be.kp T.br (ae (pv 0) (ae ao ag)))) ag))))
   (ar (bc (i:=3) dM.nd rfl (Or.inr rfl) (bI Gi (dr (ae (cW (ae ao (ae ao ag))) ag)) ao))
   (ar (bc (i:=4) dM.nd rfl (Or.inr rfl) (bI Gi (dr (ae (cW (ae ao (ae ao ag))) ag)) (bP bC (by rfl) T.len bg (ae (aV bS (pv 2) ao) ag))))
   (ar (bc (i:=5) dM.nd rfl (Or.inl rfl) (dr ag))
   (ar (dZ PassesOwn.never rfl (cy rfl T.range (ae ao ag)) (aO (i:=6) dM.nd)
    (aA (iS (uH cG cZ cY iT (pv 5) (ae (bI jF (cF ["_law_row_here"] ["_law_behind"] [4] (cK (aV bS (pv 1) (pv 6))) (fun _=>(aO (i:=0) (show List.Nodup (α:=PySem.Str) ["_law_row_here","_law_behind"] by decide +kernel))) (fun _=>cC) (fun _=>(bI jF (pv 0) (pv 1)))) (cF ["_law_row_here"] ["_law_ahead"] [3] (cK (aV bS (pv 2) (pv 6))) (fun _=>(aO (i:=0) (show List.Nodup (α:=PySem.Str) ["_law_row_here","_law_ahead"] by decide +kernel))) (fun _=>cC) (fun _=>(bI jF (pv 1) (pv 0))))) ag)))))
   (aA (aW (cX (wI T) hr T.rg T.ow.kp T.tF (ae (pv 0) (ae (aV bW (pv 5) ao) (ae (aV bW (pv 5) ao) (ae (aV bW (pv 5) ao) ag))))))))))))),?_⟩
  refine aR (σ:=[some (.ref b),none,none,none,none,none,none]) rfl ?_;obtain ⟨q0,I0,xq,gq0⟩:=hB.inner;walk_at "w";refine ⟨b,3,rfl,hB,by decide,by decide,fun r1 mv1 pt1 lk1 H1 P1 lm1 lp1 ll1 D1 fm1 fp1 fl1 B1 u1=>?_⟩;walk_at "w";refine ⟨b,3,rfl,B1,by decide,by decide,fun v H2 v0 v1 B2 u2=>?_⟩;obtain ⟨v,rfl⟩:=cw v0;have u02:=u1.trans u2;walk_at "w";rw[show ((3:Int)+(v:Int))=((3+v:Nat):Int) by lia];refine ⟨b,3+v,rfl,B2,by lia,by lia,fun r2 mv2 pt2 lk2 H3 P2 lm2 lp2 ll2 D2 fm2 fp2 fl2 B3 u3=>?_⟩;have u03:=u02.trans u3;have P1c:=(P1.upto (u2.trans u3) B1 hB.at);have P2c:fE K H H3 r2 mv2 pt2 lk2:=P2.weak fun q h=>u02.none B2 h
  walk_at "w";refine cg fun t0 H4 s4 g4=>?_
  walk_at "w";refine cR fun a1 H5 s5 n5 g5=>?_
  walk_at "w";refine FY (k:=3) g5 (by decide) fun ah H6 s6 n6 g6=>?_
  have s36:=(s4.trans s5).trans s6;obtain ⟨m1,p1,l1,gt1,m1n,p1n,l1n,Gm1,Gp1,Gl1⟩:=P1c.same s36;obtain ⟨m2,p2,l2,gt2,m2n,p2n,l2n,Gm2,Gp2,Gl2⟩:=P2c.same s36;have N0:cx K H6 0 (V.ref t0):=cx.mk (q:=0) ((s5.trans s6) _ _ g4) rfl;walk_at "w";refine cg fun t1 H7 s7 g7=>?_
  walk_at "w";refine cR fun a2 H8 s8 n8' g8=>?_
  have s68:=s7.trans s8;have gt2':=s68 _ _ gt2;obtain ⟨um2,gm2,qm2,_⟩:=id (Gm2.same s68);have lum2:=qm2.length;walk_at "w";refine ⟨_,_,rfl,.inl (bU.of gm2),?_⟩;rw[<- lum2,lm2];walk_at "w";refine FY (k:=3+v) g8 (by lia) fun bh H9 s9 n9 g9=>?_
  have s69:=s68.trans s9;have s39:=s36.trans s69;have N1:cx K H9 0 (V.ref t1):=cx.mk (q:=0) ((s8.trans s9) _ _ g7) rfl;have u09:=u03.same s39;have B9:=B3.same s39;have g6':=s69 _ _ g6;have N0':=N0.same s69;walk_at "w";refine cR fun fd H10 s10 n10 g10=>?_
  have X1:∀i:Nat,i < 3->∃q1 R1 q2 R2,[V.ref m1,V.ref p1,V.ref l1][i]?=some (V.ref q1)/\bL K H H9 q1 R1/\(∀xs∈R1,xs.length=3/\∀y∈xs,Fr 1 1 y)/\[V.ref m2,V.ref p2,V.ref l2][i]?=some (V.ref q2)/\bL K H H9 q2 R2/\(∀xs∈R2,xs.length=3+v/\∀y∈xs,Fr 1 1 y)/\R1.length<=100/\R2.length<=100/\[6+v,2,2][i]?=some (R1.length+R2.length):=fun i hi=>by
   rcases (show i=0\/i=1\/i=2 by lia) with rfl | rfl | rfl
   ·exact ⟨m1,mv1,m2,mv2,rfl,Gm1.same s69,fun xs hx=>⟨by rw[D1.mw xs hx,lm1],fm1 xs hx⟩,rfl,Gm2.same s69,fun xs hx=>⟨by rw[D2.mw xs hx,lm2],fm2 xs hx⟩,by lia,by lia,by rw[lm1,lm2,show 3+(3+v)=6+v by lia];rfl⟩
   ·exact ⟨p1,pt1,p2,pt2,rfl,Gp1.same s69,fun xs hx=>⟨by rw[D1.pw xs hx,lm1],fp1 xs hx⟩,rfl,Gp2.same s69,fun xs hx=>⟨by rw[D2.pw xs hx,lm2],fp2 xs hx⟩,by lia,by lia,by rw[lp1,lp2];rfl⟩
   ·exact ⟨l1,lk1,l2,lk2,rfl,Gl1.same s69,fun xs hx=>⟨by rw[D1.lw xs hx,lm1],fl1 xs hx⟩,rfl,Gl2.same s69,fun xs hx=>⟨by rw[D2.lw xs hx,lm2],fl2 xs hx⟩,by lia,by lia,by rw[ll1,ll2];rfl⟩
  walk_at "w";refine ⟨by decide,by decide,?_⟩;refine fb (n:=3) (fun i σ' H'=>aJ H9 H'/\∃x6 L,σ'=[some (.ref b),some (.ref r1),some (.ref r2),some (.ref ah),some (.ref bh),some (.ref fd),x6]/\Sj K H9 H' (6+v) fd L/\L.length=i/\∀(j:Nat) (e:Addr×List V),L[j]?=some e->[6+v,2,2][j]?=some e.2.length) ⟨s10,none,[],rfl,⟨g10,n10,(fun _ z=>nomatch z),qU,(fun _ z=>nomatch z),qU⟩,rfl,fun j e h=>by simp at h⟩ ?_ ?_
  ·rintro i σ' H' hi ⟨s',x6,L,rfl,T,lL,hL⟩;obtain ⟨q1,R1,q2,R2,e1,G1,w1,e2,G2,w2,b1,b2,hlen⟩:=X1 i hi;have gt1':=s' _ _ (s69 _ _ gt1);have gt2'':=s' _ _ (s69 _ _ gt2);obtain ⟨ux1,gx1,qx1,_⟩:=id (G1.same s');have gb:=s' _ _ g9;have ga:=s' _ _ g6';walk_at "w";refine ⟨.inl ⟨rfl,_,bU.of T.gf⟩,?_⟩;walk_at "w";refine Gf (sv.of gt1') (fJ e1) ?_;walk_at "w";refine ⟨⟨_,bU.of gx1⟩,?_⟩;refine CP (K:=K) (F:=dn K H) (fun H'' c x=>∃q,x=V.ref q/\cQ K H'' q c) (fun r=>r++List.replicate (3+v) 0) gx1 qx1 (by lia) (fun a b=>a.same b) (fun a b=>by obtain ⟨q,e,r⟩:=a;exact ⟨q,e,r.same b⟩) (fun a=>by obtain ⟨q,e,_,gg,_⟩:=a;exact ⟨q,e,by rw[gg];exact fun z=>nomatch z⟩) ?_ ?_
   ·rintro j ns x Hi NY NN en si ⟨q,rfl,_,zs,gz,qz⟩ k1;have ws:=(w1 ns (ax en)).1;have lz:=qz.length;walk_at "w";refine jA gz (si _ _ gb) (aS (bG (by rw[aE];lia))) fun c Hj sj nj gj=>?_
    exact k1 _ _ sj ⟨c,rfl,_,gj,bT (Paired.imp' (fun _ _ z=>z.same sj) qz) (sI (((N1.same s').same si).same sj) _)⟩ ⟨c,rfl,nj⟩
   rintro ys1 Ha c1 hc1 sa ga1 nd1 ne1 pr1;obtain ⟨ux2,gx2,qx2,_⟩:=id ((G2.same s').same sa);have gt2a:=sa _ _ gt2'';walk_at "w";refine Gf (sv.of gt2a) (fJ e2) ?_;walk_at "w";refine ⟨⟨_,bU.of gx2⟩,?_⟩;refine CP (K:=K) (F:=dn K H) (fun H'' c x=>∃q,x=V.ref q/\cQ K H'' q c) (fun r=>List.replicate 3 0++r) gx2 qx2 (by lia) (fun a b=>a.same b) (fun a b=>by obtain ⟨q,e,r⟩:=a;exact ⟨q,e,r.same b⟩) (fun a=>by obtain ⟨q,e,_,gg,_⟩:=a;exact ⟨q,e,by rw[gg];exact fun z=>nomatch z⟩) ?_ ?_
   ·rintro j ns x Hi NY NN en si ⟨q,rfl,_,zs,gz,qz⟩ k1;have ws:=(w2 ns (ax en)).1;have lz:=qz.length;walk_at "w";refine jA ((sa.trans si) _ _ ga) gz (aS (bG (by rw[aE];lia))) fun c Hj sj nj gj=>?_
    exact k1 _ _ sj ⟨c,rfl,_,gj,bT (sI ((((N0'.same s').same sa).same si).same sj) _) (Paired.imp' (fun _ _ z=>z.same sj) qz)⟩ ⟨c,rfl,nj⟩
   rintro ys2 Hb c2 hc2 sb gb2 nd2 ne2 pr2;have sab:=sa.trans sb;have ly1:=pr1.length;have ly2:=pr2.length;rw[aj] at ly1 ly2;walk_at "w";refine jA (sb _ _ ga1) gb2 (aS (bG (by lia))) fun qn Hc sc nc gc=>?_
   have sac:=sab.trans sc;have gfc:=sac _ _ T.gf;walk_at "w";refine iQ gfc (bG (by rw[aj];lia)) ?_
   have rP:∀{c:List Rat} {x:V},(∃q,x=V.ref q/\cQ K Hb q c)->(∃q,x=V.ref q/\H' q=none)->c.length=6+v->(∀y∈c,Fr 1 1 y)->fH K (fun z=>H' z=none/\z≠qn) Hc (6+v) (Fr 1 1) x:=fun ⟨q,e,r⟩ ⟨q',e',nq⟩ hl hf=>by
    rw[e] at e';cases e';exact ⟨q,_,e,⟨nq,fun z=>by obtain ⟨_,gg,_⟩:=r;rw[z,nc] at gg;cases gg⟩,r.same sc,hl,hf⟩
   refine ⟨(s'.trans sac).after n10,some (.int i),L++[(qn,ys1++ys2)],rfl,T.snoc s' sac (sab.none nc) gc ?_ (fun x hx=>?_),by rw[ak,bx,lL],fun j e he=>?_⟩
   ·refine dN.mpr ⟨nd1,nd2,fun x hx y hy z=>?_⟩;obtain ⟨_,_,q,e,_,gg,_⟩:=dk pr1 hx;obtain ⟨q',e',nq,_⟩:=ne2 y hy;rw[<- z,e] at e';cases e';rw[nq] at gg;cases gg
   ·rcases au.mp hx with hx | hx
    ·obtain ⟨c,mc,q,e,r⟩:=dk pr1 hx;obtain ⟨ns,mn,rfl⟩:=aB.mp mc;obtain ⟨q',e',nq,_⟩:=ne1 x hx;refine rP ⟨q,e,r.same sb⟩ ⟨q',e',nq⟩ (by rw[ak,aE,(w1 ns mn).1];lia) fun y hy=>?_
     rcases au.mp hy with hy | hy
     ·exact (w1 ns mn).2 y hy
     ·rw[(cN.mp hy).2];exact Fr.zero
    ·obtain ⟨c,mc,q,e,r⟩:=dk pr2 hx;obtain ⟨ns,mn,rfl⟩:=aB.mp mc;obtain ⟨q',e',nq,_⟩:=ne2 x hx;refine rP ⟨q,e,r⟩ ⟨q',e',sa.none nq⟩ (by rw[ak,aE,(w2 ns mn).1];lia) fun y hy=>?_
     rcases au.mp hy with hy | hy
     ·rw[(cN.mp hy).2];exact Fr.zero
     ·exact (w2 ns mn).2 y hy
   ·rcases cP j L.length with z | z
    ·rw[bH z] at he;exact hL j e he
    ·have hj:=(aI.mp he).1;rw[ak,bx] at hj;have ej:j=L.length:=by lia
     subst ej;rw[aU (aw _),fe] at he;cases he;rw[lL,hlen,ak,ly1,ly2]
  ·rintro σ' H' ⟨s',x6,L,rfl,T,lL,hL⟩
   obtain ⟨⟨m,us⟩,⟨p,ws⟩,⟨l,vs⟩,rfl⟩:∃a b c,L=[a,b,c]:=by
    rcases L with _ | ⟨a,_ | ⟨b,_ | ⟨c,_ | ⟨d,L⟩⟩⟩⟩
    ·cases lL
    ·cases lL
    ·cases lL
    ·exact ⟨a,b,c,rfl⟩
    ·simp at lL
   have lu:us.length=6+v:=by have:=hL 0 _ rfl;simpa using this.symm
   have lw:ws.length=2:=by have:=hL 1 _ rfl;simpa using this.symm
   have lv:vs.length=2:=by have:=hL 2 _ rfl;simpa using this.symm
   have gf:=T.gf;obtain ⟨mn,mf,gm⟩:=T.ls (m,us) (by simp);obtain ⟨pn,pf,gp⟩:=T.ls (p,ws) (by simp);obtain ⟨ln,lf,gl⟩:=T.ls (l,vs) (by simp);have nd:=T.nd;have rw':=T.rows;have rd:=T.rd;clear T hL;have gf:H' fd=some (.lst [.ref m,.ref p,.ref l]):=gf;have nd:[m,p,l].Nodup:=nd;have rd:(us++(ws++(vs++[]))).Nodup:=rd;have u0':=u09.same s';have B':=B9.same s';have hm0:H m=none:=u09.none B9 mn;have hp0:H p=none:=u09.none B9 pn;have hl0:H l=none:=u09.none B9 ln;obtain ⟨A,eA⟩:∃A:Addr->Prop,A=fun q=>H q=none/\q≠m/\q≠p/\q≠l:=⟨_,rfl⟩
   have mkA:∀{q},H q=none->q≠m->q≠p->q≠l->A q:=fun h1 h2 h3 h4=>by rw[eA];exact ⟨h1,h2,h3,h4⟩
   have unA:∀{q},A q->H q=none/\q≠m/\q≠p/\q≠l:=fun h=>by rw[eA] at h;exact h
   have nb:∀{q},H q=none->q≠b:=fun h z=>hB.at (by rw[<- z];exact h)
   have MA:Fu A m p l b q0:=⟨fun z=>(unA z).2.1 rfl,fun z=>(unA z).2.2.1 rfl,fun z=>(unA z).2.2.2 rfl,fun z=>hB.at (unA z).1,(fun z=>by have z1:=(unA z).1;rw[gq0] at z1;cases z1),nb hm0,nb hp0,nb hl0,by intro z;subst z;simp at nd,by intro z;subst z;simp at nd,fun z=>by rw[<- z,hm0] at gq0;cases gq0⟩;have X:kH K A H' (6+v) (fun _=>Fr 1 1) m p l b q0 us ws vs:=⟨B',u0'.2 _ I0,gm,gp,gl,lu,fun x hx=>?_,?_⟩
   ·walk_at "w";refine ⟨b,m,p,l,q0,6+v,1,fun _=>1,A,us,ws,vs,rfl,MA,X,by lia,by lia,by lia,fun _=>Nat.zero_lt_one,fun _=>ck,⟨1,fun _ _ _=>rfl⟩,by decide,fun q hq=>?_,fun r us' H'' g Y kp=>?_⟩
    ·exact mkA (u0'.none B' hq) (fun z=>by rw[z,gm] at hq;cases hq) (fun z=>by rw[z,gp] at hq;cases hq) (fun z=>by rw[z,gl] at hq;cases hq)
    ·obtain ⟨mv,Gm,lmv,hmv⟩:=lF (H0:=H) (n:=6+v) (C:=Fr 1 (9^3*1)) (m:=6+v) ⟨us',Y.gm,Y.lm,MA.am,fun x hx=>Y.row x (by simp [hx])⟩ fun q h=>(unA h).1
     obtain ⟨pt,Gp,lpt,hpt⟩:=lF (H0:=H) (n:=6+v) (C:=Fr 1 (9^3*1)) (m:=2) ⟨ws,Y.gp,lw,MA.ap,fun x hx=>Y.row x (by simp [hx])⟩ fun q h=>(unA h).1
     obtain ⟨lk,Gl,llk,hlk⟩:=lF (H0:=H) (n:=6+v) (C:=Fr 1 (9^3*1)) (m:=2) ⟨vs,Y.gl,lv,MA.al,fun x hx=>Y.row x (by simp [hx])⟩ fun q h=>(unA h).1
     refine k r mv pt lk H'' ⟨m,p,l,g,hm0,hp0,hl0,Gm,Gp,Gl⟩ (by lia) ⟨by lia,by lia,by lia,fun xs hx=>by rw[(hmv xs hx).1,lmv],fun xs hx=>by rw[(hpt xs hx).1,lmv],fun xs hx=>by rw[(hlk xs hx).1,lmv]⟩ (fun xs hx=>(hmv xs hx).2) (fun xs hx=>(hpt xs hx).2) (fun xs hx=>(hlk xs hx).2) Y.bag ⟨fun c' u e n1=>kp c' u (u0'.1 _ _ e n1) n1 (fun z=>by have:=(unA z).1;rw[e] at this;cases this) (fun z=>by rw[z,hm0] at e;cases e),fun q h=>by rw[<- Inner.inj I0 h];exact Y.inn⟩
   ·have hx:∃e∈[(m,us),(p,ws),(l,vs)],x∈e.2:=by
     rcases au.mp hx with hx | hx
     ·rcases au.mp hx with hx | hx
      ·exact ⟨(m,us),by simp,hx⟩
      ·exact ⟨(l,vs),by simp,hx⟩
     ·exact ⟨(p,ws),by simp,hx⟩
    obtain ⟨e,he,hx⟩:=hx;refine (rw' e he x hx).weak (fun q hq=>?_) (fun _ w=>w);obtain ⟨⟨h1,_⟩,h2⟩:=hq;have h2:q∉[m,p,l]:=h2;simp only[aF,aY,or_false,not_or] at h2;exact mkA (u09.none B9 h1) h2.1 h2.2.1 h2.2.2
   ·rw[j6] at rd
    have e:(us++vs++ws).Perm (us++(ws++vs)):=by
     rw[b9];exact List.Perm.append_left _ List.perm_append_comm
    exact e.nodup_iff.mpr rd
theorem uF:bu ["_law_bag_here","_law_wide","_law_way"] ["_law_bag_here","_law_wide"] (ay gQ):=by walk_at "d"
theorem A7 (T:Txt K mg Z):cU P w K mg base gE 2 Z.mK Z.mi ["_law_bag_here","_law_wide"] (FK K):=by
 refine T.rC.ok uF (fun vs H Q E h=>?_) (fun cdv A outer s H vs Q E hr h=>?_)
 ·obtain ⟨b,w,rfl,hB,w0,w1,k⟩:=h;rfl
 ·obtain ⟨b,w,rfl,hB,w0,w1,k⟩:=h
  refine ⟨_,(ar (bc (i:=2) uF.nd rfl (Or.inl rfl) (cX (bo T) hr T.aT T.be.kp T.br (ae (pv 0) (ae ao ag))))
   (ar (dm (bE uL (pv 2) ao (bK _)) (aA (aW (cW (ae ao (ae ao ag))))) b7)
   (ar (dm (bE uL (pv 2) ao (bK _)) (aA (aW (cW (ae (bI jh (cX (bo T) hr T.aT T.be.kp T.br (ae (pv 0) (ae ao ag))) ao) (ae ao ag))))) b7)
   (ar (dm (bE eK (pv 2) ao (bK _)) (aA (aW (cX (fW T) hr T.fo T.fF.kp T.gD (ae (bI jh (cX (bo T) hr T.aT T.be.kp T.br (ae (pv 0) (ae ao ag))) ao) (ae (bI eY ao (cX (bo T) hr T.aT T.be.kp T.br (ae (pv 0) (ae ao ag)))) ag))))) b7)
   (aA (aW (cX (fW T) hr T.fo T.fF.kp T.gD (ae (bI jh (cX (bo T) hr T.aT T.be.kp T.br (ae (pv 0) (ae (bI eY (bI dc ao (pv 1)) ao) ag))) (pv 1)) (ae (bI eY ao (cX (bo T) hr T.aT T.be.kp T.br (ae (pv 0) (ae (pv 1) ag)))) ag))))))))),?_⟩
  refine aR (σ:=[some (.ref b),some (.int w),none]) rfl ?_;walk_at "w";refine ⟨b,8,rfl,hB,by decide,by decide,fun v H1 v0 v1 B1 u1=>?_⟩;walk_at "w";refine gZ (fun h0=>?_) (fun h0=>?_)
  ·walk_at "w";refine cg fun r H2 s2 g2=>?_
   exact k r 0 _ ⟨bA _,by show 1<=_;lia⟩ (cx.mk g2 rfl) (B1.same s2) (u1.same s2)
  walk_at "w";refine gZ (fun h1=>?_) (fun h1=>?_)
  ·walk_at "w";refine ⟨b,7,rfl,B1,by decide,by decide,fun a H2 a0 a1 B2 u2=>?_⟩;walk_at "w";refine cg fun r H3 s3 g3=>?_
   exact k r ((a - 3:Int):Rat) _ ⟨by show (a - 3).natAbs<=_;lia,by show 1<=_;lia⟩ (cx.mk g3 rfl) (B2.same s3) ((u1.trans u2).same s3)
  walk_at "w";refine gZ (fun h2=>?_) (fun h2=>?_)
  ·walk_at "w";refine ⟨b,13,rfl,B1,by decide,by decide,fun a H2 a0 a1 B2 u2=>?_⟩;walk_at "w";refine ⟨b,6,rfl,B2,by decide,by decide,fun c H3 c0 c1 B3 u3=>?_⟩;walk_at "w";refine ⟨_,_,rfl,by lia,(Ki (by lia)).mono (by decide),fun r H4 s4 g4=>?_⟩;obtain ⟨q,e,d,_⟩:=Lk (t:=a - 6) (b:=1+c) (W:=max w 6) (by lia) (by lia) (by lia);exact k r q _ d (cx.mk g4 e) (B3.same s4) (((u1.trans u2).trans u3).same s4)
  walk_at "w";refine ⟨b,_,rfl,B1,by lia,by lia,fun a H2 a0 a1 B2 u2=>?_⟩;walk_at "w";refine ⟨b,_,rfl,B2,by lia,by lia,fun c H3 c0 c1 B3 u3=>?_⟩;walk_at "w";refine ⟨_,_,rfl,by lia,(Ki (by lia)).mono (by decide),fun r H4 s4 g4=>?_⟩;obtain ⟨q,e,d,_⟩:=Lk (t:=a - w) (b:=1+c) (W:=max w 6) (by lia) (by lia) (by lia);exact k r q _ d (cx.mk g4 e) (B3.same s4) (((u1.trans u2).trans u3).same s4)
theorem EK:bu ["_law_bag_here","_law_many","_law_wide"] ["_law_bag_here","_law_many","_law_wide"] (ay kW):=by walk_at "d"
theorem zz (T:Txt K mg Z):cU P w K mg base gE 3 Z.tJ Z.sX ["_law_bag_here","_law_many","_law_wide"] (Kv K):=by
 refine T.o6.ok EK (fun vs H Q E h=>?_) (fun cdv A outer s H vs Q E hr h=>?_)
 ·obtain ⟨b,m,w,rfl,hB,hm,w0,w1,k⟩:=h;rfl
 ·obtain ⟨b,m,w,rfl,hB,hm,w0,w1,k⟩:=h;refine ⟨_,(aA (aW (cF ["_law_k"] ["_law_bag_here","_law_wide"] [0,2] (cy rfl T.range (ae (pv 1) ag)) (fun _=>(aO (i:=0) (show List.Nodup (α:=PySem.Str) ["_law_k","_law_bag_here","_law_wide"] by decide +kernel))) (fun _=>cC) (fun _=>(cX (A7 T) hr T.uR T.rC.kp T.wY (ae (pv 1) (ae (pv 2) ag))))))),?_⟩;refine aR (σ:=[some (.ref b),some (.int m),some (.int w)]) rfl ?_;walk_at "w";refine ⟨by lia,by lia,?_⟩;refine CS (n:=m) (cx K) (Dr (max w 6)) hB hm (fun a u B=>a.upto u B) ?_ ?_
  ·rintro i H' NY NN hi u B k1;walk_at "w";exact ⟨b,w,rfl,B,w0,w1,fun r x H2 hx h2 B2 u2=>k1 _ x _ u2 B2 hx h2⟩
  ·rintro ys cs H' p hp u B g lc hc pr nx;exact k p cs H' hp ⟨ys,g,pr⟩ lc hc B u
theorem kd:bu ["_law_bag_here","_law_n","_law_way","_law_first","_law_wide","_law_move_here","_law_i","_law_row_here","_law_j"] ["_law_bag_here","_law_n","_law_way","_law_first","_law_wide"] (ay jS):=by walk_at "d"
theorem DL (T : Txt K mg Z) : cU P w K mg base gE 4 Z.qJ Z.pX ["_law_bag_here", "_law_n", "_law_way", "_law_first", "_law_wide"] (Kr K) := by
  have tQ := zz (P := P) (w := w) (base := base) T;have j4 := bo (P := P) (w := w) (base := base) T;refine T.vv.ok kd (fun vs H Q E h => ?_) (fun cdv A outer s H vs Q E hr h => ?_)
  · obtain ⟨b, n, w, way, first, rfl, hB, n8, w0, w1, k⟩ := h;rfl
  · obtain ⟨b, n, w, way, first, rfl, hB, n8, w0, w1, k⟩ := h
    refine ⟨_, (ar (bc (i := 5) kd.nd rfl (Or.inl rfl) (dr ag))
      (ar (dZ PassesOwn.never rfl (cy rfl T.range (ae (pv 1) ag)) (aO (i := 6) kd.nd)
        (ar (bc (i := 7) kd.nd rfl (Or.inl rfl) (cX tQ hr T.pJ T.o6.kp T.tE (ae (pv 0) (ae (pv 1) (ae (pv 4) ag)))))
      (ar (dZ PassesOwn.never rfl (cy rfl T.range (ae (pv 1) ag)) (aO (i := 8) kd.nd)
        (gV (dm (PW.pt (jB (bE eK (pv 2) ao (bK _)) (kg (bE wG (cX j4 hr T.aT T.be.kp T.br (ae (pv 0) (ae ao ag))) ao (bK _))))) (aA (fz (cW (ae ao (ae ao ag))) (ip (pv 7) (pv 8) set_list))) b7)
      (gV (dm (PW.pt (jB (bE eK (pv 2) ao (bK _)) (kg (bE uL (bI eY (pv 6) ao) (pv 1) (bK _))))) (aA (fz (cW (ae (dO lG (by rfl) T.int PyProof.Rows.boot_int (ae (h7 eK (pv 8) (bI eY (pv 6) ao) (bK _)) ag)) (ae ao ag))) (ip (pv 7) (pv 8) set_list))) b7)
      (gV (dm (PW.pt (pE (PW.pt (jB (bE eK (pv 2) ao (bK _)) (jB (bE Cz (pv 6) (pv 3) (bK _)) (kg (bE uL (pv 8) (pv 3) (bK _)))))) (ke (PW.pt (jB (bE eK (pv 2) ao (bK _)) (jB (bE uL (pv 6) (pv 3) (bK _)) (kg (bE Cz (pv 8) (pv 3) (bK _))))))))) (aA (fz (cW (ae ao (ae ao ag))) (ip (pv 7) (pv 8) set_list))) b7)
      (aA (dm (bE eK (pv 2) ao (bK _)) (aA (fz (cW (ae (bI dc (aV bW (dr (ae ao (ae ao (ae (xO sD ao) (ae ao ag))))) (bI qX (pv 3) ao)) (dO lG (by rfl) T.int PyProof.Rows.boot_int (ae (h7 eK (pv 6) (pv 8) (bK _)) ag))) (ae ao ag))) (ip (pv 7) (pv 8) set_list))) b7))))))
      (aA (iS (uH cG cZ cY iT (pv 5) (ae (pv 7) ag)))))))
      (aA (aW (pv 5))))), ?_⟩
    refine aR (σ := [some (.ref b), some (.int n), some (.int way), some (.int first), some (.int w), none, none, none, none]) rfl ?_;have W1 : 1 ≤ max w 6 := by lia
    walk_at "w";refine cR fun r H1 s1 n1 g1 => ?_
    have rb : r ≠ b := fun z => hB.at (by rw [<- z]; exact n1)
    obtain ⟨q0, I0, xs0, gq0⟩ := hB.inner;have I1 : Inner H1 b q0 := (s1.upto (p := b)).2 _ I0;obtain ⟨A, eA⟩ : ∃ A : Addr → Prop, A = fun q => H q = none /\ q ≠ r := ⟨_, rfl⟩
    have nb : ¬ A b := by rw [eA]; exact fun z => hB.at z.1
    have nr : ¬ A r := by rw [eA]; exact fun z => z.2 rfl
    have nq : ¬ A q0 := by rw [eA]; exact fun z => by have z1 := z.1; rw [gq0] at z1; cases z1
    have rq : r ≠ q0 := fun z => by rw [<- z, n1] at gq0; cases gq0
    walk_at "w";refine ⟨by lia, by lia, ?_⟩;refine fb (n := n) (fun i σ' H' => ∃ (x1 x2 x3 : Option V) (us : List V), σ' = [some (.ref b), some (.int n), some (.int way), some (.int first), some (.int w), some (.ref r), x1, x2, x3] /\ H' r = some (.lst us) /\ us.length = i /\ us.Nodup /\ (∀ x ∈ us, fH K A H' n (Dr (max w 6)) x) /\ iC H' b /\ Inner H' b q0 /\ dg b H H') ⟨none, none, none, [], rfl, g1, rfl, qU, (fun _ z => nomatch z), hB.same s1, I1, s1.upto⟩ ?_ ?_
    · rintro i σ' H' hi ⟨x1, x2, x3, us, rfl, gu, lu, nd, ru, B', I', u'⟩;walk_at "w";refine ⟨b, n, w, rfl, B', by lia, w0, w1, fun p xs Ha np Ra la da Ba ua => ?_⟩;have hp0 : H p = none := u'.none B' np
      have pn : V.ref p ∉ us := fun z => by
        obtain ⟨q', _, _, e', _, g', _⟩ := (ru _ z).at;cases e';rw [np] at g';cases g'
      have ap' : H p = none /\ p ≠ r := ⟨hp0, fun z => by rw [z, gu] at np; cases np⟩;have ap : A p := by rw [eA]; exact ap'
      have X0 : IC K A n (Dr (max w 6)) r p b q0 us H Ha := ⟨ua.other rb gu, fun x hx => (ru x hx).upto ua B' nb, ⟨p, xs, rfl, ap, Ra, la, da⟩, Ba, ua.2 _ I', u'.trans ua⟩;clear ru Ra gu;walk_at "w";refine ⟨by lia, by lia, ?_⟩;refine fb (n := n) (fun j σ' H' => (∃ x3, σ' = [some (.ref b), some (.int n), some (.int way), some (.int first), some (.int w), some (.ref r), some (.int i), some (.ref p), x3]) /\ IC K A n (Dr (max w 6)) r p b q0 us H H') ⟨⟨_, rfl⟩, X0⟩ ?_ ?_
      · rintro j σ' Hj hj ⟨⟨x3, rfl⟩, X⟩;walk_at "w";refine ⟨fun σ' H' => σ' = [some (.ref b), some (.int n), some (.int way), some (.int first), some (.int w), some (.ref r), some (.int i), some (.ref p), some (.int j)] /\ IC K A n (Dr (max w 6)) r p b q0 us H H', ?_, ?_⟩
        · walk_at "w";refine gZ (fun _ => ?_) (fun _ => ?_)
          · walk_at "w";refine ⟨b, 3, rfl, X.bag, by decide, by decide, fun d Hd d0 d1 Bd ud => ?_⟩;replace X := X.upto ud Bd nb rb
            repeat' (first | walk_at "rd" | refine gZ (fun _ => ?_) (fun _ => ?_))
            all_goals first
              | exact ⟨rfl, X⟩
              | (refine cg fun t Hb sb gb => ?_
                 walk_at "w";obtain ⟨zs, gz, lz, Xz⟩ := (X.same sb).put ap nr nb nq hp0 (cx.mk (q := 0) gb rfl) (uW (i := 0) (bA _) W1) j;refine fk gz (fI (by lia)) rfl ?_;exact ⟨rfl, Xz⟩)
          · walk_at "w";exact ⟨rfl, X⟩
        clear X;rintro σ' Hj ⟨rfl, X⟩;refine ⟨fun σ' H' => σ' = [some (.ref b), some (.int n), some (.int way), some (.int first), some (.int w), some (.ref r), some (.int i), some (.ref p), some (.int j)] /\ IC K A n (Dr (max w 6)) r p b q0 us H H', ?_, ?_⟩
        · repeat' (first | walk_at "rd" | refine gZ (fun _ => ?_) (fun _ => ?_))
          all_goals first
            | exact ⟨rfl, X⟩
            | (refine cg fun t Hb sb gb => ?_
               walk_at "w";obtain ⟨zs, gz, lz, Xz⟩ := (X.same sb).put ap nr nb nq hp0 (cx.mk (q := ((if decide ((j : Int) = (i : Int) + 1) = true then (1 : Int) else 0 : Int) : Rat)) gb rfl) (uW (by split <;> lia) W1) j;refine fk gz (fI (by lia)) rfl ?_;exact ⟨rfl, Xz⟩)
        clear X;rintro σ' Hj ⟨rfl, X⟩;refine ⟨fun σ' H' => σ' = [some (.ref b), some (.int n), some (.int way), some (.int first), some (.int w), some (.ref r), some (.int i), some (.ref p), some (.int j)] /\ IC K A n (Dr (max w 6)) r p b q0 us H H', ?_, ?_⟩
        · repeat' (first | walk_at "rd" | refine gZ (fun _ => ?_) (fun _ => ?_))
          all_goals first
            | exact ⟨rfl, X⟩
            | (refine cg fun t Hb sb gb => ?_
               walk_at "w";obtain ⟨zs, gz, lz, Xz⟩ := (X.same sb).put ap nr nb nq hp0 (cx.mk (q := 0) gb rfl) (uW (i := 0) (bA _) W1) j;refine fk gz (fI (by lia)) rfl ?_;exact ⟨rfl, Xz⟩)
        clear X;rintro σ' Hj ⟨rfl, X⟩;walk_at "w";refine gZ (fun _ => ?_) (fun _ => ?_)
        · walk_at "w";refine cR fun l0 Hc sc nc gc => ?_
          walk_at "w";obtain ⟨x, ex, mx, _⟩ := mU (xs := [V.int 2, V.int 1, V.int (-1), V.int 0]) (i := first % 4) (oz _ (by decide)) (by have := jy first (show (0 : Int) < 4 by decide); simpa using this)
          obtain ⟨z, rfl, hz⟩ : ∃ z : Int, x = .int z /\ z.natAbs ≤ 2 := by
            simp only [aF, aY, or_false] at mx;rcases mx with rfl | rfl | rfl | rfl
            · exact ⟨2, rfl, by decide⟩
            · exact ⟨1, rfl, by decide⟩
            · exact ⟨-1, rfl, by decide⟩
            · exact ⟨0, rfl, by decide⟩
          refine cD (bU.of gc) ex ?_;walk_at "w";refine fw (Eb (by lia) (by lia)) ?_;walk_at "w";refine cg fun t Hb sb gb => ?_
          walk_at "w";obtain ⟨zs, gz, lz, Xz⟩ := ((X.same sc).same sb).put ap nr nb nq hp0 (cx.mk (q := ((z * (if decide ((i : Int) = (j : Int)) = true then (1 : Int) else 0) : Int) : Rat)) gb rfl) (uW (by split <;> lia) W1) j;refine fk gz (fI (by lia)) rfl ?_;exact ⟨⟨_, rfl⟩, Xz⟩
        · walk_at "w";exact ⟨⟨_, rfl⟩, X⟩
      · rintro σ' Hj ⟨⟨x3, rfl⟩, X⟩;walk_at "w";refine ⟨.inl ⟨rfl, _, bU.of X.gr⟩, ?_⟩;walk_at "w";refine iQ X.gr (bG (by lia)) ?_;refine ⟨_, _, _, us ++ [.ref p], rfl, aK, by simp [lu], sP nd pn, fun x hx => ?_, X.bag.upd X.inn rb rq, X.inn.upd rb, X.up.after n1⟩;rcases au.mp hx with hx | hx
        · exact (X.ru x hx).other X.gr nr
        · have e : x = V.ref p := by simpa using hx
          rw [e]; exact X.rp.other X.gr nr
    · rintro σ' H' ⟨x1, x2, x3, us, rfl, gu, lu, nd, ru, B', I', u'⟩;walk_at "w";exact k r us H' n1 gu lu nd (by rw [eA] at ru; exact ru) B' u'
theorem dX:bu ["_law_bag_here","_law_n","_law_ins","_law_outs","_law_wide","_law_way","_law_first","_law_move_here","_law_put","_law_look","_law_k","_law_row_here"] ["_law_bag_here","_law_n","_law_ins","_law_outs","_law_wide"] (ay iL):=by walk_at "d"
theorem Cc (T : Txt K mg Z) : cU P w K mg base gE 5 Z.oh Z.nN ["_law_bag_here", "_law_n", "_law_ins", "_law_outs", "_law_wide"] (IW K) := by
  have j4 := bo (P := P) (w := w) (base := base) T;have Fv := DL (P := P) (w := w) (base := base) T;have tQ := zz (P := P) (w := w) (base := base) T;have Em := wI (P := P) (w := w) (base := base) T;refine T.tY.ok dX (fun vs H Q E h => ?_) (fun cdv A outer s H vs Q E hr h => ?_)
  · obtain ⟨b, n, i, o, w, c, rfl, hB, n8, i4, o4, w0, w1, hc, hc20, hcM, k⟩ := h;rfl
  · obtain ⟨b, n, i, o, w, c, rfl, hB, n8, i4, o4, w0, w1, hc, hc20, hcM, k⟩ := h
    refine ⟨_, (ar (bc (i := 5) dX.nd rfl (Or.inl rfl) (cX j4 hr T.aT T.be.kp T.br (ae (pv 0) (ae ao ag))))
      (ar (bc (i := 6) dX.nd rfl (Or.inl rfl) (cX j4 hr T.aT T.be.kp T.br (ae (pv 0) (ae (bI eY (pv 1) ao) ag))))
      (ar (bc (i := 7) dX.nd rfl (Or.inl rfl) (cX Fv hr T.yc T.vv.kp T.zM (ae (pv 0) (ae (pv 1) (ae (pv 5) (ae (pv 6) (ae (pv 4) ag)))))))
      (ar (jt 8 ["_law_k"] ["_law_bag_here", "_law_n", "_law_wide"] [0, 1, 4] dX.nd rfl rfl (cy rfl T.range (ae (pv 2) ag)) (fun _ => (aO (i := 0) (show List.Nodup (α := PySem.Str) ["_law_k", "_law_bag_here", "_law_n", "_law_wide"] by decide +kernel))) (fun _ => cC) (fun _ => (cX tQ hr T.pJ T.o6.kp T.tE (ae (pv 1) (ae (pv 2) (ae (pv 3) ag))))))
      (ar (jt 9 ["_law_k"] ["_law_bag_here", "_law_n", "_law_wide"] [0, 1, 4] dX.nd rfl rfl (cy rfl T.range (ae (pv 3) ag)) (fun _ => (aO (i := 0) (show List.Nodup (α := PySem.Str) ["_law_k", "_law_bag_here", "_law_n", "_law_wide"] by decide +kernel))) (fun _ => cC) (fun _ => (cX tQ hr T.pJ T.o6.kp T.tE (ae (pv 1) (ae (pv 2) (ae (pv 3) ag))))))
      (ar (dZ PassesOwn.never rfl (cy rfl T.range (ae (pv 1) ag)) (aO (i := 10) dX.nd)
        (ar (dZ PassesOwn.never rfl (cK (pv 8)) (aO (i := 11) dX.nd)
        (aA (dm (PW.pt (pE (PW.pt (jB (bE eK (pv 5) ao (bK _)) (kg (bE Cz (pv 10) (pv 6) (bK _))))) (ke (PW.pt (jB (bE eK (pv 5) ao (bK _)) (jB (bE uL (bI eY (pv 10) ao) (pv 1) (bK _)) (kg (bE eK (cX j4 hr T.aT T.be.kp T.br (ae (pv 0) (ae ao ag))) ao (bK _))))))))) (aA (fz (cW (ae ao (ae ao ag))) (ip (pv 11) (pv 10) set_list))) b7)))
      (aA (dZ PassesOwn.never rfl (cK (pv 9)) (aO (i := 11) dX.nd)
        (aA (dm (PW.pt (pE (PW.pt (jB (bE eK (pv 5) ao (bK _)) (kg (bE Cz (pv 10) (pv 6) (bK _))))) (ke (PW.pt (jB (bE eK (pv 5) ao (bK _)) (jB (bE wG (pv 10) ao (bK _)) (kg (bE eK (cX j4 hr T.aT T.be.kp T.br (ae (pv 0) (ae ao ag))) ao (bK _))))))))) (aA (fz (cW (ae ao (ae ao ag))) (ip (pv 11) (pv 10) set_list))) b7))))))
      (aA (aW (cX Em hr T.rg T.ow.kp T.tF (ae (pv 0) (ae (pv 7) (ae (pv 8) (ae (pv 9) ag))))))))))))), ?_⟩
    refine aR (σ := [some (.ref b), some (.int n), some (.int i), some (.int o), some (.int w), none, none, none, none, none, none, none]) rfl ?_;have W1 : 1 ≤ max w 6 := by lia
    obtain ⟨q0, I0, xs0, gq0⟩ := hB.inner;walk_at "w";refine ⟨b, 6, rfl, hB, by decide, by decide, fun way H1 a0 a1 B1 u1 => ?_⟩;walk_at "w";refine ⟨b, _, rfl, B1, by lia, by lia, fun first H2 f0 f1 B2 u2 => ?_⟩;have u02 := u1.trans u2;walk_at "w";refine ⟨b, n, w, way, first, rfl, B2, n8, w0, w1, fun m us H3 nm0 gm lm ndm rm B3 u3 => ?_⟩;have u03 := u02.trans u3;walk_at "w";refine ⟨by lia, by lia, ?_⟩;refine CU (n := i) (b := b) (dn K H3) (fun xs => xs.length = n /\ ∀ x ∈ xs, Dr (max w 6) x) B3 (by lia) (fun a u B => a.upto u B B3.at) (fun ⟨q, e, _, _, g, _⟩ => ⟨q, e, by rw [g]; exact fun z => nomatch z⟩) ?_ ?_
    · rintro s H' NY NN hi u B k1;walk_at "w";exact ⟨b, n, w, rfl, B, by lia, w0, w1, fun r xs H2 nr R lx dx B2 u2 => k1 _ xs _ u2 B2 ⟨lx, dx⟩ ⟨r, rfl, u.none B nr, R⟩ ⟨r, rfl, nr⟩⟩
    rintro ws puts H4 p np u4 B4 gp lp ndp hp pr4 nx4;have u04 := u03.trans u4;walk_at "w";refine ⟨by lia, by lia, ?_⟩;refine CU (n := o) (b := b) (dn K H4) (fun xs => xs.length = n /\ ∀ x ∈ xs, Dr (max w 6) x) B4 (by lia) (fun a u B => a.upto u B B4.at) (fun ⟨q, e, _, _, g, _⟩ => ⟨q, e, by rw [g]; exact fun z => nomatch z⟩) ?_ ?_
    · rintro s H' NY NN hi u B k1;walk_at "w";exact ⟨b, n, w, rfl, B, by lia, w0, w1, fun r xs H2 nr R lx dx B2 u2 => k1 _ xs _ u2 B2 ⟨lx, dx⟩ ⟨r, rfl, u.none B nr, R⟩ ⟨r, rfl, nr⟩⟩
    rintro vs looks H5 l nl u5 B5 gl ll ndl hl pr5 nx5;have u05 := u04.trans u5;have hm0 : H m = none := u02.none B2 nm0;have hp0 : H p = none := u03.none B3 np;have hl0 : H l = none := u04.none B4 nl;have mb : m ≠ b := fun z => B2.at (by rw [<- z]; exact nm0)
    have pb : p ≠ b := fun z => B3.at (by rw [<- z]; exact np)
    have lb : l ≠ b := fun z => B4.at (by rw [<- z]; exact nl)
    have gm4 := u4.other mb gm;have gm5 := u5.other mb gm4;have gp5 := u5.other pb gp;have mp : m ≠ p := fun z => by rw [z, np] at gm; cases gm
    have ml : m ≠ l := fun z => by rw [z, nl] at gm4; cases gm4
    have pl : p ≠ l := fun z => by rw [z, nl] at gp; cases gp
    have mq : m ≠ q0 := fun z => Inner.at B2 (u02.2 _ I0) (by rw [<- z]; exact nm0)
    obtain ⟨A, eA⟩ : ∃ A : Addr → Prop, A = fun q => H q = none /\ q ≠ m /\ q ≠ p /\ q ≠ l := ⟨_, rfl⟩
    have mkA : ∀ {q}, H q = none → q ≠ m → q ≠ p → q ≠ l → A q := fun h1 h2 h3 h4 => by rw [eA]; exact ⟨h1, h2, h3, h4⟩
    have unA : ∀ {q}, A q → H q = none /\ q ≠ m /\ q ≠ p /\ q ≠ l := fun h => by rw [eA] at h; exact h
    have MA : Fu A m p l b q0 := ⟨fun z => (unA z).2.1 rfl, fun z => (unA z).2.2.1 rfl, fun z => (unA z).2.2.2 rfl, fun z => hB.at (unA z).1, (fun z => by have z1 := (unA z).1; rw [gq0] at z1; cases z1), mb, pb, lb, mp, ml, mq⟩;clear eA;have lws : ws.length = i := by rw [<- pr4.length]; exact lp
    have lvs : vs.length = o := by rw [<- pr5.length]; exact ll
    have alM : ∀ q, V.ref q ∈ us → H3 q ≠ none /\ q ≠ b /\ H4 q ≠ none := fun q hq => by
      obtain ⟨q', qs, e, ⟨a1, a2⟩, r, z⟩ := rm _ hq;cases e;have qb : q ≠ b := fun y => B2.at (by rw [<- y]; exact a1)
      obtain ⟨xq, gq, _⟩ := id r;obtain ⟨xq4, gq4, _⟩ := r.upto u4 B3 qb;exact ⟨(by rw [gq]; exact fun z => nomatch z), qb, (by rw [gq4]; exact fun z => nomatch z)⟩
    have alP : ∀ q, V.ref q ∈ ws → H3 q = none /\ H4 q ≠ none := fun q hq => by
      obtain ⟨_, _, q', e, a, _, g, _⟩ := dk pr4 hq;cases e;exact ⟨a, by rw [g]; exact fun z => nomatch z⟩
    have alL : ∀ q, V.ref q ∈ vs → H4 q = none := fun q hq => by
      obtain ⟨_, _, q', e, a, _⟩ := dk pr5 hq;cases e;exact a
    have isR : ∀ x, x ∈ us \/ x ∈ ws \/ x ∈ vs → ∃ q, x = V.ref q := fun x hx => by
      rcases hx with hx | hx | hx
      · obtain ⟨q, _, e, _⟩ := rm x hx; exact ⟨q, e⟩
      · obtain ⟨_, _, q, e, _⟩ := dk pr4 hx; exact ⟨q, e⟩
      · obtain ⟨_, _, q, e, _⟩ := dk pr5 hx; exact ⟨q, e⟩
    have nd : (us ++ vs ++ ws).Nodup := by
      refine dN.mpr ⟨dN.mpr ⟨ndm, ndl, fun x hx y hy e => ?_⟩, ndp, fun x hx y hy e => ?_⟩
      · subst e;obtain ⟨q, rfl⟩ := isR x (.inl hx);exact (alM q hx).2.2 (alL q hy)
      · subst e;obtain ⟨q, rfl⟩ := isR x (.inr (.inl hy));rcases au.mp hx with hx | hx
        · exact (alM q hx).1 (alP q hy).1
        · exact (alP q hy).2 (alL q hx)
    have X5 : GY K A n (Dr (max w 6)) m p l b q0 us ws vs H H5 := by
      refine ⟨⟨B5, u05.2 _ I0, gm5, gp5, gl, lm, fun x hx => ?_, nd⟩, gp5, gl, fun c u e n1 _ _ => u05.1 c u e n1⟩;rcases au.mp hx with hx | hx
      · rcases au.mp hx with hx | hx
        · obtain ⟨q, qs, e, ⟨a1, a2⟩, r, z⟩ := rm x hx;obtain ⟨xq, gq, _⟩ := id r;have qb : q ≠ b := fun y => B2.at (by rw [<- y]; exact a1)
          have r4 := r.upto u4 B3 qb;obtain ⟨xq4, gq4, _⟩ := id r4;exact ⟨q, qs, e, mkA (u02.none B2 a1) a2 (fun y => by rw [y, np] at gq; cases gq) (fun y => by rw [y, nl] at gq4; cases gq4), r4.upto u5 B4 qb, z⟩
        · refine KI (A := A) pr5 hl (fun q hq a b' => ?_) x hx;exact mkA (u04.none B4 a) (fun y => by rw [y, gm4] at a; cases a) (fun y => by rw [y, gp] at a; cases a) (fun y => kj nx5 (by rw [<- y]; exact hq))
      · refine fH.upto (KI (A := A) pr4 hp (fun q hq a b' => ?_) x hx) u5 B4 MA.ab;exact mkA (u03.none B3 a) (fun y => by rw [y, gm] at a; cases a) (fun y => kj nx4 (by rw [<- y]; exact hq)) (fun y => b' (by rw [y]; exact nl))
    clear alM alP alL isR rm pr4 pr5 nx4 nx5 gm gm4 gm5 gp gp5 gl hp hl;walk_at "w";refine ⟨by lia, by lia, ?_⟩;refine fb (n := n) (fun kk σ' H' => (∃ x1 x2, σ' = [some (.ref b), some (.int n), some (.int i), some (.int o), some (.int w), some (.int way), some (.int first), some (.ref m), some (.ref p), some (.ref l), x1, x2]) /\ GY K A n (Dr (max w 6)) m p l b q0 us ws vs H H') ⟨⟨_, _, rfl⟩, X5⟩ ?_ ?_
    · rintro kk σ' Hj hk ⟨⟨x1, x2, rfl⟩, X⟩;walk_at "w";refine ⟨⟨_, bU.of X.gp⟩, ?_⟩;refine iw (K := K) (a := p) (xs := ws) (fun s σ' H' => (∃ x2, σ' = [some (.ref b), some (.int n), some (.int i), some (.int o), some (.int w), some (.int way), some (.int first), some (.ref m), some (.ref p), some (.ref l), some (.int kk), x2]) /\ GY K A n (Dr (max w 6)) m p l b q0 us ws vs H H') ⟨⟨_, rfl⟩, X⟩ (fun s σ' H' _ ⟨_, e⟩ => bU.of e.gp) ?_ ?_
      · rintro s x σ' Hk hx ⟨⟨y2, rfl⟩, X⟩;have mx := ax hx;obtain ⟨q, _, rfl, _⟩ := X.row (.inl mx)
        repeat' (first | walk_at "rd" | refine gZ (fun _ => ?_) (fun _ => ?_))
        all_goals first
          | exact ⟨⟨_, rfl⟩, X⟩
          | (refine cg fun t Hb sb gb => ?_
             walk_at "w";obtain ⟨zs, gz, lz, Xz⟩ := (X.same sb).put MA (.inl mx) (cx.mk (q := 0) gb rfl) (uW (i := 0) (bA _) W1) kk;refine fk gz (fI (by lia)) rfl ?_;exact ⟨⟨_, rfl⟩, Xz⟩)
          | (refine ⟨b, 2, rfl, X.mix.bag, by decide, by decide, fun d Hd d0 d1 Bd ud => ?_⟩
             replace X := X.upto MA ud Bd
             repeat' (first | walk_at "rd" | refine gZ (fun _ => ?_) (fun _ => ?_))
             all_goals first
               | exact ⟨⟨_, rfl⟩, X⟩
               | (refine cg fun t Hb sb gb => ?_
                  walk_at "w";obtain ⟨zs, gz, lz, Xz⟩ := (X.same sb).put MA (.inl mx) (cx.mk (q := 0) gb rfl) (uW (i := 0) (bA _) W1) kk;refine fk gz (fI (by lia)) rfl ?_;exact ⟨⟨_, rfl⟩, Xz⟩))
      · rintro σ' Hk ⟨⟨y2, rfl⟩, X⟩;walk_at "w";refine ⟨⟨_, bU.of X.gl⟩, ?_⟩;refine iw (K := K) (a := l) (xs := vs) (fun s σ' H' => (∃ x2, σ' = [some (.ref b), some (.int n), some (.int i), some (.int o), some (.int w), some (.int way), some (.int first), some (.ref m), some (.ref p), some (.ref l), some (.int kk), x2]) /\ GY K A n (Dr (max w 6)) m p l b q0 us ws vs H H') ⟨⟨_, rfl⟩, X⟩ (fun s σ' H' _ ⟨_, e⟩ => bU.of e.gl) ?_ ?_
        · rintro s x σ' Hk hx ⟨⟨y2, rfl⟩, X⟩;have mx := ax hx;obtain ⟨q, _, rfl, _⟩ := X.row (.inr mx)
          repeat' (first | walk_at "rd" | refine gZ (fun _ => ?_) (fun _ => ?_))
          all_goals first
            | exact ⟨⟨_, rfl⟩, X⟩
            | (refine cg fun t Hb sb gb => ?_
               walk_at "w";obtain ⟨zs, gz, lz, Xz⟩ := (X.same sb).put MA (.inr mx) (cx.mk (q := 0) gb rfl) (uW (i := 0) (bA _) W1) kk;refine fk gz (fI (by lia)) rfl ?_;exact ⟨⟨_, rfl⟩, Xz⟩)
            | (refine ⟨b, 2, rfl, X.mix.bag, by decide, by decide, fun d Hd d0 d1 Bd ud => ?_⟩
               replace X := X.upto MA ud Bd
               repeat' (first | walk_at "rd" | refine gZ (fun _ => ?_) (fun _ => ?_))
               all_goals first
                 | exact ⟨⟨_, rfl⟩, X⟩
                 | (refine cg fun t Hb sb gb => ?_
                    walk_at "w";obtain ⟨zs, gz, lz, Xz⟩ := (X.same sb).put MA (.inr mx) (cx.mk (q := 0) gb rfl) (uW (i := 0) (bA _) W1) kk;refine fk gz (fI (by lia)) rfl ?_;exact ⟨⟨_, rfl⟩, Xz⟩))
        · rintro σ' Hk ⟨⟨y2, rfl⟩, X⟩;exact ⟨⟨_, _, rfl⟩, X⟩
    · rintro σ' Hj ⟨⟨x1, x2, rfl⟩, X⟩
      obtain ⟨M1, M2, M3, V0, a1, a2, a3, V2, hcs, R1, R2, R3⟩ : ∃ M1 M2 M3 V0 : Nat, (0 < M1 /\ M1 ≤ 2 ^ 800) /\ (0 < M2 /\ M2 ≤ 2 ^ 800) /\ (0 < M3 /\ M3 ≤ 2 ^ 800) /\ V0 ≤ 2 ^ 20 /\ ((w ≤ 9 /\ M1 = 2520 /\ M2 = 2520 /\ M3 = 2520 /\ V0 = 9) \/ (9 < w /\ M1 ≤ 2 ^ (c * (n * n)) /\ M2 ≤ 2 ^ (c * (i * n)) /\ M3 ≤ 2 ^ (c * (o * n)) /\ V0 = 2 ^ c)) /\ (∀ x ∈ us, fH K A Hj n (Fr M1 V0) x) /\ (∀ x ∈ ws, fH K A Hj n (Fr M2 V0) x) /\ ∀ x ∈ vs, fH K A Hj n (Fr M3 V0) x := by
        by_cases w9 : w ≤ 9
        · have XM := X.mix.weak (C' := fun _ => Fr 2520 9) fun _ _ y h => Qg ⟨ai h.1 (by lia), ai h.2 (by lia)⟩ (Nat.dvd_refl _)
          have z : 0 < 2520 /\ 2520 ≤ 2 ^ 800 := ⟨by decide, ai (show 2520 ≤ 2 ^ 12 by decide) (av (by decide) (by decide))⟩;exact ⟨2520, 2520, 2520, 9, z, z, z, by decide, .inl ⟨w9, rfl, rfl, rfl, rfl⟩, fun x hx => XM.row x (by simp [hx]), fun x hx => XM.row x (by simp [hx]), fun x hx => XM.row x (by simp [hx])⟩
        · obtain ⟨M1, M2, M3, a1, a2, a3, b1, b2, b3, R1, R2, R3⟩ := (X.mix.weak (C' := fun _ => Dr (2 ^ c)) fun _ _ y h => ⟨ai h.1 hc, ai h.2 hc⟩).fr3;rw [lws] at b2;rw [lvs] at b3;have up : ∀ {M k : Nat}, M ≤ 2 ^ (c * k) → k ≤ (n + i + o) * n → M ≤ 2 ^ 800 := fun h hk => ai h (av (by decide) (ai (aX _ hk) hcM))
          exact ⟨M1, M2, M3, 2 ^ c, ⟨a1, up b1 (az _ (by lia))⟩, ⟨a2, up b2 (az _ (by lia))⟩, ⟨a3, up b3 (az _ (by lia))⟩, av (by decide) hc20, .inr ⟨by lia, b1, b2, b3, rfl⟩, R1, R2, R3⟩
      obtain ⟨μ, e2, e3, e1, e4⟩ := La ws vs M1 M2 M3;obtain ⟨ap1, ap2⟩ := X.mix.apart
      have XM : kH K A Hj n (fun x => Fr (μ x) V0) m p l b q0 us ws vs := by
        refine ⟨X.mix.bag, X.mix.inn, X.mix.gm, X.mix.gp, X.mix.gl, X.mix.lm, fun x hx => ?_, X.mix.nd⟩;rcases au.mp hx with hx | hx
        · rcases au.mp hx with hx | hx
          · rw [e1 x (ap1 x hx).1 (ap1 x hx).2]; exact R1 x hx
          · rw [e3 x hx (ap2 x hx)]; exact R3 x hx
        · rw [e2 x hx]; exact R2 x hx
      have p1 : ∀ x, 0 < μ x := fun x => by
        rcases e4 x with e | e | e
        · rw [e]; exact a1.1
        · rw [e]; exact a2.1
        · rw [e]; exact a3.1
      have p2 : ∀ x, μ x ≤ 2 ^ 800 := fun x => by
        rcases e4 x with e | e | e
        · rw [e]; exact a1.2
        · rw [e]; exact a2.2
        · rw [e]; exact a3.2
      have gmj := X.mix.gm;walk_at "w";refine ⟨b, m, p, l, q0, n, V0, μ, A, us, ws, vs, rfl, MA, XM, n8, by lia, by lia, p1, p2, ⟨M1, e1⟩, V2, fun q hq => ?_, fun r us' H' g Y kp => ?_⟩
      · refine mkA ?_ (fun z => by rw [z, gmj] at hq; cases hq) (fun z => by rw [z, X.gp] at hq; cases hq) (fun z => by rw [z, X.gl] at hq; cases hq);cases e : H q with
        | none => rfl
        | some u =>
          have := X.kp q u e (fun z => X.mix.bag.at (by rw [<- z]; exact hq)) (fun z => by have := (unA z).1; rw [e] at this; cases this) (fun z => by rw [z, hm0] at e; cases e);rw [hq] at this; cases this
      · obtain ⟨yp1, yp2⟩ := Y.apart;obtain ⟨mv, Gm, lmv, hmv⟩ := lF (H0 := H) (n := n) (C := Fr M1 (9 ^ 3 * V0)) (m := n) ⟨us', Y.gm, Y.lm, MA.am, fun x hx => by have := Y.row x (by simp [hx]); rwa [e1 x (yp1 x hx).1 (yp1 x hx).2] at this⟩ fun q h => (unA h).1
        obtain ⟨pt, Gp, lpt, hpt⟩ := lF (H0 := H) (n := n) (C := Fr M2 (9 ^ 3 * V0)) (m := i) ⟨ws, Y.gp, lws, MA.ap, fun x hx => by have := Y.row x (by simp [hx]); rwa [e2 x hx] at this⟩ fun q h => (unA h).1
        obtain ⟨lk, Gl, llk, hlk⟩ := lF (H0 := H) (n := n) (C := Fr M3 (9 ^ 3 * V0)) (m := o) ⟨vs, Y.gl, lvs, MA.al, fun x hx => by have := Y.row x (by simp [hx]); rwa [e3 x hx (yp2 x hx)] at this⟩ fun q h => (unA h).1
        refine k r mv pt lk H' ⟨m, p, l, g, hm0, hp0, hl0, Gm, Gp, Gl⟩ lmv lpt llk ⟨by lia, by lia, by lia, fun xs hx => by rw [(hmv xs hx).1, lmv], fun xs hx => by rw [(hpt xs hx).1, lmv], fun xs hx => by rw [(hlk xs hx).1, lmv]⟩ ⟨M1, M2, M3, 9 ^ 3 * V0, a1.1, a2.1, a3.1, fun xs hx => (hmv xs hx).2, fun xs hx => (hpt xs hx).2, fun xs hx => (hlk xs hx).2, ?_⟩ Y.bag ⟨fun c' u e n1 => (X.kp.trans kp) c' u e n1 (fun z => by have := (unA z).1; rw [e] at this; cases this) (fun z => by rw [z, hm0] at e; cases e), fun q h => by rw [<- Inner.inj I0 h]; exact Y.inn⟩;rcases hcs with ⟨b1, b2, b3, b4, b5⟩ | ⟨b1, b2, b3, b4, b5⟩
        · exact .inl ⟨b1, b2, b3, b4, by rw [b5]⟩
        · exact .inr ⟨b1, b2, b3, b4, by rw [b5]⟩
theorem il:bu ["_law_bag_here","_law_n","_law_ins","_law_outs","_law_wide"] ["_law_bag_here"] (ay gP):=by walk_at "d"
theorem A5 (T:Txt K mg Z):cU P w K mg base gE 6 Z.mJ Z.mh ["_law_bag_here"] (Mw K):=by
 refine T.rB.ok il (fun vs H Q E h=>?_) (fun cdv A outer s H vs Q E hr h=>?_)
 ·obtain ⟨b,rfl,hB,k⟩:=h;rfl
 ·obtain ⟨b,rfl,hB,k⟩:=h
  refine ⟨_,(ar (fz (cX (Cb T) hr T.wO T.tW.kp T.yA (ae (pv 0) ag)) (xm rfl (cS (aO (i:=1) il.nd) (cS (aO (i:=2) il.nd) (cS (aO (i:=3) il.nd) (cS (aO (i:=4) il.nd) ju))))))
   (ar (dm (bE eK (cX (bo T) hr T.aT T.be.kp T.br (ae (pv 0) (ae ao ag))) ao (bK _)) (ar (dm (bE eK (cX (bo T) hr T.aT T.be.kp T.br (ae (pv 0) (ae ao ag))) ao (bK _)) (aA (aW (cW (ae (cX (xT T) hr T.pH T.lJ.kp T.rV (ae (pv 0) ag)) (ae ao ag))))) b7)
   (aA (aW (cW (ae (cX (sN T) hr T.nC T.mY.kp T.qo (ae (pv 0) (ae (bI eY ao (cX (bo T) hr T.aT T.be.kp T.br (ae (pv 0) (ae ao ag)))) ag))) (ae ao ag)))))) b7)
   (aA (aW (cW (ae (cX (Cc T) hr T.wQ T.tY.kp T.yB (ae (pv 0) (ae (pv 1) (ae (pv 2) (ae (pv 3) (ae (pv 4) ag)))))) (ae (bP (vX rfl) (by rfl) T.min PyProof.Rows.boot_min (ae (pv 4) (ae ao ag))) ag))))))),?_⟩
  refine aR (σ:=[some (.ref b),none,none,none,none]) rfl ?_;have sf:∀{mv pt lk:List (List Rat)} {M V1:Nat},0 < M->M<=2^400->V1<=2^30->GF M V1 mv->GF M V1 pt->GF M V1 lk->JU mv pt lk:=fun h0 h1 h2 a b c=>⟨_,_,h0,h1,ai h2 (av (by decide) (by decide)),a,b,c⟩
  walk_at "w";refine ⟨b,rfl,hB,fun r n i o w H1 g1 n5 i4 o4 hw h5 B1 u1=>?_⟩;walk_at "w";refine ⟨b,16,rfl,B1,by decide,by decide,fun v H2 v0 v1 B2 u2=>?_⟩;have u02:=u1.trans u2;walk_at "w";refine gZ (fun h0=>?_) (fun h0=>?_)
  ·walk_at "w";refine ⟨b,2,rfl,B2,by decide,by decide,fun v2 H3 _ _ B3 u3=>?_⟩;have u03:=u02.trans u3;walk_at "w";refine gZ (fun h1=>?_) (fun h1=>?_)
   ·walk_at "w";refine ⟨b,rfl,B3,fun r4 mv pt lk H4 P4 l6 D fm fp fl B4 u4=>?_⟩;walk_at "w";refine cg fun t H5 s5 g5=>?_
    exact k t r4 4 0 13 mv pt lk H5 g5 ((P4.weak fun q h=>u03.none B3 h).same s5) D (sf (by decide) ck (by decide) fm fp fl) (pM (n0:=8) (by decide) (by decide) D.n8 (by decide) fm fp (by decide)) (.inl ⟨by decide,by decide,by decide,by decide,by decide,fm,fp,ai (az _ (show mv.length+4<=12 by have:=D.n8;lia)) (by decide)⟩) (by decide) (by decide) (B4.same s5) ((u03.trans u4).same s5)
   ·walk_at "w";refine ⟨b,3,rfl,B3,by decide,by decide,fun v3 H4 v30 v31 B4 u4=>?_⟩;obtain ⟨v3,rfl⟩:=cw v30;have u04:=u03.trans u4;walk_at "w";rw[show ((6:Int)+(v3:Int))=((6+v3:Nat):Int) by lia];refine ⟨b,6+v3,rfl,B4,by lia,by lia,fun r4 mv pt lk H5 P5 lm _ _ D fm fp fl B5 u5=>?_⟩;walk_at "w";refine cg fun t H6 s6 g6=>?_
    exact k t r4 4 0 4 mv pt lk H6 g6 ((P5.weak fun q h=>u04.none B4 h).same s6) D (sf (by decide) ck (by decide) fm fp fl) (pM (n0:=8) (by decide) (by decide) D.n8 (by decide) fm fp (by decide)) (.inl ⟨by decide,by decide,by decide,by decide,by decide,(fun xs hx x hx'=>(fm xs hx x hx').mono (by decide)),(fun xs hx x hx'=>(fp xs hx x hx').mono (by decide)),ai (az _ (show mv.length+4<=12 by have:=D.n8;lia)) (by decide)⟩) (by decide) (by decide) (B5.same s6) ((u04.trans u5).same s6)
  ·obtain ⟨c,hc,hc20,hcM⟩:∃c:Nat,max w 6<=2^c/\c<=20/\c*((n+i+o)*n)<=800/\(9 < w->c=20/\(n+i+o)*n<=20/\n<=2):=by
    have m1:(n+i+o)*n<=13*5:=aL (by lia) n5;rcases hw with rfl | rfl | ⟨rfl,n2⟩
    ·exact ⟨4,by decide,by decide,by lia,fun z=>by lia⟩
    ·exact ⟨4,by decide,by decide,by lia,fun z=>by lia⟩
    ·have m2:(n+i+o)*n<=10*2:=aL (by lia) n2;exact ⟨20,by decide,by decide,by lia,fun _=>⟨rfl,by lia,n2⟩⟩
   obtain ⟨hcM,hbig⟩:=hcM;walk_at "w";refine ⟨b,n,i,o,w,c,rfl,B2,by lia,i4,o4,by lia,by lia,hc,hc20,hcM,fun r4 mv pt lk H4 P4 lm lp ll D PF B4 u4=>?_⟩;have hmin:(if (1000:Int) < (w:Int) then (1000:Int) else (w:Int))=((min w 1000:Nat):Int):=by split <;> lia
   have PG:=PF;obtain ⟨M,V1,M0,fm,fp,fl,hcs⟩:=PF.n
   obtain ⟨a',c',KF,SF⟩:∃a' c',mV mv pt a' c'/\JU mv pt lk:=by
    rcases hcs with ⟨w9,rfl,rfl⟩ | ⟨w9,M1,rfl⟩
    ·exact ⟨12,16,pM (n0:=5) (by decide) (by decide) (by lia) (by decide) fm fp (by decide),sf (by decide) (ai (show 2520<=2^12 by decide) (av (by decide) (by decide))) (by decide) fm fp fl⟩
    ·obtain ⟨rfl,e1,e2⟩:=hbig w9;have M4:M<=2^400:=ai M1 (av (by decide) (by lia));exact ⟨400,32,pM (n0:=2) M0 M4 (by lia) (by decide) fm fp (by decide),sf M0 M4 (by decide) fm fp fl⟩
   have RG:Rg mv pt (min w 1000):=by
    obtain ⟨M1,M2,M3,V1,a1,a2,a3,f1,f2,f3,hc'⟩:=PG;rcases hc' with ⟨w9,rfl,rfl,_,rfl⟩ | ⟨w9,b1,b2,_,rfl⟩
    ·exact .inr (.inl ⟨by lia,by lia,by decide,by decide,by decide,by decide,f1,f2,ai (az _ (show mv.length+4<=9 by lia)) (by decide)⟩)
    ·obtain ⟨rfl,e1,e2⟩:=hbig w9;have q1:n*n<=2*2:=aL e2 e2;have q2:i*n<=4*2:=aL i4 e2;have w6:w=1000000:=by lia
     exact .inr (.inr ⟨by lia,by lia,M1,M2,a1,a2,ai b1 (av (by decide) (by lia)),ai b2 (av (by decide) (by lia)),f1,f2,ai (az _ (show mv.length+4<=6 by lia)) (by decide)⟩)
   walk_at "w";refine cg fun t H5 s5 g5=>?_
   rw[hmin] at g5;exact k t r4 (min w 1000) a' c' mv pt lk H5 g5 ((P4.weak fun q h=>u02.none B2 h).same s5) D SF KF RG (by lia) (by lia) (B4.same s5) ((u02.trans u4).same s5)
theorem AR:bu ["_law_grid"] ["_law_grid"] (ay gU):=by walk_at "d"
theorem oS (T:Txt K mg Z):cU P w K mg base gE 1 Z.mM Z.mo ["_law_grid"] (FP K):=by
 refine T.jr.ok AR (fun vs H Q E h=>?_) (fun cdv A outer s H vs Q E hr h=>?_)
 ·obtain ⟨p,H0,rows,rfl,hp,hl,hm,k⟩:=h;rfl
 ·obtain ⟨p,H0,rows,rfl,hp,hl,hm,k⟩:=h;refine ⟨_,(aA (aW (cF ["_law_row_here"] [] [] (cK (pv 0)) (fun _=>(aO (i:=0) (show List.Nodup (α:=PySem.Str) ["_law_row_here"] by decide +kernel))) (fun _=>cC) (fun _=>(dO (fD K (by rfl)) (by rfl) T.list PyProof.Rows.boot_list (ae (pv 0) ag)))))),?_⟩;refine aR (σ:=[some (.ref p)]) rfl ?_;obtain ⟨xs,gx,qx,_⟩:=id hp;walk_at "w";refine ⟨⟨_,bU.of gx⟩,?_⟩;refine dS (K:=K) (F:=dn K H0) (dn K H) id gx qx hl (fun a b=>a.same b) (fun a b=>a.same b) ?_ ?_
  ·rintro i ns x H' NY NN en s ⟨u,rfl,_,zs,gz,qz⟩ k1;walk_at "w";refine ⟨u,zs,rfl,.inl (bU.of gz),fun l1 hl1=>?_⟩;exact k1 _ _ (aJ.new hl1) ⟨l1,rfl,s.none hl1,zs,aK,Paired.imp' (fun _ _ z=>z.same (aJ.new hl1)) qz⟩
  ·rintro ys' H' r hr s g pr nx;rw[o9] at pr nx;exact k r H' hr s ⟨ys',g,pr,kj nx⟩
theorem Dw:bu ["_law_parts_here"] ["_law_parts_here"] (ay jT):=by walk_at "d"
theorem DM (T:Txt K mg Z):cU P w K mg base gE 7 Z.qK Z.pY ["_law_parts_here"] (FI K Z.a_System):=by
 refine T.vw.ok Dw (fun vs H Q E h=>?_) (fun cdv A outer s H vs Q E hr h=>?_)
 ·obtain ⟨r,H0,mv,pt,lk,rfl,PQ,D,F,k⟩:=h;rfl
 ·obtain ⟨r,H0,mv,pt,lk,rfl,PQ,D,F,k⟩:=h;refine ⟨_,(aA (aW (HN T.mk_System (oU T) (hr.mono (by decide)) rfl T.mg_System T.kC .nil HR (ae (cX (oS T) hr T.kv T.jr.kp T.mD (ae (aV bS (pv 0) ao) ag)) (ae (cX (oS T) hr T.kv T.jr.kp T.mD (ae (aV bS (pv 0) ao) ag)) (ae (cX (oS T) hr T.kv T.jr.kp T.mD (ae (aV bS (pv 0) ao) ag)) ag)))))),?_⟩;refine aR (σ:=[some (.ref r)]) rfl ?_;obtain ⟨m,p,l,g,n1,n2,n3,Gm,Gp,Gl⟩:=id PQ;have d1:=D.n8;have d2:=D.i4;have d3:=D.o4;walk_at "w";refine ⟨m,H0,mv,rfl,Gm,by lia,fun xs hx=>by rw[D.mw xs hx];lia,fun a H1 na s1 Ga=>?_⟩;have g1:=s1 _ _ g;walk_at "w";refine ⟨p,H0,pt,rfl,Gp.same s1,by lia,fun xs hx=>by rw[D.pw xs hx];lia,fun b H2 nb s2 Gb=>?_⟩;have s12:=s1.trans s2;have g2:=s12 _ _ g;walk_at "w";refine ⟨l,H0,lk,rfl,Gl.same s12,by lia,fun xs hx=>by rw[D.lw xs hx];lia,fun c H3 nc s3 Gc=>?_⟩;have s13:=s12.trans s3;walk_at "w";intro x dx nx ndx nex;exact ⟨x,dx,a,b,c,H3,H,H1,H2,mv,pt,lk,rfl,nx,ndx,nex,rfl,(Ga.same s2).same s3,Gb.same s3,Gc,D,F.ok.1,F.ok.2.1,F.ok.2.2,fun H' s' S'=>⟨rfl,k x H' (s13.none nx) (s13.trans s') (S'.weak s13)⟩⟩
theorem lS:bu ["_law_bag_here","_law_parts_here","_law_bottoms","_law_row_here"] ["_law_bag_here","_law_parts_here"] (ay iK):=by walk_at "d"
theorem Ca (T:Txt K mg Z):cU P w K mg base gE 2 Z.oa Z.nK ["_law_bag_here","_law_parts_here"] (IS K):=by
 refine T.tV.ok lS (fun vs H Q E h=>?_) (fun cdv A outer s H vs Q E hr h=>?_)
 ·obtain ⟨b,r,H0,mv,pt,lk,rfl,hB,nb,PQ,D,sz,k⟩:=h;rfl
 ·obtain ⟨b,r,H0,mv,pt,lk,rfl,hB,nb,PQ,D,sz,k⟩:=h
  refine ⟨_,(ar (bc (i:=2) lS.nd rfl (Or.inl rfl) (dr (ae ao ag)))
   (ar (dZ PassesOwn.never rfl (cK (bI jF (aV bS (pv 1) ao) (aV bS (pv 1) ao))) (aO (i:=3) lS.nd)
    (aA (bc (i:=2) lS.nd rfl (Or.inl rfl) (bI jF (pv 2) (cF ["_law_one"] [] [] (cK (pv 3)) (fun _=>(aO (i:=0) (show List.Nodup (α:=PySem.Str) ["_law_one"] by decide +kernel))) (fun _=>cC) (fun _=>(bI eY (aV (vN K (by rfl)) (pv 0) ao) (bI dc (bI jl (bP yw (by rfl) T.abs PyProof.Rows.boot_abs (ae (aV (vN K (by rfl)) (pv 0) ao) ag)) ao) ao))))))))
   (ar (dm (bE wG (bP (JQ rfl) (by rfl) T.max PyProof.Rows.boot_max (ae (pv 2) ag)) ao (bK _)) (aA (aW (cX (bo T) hr T.aT T.be.kp T.br (ae (pv 0) (ae ao ag))))) b7)
   (ar (dm (bE wG (bP bC (by rfl) T.len bg (ae (aV bS (pv 1) ao) ag)) ao (bK _)) (aA (aW (aV bW (dr (ae (cX (bo T) hr T.aT T.be.kp T.br (ae (pv 0) (ae ao ag))) (ae (bP bC (by rfl) T.len bg (ae (aV bS (pv 1) ao) ag)) ag))) (cX (bo T) hr T.aT T.be.kp T.br (ae (pv 0) (ae ao ag)))))) b7)
   (ar (dm (PW.pt (jB (bE uL (bP bC (by rfl) T.len bg (ae (aV bS (pv 1) ao) ag)) ao (bK _)) (kg (bE eK (cX (bo T) hr T.aT T.be.kp T.br (ae (pv 0) (ae ao ag))) ao (bK _))))) (aA (aW (cX (bo T) hr T.aT T.be.kp T.br (ae (pv 0) (ae ao ag))))) b7)
   (aA (aW (cX (bo T) hr T.aT T.be.kp T.br (ae (pv 0) (ae (bI eY ao (bP bC (by rfl) T.len bg (ae (aV bS (pv 1) ao) ag))) ag)))))))))),?_⟩
  refine aR (σ:=[some (.ref b),some (.ref r),none,none]) rfl ?_;have d8:=D.n8;have i4:=D.i4;obtain ⟨m,p,l,g,n1,n2,n3,Gm,Gp,Gl⟩:=id PQ;obtain ⟨um,gm,qm,_⟩:=id Gm;obtain ⟨up,gp,qp,_⟩:=id Gp;have lum:=qm.length;have lup:=qp.length;walk_at "w";refine cR fun bl0 H1 s1 nbl g1=>?_
  have g':=s1 _ _ g;walk_at "w";refine jA (s1 _ _ gm) (s1 _ _ gp) (aS (bG (by lia))) fun cc H2 s2 nc gc=>?_
  have s02:=s1.trans s2;have qc:Paired (dn K H0 H2) (mv++pt) (um++up):=Paired.imp' (fun _ _ z=>dn.same z s02) (bT qm qp)
  have wc:∀xs∈mv++pt,xs.length=mv.length:=fun xs hx=>by
   rcases au.mp hx with hx | hx
   ·exact D.mw xs hx
   ·exact D.pw xs hx
  have lc:(mv++pt).length=(um++up).length:=qc.length;rw[ak,ak] at lc;walk_at "w";refine ⟨⟨_,bU.of gc⟩,?_⟩;refine iw (K:=K) (a:=cc) (xs:=um++up) (fun i σ' H'=>aJ H2 H'/\∃bl ns y,σ'=[some (.ref b),some (.ref r),some (.ref bl),y]/\H' bl=some (.lst (ns.map V.int))/\1<=ns.length/\ns.length<=1+i*8/\∀j xs,j < i->(mv++pt)[j]?=some xs->∀x∈xs,Qw x∈ns) ⟨aJ.refl _,bl0,[1],_,rfl,s2 _ _ g1,by decide,by decide,fun j xs h=>absurd h (fv _)⟩ (fun i σ' H' _ ⟨e,_⟩=>bU.of (e _ _ gc)) ?_ ?_
  ·rintro i v σ' H' hv ⟨e,bl,ns,y,rfl,gb,b1,b2,hn⟩;obtain ⟨xs,exs,u,rfl,_,zs,gz,qz⟩:=cE qc hv;have mx:=ax exs;have wx:=wc xs mx;have hi:i < (um++up).length:=(aI.mp hv).1;rw[ak] at hi;walk_at "w";refine ⟨⟨_,bU.of (e _ _ gz)⟩,?_⟩;refine dS (K:=K) (F:=cx K) (fun _ c x=>x=V.int (Qw c)) id (e _ _ gz) (Paired.imp' (fun _ _ z=>z.same e) qz) (by lia) (fun a b=>a.same b) (fun a _=>a) ?_ ?_
   ·rintro j c x Ha NY NN ec sa ⟨pp,rfl,hp⟩ k1;have mc:=ax ec;have szc:=sz xs mx c mc;walk_at "w"
    have e1:(if (nm c).1 < 0 then -(nm c).1 else (nm c).1)=(c.num.natAbs:Int):=by
     show (if c.num < 0 then -c.num else c.num)=_
     split <;> lia
    have e2:(c.num.natAbs:Int).fdiv 1000=(c.num.natAbs:Int) / 1000:=cB _ (by decide);rw[e1];refine fw (show rY _ _ from ⟨by decide,bM (show (1000:Int).natAbs < 2^20 by decide) (av (by decide) (by decide))⟩) ?_;rw[e2];walk_at "w";exact k1 _ _ (aJ.refl _) rfl
   rintro ys Hb cl hcl sb gcl prl _
   have ey:ys=(xs.map Qw).map V.int:=by
    rw[o9] at prl;rw[qV];exact Cy prl
   have ly:=prl.length;rw[aj] at ly;have gbb:=sb _ _ gb;rw[ey] at gcl;walk_at "w";refine jA gbb gcl (aS (bG (by rw[aj,aj,aj];lia))) fun c2 Hc sc nc2 gc2=>?_
   rw[<- cI] at gc2;refine ⟨(e.trans sb).trans sc,c2,ns++xs.map Qw,_,rfl,gc2,by rw[ak];lia,by rw[ak,aj];lia,fun j ys' hj ej x hx=>?_⟩;rcases cP j i with z | z
   ·exact kO _ (hn j ys' z ej x hx)
   ·have:j=i:=by lia
    subst this;rw[exs] at ej;cases ej;exact bV _ (aB.mpr ⟨x,hx,rfl⟩)
  ·rintro σ' H' ⟨e,bl,ns,y,rfl,gb,b1,b2,hn⟩;have e0:=s02.trans e;have B':=hB.same e0;have PQ':=PQ.same e0;obtain ⟨m',p',l',g2,_,_,_,Gm',_,_⟩:=id PQ'
   have em:m'=m:=by
    have:=e0 _ _ g;rw[this] at g2;cases g2;rfl
   subst em;obtain ⟨um',gm',qm',_⟩:=id Gm';have lum':=qm'.length;have u0:dg b H H':=e0.upto;walk_at "w";refine ⟨bl,ns,rfl,bU.of gb,by lia,fun M hM hmax=>?_⟩;walk_at "w";refine gZ (fun h=>?_) (fun h=>?_)
   ·walk_at "w";refine ⟨b,4,rfl,B',by decide,by decide,fun v H3 v0 v1 B3 u3=>?_⟩;obtain ⟨v,rfl⟩:=cw v0;exact k v H3 ⟨by lia,.inl (by lia)⟩ B3 (u0.trans u3)
   ·have M9:M<=9:=by rw[decide_eq_true_eq] at h;lia
    have sm:∀xs∈mv++pt,∀x∈xs,x.den<=9/\x.num.natAbs < 1000:=fun xs hx x hx'=>by
     obtain ⟨j,hj,rfl⟩:=bQ hx;have:=hn j _ (by rw[ak,<- lum,<- lup];rw[ak] at hj;exact hj) (af hj) x hx';exact NS (Int.le_trans (hmax _ this) M9)
    walk_at "w";refine ⟨_,_,rfl,.inl (bU.of gm'),?_⟩;rw[<- lum'];walk_at "w";refine gZ (fun h1=>?_) (fun h1=>?_)
    ·have n5:5 < mv.length:=by have:=of_decide_eq_true h1;lia
     walk_at "w";refine ⟨b,4,rfl,B',by decide,by decide,fun v H3 v0 v1 B3 u3=>?_⟩;obtain ⟨v,rfl⟩:=cw v0;obtain ⟨m3,p3,l3,g3,_,_,_,Gm3,_,_⟩:=PQ'.upto u3 B' nb;obtain ⟨um3,gm3,qm3,_⟩:=id Gm3;have lum3:=qm3.length;walk_at "w";refine ⟨_,_,rfl,.inl (bU.of gm3),?_⟩;rw[<- lum3];walk_at "w";refine cR fun l4 H4 s4 n4 g4=>?_
     walk_at "w";refine ⟨b,2,rfl,B3.same s4,by decide,by decide,fun v2 H5 v20 v21 B5 u5=>?_⟩;have g5:=u5.other (fun z=>B3.at (by rw[<- z];exact n4)) g4;obtain ⟨x,ex,mx,_⟩:=mU (xs:=[V.int (v:Int),V.int (mv.length:Int)]) v20 (by simpa using v21);walk_at "w";refine cD (bU.of g5) ex ?_;have u05:=(u0.trans (u3.same s4)).trans u5;simp only[aF,aY,or_false] at mx;rcases mx with rfl | rfl
     ·exact k v H5 ⟨by lia,.inl (by lia)⟩ B5 u05
     ·exact k mv.length H5 ⟨by lia,.inr ⟨sm,fun _=>aw _,fun _ _=>o8 _⟩⟩ B5 u05
    ·have n5:mv.length<=5:=by rw[decide_eq_true_eq] at h1;lia
     walk_at "w";refine ⟨_,_,rfl,.inl (bU.of gm'),?_⟩;rw[<- lum'];have last:∀(Hx:Hp),iC Hx b->dg b H Hx->∀(v:Nat),v < 2+mv.length->Q (.int v) Hx:=fun Hx Bx ux v hv=>k v Hx ⟨by lia,.inr ⟨sm,fun z=>by lia,fun _ _=>by lia⟩⟩ Bx ux
     walk_at "w";refine gZ (fun h2=>?_) (fun h2=>?_)
     ·have n3':mv.length < 3:=by have:=of_decide_eq_true h2;lia
      walk_at "w";refine ⟨b,8,rfl,B',by decide,by decide,fun v H3 v0 v1 B3 u3=>?_⟩;walk_at "w";refine gZ (fun h3=>?_) (fun h3=>?_)
      ·walk_at "w";refine ⟨b,13,rfl,B3,by decide,by decide,fun v4 H4 v40 v41 B4 u4=>?_⟩;obtain ⟨v4,rfl⟩:=cw v40;exact k v4 H4 ⟨by lia,.inr ⟨sm,fun z=>by lia,fun z _=>by lia⟩⟩ B4 ((u0.trans u3).trans u4)
      ·obtain ⟨m3,p3,l3,g3,_,_,_,Gm3,_,_⟩:=PQ'.upto u3 B' nb;obtain ⟨um3,gm3,qm3,_⟩:=id Gm3;have lum3:=qm3.length;walk_at "w";refine ⟨_,_,rfl,.inl (bU.of gm3),?_⟩;rw[<- lum3];walk_at "w";rw[show ((2:Int)+(mv.length:Int))=((2+mv.length:Nat):Int) by lia];refine ⟨b,2+mv.length,rfl,B3,by lia,by lia,fun v4 H4 v40 v41 B4 u4=>?_⟩;obtain ⟨v4,rfl⟩:=cw v40;exact last H4 B4 ((u0.trans u3).trans u4) v4 (by lia)
     ·walk_at "w";refine ⟨_,_,rfl,.inl (bU.of gm'),?_⟩;rw[<- lum'];walk_at "w";rw[show ((2:Int)+(mv.length:Int))=((2+mv.length:Nat):Int) by lia];refine ⟨b,2+mv.length,rfl,B',by lia,by lia,fun v4 H4 v40 v41 B4 u4=>?_⟩;obtain ⟨v4,rfl⟩:=cw v40;exact last H4 B4 (u0.trans u4) v4 (by lia)
theorem Ds:bu ["_law_one","_law_other"] ["_law_one","_law_other"] (ay jO):=by walk_at "d"
theorem DJ (T:Txt K mg Z):cU P w K mg base gE 2 Z.qF Z.pT ["_law_one","_law_other"] (EE K):=by
 refine T.vp.ok Ds (fun vs H Q E h=>?_) (fun cdv A outer s H vs Q E hr h=>?_)
 ·obtain ⟨p,q,a,b,c,d,rfl,hp,hq,hb,hd,hc,sa,sb,sc,sd,k⟩:=EU h;rfl
 ·obtain ⟨p,q,a,b,c,d,rfl,hp,hq,hb,hd,hc,sa,sb,sc,sd,k⟩:=EU h
  refine ⟨_,(ar (dm (bE uL (aV bS (pv 1) ao) ao (bK _)) (aA (aW (cX (fW T) hr T.fo T.fF.kp T.gD (ae (bI jh ao (bI dc (aV bS (pv 0) ao) (aV bS (pv 1) ao))) (ae (bI jh ao (bI dc (aV bS (pv 0) ao) (aV bS (pv 1) ao))) ag))))) b7)
   (aA (aW (cX (fW T) hr T.fo T.fF.kp T.gD (ae (bI dc (aV bS (pv 0) ao) (aV bS (pv 1) ao)) (ae (bI dc (aV bS (pv 0) ao) (aV bS (pv 1) ao)) ag)))))),?_⟩
  refine aR (σ:=[some (.ref p),some (.ref q)]) rfl ?_;have sbc:Sz 8999 (b*c):=(sb.mul sc).mono (by decide);walk_at "w";refine gZ (fun h=>?_) (fun h=>?_)
  ·have h0:c < 0:=of_decide_eq_true h;have hbc:b*c < 0:=xE hb h0;walk_at "w";refine fw (show fX _ _ from .inr ⟨_,_,sa,sd,by decide⟩) ?_;walk_at "w";refine fw (show fX _ _ from .inr ⟨_,_,sb,sc,by decide⟩) ?_;walk_at "w";refine ⟨_,_,rfl,by lia,by rw[Int.zero_sub];exact sbc.neg,fun r H' s' h'=>?_⟩;exact k r H' s' (by rw[if_pos h0,if_pos h0];exact h')
  ·have h0:¬c < 0:=fun z=>h (decide_eq_true z)
   have hbc:0 < b*c:=js hb (by lia);walk_at "w";refine fw (show fX _ _ from .inr ⟨_,_,sa,sd,by decide⟩) ?_;walk_at "w";refine fw (show fX _ _ from .inr ⟨_,_,sb,sc,by decide⟩) ?_;walk_at "w";refine ⟨_,_,rfl,hbc,sbc,fun r H' s' h'=>?_⟩;exact k r H' s' (by rw[if_neg h0,if_neg h0];exact h')
theorem Dx:bu ["_law_one","_law_other"] ["_law_one","_law_other"] (ay jW):=by walk_at "d"
theorem DO (T:Txt K mg Z):cU P w K mg base gE 2 Z.qN Z.p6 ["_law_one","_law_other"] (uD K (fun x y=>x - y)):=by
 refine T.vA.ok Dx (fun vs H Q E h=>?_) (fun cdv A outer s H vs Q E hr h=>?_)
 ·obtain ⟨p,q,a,b,c,d,rfl,hp,hq,hb,hd,sa,sb,sc,sd,k⟩:=Ah h;rfl
 ·obtain ⟨p,q,a,b,c,d,rfl,hp,hq,hb,hd,sa,sb,sc,sd,k⟩:=Ah h;refine ⟨_,(aA (aW (cX (fW T) hr T.fo T.fF.kp T.gD (ae (bI jh (bI dc (aV bS (pv 0) ao) (aV bS (pv 1) ao)) (bI dc (aV bS (pv 1) ao) (aV bS (pv 0) ao))) (ae (bI dc (aV bS (pv 0) ao) (aV bS (pv 1) ao)) ag))))),?_⟩;refine aR (σ:=[some (.ref p),some (.ref q)]) rfl ?_;have hbd:0 < b*d:=js hb hd;have sbd:Sz 8999 (b*d):=(sb.mul sd).mono (by decide);walk_at "w";refine fw (show fX _ _ from .inr ⟨_,_,sa,sd,by decide⟩) ?_;walk_at "w";refine fw (show fX _ _ from .inr ⟨_,_,sc,sb,by decide⟩) ?_;walk_at "w";refine fw (show fX _ _ from .inr ⟨_,_,sb,sd,by decide⟩) ?_;walk_at "w";walk_at "w";refine ⟨_,_,rfl,hbd,sbd,k⟩
theorem BW:bu ["_law_one","_law_other"] ["_law_one","_law_other"] (ay iN):=by walk_at "d"
theorem wJ (T:Txt K mg Z):cU P w K mg base gE 3 Z.oj Z.nP ["_law_one","_law_other"] (Co K):=by
 refine T.ox.ok BW (fun vs H Q E h=>?_) (fun cdv A outer s H vs Q E hr h=>?_)
 ·obtain ⟨p,q,xs,ys,rfl,hp,hq,hl,hz,h1,h2,kk⟩:=h;rfl
 ·obtain ⟨p,q,xs,ys,rfl,hp,hq,hl,hz,h1,h2,kk⟩:=h;refine ⟨_,(aA (aW (cF ["_law_k"] ["_law_one","_law_other"] [0,1] (cy rfl T.range (ae (bP bC (by rfl) T.len bg (ae (pv 0) ag)) ag)) (fun _=>(aO (i:=0) (show List.Nodup (α:=PySem.Str) ["_law_k","_law_one","_law_other"] by decide +kernel))) (fun _=>cC) (fun _=>(cX (DO T) hr T.yg T.vA.kp T.zP (ae (aV (iu K (by rfl)) (pv 1) (pv 0)) (ae (aV (iu K (by rfl)) (pv 2) (pv 0)) ag))))))),?_⟩;refine aR (σ:=[some (.ref p),some (.ref q)]) rfl ?_;obtain ⟨us,gu,qu⟩:=id hp;obtain ⟨ws,gw,qw⟩:=id hq;have lu:=qu.length;walk_at "w";refine ⟨_,_,rfl,.inl (bU.of gu),?_⟩;walk_at "w";refine ⟨by lia,by lia,?_⟩;refine eT (n:=us.length) (cx K) (fun i=>xs.getD i 0 - ys.getD i 0) (by lia) (fun a b=>a.same b) ?_ ?_
  ·rintro i H' NY NN hi s k1;have ix:i < xs.length:=by lia
   have iy:i < ys.length:=by lia
   obtain ⟨vx,ex,nx⟩:=Fy (Paired.imp' (fun _ _ z=>z.same s) qu) ix;obtain ⟨vy,ey,ny⟩:=Fy (Paired.imp' (fun _ _ z=>z.same s) qw) iy;walk_at "w";refine cD (bU.of (s _ _ gu)) ex ?_;walk_at "w";refine cD (bU.of (s _ _ gw)) ey ?_;walk_at "w";exact ⟨_,_,_,_,rfl,nx,ny,h1 _ (getD_mem ix),h2 _ (getD_mem iy),fun r3 H3 s3 n3=>k1 _ _ s3 n3⟩
  ·rintro ys' H' l hl' s g pr nx;exact kk l H' hl' s ⟨ys',g,by rw[FD (by lia)];rw[<- lu] at pr;exact pr⟩
theorem eF:bu ["_law_rows","_law_wide","_law_left","_law_found","_law_place","_law_heads","_law_head"] ["_law_rows","_law_wide"] (ay jX):=by walk_at "d"
theorem DP (T:Txt K mg Z):cU P w K mg base gE 4 Z.qO Z.p9 ["_law_rows","_law_wide"] (FL K):=by
 refine T.vB.ok eF (fun vs H Q E h=>?_) (fun cdv A outer s H vs Q E hr h=>?_)
 ·obtain ⟨p,n,S,H0,rows,rfl,G,r100,n100,hw,⟨e39,J,j0,jskip,jlean,jlw,jsz⟩,k⟩:=h;rfl
 ·obtain ⟨p,n,S,H0,rows,rfl,G,r100,n100,hw,⟨e39,J,j0,jskip,jlean,jlw,jsz⟩,k⟩:=h
  refine ⟨_,(ar (bc (i:=2) eF.nd rfl (Or.inr rfl) (cF ["_law_row_here"] [] [] (cK (pv 0)) (fun _=>(aO (i:=0) (show List.Nodup (α:=PySem.Str) ["_law_row_here"] by decide +kernel))) (fun _=>cC) (fun _=>(dO (fD K (by rfl)) (by rfl) T.list PyProof.Rows.boot_list (ae (pv 0) ag)))))
   (ar (bc (i:=3) eF.nd rfl (Or.inl rfl) (dr ag))
   (ar (dZ PassesOwn.never rfl (cy rfl T.range (ae (pv 1) ag)) (aO (i:=4) eF.nd rfl (Or.inr rfl) (Or.inl rfl))
    (ar (jt 5 ["_law_k"] ["_law_left","_law_place"] [2,4] eF.nd rfl rfl (cy rfl T.range (ae (bP bC (by rfl) T.len bg (ae (pv 2) ag)) ag)) (fun _=>(aO (i:=0) (show List.Nodup (α:=PySem.Str) ["_law_k","_law_left","_law_place"] by decide +kernel))) (fun _=>PJ (bE (Nw K (by rfl) (DU hr)) (aV (iu K (by rfl)) (aV (iu K (by rfl)) (pv 1) (pv 0)) (pv 2)) (cW (ae ao (ae ao ag))) (bK _))) (fun _=>(pv 0)))
   (aA (dm (bE (A2 (DU hr)) (pv 5) (dr ag) (bK _)) (ar (bc (i:=6) eF.nd rfl (Or.inr rfl) (uH cG PySem.F.slot_list_pop PySem.F.type_list_pop Lb (pv 2) (ae (aV bW (pv 5) ao) ag)))
   (ar (bc (i:=6) eF.nd rfl (Or.inr rfl) (cX (oT T) hr T.lD T.lN.kp T.oJ (ae (cX (DJ T) hr T.xZ T.vp.kp T.zK (ae (cW (ae ao (ae ao ag))) (ae (aV bW (pv 6) (pv 4)) ag))) (ae (pv 6) ag))))
   (ar (bc (i:=2) eF.nd rfl (Or.inr rfl) (cF ["_law_row_here"] ["_law_place","_law_head"] [4,6] (cK (pv 2)) (fun _=>(aO (i:=0) (show List.Nodup (α:=PySem.Str) ["_law_row_here","_law_place","_law_head"] by decide +kernel))) (fun _=>cC) (fun _=>(cX (wJ T) hr T.rh T.ox.kp T.tG (ae (pv 0) (ae (cX (oT T) hr T.lD T.lN.kp T.oJ (ae (aV (iu K (by rfl)) (pv 0) (pv 1)) (ae (pv 2) ag))) ag))))))
   (ar (jt 3 ["_law_row_here"] ["_law_place","_law_head"] [4,6] eF.nd rfl rfl (cK (pv 3)) (fun _=>(aO (i:=0) (show List.Nodup (α:=PySem.Str) ["_law_row_here","_law_place","_law_head"] by decide +kernel))) (fun _=>cC) (fun _=>(cX (wJ T) hr T.rh T.ox.kp T.tG (ae (pv 0) (ae (cX (oT T) hr T.lD T.lN.kp T.oJ (ae (aV (iu K (by rfl)) (pv 0) (pv 1)) (ae (pv 2) ag))) ag)))))
   (aA (iS (uH cG cZ cY iT (pv 3) (ae (pv 6) ag)))))))) b7))))
   (aA (aW (pv 3)))))),?_⟩
  refine aR (σ:=[some (.ref p),some (.int n),none,none,none,none,none]) rfl ?_;obtain ⟨xs,gx,qx,_⟩:=id G;have szT:∀{D:Nat} {x:Rat},0 < D->D<=2^S->Tp D (2^S) x->ot x:=fun h0 h1 t=>AH t h0 (ai h1 (av (by decide) (by lia))) (av (by decide) (by lia))
  have szP:∀{D D':Nat} {x y:Rat},0 < D->0 < D'->D<=2^S->D'<=2^S->Tp D (2^S) x->Tp D' (2^S) y->ot (x*y):=fun h0 h0' h1 h1' t t'=>AH (t.mul t') (cu h0 h0') (ai (aL h1 h1') (by rw[<- bD];exact av (by decide) (by lia))) (by rw[<- bD];exact av (by decide) (by lia))
  walk_at "w";refine ⟨⟨_,bU.of gx⟩,?_⟩;refine dS (K:=K) (F:=dn K H0) (dn K H) id gx qx (by lia) (fun a b=>a.same b) (fun a b=>a.same b) ?_ ?_
  ·rintro i ns x H' NY NN en s ⟨u,rfl,_,zs,gz,qz⟩ k1;walk_at "w";refine ⟨u,zs,rfl,.inl (bU.of gz),fun l1 hl1=>?_⟩;exact k1 _ _ (aJ.new hl1) ⟨l1,rfl,s.none hl1,zs,aK,Paired.imp' (fun _ _ z=>z.same (aJ.new hl1)) qz⟩
  rintro ys1 H1 L hL s1 g1 pr1 nx1;rw[o9] at pr1 nx1;have GL1:bL K H H1 L rows:=⟨ys1,g1,pr1,kj nx1⟩;walk_at "w";refine cR fun fd H2 s2 nf gf=>?_
  have fdL:fd≠L:=fun z=>by rw[z,g1] at nf;cases nf
  clear g1 pr1 nx1;walk_at "w";refine ⟨by lia,by lia,?_⟩;refine fb (n:=n) (fun P σ' H'=>aJ H H'/\∃lp fp ls fs ps vs y1 y2 y3,σ'=[some (.ref p),some (.int n),some (.ref lp),some (.ref fp),y1,y2,y3]/\H lp=none/\H fp=none/\fp≠lp/\bL K H H' lp ls/\H' fp=some (.lst vs)/\Paired (rz K (fun q=>(H q=none/\q≠fp)/\q≠lp) H') fs vs/\fs.length=ps.length/\J P (fs++ls) ps) ⟨s1.trans s2,L,fd,rows,[],[],[],_,_,_,rfl,hL,s1.none nf,fdL,GL1.same s2,gf,.nil,rfl,j0⟩ ?_ ?_
  ·rintro P σ' H' hP ⟨s',lp,fp,ls,fs,ps,vs,y1,y2,y3,rfl,nlp,nfp,fl,GL,gv,pv,hf,JI⟩;have I:=jlw _ _ _ JI;have len:=I.len;rw[ak] at len;have wide:=I.wide;obtain ⟨us,gu,qu,nu⟩:=id GL;have lu:=qu.length;have lv:=pv.length
   have szI:∀{i:Nat},i < rows.length->∀c,ot (cn (fs++ls) i c):=fun hi c=>by
    obtain ⟨D,D0,D1,D2⟩:=jsz _ _ _ JI (by lia) _ hi;exact szT D0 D1 (D2 c)
   have ez:∀i,(ls.map fun r=>r.getD P 0).getD i 0=cn ls i P:=fun i=>Lg
   walk_at "w";refine ⟨_,_,rfl,.inl (bU.of gu),?_⟩;rw[<- lu];walk_at "w";refine ⟨by lia,by lia,?_⟩;refine oY (n:=ls.length) (fun i ys H''=>aJ H' H''/\ys=fP (NC (ls.map fun r=>r.getD P 0) i)) (aS (bG (by lia))) ⟨aJ.refl _,rfl⟩ ?_ ?_
   ·rintro i ys Hb hi hlen ⟨sb,rfl⟩;rw[AB];obtain ⟨xt,vt,et,evt,mt,qt,rfl,nqt,Rt⟩:=iq (Paired.imp' (fun _ _ z=>dn.same z sb) qu) hi;have wt:=wide xt (au.mpr (.inr mt));obtain ⟨zs,gz,qz⟩:=id Rt;obtain ⟨vx,ex,nx⟩:=Fy qz (j:=P) (by lia);have fx:(ls.map fun r=>r.getD P 0).getD i 0=xt.getD P 0:=by rw[ez];unfold cn;rw[aa (l:=ls),et];rfl
    walk_at "w";refine cD (bU.of (sb _ _ gu)) (fJ evt) ?_;walk_at "w";refine cD (bU.of gz) ex ?_;walk_at "w";refine cg fun t0 Hc sc gc=>?_
    walk_at "w";refine ⟨_,_,Ou,xt.getD P 0,0,by decide,nx.same sc,cx.mk (q:=0) gc rfl,?_⟩;by_cases e:xt.getD P 0=0
    ·rw[decide_eq_true e];walk_at "w";refine ⟨sb.trans sc,?_⟩;rw[HU,fx,if_neg (by simpa using e)]
    ·rw[decide_eq_false e];walk_at "w";refine ⟨sb.trans sc,?_⟩;rw[HU,fx,if_pos e];unfold fP;rw[cI];rfl
   rintro ys Hb hy ⟨sb,rfl⟩ hd hhd;have nzm:∀c,c∈NC (ls.map fun r=>r.getD P 0) ls.length↔c < ls.length/\cn ls c P≠0:=fun c=>by rw[PR,ez]
   generalize NC (ls.map fun r=>r.getD P 0) ls.length=hs at hy hhd nzm;have sn:aJ Hb (upd Hb hd (.lst (fP hs))):=aJ.new hhd;have gh:(upd Hb hd (.lst (fP hs))) hd=some (.lst (fP hs)):=aK;generalize upd Hb hd (.lst (fP hs))=Hc at sn gh ⊢;have sbc:=sb.trans sn;walk_at "w";refine cR fun em Hd sd nd gd=>?_
   walk_at "w";refine ⟨_,_,NF NG,Br hs,Br [],by decide,CC (sd _ _ gh),CC gd,?_⟩;have sbd:=sbc.trans sd;by_cases e0:hs=[]
   ·subst e0;rw[decide_eq_true rfl];walk_at "w";refine ⟨s'.trans sbd,lp,fp,ls,fs,ps,vs,_,_,_,rfl,nlp,nfp,fl,GL.same sbd,sbd _ _ gv,Paired.imp' (fun _ _ z=>rz.same z sbd) pv,hf,jskip _ _ _ JI fun i h1 h2=>?_⟩;rw[ak] at h2;obtain ⟨j,rfl⟩:∃j,i=fs.length+j:=⟨i - fs.length,by lia⟩;rw[xA];by_cases z:cn ls j P=0
    ·exact z
    ·exact absurd ((nzm j).mpr ⟨by lia,z⟩) (by simp)
   ·rw[decide_eq_false (fun z=>e0 (Ls z))]
    obtain ⟨t,hs',rfl⟩:∃t hs',hs=t :: hs':=by cases hs with
     | nil=>exact absurd rfl e0
     | cons t r=>exact ⟨t,r,rfl⟩
    obtain ⟨tl,hne⟩:=(nzm t).mp (.head _);have gud:=sbd _ _ gu;obtain ⟨xt,vt,et,evt,mt,qt,rfl,nqt,Rt⟩:=iq (Paired.imp' (fun _ _ z=>dn.same z sbd) qu) tl;have ext:ls.getD t []=xt:=by rw[aa,et];rfl
    have hne':xt.getD P 0≠0:=by unfold cn at hne;rw[ext] at hne;exact hne
    have wt:=wide xt (au.mpr (.inr mt));have qtl:qt≠lp:=fun z=>nu (by rw[<- z];exact ax evt)
    walk_at "w";refine ⟨.inl ⟨rfl,_,bU.of gud⟩,?_⟩;walk_at "w";refine cD (bU.of (sd _ _ gh)) (fJ (j:=0) rfl) ?_;walk_at "w";refine ⟨lp,us,t,t,_,rfl,rfl,gud,by lia,by lia,PySem.StrLaws.seqIndex_nonneg (by lia) (by lia),evt,?_⟩;have s0e:aJ H (upd Hd lp (.lst (us.eraseIdx t))):=(s'.trans sbd).after nlp;obtain ⟨us',gu',pu'⟩:=(GL.same sbd).toE;have eus:us'=us:=by rw[gud] at gu';cases gu';rfl
    subst eus;have ple:Paired (rz K (fun q=>H q=none/\q≠lp) (upd Hd lp (.lst (us'.eraseIdx t)))) (ls.eraseIdx t) (us'.eraseIdx t):=xQ (Paired.imp' (fun _ _ z=>rz.updL z gud (fun q h=>h.2)) pu') t;have gle:(upd Hd lp (.lst (us'.eraseIdx t))) lp=some (.lst (us'.eraseIdx t)):=aK;have gve:(upd Hd lp (.lst (us'.eraseIdx t))) fp=some (.lst vs):=by rw[bJ fl];exact sbd _ _ gv
    have pve:Paired (rz K (fun q=>(H q=none/\q≠fp)/\q≠lp) (upd Hd lp (.lst (us'.eraseIdx t)))) fs vs:=Paired.imp' (fun _ _ z=>rz.updL (rz.same z sbd) gud (fun q h=>h.2)) pv;have Re:cQ K (upd Hd lp (.lst (us'.eraseIdx t))) qt xt:=Rt.updL gud qtl;generalize upd Hd lp (.lst (us'.eraseIdx t))=He at s0e ple gle gve pve Re ⊢;clear pu' gu' gud Rt;have I2:=jlean _ _ _ _ _ JI hf tl hP (by rw[ext];exact hne');rw[ext] at I2
    have rowD:∀r∈fs++ls,∃D:Nat,0 < D/\D<=2^S/\∀c,Tp D (2^S) (r.getD c 0):=fun r hr=>by
     obtain ⟨i,hi,rfl⟩:=bQ hr;obtain ⟨D,D0,D1,D2⟩:=jsz _ _ _ JI (by lia) i (by rw[ak] at hi;lia);refine ⟨D,D0,D1,fun c=>?_⟩;have:=D2 c;unfold cn at this;rw[aa (l:=fs++ls),af hi] at this;exact this
    have szr:∀r∈fs++ls,∀y∈r,ot y:=fun r hr y hy=>by
     obtain ⟨D,D0,D1,D2⟩:=rowD r hr;obtain ⟨c,hc,rfl⟩:=bQ hy;have:=D2 c;rw[aa,af hc] at this;exact szT D0 D1 this
    have mxt:xt∈fs++ls:=au.mpr (.inr mt);have lu2:(rR P xt).length=n:=by unfold rR;rw[aj];exact wt
    obtain ⟨Du,Du0,Du1,Du2⟩:∃D:Nat,0 < D/\D<=2^S/\∀y∈rR P xt,Tp D (2^S) y:=by
     obtain ⟨D,D0,D1,D2⟩:=jsz _ _ _ I2 (by lia) ps.length (by lia);refine ⟨D,D0,D1,fun y hy=>?_⟩;obtain ⟨c,hc,rfl⟩:=bQ hy;have:=D2 c;rw[b9,show ps.length=(fs.map (Bj P (rR P xt))).length+0 by rw[aj];lia,xA] at this
     have e:cn ([rR P xt]++(ls.eraseIdx t).map (Bj P (rR P xt))) 0 c=(rR P xt)[c]:=by
      show (rR P xt).getD c 0=_
      rw[aa,af hc];rfl
     rw[e] at this;exact this
    have szu:∀y∈rR P xt,ot y:=fun y hy=>szT Du0 Du1 (Du2 y hy)
    have szp:∀r∈fs++ls,∀y∈rR P xt,ot (r.getD P 0*y):=fun r hr y hy=>by
     obtain ⟨D,D0,D1,D2⟩:=rowD r hr;exact szP D0 Du0 D1 Du1 (D2 P) (Du2 y hy)
    obtain ⟨zs,gz,qz⟩:=id Re;obtain ⟨vx,ex,nx⟩:=Fy qz (j:=P) (by lia);have szx:ot (xt.getD P 0):=szr xt mxt _ (getD_in (by lia));walk_at "w";refine cg fun tq Hf sf gf=>?_
    walk_at "w";refine cD (bU.of (sf _ _ gz)) ex ?_;walk_at "w";refine ⟨_,_,1,xt.getD P 0,rfl,cx.mk (q:=1) gf rfl,nx.same sf,Mq,szx,hne',fun qr Hg sg nq=>?_⟩;have sfg:=sf.trans sg;walk_at "w";refine ⟨_,qt,1 / xt.getD P 0,xt,rfl,nq,Mr szx hne',Re.same sfg,by lia,szr xt mxt,fun ur Hh nur sh Rur=>?_⟩;have Rur:cQ K Hh ur (rR P xt):=Rur;have seh:=sfg.trans sh;have s0h:=s0e.trans seh;have nur0:H ur=none:=(s0e.trans sfg).none nur;walk_at "w";refine ⟨⟨_,bU.of (seh _ _ gle)⟩,?_⟩;refine dS (K:=K) (F:=rz K (fun q=>H q=none/\q≠lp)) (dn K H) (Bj P (rR P xt)) (seh _ _ gle) (Paired.imp' (fun _ _ z=>rz.same z seh) ple) (by rw[OJ tl];lia) (fun a b=>a.same b) (fun a b=>a.same b) ?_ ?_
    ·rintro i ns x Hi NY NN en si ⟨q,rfl,nq0,Rq⟩ k1;have mn:ns∈fs++ls:=au.mpr (.inr (QD (ax en)));have wn:=wide ns mn;obtain ⟨zs2,gz2,qz2⟩:=id Rq;obtain ⟨vx2,ex2,nx2⟩:=Fy qz2 (j:=P) (by lia);walk_at "w";refine cD (bU.of gz2) ex2 ?_;walk_at "w";refine ⟨_,ur,ns.getD P 0,rR P xt,rfl,nx2,szr ns mn _ (getD_in (by lia)),Rur.same si,by lia,szu,fun b1 Hj nb1 sj Rb=>?_⟩;walk_at "w";refine ⟨q,b1,ns,_,rfl,Rq.same sj,Rb,by rw[aj];lia,by lia,szr ns mn,fun y hy=>?_,fun r2 Hk nr2 sk Rk=>?_⟩
     ·obtain ⟨y',hy',rfl⟩:=aB.mp hy;exact szp ns mn y' hy'
     ·exact k1 _ _ (sj.trans sk) ⟨r2,rfl,s0h.none (si.none (sj.none nr2)),Rk⟩
    rintro yl Hk lp2 hlp2 sk gk prk nxk;have s0k:=s0h.trans sk;have Gk:bL K H Hk lp2 ((ls.eraseIdx t).map (Bj P (rR P xt))):=⟨yl,gk,prk,kj nxk⟩;have Ruk:=Rur.same sk;walk_at "w";refine ⟨⟨_,bU.of (sk _ _ (seh _ _ gve))⟩,?_⟩;refine dS (K:=K) (F:=rz K (fun q=>(H q=none/\q≠fp)/\q≠lp)) (dn K Hk) (Bj P (rR P xt)) (sk _ _ (seh _ _ gve)) (Paired.imp' (fun _ _ z=>rz.same (rz.same z seh) sk) pve) (by lia) (fun a b=>a.same b) (fun a b=>a.same b) ?_ ?_
    ·rintro i ns x Hi NY NN en si ⟨q,rfl,nq0,Rq⟩ k1;have mn:ns∈fs++ls:=au.mpr (.inl (ax en));have wn:=wide ns mn;obtain ⟨zs2,gz2,qz2⟩:=id Rq;obtain ⟨vx2,ex2,nx2⟩:=Fy qz2 (j:=P) (by lia);walk_at "w";refine cD (bU.of gz2) ex2 ?_;walk_at "w";refine ⟨_,ur,ns.getD P 0,rR P xt,rfl,nx2,szr ns mn _ (getD_in (by lia)),Ruk.same si,by lia,szu,fun b1 Hj nb1 sj Rb=>?_⟩;walk_at "w";refine ⟨q,b1,ns,_,rfl,Rq.same sj,Rb,by rw[aj];lia,by lia,szr ns mn,fun y hy=>?_,fun r2 Hl nr2 sl Rl=>?_⟩
     ·obtain ⟨y',hy',rfl⟩:=aB.mp hy;exact szp ns mn y' hy'
     ·exact k1 _ _ (sj.trans sl) ⟨r2,rfl,si.none (sj.none nr2),Rl⟩
    rintro yf Hl fp2 hfp2 sl gl prl nxl;have lyf:=prl.length;rw[aj] at lyf;have nfp2:H fp2=none:=s0k.none hfp2;have nlp2:H lp2=none:=s0h.none hlp2;have fl2:fp2≠lp2:=fun z=>by rw[z,gk] at hfp2;cases hfp2
    have urk:Hk ur≠none:=by obtain ⟨_,gg,_⟩:=Ruk;rw[gg];exact fun z=>nomatch z
    have urf:ur≠fp2:=fun z=>urk (by rw[z];exact hfp2)
    have url:ur≠lp2:=fun z=>by obtain ⟨_,gg,_⟩:=Rur;rw[z,hlp2] at gg;cases gg
    walk_at "w";refine ⟨.inl ⟨rfl,_,bU.of gl⟩,?_⟩;walk_at "w";refine iQ gl (bG (by lia)) ?_;refine ⟨(s0k.trans sl).after nfp2,lp2,fp2,_,_,ps++[P],_,_,_,_,rfl,nlp2,nfp2,fl2,?_,aK,?_,by rw[ak,ak,aj];show fs.length+1=ps.length+1;lia,I2⟩
    ·obtain ⟨ul,gul,pul⟩:=Gk.toE;refine bL.ofE (P:=fun q=>(H q=none/\q≠lp2)/\q≠fp2) (by rw[bJ (Ne.symm fl2)];exact sl _ _ gul) (Paired.imp' (fun _ _ ⟨q,e1,e2,e3⟩=>?_) pul) (fun q h=>h.1.1) (fun q h=>h.1.2);have qf:q≠fp2:=fun z=>by obtain ⟨_,gg,_⟩:=e3;rw[z,hfp2] at gg;cases gg
     exact ⟨q,e1,⟨e2,qf⟩,(cQ.same e3 sl).updL gl qf⟩
    ·have nn:=kj nxl;refine bT (uK (fun xs v hv ⟨q,e1,e2,e3⟩=>?_) prl) (.cons ⟨ur,rfl,⟨⟨nur0,urf⟩,url⟩,(Ruk.same sl).updL gl urf⟩ .nil);have qf:q≠fp2:=fun z=>nn (by rw[<- z,<- e1];exact hv)
     exact ⟨q,e1,⟨⟨s0k.none e2,qf⟩,fun z=>by rw[z,gk] at e2;cases e2⟩,cQ.updL e3 gl qf⟩
  ·rintro σ' H' ⟨s',lp,fp,ls,fs,ps,vs,y1,y2,y3,rfl,nlp,nfp,fl,GL,gv,pv,hf,JI⟩;have I:=jlw _ _ _ JI;have D:=I.done hw;rw[List.take_left' hf] at D;obtain ⟨km,_⟩:=I.km;walk_at "w";exact k fp fs ps H' nfp s' (bL.ofE gv pv (fun q h=>h.1.1) (fun q h=>h.1.2)) D km
theorem pC:bu ["_law_one","_law_other","_law_total","_law_k"] ["_law_one","_law_other"] (ay kZ):=by walk_at "d"
theorem EZ (T:Txt K mg Z):cU P w K mg base gE 3 Z.tO Z.td ["_law_one","_law_other"] (HH K):=by
 refine T.xC.ok pC (fun vs H Q E h=>?_) (fun cdv A outer s H vs Q E hr h=>?_)
 ·obtain ⟨p,q,xs,ys,rfl,hp,hq,hl,hz,⟨k1,j1,k2,j2,h1,h2,hkj⟩,kk⟩:=h;rfl
 ·obtain ⟨p,q,xs,ys,rfl,hp,hq,hl,hz,⟨k1,j1,k2,j2,h1,h2,hkj⟩,kk⟩:=h
  refine ⟨_,(ar (bc (i:=2) pC.nd rfl (Or.inl rfl) (cW (ae ao (ae ao ag))))
   (ar (dZ PassesOwn.never rfl (cy rfl T.range (ae (bP bC (by rfl) T.len bg (ae (pv 0) ag)) ag)) (aO (i:=3) pC.nd)
    (aA (bc (i:=2) pC.nd rfl (Or.inl rfl) (cX (pG T) hr T.mS T.lK.kp T.oZ (ae (pv 2) (ae (cX (ni T) hr T.ks T.j5.kp T.mT (ae (aV bW (pv 0) (pv 3)) (ae (aV bW (pv 1) (pv 3)) ag))) ag))))))
   (aA (aW (pv 2))))),?_⟩
  refine aR (σ:=[some (.ref p),some (.ref q),none,none]) rfl ?_;obtain ⟨us,gu,qu⟩:=id hp;obtain ⟨ws,gw,qw⟩:=id hq;have lu:=qu.length;have lw:=qw.length;walk_at "w";refine cg fun r0 H0 s0 g0=>?_
  walk_at "w";refine ⟨_,_,rfl,.inl (bU.of (s0 _ _ gu)),?_⟩;walk_at "w";refine ⟨by lia,by lia,?_⟩;refine fb (n:=us.length) (fun i σ' H'=>aJ H H'/\∃(r:V) (v:Option V),σ'=[some (.ref p),some (.ref q),some r,v]/\cx K H' (eG (xs.take i) (ys.take i)) r) ⟨s0,_,none,rfl,cx.mk g0 rfl⟩ ?_ ?_
  ·rintro i σ' H' hi ⟨s,r,v,rfl,hr⟩;have ix:i < xs.length:=by lia
   have iy:i < ys.length:=by lia
   obtain ⟨vx,ex,nx⟩:=Fy (Paired.imp' (fun _ _ z=>z.same s) qu) ix;obtain ⟨vy,ey,ny⟩:=Fy (Paired.imp' (fun _ _ z=>z.same s) qw) iy;walk_at "w";refine cD (bU.of (s _ _ gu)) ex ?_;walk_at "w";refine cD (bU.of (s _ _ gw)) ey ?_;walk_at "w";refine ⟨_,_,_,_,rfl,nx,ny,h1.szn (getD_mem ix) (by lia),h2.szn (getD_mem iy) (by lia),fun r3 H3 s3 n3=>?_⟩;walk_at "w";refine ⟨_,_,_,_,rfl,hr.same s3,n3,LP h1 h2 hz i hkj,K9 (h1.one (getD_mem ix)) (h2.one (getD_mem iy)) hkj,fun r4 H4 s4 n4=>?_⟩;walk_at "w";exact ⟨(s.trans s3).trans s4,_,_,rfl,by rw[CN ix iy];exact n4⟩
  ·rintro σ' H' ⟨s,r,v,rfl,hr⟩;rw[aH (by lia),aH (by lia)] at hr;obtain ⟨t,rfl,ht⟩:=hr;walk_at "w";exact kk _ H' s ⟨t,rfl,ht⟩
theorem FV:bu ["_law_grid","_law_row_here"] ["_law_grid","_law_row_here"] (ay oH):=by walk_at "d"
theorem A6 (T:Txt K mg Z):cU P w K mg base gE 4 Z.wd Z.vU ["_law_grid","_law_row_here"] (HG K):=by
 refine T.wo.ok FV (fun vs H Q E h=>?_) (fun cdv A outer s H vs Q E hr h=>?_)
 ·obtain ⟨p,q,H0,rows,ys,rfl,hp,hq,hz,hl,hr1,kk⟩:=h;rfl
 ·obtain ⟨p,q,H0,rows,ys,rfl,hp,hq,hz,hl,hr1,kk⟩:=h;refine ⟨_,(aA (aW (cF ["_law_one"] ["_law_row_here"] [1] (cK (pv 0)) (fun _=>(aO (i:=0) (show List.Nodup (α:=PySem.Str) ["_law_one","_law_row_here"] by decide +kernel))) (fun _=>cC) (fun _=>(cX (EZ T) hr T.zB T.xC.kp T.BD (ae (pv 0) (ae (pv 1) ag))))))),?_⟩;refine aR (σ:=[some (.ref p),some (.ref q)]) rfl ?_;obtain ⟨xs,gx,qx,_⟩:=id hp;walk_at "w";refine ⟨⟨_,bU.of gx⟩,?_⟩;refine dS (K:=K) (F:=dn K H0) (cx K) (fun xs=>eG xs ys) gx qx hz (fun a b=>a.same b) (fun a b=>a.same b) ?_ ?_
  ·rintro i ns x H' NY NN en s ⟨u,rfl,_,hu⟩ k;obtain ⟨e1,e2⟩:=hr1 ns (ax en);walk_at "w";exact ⟨u,q,ns,ys,rfl,hu,hq.same s,e1.symm,by lia,e2,fun r H2 s2 h2'=>k _ _ s2 h2'⟩
  ·rintro ys' H' r hr s g pr nx;exact kk r H' hr s ⟨ys',g,pr⟩
theorem gJ:bu ["_law_parts_here","_law_steps_here","_law_rows","_law_some","_law_turn"] ["_law_parts_here","_law_steps_here"] (ay iP):=by walk_at "d"
theorem Ce (T:Txt K mg Z):cU P w K mg base gE 5 Z.oq Z.nR ["_law_parts_here","_law_steps_here"] (Ji K):=by
 refine T.t9.ok gJ (fun vs H Q E h=>?_) (fun cdv A outer s H vs Q E hr h=>?_)
 ·obtain ⟨r,tt,H0,mv,pt,lk,rfl,hT,PQ,D,AF,k⟩:=h;rfl
 ·obtain ⟨r,tt,H0,mv,pt,lk,rfl,hT,PQ,D,AF,k⟩:=h
  refine ⟨_,(ar (jt 2 ["_law_row_here"] [] [] gJ.nd rfl rfl (cK (aV bS (pv 0) ao)) (fun _=>(aO (i:=0) (show List.Nodup (α:=PySem.Str) ["_law_row_here"] by decide +kernel))) (fun _=>cC) (fun _=>(dO (fD K (by rfl)) (by rfl) T.list PyProof.Rows.boot_list (ae (pv 0) ag))))
   (ar (bc (i:=3) gJ.nd rfl (Or.inl rfl) (dr ag))
   (ar (dZ PassesOwn.never rfl (cy rfl T.range (ae (pv 1) ag)) (aO (i:=4) gJ.nd)
    (ar (bc (i:=3) gJ.nd rfl (Or.inl rfl) (bI jF (pv 3) (pv 2)))
   (aA (jt 2 ["_law_row_here"] ["_law_parts_here"] [0] gJ.nd rfl rfl (cK (pv 2)) (fun _=>(aO (i:=0) (show List.Nodup (α:=PySem.Str) ["_law_row_here","_law_parts_here"] by decide +kernel))) (fun _=>cC) (fun _=>(cX (A6 T) hr T.xr T.wo.kp T.zi (ae (aV (vN K (by rfl)) (pv 1) ao) (ae (pv 0) ag))))))))
   (aA (aW (pv 3)))))),?_⟩
  refine aR (σ:=[some (.ref r),some (.int tt),none,none,none]) rfl ?_;have d1:=D.n8;have i4:=D.i4;obtain ⟨m,p,l,g,n1,n2,n3,Gm,Gp,Gl⟩:=id PQ;obtain ⟨up,gp,qp,_⟩:=id Gp;have lup:=qp.length;walk_at "w";refine ⟨⟨_,bU.of gp⟩,?_⟩;refine dS (K:=K) (F:=dn K H0) (dn K H) id gp qp (by lia) (fun a b=>a.same b) (fun a b=>a.same b) ?_ ?_
  ·rintro i ns x H' NY NN en s ⟨u,rfl,_,zs,gz,qz⟩ k1;walk_at "w";refine ⟨u,zs,rfl,.inl (bU.of gz),fun l1 hl1=>?_⟩;exact k1 _ _ (aJ.new hl1) ⟨l1,rfl,s.none hl1,zs,aK,Paired.imp' (fun _ _ z=>z.same (aJ.new hl1)) qz⟩
  rintro ys1 H1 rq1 hr1 s1 g1 pr1 nx1;rw[o9] at pr1 nx1;have G1:bL K H H1 rq1 pt:=⟨ys1,g1,pr1,kj nx1⟩;walk_at "w";refine cR fun sm0 H2 s2 nf gf=>?_
  have s02:=s1.trans s2;walk_at "w";refine ⟨by lia,by lia,?_⟩;refine fb (n:=tt) (fun t σ' H'=>aJ H H'/\∃rq sm y,σ'=[some (.ref r),some (.int tt),some (.ref rq),some (.ref sm),y]/\H sm=none/\bL K H H' sm (kry mv pt t)/\bL K H H' rq (pt.map (jD mv t))) ⟨s02,rq1,sm0,_,rfl,s1.none nf,⟨[],gf,.nil,fun z=>nomatch z⟩,by rw[show pt.map (jD mv 0)=pt from o9 pt];exact G1.same s2⟩ ?_ ?_
  ·rintro t σ' H' ht ⟨s',rq,sm,y,rfl,nsm,Gs,Gq⟩;obtain ⟨us,gu,pu,_⟩:=id Gs;obtain ⟨zs,gz,qz,_⟩:=id Gq;have lz:=qz.length;rw[aj] at lz;have lu:=pu.length;rw[vM] at lu;have lb:t*pt.length<=20*4:=aL (by lia) i4;walk_at "w";refine jA gu gz (aS (bG (by lia))) fun cc H3 s3 nc gc=>?_
   have ek:kry mv pt (t+1)=kry mv pt t++pt.map (jD mv t):=by
    rw[<- vY,Eh,je,vY];simp
   have Gc:bL K H H3 cc (kry mv pt (t+1)):=by
    rw[ek];exact ⟨_,gc,Paired.imp' (fun _ _ z=>dn.same z s3) (bT pu qz),kj ⟨H',nc,bT pu qz⟩⟩
   have s03:=s'.trans s3;have g3:=s03 _ _ g;walk_at "w";refine ⟨⟨_,bU.of (s3 _ _ gz)⟩,?_⟩;refine dS (K:=K) (F:=dn K H) (dn K H) (sJ mv) (s3 _ _ gz) (Paired.imp' (fun _ _ z=>dn.same z s3) qz) (by rw[aj];lia) (fun a b=>a.same b) (fun a b=>a.same b) ?_ ?_
   ·rintro i ns v Ha NY NN en sa ⟨u,rfl,_,Ru⟩ k1;have mn:=ax en;obtain ⟨y0,hy0,rfl⟩:=aB.mp mn;have wy:=D.pw y0 hy0;have ga:=sa _ _ g3;walk_at "w";exact ⟨m,u,H0,mv,_,rfl,(Gm.same s03).same sa,Ru,by lia,by rw[pF wy];lia,fun xs hx=>⟨by rw[D.mw xs hx,pF wy],((AF.row D.mw D.pw y0 hy0).fit D.mw wy (show t<=tt by lia)).1 xs hx⟩,fun z Hj nz sj Rz=>k1 _ _ sj ⟨z,rfl,s03.none (sa.none nz),Rz⟩⟩
   ·rintro ys Hb rr hrr sb gb prb nxb;have e:(pt.map (jD mv t)).map (sJ mv)=pt.map (jD mv (t+1)):=by rw[qV];rfl
    rw[e] at prb nxb;exact ⟨s03.trans sb,rr,cc,_,rfl,s'.none nc,Gc.same sb,ys,gb,prb,kj nxb⟩
  ·rintro σ' H' ⟨s',rq,sm,y,rfl,nsm,Gs,Gq⟩;walk_at "w";exact k sm H' nsm s' Gs
theorem pA:bu ["_law_thing","_law_part"] ["_law_thing"] (ay eQ):=by walk_at "d"
theorem xV (T:Txt K mg Z):cU P w K mg base gE 2 Z.jb Z.iX ["_law_thing"] (Je K):=by
 refine T.lM.ok pA (fun vs H Q E h=>?_) (fun cdv A outer s H vs Q E hr h=>?_)
 ·obtain ⟨x,n,rfl,⟨p,rfl,hp⟩,hn,k⟩:=h;rfl
 ·obtain ⟨x,n,rfl,⟨p,rfl,hp⟩,hn,k⟩:=h
  refine ⟨_,(ar (dm (PW.pt (pE (kh (jC (Ak rfl T.isinstance PyProof.Rows.boot_tuple T.tuple (pv 0)))) (ke (bE xR (bP bC (by rfl) T.len bg (ae (pv 0) ag)) ao (bK _))))) (aA (aW rN)) b7)
   (ar (dZ PassesOwn.never rfl (PH (pv 0)) (aO (i:=1) pA.nd)
    (aA (dm (PW.pt (pE (kh (jC (Ak rfl T.isinstance PyProof.Rows.boot_int T.int (pv 1)))) (ke (jC (Ak rfl T.isinstance PyProof.Rows.boot_bool T.bool (pv 1)))))) (aA (aW rN)) b7)))
   (aA (aW (DE (h7 wG (aV bS (pv 0) ao) ao (bK _)) (DC (h7 (DF (DU hr)) (cX (fW T) hr T.fo T.fF.kp T.gD (ae (aV bS (pv 0) ao) (ae (aV bS (pv 0) ao) ag))) (pv 0) (bK _)))))))),?_⟩
  refine aR (σ:=[some (.ref p),none]) rfl ?_;obtain ⟨hb,hg,_,hs⟩:=hn;walk_at "w";refine .inr ⟨p,_,_,rfl,hp,rfl,?_⟩;walk_at "w";refine ⟨_,_,rfl,.inr hp,?_⟩;walk_at "w"
  try refine NH ?_
  walk_at "w";refine ⟨⟨_,hp⟩,?_⟩;refine NK (K:=K) (a:=p) (xs:=[.int n.1,.int n.2]) (fun i σ' H'=>H'=H/\∃x,σ'=[some (.ref p),x]) ⟨rfl,none,rfl⟩ (fun i σ' H' _ ⟨e,_⟩=>by subst e;exact hp) ?_ ?_
  ·rintro i x σ' H' hx ⟨rfl,y,rfl⟩
   obtain ⟨z,rfl⟩:∃z,x=V.int z:=by
    have hm:x∈[V.int n.1,V.int n.2]:=ax hx;simp only[aF,aY,or_false] at hm;rcases hm with e | e
    ·exact ⟨_,e⟩
    ·exact ⟨_,e⟩
   walk_at "w";refine .inl ⟨_,_,.int z,rfl,?_⟩;walk_at "w";refine .inl ⟨_,_,.int z,rfl,?_⟩;walk_at "w";exact ⟨rfl,_,rfl⟩
  ·rintro σ' H' ⟨rfl,x,rfl⟩;walk_at "w";rw[decide_eq_true hb];walk_at "w";refine ⟨n.1,n.2,rfl,hb,hs.mono (by decide),fun r H' s1 h'=>?_⟩;obtain ⟨e1,e2⟩:=PX hb hg;walk_at "w";refine ⟨_,_,RE,(lo n.1 n.2,hi n.1 n.2),n,by decide,⟨r,rfl,sv.of h'⟩,⟨p,rfl,s1.sqt hp⟩,?_⟩;rw[e1,e2,decide_eq_true rfl];exact k _ s1
theorem AQ:bu ["_law_thing","_law_many"] ["_law_thing","_law_many"] (ay gR):=by walk_at "d"
theorem A8 (T:Txt K mg Z):cU P w K mg base gE 3 Z.mL Z.mj ["_law_thing","_law_many"] (Cp K):=by
 refine T.rD.ok AQ (fun vs H Q E h=>?_) (fun cdv A outer s H vs Q E hr h=>?_)
 ·obtain ⟨p,ns,rfl,hp,hl,hn,k⟩:=h;rfl
 ·obtain ⟨p,ns,rfl,hp,hl,hn,k⟩:=h
  refine ⟨_,(ar (dm (PW.pt (pE (kh (jC (y7 rfl T.isinstance PyProof.Rows.boot_list T.list (pv 0)))) (ke (bE xR (bP bC (by rfl) T.len bg (ae (pv 0) ag)) (pv 1) (bK _))))) (aA (aW rN)) b7)
   (aA (aW (bP (By rfl) (by rfl) T.all PyProof.Rows.boot_all (ae (cF ["_law_one"] [] [] (cK (pv 0)) (fun _=>(aO (i:=0) (show List.Nodup (α:=PySem.Str) ["_law_one"] by decide +kernel))) (fun _=>cC) (fun _=>(cX (xV T) hr T.pK T.lM.kp T.rW (ae (pv 0) ag)))) ag))))),?_⟩
  refine aR (σ:=[some (.ref p),some (.int ns.length)]) rfl ?_;obtain ⟨xs,gx,qx⟩:=id hp;have lx:=qx.length;walk_at "w";refine ⟨_,_,.lst gx,rfl,?_⟩;walk_at "w";refine ⟨_,_,rfl,.inl (bU.of gx),?_⟩;walk_at "w";rw[show ((xs.length:Nat):Int)=(ns.length:Nat) by rw[lx],decide_eq_true rfl];walk_at "w";refine ⟨⟨_,bU.of gx⟩,?_⟩;refine fQ (K:=K) (xs:=xs) (fun i ys H'=>aJ H H'/\ys=List.replicate i (.bl true)) (aS (bG (by lia))) ⟨aJ.refl _,rfl⟩ (fun i ys H' _ ⟨s,_⟩=>bU.of (s _ _ gx)) ?_ ?_
  ·rintro i x ys H' hx hlen ⟨s,rfl⟩;obtain ⟨n,en,z⟩:=cE qx hx;walk_at "w";exact ⟨x,n,rfl,s.num z,hn n (ax en),fun H2 s2=>⟨s.trans s2,by rw[C9]⟩⟩
  ·rintro ys H' hy ⟨s,rfl⟩ l hl';walk_at "w";refine ⟨l,List.replicate xs.length true,rfl,bU.of (by rw[aK];simp),?_⟩;have e4:(List.replicate xs.length true).all id=true:=by simp
   rw[e4];exact k _ (s.trans (aJ.new hl'))
theorem zZ:bu ["_law_thing","_law_many","_law_wide"] ["_law_thing","_law_many","_law_wide"] (ay fM):=by walk_at "d"
theorem uh (T:Txt K mg Z):cU P w K mg base gE 4 Z.kD Z.kx ["_law_thing","_law_many","_law_wide"] (FN K):=by
 refine T.kK.ok zZ (fun vs H Q E h=>?_) (fun cdv A outer s H vs Q E hr h=>?_)
 ·obtain ⟨p,rows,m,rfl,hp,hl,hm,hn,k⟩:=h;rfl
 ·obtain ⟨p,rows,m,rfl,hp,hl,hm,hn,k⟩:=h
  refine ⟨_,(ar (dm (PW.pt (pE (kh (jC (y7 rfl T.isinstance PyProof.Rows.boot_list T.list (pv 0)))) (ke (bE xR (bP bC (by rfl) T.len bg (ae (pv 0) ag)) (pv 1) (bK _))))) (aA (aW rN)) b7)
   (aA (aW (bP (By rfl) (by rfl) T.all PyProof.Rows.boot_all (ae (cF ["_law_row_here"] ["_law_wide"] [2] (cK (pv 0)) (fun _=>(aO (i:=0) (show List.Nodup (α:=PySem.Str) ["_law_row_here","_law_wide"] by decide +kernel))) (fun _=>cC) (fun _=>(cX (A8 T) hr T.uS T.rD.kp T.wZ (ae (pv 0) (ae (pv 1) ag))))) ag))))),?_⟩
  refine aR (σ:=[some (.ref p),some (.int rows.length),some (.int m)]) rfl ?_;obtain ⟨xs,gx,qx⟩:=id hp;have lx:=qx.length;walk_at "w";refine ⟨_,_,.lst gx,rfl,?_⟩;walk_at "w";refine ⟨_,_,rfl,.inl (bU.of gx),?_⟩;walk_at "w";rw[show ((xs.length:Nat):Int)=(rows.length:Nat) by rw[lx],decide_eq_true rfl];walk_at "w";refine ⟨⟨_,bU.of gx⟩,?_⟩;refine fQ (K:=K) (xs:=xs) (fun i ys H'=>aJ H H'/\ys=List.replicate i (.bl true)) (aS (bG (by lia))) ⟨aJ.refl _,rfl⟩ (fun i ys H' _ ⟨s,_⟩=>bU.of (s _ _ gx)) ?_ ?_
  ·rintro i x ys H' hx hlen ⟨s,rfl⟩;obtain ⟨ns,en,q,rfl,z⟩:=cE qx hx;obtain ⟨e1,e2⟩:=hn ns (ax en);walk_at "w";exact ⟨q,ns,by rw[e1],z.same s,by lia,e2,fun H2 s2=>⟨s.trans s2,by rw[C9]⟩⟩
  ·rintro ys H' hy ⟨s,rfl⟩ l hl';walk_at "w";refine ⟨l,List.replicate xs.length true,rfl,bU.of (by rw[aK];simp),?_⟩;have e4:(List.replicate xs.length true).all id=true:=by simp
   rw[e4];exact k _ (s.trans (aJ.new hl'))
theorem Dq:bu ["lists","joined","each"] ["lists"] (ay yV):=by walk_at "d"
theorem Nz (T:Txt K mg Z):cU P w K mg base gE 1 Z.Ei Z.D7 ["lists"] (Ku K):=by
 refine T.Ht.ok Dq (fun vs H Q E h=>?_) (fun cdv A outer s H vs Q E hr h=>?_)
 ·obtain ⟨p,xs,Rs,rfl,gx,qx,hl,k⟩:=h;rfl
 ·obtain ⟨p,xs,Rs,rfl,gx,qx,hl,k⟩:=h
  refine ⟨_,(ar (bc (i:=1) Dq.nd rfl (Or.inl rfl) (dr ag))
   (ar (dZ PassesOwn.never rfl (cK (pv 0)) (aO (i:=2) Dq.nd)
    (aA (iS (uH cG PySem.F.slot_list_extend PySem.F.type_list_extend JE (pv 1) (ae (pv 2) ag)))))
   (aA (aW (pv 1))))),?_⟩
  refine aR (σ:=[some (.ref p),none,none]) rfl ?_;have lx:=qx.length;walk_at "w";refine cR fun j H1 s1 n1 g1=>?_
  walk_at "w";refine ⟨⟨_,bU.of (s1 _ _ gx)⟩,?_⟩;refine iw (K:=K) (a:=p) (xs:=xs) (fun i σ' H'=>aJ H H'/\∃(us:List V) (x:Option V),σ'=[some (.ref p),some (.ref j),x]/\H' j=some (.lst us)/\Paired (dn K (Cf j) H') (Rs.take i).flatten us) ⟨s1,[],none,rfl,g1,.nil⟩ (fun i σ' H' _ ⟨s,_⟩=>bU.of (s _ _ gx)) ?_ ?_
  ·rintro i x σ' H' hx ⟨s,us,y,rfl,gj,pr⟩;obtain ⟨qs,eq,q,rfl,_,Gq⟩:=cE qx hx;obtain ⟨qj,zs,gz,qz,_⟩:=Gq.off n1;have lz:=qz.length;have lu:=pr.length;have tl:(Rs.take (i+1)).flatten=(Rs.take i).flatten++qs:=by rw[take_snoc eq,je];simp
   have bl:(Rs.take i).flatten.length+qs.length<=1000:=by
    have e:Rs.flatten=(Rs.take (i+1)).flatten++(Rs.drop (i+1)).flatten:=by rw[<- je,List.take_append_drop]
    rw[e,tl,ak,ak] at hl
    lia
   walk_at "w";refine ⟨.inl ⟨rfl,_,bU.of gj⟩,?_⟩;walk_at "w";refine ⟨j,q,us,zs,rfl,rfl,gj,s _ _ gz,aS (bG (by lia)),?_⟩;refine ⟨s.after n1,_,_,rfl,aK,?_⟩;rw[tl];exact bT (Paired.imp' (fun _ _ z=>dn.updL z gj off_ne) pr) (Paired.imp' (fun _ _ z=>dn.updL (dn.same z s) gj off_ne) qz)
  ·rintro σ' H' ⟨s,us,y,rfl,gj,pr⟩;rw[aH (by lia)] at pr;walk_at "w";refine k j (Cf j) H' n1 s ⟨us,gj,pr,fun z=>?_⟩;obtain ⟨_,_,q,e,h,_⟩:=dk pr z;cases e;exact off_ne h
theorem j9:bu ["system","steps","lists","rows","step"] ["system","steps"] (ay jM):=by walk_at "d"
theorem DI (T:Txt K mg Z):cU P w K mg base gE 7 Z.qD Z.pR ["system","steps"] (Kx K Z.a_System):=by
 refine T.vo.ok j9 (fun vs H Q E h=>?_) (fun cdv A outer s H vs Q E hr h=>?_)
 ·obtain ⟨x,u,a,c,H0,mv,pt,lk,rfl,hu,S,D,F,k⟩:=h;rfl
 ·obtain ⟨x,u,a,c,H0,mv,pt,lk,rfl,hu,S,D,F,k⟩:=h
  refine ⟨_,(ar (bc (i:=2) j9.nd rfl (Or.inl rfl) (dr ag))
   (ar (bc (i:=3) j9.nd rfl (Or.inl rfl) (jE (pv 0) rfl))
   (ar (dZ PassesOwn.never rfl (cy rfl T.range (ae (pv 1) ag)) (aO (i:=4) j9.nd)
    (ar (iS (uH cG cZ cY iT (pv 2) (ae (pv 3) ag)))
   (aA (bc (i:=3) j9.nd rfl (Or.inl rfl) (cX (wH T) hr T.rf T.ou.kp T.tD (ae (pv 0) (ae (pv 3) ag)))))))
   (aA (aW (pv 2)))))),?_⟩
  refine aR (σ:=[some (.ref x),some (.int u),none,none,none]) rfl ?_;obtain ⟨dx,a',b',c',gx,_,_,_,Ga,Gb,Gc⟩:=id S;have d8:=D.n8;have i4:=D.i4;walk_at "w";refine cR fun l H1 s1 n1 g1=>?_
  walk_at "w";refine ⟨x,Z.a_System,dx,_,_,rfl,s1 _ _ gx,T.cl_System,T.na_put,Dh,?_⟩;walk_at "w";obtain ⟨bl,G0⟩:=Gb.off n1;have G1:=G0.same s1;refine ⟨by lia,by lia,?_⟩;refine fb (n:=u) (fun i σ' H'=>aJ H H'/\∃q us y,σ'=[some (.ref x),some (.int u),some (.ref l),some (.ref q),y]/\q≠l/\H' l=some (.lst us)/\Paired (JY K l H') (JT mv pt i) us/\bL K (Cf l) H' q (pt.map (jD mv i))) ⟨s1,b',[],_,rfl,bl,g1,.nil,by rw[show pt.map (jD mv 0)=pt from o9 pt];exact G1⟩ ?_ ?_
  ·rintro i σ' H' hi ⟨s',q,us,y,rfl,ql,gu,pu,Gq⟩;have lu:=pu.length;have la:(JT mv pt i).length=i:=by unfold JT;rw[aj,b8]
   walk_at "w";refine ⟨.inl ⟨rfl,_,bU.of gu⟩,?_⟩;walk_at "w";refine iQ gu (bG (by lia)) ?_;have s2:aJ H (upd H' l (.lst (us++[V.ref q]))):=s'.after n1;have g2:(upd H' l (.lst (us++[V.ref q]))) l=some (.lst (us++[V.ref q])):=aK
   have p2:Paired (JY K l (upd H' l (.lst (us++[V.ref q])))) (JT mv pt (i+1)) (us++[V.ref q]):=by
    rw[Eh];exact bT (Paired.imp' (fun _ _ z=>JY.upd z gu) pu) (.cons ⟨q,rfl,ql,Gq.updL gu off_ne ql⟩ .nil)
   have Gq2:=Gq.updL (o:=.lst (us++[V.ref q])) gu off_ne ql;generalize upd H' l (.lst (us++[V.ref q]))=H2 at s2 g2 p2 Gq2 ⊢;walk_at "w";refine ⟨x,q,H0,Cf l,mv,pt,lk,_,rfl,S.same s2,D,Gq2,by rw[aj];lia,fun r hr=>?_,F.fitP D.mw D.pw (by lia),fun r H3 nr s3 G3=>?_⟩
   ·obtain ⟨y,hy,rfl⟩:=aB.mp hr;exact pF (D.pw y hy) i
   ·have e:(pt.map (jD mv i)).map (sJ mv)=pt.map (jD mv (i+1)):=by rw[qV];rfl
    rw[e] at G3;exact ⟨s2.trans s3,r,_,_,rfl,fun z=>(by rw[z,g2] at nr;cases nr),s3 _ _ g2,Paired.imp' (fun _ _ z=>JY.same z s3) p2,G3.weakN fun q h=>K7 fun z=>by rw[z,g2] at h;cases h⟩
  ·rintro σ' H' ⟨s',q,us,y,rfl,ql,gu,pu,Gq⟩;walk_at "w";exact k l us H' n1 s' gu pu
theorem BU:bu ["many"] ["many"] (ay iG):=by walk_at "d"
theorem qY (T:Txt K mg Z):cU P w K mg base gE 1 Z.nW Z.nF ["many"] (OU K):=by
 refine T.kI.ok BU (fun vs H Q E h=>?_) (fun cdv A outer s H vs Q E hr h=>?_)
 ·obtain ⟨m,rfl,hm,k⟩:=h;rfl
 ·obtain ⟨m,rfl,hm,k⟩:=h;refine ⟨_,(aA (aW (cF ["place"] [] [] (cy rfl T.range (ae (pv 0) ag)) (fun _=>(aO (i:=0) (show List.Nodup (α:=PySem.Str) ["place"] by decide +kernel))) (fun _=>cC) (fun _=>(xP (v:=.ref Z.a_NOUGHT) rfl T.mg_NOUGHT rfl))))),?_⟩;refine aR (σ:=[some (.int m)]) rfl ?_;walk_at "w";refine ⟨by lia,by lia,?_⟩;refine eT (n:=m) (cx K) (fun _=>0) (by lia) (fun a b=>a.same b) ?_ ?_
  ·rintro i Ha NY NN hi sa k1;walk_at "w";exact k1 _ _ (aJ.refl _) ⟨_,rfl,T.sq_NOUGHT _⟩
  ·rintro ys H1 t ht s1 g1 pr _;exact k t H1 ht s1 ⟨ys,g1,by rw[<- Lf];exact pr⟩
theorem rG:bu ["rows","wide","due","found","answer","line","lead"] ["rows","wide","due"] (ay rH):=by walk_at "d"
theorem CA (T:Txt K mg Z):cU P w K mg base gE 5 Z.yE Z.yr ["rows","wide","due"] (FJ K):=by
 refine T.yI.ok rG (fun vs H Q E h=>?_) (fun cdv A outer s H vs Q E hr h=>?_)
 ·obtain ⟨p,q,n,w,H0,rows,due,rfl,G,Rd,hd,m99,n99,hw,F,k1,k2⟩:=h;rfl
 ·obtain ⟨p,q,n,w,H0,rows,due,rfl,G,Rd,hd,m99,n99,hw,F,k1,k2⟩:=h
  refine ⟨_,(ar (bc (i:=3) rG.nd rfl (Or.inl rfl) (cX (EX T) hr T.Bc T.Ay.kp T.Ed (ae (cF ["row","wanted"] [] [] (vI rfl T.zip (ae (pv 0) (ae (pv 2) ag))) (fun _=>(vJ K 2 (cS (aO (i:=0) (show List.Nodup (α:=PySem.Str) ["row","wanted"] by decide +kernel)) (cS (aO (i:=1) (show List.Nodup (α:=PySem.Str) ["row","wanted"] by decide +kernel)) ju)))) (fun _=>cC) (fun _=>(bI jF (pv 0) (dr (ae (pv 1) ag))))) (ae (bI eY (pv 1) ao) ag))))
   (ar (dm (bE Jw (pv 1) (aV bS (pv 3) ao) (by with_unfolding_all rfl)) (aA (aW DD)) b7)
   (ar (bc (i:=4) rG.nd rfl (Or.inl rfl) (cX (qY T) hr T.lV T.kI.kp T.nU (ae (pv 1) ag)))
   (ar (dZ PassesOwn.never rfl (vI rfl T.zip (ae (aV bS (pv 3) ao) (ae (aV bS (pv 3) ao) ag))) (xm rfl (cS (aO (i:=5) rG.nd) (cS (aO (i:=6) rG.nd) ju)))
    (aA (fz (cX (vK T) hr T.rQ T.rX.kp T.va (ae (aV bW (pv 5) (pv 1)) (ae (aV bW (pv 5) (pv 6)) ag))) (ip (pv 4) (pv 6) set_list))))
   (aA (aW (pv 4))))))),?_⟩
  refine aR (σ:=[some (.ref p),some (.int n),some (.ref q),none,none,none,none]) rfl ?_;obtain ⟨xs,gx,qx,_⟩:=id G;obtain ⟨ds,gd,qd⟩:=id Rd;have lx:=qx.length;have ld:=qd.length;have lj:=rj hd;walk_at "w";refine ⟨⟨_,bU.of gx⟩,⟨_,bU.of gd⟩,?_⟩;refine uY (K:=K) (xs:=xs) (ws:=ds) (fun i ys H'=>aJ H H'/\Paired (dn K H H') ((dq rows due).take i) ys) (aS (bG (by lia))) (by lia) ⟨aJ.refl _,.nil⟩ (fun i ys H' _ ⟨s,_⟩=>⟨bU.of (s _ _ gx),bU.of (s _ _ gd)⟩) ?_ ?_
  ·rintro i v1 v2 ys H' r h1 h2 hy ⟨s,pr⟩ hr;obtain ⟨row,er,u,rfl,_,Ru⟩:=cE qx h1;obtain ⟨d,ed,nd⟩:=cE qd h2;have wr:=hw row (ax er);have sr:aJ H' (upd H' r (.tup [.ref u,v2])):=aJ.new hr;have gr:(upd H' r (.tup [.ref u,v2])) r=some (.tup [.ref u,v2]):=aK;generalize upd H' r (.tup [.ref u,v2])=H2 at sr gr ⊢;have s2:=s.trans sr;walk_at "w";refine cR fun l1 H3 s3 n3 g3=>?_
   have s23:=s2.trans s3;obtain ⟨zs,gz,qz⟩:=Ru.same s23;have lz:=qz.length;walk_at "w";refine jA gz g3 (aS (bG (by rw[bx];lia))) fun l2 H4 s4 n4 g4=>?_
   refine ⟨s23.trans s4,?_⟩;rw[take_snoc (Ov er ed)];exact bT (Paired.imp' (fun _ _ z=>dn.same z ((sr.trans s3).trans s4)) pr) (.cons ⟨l2,rfl,s23.none n4,_,g4,Paired.imp' (fun _ _ z=>cx.same z s4) (bT qz (.cons (nd.same s23) .nil))⟩ .nil)
  rintro ys H1 hy ⟨s1,pr⟩ l hl;have sn:aJ H1 (upd H1 l (.lst ys)):=aJ.new hl;have gn:(upd H1 l (.lst ys)) l=some (.lst ys):=aK;rw[aH (by lia)] at pr;generalize upd H1 l (.lst ys)=H2 at sn gn ⊢;have GJ:bL K H H2 l (dq rows due):=ze pr sn hl gn;have s02:=s1.trans sn;walk_at "w";rw[show ((n:Int)+1)=((n+1:Nat):Int) by lia];refine ⟨l,n+1,w,H,_,rfl,GJ,by lia,by lia,yk hw,F,fun t lp qp R ps d ls H3 gt gq GZ s3 S=>?_⟩;have s03:=s02.trans s3;have pn:=S.rr.le;walk_at "w";refine ⟨qp,fP ps,rfl,.inl (bU.of gq),rfl,JD,?_⟩;rw[Lv];by_cases hn:n∈ps
  ·rw[decide_eq_true hn,show (if false=true then !true else true)=true from rfl];walk_at "w";exact k2 R ps H3 S.rr hn s03
  ·rw[decide_eq_false hn,show (if false=true then !false else false)=false from rfl];obtain ⟨lR,wR,rr⟩:=id S.rr;obtain ⟨_,zs,gz,qz⟩:=id GZ;have lz:=qz.length;have hl':=S.len
   have low:∀j,j < ps.length->ps.getD j 0 < n:=fun j hj=>by
    have:=rr.low j hj;have:ps.getD j 0≠n:=fun z=>hn (by rw[<- z];exact getD_in hj)
    lia
   obtain ⟨_,_,_,_,_,_,_,_,_,e89⟩:=id F;rw[lj] at e89;have dsz:Sz 8999 d:=bB S.dsz (dU (by decide) (by rw[lj];lia));have lps:=K8 (ps:=ps);walk_at "w";refine ⟨n,rfl,by lia,fun an H4 na s4 R4=>?_⟩;rw[<- ME (R:=R) (ps:=ps)] at R4;obtain ⟨vs0,g0,q0⟩:=id R4;have gt4:=s4 _ _ gt;walk_at "w";refine ⟨⟨_,bU.of (s4 _ _ gz)⟩,⟨_,bU.of (s4 _ _ gq)⟩,?_⟩;refine NJ (K:=K) (xs:=zs) (ws:=fP ps) (fun j σ' H'=>aJ H3 H'/\∃y1 y2 vs,σ'=[some (.ref p),some (.int n),some (.ref q),some (.ref t),some (.ref an),y1,y2]/\H' an=some (.lst vs)/\Paired (cx K H') (xI R ps n j) vs) (by lia) ⟨s4,_,_,vs0,rfl,g0,q0⟩ (fun j σ' H' _ ⟨e,_⟩=>⟨bU.of (e _ _ gz),bU.of (e _ _ gq)⟩) ?_ ?_
   ·rintro j v1 v2 σ' H' r h1 h2 ⟨s',y1,y2,vs,rfl,ga,qa⟩ hr;obtain ⟨line,el,u,rfl,_,gu⟩:=cE qz h1;have wl:=S.wide line (ax el);obtain ⟨pj,ej,rfl⟩:=ND h2;have hj:j < ps.length:=(aI.mp ej).1;have ejD:ps.getD j 0=pj:=by rw[aa,ej];rfl
    have pjn:=low j hj;rw[ejD] at pjn;have v0:=S.val j n;rw[Kb el] at v0
    have ed:line.getD pj 0=d:=by
     have h:=S.val j pj;rw[Kb el] at h;have u:=rr.unit j hj j hj;rw[if_pos rfl,ejD] at u;rw[u,yJ] at h;exact dF.mp h
    have sr:aJ H' (upd H' r (.tup [.ref u,.int pj])):=aJ.new hr;have gr:(upd H' r (.tup [.ref u,.int pj])) r=some (.tup [.ref u,.int pj]):=aK;generalize upd H' r (.tup [.ref u,.int pj])=H5 at sr gr ⊢;have gu5:=(s'.trans sr) _ _ gu;walk_at "w";refine cD (bU.of gu5) (AD (by lia)) ?_;walk_at "w";refine cD (bU.of gu5) (AD (by lia)) ?_;rw[ed];walk_at "w";refine ⟨_,d,rfl,S.d0,dsz,fun r6 H6 s6 g6=>?_⟩;have d0:(d:Rat)≠0:=fun z=>S.d0 (ng z)
    have n6:cx K H6 (cn R j n) (.ref r6):=by
     refine cx.mk g6 ?_;rcases Int.lt_or_lt_of_ne S.d0 with hd' | hd'
     ·rw[if_pos hd',if_pos hd'];refine nD (by lia) ?_;rw[cH,cH,v0];grind
     ·rw[if_neg (by lia),if_neg (by lia)];refine nD hd' ?_;rw[v0];grind
    have ga6:=(sr.trans s6) _ _ ga;have la:=qa.length;rw[kS] at la;walk_at "w";refine fk ga6 (fI (by lia)) rfl ?_;refine ⟨((s'.trans sr).trans s6).after na,_,_,_,rfl,aK,?_⟩;rw[<- MF S.rr hj,ejD];exact lB (Paired.imp' (fun _ _ z=>(cx.same z (sr.trans s6)).updL ga6) qa) pj (n6.updL ga6)
   ·rintro σ' H' ⟨s',y1,y2,vs,rfl,ga,qa⟩;rw[show zs.length=ps.length by lia] at qa;walk_at "w";refine k1 an R ps d.natAbs H' S.rr hn (s03.none na) (s03.trans s') ⟨vs,ga,qa⟩ (by have:=S.d0;lia) (by rw[<- lj];exact S.dsz) ?_;rw[<- lj];exact QX (by have:=S.d0;lia) S.tp S.rr
theorem AO:bu ["grid","wide"] ["grid","wide"] (ay gN):=by walk_at "d"
theorem oQ (T:Txt K mg Z):cU P w K mg base gE 1 Z.mH Z.ma ["grid","wide"] (Kl K):=by
 refine T.jo.ok AO (fun vs H Q E h=>?_) (fun cdv A outer s H vs Q E hr h=>?_)
 ·obtain ⟨p,w,H0,rows,rfl,hp,hz,hw,hl,kk⟩:=h;rfl
 ·obtain ⟨p,w,H0,rows,rfl,hp,hz,hw,hl,kk⟩:=h;refine ⟨_,(aA (aW (cF ["place"] ["grid"] [0] (cy rfl T.range (ae (pv 1) ag)) (fun _=>(aO (i:=0) (show List.Nodup (α:=PySem.Str) ["place","grid"] by decide +kernel) rfl (Or.inr rfl) (Or.inl rfl))) (fun _=>cC) (fun _=>(cF ["line"] ["place"] [0] (EW K (pv 1)) (fun _=>(aO (i:=0) (show List.Nodup (α:=PySem.Str) ["line","place"] by decide +kernel))) (fun _=>cC) (fun _=>(aV (iu K (by rfl)) (pv 0) (pv 1)))))))),?_⟩;refine aR (σ:=[some (.ref p),some (.int w)]) rfl ?_;walk_at "w";refine ⟨by lia,by lia,?_⟩;refine eT (n:=w) (dn K H) (fun j=>rows.map fun xs=>xs.getD j 0) hw (fun a b=>a.same b) ?_ ?_
  ·rintro j H1 NY NN hj s1 k1;obtain ⟨xs,gx,qx,_⟩:=hp.same s1;walk_at "w";refine ⟨⟨_,bU.of gx⟩,?_⟩;refine dS (K:=K) (F:=dn K H0) (cx K) (fun xs=>xs.getD j 0) gx qx hz (fun a b=>a.same b) (fun a b=>a.same b) ?_ ?_
   ·rintro i ns x H2 NY2 NN2 en s2 ⟨u,rfl,_,zs,gz,qz⟩ k2;obtain ⟨v,ev,hv⟩:=Fy qz (j:=j) (by rw[hl ns (ax en)];exact hj);walk_at "w";refine cD (bU.of gz) ev ?_;exact k2 _ _ (aJ.refl _) hv
   ·rintro ys' H2 r hr s2 g pr nx;exact k1 _ _ s2 ⟨r,rfl,s1.none hr,ys',g,pr⟩
  ·rintro ys' H1 r hr s1 g pr nx;exact kk r H1 hr s1 ⟨ys',g,pr,kj nx⟩
theorem AL:bu ["rows","wide","due","answer","columns"] ["rows","wide","due"] (ay vG):=by walk_at "d"
theorem K5 (T:Txt K mg Z):cU P w K mg base gE 6 Z.Av Z.Ap ["rows","wide","due"] (IT K):=by
 refine T.Eo.ok AL (fun vs H Q E h=>?_) (fun cdv A outer s H vs Q E hr h=>?_)
 ·obtain ⟨p,q,n,w,w1,H0,rows,due,rfl,G,Rd,hd,m90,n90,hw,F,F1,k1,k2⟩:=h;rfl
 ·obtain ⟨p,q,n,w,w1,H0,rows,due,rfl,G,Rd,hd,m90,n90,hw,F,F1,k1,k2⟩:=h
  refine ⟨_,(ar (bc (i:=3) AL.nd rfl (Or.inl rfl) (cX (CA T) hr T.y8 T.yI.kp T.BB (ae (pv 0) (ae (pv 1) (ae (pv 2) ag)))))
   (ar (dm (bE HS (pv 3) DD (bK _)) (aA (aW (cW (ae sH (ae (pv 3) ag))))) b7)
   (ar (bc (i:=4) AL.nd rfl (Or.inl rfl) (cX (oQ T) hr T.ko T.jo.kp T.mB (ae (pv 0) (ae (pv 1) ag))))
   (aA (aW (cW (ae sH (ae (cX (CA T) hr T.y8 T.yI.kp T.BB (ae (bI jF (pv 4) (dr (ae (pv 2) ag))) (ae (bP bC (by rfl) T.len bg (ae (pv 0) ag)) (ae (bI jF (cX (qY T) hr T.lV T.kI.kp T.nU (ae (pv 1) ag)) (dr (ae (xP (v:=.ref Z.a_ONE) rfl T.mg_ONE rfl) ag))) ag)))) ag)))))))),?_⟩
  refine aR (σ:=[some (.ref p),some (.int n),some (.ref q),none,none]) rfl ?_;walk_at "w";refine ⟨p,q,n,w,H0,rows,due,rfl,G,Rd,hd,by lia,by lia,hw,F,fun x R ps M H1 RR hn nx s1 Rx M0 M1 tM=>?_,fun R ps H1 RR hn s1=>?_⟩
  ·walk_at "w";refine ⟨rfl,_,rfl,?_⟩;rw[show decide (V.ref x=V.non)=false from decide_eq_false (fun z=>nomatch z)];walk_at "w";refine cg fun t H2 s2 g2=>?_
   exact k1 t x R ps M H2 RR hn g2 nx (s1.trans s2) (Rx.same s2) M0 M1 tM
  ·walk_at "w";refine ⟨rfl,_,rfl,?_⟩;rw[show decide (V.non=V.non)=true from decide_eq_true rfl];walk_at "w";refine ⟨p,n,H0,rows,rfl,G.same s1,by lia,by lia,hw,fun co H2 nc s2 G2=>?_⟩;have s02:=s1.trans s2;walk_at "w";refine cR fun l3 H3 s3 n3 g3=>?_
   obtain ⟨cs,gc,qc,_⟩:=G2.same s3;have lc:=qc.length;rw[dw] at lc;walk_at "w";refine jA gc g3 (aS (bG (by rw[bx];lia))) fun l4 H4 s4 n4 g4=>?_
   have s03:=s02.trans s3;have s04:=s03.trans s4;have G4:bL K (fun _=>none) H4 l4 (di rows n++[due]):=ze (H:=H3) (bT (Paired.imp' (fun _ _ ⟨q',a,_,c⟩=>⟨q',a,rfl,c⟩) qc) (.cons ⟨q,rfl,rfl,Rd.same s03⟩ .nil)) s4 n4 g4;obtain ⟨xs,gx,qx,_⟩:=G.same s04;have lx:=qx.length;walk_at "w";refine ⟨_,_,rfl,.inl (bU.of gx),?_⟩;rw[<- lx];walk_at "w";refine ⟨n,rfl,by lia,fun l5 H5 n5 s5 R5=>?_⟩;walk_at "w";refine cR fun l6 H6 s6 n6 g6=>?_
   obtain ⟨zs,gz,qz⟩:=R5.same s6;have lz:=qz.length;rw[aE] at lz;walk_at "w";refine jA gz g6 (aS (bG (by rw[bx];lia))) fun l7 H7 s7 n7 g7=>?_
   have s47:=(s5.trans s6).trans s7;have s07:=s04.trans s47;have R7:cQ K H7 l7 (List.replicate n 0++[1]):=⟨_,g7,Paired.imp' (fun _ _ z=>cx.same z s7) (bT qz (.cons ⟨_,rfl,T.sq_ONE _⟩ .nil))⟩;have l1:(di rows n++[due]).length=n+1:=by rw[ak,dw];rfl
   have w1':∀xs∈di rows n++[due],xs.length=rows.length:=fun xs hx=>by
    rcases au.mp hx with hx | hx
    ·exact kR xs hx
    ·rw[bF.mp hx];exact hd
   walk_at "w";refine ⟨l4,l7,rows.length,w1,_,_,_,rfl,G4.same s47,R7,by rw[l1,ak,aE];rfl,by lia,by lia,w1',F1,fun x R1 p1 M H8 RR1 hn1 nx s8 Rx M0 M1 tM=>?_,fun R1 p1 H8 RR1 hn1 s8=>?_⟩
   ·walk_at "w";refine cg fun t H9 s9 g9=>?_
    rw[l1] at M1 tM;exact k2 t x R ps R1 p1 M H9 RR hn RR1 hn1 g9 (s07.none nx) ((s07.trans s8).trans s9) (Rx.same s9) M0 M1 tM
   ·exact absurd hn1 (Js hd hw RR hn RR1)
theorem uE:bu ["rows","wide","row","answer"] ["rows","wide","row"] (ay gK):=by walk_at "d"
theorem A3 (T:Txt K mg Z):cU P w K mg base gE 7 Z.mE Z.lW ["rows","wide","row"] (EC K):=by
 refine T.rA.ok uE (fun vs H Q E h=>?_) (fun cdv A outer s H vs Q E hr h=>?_)
 ·obtain ⟨p,q,n,w,w1,H0,rows,row,rfl,G,Rr,hl,m90,n90,hw,F,F1,k1,k2⟩:=h;rfl
 ·obtain ⟨p,q,n,w,w1,H0,rows,row,rfl,G,Rr,hl,m90,n90,hw,F,F1,k1,k2⟩:=h
  refine ⟨_,(ar (bc (i:=3) uE.nd rfl (Or.inl rfl) (cX (K5 T) hr T.E6 T.Eo.kp T.Iw (ae (cX (oQ T) hr T.ko T.jo.kp T.mB (ae (pv 0) (ae (pv 1) ag))) (ae (bP bC (by rfl) T.len bg (ae (pv 0) ag)) (ae (pv 2) ag)))))
   (aA (aW (cW (ae (K3 (bE eK (aV bS (pv 3) ao) sH (bK _)) sH sH) (ae (aV bS (pv 3) ao) ag)))))),?_⟩
  refine aR (σ:=[some (.ref p),some (.int n),some (.ref q),none]) rfl ?_;walk_at "w";refine ⟨p,n,H0,rows,rfl,G,by lia,by lia,hw,fun co H1 nc s1 G1=>?_⟩;obtain ⟨xs,gx,qx,_⟩:=G.same s1;have lx:=qx.length;walk_at "w";refine ⟨_,_,rfl,.inl (bU.of gx),?_⟩;rw[<- lx];have lT:(di rows n).length=n:=dw;have eS:Kj (di rows n) rows.length row=dq (rows++[row]) (List.replicate rows.length 0++[1]):=by unfold Kj;rw[II hw]
  walk_at "w";refine ⟨co,q,rows.length,w,w1,_,di rows n,row,rfl,G1,Rr.same s1,by lia,by lia,by lia,fun xs hx=>kR xs hx,F,by rw[eS,lT];exact F1,fun t x R ps M H2 RR hn g2 nx s2 Rx M0 M1 tM=>?_,fun t x R ps R1 p1 M H2 RR hn RR1 hn1 g2 nx s2 Rx M0 M1 tM=>?_⟩
  ·rw[lT] at M1 tM;walk_at "w";rw[decide_eq_true rfl];walk_at "w";refine cg fun t2 H3 s3 g3=>?_
   exact k1 t2 x R ps M H3 RR hn g3 (s1.none nx) ((s1.trans s2).trans s3) (Rx.same s3) M0 M1 tM
  ·rw[lT] at M1 tM RR1 hn1 Rx;rw[eS] at RR1;walk_at "w";rw[decide_eq_false (show ¬(Str.ofString "no"=Str.ofString "yes") by decide)];walk_at "w";refine cg fun t2 H3 s3 g3=>?_
   exact k2 t2 x R ps R1 p1 M H3 RR hn RR1 hn1 g3 (s1.none nx) ((s1.trans s2).trans s3) (Rx.same s3) M0 M1 tM
theorem KA:bu ["one","other"] ["one","other"] (ay vH):=by walk_at "d"
theorem K6 (T:Txt K mg Z):cU P w K mg base gE 3 Z.Aw Z.Aq ["one","other"] (uD K (fun x y=>x - y)):=by
 refine T.Ep.ok KA (fun vs H Q E h=>?_) (fun cdv A outer s H vs Q E hr h=>?_)
 ·obtain ⟨p,q,a,b,c,d,rfl,hp,hq,hb,hd,sa,sb,sc,sd,k⟩:=Ah h;rfl
 ·obtain ⟨p,q,a,b,c,d,rfl,hp,hq,hb,hd,sa,sb,sc,sd,k⟩:=Ah h;refine ⟨_,(aA (aW (cX (vK T) hr T.rQ T.rX.kp T.va (ae (bI jh (bI dc (aV bS (pv 0) ao) (aV bS (pv 1) ao)) (bI dc (aV bS (pv 1) ao) (aV bS (pv 0) ao))) (ae (bI dc (aV bS (pv 0) ao) (aV bS (pv 1) ao)) ag))))),?_⟩;refine aR (σ:=[some (.ref p),some (.ref q)]) rfl ?_;have hbd:0 < b*d:=js hb hd;have sbd:Sz 8999 (b*d):=(sb.mul sd).mono (by decide);walk_at "w";refine fw (show fX _ _ from .inr ⟨_,_,sa,sd,by decide⟩) ?_;walk_at "w";refine fw (show fX _ _ from .inr ⟨_,_,sc,sb,by decide⟩) ?_;walk_at "w";refine fw (show fX _ _ from .inr ⟨_,_,sb,sd,by decide⟩) ?_;walk_at "w";walk_at "w";refine ⟨_,_,rfl,by lia,sbd,fun r H' s' h'=>?_⟩;rw[if_neg (by lia),if_neg (by lia)] at h';exact k r H' s' h'
theorem Dn:bu ["one","other"] ["one","other"] (ay jK):=by walk_at "d"
theorem DG (T:Txt K mg Z):cU P w K mg base gE 4 Z.qB Z.pP ["one","other"] (Co K):=by
 refine T.vm.ok Dn (fun vs H Q E h=>?_) (fun cdv A outer s H vs Q E hr h=>?_)
 ·obtain ⟨p,q,xq,yq,rfl,hp,hq,hl,hz,hn,hm,k⟩:=h;rfl
 ·obtain ⟨p,q,xq,yq,rfl,hp,hq,hl,hz,hn,hm,k⟩:=h;refine ⟨_,(aA (aW (cF ["mine","yours"] [] [] (vI rfl T.zip (ae (pv 0) (ae (pv 1) ag))) (fun _=>(vJ K 2 (cS (aO (i:=0) (show List.Nodup (α:=PySem.Str) ["mine","yours"] by decide +kernel)) (cS (aO (i:=1) (show List.Nodup (α:=PySem.Str) ["mine","yours"] by decide +kernel)) ju)))) (fun _=>cC) (fun _=>(cX (K6 T) hr T.E7 T.Ep.kp T.Iy (ae (pv 0) (ae (pv 1) ag))))))),?_⟩;refine aR (σ:=[some (.ref p),some (.ref q)]) rfl ?_;obtain ⟨xs,gx,qx⟩:=id hp;obtain ⟨ys,gy,qy⟩:=id hq;have lx:=qx.length;have ly:=qy.length;walk_at "w";refine ⟨⟨_,bU.of gx⟩,⟨_,bU.of gy⟩,?_⟩;refine uY (K:=K) (xs:=xs) (ws:=ys) (fun i zs H'=>aJ H H'/\Paired (cx K H') ((List.zipWith (fun x y=>x - y) xq yq).take i) zs) (aS (bG (by lia))) (by lia) ⟨aJ.refl _,.nil⟩ (fun i zs H' _ ⟨s,_⟩=>⟨bU.of (s _ _ gx),bU.of (s _ _ gy)⟩) ?_ ?_
  ·rintro i x y zs H' r hx hy hlen ⟨s,hP⟩ hr;obtain ⟨n,en,hn1⟩:=cE qx hx;obtain ⟨m,em,hm1⟩:=cE qy hy;have s1:=aJ.new (o:=.tup [x,y]) hr;have s01:=s.trans s1;have gr:(upd H' r (.tup [x,y])) r=some (.tup [x,y]):=aK;generalize upd H' r (.tup [x,y])=Hr at s1 s01 gr ⊢;walk_at "w";refine ⟨_,_,n,m,rfl,hn1.same s01,hm1.same s01,hn n (ax en),hm m (ax em),fun r3 H3 s3 h3=>?_⟩;refine ⟨s01.trans s3,?_⟩;have ez:(List.zipWith (fun x y=>x - y) xq yq)[i]?=some (n - m):=by rw[b6,en,em]
   rw[take_snoc ez];exact bT (Paired.imp' (fun _ _ z=>z.same (s1.trans s3)) hP) (.cons h3 .nil)
  ·rintro zs H' hy ⟨s,hP⟩ l hl';rw[aH (by rw[cz];lia)] at hP;exact k l _ (s.none hl') (s.trans (aJ.new hl')) ⟨zs,aK,Paired.imp' (fun _ _ z=>z.same (aJ.new hl')) hP⟩
theorem uf:bu ["self","state","puts","columns"] ["self","state","puts"] (ay fO):=by walk_at "d"
theorem z9 (T:Txt K mg Z):cU P w K mg base gE 5 Z.kF Z.kz ["self","state","puts"] (IY K Z.a_System):=by
 refine T.vC.ok uf (fun vs H Q E h=>?_) (fun cdv A outer s H vs Q E hr h=>?_)
 ·obtain ⟨x,p,q,H0,mv,pt,lk,st,pu,rfl,S,D,F,hp,hq,l1,l2,fs,k⟩:=h;rfl
 ·obtain ⟨x,p,q,H0,mv,pt,lk,st,pu,rfl,S,D,F,hp,hq,l1,l2,fs,k⟩:=h
  refine ⟨_,(ar (bc (i:=3) uf.nd rfl (Or.inl rfl) (cX (oQ T) hr T.ko T.jo.kp T.mB (ae (jE (pv 0) rfl) (ae (jE (pv 0) rfl) ag))))
   (aA (aW (cF ["line","column"] ["state","puts"] [1,2] (vI rfl T.zip (ae (jE (pv 0) rfl) (ae (pv 3) ag))) (fun _=>(vJ K 2 (cS (aO (i:=0) (show List.Nodup (α:=PySem.Str) ["line","column","state","puts"] by decide +kernel)) (cS (aO (i:=1) (show List.Nodup (α:=PySem.Str) ["line","column","state","puts"] by decide +kernel)) ju)))) (fun _=>cC) (fun _=>(cX (A4 T) hr T.xp T.wg.kp T.zh (ae (bI jF (pv 0) (pv 1)) (ae (bI jF (pv 2) (pv 3)) ag)))))))),?_⟩
  refine aR (σ:=[some (.ref x),some (.ref p),some (.ref q),none]) rfl ?_;obtain ⟨dx,a,b,c,gx,n1,n2,n3,Ga,Gb,Gc⟩:=id S;have d1:=D.n8;have d2:=D.i4;walk_at "w";refine ⟨x,Z.a_System,dx,_,_,rfl,gx,T.cl_System,T.na_put,Dh,?_⟩;walk_at "w";refine ⟨x,Z.a_System,dx,_,_,rfl,gx,T.cl_System,T.na_states,xj,?_⟩;walk_at "w";refine ⟨b,mv.length,H0,pt,rfl,Gb,by lia,by lia,D.pw,fun t H1 nt s1 Gt=>?_⟩;obtain ⟨as,ga,qa,_⟩:=Ga.same s1;obtain ⟨ts,gt,qt,_⟩:=id Gt;have la:=qa.length;have lt:=qt.length;rw[dw] at lt;have gx1:=s1 _ _ gx;walk_at "w";refine ⟨x,Z.a_System,dx,_,_,rfl,gx1,T.cl_System,T.na_move,AJ,?_⟩;walk_at "w";refine ⟨⟨_,bU.of ga⟩,⟨_,bU.of gt⟩,?_⟩;refine uY (K:=K) (xs:=as) (ws:=ts) (fun i ys H'=>aJ H1 H'/\Paired (cx K H') ((gY mv pt st pu).take i) ys) (aS (bG (by lia))) (by lia) ⟨aJ.refl _,.nil⟩ (fun i ys H' _ ⟨s,_⟩=>⟨bU.of (s _ _ ga),bU.of (s _ _ gt)⟩) ?_ ?_
  ·rintro i v1 v2 ys H' r h1 h2 hy ⟨s,pr⟩ hr;obtain ⟨line,el,u1,rfl,_,R1⟩:=cE qa h1;obtain ⟨col,ec,u2,rfl,_,R2⟩:=cE qt h2;have ml:=ax el;have mc:=ax ec;have sr:aJ H' (upd H' r (.tup [.ref u1,.ref u2])):=aJ.new hr;have gr:(upd H' r (.tup [.ref u1,.ref u2])) r=some (.tup [.ref u1,.ref u2]):=aK;have s2:=s.trans sr;generalize upd H' r (.tup [.ref u1,.ref u2])=H2 at sr gr s2 ⊢;have lc:col.length=pt.length:=kR col mc;have ll:line.length=mv.length:=D.mw line ml;obtain ⟨z1,g1,q1⟩:=R1.same s2;obtain ⟨z2,g2,q2⟩:=R2.same s2;have y1:=q1.length;have y2:=q2.length;walk_at "w";refine jA g1 g2 (aS (bG (by lia))) fun c1 H3 s3 n3' g3=>?_
   have s13:=s2.trans s3;obtain ⟨z3,g4,q3⟩:=(hp.same s1).same s13;obtain ⟨z4,g5,q4⟩:=(hq.same s1).same s13;have y3:=q3.length;have y4:=q4.length;walk_at "w";refine jA g4 g5 (aS (bG (by lia))) fun c2 H4 s4 n4 g6=>?_
   have s34:=s3.trans s4;walk_at "w";refine ⟨c1,c2,line++col,st++pu,rfl,⟨_,s4 _ _ g3,Paired.imp' (fun _ _ z=>z.same s34) (bT q1 q2)⟩,⟨_,g6,Paired.imp' (fun _ _ z=>z.same s4) (bT q3 q4)⟩,by rw[ak,ak];lia,by rw[ak];lia,.sys ?_ fs,fun r2 H5 s5 h5=>?_⟩
   ·refine F.fits fun y hy=>?_
    rcases au.mp hy with hy | hy
    ·exact .inl ⟨line,ml,hy⟩
    ·obtain ⟨j,_,rfl⟩:=aB.mp mc;obtain ⟨xs,hx,rfl⟩:=aB.mp hy;by_cases hj:j < xs.length
     ·refine .inr (.inl ⟨xs,hx,?_⟩);rw[aa,af hj];exact aQ hj
     ·exact .inr (.inr (.inr (by rw[aa,aM (by lia)];rfl)))
   ·have em:(gY mv pt st pu)[i]?=some (eG (line++col) (st++pu)):=by
     unfold gY;rw[b6,el,ec]
    refine ⟨((s2.trans s34).trans s5),?_⟩;rw[take_snoc em];exact bT (Paired.imp' (fun _ _ z=>(z.same (sr.trans s34)).same s5) pr) (.cons h5 .nil)
  ·rintro ys H' hy ⟨s,pr⟩ l hl;have lm:(gY mv pt st pu).length=mv.length:=by unfold gY;rw[cz,dw];lia
   rw[aH (by lia)] at pr;exact k l _ (s1.none (s.none hl)) ((s1.trans s).trans (aJ.new hl)) ⟨ys,aK,Paired.imp' (fun _ _ z=>z.same (aJ.new hl)) pr⟩
theorem yT:bu ["system","start","puts","states","row"] ["system","start","puts"] (ay rL):=by walk_at "d"
theorem Jy (T:Txt K mg Z):cU P w K mg base gE 6 Z.yH Z.yv ["system","start","puts"] (FO K Z.a_System):=by
 refine T.BK.ok yT (fun vs H Q E h=>?_) (fun cdv A outer s H vs Q E hr h=>?_)
 ·obtain ⟨x,s,p,H0,H1,mv,pt,lk,pus,st,rfl,S,D,F,Rs,ls,Gp,lp,wp,cf,k⟩:=h;rfl
 ·obtain ⟨x,s,p,H0,H1,mv,pt,lk,pus,st,rfl,S,D,F,Rs,ls,Gp,lp,wp,cf,k⟩:=h
  refine ⟨_,(ar (bc (i:=3) yT.nd rfl (Or.inl rfl) (dr (ae (dO tx (by rfl) T.list PyProof.Rows.boot_list (ae (pv 1) ag)) ag)))
   (ar (dZ PassesOwn.never rfl (cK (pv 2)) (aO (i:=4) yT.nd)
    (aA (iS (uH cG cZ cY iT (pv 3) (ae (Nu (pv 0) T.cl_System T.uj (z9 T) (hr.mono (by decide)) T.vf .nil HR (ae (aV bW (pv 3) (xO sD ao)) (ae (pv 4) ag))) ag)))))
   (aA (aW (pv 3))))),?_⟩
  refine aR (σ:=[some (.ref x),some (.ref s),some (.ref p),none,none]) rfl ?_;have d1:=D.n8;obtain ⟨ss,gs,qs⟩:=id Rs;obtain ⟨ps,gp,qp,_⟩:=id Gp;have lps:=qp.length;walk_at "w";refine ⟨s,ss,rfl,.inl (bU.of gs),fun c hc=>?_⟩;have sc:aJ H (upd H c (.lst ss)):=aJ.new hc;have Rc:cQ K (upd H c (.lst ss)) c st:=⟨ss,aK,Paired.imp' (fun _ _ z=>z.same sc) qs⟩;generalize upd H c (.lst ss)=Hc at sc Rc ⊢;walk_at "w";refine cR fun l Hl sl nl gl=>?_
  have hl0:=sc.none nl;have s0:=sc.trans sl;have cl:c≠l:=fun z=>by obtain ⟨_,g,_⟩:=Rc;rw[z,nl] at g;cases g
  have pr0:Paired (zm K H l Hl) ((qe mv pt st pus).take 1) [V.ref c]:=by
   have:(qe mv pt st pus).take 1=[st]:=by
    have e:=take_snoc (vW (mv:=mv) (pt:=pt) (st:=st) (pus:=pus) (k:=0) (bA _));rw[e];rfl
   rw[this];exact .cons ⟨c,rfl,hc,cl,Rc.same sl⟩ .nil
  walk_at "w";refine ⟨⟨_,bU.of (s0 _ _ gp)⟩,?_⟩;refine iw (K:=K) (a:=p) (xs:=ps) (fun i σ' H'=>aJ H H'/\(∃y ys,σ'=[some (.ref x),some (.ref s),some (.ref p),some (.ref l),y]/\H' l=some (.lst ys)/\Paired (zm K H l H') ((qe mv pt st pus).take (i+1)) ys)) ⟨s0,_,_,rfl,gl,pr0⟩ (fun i σ' H' _ ⟨e,_⟩=>bU.of (e _ _ gp)) ?_ ?_
  ·rintro i v σ' H' hv ⟨e,y,ys,rfl,g,pr⟩;obtain ⟨pu,epu,u,rfl,_,Ru⟩:=cE qp hv;have hi:i < pus.length:=(aI.mp epu).1;have mp:=ax epu;have ly:=pr.length;rw[cM,xx] at ly;have ec:=vW (mv:=mv) (pt:=pt) (st:=st) (pus:=pus) (k:=i) (by lia);have el:ys[i]?=some (ys[i]'(by lia)):=af (by lia)
   obtain ⟨vl,evl,q,hq1,hq2,hq3,Rq⟩:∃vl,ys[i]?=some vl/\∃q,vl=V.ref q/\H q=none/\q≠l/\cQ K H' q (yR mv pt st pus i):=by
    obtain ⟨xs,ex,w⟩:=cE pr el;rw[nh (by lia),ec] at ex;cases ex;exact ⟨_,el,w⟩
   subst hq1
   have ey:∃zs,ys=zs++[V.ref q]:=by
    refine ⟨ys.take i,?_⟩;rw[<- take_snoc evl,aH (by lia)]
   obtain ⟨zs,rfl⟩:=ey;walk_at "w";refine ⟨.inl ⟨rfl,_,bU.of g⟩,?_⟩;walk_at "w";obtain ⟨dx,_,_,_,gx,_⟩:=S.same e;refine ⟨x,dx,_,rfl,gx,IM,?_⟩;walk_at "w";refine cD (bU.of g) (vg _ _) ?_;walk_at "w";refine ⟨x,q,u,H0,mv,pt,lk,_,pu,rfl,S.same e,D,F,Rq,Ru.same e,vE ls (by lia),wp pu mp,cf.both (by lia) mp,fun r1 H2 n2 s2 R2=>?_⟩;have gn:=s2 _ _ g;walk_at "w";refine iQ gn (bG (by lia)) ?_;refine ⟨Jl (e.trans s2) hl0,_,_,rfl,aK,?_⟩;rw[take_snoc (vW (by lia)),uB epu];have rl:r1≠l:=fun z=>by rw[z,g] at n2;cases n2
   exact bT (Paired.imp' (fun _ _ z=>(zm.same z s2).upd gn) pr) (.cons ⟨r1,rfl,e.none n2,rl,R2.updL gn rl⟩ .nil)
  ·rintro σ' H' ⟨e,y,ys,rfl,g,pr⟩;walk_at "w";rw[aH (by rw[xx];lia)] at pr;exact k l H' hl0 e ⟨ys,g,Paired.imp' (fun _ _ z=>zm.rowF z) pr,AU pr⟩
theorem AN:bu ["system","steps"] ["system","steps"] (ay gM):=by walk_at "d"
theorem uN (T:Txt K mg Z):cU P w K mg base gE 2 Z.mG Z.lZ ["system","steps"] (Kp K Z.a_System):=by
 refine T.mO.ok AN (fun vs H Q E h=>?_) (fun cdv A outer s H vs Q E hr h=>?_)
 ·obtain ⟨x,tt,H0,mv,pt,lk,rfl,hT,S,D,k⟩:=h;rfl
 ·obtain ⟨x,tt,H0,mv,pt,lk,rfl,hT,S,D,k⟩:=h;refine ⟨_,(aA (aW (cF ["step"] ["system"] [0] (cy rfl T.range (ae (pv 1) ag)) (fun _=>(aO (i:=0) (show List.Nodup (α:=PySem.Str) ["step","system"] by decide +kernel))) (fun _=>cC) (fun _=>(cX (qY T) hr T.lV T.kI.kp T.nU (ae (HP K (pv 1) rfl) ag)))))),?_⟩;refine aR (σ:=[some (.ref x),some (.int tt)]) rfl ?_;obtain ⟨dx,a',b',c',gx,_,_,_,Ga,Gb,Gc⟩:=id S;have i4:=D.i4;walk_at "w";refine ⟨by lia,by lia,?_⟩;refine eT (n:=tt) (dn K H) (fun (_:Nat)=>List.replicate pt.length (0:Rat)) (by lia) (fun a b=>a.same b) ?_ ?_
  ·rintro i Hb NY NN hi sa k1;walk_at "w";refine ⟨x,Z.a_System,dx,_,_,rfl,sa _ _ gx,T.cl_System,T.na_ins,HD,?_⟩;walk_at "w";exact ⟨pt.length,rfl,by lia,fun r H2 nr s2 R2=>k1 _ _ s2 ⟨r,rfl,sa.none nr,R2⟩⟩
  rintro ys Hz t ht sz g pr nx;have e:(List.range tt).map (fun (_:Nat)=>List.replicate pt.length (0:Rat))=List.replicate tt (List.replicate pt.length 0):=by rw[BO,b8]
  rw[e] at pr nx;exact k t Hz ht sz ⟨ys,g,pr,kj nx⟩
theorem FT:bu ["system","start","goal","steps"] ["system","start","goal","steps"] (ay oE):=by walk_at "d"
theorem Gr (T:Txt K mg Z):cU P w K mg base gE 7 Z.v7 Z.vR ["system","start","goal","steps"] (Kt K Z.a_System):=by
 refine T.zv.ok FT (fun vs H Q E h=>?_) (fun cdv A outer s H vs Q E hr h=>?_)
 ·obtain ⟨x,s,g,tt,H0,mv,pt,lk,st,go,rfl,hT,S,D,F,Rs,ls,Rg,lg,cf,sg,k⟩:=h;rfl
 ·obtain ⟨x,s,g,tt,H0,mv,pt,lk,st,go,rfl,hT,S,D,F,Rs,ls,Rg,lg,cf,sg,k⟩:=h;refine ⟨_,(aA (aW (cX (DG T) hr T.xW T.vm.kp T.zH (ae (pv 2) (ae (aV bW (cX (Jy T) hr T.CG T.BK.kp T.Fo (ae (pv 0) (ae (pv 1) (ae (cX (uN T) hr T.oW T.mO.kp T.rn (ae (pv 0) (ae (pv 3) ag))) ag)))) (xO sD ao)) ag))))),?_⟩;refine aR (σ:=[some (.ref x),some (.ref s),some (.ref g),some (.int tt)]) rfl ?_;have d8:=D.n8;have i4:=D.i4;walk_at "w";refine ⟨x,tt,H0,mv,pt,lk,rfl,by lia,S,D,fun p1 H1 n1 s1 G1=>?_⟩;walk_at "w";refine ⟨x,s,p1,H0,H,mv,pt,lk,_,st,rfl,S.same s1,D,F,Rs.same s1,ls,G1,by rw[aE];lia,fun xs hx=>by rw[(cN.mp hx).2,aE],cf,fun p2 H2 n2 s2 G2=>?_⟩;obtain ⟨us,gu,qu,_⟩:=id G2;have lu:=qu.length;rw[xx,aE] at lu;have ec:=vW (mv:=mv) (pt:=pt) (st:=st) (pus:=List.replicate tt (List.replicate pt.length 0)) (k:=tt) (by rw[aE];exact aw _);have el:us[tt]?=some (us[tt]'(by lia)):=af (by lia)
  obtain ⟨q,eq,Rq⟩:∃q,us[tt]?=some (V.ref q)/\cQ K H2 q (jD mv tt st):=by
   obtain ⟨xs,ex,q,e,_,w⟩:=cE qu el;rw[ec] at ex;cases ex;rw[FH D ls] at w;exact ⟨q,by rw[el,e],w⟩
  have ey:∃zs,us=zs++[V.ref q]:=by
   refine ⟨us.take tt,?_⟩;rw[<- take_snoc eq,aH (by lia)]
  obtain ⟨zs,rfl⟩:=ey
  have szp:∀y∈jD mv tt st,ot y:=fun y hy=>by
   have:=(cf.state (k:=tt) (by rw[aE];exact aw _)).szn (x:=y);rw[FH D ls] at this;exact this hy
  walk_at "w";refine cD (bU.of gu) (vg _ _) ?_;walk_at "w";exact ⟨g,q,go,_,rfl,(Rg.same s1).same s2,Rq,by rw[lg,pF ls],by lia,sg,szp,fun r H3 n3 s3 R3=>k r H3 ((s1.trans s2).none n3) ((s1.trans s2).trans s3) R3⟩
theorem O2:bu ["row","many","wide"] ["row","many","wide"] (ay Cr):=by walk_at "d"
theorem PN (T:Txt K mg Z):cU P w K mg base gE 1 Z.IA Z.Ir ["row","many","wide"] (MB K):=by
 refine T.Mb.ok O2 (fun vs H Q E h=>?_) (fun cdv A outer s H vs Q E hr h=>?_)
 ·obtain ⟨p,u,kk,w,rfl,Rw,lw,uk,u1,k1,k⟩:=h;rfl
 ·obtain ⟨p,u,kk,w,rfl,Rw,lw,uk,u1,k1,k⟩:=h;refine ⟨_,(aA (aW (cF ["turn"] ["row","wide"] [0,2] (cy rfl T.range (ae (pv 1) ag)) (fun _=>(aO (i:=0) (show List.Nodup (α:=PySem.Str) ["turn","row","wide"] by decide +kernel))) (fun _=>cC) (fun _=>(AY (Kz K (by rfl)) (pv 1) (Aj (bI dc (pv 0) (pv 2))) (Aj (bI dc (bI eY (pv 0) ao) (pv 2)))))))),?_⟩;refine aR (σ:=[some (.ref p),some (.int u),some (.int kk)]) rfl ?_;obtain ⟨xs,gx,qx⟩:=id Rw;have lx:=qx.length;walk_at "w";refine ⟨by lia,by lia,?_⟩;refine eT (n:=u) (dn K H) (fun t=>(w.drop (t*kk)).take kk) (by lia) (fun a b=>a.same b) ?_ ?_
  ·rintro i Hb NY NN hi sa k2;have b1:i*kk+kk<=u*kk:=by rw[<- dR];exact az _ hi
   walk_at "w";refine fw (Eb (by lia) (by lia)) ?_;walk_at "w";refine fw (Iu (by lia) (by lia)) ?_;walk_at "w";rw[show ((i:Int)*(kk:Int))=((i*kk:Nat):Int) by lia,show (((i:Int)+1)*(kk:Int))=((i*kk:Nat):Int)+(kk:Int) by rw[Int.add_mul,Int.one_mul];lia];refine ⟨p,xs,rfl,bU.of (sa _ _ gx),fun r hr=>?_⟩;rw[NR (by lia)];have sn:=aJ.new (o:=.lst ((xs.drop (i*kk)).take kk)) hr;exact k2 _ _ sn ⟨r,rfl,sa.none hr,_,aK,Paired.imp' (fun _ _ z=>(z.same sa).same sn) (uI (wF qx _) _)⟩
  rintro ys Hz t ht sz g pr nx;exact k t Hz ht sz ⟨ys,g,pr,kj nx⟩
theorem xJ:bu ["system","start","goal","steps","used","rows","answer","latest_first"] ["system","start","goal","steps"] (ay yW):=by walk_at "d"
theorem NA (T:Txt K mg Z):cU P w K mg base gE 8 Z.Ej Z.D9 ["system","start","goal","steps"] (Kw K Z.a_System):=by
 refine T.Hu.ok xJ (fun vs H Q E h=>?_) (fun cdv A outer s H vs Q E hr h=>?_)
 ·obtain ⟨x,s,g,tt,a,c,D0,W0,E0,W1,H0,mv,pt,lk,st,go,rfl,hT,S,D,SF,F,Rs,ls,Rg,lg,cf,sg,CF,k1,k2⟩:=h;rfl
 ·obtain ⟨x,s,g,tt,a,c,D0,W0,E0,W1,H0,mv,pt,lk,st,go,rfl,hT,S,D,SF,F,Rs,ls,Rg,lg,cf,sg,CF,k1,k2⟩:=h
  refine ⟨_,(ar (bc (i:=4) xJ.nd rfl (Or.inl rfl) (bI jh (bP bC (by rfl) T.len bg (ae (cX (uM T) hr T.oV T.mN.kp T.rk (ae (pv 0) (ae (pv 3) ag))) ag)) ao))
   (ar (bc (i:=5) xJ.nd rfl (Or.inl rfl) (cX (Nz T) hr T.HX T.Ht.kp T.L6 (ae (cX (DI T) hr T.xY T.vo.kp T.zJ (ae (pv 0) (ae (pv 4) ag))) ag)))
   (ar (bc (i:=6) xJ.nd rfl (Or.inl rfl) (cX (A3 T) hr T.uO T.rA.kp T.wW (ae (pv 5) (ae (jE (pv 0) rfl) (ae (cX (Gr T) hr T.Bf T.zv.kp T.C2 (ae (pv 0) (ae (pv 1) (ae (pv 2) (ae (pv 3) ag))))) ag)))))
   (ar (dm (bE eK (aV bS (pv 6) ao) sH (bK _)) (aA (aW (cW (ae sH (ae (aV bS (pv 6) ao) ag))))) b7)
   (ar (bc (i:=7) xJ.nd rfl (Or.inl rfl) (cX (PN T) hr T.Le T.Mb.kp T.OE (ae (aV bS (pv 6) ao) (ae (pv 4) (ae (jE (pv 0) rfl) ag)))))
   (aA (aW (cW (ae sH (ae (bI jF (cX (uN T) hr T.oW T.mO.kp T.rn (ae (pv 0) (ae (bI jh (pv 3) (pv 4)) ag))) (Gh K rfl T.list rfl T.reversed (ae (pv 7) ag))) ag)))))))))),?_⟩
  refine aR (σ:=[some (.ref x),some (.ref s),some (.ref g),some (.int tt),none,none,none,none]) rfl ?_;have d8:=D.n8;have i4:=D.i4;obtain ⟨dx,a',b',c',gx,_⟩:=id S;walk_at "w";refine ⟨x,a,c,tt,H0,mv,pt,lk,rfl,by lia,S,D,F,fun r1 Rs1 H1 n1 s1 GL Gw ln hlast=>?_⟩;obtain ⟨us,gus,pus1⟩:=id GL;have lus:=pus1.length;have rne:=Gw.ne;have lpos:0 < Rs1.length:=List.length_pos_iff.mpr rne;walk_at "w";refine ⟨_,_,rfl,.inl (bU.of gus),?_⟩;rw[<- lus];obtain ⟨u,eu⟩:∃u,Rs1.length=u+1:=⟨Rs1.length - 1,by lia⟩;rw[eu];have eL:Rs1[u]?=some (Rs1[u]'(by lia)):=af (by lia);obtain ⟨R,eR⟩:∃R,Rs1[u]?=some R:=⟨_,eL⟩;obtain ⟨ps,RRu⟩:=Gw.rr u R eR;have ul:=Gw.len u R eR;have un:u<=mv.length:=by have:=RRu.le;have:=RRu.1;lia
  have uT:u<=tt:=by lia
  obtain ⟨psT,RRT⟩:∃ps,bZ (kry mv pt tt) mv.length R ps:=by
   refine hlast R ?_ tt (by lia);rw[List.getLast?_eq_getElem?,eu];exact eR
  walk_at "w";rw[show ((((u+1:Nat):Int)) - 1)=(u:Int) by lia];refine ⟨x,u,a,c,H0,mv,pt,lk,rfl,un,S.same s1,D,F,fun r2 us2 H2 n2 s2 g2 p2=>?_⟩;have s02:=s1.trans s2;have kl:=vM (mv:=mv) (pt:=pt) u;have kl2:u*pt.length<=8*4:=aL (by lia) i4;walk_at "w";refine ⟨r2,us2,JT mv pt u,rfl,g2,p2,by rw[vY];lia,fun r3 H9 H3 n3 s3 G3=>?_⟩;rw[vY] at G3;have s03:=s02.trans s3;walk_at "w";refine ⟨x,Z.a_System,dx,_,_,rfl,s03 _ _ gx,T.cl_System,T.na_states,xj,?_⟩;walk_at "w";refine ⟨x,s,g,tt,H0,mv,pt,lk,st,go,rfl,hT,S.same s03,D,SF,Rs.same s03,ls,Rg.same s03,lg,cf,sg,fun r4 H4 n4 s4 R4=>?_⟩;have s04:=s03.trans s4;have lL:=Lm (T:=tt) ls lg;have wk:=e8 (mv:=mv) (pt:=pt) rfl D.pw u;have tk:=CF.tk u un;have up0:∀y,Tp D0 W0 y->Tp (D0*E0) (W0*E0+W1*D0+D0*E0) y:=fun y h=>h.up E0 (by lia)
  have up1:∀y,Tp E0 W1 y->Tp (D0*E0) (W0*E0+W1*D0+D0*E0) y:=fun y h=>by
   rw[bX D0 E0];exact h.up D0 (by lia)
  have up2:∀y,y=0\/y=1->Tp (D0*E0) (W0*E0+W1*D0+D0*E0) y:=fun y h=>by
   rcases h with rfl | rfl
   ·exact Tp.zero
   ·exact ⟨((D0*E0:Nat):Int),by rw[Rat.one_mul,aD],by rw[bN];lia⟩
  obtain ⟨wa,sw1⟩:=CF.join (rows:=di (kry mv pt u) mv.length) (due:=pL mv tt st go) (n':=(kry mv pt u).length+1) (by rw[dw];exact lL) (fun ys hy y hy'=>by
   obtain ⟨j,_,rfl⟩:=aB.mp hy;obtain ⟨zs,hz,rfl⟩:=aB.mp hy';exact up0 _ (lQ (tk zs hz) j)) (fun y hy=>up1 y (CF.tl y hy)) d8 (by rw[dw];lia)
  obtain ⟨wb,sw2⟩:=CF.join (rows:=kry mv pt u++[pL mv tt st go]) (due:=List.replicate (kry mv pt u).length 0++[1]) (n':=mv.length+1) (by simp) (fun ys hy y hy'=>by
   rcases au.mp hy with hy | hy
   ·exact up0 _ (tk ys hy y hy')
   ·rw[bF.mp hy] at hy';exact up1 _ (CF.tl y hy')) (fun y hy=>by
   rcases au.mp hy with hy | hy
   ·exact up2 _ (.inl (cN.mp hy).2)
   ·exact up2 _ (.inr (bF.mp hy))) d8 (zV _ _)
  walk_at "w";refine ⟨r3,r4,mv.length,wa,wb,H9,kry mv pt u,pL mv tt st go,rfl,G3.same s4,R4,lL,by lia,by lia,wk,sw1,sw2,⟨fun t5 x5 R5 ps5 M5 H5 RR5 hn5 g5 n5 s5 R5' M50 M51 tp5=>?_,fun t5 x5 R5 ps5 R6 ps6 M5 H5 RR5 hn5 RR6 hn6 g5 n5 s5 R5' M50 M51 tp5=>?_⟩⟩
  ·have s05:=s04.trans s5;have x50:=s04.none n5;have ew:=IH lL RR5 hn5;have lw:(ij R5 ps5 (kry mv pt u).length).length=(kry mv pt u).length:=kS;obtain ⟨q,q0,q1,q2⟩:=O0 wk lL (by lia) CF.d0 CF.e0 CF.w0 CF.w1 tk CF.tl RR5 hn5;generalize ij R5 ps5 (kry mv pt u).length=ws at ew lw q2 R5' tp5;have lead:=GS D ls lg uT lw ew;have lw2:ws.length=u*pt.length:=by rw[lw,kl]
   walk_at "w";rw[decide_eq_false (show ¬(Str.ofString "in"=Str.ofString "out") by decide)];walk_at "w";refine ⟨x,Z.a_System,dx,_,_,rfl,s05 _ _ gx,T.cl_System,T.na_ins,HD,?_⟩;walk_at "w";refine ⟨x5,u,pt.length,ws,rfl,R5',lw2,by lia,by lia,by lia,fun r6 H6 n6 s6 G6=>?_⟩;have s06:=s05.trans s6;walk_at "w";rw[show ((tt:Int) - (u:Int))=((tt - u:Nat):Int) by lia];refine ⟨x,tt - u,H0,mv,pt,lk,rfl,by lia,S.same s06,D,fun r7 H7 n7 s7 G7=>?_⟩;obtain ⟨vs,gv,qv,_⟩:=id (G6.same s7);have lv:=qv.length;have lc:(Ac ws u pt.length).length=u:=by unfold Ac;rw[aj,b8]
   unfold EA;walk_at "w";refine ⟨r6,vs,rfl,bU.of gv,by lia,fun r8 H8 s8 n8 g8=>?_⟩;have s67:=s7.trans s8;obtain ⟨zs,gz,qz,_⟩:=id (G7.same s8);have lz:=qz.length;rw[aE] at lz;walk_at "w";refine jA gz g8 (aS (bG (by rw[m6];lia))) fun r9 H9 s9 n9 g9=>?_
   have s09:=(s06.trans s67).trans s9;have qz0:Paired (dn K H H8) (List.replicate (tt - u) (List.replicate pt.length 0)) zs:=Paired.imp' (fun _ _ ⟨q,a,b,c⟩=>⟨q,a,s06.none b,c⟩) qz;have qv0:Paired (dn K H H8) (Ac ws u pt.length).reverse vs.reverse:=A0 (Paired.imp' (fun _ _ ⟨q,a,b,c⟩=>⟨q,a,s05.none b,cQ.same c s8⟩) qv);have G9:bL K H H9 r9 (DA ws tt u pt.length):=⟨_,g9,Paired.imp' (fun _ _ z=>dn.same z s9) (bT qz0 qv0),kj ⟨H8,n9,bT qz0 qv0⟩⟩;walk_at "w";refine cg fun t10 H10 s10 g10=>?_
   exact k1 t10 r9 _ q H10 g10 ((s06.trans s67).none n9) (s09.trans s10) (G9.same s10) (HL uT) (Ol lw2) lead q0 q1 (Nn Tp.zero q2)
  ·have s05:=s04.trans s5;have x50:=s04.none n5;have lw:(ij R6 ps6 mv.length).length=mv.length:=kS;obtain ⟨pr1,pr2⟩:=Jr wk lL RR6 hn6;obtain ⟨q,q0,q1,q2⟩:=KZ wk lL (by lia) CF.d0 CF.e0 CF.w0 tk CF.tl RR6 hn6;walk_at "w";rw[decide_eq_true rfl];walk_at "w";refine cg fun t10 H10 s10 g10=>?_
   exact k2 t10 x5 _ q H10 g10 x50 (s05.trans s10) (R5'.same s10) lw (Jt D.pw RRu RRT lw pr2) pr1 q0 q1 q2
theorem gB:bu ["_law_parts_here","_law_state","_law_puts","_law_move_here","_law_put","_law_look","_law_found","_law_k"] ["_law_parts_here","_law_state","_law_puts"] (ay jR):=by walk_at "d"
theorem DK (T:Txt K mg Z):cU P w K mg base gE 5 Z.qI Z.pW ["_law_parts_here","_law_state","_law_puts"] (Kq K):=by
 refine T.vq.ok gB (fun vs H Q E h=>?_) (fun cdv A outer s H vs Q E hr h=>?_)
 ·obtain ⟨r,s0,u0,H0,mv,pt,lk,st,pu,rfl,PQ,D,hs,hu,l1,l2,NX,k⟩:=h;rfl
 ·obtain ⟨r,s0,u0,H0,mv,pt,lk,st,pu,rfl,PQ,D,hs,hu,l1,l2,NX,k⟩:=h
  refine ⟨_,(ar (fz (pv 0) (xm rfl (cS (aO (i:=3) gB.nd) (cS (aO (i:=4) gB.nd) (cS (aO (i:=5) gB.nd) ju)))))
   (ar (bc (i:=6) gB.nd rfl (Or.inl rfl) (cX (A6 T) hr T.xr T.wo.kp T.zi (ae (pv 3) (ae (pv 1) ag))))
   (ar (dZ PassesOwn.never rfl (cy rfl T.range (ae (bP bC (by rfl) T.len bg (ae (pv 4) ag)) ag)) (aO (i:=7) gB.nd)
    (aA (bc (i:=6) gB.nd rfl (Or.inl rfl) (cX (xU T) hr T.sQ T.qP.kp T.vd (ae (pv 6) (ae (cX (oT T) hr T.lD T.lN.kp T.oJ (ae (aV bW (pv 2) (pv 7)) (ae (aV bW (pv 4) (pv 7)) ag))) ag))))))
   (aA (aW (pv 6)))))),?_⟩
  refine aR (σ:=[some (.ref r),some (.ref s0),some (.ref u0),none,none,none,none,none]) rfl ?_;obtain ⟨m,p,l,g,n1,n2,n3,Gm,Gp,Gl⟩:=id PQ;have d1:=D.n8;have d2:=D.i4;walk_at "w";refine ⟨m,s0,H0,mv,st,rfl,Gm,hs,by lia,by lia,fun xs hx=>⟨by rw[D.mw xs hx,l1],NX.f2 xs hx⟩,fun f H1 nf s1 R1=>?_⟩;obtain ⟨ps,gp,qp,_⟩:=Gp.same s1;have lp:=qp.length;walk_at "w";refine ⟨_,_,rfl,.inl (bU.of gp),?_⟩;walk_at "w";refine ⟨by lia,by lia,?_⟩;refine fb (n:=ps.length) (fun kk σ' H'=>∃(f:Addr) (x:Option V),σ'=[some (.ref r),some (.ref s0),some (.ref u0),some (.ref m),some (.ref p),some (.ref l),some (.ref f),x]/\H f=none/\aJ H1 H'/\cQ K H' f (nextK mv pt st pu kk)) ⟨f,none,rfl,nf,aJ.refl _,by rw[Gy];exact R1⟩ ?_ ?_
  ·rintro kk σ' H' hk ⟨f',x,rfl,nf',s',R'⟩;have kp:kk < pt.length:=by lia
   have ku:kk < pu.length:=by lia
   obtain ⟨zs,gz,qz⟩:=(hu.same s1).same s';have lz:=qz.length;obtain ⟨vu,eu,nu⟩:=Fy qz ku;obtain ⟨row,vr,er,ev,mr,q,rfl,_,Rq⟩:=iq qp kp
   have er':pt[kk]=row:=by
    rw[af kp] at er;exact cp er
   have eu':pu.getD kk 0=pu[kk]:=by rw[aa,af ku];rfl
   have mu:pu.getD kk 0∈pu:=getD_mem ku;walk_at "w";refine cD (bU.of gz) eu ?_;walk_at "w";refine cD (bU.of (s' _ _ gp)) (fJ ev) ?_;walk_at "w";refine ⟨vu,q,_,row,rfl,nu,NX.su _ mu,Rq.same s',by rw[D.pw row mr];lia,NX.sp row mr,fun r1 H2 n1' s2 R2=>?_⟩;walk_at "w";refine ⟨f',r1,_,_,rfl,R'.same s2,R2,by rw[aj,jY,D.pw row mr],by rw[jY];lia,NX.part kk,fun y hy=>?_,fun r2 H3 n2' s3 R3=>?_⟩
   ·obtain ⟨y',hy',rfl⟩:=aB.mp hy;exact NX.mul _ mu row mr y' hy'
   ·walk_at "w";refine ⟨s1.none (s'.none (s2.none n2')),(s'.trans s2).trans s3,?_⟩;have e:=Gz (st:=st) (pu:=pu) (fun xs hx=>by rw[D.mw xs hx,l1]) kp ku (by rw[er'];exact D.pw row mr);rw[er',<- eu'] at e;rw[<- e];exact R3
  ·rintro σ' H' ⟨f',x,rfl,nf',s',R'⟩;rw[vL (by lia) (by lia)] at R';walk_at "w";exact k f' H' nf' (s1.trans s') R'
theorem pB:bu ["_law_parts_here","_law_start","_law_rows","_law_state","_law_puts"] ["_law_parts_here","_law_start","_law_rows"] (ay kY):=by walk_at "d"
theorem EY (T:Txt K mg Z):cU P w K mg base gE 6 Z.tL Z.sZ ["_law_parts_here","_law_start","_law_rows"] (Mz K):=by
 refine T.xB.ok pB (fun vs H Q E h=>?_) (fun cdv A outer s H vs Q E hr h=>?_)
 ·obtain ⟨r,s,p,H0,H1,mv,pt,lk,pus,st,rfl,PQ,D,Rs,ls,Gp,lp,wp,EF,k⟩:=h;rfl
 ·obtain ⟨r,s,p,H0,H1,mv,pt,lk,pus,st,rfl,PQ,D,Rs,ls,Gp,lp,wp,EF,k⟩:=h
  refine ⟨_,(ar (bc (i:=3) pB.nd rfl (Or.inl rfl) (dO (fD K (by rfl)) (by rfl) T.list PyProof.Rows.boot_list (ae (pv 1) ag)))
   (ar (dZ PassesOwn.never rfl (cK (pv 2)) (aO (i:=4) pB.nd)
    (aA (bc (i:=3) pB.nd rfl (Or.inl rfl) (cX (DK T) hr T.ya T.vq.kp T.zL (ae (pv 0) (ae (pv 3) (ae (pv 4) ag)))))))
   (aA (aW (pv 3))))),?_⟩
  refine aR (σ:=[some (.ref r),some (.ref s),some (.ref p),none,none]) rfl ?_;have d1:=D.n8;obtain ⟨ss,gs,qs⟩:=id Rs;obtain ⟨ps,gp,qp,_⟩:=id Gp;have lps:=qp.length;walk_at "w";refine ⟨s,ss,rfl,.inl (bU.of gs),fun c hc=>?_⟩;have sc:aJ H (upd H c (.lst ss)):=aJ.new hc;have Rc:cQ K (upd H c (.lst ss)) c st:=⟨ss,aK,Paired.imp' (fun _ _ z=>z.same sc) qs⟩;generalize upd H c (.lst ss)=Hc at sc Rc ⊢;walk_at "w";refine ⟨⟨_,bU.of (sc _ _ gp)⟩,?_⟩;refine iw (K:=K) (a:=p) (xs:=ps) (fun i σ' H'=>aJ H H'/\∃q y,σ'=[some (.ref r),some (.ref s),some (.ref p),some (.ref q),y]/\H q=none/\cQ K H' q (yR mv pt st pus i)) ⟨sc,c,_,rfl,hc,Rc⟩ (fun i σ' H' _ ⟨e,_⟩=>bU.of (e _ _ gp)) ?_ ?_
  ·rintro i v σ' H' hv ⟨e,q,y,rfl,nq,Rq⟩;obtain ⟨pu,epu,u,rfl,_,Ru⟩:=cE qp hv;have hi:i < pus.length:=(aI.mp epu).1;have mp:=ax epu;walk_at "w";refine ⟨r,q,u,H0,mv,pt,lk,_,pu,rfl,PQ.same e,D,Rq,cQ.same Ru e,vE ls (by lia),wp pu mp,EF.nx D ls wp (by lia) epu,fun q2 H2 n2 s2 R2=>?_⟩;rw[<- uB epu] at R2;exact ⟨e.trans s2,q2,_,rfl,e.none n2,R2⟩
  ·rintro σ' H' ⟨e,q,y,rfl,nq,Rq⟩;rw[<- lps] at Rq;walk_at "w";exact k q H' nq e Rq
theorem BX:bu ["_law_parts_here","_law_start","_law_goal","_law_steps_here","_law_puts"] ["_law_parts_here","_law_start","_law_goal","_law_steps_here","_law_puts"] (ay iO):=by walk_at "d"
theorem Cd (T:Txt K mg Z):cU P w K mg base gE 7 Z.oo Z.nQ ["_law_parts_here","_law_start","_law_goal","_law_steps_here","_law_puts"] (Jc K):=by
 refine T.tZ.ok BX (fun vs H Q E h=>?_) (fun cdv A outer s H vs Q E hr h=>?_)
 ·obtain ⟨r,s,g0,p0,tt,H0,H1,mv,pt,lk,pus,st,go,rfl,hT,PQ,D,Rs,ls,Rg,Gp,lp,wp,EF,est,k⟩:=h;rfl
 ·obtain ⟨r,s,g0,p0,tt,H0,H1,mv,pt,lk,pus,st,go,rfl,hT,PQ,D,Rs,ls,Rg,Gp,lp,wp,EF,est,k⟩:=h
  refine ⟨_,(ar (dm (kh (jC (cX (uh T) hr T.m7 T.kK.kp T.o5 (ae (pv 4) (ae (pv 3) (ae (bP bC (by rfl) T.len bg (ae (aV bS (pv 0) ao) ag)) ag)))))) (aA (aW rN)) b7)
   (aA (aW (h7 (DF (DU hr)) (cX (EY T) hr T.zA T.xB.kp T.BC (ae (pv 0) (ae (pv 1) (ae (pv 4) ag)))) (pv 2) (bK _))))),?_⟩
  refine aR (σ:=[some (.ref r),some (.ref s),some (.ref g0),some (.int tt),some (.ref p0)]) rfl ?_;have i4:=D.i4;obtain ⟨m,p,l,g,n1,n2,n3,Gm,Gpt,Gl⟩:=id PQ;obtain ⟨up,gp,qp,_⟩:=id Gpt;have lup:=qp.length;have lm1:(pus.map (List.map nm)).length=tt:=by rw[aj];exact lp
  walk_at "w";refine ⟨_,_,rfl,.inl (bU.of gp),?_⟩;rw[<- lup];walk_at "w";refine ⟨p0,_,pt.length,by rw[lm1],Gp.gridK,by rw[lm1];lia,by lia,fun ns' hx=>?_,fun H2 s2=>?_⟩
  ·obtain ⟨xs,mx,rfl⟩:=aB.mp hx;refine ⟨by rw[aj];exact wp xs mx,fun v hv=>?_⟩;obtain ⟨v,mv',rfl⟩:=aB.mp hv;exact Kh (EF.sznP xs mx v mv')
  walk_at "w";refine ⟨r,s,p0,H0,H1,mv,pt,lk,pus,st,rfl,PQ.same s2,D,Rs.same s2,ls,Gp.same s2,by lia,wp,EF,fun t3 H3 n3' s3 R3=>?_⟩;rw[lp,est] at R3;walk_at "w";refine ⟨_,_,Lr,go,go,by decide,R3.kind,((Rg.same s2).same s3).kind,?_⟩;rw[decide_eq_true rfl];exact k _ (s2.trans s3)
theorem gH:bu ["_law_system_here","_law_parts_here","_law_rows","_law_steps_here","_law_nothing","_law_row_here","_law_kind","_law_puts"] ["_law_system_here","_law_parts_here","_law_rows","_law_steps_here"] (ay fN):=by walk_at "d"
theorem z8 (T:Txt K mg Z):cU P w K mg base gE 9 Z.kE Z.ky ["_law_system_here","_law_parts_here","_law_rows","_law_steps_here"] (MC K Z.a_System):=by
 refine T.o7.ok gH (fun vs H Q E h=>?_) (fun cdv A outer s H vs Q E hr h=>?_)
 ·obtain ⟨x,r,q,tt,H0,H1,H2,mv,pt,lk,R,ps,rfl,t12,S,PQ,D,SF,VV,GR,RR,k⟩:=h;rfl
 ·obtain ⟨x,r,q,tt,H0,H1,H2,mv,pt,lk,R,ps,rfl,t12,S,PQ,D,SF,VV,GR,RR,k⟩:=h
  refine ⟨_,(ar (jt 4 ["_law_row_here"] [] [] gH.nd rfl rfl (cK (aV bS (pv 1) ao)) (fun _=>(aO (i:=0) (show List.Nodup (α:=PySem.Str) ["_law_row_here"] by decide +kernel))) (fun _=>cC) (fun _=>(cW (ae ao (ae ao ag)))))
   (ar (dZ PassesOwn.never rfl (cK (pv 2)) (aO (i:=5) gH.nd)
    (ar (fz (cX (NA T) hr T.HY T.Hu.kp T.L7 (ae (pv 0) (ae (dO (fD K (by rfl)) (by rfl) T.list PyProof.Rows.boot_list (ae (pv 4) ag)) (ae (dO (fD K (by rfl)) (by rfl) T.list PyProof.Rows.boot_list (ae (pv 5) ag)) (ae (pv 3) ag))))) (xm rfl (cS (aO (i:=6) gH.nd) (cS (aO (i:=7) gH.nd) ju))))
   (aA (dm (PW.pt (pE (bE xR (pv 6) sH (bK _)) (ke (kh (jC (cX (Cd T) hr T.wU T.tZ.kp T.yC (ae (pv 1) (ae (pv 4) (ae (pv 5) (ae (pv 3) (ae (pv 7) ag))))))))))) (aA (aW rN)) b7))))
   (aA (aW rN)))),?_⟩
  refine aR (σ:=[some (.ref x),some (.ref r),some (.ref q),some (.int tt),none,none,none,none]) rfl ?_;have d8:=D.n8;obtain ⟨m,p,l,gt,mn,pn,ln,Gm,Gp,Gl⟩:=id PQ;obtain ⟨um,gm,qm,_⟩:=id Gm;have lum:=qm.length;obtain ⟨a',k',KF⟩:=VV.kf;obtain ⟨szR,CT⟩:=VV.row R ps RR;obtain ⟨rs,gr,qr,_⟩:=id GR;walk_at "w";refine ⟨⟨_,bU.of gm⟩,?_⟩;refine dS (K:=K) (as:=mv) (F:=fun H' xs v=>dn K H1 H' xs v) (cx K) (fun _=>(0:Rat)) gm qm (by lia) (fun a b=>a.same b) (fun a b=>a.same b) ?_ ?_
  ·rintro i c v H' NY NN ec s' hF k1;walk_at "w";refine cg fun t Hy sy gy=>?_
   exact k1 _ _ sy (cx.mk (q:=0) gy rfl)
  rintro ys H3 no hno s3 g3 pr3 _;have Rn:cQ K H3 no (List.replicate mv.length 0):=⟨ys,g3,by rw[<- BO];exact pr3⟩;have ln0:(List.replicate mv.length (0:Rat)).length=mv.length:=aE ..;walk_at "w";refine ⟨⟨_,bU.of (s3 _ _ gr)⟩,?_⟩;refine iw (K:=K) (a:=q) (xs:=rs) (fun i σ' H'=>aJ H3 H'/\∃y1 y2 y3,σ'=[some (.ref x),some (.ref r),some (.ref q),some (.int tt),some (.ref no),y1,y2,y3]) ⟨aJ.refl _,_,_,_,rfl⟩ (fun i σ' H' _ ⟨s',_⟩=>bU.of (s' _ _ (s3 _ _ gr))) ?_ ?_
  ·rintro i v σ' H4 hv ⟨s4,y1,y2,y3,rfl⟩;obtain ⟨go,ego,u,rfl,_,Ru0⟩:=cE qr hv;have mgo:=ax ego;have lg:=RR.2.1 go mgo;have s04:=s3.trans s4;obtain ⟨D0,W0,E0,W1,CTg⟩:=CT go mgo;have Ru:=Ru0.same s04;have Rn4:=Rn.same s4;obtain ⟨zs,gz,qz⟩:=id Rn4;obtain ⟨ws,gw,qw⟩:=id Ru;walk_at "w";refine ⟨no,zs,rfl,.inl (bU.of gz),fun c1 hc1=>?_⟩;have s5:aJ H4 (upd H4 c1 (.lst zs)):=aJ.new hc1;have R1:cQ K (upd H4 c1 (.lst zs)) c1 (List.replicate mv.length 0):=⟨zs,aK,Paired.imp' (fun _ _ z=>z.same s5) qz⟩;generalize upd H4 c1 (.lst zs)=H5 at s5 R1 ⊢;walk_at "w";refine ⟨u,ws,rfl,.inl (bU.of (s5 _ _ gw)),fun c2 hc2=>?_⟩;have s6:aJ H5 (upd H5 c2 (.lst ws)):=aJ.new hc2;have R2:cQ K (upd H5 c2 (.lst ws)) c2 go:=⟨ws,aK,Paired.imp' (fun _ _ z=>z.same (s5.trans s6)) qw⟩;generalize upd H5 c2 (.lst ws)=H6 at s6 R2 ⊢;have s46:=s5.trans s6;have s06:=s04.trans s46;walk_at "w";refine ⟨x,c1,c2,tt,a',k',D0,W0,E0,W1,H0,mv,pt,lk,List.replicate mv.length 0,go,rfl,by lia,S.same s06,D,SF,KF,R1.same s6,ln0,R2,lg,CTg.cf,CTg.sg,CTg.co,⟨fun t7 p7 pus7 q7 H7 g7 n7 s7 G7 l7 w7 st7 q70 q71 tp7=>?_,fun t7 p7 pr q7 H7 g7 n7 s7 R7 l7 w7 d7 _ _ _=>?_⟩⟩
   ·have s07:=s06.trans s7;walk_at "w";rw[decide_eq_true rfl];walk_at "w";refine ⟨r,no,u,p7,tt,H1,H6,mv,pt,lk,pus7,List.replicate mv.length 0,go,rfl,by lia,PQ.same s07,D,Rn4.same (s46.trans s7),ln0,Ru0.same s07,G7,l7,w7,CTg.en pus7 q7 q70 q71 l7 tp7,st7,fun H8 s8=>?_⟩;walk_at "w";exact ⟨((s4.trans s46).trans s7).trans s8,_,_,_,rfl⟩
   ·rw[Oq D.mw lg] at d7;exact absurd (O7 D.pw RR mgo l7 w7 d7) id
  ·rintro σ' H4 ⟨s4,y1,y2,y3,rfl⟩;walk_at "w";exact k _ (s3.trans s4)
theorem oN:bu ["_law_script","_law_bag_here","_law_parts_here","_law_wide","_law_n","_law_system_here","_law_steps_here","_law_due","_law_found","_law_row_here"] ["_law_script"] (ay Cq):=by walk_at "d"
theorem PM (T:Txt K mg Z):cU P w K mg base gE 10 Z.L8 Z.LU ["_law_script"] (Di K):=by
 refine T.OI.ok oN (fun vs H Q E h=>?_) (fun cdv A outer s H vs Q E hr h=>?_)
 ·obtain ⟨a,ns,rfl,hS,hlen,k⟩:=h;rfl
 ·obtain ⟨a,ns,rfl,hS,hlen,k⟩:=h
  refine ⟨_,(ar (bc (i:=1) oN.nd rfl (Or.inl rfl) (cX (E2 T) hr T.zC T.xD.kp T.BE (ae (pv 0) ag)))
   (gV (dm (PW.pt (jB (bE eK (cX (bo T) hr T.aT T.be.kp T.br (ae (pv 1) (ae ao ag))) ao (bK _)) (kg (kh (jC (cX (DN T) hr T.ye T.vz.kp T.zO (ae (pv 1) ag))))))) (aA (aW rN)) b7)
   (ar (fz (cX (A5 T) hr T.uQ T.rB.kp T.wX (ae (pv 1) ag)) (xm rfl (cS (aO (i:=2) oN.nd) (cS (aO (i:=3) oN.nd) ju))))
   (ar (bc (i:=4) oN.nd rfl (Or.inl rfl) (bP bC (by rfl) T.len bg (ae (aV bS (pv 2) ao) ag)))
   (ar (bc (i:=5) oN.nd rfl (Or.inl rfl) (cX (DM T) hr T.yd T.vw.kp T.zN (ae (pv 2) ag)))
   (ar (bc (i:=6) oN.nd rfl (Or.inl rfl) (cX (Ca T) hr T.wN T.tV.kp T.yz (ae (pv 1) (ae (pv 2) ag))))
   (gV (dm (PW.pt (jB (bE wG (pv 4) ao (bK _)) (kg (bE eK (cX (bo T) hr T.aT T.be.kp T.br (ae (pv 1) (ae ao ag))) ao (bK _))))) (aA (bc (i:=6) oN.nd rfl (Or.inl rfl) ao)) b7)
   (ar (bc (i:=7) oN.nd rfl (Or.inl rfl) (cX (DP T) hr T.yh T.vB.kp T.zQ (ae (cX (Ce T) hr T.wV T.t9.kp T.yD (ae (pv 2) (ae (pv 6) ag))) (ae (pv 4) ag))))
   (ar (bc (i:=8) oN.nd rfl (Or.inl rfl) (cX (lU T) hr T.jm T.jc.kp T.kB (ae (pv 5) (ae (pv 6) ag))))
   (ar (dm (PW.pt (pE (kh (jC (cX (uh T) hr T.m7 T.kK.kp T.o5 (ae (pv 8) (ae (bP bC (by rfl) T.len bg (ae (pv 7) ag)) (ae (pv 4) ag)))))) (ke (bE (A2 (DU hr)) (pv 8) (pv 7) (bK _))))) (aA (aW rN)) b7)
   (ar (dZ PassesOwn.never rfl (cK (pv 8)) (aO (i:=9) oN.nd)
    (aA (iS (uH cG cZ cY iT (pv 9) (ae (cW (ae ao (ae ao ag))) ag)))))
   (ar (iS (uH cG cZ cY iT (pv 8) (ae (dr ag) ag)))
   (ar (dm (PW.pt (pE (bE (A2 (DU hr)) (cX (lU T) hr T.jm T.jc.kp T.kB (ae (pv 5) (ae (pv 6) ag))) (pv 7) (bK _)) (ke (bE (A2 (DU hr)) (cX (lU T) hr T.jm T.jc.kp T.kB (ae (pv 5) (ae ao ag))) (dr ag) (bK _))))) (aA (aW rN)) b7)
   (aA (aW (DE (cX (z8 T) hr T.ui T.o7.kp T.ve (ae (pv 5) (ae (pv 2) (ae (pv 7) (ae (pv 6) ag))))) (DC (h7 (DF (DU hr)) (jE (pv 5) rfl) (aV bS (pv 2) ao) (bK _))))))))))))))))))),?_⟩
  refine aR (σ:=[some (.ref a),none,none,none,none,none,none,none,none,none]) rfl ?_;walk_at "w";refine ⟨a,ns,rfl,hS,hlen,fun b H9 hb0 B9 s9=>?_⟩;walk_at "w";refine ⟨fun σ' H'=>σ'=[some (.ref a),some (.ref b),none,none,none,none,none,none,none,none]/\iC H' b,?_,?_⟩
  ·walk_at "w";refine ⟨b,16,rfl,B9,by decide,by decide,fun v H1 v0 v1 B1 u1=>?_⟩;walk_at "w";refine gZ (fun h0=>?_) (fun h0=>?_)
   ·walk_at "w";refine ⟨b,rfl,B1,fun H2 B2 u2=>?_⟩;walk_at "w";exact ⟨rfl,B2⟩
   ·walk_at "w";exact ⟨rfl,B1⟩
  rintro σ' H0 ⟨rfl,B0⟩;clear B9 s9 hb0;walk_at "w";refine ⟨b,rfl,B0,fun t r w a' c mv pt lk H1 g1 P1 D F KF RG w1 w2 B1 u1=>?_⟩;have d8:=D.n8;have d4:=D.i4;obtain ⟨m,p,l,gt,mn,pn,ln,Gm,Gp,Gl⟩:=id P1;obtain ⟨um,gm,qm,_⟩:=id Gm;have lum:=qm.length;walk_at "w";refine ⟨_,_,rfl,.inl (bU.of gm),?_⟩;rw[<- lum];clear gm qm lum Gm Gp Gl gt;walk_at "w";refine ⟨r,H0,mv,pt,lk,rfl,P1,D,F.sf,fun x H2 nx s2 S2=>?_⟩;replace S2:m8 K H0 H2 Z.a_System x mv pt lk:=S2.weakN fun q h=>u1.none B1 h
  replace P1:=P1.same s2;have B2:=B1.same s2
  have szE:∀xs∈mv++pt,∀x∈xs,ot x:=fun xs hx y hy=>by
   obtain ⟨M,V,h0,h1,h2,f1,f2,_⟩:=F;refine NI h0 (ai h1 (av (by decide) (by decide))) (ai h2 (av (by decide) (by decide))) ?_;rcases au.mp hx with hx | hx
   ·exact f1 xs hx y hy
   ·exact f2 xs hx y hy
  walk_at "w";refine ⟨b,r,H0,mv,pt,lk,rfl,B2,B0.at,P1,D,szE,fun tt H3 hT B3 u3=>?_⟩;clear szE;replace P1:=P1.upto u3 B2 B0.at;replace S2:=S2.upto u3 B2 B0.at;walk_at "w";refine ⟨fun σ' H'=>iC H' b/\dg b H3 H'/\∃tt,Ql mv pt tt/\σ'=[some (.ref a),some (.ref b),some (.ref r),some (.int w),some (.int mv.length),some (.ref x),some (.int tt),none,none,none],?_,?_⟩
  ·walk_at "w";refine gZ (fun h0=>?_) (fun h0=>?_)
   ·have n6:5 < mv.length:=by have:=of_decide_eq_true h0;lia
    walk_at "w";refine ⟨b,4,rfl,B3,by decide,by decide,fun v H4 v0 v1 B4 u4=>?_⟩;walk_at "w";refine gZ (fun h1=>?_) (fun h1=>?_)
    ·walk_at "w";exact ⟨B4,u4,12,⟨by decide,.inr (.inl n6)⟩,rfl⟩
    ·walk_at "w";exact ⟨B4,u4,tt,hT.s41,rfl⟩
   ·walk_at "w";exact ⟨B3,(aJ.refl _).upto,tt,hT.s41,rfl⟩
  clear hT tt;rintro σ' H4 ⟨B4,u4,tt,hT,rfl⟩;have VV:=Q6 RG D hT;have t12:=hT.1;replace P1:=P1.upto u4 B3 B0.at;replace S2:=S2.upto u4 B3 B0.at;have kl:=vM (mv:=mv) (pt:=pt) tt;have kb:tt*pt.length<=12*4:=aL t12 d4;obtain ⟨Sz0,LW⟩:=VV.lw;walk_at "w";refine ⟨r,tt,H0,mv,pt,lk,rfl,by lia,P1,D,VV.ad,fun ka H5 nka s5 G5=>?_⟩;walk_at "w";refine ⟨ka,mv.length,Sz0,H4,_,rfl,G5,by lia,by lia,e8 rfl D.pw tt,LW,fun du R ps H6 ndu s6 G6 RR hl=>?_⟩;have s46:=s5.trans s6;replace P1:=P1.same s46;replace S2:=S2.same s46;obtain ⟨ds,gd,qd,_⟩:=id G6;have ld:=qd.length;have le:=RR.le;have lR:=RR.1;obtain ⟨szR,_⟩:=VV.row R ps RR;walk_at "w";refine ⟨x,a',c,tt,H0,mv,pt,lk,rfl,by lia,S2,D,KF,fun fd R2 ps2 H7 nfd s7 G7 RR2=>?_⟩;obtain ⟨rfl,rfl⟩:=RR2.same RR;obtain ⟨us,gu,qu,nu⟩:=id G7;have lu:=qu.length;walk_at "w";refine ⟨_,_,rfl,.inl (bU.of (s7 _ _ gd)),?_⟩;rw[<- ld];walk_at "w";refine ⟨fd,R2.map (List.map nm),mv.length,by rw[aj],G7.gridK,by rw[aj];lia,by lia,fun ns hn=>?_,fun H8 s8=>?_⟩
  ·obtain ⟨xs,hx,rfl⟩:=aB.mp hn;exact ⟨by rw[aj];exact RR2.2.1 xs hx,fun n hn=>by obtain ⟨z,hz,rfl⟩:=aB.mp hn;exact Kh (szR xs hx z hz)⟩
  walk_at "w";refine ⟨_,_,zb,R2,R2,by decide,(G7.same s8).kind,(G6.same (s7.trans s8)).kind,?_⟩;rw[decide_eq_true rfl];walk_at "w";refine ⟨⟨_,bU.of (s8 _ _ gu)⟩,?_⟩;refine iw (K:=K) (a:=fd) (xs:=us) (fun i σ' H'=>aJ H6 H'/\H' fd=some (.lst us)/\(∀y∈us,∃q zs,y=V.ref q/\H6 q=none/\q≠fd/\H' q=some (.lst zs)/\zs.length<=20+i)/\∃y1,σ'=[some (.ref a),some (.ref b),some (.ref r),some (.int w),some (.int mv.length),some (.ref x),some (.int tt),some (.ref du),some (.ref fd),y1]) ⟨s7.trans s8,s8 _ _ gu,fun y hy=>?_,_,rfl⟩ (fun i σ' H' _ ⟨_,g,_⟩=>bU.of g) ?_ ?_
  ·obtain ⟨xs,mx,q,rfl,nq,zs,gz,qz⟩:=dk qu hy;have:=qz.length;have:=RR2.2.1 xs mx;exact ⟨q,zs,rfl,nq,fun z=>nu (by rw[<- z];exact hy),s8 _ _ gz,by lia⟩
  ·rintro i v σ' Hi hv ⟨si,gi,hq,y1,rfl⟩;have hi:i < us.length:=(aI.mp hv).1;obtain ⟨q,zs,rfl,nq,qt,gq,lz⟩:=hq v (ax hv);walk_at "w";refine ⟨.inl ⟨rfl,_,bU.of gq⟩,?_⟩;walk_at "w";refine cg fun tz Hj sj gj=>?_
   walk_at "w";refine iQ (sj _ _ gq) (bG (by lia)) ?_;refine ⟨(si.trans sj).after nq,by rw[bJ (Ne.symm qt)];exact sj _ _ gi,fun y hy=>?_,_,rfl⟩;obtain ⟨q2,zs2,rfl,nq2,qt2,gq2,lz2⟩:=hq y hy;by_cases z:q2=q
   ·exact ⟨q2,zs++[.ref tz],rfl,nq2,qt2,by rw[z,aK],by rw[ak,bx];lia⟩
   ·exact ⟨q2,zs2,rfl,nq2,qt2,by rw[bJ z];exact sj _ _ gq2,by lia⟩
  rintro σ' Hi ⟨si,gi,_,y1,rfl⟩;walk_at "w";refine ⟨.inl ⟨rfl,_,bU.of gi⟩,?_⟩;walk_at "w";refine cR fun el Hj sj nj gj=>?_
  walk_at "w";refine iQ (sj _ _ gi) (bG (by lia)) ?_;have s6k:=(si.trans sj).after (o:=.lst (us++[.ref el])) nfd;generalize upd Hj fd (.lst (us++[.ref el]))=Hk at s6k ⊢;walk_at "w";refine ⟨x,a',c,tt,H0,mv,pt,lk,rfl,by lia,S2.same s6k,D,KF,fun f2 R3 ps3 Hl nf2 sl G3 RR3=>?_⟩;obtain ⟨rfl,rfl⟩:=RR3.same RR2;have s6l:=s6k.trans sl;walk_at "w";refine ⟨_,_,zb,R3,R3,by decide,G3.kind,(G6.same s6l).kind,?_⟩;rw[decide_eq_true rfl];walk_at "w";refine ⟨x,a',c,0,H0,mv,pt,lk,rfl,by lia,S2.same s6l,D,KF,fun f3 R4 ps4 Hm nf3 sm G4 RR4=>?_⟩;obtain ⟨rfl,rfl⟩:=RR4.same Dz;walk_at "w";refine cR fun e2 Hn sn nn gn=>?_
  have Ge:bL K Hm Hn e2 []:=⟨_,gn,.nil,fun z=>nomatch z⟩;have s6n:=(s6l.trans sm).trans sn;walk_at "w";refine ⟨_,_,zb,[],[],by decide,(G4.same sn).kind,Ge.kind,?_⟩;rw[decide_eq_true rfl];walk_at "w";refine ⟨x,r,du,tt,H0,H0,H5,mv,pt,lk,R3,ps3,rfl,t12,S2.same s6n,P1.same s6n,D,F,VV,G6.same s6n,RR2,fun Ho so=>?_⟩;have s6o:=s6n.trans so;obtain ⟨dx,xa,xb,xc,gx,_,_,_,Gx,_⟩:=S2.same s6o;obtain ⟨m,p,l,gt,mn,pn,ln,Gm,Gp,Gl⟩:=P1.same s6o;walk_at "w";refine ⟨x,Z.a_System,dx,_,_,rfl,gx,T.cl_System,T.na_move,AJ,?_⟩;walk_at "w";refine ⟨_,_,zb,mv,mv,by decide,Gx.kind,Gm.kind,?_⟩;rw[decide_eq_true rfl];exact k _
end
theorem Ic {P:List Value->Prop} (h:∀x0,P [x0]):∀us:List Value,us.length=1->P us
 | [x0],_=>h x0
theorem ln2 {P:List Value->Prop} (h:∀x0 x1,P [x0,x1]):∀us:List Value,us.length=2->P us
 | [x0,x1],_=>h x0 x1
theorem JJ {P:List Value->Prop} (h:∀x0 x1 x2,P [x0,x1,x2]):∀us:List Value,us.length=3->P us
 | [x0,x1,x2],_=>h x0 x1 x2
theorem Qv {P:List Value->Prop} (h:∀x0 x1 x2 x3,P [x0,x1,x2,x3]):∀us:List Value,us.length=4->P us
 | [x0,x1,x2,x3],_=>h x0 x1 x2 x3
theorem SD {P:List Value->Prop} (h:∀x0 x1 x2 x3 x4,P [x0,x1,x2,x3,x4]):∀us:List Value,us.length=5->P us
 | [x0,x1,x2,x3,x4],_=>h x0 x1 x2 x3 x4
theorem all_mk {l:W.OpenLaw} {w:World} {K:W.Frag} {h:Heap} {mg:Str->Option Value} {fa:Addr}
  {f0 f1 f2 f3 f4 f5 f6 f7 f8 f9 f10 f11 f12 f13 f14 f15 f16 f17 f18 f19 f20 f21 f22 f23 f24 f25 f26 f27 f28 f29 f30 f31 f32 f33 f34 f35 f36 f37 f38 f39 f40 f41 f42 f43 f44 f45 f46 f47 f48 f49 f50 f51 f52 f53 f54 f55 f56 f57 f58 f59 f60 f61 f62 f63 f64 f65 f66 f67 f68 f69 f70:Addr} {od0 od1 od2 od3 od4 od5 od6 od7 od8 od9 od10 od11 od12 od13 od14 od15 od16 od17 od18 od19 od20 od21 od22 od23 od24 od25 od26 od27 od28 od29 od30 od31 od32 od33 od34 od35 od36 od37 od38 od39 od40 od41 od42 od43 od44 od45 od46 od47 od48 od49 od50 od51 od52 od53 od54 od55 od56 od57 od58 od59 od60 od61 od62 od63 od64 od65 od66 od67 od68 od69 od70 an0 an1 an2 an3 an4 an5 an6 an7 an8 an9 an10 an11 an12 an13 an14 an15 an16 an17 an18 an19 an20 an21 an22 an23 an24 an25 an26 an27 an28 an29 an30 an31 an32 an33 an34 an35 an36 an37 an38 an39 an40 an41 an42 an43 an44 an45 an46 an47 an48 an49 an50 an51 an52 an53 an54 an55 an56 an57 an58 an59 an60 an61 an62 an63 an64 an65 an66 an67 an68 an69 an70:Option Addr} {sl0 sl1 sl2 sl3 sl4 sl5 sl6 sl7 sl8 sl9 sl10 sl11 sl12 sl13 sl14 sl15 sl16 sl17 sl18 sl19 sl20 sl21 sl22 sl23 sl24 sl25 sl26 sl27 sl28 sl29 sl30 sl31 sl32 sl33 sl34 sl35 sl36 sl37 sl38 sl39 sl40 sl41 sl42 sl43 sl44 sl45 sl46 sl47 sl48 sl49 sl50 sl51 sl52 sl53 sl54 sl55 sl56 sl57 sl58 sl59 sl60 sl61 sl62 sl63 sl64 sl65 sl66 sl67 sl68 sl69 sl70:Array (Option Value)} {oc0 oc1 oc2 oc3 oc4 oc5 oc6 oc7 oc8 oc9 oc10 oc11 oc12 oc13 oc14 oc15 oc16 oc17 oc18 oc19 oc20 oc21 oc22 oc23 oc24 oc25 oc26 oc27 oc28 oc29 oc30 oc31 oc32 oc33 oc34 oc35 oc36 oc37 oc38 oc39 oc40 oc41 oc42 oc43 oc44 oc45 oc46 oc47 oc48 oc49 oc50 oc51 oc52 oc53 oc54 oc55 oc56 oc57 oc58 oc59 oc60 oc61 oc62 oc63 oc64 oc65 oc66 oc67 oc68 oc69 oc70 kV0 kV1 kV2 kV3 kV4 kV5 kV6 kV7 kV8 kV9 kV10 kV11 kV12 kV13 kV14 kV15 kV16 kV17 kV18 kV19 kV20 kV21 kV22 kV23 kV24 kV25 kV26 kV27 kV28 kV29 kV30 kV31 kV32 kV33 kV34 kV35 kV36 kV37 kV38 kV39 kV40 kV41 kV42 kV43 kV44 kV45 kV46 kV47 kV48 kV49 kV50 kV51 kV52 kV53 kV54 kV55 kV56 kV57 kV58 kV59 kV60 kV61 kV62 kV63 kV64 kV65 kV66 kV67 kV68 kV69 kV70 dc0 dc1 dc2 dc3 dc4 dc5 dc6 dc7 dc8 dc9 dc10 dc11 dc12 dc13 dc14 dc15 dc16 dc17 dc18 dc19 dc20 dc21 dc22 dc23 dc24 dc25 dc26 dc27 dc28 dc29 dc30 dc31 dc32 dc33 dc34 dc35 dc36 dc37 dc38 dc39 dc40 dc41 dc42 dc43 dc44 dc45 dc46 dc47 dc48 dc49 dc50 dc51 dc52 dc53 dc54 dc55 dc56 dc57 dc58 dc59 dc60 dc61 dc62 dc63 dc64 dc65 dc66 dc67 dc68 dc69 dc70 pm0 pm1 pm2 pm3 pm4 pm5 pm6 pm7 pm8 pm9 pm10 pm11 pm12 pm13 pm14 pm15 pm16 pm17 pm18 pm19 pm20 pm21 pm22 pm23 pm24 pm25 pm26 pm27 pm28 pm29 pm30 pm31 pm32 pm33 pm34 pm35 pm36 pm37 pm38 pm39 pm40 pm41 pm42 pm43 pm44 pm45 pm46 pm47 pm48 pm49 pm50 pm51 pm52 pm53 pm54 pm55 pm56 pm57 pm58 pm59 pm60 pm61 pm62 pm63 pm64 pm65 pm66 pm67 pm68 pm69 pm70 cd0 cd1 cd2 cd3 cd4 cd5 cd6 cd7 cd8 cd9 cd10 cd11 cd12 cd13 cd14 cd15 cd16 cd17 cd18 cd19 cd20 cd21 cd22 cd23 cd24 cd25 cd26 cd27 cd28 cd29 cd30 cd31 cd32 cd33 cd34 cd35 cd36 cd37 cd38 cd39 cd40 cd41 cd42 cd43 cd44 cd45 cd46 cd47 cd48 cd49 cd50 cd51 cd52 cd53 cd54 cd55 cd56 cd57 cd58 cd59 cd60 cd61 cd62 cd63 cd64 cd65 cd66 cd67 cd68 cd69 cd70 ct0 ct1 ct2 ct3 ct4 ct5 ct6 ct7 ct8 ct9 ct10 ct11 ct12 ct13 ct14 ct15 ct16 ct17 ct18 ct19 ct20 ct21 ct22 ct23 ct24 ct25 ct26 ct27 ct28 ct29 ct30 ct31 ct32 ct33 ct34 ct35 ct36 ct37 ct38 ct39 ct40 ct41 ct42 ct43 ct44 ct45 ct46 ct47 ct48 ct49 ct50 ct51 ct52 ct53 ct54 ct55 ct56 ct57 ct58 ct59 ct60 ct61 ct62 ct63 ct64 ct65 ct66 ct67 ct68 ct69 ct70:Value}
  (X:K.In h) (G:h.Ns mainGlobals mg) (hfa:mg "law"=some (.ref fa))
  {C:Addr} (aC:W.nsIn K mainGlobals "System"=some (some (.ref C)))
  (a0:W.nsIn K mainGlobals "_law_bag"=some (some (.ref f0))) (l0:K.lookup f0=some ⟨oc0,od0,.func (W.fnOf "_law_bag" "_law_bag" (bp lh) (ba lh) (ay lh) .none kV0 dc0 pm0 an0 cd0 ct0),sl0⟩) (c0:W.codeIn K cd0 "_law_bag"=true) (k0:W.keepIn K (.ref f0)=true)
  (a1:W.nsIn K mainGlobals "_law_take"=some (some (.ref f1))) (l1:K.lookup f1=some ⟨oc1,od1,.func (W.fnOf "_law_take" "_law_take" (bp jN) (ba jN) (ay jN) .none kV1 dc1 pm1 an1 cd1 ct1),sl1⟩) (c1:W.codeIn K cd1 "_law_take"=true) (k1:W.keepIn K (.ref f1)=true)
  (a2:W.nsIn K mainGlobals "want_list"=some (some (.ref f2))) (l2:K.lookup f2=some ⟨oc2,od2,.func (W.fnOf "want_list" "want_list" (bp jI) (ba jI) (ay jI) .none kV2 dc2 pm2 an2 cd2 ct2),sl2⟩) (c2:W.codeIn K cd2 "want_list"=true) (k2:W.keepIn K (.ref f2)=true)
  (a3:W.nsIn K mainGlobals "is_whole"=some (some (.ref f3))) (l3:K.lookup f3=some ⟨oc3,od3,.func (W.fnOf "is_whole" "is_whole" (bp kT) (ba kT) (ay kT) .none kV3 dc3 pm3 an3 cd3 ct3),sl3⟩) (c3:W.codeIn K cd3 "is_whole"=true) (k3:W.keepIn K (.ref f3)=true)
  (a4:W.nsIn K mainGlobals "common_divisor"=some (some (.ref f4))) (l4:K.lookup f4=some ⟨oc4,od4,.func (W.fnOf "common_divisor" "common_divisor" (bp eO) (ba eO) (ay eO) .none kV4 dc4 pm4 an4 cd4 ct4),sl4⟩) (c4:W.codeIn K cd4 "common_divisor"=true) (k4:W.keepIn K (.ref f4)=true)
  (a5:W.nsIn K mainGlobals "is_number"=some (some (.ref f5))) (l5:K.lookup f5=some ⟨oc5,od5,.func (W.fnOf "is_number" "is_number" (bp jL) (ba jL) (ay jL) .none kV5 dc5 pm5 an5 cd5 ct5),sl5⟩) (c5:W.codeIn K cd5 "is_number"=true) (k5:W.keepIn K (.ref f5)=true)
  (a6:W.nsIn K mainGlobals "is_row"=some (some (.ref f6))) (l6:K.lookup f6=some ⟨oc6,od6,.func (W.fnOf "is_row" "is_row" (bp rK) (ba rK) (ay rK) .none kV6 dc6 pm6 an6 cd6 ct6),sl6⟩) (c6:W.codeIn K cd6 "is_row"=true) (k6:W.keepIn K (.ref f6)=true)
  (a7:W.nsIn K mainGlobals "copied_rows"=some (some (.ref f7))) (l7:K.lookup f7=some ⟨oc7,od7,.func (W.fnOf "copied_rows" "copied_rows" (bp gO) (ba gO) (ay gO) .none kV7 dc7 pm7 an7 cd7 ct7),sl7⟩) (c7:W.codeIn K cd7 "copied_rows"=true) (k7:W.keepIn K (.ref f7)=true)
  (a8:W.findIn K (.ref C) "__init__"=some (some (.ref f8))) (i8:W.isFn K (.ref f8)=true) (l8:K.lookup f8=some ⟨oc8,od8,.func (W.fnOf "__init__" "System.__init__" (bp ee) (ba ee) (ay ee) .none kV8 dc8 pm8 an8 cd8 ct8),sl8⟩) (c8:W.codeIn K cd8 "System.__init__"=true) (k8:W.keepIn K (.ref f8)=true)
  (a9:W.nsIn K mainGlobals "tops_over"=some (some (.ref f9))) (l9:K.lookup f9=some ⟨oc9,od9,.func (W.fnOf "tops_over" "tops_over" (bp jJ) (ba jJ) (ay jJ) .none kV9 dc9 pm9 an9 cd9 ct9),sl9⟩) (c9:W.codeIn K cd9 "tops_over"=true) (k9:W.keepIn K (.ref f9)=true)
  (a10:W.nsIn K mainGlobals "common_multiple"=some (some (.ref f10))) (l10:K.lookup f10=some ⟨oc10,od10,.func (W.fnOf "common_multiple" "common_multiple" (bp d9) (ba d9) (ay d9) .none kV10 dc10 pm10 an10 cd10 ct10),sl10⟩) (c10:W.codeIn K cd10 "common_multiple"=true) (k10:W.keepIn K (.ref f10)=true)
  (a11:W.nsIn K mainGlobals "common_bottom"=some (some (.ref f11))) (l11:K.lookup f11=some ⟨oc11,od11,.func (W.fnOf "common_bottom" "common_bottom" (bp fj) (ba fj) (ay fj) .none kV11 dc11 pm11 an11 cd11 ct11),sl11⟩) (c11:W.codeIn K cd11 "common_bottom"=true) (k11:W.keepIn K (.ref f11)=true)
  (a12:W.nsIn K mainGlobals "first_with"=some (some (.ref f12))) (l12:K.lookup f12=some ⟨oc12,od12,.func (W.fnOf "first_with" "first_with" (bp iI) (ba iI) (ay iI) .none kV12 dc12 pm12 an12 cd12 ct12),sl12⟩) (c12:W.codeIn K cd12 "first_with"=true) (k12:W.keepIn K (.ref f12)=true)
  (a13:W.nsIn K mainGlobals "cleared"=some (some (.ref f13))) (l13:K.lookup f13=some ⟨oc13,od13,.func (W.fnOf "cleared" "cleared" (bp oG) (ba oG) (ay oG) .none kV13 dc13 pm13 an13 cd13 ct13),sl13⟩) (c13:W.codeIn K cd13 "cleared"=true) (k13:W.keepIn K (.ref f13)=true)
  (a14:W.nsIn K mainGlobals "brought_up"=some (some (.ref f14))) (l14:K.lookup f14=some ⟨oc14,od14,.func (W.fnOf "brought_up" "brought_up" (bp iJ) (ba iJ) (ay iJ) .none kV14 dc14 pm14 an14 cd14 ct14),sl14⟩) (c14:W.codeIn K cd14 "brought_up"=true) (k14:W.keepIn K (.ref f14)=true)
  (a15:W.nsIn K mainGlobals "swept"=some (some (.ref f15))) (l15:K.lookup f15=some ⟨oc15,od15,.func (W.fnOf "swept" "swept" (bp vF) (ba vF) (ay vF) .none kV15 dc15 pm15 an15 cd15 ct15),sl15⟩) (c15:W.codeIn K cd15 "swept"=true) (k15:W.keepIn K (.ref f15)=true)
  (a16:W.nsIn K mainGlobals "lowest"=some (some (.ref f16))) (l16:K.lookup f16=some ⟨oc16,od16,.func (W.fnOf "lowest" "lowest" (bp rJ) (ba rJ) (ay rJ) .none kV16 dc16 pm16 an16 cd16 ct16),sl16⟩) (c16:W.codeIn K cd16 "lowest"=true) (k16:W.keepIn K (.ref f16)=true)
  (a17:W.nsIn K mainGlobals "reduced"=some (some (.ref f17))) (l17:K.lookup f17=some ⟨oc17,od17,.func (W.fnOf "reduced" "reduced" (bp oC) (ba oC) (ay oC) .none kV17 dc17 pm17 an17 cd17 ct17),sl17⟩) (c17:W.codeIn K cd17 "reduced"=true) (k17:W.keepIn K (.ref f17)=true)
  (a18:W.nsIn K mainGlobals "row_dot"=some (some (.ref f18))) (l18:K.lookup f18=some ⟨oc18,od18,.func (W.fnOf "row_dot" "row_dot" (bp oB) (ba oB) (ay oB) .none kV18 dc18 pm18 an18 cd18 ct18),sl18⟩) (c18:W.codeIn K cd18 "row_dot"=true) (k18:W.keepIn K (.ref f18)=true)
  (a19:W.nsIn K mainGlobals "grid_on"=some (some (.ref f19))) (l19:K.lookup f19=some ⟨oc19,od19,.func (W.fnOf "grid_on" "grid_on" (bp oF) (ba oF) (ay oF) .none kV19 dc19 pm19 an19 cd19 ct19),sl19⟩) (c19:W.codeIn K cd19 "grid_on"=true) (k19:W.keepIn K (.ref f19)=true)
  (a20:W.nsIn K mainGlobals "moved_rows"=some (some (.ref f20))) (l20:K.lookup f20=some ⟨oc20,od20,.func (W.fnOf "moved_rows" "moved_rows" (bp iH) (ba iH) (ay iH) .none kV20 dc20 pm20 an20 cd20 ct20),sl20⟩) (c20:W.codeIn K cd20 "moved_rows"=true) (k20:W.keepIn K (.ref f20)=true)
  (a21:W.nsIn K mainGlobals "reach_grown"=some (some (.ref f21))) (l21:K.lookup f21=some ⟨oc21,od21,.func (W.fnOf "reach_grown" "reach_grown" (bp gL) (ba gL) (ay gL) .none kV21 dc21 pm21 an21 cd21 ct21),sl21⟩) (c21:W.codeIn K cd21 "reach_grown"=true) (k21:W.keepIn K (.ref f21)=true)
  (a22:W.nsIn K mainGlobals "reach_rows"=some (some (.ref f22))) (l22:K.lookup f22=some ⟨oc22,od22,.func (W.fnOf "reach_rows" "reach_rows" (bp iF) (ba iF) (ay iF) .none kV22 dc22 pm22 an22 cd22 ct22),sl22⟩) (c22:W.codeIn K cd22 "reach_rows"=true) (k22:W.keepIn K (.ref f22)=true)
  (a23:W.nsIn K mainGlobals "_law_long"=some (some (.ref f23))) (l23:K.lookup f23=some ⟨oc23,od23,.func (W.fnOf "_law_long" "_law_long" (bp jU) (ba jU) (ay jU) .none kV23 dc23 pm23 an23 cd23 ct23),sl23⟩) (c23:W.codeIn K cd23 "_law_long"=true) (k23:W.keepIn K (.ref f23)=true)
  (a24:W.nsIn K mainGlobals "_law_sizes"=some (some (.ref f24))) (l24:K.lookup f24=some ⟨oc24,od24,.func (W.fnOf "_law_sizes" "_law_sizes" (bp gC) (ba gC) (ay gC) .none kV24 dc24 pm24 an24 cd24 ct24),sl24⟩) (c24:W.codeIn K cd24 "_law_sizes"=true) (k24:W.keepIn K (.ref f24)=true)
  (a25:W.nsIn K mainGlobals "_law_line"=some (some (.ref f25))) (l25:K.lookup f25=some ⟨oc25,od25,.func (W.fnOf "_law_line" "_law_line" (bp jV) (ba jV) (ay jV) .none kV25 dc25 pm25 an25 cd25 ct25),sl25⟩) (c25:W.codeIn K cd25 "_law_line"=true) (k25:W.keepIn K (.ref f25)=true)
  (a26:W.nsIn K mainGlobals "_law_low"=some (some (.ref f26))) (l26:K.lookup f26=some ⟨oc26,od26,.func (W.fnOf "_law_low" "_law_low" (bp kX) (ba kX) (ay kX) .none kV26 dc26 pm26 an26 cd26 ct26),sl26⟩) (c26:W.codeIn K cd26 "_law_low"=true) (k26:W.keepIn K (.ref f26)=true)
  (a27:W.nsIn K mainGlobals "_law_sum"=some (some (.ref f27))) (l27:K.lookup f27=some ⟨oc27,od27,.func (W.fnOf "_law_sum" "_law_sum" (bp kU) (ba kU) (ay kU) .none kV27 dc27 pm27 an27 cd27 ct27),sl27⟩) (c27:W.codeIn K cd27 "_law_sum"=true) (k27:W.keepIn K (.ref f27)=true)
  (a28:W.nsIn K mainGlobals "_law_plus"=some (some (.ref f28))) (l28:K.lookup f28=some ⟨oc28,od28,.func (W.fnOf "_law_plus" "_law_plus" (bp jQ) (ba jQ) (ay jQ) .none kV28 dc28 pm28 an28 cd28 ct28),sl28⟩) (c28:W.codeIn K cd28 "_law_plus"=true) (k28:W.keepIn K (.ref f28)=true)
  (a29:W.nsIn K mainGlobals "_law_prod"=some (some (.ref f29))) (l29:K.lookup f29=some ⟨oc29,od29,.func (W.fnOf "_law_prod" "_law_prod" (bp jP) (ba jP) (ay jP) .none kV29 dc29 pm29 an29 cd29 ct29),sl29⟩) (c29:W.codeIn K cd29 "_law_prod"=true) (k29:W.keepIn K (.ref f29)=true)
  (a30:W.nsIn K mainGlobals "_law_by"=some (some (.ref f30))) (l30:K.lookup f30=some ⟨oc30,od30,.func (W.fnOf "_law_by" "_law_by" (bp oI) (ba oI) (ay oI) .none kV30 dc30 pm30 an30 cd30 ct30),sl30⟩) (c30:W.codeIn K cd30 "_law_by"=true) (k30:W.keepIn K (.ref f30)=true)
  (a31:W.nsIn K mainGlobals "_law_mixed"=some (some (.ref f31))) (l31:K.lookup f31=some ⟨oc31,od31,.func (W.fnOf "_law_mixed" "_law_mixed" (bp iM) (ba iM) (ay iM) .none kV31 dc31 pm31 an31 cd31 ct31),sl31⟩) (c31:W.codeIn K cd31 "_law_mixed"=true) (k31:W.keepIn K (.ref f31)=true)
  (a32:W.nsIn K mainGlobals "_law_two_lines"=some (some (.ref f32))) (l32:K.lookup f32=some ⟨oc32,od32,.func (W.fnOf "_law_two_lines" "_law_two_lines" (bp eP) (ba eP) (ay eP) .none kV32 dc32 pm32 an32 cd32 ct32),sl32⟩) (c32:W.codeIn K cd32 "_law_two_lines"=true) (k32:W.keepIn K (.ref f32)=true)
  (a33:W.nsIn K mainGlobals "_law_number"=some (some (.ref f33))) (l33:K.lookup f33=some ⟨oc33,od33,.func (W.fnOf "_law_number" "_law_number" (bp gQ) (ba gQ) (ay gQ) .none kV33 dc33 pm33 an33 cd33 ct33),sl33⟩) (c33:W.codeIn K cd33 "_law_number"=true) (k33:W.keepIn K (.ref f33)=true)
  (a34:W.nsIn K mainGlobals "_law_row"=some (some (.ref f34))) (l34:K.lookup f34=some ⟨oc34,od34,.func (W.fnOf "_law_row" "_law_row" (bp kW) (ba kW) (ay kW) .none kV34 dc34 pm34 an34 cd34 ct34),sl34⟩) (c34:W.codeIn K cd34 "_law_row"=true) (k34:W.keepIn K (.ref f34)=true)
  (a35:W.nsIn K mainGlobals "_law_move"=some (some (.ref f35))) (l35:K.lookup f35=some ⟨oc35,od35,.func (W.fnOf "_law_move" "_law_move" (bp jS) (ba jS) (ay jS) .none kV35 dc35 pm35 an35 cd35 ct35),sl35⟩) (c35:W.codeIn K cd35 "_law_move"=true) (k35:W.keepIn K (.ref f35)=true)
  (a36:W.nsIn K mainGlobals "_law_parts"=some (some (.ref f36))) (l36:K.lookup f36=some ⟨oc36,od36,.func (W.fnOf "_law_parts" "_law_parts" (bp iL) (ba iL) (ay iL) .none kV36 dc36 pm36 an36 cd36 ct36),sl36⟩) (c36:W.codeIn K cd36 "_law_parts"=true) (k36:W.keepIn K (.ref f36)=true)
  (a37:W.nsIn K mainGlobals "_law_system"=some (some (.ref f37))) (l37:K.lookup f37=some ⟨oc37,od37,.func (W.fnOf "_law_system" "_law_system" (bp gP) (ba gP) (ay gP) .none kV37 dc37 pm37 an37 cd37 ct37),sl37⟩) (c37:W.codeIn K cd37 "_law_system"=true) (k37:W.keepIn K (.ref f37)=true)
  (a38:W.nsIn K mainGlobals "_law_copied"=some (some (.ref f38))) (l38:K.lookup f38=some ⟨oc38,od38,.func (W.fnOf "_law_copied" "_law_copied" (bp gU) (ba gU) (ay gU) .none kV38 dc38 pm38 an38 cd38 ct38),sl38⟩) (c38:W.codeIn K cd38 "_law_copied"=true) (k38:W.keepIn K (.ref f38)=true)
  (a39:W.nsIn K mainGlobals "_law_made"=some (some (.ref f39))) (l39:K.lookup f39=some ⟨oc39,od39,.func (W.fnOf "_law_made" "_law_made" (bp jT) (ba jT) (ay jT) .none kV39 dc39 pm39 an39 cd39 ct39),sl39⟩) (c39:W.codeIn K cd39 "_law_made"=true) (k39:W.keepIn K (.ref f39)=true)
  (a40:W.nsIn K mainGlobals "_law_steps"=some (some (.ref f40))) (l40:K.lookup f40=some ⟨oc40,od40,.func (W.fnOf "_law_steps" "_law_steps" (bp iK) (ba iK) (ay iK) .none kV40 dc40 pm40 an40 cd40 ct40),sl40⟩) (c40:W.codeIn K cd40 "_law_steps"=true) (k40:W.keepIn K (.ref f40)=true)
  (a41:W.nsIn K mainGlobals "_law_quot"=some (some (.ref f41))) (l41:K.lookup f41=some ⟨oc41,od41,.func (W.fnOf "_law_quot" "_law_quot" (bp jO) (ba jO) (ay jO) .none kV41 dc41 pm41 an41 cd41 ct41),sl41⟩) (c41:W.codeIn K cd41 "_law_quot"=true) (k41:W.keepIn K (.ref f41)=true)
  (a42:W.nsIn K mainGlobals "_law_less"=some (some (.ref f42))) (l42:K.lookup f42=some ⟨oc42,od42,.func (W.fnOf "_law_less" "_law_less" (bp jW) (ba jW) (ay jW) .none kV42 dc42 pm42 an42 cd42 ct42),sl42⟩) (c42:W.codeIn K cd42 "_law_less"=true) (k42:W.keepIn K (.ref f42)=true)
  (a43:W.nsIn K mainGlobals "_law_minus"=some (some (.ref f43))) (l43:K.lookup f43=some ⟨oc43,od43,.func (W.fnOf "_law_minus" "_law_minus" (bp iN) (ba iN) (ay iN) .none kV43 dc43 pm43 an43 cd43 ct43),sl43⟩) (c43:W.codeIn K cd43 "_law_minus"=true) (k43:W.keepIn K (.ref f43)=true)
  (a44:W.nsIn K mainGlobals "_law_lean"=some (some (.ref f44))) (l44:K.lookup f44=some ⟨oc44,od44,.func (W.fnOf "_law_lean" "_law_lean" (bp jX) (ba jX) (ay jX) .none kV44 dc44 pm44 an44 cd44 ct44),sl44⟩) (c44:W.codeIn K cd44 "_law_lean"=true) (k44:W.keepIn K (.ref f44)=true)
  (a45:W.nsIn K mainGlobals "_law_dot"=some (some (.ref f45))) (l45:K.lookup f45=some ⟨oc45,od45,.func (W.fnOf "_law_dot" "_law_dot" (bp kZ) (ba kZ) (ay kZ) .none kV45 dc45 pm45 an45 cd45 ct45),sl45⟩) (c45:W.codeIn K cd45 "_law_dot"=true) (k45:W.keepIn K (.ref f45)=true)
  (a46:W.nsIn K mainGlobals "_law_on"=some (some (.ref f46))) (l46:K.lookup f46=some ⟨oc46,od46,.func (W.fnOf "_law_on" "_law_on" (bp oH) (ba oH) (ay oH) .none kV46 dc46 pm46 an46 cd46 ct46),sl46⟩) (c46:W.codeIn K cd46 "_law_on"=true) (k46:W.keepIn K (.ref f46)=true)
  (a47:W.nsIn K mainGlobals "_law_added"=some (some (.ref f47))) (l47:K.lookup f47=some ⟨oc47,od47,.func (W.fnOf "_law_added" "_law_added" (bp iP) (ba iP) (ay iP) .none kV47 dc47 pm47 an47 cd47 ct47),sl47⟩) (c47:W.codeIn K cd47 "_law_added"=true) (k47:W.keepIn K (.ref f47)=true)
  (a48:W.nsIn K mainGlobals "_law_is_number"=some (some (.ref f48))) (l48:K.lookup f48=some ⟨oc48,od48,.func (W.fnOf "_law_is_number" "_law_is_number" (bp eQ) (ba eQ) (ay eQ) .none kV48 dc48 pm48 an48 cd48 ct48),sl48⟩) (c48:W.codeIn K cd48 "_law_is_number"=true) (k48:W.keepIn K (.ref f48)=true)
  (a49:W.nsIn K mainGlobals "_law_is_row"=some (some (.ref f49))) (l49:K.lookup f49=some ⟨oc49,od49,.func (W.fnOf "_law_is_row" "_law_is_row" (bp gR) (ba gR) (ay gR) .none kV49 dc49 pm49 an49 cd49 ct49),sl49⟩) (c49:W.codeIn K cd49 "_law_is_row"=true) (k49:W.keepIn K (.ref f49)=true)
  (a50:W.nsIn K mainGlobals "_law_is_grid"=some (some (.ref f50))) (l50:K.lookup f50=some ⟨oc50,od50,.func (W.fnOf "_law_is_grid" "_law_is_grid" (bp fM) (ba fM) (ay fM) .none kV50 dc50 pm50 an50 cd50 ct50),sl50⟩) (c50:W.codeIn K cd50 "_law_is_grid"=true) (k50:W.keepIn K (.ref f50)=true)
  (a51:W.nsIn K mainGlobals "flat"=some (some (.ref f51))) (l51:K.lookup f51=some ⟨oc51,od51,.func (W.fnOf "flat" "flat" (bp yV) (ba yV) (ay yV) .none kV51 dc51 pm51 an51 cd51 ct51),sl51⟩) (c51:W.codeIn K cd51 "flat"=true) (k51:W.keepIn K (.ref f51)=true)
  (a52:W.nsIn K mainGlobals "additions"=some (some (.ref f52))) (l52:K.lookup f52=some ⟨oc52,od52,.func (W.fnOf "additions" "additions" (bp jM) (ba jM) (ay jM) .none kV52 dc52 pm52 an52 cd52 ct52),sl52⟩) (c52:W.codeIn K cd52 "additions"=true) (k52:W.keepIn K (.ref f52)=true)
  (a53:W.nsIn K mainGlobals "nought_row"=some (some (.ref f53))) (l53:K.lookup f53=some ⟨oc53,od53,.func (W.fnOf "nought_row" "nought_row" (bp iG) (ba iG) (ay iG) .none kV53 dc53 pm53 an53 cd53 ct53),sl53⟩) (c53:W.codeIn K cd53 "nought_row"=true) (k53:W.keepIn K (.ref f53)=true)
  (a54:W.nsIn K mainGlobals "solved"=some (some (.ref f54))) (l54:K.lookup f54=some ⟨oc54,od54,.func (W.fnOf "solved" "solved" (bp rH) (ba rH) (ay rH) .none kV54 dc54 pm54 an54 cd54 ct54),sl54⟩) (c54:W.codeIn K cd54 "solved"=true) (k54:W.keepIn K (.ref f54)=true)
  (a55:W.nsIn K mainGlobals "grid_turned"=some (some (.ref f55))) (l55:K.lookup f55=some ⟨oc55,od55,.func (W.fnOf "grid_turned" "grid_turned" (bp gN) (ba gN) (ay gN) .none kV55 dc55 pm55 an55 cd55 ct55),sl55⟩) (c55:W.codeIn K cd55 "grid_turned"=true) (k55:W.keepIn K (.ref f55)=true)
  (a56:W.nsIn K mainGlobals "solve"=some (some (.ref f56))) (l56:K.lookup f56=some ⟨oc56,od56,.func (W.fnOf "solve" "solve" (bp vG) (ba vG) (ay vG) .none kV56 dc56 pm56 an56 cd56 ct56),sl56⟩) (c56:W.codeIn K cd56 "solve"=true) (k56:W.keepIn K (.ref f56)=true)
  (a57:W.nsIn K mainGlobals "weights_for"=some (some (.ref f57))) (l57:K.lookup f57=some ⟨oc57,od57,.func (W.fnOf "weights_for" "weights_for" (bp gK) (ba gK) (ay gK) .none kV57 dc57 pm57 an57 cd57 ct57),sl57⟩) (c57:W.codeIn K cd57 "weights_for"=true) (k57:W.keepIn K (.ref f57)=true)
  (a58:W.nsIn K mainGlobals "minus"=some (some (.ref f58))) (l58:K.lookup f58=some ⟨oc58,od58,.func (W.fnOf "minus" "minus" (bp vH) (ba vH) (ay vH) .none kV58 dc58 pm58 an58 cd58 ct58),sl58⟩) (c58:W.codeIn K cd58 "minus"=true) (k58:W.keepIn K (.ref f58)=true)
  (a59:W.nsIn K mainGlobals "row_minus"=some (some (.ref f59))) (l59:K.lookup f59=some ⟨oc59,od59,.func (W.fnOf "row_minus" "row_minus" (bp jK) (ba jK) (ay jK) .none kV59 dc59 pm59 an59 cd59 ct59),sl59⟩) (c59:W.codeIn K cd59 "row_minus"=true) (k59:W.keepIn K (.ref f59)=true)
  (a60:W.findIn K (.ref C) "moved"=some (some (.ref f60))) (i60:W.isFn K (.ref f60)=true) (l60:K.lookup f60=some ⟨oc60,od60,.func (W.fnOf "moved" "System.moved" (bp fO) (ba fO) (ay fO) .none kV60 dc60 pm60 an60 cd60 ct60),sl60⟩) (c60:W.codeIn K cd60 "System.moved"=true) (k60:W.keepIn K (.ref f60)=true)
  (a61:W.nsIn K mainGlobals "course"=some (some (.ref f61))) (l61:K.lookup f61=some ⟨oc61,od61,.func (W.fnOf "course" "course" (bp rL) (ba rL) (ay rL) .none kV61 dc61 pm61 an61 cd61 ct61),sl61⟩) (c61:W.codeIn K cd61 "course"=true) (k61:W.keepIn K (.ref f61)=true)
  (a62:W.nsIn K mainGlobals "nothing_for"=some (some (.ref f62))) (l62:K.lookup f62=some ⟨oc62,od62,.func (W.fnOf "nothing_for" "nothing_for" (bp gM) (ba gM) (ay gM) .none kV62 dc62 pm62 an62 cd62 ct62),sl62⟩) (c62:W.codeIn K cd62 "nothing_for"=true) (k62:W.keepIn K (.ref f62)=true)
  (a63:W.nsIn K mainGlobals "lacking"=some (some (.ref f63))) (l63:K.lookup f63=some ⟨oc63,od63,.func (W.fnOf "lacking" "lacking" (bp oE) (ba oE) (ay oE) .none kV63 dc63 pm63 an63 cd63 ct63),sl63⟩) (c63:W.codeIn K cd63 "lacking"=true) (k63:W.keepIn K (.ref f63)=true)
  (a64:W.nsIn K mainGlobals "cut"=some (some (.ref f64))) (l64:K.lookup f64=some ⟨oc64,od64,.func (W.fnOf "cut" "cut" (bp Cr) (ba Cr) (ay Cr) .none kV64 dc64 pm64 an64 cd64 ct64),sl64⟩) (c64:W.codeIn K cd64 "cut"=true) (k64:W.keepIn K (.ref f64)=true)
  (a65:W.nsIn K mainGlobals "come"=some (some (.ref f65))) (l65:K.lookup f65=some ⟨oc65,od65,.func (W.fnOf "come" "come" (bp yW) (ba yW) (ay yW) .none kV65 dc65 pm65 an65 cd65 ct65),sl65⟩) (c65:W.codeIn K cd65 "come"=true) (k65:W.keepIn K (.ref f65)=true)
  (a66:W.nsIn K mainGlobals "_law_next"=some (some (.ref f66))) (l66:K.lookup f66=some ⟨oc66,od66,.func (W.fnOf "_law_next" "_law_next" (bp jR) (ba jR) (ay jR) .none kV66 dc66 pm66 an66 cd66 ct66),sl66⟩) (c66:W.codeIn K cd66 "_law_next"=true) (k66:W.keepIn K (.ref f66)=true)
  (a67:W.nsIn K mainGlobals "_law_end"=some (some (.ref f67))) (l67:K.lookup f67=some ⟨oc67,od67,.func (W.fnOf "_law_end" "_law_end" (bp kY) (ba kY) (ay kY) .none kV67 dc67 pm67 an67 cd67 ct67),sl67⟩) (c67:W.codeIn K cd67 "_law_end"=true) (k67:W.keepIn K (.ref f67)=true)
  (a68:W.nsIn K mainGlobals "_law_leads"=some (some (.ref f68))) (l68:K.lookup f68=some ⟨oc68,od68,.func (W.fnOf "_law_leads" "_law_leads" (bp iO) (ba iO) (ay iO) .none kV68 dc68 pm68 an68 cd68 ct68),sl68⟩) (c68:W.codeIn K cd68 "_law_leads"=true) (k68:W.keepIn K (.ref f68)=true)
  (a69:W.nsIn K mainGlobals "_law_come_to"=some (some (.ref f69))) (l69:K.lookup f69=some ⟨oc69,od69,.func (W.fnOf "_law_come_to" "_law_come_to" (bp fN) (ba fN) (ay fN) .none kV69 dc69 pm69 an69 cd69 ct69),sl69⟩) (c69:W.codeIn K cd69 "_law_come_to"=true) (k69:W.keepIn K (.ref f69)=true)
  (a70:W.nsIn K mainGlobals "law"=some (some (.ref f70))) (l70:K.lookup f70=some ⟨oc70,od70,.func (W.fnOf "law" "law" (bp Cq) (ba Cq) (ay Cq) .none kV70 dc70 pm70 an70 cd70 ct70),sl70⟩) (c70:W.codeIn K cd70 "law"=true) (k70:W.keepIn K (.ref f70)=true)
  {m0:Addr} {mo0:Option Addr} {mn0:Nat} {ms0:Array (Option Value)} {mt0_0 mt0_1:Tok} (ca0:W.nsIn K mainGlobals "NOUGHT"=some (some (.ref m0))) (cl0:K.lookup m0=some ⟨.type "tuple",mo0,.seq #[.int 0 mt0_0,.int 1 mt0_1] mn0,ms0⟩)
  {m1:Addr} {mo1:Option Addr} {mn1:Nat} {ms1:Array (Option Value)} {mt1_0 mt1_1:Tok} (ca1:W.nsIn K mainGlobals "ONE"=some (some (.ref m1))) (cl1:K.lookup m1=some ⟨.type "tuple",mo1,.seq #[.int 1 mt1_0,.int 1 mt1_1] mn1,ms1⟩)
  {it0:Tok} (ci0:W.nsIn K mainGlobals "MOST_STATES"=some (some (.int 8 it0)))
  {it1:Tok} (ci1:W.nsIn K mainGlobals "MOST_PUTS"=some (some (.int 4 it1)))
  {it2:Tok} (ci2:W.nsIn K mainGlobals "MOST_LOOKS"=some (some (.int 4 it2)))
  (pg:W.plainGet K C Str.empty=true) (hd:W.hasDictIn K C=true) (po:W.plainOver K C=true) (sa:W.findIn K (.ref C) "__setattr__"=some (some (.builtin "object.__setattr__"))) (mk:W.makesIn K C=true) (kc:W.keepIn K (.ref C)=true)
  (n_move:W.findIn K (.ref C) "move"=some none)
  (n_states:W.findIn K (.ref C) "states"=some none)
  (n_put:W.findIn K (.ref C) "put"=some none)
  (n_ins:W.findIn K (.ref C) "ins"=some none)
  (n_look:W.findIn K (.ref C) "look"=some none)
  (n_outs:W.findIn K (.ref C) "outs"=some none)
  (z_abs:W.nsIn K mainGlobals "abs"=some none)
  (z_len:W.nsIn K mainGlobals "len"=some none)
  (z_isinstance:W.nsIn K mainGlobals "isinstance"=some none)
  (z_list:W.nsIn K mainGlobals "list"=some none)
  (z_int:W.nsIn K mainGlobals "int"=some none)
  (z_bool:W.nsIn K mainGlobals "bool"=some none)
  (z_tuple:W.nsIn K mainGlobals "tuple"=some none)
  (z_all:W.nsIn K mainGlobals "all"=some none)
  (z_enumerate:W.nsIn K mainGlobals "enumerate"=some none)
  (z_range:W.nsIn K mainGlobals "range"=some none)
  (z_zip:W.nsIn K mainGlobals "zip"=some none)
  (z_sum:W.nsIn K mainGlobals "sum"=some none)
  (z_max:W.nsIn K mainGlobals "max"=some none)
  (z_min:W.nsIn K mainGlobals "min"=some none)
  (z_reversed:W.nsIn K mainGlobals "reversed"=some none)
  : ∃fd:FuncData,(∀(s:Shared) (v:Value),BindsTo s fd ⟨[v],[]⟩ [("_law_script",v)])/\∀base:Heap,K.In base->base.Ns mainGlobals mg->cU l.prog w K mg base gE 10 fa fd ["_law_script"] (Di K):=by
 have e:=hfa.symm.trans (W.mg_of X G a70);cases e;have F0:=bR (st:=lh) l0 c0 k0;have F1:=bR (st:=jN) l1 c1 k1;have F2:=bR (st:=jI) l2 c2 k2;have F3:=bR (st:=kT) l3 c3 k3;have F4:=bR (st:=eO) l4 c4 k4;have F5:=bR (st:=jL) l5 c5 k5;have F6:=bR (st:=rK) l6 c6 k6;have F7:=bR (st:=gO) l7 c7 k7;have F8:=bR (st:=ee) l8 c8 k8;have F9:=bR (st:=jJ) l9 c9 k9;have F10:=bR (st:=d9) l10 c10 k10;have F11:=bR (st:=fj) l11 c11 k11;have F12:=bR (st:=iI) l12 c12 k12;have F13:=bR (st:=oG) l13 c13 k13;have F14:=bR (st:=iJ) l14 c14 k14;have F15:=bR (st:=vF) l15 c15 k15;have F16:=bR (st:=rJ) l16 c16 k16;have F17:=bR (st:=oC) l17 c17 k17;have F18:=bR (st:=oB) l18 c18 k18;have F19:=bR (st:=oF) l19 c19 k19;have F20:=bR (st:=iH) l20 c20 k20;have F21:=bR (st:=gL) l21 c21 k21;have F22:=bR (st:=iF) l22 c22 k22;have F23:=bR (st:=jU) l23 c23 k23;have F24:=bR (st:=gC) l24 c24 k24;have F25:=bR (st:=jV) l25 c25 k25;have F26:=bR (st:=kX) l26 c26 k26;have F27:=bR (st:=kU) l27 c27 k27;have F28:=bR (st:=jQ) l28 c28 k28;have F29:=bR (st:=jP) l29 c29 k29;have F30:=bR (st:=oI) l30 c30 k30;have F31:=bR (st:=iM) l31 c31 k31;have F32:=bR (st:=eP) l32 c32 k32;have F33:=bR (st:=gQ) l33 c33 k33;have F34:=bR (st:=kW) l34 c34 k34;have F35:=bR (st:=jS) l35 c35 k35;have F36:=bR (st:=iL) l36 c36 k36;have F37:=bR (st:=gP) l37 c37 k37;have F38:=bR (st:=gU) l38 c38 k38;have F39:=bR (st:=jT) l39 c39 k39;have F40:=bR (st:=iK) l40 c40 k40;have F41:=bR (st:=jO) l41 c41 k41;have F42:=bR (st:=jW) l42 c42 k42;have F43:=bR (st:=iN) l43 c43 k43;have F44:=bR (st:=jX) l44 c44 k44;have F45:=bR (st:=kZ) l45 c45 k45;have F46:=bR (st:=oH) l46 c46 k46;have F47:=bR (st:=iP) l47 c47 k47;have F48:=bR (st:=eQ) l48 c48 k48;have F49:=bR (st:=gR) l49 c49 k49;have F50:=bR (st:=fM) l50 c50 k50;have F51:=bR (st:=yV) l51 c51 k51;have F52:=bR (st:=jM) l52 c52 k52;have F53:=bR (st:=iG) l53 c53 k53;have F54:=bR (st:=rH) l54 c54 k54;have F55:=bR (st:=gN) l55 c55 k55;have F56:=bR (st:=vG) l56 c56 k56;have F57:=bR (st:=gK) l57 c57 k57;have F58:=bR (st:=vH) l58 c58 k58;have F59:=bR (st:=jK) l59 c59 k59;have F60:=bR (st:=fO) l60 c60 k60;have F61:=bR (st:=rL) l61 c61 k61;have F62:=bR (st:=gM) l62 c62 k62;have F63:=bR (st:=oE) l63 c63 k63;have F64:=bR (st:=Cr) l64 c64 k64;have F65:=bR (st:=yW) l65 c65 k65;have F66:=bR (st:=jR) l66 c66 k66;have F67:=bR (st:=kY) l67 c67 k67;have F68:=bR (st:=iO) l68 c68 k68;have F69:=bR (st:=fN) l69 c69 k69;have F70:=bR (st:=Cq) l70 c70 k70
 have T:Txt K mg { tP:=f0,tm:=_,qE:=f1,pS:=_,qq:=f2,pN:=_,tH:=f3,sV:=_,i5:=f4,iV:=_,qC:=f5,pQ:=_,yG:=f6,yu:=_,mI:=f7,me:=_,ic:=f8,ia:=_,qA:=f9,pO:=_,ib:=f10,h9:=_,jx:=f11,jv:=_,nY:=f12,nH:=_,v9:=f13,vT:=_,nZ:=f14,nJ:=_,Au:=f15,Ao:=_,yF:=f16,yt:=_,v5:=f17,vQ:=_,vZ:=f18,vP:=_,v8:=f19,vS:=_,nX:=f20,nG:=_,mF:=f21,lY:=_,nV:=f22,nE:=_,qL:=f23,pZ:=_,og:=f24,nM:=_,qM:=f25,p5:=_,tK:=f26,sY:=_,tI:=f27,sW:=_,qH:=f28,pV:=_,qG:=f29,pU:=_,we:=f30,vV:=_,oi:=f31,nO:=_,ja:=f32,iW:=_,mK:=f33,mi:=_,tJ:=f34,sX:=_,qJ:=f35,pX:=_,oh:=f36,nN:=_,mJ:=f37,mh:=_,mM:=f38,mo:=_,qK:=f39,pY:=_,oa:=f40,nK:=_,qF:=f41,pT:=_,qN:=f42,p6:=_,oj:=f43,nP:=_,qO:=f44,p9:=_,tO:=f45,td:=_,wd:=f46,vU:=_,oq:=f47,nR:=_,jb:=f48,iX:=_,mL:=f49,mj:=_,kD:=f50,kx:=_,Ei:=f51,D7:=_,qD:=f52,pR:=_,nW:=f53,nF:=_,yE:=f54,yr:=_,mH:=f55,ma:=_,Av:=f56,Ap:=_,mE:=f57,lW:=_,Aw:=f58,Aq:=_,qB:=f59,pP:=_,kF:=f60,kz:=_,yH:=f61,yv:=_,mG:=f62,lZ:=_,v7:=f63,vR:=_,IA:=f64,Ir:=_,Ej:=f65,D9:=_,qI:=f66,pW:=_,tL:=f67,sZ:=_,oo:=f68,nQ:=_,kE:=f69,ky:=_,L8:=fa,LU:=_,a_NOUGHT:=m0,a_ONE:=m1,t_MOST_STATES:=it0,t_MOST_PUTS:=it1,t_MOST_LOOKS:=it2,a_System:=C }:={
  zC:=W.mg_of X G a0
  BE:=F0.binds (ps:=["_law_script"]) fun _ _ _ _ _ _=>by refine Ic ?_;intros;rfl
  xD:=F0
  aT:=W.mg_of X G a1
  br:=F1.binds (ps:=["_law_bag_here","_law_many"]) fun _ _ _ _ _ _=>by refine ln2 ?_;intros;rfl
  be:=F1
  nA:=W.mg_of X G a2
  qg:=F2.binds (ps:=["thing","at","most"]) fun _ _ _ _ _ _=>by refine JJ ?_;intros;rfl
  mW:=F2
  uP:=W.mg_of X G a3
  xy:=F3.binds (ps:=["thing"]) fun _ _ _ _ _ _=>by refine Ic ?_;intros;rfl
  tS:=F3
  h8:=W.mg_of X G a4
  iZ:=F4.binds (ps:=["one","other"]) fun _ _ _ _ _ _=>by refine ln2 ?_;intros;rfl
  fR:=F4
  xX:=W.mg_of X G a5
  zI:=F5.binds (ps:=["thing"]) fun _ _ _ _ _ _=>by refine Ic ?_;intros;rfl
  vn:=F5
  CD:=W.mg_of X G a6
  Fn:=F6.binds (ps:=["thing","many"]) fun _ _ _ _ _ _=>by refine ln2 ?_;intros;rfl
  BJ:=F6
  kr:=W.mg_of X G a7
  mC:=F7.binds (ps:=["things","wide"]) fun _ _ _ _ _ _=>by refine ln2 ?_;intros;rfl
  jq:=F7
  kC:=F8.binds (ps:=["self","move","put","look"]) fun _ _ _ _ _ _=>by refine Qv ?_;intros;rfl
  qQ:=F8
  nB:=W.mg_of X G a9
  qh:=F9.binds (ps:=["row","bottom"]) fun _ _ _ _ _ _=>by refine ln2 ?_;intros;rfl
  mX:=F9
  oX:=W.mg_of X G a10
  qi:=F10.binds (ps:=["wholes"]) fun _ _ _ _ _ _=>by refine Ic ?_;intros;rfl
  kJ:=F10
  iU:=W.mg_of X G a11
  jw:=F11.binds (ps:=["row"]) fun _ _ _ _ _ _=>by refine Ic ?_;intros;rfl
  gI:=F11
  wK:=W.mg_of X G a12
  yx:=F12.binds (ps:=["lines","begin","place"]) fun _ _ _ _ _ _=>by refine JJ ?_;intros;rfl
  tT:=F12
  Bh:=W.mg_of X G a13
  C4:=F13.binds (ps:=["lines","at","place","before"]) fun _ _ _ _ _ _=>by refine Qv ?_;intros;rfl
  zx:=F13
  wM:=W.mg_of X G a14
  yy:=F14.binds (ps:=["lines","at","to"]) fun _ _ _ _ _ _=>by refine JJ ?_;intros;rfl
  tU:=F14
  Bc:=W.mg_of X G a15
  Ed:=F15.binds (ps:=["rows","wide"]) fun _ _ _ _ _ _=>by refine ln2 ?_;intros;rfl
  Ay:=F15
  rQ:=W.mg_of X G a16
  va:=F16.binds (ps:=["top","bottom"]) fun _ _ _ _ _ _=>by refine ln2 ?_;intros;rfl
  rX:=F16
  Be:=W.mg_of X G a17
  C1:=F17.binds (ps:=["rows","wide"]) fun _ _ _ _ _ _=>by refine ln2 ?_;intros;rfl
  zu:=F17
  xp:=W.mg_of X G a18
  zh:=F18.binds (ps:=["one","other"]) fun _ _ _ _ _ _=>by refine ln2 ?_;intros;rfl
  wg:=F18
  Bg:=W.mg_of X G a19
  C3:=F19.binds (ps:=["grid","row"]) fun _ _ _ _ _ _=>by refine ln2 ?_;intros;rfl
  zw:=F19
  rf:=W.mg_of X G a20
  tD:=F20.binds (ps:=["system","rows"]) fun _ _ _ _ _ _=>by refine ln2 ?_;intros;rfl
  ou:=F20
  oV:=W.mg_of X G a21
  rk:=F21.binds (ps:=["system","steps"]) fun _ _ _ _ _ _=>by refine ln2 ?_;intros;rfl
  mN:=F21
  jm:=W.mg_of X G a22
  kB:=F22.binds (ps:=["system","steps"]) fun _ _ _ _ _ _=>by refine ln2 ?_;intros;rfl
  jc:=F22
  ye:=W.mg_of X G a23
  zO:=F23.binds (ps:=["_law_bag_here"]) fun _ _ _ _ _ _=>by refine Ic ?_;intros;rfl
  vz:=F23
  wO:=W.mg_of X G a24
  yA:=F24.binds (ps:=["_law_bag_here"]) fun _ _ _ _ _ _=>by refine Ic ?_;intros;rfl
  tW:=F24
  nC:=W.mg_of X G a25
  qo:=F25.binds (ps:=["_law_bag_here","_law_n"]) fun _ _ _ _ _ _=>by refine ln2 ?_;intros;rfl
  mY:=F25
  fo:=W.mg_of X G a26
  gD:=F26.binds (ps:=["_law_top","_law_bottom"]) fun _ _ _ _ _ _=>by refine ln2 ?_;intros;rfl
  fF:=F26
  mS:=W.mg_of X G a27
  oZ:=F27.binds (ps:=["_law_one","_law_other"]) fun _ _ _ _ _ _=>by refine ln2 ?_;intros;rfl
  lK:=F27
  sQ:=W.mg_of X G a28
  vd:=F28.binds (ps:=["_law_one","_law_other"]) fun _ _ _ _ _ _=>by refine ln2 ?_;intros;rfl
  qP:=F28
  ks:=W.mg_of X G a29
  mT:=F29.binds (ps:=["_law_one","_law_other"]) fun _ _ _ _ _ _=>by refine ln2 ?_;intros;rfl
  j5:=F29
  lD:=W.mg_of X G a30
  oJ:=F30.binds (ps:=["_law_by_here","_law_row_here"]) fun _ _ _ _ _ _=>by refine ln2 ?_;intros;rfl
  lN:=F30
  rg:=W.mg_of X G a31
  tF:=F31.binds (ps:=["_law_bag_here","_law_move_here","_law_put","_law_look"]) fun _ _ _ _ _ _=>by refine Qv ?_;intros;rfl
  ow:=F31
  pH:=W.mg_of X G a32
  rV:=F32.binds (ps:=["_law_bag_here"]) fun _ _ _ _ _ _=>by refine Ic ?_;intros;rfl
  lJ:=F32
  uR:=W.mg_of X G a33
  wY:=F33.binds (ps:=["_law_bag_here","_law_wide"]) fun _ _ _ _ _ _=>by refine ln2 ?_;intros;rfl
  rC:=F33
  pJ:=W.mg_of X G a34
  tE:=F34.binds (ps:=["_law_bag_here","_law_many","_law_wide"]) fun _ _ _ _ _ _=>by refine JJ ?_;intros;rfl
  o6:=F34
  yc:=W.mg_of X G a35
  zM:=F35.binds (ps:=["_law_bag_here","_law_n","_law_way","_law_first","_law_wide"]) fun _ _ _ _ _ _=>by refine SD ?_;intros;rfl
  vv:=F35
  wQ:=W.mg_of X G a36
  yB:=F36.binds (ps:=["_law_bag_here","_law_n","_law_ins","_law_outs","_law_wide"]) fun _ _ _ _ _ _=>by refine SD ?_;intros;rfl
  tY:=F36
  uQ:=W.mg_of X G a37
  wX:=F37.binds (ps:=["_law_bag_here"]) fun _ _ _ _ _ _=>by refine Ic ?_;intros;rfl
  rB:=F37
  kv:=W.mg_of X G a38
  mD:=F38.binds (ps:=["_law_grid"]) fun _ _ _ _ _ _=>by refine Ic ?_;intros;rfl
  jr:=F38
  yd:=W.mg_of X G a39
  zN:=F39.binds (ps:=["_law_parts_here"]) fun _ _ _ _ _ _=>by refine Ic ?_;intros;rfl
  vw:=F39
  wN:=W.mg_of X G a40
  yz:=F40.binds (ps:=["_law_bag_here","_law_parts_here"]) fun _ _ _ _ _ _=>by refine ln2 ?_;intros;rfl
  tV:=F40
  xZ:=W.mg_of X G a41
  zK:=F41.binds (ps:=["_law_one","_law_other"]) fun _ _ _ _ _ _=>by refine ln2 ?_;intros;rfl
  vp:=F41
  yg:=W.mg_of X G a42
  zP:=F42.binds (ps:=["_law_one","_law_other"]) fun _ _ _ _ _ _=>by refine ln2 ?_;intros;rfl
  vA:=F42
  rh:=W.mg_of X G a43
  tG:=F43.binds (ps:=["_law_one","_law_other"]) fun _ _ _ _ _ _=>by refine ln2 ?_;intros;rfl
  ox:=F43
  yh:=W.mg_of X G a44
  zQ:=F44.binds (ps:=["_law_rows","_law_wide"]) fun _ _ _ _ _ _=>by refine ln2 ?_;intros;rfl
  vB:=F44
  zB:=W.mg_of X G a45
  BD:=F45.binds (ps:=["_law_one","_law_other"]) fun _ _ _ _ _ _=>by refine ln2 ?_;intros;rfl
  xC:=F45
  xr:=W.mg_of X G a46
  zi:=F46.binds (ps:=["_law_grid","_law_row_here"]) fun _ _ _ _ _ _=>by refine ln2 ?_;intros;rfl
  wo:=F46
  wV:=W.mg_of X G a47
  yD:=F47.binds (ps:=["_law_parts_here","_law_steps_here"]) fun _ _ _ _ _ _=>by refine ln2 ?_;intros;rfl
  t9:=F47
  pK:=W.mg_of X G a48
  rW:=F48.binds (ps:=["_law_thing"]) fun _ _ _ _ _ _=>by refine Ic ?_;intros;rfl
  lM:=F48
  uS:=W.mg_of X G a49
  wZ:=F49.binds (ps:=["_law_thing","_law_many"]) fun _ _ _ _ _ _=>by refine ln2 ?_;intros;rfl
  rD:=F49
  m7:=W.mg_of X G a50
  o5:=F50.binds (ps:=["_law_thing","_law_many","_law_wide"]) fun _ _ _ _ _ _=>by refine JJ ?_;intros;rfl
  kK:=F50
  HX:=W.mg_of X G a51
  L6:=F51.binds (ps:=["lists"]) fun _ _ _ _ _ _=>by refine Ic ?_;intros;rfl
  Ht:=F51
  xY:=W.mg_of X G a52
  zJ:=F52.binds (ps:=["system","steps"]) fun _ _ _ _ _ _=>by refine ln2 ?_;intros;rfl
  vo:=F52
  lV:=W.mg_of X G a53
  nU:=F53.binds (ps:=["many"]) fun _ _ _ _ _ _=>by refine Ic ?_;intros;rfl
  kI:=F53
  y8:=W.mg_of X G a54
  BB:=F54.binds (ps:=["rows","wide","due"]) fun _ _ _ _ _ _=>by refine JJ ?_;intros;rfl
  yI:=F54
  ko:=W.mg_of X G a55
  mB:=F55.binds (ps:=["grid","wide"]) fun _ _ _ _ _ _=>by refine ln2 ?_;intros;rfl
  jo:=F55
  E6:=W.mg_of X G a56
  Iw:=F56.binds (ps:=["rows","wide","due"]) fun _ _ _ _ _ _=>by refine JJ ?_;intros;rfl
  Eo:=F56
  uO:=W.mg_of X G a57
  wW:=F57.binds (ps:=["rows","wide","row"]) fun _ _ _ _ _ _=>by refine JJ ?_;intros;rfl
  rA:=F57
  E7:=W.mg_of X G a58
  Iy:=F58.binds (ps:=["one","other"]) fun _ _ _ _ _ _=>by refine ln2 ?_;intros;rfl
  Ep:=F58
  xW:=W.mg_of X G a59
  zH:=F59.binds (ps:=["one","other"]) fun _ _ _ _ _ _=>by refine ln2 ?_;intros;rfl
  vm:=F59
  uj:=⟨a60,i60,k60⟩
  vf:=F60.binds (ps:=["self","state","puts"]) fun _ _ _ _ _ _=>by refine JJ ?_;intros;rfl
  vC:=F60
  CG:=W.mg_of X G a61
  Fo:=F61.binds (ps:=["system","start","puts"]) fun _ _ _ _ _ _=>by refine JJ ?_;intros;rfl
  BK:=F61
  oW:=W.mg_of X G a62
  rn:=F62.binds (ps:=["system","steps"]) fun _ _ _ _ _ _=>by refine ln2 ?_;intros;rfl
  mO:=F62
  Bf:=W.mg_of X G a63
  C2:=F63.binds (ps:=["system","start","goal","steps"]) fun _ _ _ _ _ _=>by refine Qv ?_;intros;rfl
  zv:=F63
  Le:=W.mg_of X G a64
  OE:=F64.binds (ps:=["row","many","wide"]) fun _ _ _ _ _ _=>by refine JJ ?_;intros;rfl
  Mb:=F64
  HY:=W.mg_of X G a65
  L7:=F65.binds (ps:=["system","start","goal","steps"]) fun _ _ _ _ _ _=>by refine Qv ?_;intros;rfl
  Hu:=F65
  ya:=W.mg_of X G a66
  zL:=F66.binds (ps:=["_law_parts_here","_law_state","_law_puts"]) fun _ _ _ _ _ _=>by refine JJ ?_;intros;rfl
  vq:=F66
  zA:=W.mg_of X G a67
  BC:=F67.binds (ps:=["_law_parts_here","_law_start","_law_rows"]) fun _ _ _ _ _ _=>by refine JJ ?_;intros;rfl
  xB:=F67
  wU:=W.mg_of X G a68
  yC:=F68.binds (ps:=["_law_parts_here","_law_start","_law_goal","_law_steps_here","_law_puts"]) fun _ _ _ _ _ _=>by refine SD ?_;intros;rfl
  tZ:=F68
  ui:=W.mg_of X G a69
  ve:=F69.binds (ps:=["_law_system_here","_law_parts_here","_law_rows","_law_steps_here"]) fun _ _ _ _ _ _=>by refine Qv ?_;intros;rfl
  o7:=F69
  OI:=F70
  abs:=W.mg_none_of X G z_abs
  len:=W.mg_none_of X G z_len
  isinstance:=W.mg_none_of X G z_isinstance
  list:=W.mg_none_of X G z_list
  int:=W.mg_none_of X G z_int
  bool:=W.mg_none_of X G z_bool
  tuple:=W.mg_none_of X G z_tuple
  all:=W.mg_none_of X G z_all
  enumerate:=W.mg_none_of X G z_enumerate
  range:=W.mg_none_of X G z_range
  zip:=W.mg_none_of X G z_zip
  sum:=W.mg_none_of X G z_sum
  max:=W.mg_none_of X G z_max
  min:=W.mg_none_of X G z_min
  reversed:=W.mg_none_of X G z_reversed
  mg_NOUGHT:=W.mg_of X G ca0
  sq_NOUGHT:=fun H=>.inr ⟨_,_,_,cl0,rfl,rfl,j7 rfl,.cons ⟨_,rfl⟩ (.cons ⟨_,rfl⟩ (.nil))⟩
  mg_ONE:=W.mg_of X G ca1
  sq_ONE:=fun H=>.inr ⟨_,_,_,cl1,rfl,rfl,j7 rfl,.cons ⟨_,rfl⟩ (.cons ⟨_,rfl⟩ (.nil))⟩
  mg_MOST_STATES:=W.mg_of X G ci0
  mg_MOST_PUTS:=W.mg_of X G ci1
  mg_MOST_LOOKS:=W.mg_of X G ci2
  mg_System:=W.mg_of X G aC
  cl_System:=⟨pg,hd,po,sa⟩
  na_move:=n_move
  na_states:=n_states
  na_put:=n_put
  na_ins:=n_ins
  na_look:=n_look
  na_outs:=n_outs
  mk_System:=⟨mk,a8,i8,kc⟩ }
 exact ⟨_,fun s v=>.of_eq rfl,fun base _ _=>PM T⟩
theorem walk {l:W.OpenLaw} {q:Program} {loose:List Str} {XP:(Str->Option Value)->Heap->Prop} {YP:World->Heap->Prop} {d:DefRec} {K:Params->W.Frag} (hn:l.most=some 63) (hdf:d.params.defaults=[])
  (hY:∀(w:World) (h:Heap),YP w h->(K w.params).In h)
  (F:∀(w:World) (mg:Str->Option Value) (fa:Addr) (h:Heap),(K w.params).In h->h.Ns mainGlobals mg->mg d.name=some (.ref fa) →
   ∃fd:FuncData,(∀(s:Shared) (u:Value),BindsTo s fd ⟨[u],[]⟩ [("_law_script",u)])/\∀base:Heap,(K w.params).In base->base.Ns mainGlobals mg->cU l.prog w (K w.params) mg base gE 10 fa fd ["_law_script"] (Di (K w.params))) :
  W.WalkO q loose XP YP l.row.toRowW d [] (fun f vs=>PySem.call f vs) :=
 L2.Mn (n:=63) (k:=10) (x:="_law_script") (CX:=fun _=>gE) (sp:=fun w=>Di (K w.params)) hn (by decide) hdf ⟨rfl,by decide,by decide⟩ hY F (fun _ _ a ns hl _ hS=>⟨a,ns,rfl,hS,hl,fun _=>rfl⟩) fun _ _ _ _ _ z=>z
end Lw
namespace PySem.W.Fast
def tw16921986095879942564:=()
def tw6027980885671393602:=()
def tw12281045418890623680:=()
def tw16656600038225548169:=()
def tw879035050612434169:=()
def tw7929973880907577372:=()
def tw7090321144146212185:=()
def tw17984348024413592261:=()
def tw4795343806861529484:=()
def tw3200049981644083590:=()
def tw6721330882170397489:=()
def tw1350796831566989715:=()
def tw4687560691387620916:=()
def tw5912292144846424426:=()
def tw15821456135717320425:=()
def tw7665139445501768866:=()
def tw3192987471050408556:=()
def tw59832755304550506:=()
def tw47996620251052199:=()
def tw16028440607983637477:=()
def tw2200552546433113765:=()
def tw6320925606258773078:=()
def tw12205569811664109437:=()
def tw5610636290749619595:=()
def tw4391020032586817103:=()
def tw6067299674940074111:=()
def tw10808849401185181472:=()
def tw10029410583873699723:=()
def tw9486605127572960635:=()
def tw1811038022468372349:=()
def tw5829315877180119666:=()
def tw18000132824050219988:=()
def tw9533433023584713313:=()
def tw10813928610851437674:=()
def tw327420443469299151:=()
def tw14706974716290650494:=()
def tw9038236382138783924:=()
def tw3501236814003655889:=()
def tw7390659515304093421:=()
def tw17131226010826398095:=()
def tw3235813400673678083:=()
def tw6687965998819760612:=()
def tw9440466764715287799:=()
def tw14858820049276943211:=()
def tw18305766314360854406:=()
def tw7695266522728217390:=()
def tw10269942853301049755:=()
def tw8782810420282801514:=()
def tw5647670162015138179:=()
def tw13227227058929167801:=()
def tw17034072351691835665:=()
def tw9020998352158670614:=()
def tw18434230693495695510:=()
def tw2699763000747685685:=()
def tw14090513431665224719:=()
def tw8975292789188808921:=()
def tw2801666145956942304:=()
def tw17048900819070424697:=()
def tw15068802024187350444:=()
def tw5597830242581324687:=()
def tw1344522277709749784:=()
def tw9201465565260935322:=()
def tw8605899878525222820:=()
def tw7749630054297572865:=()
def tw2908794348121067698:=()
def tw15616923499648872247:=()
def tw9979726200872543578:=()
def tw9793619615503666733:=()
def tw6641189103552203194:=()
def tw9358361841264006152:=()
def tw843836244549388181:=()
def tw4595635611927005556:=()
def tw7750429304142391360:=()
def tw6839845357948972630:=()
def tw17348389098473157614:=()
def tw5116986428489160689:=()
def tw14791558900258668311:=()
def tw17630219281496456505:=()
def tw9033835748069897399:=()
def tw6508243166363433893:=()
def tw10274444659889916512:=()
def tw18117354691466412065:=()
def tw14406970206901914385:=()
def tw8702367648782216080:=()
def tw14579255362376283702:=()
def tw494690876203190030:=()
def tw17281154714550032000:=()
def tw17818780786732702462:=()
def tw16013718412208876617:=()
def tw9739061192343506605:=()
def tw14001997292972136048:=()
def tw14516616060837346301:=()
def tw6601054757955572987:=()
def tw6559780044393585957:=()
def tw9031994835818280109:=()
def tw6157336974052427628:=()
def tw9518865279556490061:=()
def tw6567158985573005861:=()
def tw6894661435312824814:=()
def tw14064505972321499732:=()
def tw10300311021863334747:=()
def tw1318715515514024559:=()
def tw16199078828831827614:=()
def tw18415371515973402440:=()
def tw17831971798217641988:=()
def tw7881142303374925481:=()
def tw17043379999335400278:=()
def tw5596640378692543224:=()
def tw915888256206320584:=()
def tw17455264276905087280:=()
def tw17350541645889370355:=()
def tw11508283650903189797:=()
def tw5884948192114869305:=()
def tw6227155642973278628:=()
def tw165707175786642467:=()
def tw6849828858502340666:=()
def tw10232780942484800937:=()
def tw1182357989655377280:=()
def tw11699246842955250457:=()
def tw17355265475752750521:=()
def tw13728538616336885078:=()
def tw6619227197732433258:=()
def tw480146566700872191:=()
def tw6653830528794042882:=()
def tw11708132398644679026:=()
def tw12829154484057044289:=()
def tw14127008473453242440:=()
def tw9013086164713071652:=()
def tw14818900982793431378:=()
def tw11277259512453035258:=()
def tw6401404349898706937:=()
def tw6137354588160877580:=()
def tw3928123249429932249:=()
def tw5441669924412358749:=()
def tw9405390554112247978:=()
def tw8154193720248742943:=()
def tw10131672982163948165:=()
def tw5432706947554840511:=()
def tw9474266476103677539:=()
def tw15897667861338762631:=()
def tw17656109856540649328:=()
def tw5591841850832200177:=()
def tw286121441219583872:=()
def tw9320458608840881377:=()
def tw16339406395645178747:=()
def tw8638356386796613627:=()
def tw11115350015206607929:=()
def tw15321974295354911926:=()
def tw7150841740787667900:=()
def tw7184083166796972932:=()
def tw6343351953740378807:=()
def tw15173178198565351749:=()
def tw5262455614838468060:=()
def tw13630332276038059878:=()
def tw11719988449486006119:=()
def tw207843766638851196:=()
def tw8840380373718025177:=()
def tw4563743221051405593:=()
def tw12677168077727651690:=()
def tw8430352808287329981:=()
def tw15387441171461731910:=()
def tw7063680441495871876:=()
def tw16169988709589581453:=()
def tw12196557761471710209:=()
def tw15137206148481585061:=()
def tw18034916479317023092:=()
def tw17876176970451340569:=()
def tw775983358799000112:=()
def tw13762952179263616069:=()
def tw9073138702285397908:=()
def tw10284489472666567614:=()
def tw11588394150979257766:=()
def tw15990167976260299910:=()
def tw17974113051982563123:=()
def tw3203779374638438245:=()
def tw6582947171956001729:=()
def tw9270193964835543254:=()
def tw1301624665369836436:=()
def tw13539234507264336228:=()
def tw11810755196952646121:=()
def tw12628637479655529791:=()
def tw6609186163546034722:=()
def tw16529856146001099704:=()
def tw13397342088558054037:=()
def tw7806760280487492836:=()
def tw172388585459865502:=()
def tw1240448784101257075:=()
def tw9288866246817089003:=()
def tw3164889986575890387:=()
def tw4404864106745687729:=()
def tw2587461139469629850:=()
def tw7980307948412513359:=()
def tw15148322132147290299:=()
def tw16759558938605725321:=()
def tw7774732397755576954:=()
def tw11394779818206377021:=()
def tw13521785856164311483:=()
def tw5556936652101943084:=()
def tw16228695352209100421:=()
def tw3753867496102606394:=()
def tw7988988564720542152:=()
def tw8623140143108202174:=()
def tw2314651154541656394:=()
def tw7342078592710286741:=()
def tw11217704740026873612:=()
def tw11072995872673975897:=()
def tw8467268070149419826:=()
def tw11723264307074533785:=()
def tw8229354608649125136:=()
def tw16606415462810936313:=()
def tw1188477166523310581:=()
def tw16260603000610521371:=()
def tw5853684055548827868:=()
def tw11014185489345262148:=()
def tw3067536243398184071:=()
def tw14500504709163219626:=()
def tw9778640380412630043:=()
def tw4454629472275795849:=()
def tw10805397827020006688:=()
def tw12700148049142915448:=()
def tw1792412539842983317:=()
def tw8640732068599748590:=()
def tw9177184003388877999:=()
def tw10558707538787216359:=()
def tw2735443906340791141:=()
def tw4967850955720489926:=()
def tw6279466241609293824:=()
def tw17910545718379797049:=()
def tw8037646750351145290:=()
def tw7144261637127956483:=()
def tw3517216901868977729:=()
def tw9824094493900925376:=()
def tw6415049654462250448:=()
def tw9372651527763519390:=()
def tw2723199057159263940:=()
def tw16206119105600145681:=()
def tw4081886089020790888:=()
def tw5995352176252063127:=()
def tw15968388716569973535:=()
def tw6574894128738311646:=()
def tw5381248775335672450:=()
def tw15532967804722069484:=()
def tw2479443484157394575:=()
def tw217610942815499590:=()
def tw3962256276159006676:=()
def tw8432400119415854563:=()
def tw13715103625855666244:=()
def tw16114850777173409473:=()
def tw3125414295508421105:=()
def tw10582779739315508951:=()
def tw3794149619134335085:=()
def tw15524619608316800950:=()
def tw14276590614587646514:=()
def tw15546245748867231835:=()
def tw8649978803454450623:=()
def tw18120970447008019380:=()
def tw12103338726758412318:=()
def tw16348824575462047423:=()
def tw17308979741622904401:=()
def tw15650072518957958070:=()
def tw9318739167983237239:=()
def tw9548019695219438747:=()
def tw18091420274270623429:=()
def tw4474402334593846490:=()
def tw15184234570977683442:=()
def tw11744211032907451025:=()
def tw6476567760727487674:=()
def tw10715558689568938834:=()
def tw7862612661154054552:=()
def tw2747375754580338712:=()
def tw14959107267854149043:=()
def tw6898145551583967131:=()
def tw7581859512781615792:=()
def tw328762547677173601:=()
def tw4002074831846975351:=()
def tw11392037131151310474:=()
def tw10604500400329845975:=()
def tw17420766069237150356:=()
def tw18430149614569854270:=()
def tw4697293345176633021:=()
def tw480998544952751753:=()
def tw2659647337013356228:=()
def tw9884779736625303641:=()
def tw6394435827097679502:=()
def tw5749018967849679330:=()
def tw14666207464356833222:=()
def tw5700470814526080467:=()
def tw7510308578277656303:=()
def tw5231999961389413986:=()
def tw5999393337591327864:=()
def tw4322993461778398187:=()
def tw12477620726123587982:=()
def tw5818470539383938779:=()
def tw12580805939822315967:=()
def tw4407232207110245730:=()
def tw1952641146922773081:=()
def tw12993333241684311394:=()
def tw4859470412212305885:=()
def tw5523861827018842107:=()
def tw15785884728149295615:=()
def tw12412922713495666118:=()
def tw1597195887679725436:=()
def tw10644524069668510989:=()
def tw5312108356495611347:=()
def tw13726832197470731749:=()
def tw6352055297517882200:=()
def tw15183090590726678586:=()
def tw14801692204967676635:=()
def tw10843869455141693607:=()
def tw15905647050471343610:=()
def tw1058636153927581327:=()
def tw2115710622660259310:=()
def tw10756445100514501461:=()
def tw9532583177627103372:=()
def tw11592210164796353429:=()
def tw13867831376452671268:=()
def tw10518482524842841729:=()
def tw3954759759356522489:=()
def tw11812546689443525800:=()
def tw15725765668900750607:=()
def tw9658370096031248456:=()
def tw8750745374292849170:=()
def tw14458681453421239167:=()
def tw8306904755489698488:=()
def tw9417186877114504472:=()
def tw3854954366122021863:=()
def tw8436716555061200065:=()
def tw17053829575207606736:=()
def tw12210970150684383879:=()
def tw15132665155095363105:=()
def tw2529051366118913425:=()
def tw4238034353787455994:=()
def tw4958414463905096330:=()
def tw10808393236580610466:=()
def tw3227433997273633407:=()
def tw18070136981789663295:=()
def tw15360557185667257252:=()
def tw15680943110812324271:=()
def tw20509842564146195:=()
def tw3505423648837500835:=()
def tw4243081583574018900:=()
def tw17829295442711526265:=()
def tw127990404227896040:=()
def tw9380189427503865040:=()
def tw5773294861383907793:=()
def tw1988798422190460159:=()
def tw5186786167474671265:=()
def tw16326106885618064395:=()
def tw5378135687962688385:=()
def tw3469418789659413466:=()
def tw16068376027127119400:=()
def tw7383425308289654957:=()
def tw12791344697985828377:=()
def tw6801026224711825056:=()
def tw6131164151130330404:=()
def tw1296359577811380294:=()
def tw9553203198045265850:=()
def tw3506712246089971128:=()
def tw4568362974145269778:=()
def tw11924091024767676188:=()
def tw12382713528051159028:=()
def tw7888589435120897360:=()
def tw501141141124159501:=()
def tw3099699367967126385:=()
def tw16720599008112852620:=()
def tw10069248666196671796:=()
def tw32638539127847692:=()
def tw9637513336608847997:=()
def tw10874366646524775818:=()
def tw17057468307389912061:=()
def tw18082838439106943588:=()
def tw7165190962993551818:=()
def tw6763074191650639821:=()
def tw5929889021627642062:=()
def tw6435892405534476350:=()
def tw3433275228903207562:=()
def tw8041521629893570155:=()
def tw6559304238216623906:=()
def tw3491768857762786194:=()
def tw8639432685932592236:=()
def tw11723311524323687850:=()
def tw14726977792423188480:=()
def tw3522806487164293489:=()
def tw16857286437999224274:=()
def tw18015362123371933834:=()
def tw16912604220708878811:=()
def tw11777710075792217829:=()
def tw5471345761620123007:=()
def tw8717736148000669392:=()
def tw12057364735851825308:=()
def tw10597892502087966605:=()
def tw2323040827157712925:=()
def tw8364946001476526023:=()
def tw13392553570678920428:=()
def tw27436906418586544:=()
def tw18267688771367376620:=()
def tw12584638779279117744:=()
def tw15811710617752145801:=()
def tw9765286402316910808:=()
def tw8856746231017915704:=()
def tw12458654533448342624:=()
def tw5595133421040873751:=()
def tw13487342050842052852:=()
def tw7309736784404568906:=()
def tw11560267398792769379:=()
def tw5632219264198353524:=()
def tw15430072487565083842:=()
def tw7906913023654067751:=()
def tw14770983971795986134:=()
def tw8802330116993586394:=()
def tw8115388828662213071:=()
def tw7690588772383691366:=()
def tw4145609746725745412:=()
def tw9930964608594203085:=()
def tw3812788839654400703:=()
def tw8954771870717438140:=()
theorem te16921986095879942564:True:=trivial
end PySem.W.Fast
open PySem PySem.W PyProof.Rows
set_option maxRecDepth 100000 in
set_option maxHeartbeats 0 in
theorem PySem.Challenge.cw_helmsum_k41_reach_rows_holds : PySem.Challenge.rw_helmsum_k41_reach_rows.Holds := by
 w_on;o_law;k_head;(case hw=>w_witness2)
 k_fill
 refine Lw.walk (l:=PySem.Challenge.rw_helmsum_k41_reach_rows) rfl rfl (fun w h Y=>PySem.W.kIn_of Y) ?F
 case F =>
  intro w mg fa h KX G hmg;refine' Lw.all_mk KX G hmg ?aC ?a0 ?l0 ?c0 ?k0 ?a1 ?l1 ?c1 ?k1 ?a2 ?l2 ?c2 ?k2 ?a3 ?l3 ?c3 ?k3 ?a4 ?l4 ?c4 ?k4 ?a5 ?l5 ?c5 ?k5 ?a6 ?l6 ?c6 ?k6 ?a7 ?l7 ?c7 ?k7 ?a8 ?i8 ?l8 ?c8 ?k8 ?a9 ?l9 ?c9 ?k9 ?a10 ?l10 ?c10 ?k10 ?a11 ?l11 ?c11 ?k11 ?a12 ?l12 ?c12 ?k12 ?a13 ?l13 ?c13 ?k13 ?a14 ?l14 ?c14 ?k14 ?a15 ?l15 ?c15 ?k15 ?a16 ?l16 ?c16 ?k16 ?a17 ?l17 ?c17 ?k17 ?a18 ?l18 ?c18 ?k18 ?a19 ?l19 ?c19 ?k19 ?a20 ?l20 ?c20 ?k20 ?a21 ?l21 ?c21 ?k21 ?a22 ?l22 ?c22 ?k22 ?a23 ?l23 ?c23 ?k23 ?a24 ?l24 ?c24 ?k24 ?a25 ?l25 ?c25 ?k25 ?a26 ?l26 ?c26 ?k26 ?a27 ?l27 ?c27 ?k27 ?a28 ?l28 ?c28 ?k28 ?a29 ?l29 ?c29 ?k29 ?a30 ?l30 ?c30 ?k30 ?a31 ?l31 ?c31 ?k31 ?a32 ?l32 ?c32 ?k32 ?a33 ?l33 ?c33 ?k33 ?a34 ?l34 ?c34 ?k34 ?a35 ?l35 ?c35 ?k35 ?a36 ?l36 ?c36 ?k36 ?a37 ?l37 ?c37 ?k37 ?a38 ?l38 ?c38 ?k38 ?a39 ?l39 ?c39 ?k39 ?a40 ?l40 ?c40 ?k40 ?a41 ?l41 ?c41 ?k41 ?a42 ?l42 ?c42 ?k42 ?a43 ?l43 ?c43 ?k43 ?a44 ?l44 ?c44 ?k44 ?a45 ?l45 ?c45 ?k45 ?a46 ?l46 ?c46 ?k46 ?a47 ?l47 ?c47 ?k47 ?a48 ?l48 ?c48 ?k48 ?a49 ?l49 ?c49 ?k49 ?a50 ?l50 ?c50 ?k50 ?a51 ?l51 ?c51 ?k51 ?a52 ?l52 ?c52 ?k52 ?a53 ?l53 ?c53 ?k53 ?a54 ?l54 ?c54 ?k54 ?a55 ?l55 ?c55 ?k55 ?a56 ?l56 ?c56 ?k56 ?a57 ?l57 ?c57 ?k57 ?a58 ?l58 ?c58 ?k58 ?a59 ?l59 ?c59 ?k59 ?a60 ?i60 ?l60 ?c60 ?k60 ?a61 ?l61 ?c61 ?k61 ?a62 ?l62 ?c62 ?k62 ?a63 ?l63 ?c63 ?k63 ?a64 ?l64 ?c64 ?k64 ?a65 ?l65 ?c65 ?k65 ?a66 ?l66 ?c66 ?k66 ?a67 ?l67 ?c67 ?k67 ?a68 ?l68 ?c68 ?k68 ?a69 ?l69 ?c69 ?k69 ?a70 ?l70 ?c70 ?k70 ?ca0 ?cl0 ?ca1 ?cl1 ?ci0 ?ci1 ?ci2 ?pg ?hd ?po ?sa ?mk ?kc ?n_move ?n_states ?n_put ?n_ins ?n_look ?n_outs ?z_abs ?z_len ?z_isinstance ?z_list ?z_int ?z_bool ?z_tuple ?z_all ?z_enumerate ?z_range ?z_zip ?z_sum ?z_max ?z_min ?z_reversed
  all_goals try k_is