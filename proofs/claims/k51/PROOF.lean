import PyProof.Rows.All
import Wide.All
import OpenK.AllK
import Wide.FinOn
import Lean
import PyProof.EqAt
import PyProof.EqKinds
import PyProof.TupleCall
import PyProof.NeKinds
import PySem.Challenge.RW_helmsum_k51_unseen_rows
set_option Elab.async false
set_option linter.all false
set_option maxRecDepth 100000
abbrev aa:=@List.getD_eq_getElem?_getD
abbrev ag:=@List.getElem?_eq_getElem
abbrev ah:=@Nat.le_trans
abbrev aj:=@List.length_map
abbrev ao:=@List.length_append
abbrev ar:=@Nat.le_refl
abbrev au:=@Nat.pow_le_pow_right
abbrev aw:=@List.mem_append
abbrev ay:=@List.mem_of_getElem?
abbrev aA:=@List.mem_map
abbrev aB:=@List.mem_cons
abbrev aD:=@Nat.mul_le_mul_right
abbrev aE:=@List.getElem?_eq_some_iff
abbrev aI:=@List.size_toArray
abbrev aJ:=@List.getElem?_map
abbrev aK:=@Nat.mul_le_mul
abbrev aL:=@List.not_mem_nil
abbrev aM:=@Rat.intCast_mul
abbrev aN:=@List.take_of_length_le
abbrev aQ:=@List.length_cons
abbrev aR:=@List.getElem?_eq_none
abbrev aT:=@Nat.zero_le
abbrev aU:=@Rat.intCast_natCast
abbrev aW:=@Nat.lt_of_le_of_lt
abbrev aX:=@Bool.false_ne_true
abbrev bc:=@List.length_singleton
abbrev bg:=@PySem.boot_len
abbrev bw:=@Nat.lt_of_lt_of_le
abbrev bC:=@Nat.le_of_lt
abbrev bE:=@List.getElem_mem
abbrev bG:=@Nat.one_le_two_pow
abbrev bL:=@Nat.mul_le_mul_left
abbrev bM:=@Nat.pow_add
abbrev bN:=@List.mem_cons_of_mem
abbrev bQ:=@List.mem_append_right
abbrev bU:=@Int.eq_ofNat_of_zero_le
abbrev bV:=@Nat.lt_or_ge
abbrev bW:=@List.append_assoc
abbrev bY:=@Option.some.inj
abbrev b7:=@List.getElem?_append_right
abbrev cg:=@List.getElem_of_mem
abbrev cp:=@Int.fdiv_eq_ediv_of_nonneg
abbrev cv:=@List.mem_or_eq_of_mem_set
abbrev cw:=@Nat.ne_of_lt
abbrev cx:=@Nat.mul_comm
abbrev cz:=@Nat.not_lt_zero
abbrev cE:=@List.mem_singleton
abbrev cF:=@Int.natAbs_natCast
abbrev cH:=@List.map_append
abbrev cJ:=@Nat.mul_assoc
abbrev cN:=@List.nodup_append
abbrev cO:=@List.length_range
abbrev cS:=@List.mem_of_mem_take
abbrev cT:=@List.mem_cons_self
abbrev cW:=@Rat.intCast_neg
abbrev cX:=@PySem.W.kia_one
abbrev cY:=@List.nil_append
abbrev dc:=@Nat.succ_le_succ
abbrev dd:=@List.getElem?_append_left
abbrev di:=@Int.mul_assoc
abbrev dk:=@Rat.intCast_inj
abbrev dn:=@PySem.F.plainAttrs_list
abbrev dq:=@Nat.mul_pos
abbrev dr:=@Nat.le_mul_of_pos_right
abbrev dt:=@List.length_take
abbrev dw:=@Bool.and_eq_true
abbrev dF:=@Nat.lt_irrefl
abbrev dJ:=@List.map_congr_left
abbrev dQ:=@List.nodup_cons
abbrev dS:=@List.drop_eq_getElem_cons
abbrev dX:=@Int.natAbs_dvd_natAbs
abbrev d9:=@List.cons_append
abbrev eh:=@Int.gcd_dvd_left
abbrev eC:=@Nat.pow_lt_pow_right
abbrev eE:=@Int.natAbs_mul
abbrev eL:=@Nat.lt_trichotomy
abbrev eN:=@Int.gcd_dvd_right
abbrev eO:=@List.length_set
abbrev eZ:=@Nat.le_mul_of_pos_left
abbrev e8:=@Int.mul_comm
abbrev fh:=@List.map_cons
abbrev fu:=@Bool.false_eq_true
abbrev fG:=@List.getElem?_zipWith
abbrev gE:=@Rat.mul_comm
abbrev gJ:=@PySem.F.type_list_append
abbrev gK:=@PySem.F.slot_list_append
abbrev ir:=@List.length_zipWith
abbrev iw:=@Nat.lt_succ_self
abbrev iN:=@Nat.mul_add
abbrev iO:=@Int.mul_pos
abbrev iY:=@Nat.pow_succ
abbrev iZ:=@Int.emod_lt_of_pos
abbrev jy:=@List.append_nil
abbrev jz:=@Nat.le_of_dvd
abbrev kT:=@PySem.IsL.update
abbrev kU:=@List.lookup_cons
abbrev kW:=@List.ext_getElem
abbrev kX:=@Int.gcd_comm
abbrev lC:=@PySem.F.plain_extend_loop
abbrev lD:=@PySem.mem_of_lookup
abbrev lE:=@Nat.pow_le_pow_left
abbrev lF:=@List.getElem?_range
abbrev mN:=@List.range_succ
abbrev mO:=@List.mem_filter
abbrev mP:=@Int.emod_nonneg
abbrev mQ:=@Bool.eq_iff_iff
abbrev m3:=@Nat.eq_zero_or_pos
abbrev nG:=@List.getElem?_replicate
abbrev nH:=@Int.natCast_dvd_natCast
abbrev nI:=@Int.dvd_mul_of_dvd_left
abbrev oC:=@Rat.mul_zero
abbrev oE:=@List.mem_range
abbrev oF:=@Int.natAbs_neg
abbrev pG:=@PySem.F.slot_zip_next
abbrev pH:=@List.getElem_map
abbrev pI:=@List.all_eq_true
abbrev rg:=@List.mem_append_left
abbrev tE:=@Nat.succ_mul
abbrev tF:=@Nat.sub_self
abbrev tG:=@Nat.add_comm
abbrev tH:=@List.map_map
abbrev tI:=@Int.zero_add
abbrev ui:=@Int.eq_of_mul_eq_mul_right
abbrev uK:=@Int.mul_neg_of_pos_of_neg
abbrev vK:=@Nat.pow_mul
abbrev vL:=@Nat.lt_succ_of_lt
abbrev vM:=@List.map_id
abbrev vO:=@List.getElem?_take_of_lt
abbrev xg:=@Rat.intCast_eq_zero_iff
abbrev xO:=@PySem.W.cellsFrom_some
abbrev yV:=@Rat.natCast_mul
abbrev yW:=@Rat.intCast_sub
abbrev yX:=@Rat.intCast_add
abbrev yY:=@List.length_zip
abbrev y4:=@Bool.beq_eq_decide_eq
abbrev Ag:=@Nat.pow_pos
abbrev Ah:=@Nat.le_succ
abbrev Ai:=@Nat.add_le_add_right
abbrev Aj:=@List.replicate_succ'
abbrev Ak:=@List.nodup_nil
abbrev Al:=@List.forIn_nil
abbrev Bo:=@PySem.W.plainGet_of
abbrev Bp:=@List.filterMap_cons
abbrev Cy:=@Int.natAbs_eq
abbrev Cz:=@List.getElem_range
abbrev CA:=@List.append_of_mem
abbrev Ex:=@Rat.add_zero
abbrev Ey:=@Nat.ne_of_gt
abbrev Ez:=@List.ext_getElem?
abbrev EA:=@Int.dvd_refl
abbrev FD:=@Nat.min_le_right
abbrev FE:=@Nat.dvd_mul_left
abbrev Ia:=@Nat.one_mul
abbrev Ib:=@Nat.add_mul
abbrev Ic:=@Int.dvd_gcd
abbrev Ih:=@Rat.mul_eq_zero
abbrev Ii:=@Nat.le_antisymm
abbrev Ij:=@List.of_mem_zip
abbrev Ik:=@List.forIn_cons
abbrev Il:=@Int.gcd_pos_of_ne_zero_right
abbrev Km:=@List.length_eraseIdx_of_lt
abbrev LO:=@PySem.F.entry_extend_loop
abbrev LP:=@List.getElem?_zip_eq_some
abbrev LQ:=@Int.natAbs_ediv_of_nonneg
abbrev LU:=@Option.isSome_iff_exists
abbrev LV:=@List.mem_of_mem_eraseIdx
abbrev MY:=@PySem.F.args_zip_next_1
abbrev MZ:=@List.filter_cons_of_pos
abbrev M5:=@List.filter_cons_of_neg
namespace L2
open PySem PySem.Spec PyProof.Rows
abbrev Key:=Sum Int Str
def J7:Key->Value->Bool
 | .inl k,v=>Value.isInt k v
 | .inr x,v=>Value.isStrOf x v
def Nq (w:World):Key->Int
 | .inl k=>hashInt k
 | .inr x=>hashStr w x
theorem eK:∀{k:Key} {v:Value},J7 k v=true->(∃i t,k=Sum.inl i/\v=Value.int i t)\/(∃x t,k=Sum.inr x/\v=Value.str x t)
 | .inl i,v,h=>by
  obtain ⟨t,e⟩:=Value.isInt_shape (k:=i) (v:=v) h;exact .inl ⟨i,t,rfl,e⟩
 | .inr x,v,h=>by
  obtain ⟨t,e⟩:=Value.isStrOf_shape (x:=x) (v:=v) h;exact .inr ⟨x,t,rfl,e⟩
theorem Lp (a b:Int):decide ((Sum.inl a:Key)=Sum.inl b)=(a == b):=by
 by_cases e:a=b
 ·subst e;simp
 ·have h:¬(Sum.inl a:Key)=Sum.inl b:=fun q=>e (Sum.inl.inj q)
  rw[decide_eq_false h];exact (beq_eq_false_iff_ne.mpr e).symm
theorem Lm (a b:Str):decide ((Sum.inr a:Key)=Sum.inr b)=decide (a=b):=by
 by_cases e:a=b
 ·subst e;simp
 ·have h:¬(Sum.inr a:Key)=Sum.inr b:=fun q=>e (Sum.inr.inj q)
  rw[decide_eq_false h,decide_eq_false e]
theorem Lo (a:Int) (b:Str):decide ((Sum.inl a:Key)=Sum.inr b)=false:=decide_eq_false (fun q=>nomatch q)
theorem Ln (a:Str) (b:Int):decide ((Sum.inr a:Key)=Sum.inl b)=false:=decide_eq_false (fun q=>nomatch q)
def D4 (prog:Program) (w:World):PySem.KeyKind prog w Key where
 is:=J7
 hash:=Nq w
 inj:=fun v a b ha hb=>by
  rcases eK ha with ⟨i,t,rfl,rfl⟩ | ⟨x,t,rfl,rfl⟩
  ·rcases eK hb with ⟨j,u,rfl,e⟩ | ⟨y,u,rfl,e⟩
   ·injection e with e1 _;rw[e1]
   ·exact nomatch e
  ·rcases eK hb with ⟨j,u,rfl,e⟩ | ⟨y,u,rfl,e⟩
   ·exact nomatch e
   ·injection e with e1 _;rw[e1]
 byValue:=fun k v h=>by
  rcases eK h with ⟨i,t,rfl,rfl⟩ | ⟨x,t,rfl,rfl⟩ <;> rfl
 pyHash:=fun hv h=>by
  rcases eK hv with ⟨i,t,rfl,rfl⟩ | ⟨x,t,rfl,rfl⟩
  ·exact wpAny_pyHash_int h
  ·exact wpAny_pyHash_str h
 eqBool:=fun hu hv h=>by
  rcases eK hu with ⟨i,t,rfl,rfl⟩ | ⟨x,t,rfl,rfl⟩
  ·rcases eK hv with ⟨j,u,rfl,rfl⟩ | ⟨y,u,rfl,rfl⟩
   ·rw[Lp] at h;exact wpAny_eqBool_int h
   ·rw[Lo] at h;exact SeqAt.EqAt.int_str i t y u _ _ _ _ h
  ·rcases eK hv with ⟨j,u,rfl,rfl⟩ | ⟨y,u,rfl,rfl⟩
   ·rw[Ln] at h;exact SeqAt.EqAt.str_int x t j u _ _ _ _ h
   ·rw[Lm] at h;exact wpAny_eqBool_str h
 «strs»:=fun k x t v h=>by
  rcases eK h with ⟨i,u,rfl,e⟩ | ⟨y,u,rfl,e⟩
  ·exact nomatch e
  ·injection e with e1 _
   subst e1;cases v <;> rfl
inductive V where
  | non | bl (b : Bool) | int (i : Int) | str (x : Str) | byt (b : Array UInt8) | flt (b : UInt64) | ref (a : Addr) | ty (n : String)
  deriving DecidableEq

def RelV:V->Value->Prop
 | .non,u=>u=Value.none
 | .bl b,u=>u=Value.bool b
 | .int i,u=>∃t,u=Value.int i t
 | .str x,u=>∃t,u=Value.str x t
 | .byt b,u=>∃t,u=Value.bytes b t
 | .flt b,u=>∃t,u=Value.float b t
 | .ref a,u=>u=Value.ref a
 | .ty n,u=>u=Value.type n
abbrev cB:List V->List Value->Prop:=Paired RelV
theorem cB.length {xs:List V} {us:List Value} (r:cB xs us):xs.length=us.length:=Paired.length r
theorem cB.get:∀{xs:List V} {us:List Value} {i:Nat} {x:V},cB xs us->xs[i]?=some x->∃u,us[i]?=some u/\RelV x u
 | _,_,_,_,.nil,e=>by simp at e
 | _,_,0,_,.cons r _,e=>by simp at e;subst e;exact ⟨_,rfl,r⟩
 | _,_,i+1,x,.cons _ t,e=>by
  obtain ⟨u,h1,h2⟩:=cB.get (i:=i) (x:=x) t (by simpa using e);exact ⟨u,by simpa using h1,h2⟩
theorem cB.set {x:V} {u:Value} (r:RelV x u):∀{xs:List V} {us:List Value} (i:Nat),cB xs us->cB (xs.set i x) (us.set i u)
 | _,_,_,.nil=>.nil
 | _,_,0,.cons _ t=>.cons r t
 | _,_,i+1,.cons q t=>.cons q (cB.set r i t)
theorem cB.append:∀{xs ys:List V} {us ws:List Value},cB xs us->cB ys ws->cB (xs++ys) (us++ws)
 | _,_,_,_,.nil,s=>s
 | _,_,_,_,.cons r t,s=>.cons r (cB.append t s)
theorem cB.take:∀{xs:List V} {us:List Value} (n:Nat),cB xs us->cB (xs.take n) (us.take n)
 | _,_,0,_=>.nil
 | _,_,_+1,.nil=>.nil
 | _,_,n+1,.cons r t=>.cons r (cB.take n t)
theorem cB.drop:∀{xs:List V} {us:List Value} (n:Nat),cB xs us->cB (xs.drop n) (us.drop n)
 | _,_,0,r=>r
 | _,_,_+1,.nil=>.nil
 | _,_,n+1,.cons _ t=>cB.drop n t
def zz:Option V->Option Value->Prop
 | some v,some u=>RelV v u
 | none,none=>True
 | _,_=>False
def KV {κ:Type}:List (κ×V)->List (κ×Value)->Prop:=Paired fun (p:κ×V) (q:κ×Value)=>p.1=q.1/\RelV p.2 q.2
def kV:Key->V
 | .inl i=>.int i
 | .inr x=>.str x
inductive HO where
 | lst (xs:List V)
 | tup (xs:List V)
 | dK (kvs:List (Key×V)) | dT (kvs:List (List Key×V))
 | set (S:Int->Bool) (n:Nat)
 | ins (C dx:Addr) (fs:List (Str×V))
 | own (x:Addr)
 | xd (fs:List (Str×V))
 | met (f x:Addr)
 | rng (lo hi:Int)
 | frz (o:Obj) (u:HO)
 | tbl (ps:Array Value)
 | ext (φ:Heap->Prop)
abbrev Hp:=Addr->Option HO
def upd (H:Hp) (a:Addr) (o:HO):Hp:=fun b=>if b=a then some o else H b
theorem aG {H:Hp} {a:Addr} {o:HO}:upd H a o a=some o:=by unfold upd;rw[if_pos rfl]
theorem be {H:Hp} {a b:Addr} {o:HO} (h:b≠a):upd H a o b=H b:=by unfold upd;rw[if_neg h]
theorem eQ {H:Hp} {a b:Addr} {o:HO} (h:H a=some o) (h':H b=none):a≠b:=by
 intro e;subst e;rw[h] at h';cases h'
section
variable (P:Program) (w:World)
def jv (H:Hp) (h:Heap) (a:Addr):HO->Prop
 | .lst xs=>xs.length<=sizeLine/\∃(its:List Value) (n:Nat),cB xs its/\h.get? a=some { cls:=.type "list",data:=.seq its.toArray n }
 | .tup xs=>xs.length<=sizeLine/\∃its:List Value,cB xs its/\IsTup h a its.toArray
 | .dK kvs=>kvs.length<=sizeLine/\(a == sysModules)=false/\∃vs,KV kvs vs/\h.DictOf (D4 P w) a vs
 | .dT kvs=>kvs.length<=sizeLine/\(a == sysModules)=false/\∃xs:List (List Key×Addr×Value),
   Paired (fun (p:List Key×V) (q:List Key×Addr×Value)=>p.1=q.1/\H q.2.1=some (.tup (p.1.map kV))/\RelV p.2 q.2.2) kvs xs /\
   ∃o es ep,h.get? a=some o/\o.ExactDict/\o.data=.dict es ep/\es.toList=xs.map (entryOfKey (tupleKind (D4 P w)))/\(xs.map (·.1)).Nodup
 | .set S n=>h.SetOf (intKind P w) a S n
 | .ins C dx fs=>H dx=some (.own a)/\fs.length<=1000/\dx≠a/\h.get? a=some (PySem.W.instObj C dx) /\
   ∃mA,h.Ns1 dx mA/\(∀f,zz (fs.lookup f) (mA f))/\PySem.Within mA (fs.map (·.1))
 | .own _=>∃o,h.get? a=some o
 | .xd fs=>∃mA,h.Ns1 a mA/\∀f,zz (fs.lookup f) (mA f)
 | .rng lo hi=>∃t u v,h.get? a=some { cls:=.type "range",data:=.fields #[.int lo t,.int hi u,.int 1 v] }
 | .frz o u=>h.get? a=some o/\jv H h a u
 | .tbl ps=>h.get? a=some { cls:=.none,data:=.fields ps }
 | .met f x=>h.get? a=some (PySem.W.methodObj (.ref f) (.ref x))
 | .ext φ=>φ h/\(∃o,h.get? a=some o)/\∀h1 h2:Heap,φ h1->(∀o,h1.get? a=some o->h2.get? a=some o)->φ h2
def xN (H:Hp) (h:Heap):Prop:=∀a o,H a=some o->jv P w H h a o
end
section
variable {P:Program} {w:World} {H H':Hp} {h h':Heap} {a:Addr} {o:HO}
theorem jv.lt (x:jv P w H h a o):a < h.objs.size:=by
 cases o with
 | lst xs=>obtain ⟨_,_,_,_,e⟩:=x;exact Heap.lt_size e
 | tup xs=>obtain ⟨_,_,_,p⟩:=x;exact p.lt
 | dK kvs=>obtain ⟨_,_,_,_,o,_,_,e,_⟩:=x;exact Heap.lt_size e
 | dT kvs=>obtain ⟨_,_,_,_,o,_,_,e,_⟩:=x;exact Heap.lt_size e
 | set S n=>obtain ⟨o,_,_,_,e,_⟩:=x;exact Heap.lt_size e
 | ins C dx fs=>obtain ⟨_,_,_,e,_⟩:=x;exact Heap.lt_size e
 | own y=>obtain ⟨_,e⟩:=x;exact Heap.lt_size e
 | xd fs=>obtain ⟨_,⟨_,_,_,e,_⟩,_⟩:=x;exact Heap.lt_size e
 | rng lo hi=>obtain ⟨_,_,_,e⟩:=x;exact Heap.lt_size e
 | frz ob u=>obtain ⟨e,_⟩:=x;exact Heap.lt_size e
 | tbl ps=>exact Heap.lt_size (show h.get? a=some _ from x)
 | met f y=>exact Heap.lt_size (show h.get? a=some _ from x)
 | ext φ=>obtain ⟨_,⟨_,e⟩,_⟩:=x;exact Heap.lt_size e
theorem Paired.mapP {α β:Type} {F G:α->β->Prop}:∀{l₁:List α} {l₂:List β},Paired F l₁ l₂->(∀a b,F a b->G a b)->Paired G l₁ l₂
 | _,_,.nil,_=>.nil
 | _,_,.cons r t,f=>.cons (f _ _ r) (Paired.mapP t f)
theorem Paired.imp' {α β:Type} {F G:α->β->Prop} (f:∀a b,F a b->G a b) {l₁:List α} {l₂:List β} (r:Paired F l₁ l₂):Paired G l₁ l₂:=Paired.mapP r f
theorem jv.stay (x:jv P w H h a o) (k:∀b u,(b=a\/H b=some (.own a))->h.get? b=some u->h'.get? b=some u)
  (ho:∀b,H b=some (.own a)->H' b=some (.own a)) (ht:∀b xs,H b=some (.tup xs)->H' b=some (.tup xs)):jv P w H' h' a o:=by
 induction o with
 | lst xs=>obtain ⟨z,its,n,r,e⟩:=x;exact ⟨z,its,n,r,k _ _ (.inl rfl) e⟩
 | tup xs=>obtain ⟨z,its,r,ob,e,c⟩:=x;exact ⟨z,its,r,ob,k _ _ (.inl rfl) e,c⟩
 | dK kvs=>obtain ⟨z,y,vs,r,ob,es,ep,e,c⟩:=x;exact ⟨z,y,vs,r,ob,es,ep,k _ _ (.inl rfl) e,c⟩
 | dT kvs =>
  obtain ⟨z,y,xs,r,ob,es,ep,e,c⟩:=x;exact ⟨z,y,xs,Paired.mapP r fun p q z=>⟨z.1,ht _ _ z.2.1,z.2.2⟩,ob,es,ep,k _ _ (.inl rfl) e,c⟩
 | set S n=>obtain ⟨ob,es,ep,t,e,c⟩:=x;exact ⟨ob,es,ep,t,k _ _ (.inl rfl) e,c⟩
 | ins C dx fs =>
  obtain ⟨d,z,ne,e,mA,⟨od,es,ep,e2,c⟩,r⟩:=x;exact ⟨ho _ d,z,ne,k _ _ (.inl rfl) e,mA,⟨od,es,ep,k _ _ (.inr d) e2,c⟩,r⟩
 | own y=>obtain ⟨ob,e⟩:=x;exact ⟨ob,k _ _ (.inl rfl) e⟩
 | xd fs=>obtain ⟨mA,⟨od,es,ep,e,c⟩,r⟩:=x;exact ⟨mA,⟨od,es,ep,k _ _ (.inl rfl) e,c⟩,r⟩
 | rng lo hi=>obtain ⟨t,u,v,e⟩:=x;exact ⟨t,u,v,k _ _ (.inl rfl) e⟩
 | frz ob u ih=>obtain ⟨e,q⟩:=x;exact ⟨k _ _ (.inl rfl) e,ih q⟩
 | tbl ps =>
  have e:h.get? a=some { cls:=.none,data:=.fields ps }:=x;show h'.get? a=some { cls:=.none,data:=.fields ps }
  exact k a _ (.inl rfl) e
 | met f y =>
  have e:h.get? a=some (PySem.W.methodObj (.ref f) (.ref y)):=x;show h'.get? a=some (PySem.W.methodObj (.ref f) (.ref y))
  exact k a _ (.inl rfl) e
 | ext φ=>obtain ⟨p,⟨o,e⟩,st⟩:=x;exact ⟨st _ _ p fun o q=>k _ _ (.inl rfl) q,⟨o,k _ _ (.inl rfl) e⟩,st⟩
theorem xN.lt (x:xN P w H h) (e:H a=some o):a < h.objs.size:=(x a o e).lt
theorem xN.fresh (x:xN P w H h) (e:h.objs.size<=a):H a=none:=by
 cases q:H a with
 | none=>rfl
 | some u=>exact absurd (bw (x.lt q) e) (dF _)
theorem xN.kept (x:xN P w H h) (k:∀b u,h.get? b=some u->h'.get? b=some u):xN P w H h':=fun a o e =>
 (x a o e).stay (fun b u _ q=>k b u q) (fun _ q=>q) fun _ _ q=>q
theorem xN.laid (x:xN P w H h) (k:∀b u,h.get? b=some u->h'.get? b=some u) (hp:h.objs.size<=a) (new:jv P w (upd H a o) h' a o):xN P w (upd H a o) h':=fun b u e=>by
 have hn:=x.fresh hp;by_cases hb:b=a
 ·subst hb;rw[aG] at e;cases e;exact new
 ·rw[be hb] at e;exact (x b u e).stay (fun c v _ q=>k c v q) (fun c q=>by rw[be (eQ q hn)];exact q) fun c xs q=>by rw[be (eQ q hn)];exact q
end
def Rd (H:Hp) (a:Addr) (u:HO):Prop:=H a=some u\/∃o,H a=some (.frz o u)
theorem Rd.ok {P:Program} {w:World} {H:Hp} {h:Heap} {a:Addr} {u:HO} (r:Rd H a u) (x:xN P w H h):jv P w H h a u:=by
 rcases r with r | ⟨o,r⟩
 ·exact x a u r
 ·obtain ⟨_,q⟩:=x a _ r;exact q
def Nb:Option HO->Prop
 | some (.lst _)=>True
 | some (.dK _)=>True
 | some (.dT _)=>True
 | some (.set _ _)=>True
 | some (.ins _ _ _)=>True
 | some (.ext _)=>True
 | _=>False
section
variable {P:Program} {w:World} {H:Hp} {h h':Heap} {x e:Addr} {o':HO}
theorem xN.write (ok:xN P w H h) (mu:Nb (H x)) (he:e=x\/H e=some (.own x)) (k:∀b u,b≠e->h.get? b=some u->h'.get? b=some u) (heo:∃u,h'.get? e=some u)
  (new:jv P w (upd H x o') h' x o'):xN P w (upd H x o') h':=fun b u q=>by
 have nown:∀c y,H c=some (.own y)->c≠x:=fun c y r z=>by subst z;rw[r] at mu;exact mu
 have ntup:∀c xs,H c=some (.tup xs)->c≠x:=fun c xs r z=>by subst z;rw[r] at mu;exact mu
 by_cases hb:b=x
 ·subst hb;rw[aG] at q;cases q;exact new
 ·rw[be hb] at q;by_cases hbe:b=e
  ·have q':H b=some (.own x):=by
    rcases he with z | z
    ·exact absurd (hbe.trans z) hb
    ·rw[hbe];exact z
   rw[q] at q';cases q';obtain ⟨v,hv⟩:=heo;exact ⟨v,by rw[hbe];exact hv⟩
  ·refine (ok b u q).stay (fun c v hc r=>k c v ?_ r) (fun c r=>by rw[be (nown c b r)];exact r) fun c xs r=>by rw[be (ntup c xs r)];exact r
   rcases hc with rfl | hc
   ·exact hbe
   ·rintro rfl;rcases he with z | z
    ·exact nown c b hc z
    ·rw[hc] at z;cases z;exact hb rfl
end
structure Un (fs ex:List Addr) (H H':Hp) (h h':Heap):Prop where
 keep:∀b o,h.get? b=some o->H b=none->b∉fs->b∉ex->h'.get? b=some o
 slot:∀b o,h.get? b=some o->H b=none->b∈fs->b∉ex->∃sl,h'.get? b=some { o with slots:=sl }
 free:∀b o,h.get? b=some o->H b=none->b∉ex->H' b=none
 there:∀b o,h.get? b=some o->b∉ex->∃o',h'.get? b=some o'
 tups:∀b xs,H b=some (.tup xs)->H' b=some (.tup xs)
 frzs:∀b o u,H b=some (.frz o u)->H' b=some (.frz o u)
 tbls:∀b ps,H b=some (.tbl ps)->∃more,H' b=some (.tbl (ps++more))
section
variable {fs fs' ex ex':List Addr} {H H1 H2:Hp} {h h1 h2 h':Heap} {a x e:Addr} {o:HO}
theorem Un.any (u:Un fs ex H H1 h h1) {b:Addr} {ob:Obj} (q:h.get? b=some ob) (n:H b=none) (hx:b∉ex):∃sl,h1.get? b=some { ob with slots:=sl }:=by
 by_cases hb:b∈fs
 ·exact u.slot b ob q n hb hx
 ·exact ⟨ob.slots,u.keep b ob q n hb hx⟩
theorem Un.kept (k:∀b u,h.get? b=some u->h'.get? b=some u):Un fs ex H H h h' :=
 ⟨fun b ob q _ _ _=>k b ob q,fun b ob q _ _ _=>⟨ob.slots,k b ob q⟩,fun _ _ _ n _=>n,fun b ob q _=>⟨ob,k b ob q⟩,fun _ _ q=>q,fun _ _ _ q=>q,fun _ ps q=>⟨#[],by rw[q];simp⟩⟩
theorem Un.refl:Un fs ex H H h h:=Un.kept fun _ _ q=>q
theorem Un.laid (k:∀b u,h.get? b=some u->h'.get? b=some u) (hp:h.objs.size<=a) (hn:H a=none):Un fs ex H (upd H a o) h h' where
 keep:=fun b u q _ _ _=>k b u q
 slot:=fun b u q _ _ _=>⟨u.slots,k b u q⟩
 free:=fun b u q n _=>by rw[be (cw (bw (Heap.lt_size q) hp))];exact n
 there:=fun b u q _=>⟨u,k b u q⟩
 tups:=fun b xs q=>by rw[be (eQ q hn)];exact q
 frzs:=fun b u xs q=>by rw[be (eQ q hn)];exact q
 tbls:=fun b ps q=>⟨#[],by rw[be (eQ q hn),q];simp⟩
theorem Un.write (mu:Nb (H x)) (he:e=x\/H e=some (.own x)) (k:∀b u,b≠e->h.get? b=some u->h'.get? b=some u) (heo:∃u,h'.get? e=some u):Un fs ex H (upd H x o) h h':=by
 have hx:∀b,H b=none->b≠x:=fun b n z=>by subst z;rw[n] at mu;exact mu
 have hb:∀b,H b=none->b≠e:=fun b n z=>by
  subst z;rcases he with r | r
  ·exact hx b n r
  ·rw[n] at r;cases r
 have hm:∀b u,H b=some u->¬Nb (some u)->b≠x:=fun b u q nm z=>by subst z;rw[q] at mu;exact nm mu
 refine ⟨fun b u q n _ _=>k b u (hb b n) q,fun b u q n _ _=>⟨u.slots,k b u (hb b n) q⟩,fun b u q n _=>by rw[be (hx b n)];exact n,fun b u q _=>?_,
  fun b xs q=>by rw[be (hm b _ q fun z=>z)];exact q,fun b u xs q=>by rw[be (hm b _ q fun z=>z)];exact q,fun b ps q=>⟨#[],by rw[be (hm b _ q fun z=>z),q];simp⟩⟩
 by_cases hbe:b=e
 ·subst hbe;exact heo
 ·exact ⟨u,k b u hbe q⟩
end
def M6 (h:Heap) (H:Hp):List Addr:=(List.range h.objs.size).filter fun a=>(H a).isSome
def AZ (h:Heap) (H:Hp):Heap:=PySem.W.hideAll h (M6 h H)
theorem Fj (h:Heap) (H:Hp):(AZ h H).objs.size=h.objs.size:=PySem.W.hideAll_size _ _
theorem Hu {h:Heap} {H:Hp} {b:Addr} {o:Obj} (e:h.get? b=some o) (n:H b=none):(AZ h H).get? b=some o :=
 PySem.W.hideAll_get _ e fun hm=>by
  have q:(H b).isSome=true:=(mO.mp hm).2;rw[n] at q;simp at q
theorem Jr {h:Heap} {H:Hp} {b:Addr} {o:Obj} (e:(AZ h H).get? b=some o):h.get? b=some o/\H b=none:=by
 have e':h.get? b=some o:=PySem.W.of_hideAll (M6 h H) e;refine ⟨e',?_⟩;cases q:H b with
 | none=>rfl
 | some x =>
  have hm:b∈M6 h H:=mO.mpr ⟨oE.mpr (Heap.lt_size e'),by simp [q]⟩;have z:(AZ h H).get? b=none:=PySem.W.hideAll_none (M6 h H) hm;rw[z] at e;cases e
structure Mod (K:PySem.W.Frag) (mg:Str->Option Value) (base:Heap):Prop where
 kin:K.In base
 glob:base.Ns mainGlobals mg
 blt:∃mb,base.Ns builtinsNs mb/\∀x:Str,x≠"__name__"->mb x=bootBuiltins x
 nolimit:base.NoLimit
structure Cx where
 prog:Program
 w:World
 K:PySem.W.Frag
 mg:Str->Option Value
 base:Heap
 A:Around
 N:List Str
 s₀:Shared
 H₀:Hp
 env:Env
 outer:List Env
 stack:List Env
 ex:List Addr
 fn:Str->Bool
 calm:Bool
 pn:List (Addr×Obj)
 xe:Value->Shared->Prop
def Fz (l:List Env):List Addr:=l.filterMap (·.frame)
abbrev Cx.fs (X:Cx):List Addr:=Fz X.outer
def Nw (sc:Scope) (x:Str):Prop:=sc.names.lookup x=some .local\/sc.names.lookup x=some .cell\/sc.names.lookup x=some .free
def Loc (sc:Scope) (x:Str):Prop:=sc.names.lookup x=some .local\/sc.names.lookup x=some .cell
def Look (env:Env) (h:Heap) (m:Str->Option Value) (x:Str) (u:Value):Prop :=
 (env.kindOf x=some .local/\m x=some u)\/((env.kindOf x=some .cell\/env.kindOf x=some .free)/\∃c,env.cells.lookup x=some c/\h.IsCell c (some u))
structure Cx.Ok (X:Cx):Prop where
 mod:Mod X.K X.mg X.base
 kind:X.env.scope.kind=.function
 glob:X.env.globals=mainGlobals
 blt:X.env.builtins=builtinsNs
 above:X.s₀.heap.objs.size<=X.env.locals
 inj:∀x y c,X.env.cells.lookup x=some c->X.env.cells.lookup y=some c->x=y
 has:∀x,(X.env.kindOf x=some .cell\/X.env.kindOf x=some .free)->∃c,X.env.cells.lookup x=some c
 cab:∀x c,X.fn x=true->X.env.cells.lookup x=some c->X.s₀.heap.objs.size<=c
 hd:X.calm=true->X.A.handled=none
 frames:X.A.frames=some X.stack
 stk:X.stack=X.outer\/(X.stack=X.env :: X.outer/\X.env.frame=some X.env.locals)
 exf:∀b∈X.ex,b≠X.env.locals/\∀x c,X.env.cells.lookup x=some c->c≠b
 bs:∀b o,X.base.get? b=some o->X.s₀.heap.get? b=some o/\X.H₀ b=none
 bsz:X.base.objs.size<=X.s₀.heap.objs.size
 noex:∀b o,X.base.get? b=some o->b∉X.ex
 exfs:∀b∈X.ex,b∉X.fs
 funs:X.s₀.heap.FunFrames X.base X.outer
 frf:∀b∈X.fs,X.H₀ b=none
structure Inv (X:Cx) (pins:List (Addr×Obj)) (σ:List (Option V)) (H:Hp) (s:Shared):Prop where
 ok:X.Ok
 os:s.os=X.s₀.os
 bare:AllBare s.gens
 base:Un X.fs X.ex X.H₀ H X.s₀.heap s.heap
 loc:∃m,s.heap.Ns X.env.locals m/\∀(i:Nat) (x:Str) (v:V),X.N[i]?=some x->σ[i]?=some (some v)->Nw X.env.scope x->∃u,RelV v u/\Look X.env s.heap m x u
 cell:∀x c,X.env.cells.lookup x=some c->∃v,s.heap.IsCell c v
 free:H X.env.locals=none
 freeC:∀x c,X.env.cells.lookup x=some c->H c=none
 pin:∀p∈X.pn++pins,s.heap.get? p.1=some p.2/\H p.1=none/\p.1≠X.env.locals/\p.1∉X.fs/\∀v,p.2.data≠.cell v
 hok:xN X.prog X.w H s.heap
 len:σ.length=X.N.length
section
variable {X:Cx} {pins:List (Addr×Obj)} {σ:List (Option V)} {H H':Hp} {s:Shared} {h':Heap}
theorem Cx.Ok.nofr (ok:X.Ok) {b:Addr} {o:Obj} (e:X.base.get? b=some o):b∉X.fs:=fun hb=>by
 have:=(ok.funs.mem hb).1;rw[e] at this;cases this
theorem Inv.bs (I:Inv X pins σ H s):∀b o,X.base.get? b=some o->s.heap.get? b=some o/\H b=none:=fun b o e =>
 ⟨I.base.keep b o (I.ok.bs b o e).1 (I.ok.bs b o e).2 (I.ok.nofr e) (I.ok.noex b o e),I.base.free b o (I.ok.bs b o e).1 (I.ok.bs b o e).2 (I.ok.noex b o e)⟩
theorem Inv.bk (I:Inv X pins σ H s):∀b o,X.base.get? b=some o->s.heap.get? b=some o:=fun b o e=>(I.bs b o e).1
theorem Inv.mod (I:Inv X pins σ H s):Mod X.K X.mg X.base:=I.ok.mod
theorem Inv.kIn (I:Inv X pins σ H s):X.K.In s.heap:=I.ok.mod.kin.keeps I.bk
theorem Inv.lt (I:Inv X pins σ H s):X.env.locals < s.heap.objs.size:=let ⟨_,hn,_⟩:=I.loc;hn.lt
theorem Inv.sz (I:Inv X pins σ H s):X.s₀.heap.objs.size<=s.heap.objs.size:=ah I.ok.above (bC I.lt)
theorem Inv.nofs (I:Inv X pins σ H s) {a:Addr} (h:s.heap.objs.size<=a):a∉X.fs:=fun hb=>by
 obtain ⟨_,o,ho,_⟩:=I.ok.funs.mem hb;exact absurd (bw (Heap.lt_size ho) (ah I.sz h)) (dF _)
theorem Inv.cne (I:Inv X pins σ H s):∀x c,X.env.cells.lookup x=some c->c≠X.env.locals:=fun x c e z=>by
 obtain ⟨v,o,ho,hd⟩:=I.cell x c e;obtain ⟨m,⟨o',es,ep,ho',hd',_⟩,_⟩:=I.loc;rw[z,ho'] at ho;cases ho;rw[hd'] at hd;cases hd
theorem Inv.funs (I:Inv X pins σ H s):s.heap.FunFrames X.base X.outer:=by
 have all:∀(l:List Env),(∀b∈Fz l,b∈X.fs)->X.s₀.heap.FunFrames X.base l->s.heap.FunFrames X.base l:=by
  intro l
  induction l with
  | nil=>intro _ _;trivial
  | cons env r ih =>
   intro hs hl;obtain ⟨hk,⟨L,o,hf,hn,ho,hd⟩,hr⟩:=hl;have hL:L∈X.fs:=hs L (by unfold Fz;rw[Bp,hf];exact cT);obtain ⟨sl,e⟩:=I.base.slot L o ho (I.ok.frf L hL) hL fun z=>I.ok.exfs L z hL
   exact ⟨hk,⟨L,_,hf,hn,e,hd⟩,ih (fun b hb=>hs b (by unfold Fz;rw[Bp,hf];exact bN _ hb)) hr⟩
 exact all X.outer (fun _ hb=>hb) I.ok.funs
theorem Inv.stack (I:Inv X pins σ H s):s.heap.FunFrames X.base X.stack:=by
 rcases I.ok.stk with e | ⟨e,hf⟩
 ·rw[e];exact I.funs
 ·rw[e];obtain ⟨m,hn,_⟩:=I.loc;refine .cons (by rw[I.ok.kind];decide) hf hn ?_ I.funs;exact Heap.get?_none_of_le (ah I.ok.bsz I.ok.above)
theorem Inv.stkSub (I:Inv X pins σ H s):∀b∈Fz X.stack,b∈X.env.locals :: X.fs:=fun b hb=>by
 rcases I.ok.stk with e | ⟨e,hf⟩
 ·rw[e] at hb;exact bN _ hb
 ·rw[e] at hb;unfold Fz at hb;rw[Bp,hf] at hb;exact hb
theorem Inv.stkFree (I:Inv X pins σ H s):∀b∈Fz X.stack,H b=none:=fun b hb=>by
 rcases aB.mp (I.stkSub b hb) with e | hb
 ·rw[e];exact I.free
 ·obtain ⟨_,o,ho,_⟩:=I.ok.funs.mem hb;exact I.base.free b o ho (I.ok.frf b hb) fun z=>I.ok.exfs b z hb
theorem Inv.step {g':Array GenState} {t':Nat} {d':Drawn} {ch:List Addr} (I:Inv X pins σ H s)
  (hch:∀b∈ch,(b∈X.ex\/X.s₀.heap.objs.size<=b)/\b≠X.env.locals/\(∀x c,X.env.cells.lookup x=some c->c≠b)/\∀p∈X.pn++pins,p.1≠b)
  (keep:∀b o,b≠X.env.locals->b∉X.fs->b∉ch->s.heap.get? b=some o->H b=none->h'.get? b=some o)
  (slot:∀b o,b≠X.env.locals->b∈X.fs->b∉ch->s.heap.get? b=some o->H b=none->∃sl,h'.get? b=some { o with slots:=sl }) (free:∀b o,b∉ch->s.heap.get? b=some o->H b=none->H' b=none)
  (there:∀b o,b∉ch->s.heap.get? b=some o->∃o',h'.get? b=some o')
  (tups:∀b xs,H b=some (.tup xs)->H' b=some (.tup xs)) (frzs:∀b o u,H b=some (.frz o u)->H' b=some (.frz o u)) (tbls:∀b ps,H b=some (.tbl ps)->∃more,H' b=some (.tbl (ps++more)))
  (ns:∀m,s.heap.Ns X.env.locals m->h'.Ns X.env.locals m) (hok:xN X.prog X.w H' h') (hg:AllBare g') :
  Inv X pins σ H' { s with heap:=h',gens:=g',drawn:=d',toks:=t' }:=by
 have neL:∀b o,X.s₀.heap.get? b=some o->b≠X.env.locals:=fun b o e=>cw (bw (Heap.lt_size e) I.ok.above)
 have neC:∀b o,X.s₀.heap.get? b=some o->b∉X.ex->b∉ch:=fun b o e hx hb=>by
  rcases (hch b hb).1 with z | z
  ·exact hx z
  ·exact absurd (bw (Heap.lt_size e) z) (dF _)
 have cellK:∀x c,X.env.cells.lookup x=some c->∀v,s.heap.IsCell c v->h'.IsCell c v:=fun x c e v ⟨o,ho,hd⟩=>by
  have nch:c∉ch:=fun z=>(hch c z).2.2.1 x c e rfl
  by_cases hc:c∈X.fs
  ·obtain ⟨sl,q⟩:=slot c o (I.cne x c e) hc nch ho (I.freeC x c e);exact ⟨_,q,hd⟩
  ·exact ⟨o,keep c o (I.cne x c e) hc nch ho (I.freeC x c e),hd⟩
 refine ⟨I.ok,I.os,hg,⟨fun b o e n hb hx=>?_,fun b o e n hb hx=>?_,fun b o e n hx=>?_,fun b o e hx=>?_,fun b xs e=>tups b xs (I.base.tups b xs e),fun b o xs e=>frzs b o xs (I.base.frzs b o xs e),fun b ps e=>?_⟩,?_,fun x c e=>?_,?_,fun x c e=>?_,fun p hp=>?_,hok,I.len⟩
 ·exact keep b o (neL b o e) hb (neC b o e hx) (I.base.keep b o e n hb hx) (I.base.free b o e n hx)
 ·obtain ⟨sl,e1⟩:=I.base.slot b o e n hb hx;obtain ⟨sl',e2⟩:=slot b _ (neL b o e) hb (neC b o e hx) e1 (I.base.free b o e n hx);exact ⟨sl',e2⟩
 ·obtain ⟨o',e1⟩:=I.base.there b o e hx;exact free b o' (neC b o e hx) e1 (I.base.free b o e n hx)
 ·obtain ⟨o',e1⟩:=I.base.there b o e hx;exact there b o' (neC b o e hx) e1
 ·obtain ⟨m1,e1⟩:=I.base.tbls b ps e;obtain ⟨m2,e2⟩:=tbls b _ e1;exact ⟨m1++m2,by rw[e2,Array.append_assoc]⟩
 ·obtain ⟨m,hn,hl⟩:=I.loc;refine ⟨m,ns m hn,fun i x v e1 e2 e3=>?_⟩;obtain ⟨u,r,l⟩:=hl i x v e1 e2 e3;refine ⟨u,r,?_⟩;rcases l with l | ⟨k,c,e,z⟩
  ·exact .inl l
  ·exact .inr ⟨k,c,e,cellK x c e _ z⟩
 ·obtain ⟨v,z⟩:=I.cell x c e;exact ⟨v,cellK x c e v z⟩
 ·obtain ⟨m,⟨o,_,_,ho,_⟩,_⟩:=I.loc;exact free _ o (fun z=>(hch _ z).2.1 rfl) ho I.free
 ·obtain ⟨v,o,ho,hd⟩:=I.cell x c e;exact free c o (fun z=>(hch c z).2.2.1 x c e rfl) ho (I.freeC x c e)
 ·obtain ⟨e,n,ne,nf,d⟩:=I.pin p hp;have nch:p.1∉ch:=fun z=>(hch p.1 z).2.2.2 p hp rfl
  exact ⟨keep p.1 p.2 ne nf nch e n,free p.1 p.2 nch e n,ne,nf,d⟩
theorem Inv.un {t':Nat} (I:Inv X pins σ H s) (u:Un X.fs [] H H' s.heap h') (hok:xN X.prog X.w H' h'):Inv X pins σ H' { s with heap:=h',toks:=t' }:=by
 obtain ⟨m,⟨o,es,ep,ho,r⟩,_⟩:=id I.loc;obtain ⟨sl,hL⟩:=u.any ho I.free (by simp)
 exact I.step (g':=s.gens) (d':=s.drawn) (ch:=[]) (fun _ z=>nomatch z) (fun b o _ hb _ e n=>u.keep b o e n hb (by simp)) (fun b o _ hb _ e n=>u.slot b o e n hb (by simp)) (fun b o _ e n=>u.free b o e n (by simp)) (fun b o _ e=>u.there b o e (by simp)) u.tups u.frzs u.tbls (fun m' hm=>by
  obtain ⟨o',es',ep',ho',r'⟩:=hm;rw[ho] at ho';cases ho';exact ⟨_,es',ep',hL,r'⟩) hok I.bare
theorem Inv.call {g':Array GenState} {t':Nat} {d':Drawn} {ch:List Addr} (I:Inv X pins σ H s) (u:Un (Fz X.stack) ch H H' s.heap h') (hok:xN X.prog X.w H' h') (hg:AllBare g')
  (hch:∀b∈ch,(b∈X.ex\/X.s₀.heap.objs.size<=b)/\b≠X.env.locals/\(∀x c,X.env.cells.lookup x=some c->c≠b)/\∀p∈X.pn++pins,p.1≠b) :
  Inv X pins σ H' { s with heap:=h',gens:=g',drawn:=d',toks:=t' }:=by
 obtain ⟨m,⟨o,es,ep,ho,r⟩,_⟩:=id I.loc;obtain ⟨sl,hL⟩:=u.any ho I.free fun z=>(hch _ z).2.1 rfl
 exact I.step (ch:=ch) hch (fun b o hL hb hc e n=>u.keep b o e n (fun z=>(aB.mp (I.stkSub b z)).elim hL hb) hc) (fun b o _ _ hc e n=>u.any e n hc) (fun b o hc e n=>u.free b o e n hc) (fun b o hc e=>u.there b o e hc) u.tups u.frzs u.tbls (fun m' hm=>by
  obtain ⟨o',es',ep',ho',r'⟩:=hm;rw[ho] at ho';cases ho';exact ⟨_,es',ep',hL,r'⟩) hok hg
theorem Inv.turned {t':Nat} {it:Addr} (I:Inv X pins σ H s) (k:∀b o,b≠it->s.heap.get? b=some o->h'.get? b=some o) (hn:H it=none) (hL:it≠X.env.locals)
  (h1:it∈X.ex\/X.s₀.heap.objs.size<=it) (h2:∀x c,X.env.cells.lookup x=some c->c≠it) (h3:∀p∈X.pn++pins,p.1≠it):Inv X pins σ H { s with heap:=h',toks:=t' }:=by
 have nit:∀b u,H b=some u->b≠it:=fun b u e z=>by rw[z,hn] at e;cases e
 refine I.step (g':=s.gens) (d':=s.drawn) (ch:=[it]) (fun b hb=>?_) (fun b o _ _ hc e _=>k b o (fun z=>hc (by simp [z])) e) (fun b o _ _ hc e _=>⟨o.slots,k b o (fun z=>hc (by simp [z])) e⟩) (fun _ _ _ _ n=>n)
  (fun b o hc e=>⟨o,k b o (fun z=>hc (by simp [z])) e⟩) (fun _ _ e=>e) (fun _ _ _ e=>e) (fun b ps e=>⟨#[],by rw[e];simp⟩) (fun m hm=>?_) (fun b u e=>?_) I.bare
 ·have e:b=it:=by simpa using hb
  subst e;exact ⟨h1,hL,h2,h3⟩
 ·obtain ⟨o,es,ep,ho,r⟩:=hm;exact ⟨o,es,ep,k _ o (Ne.symm hL) ho,r⟩
 ·refine (I.hok b u e).stay (fun c v hc q=>k c v ?_ q) (fun _ q=>q) fun _ _ q=>q
  rcases hc with z | z
  ·rw[z];exact nit b u e
  ·exact nit c _ z
theorem Inv.tok (I:Inv X pins σ H s) (t:Nat):Inv X pins σ H { s with toks:=t }:=I.un (h':=s.heap) (t':=t) Un.refl I.hok
theorem Inv.kept {t':Nat} (I:Inv X pins σ H s) (k:∀b u,s.heap.get? b=some u->h'.get? b=some u):Inv X pins σ H { s with heap:=h',toks:=t' }:=I.un (Un.kept k) (I.hok.kept k)
theorem Inv.laid {a:Addr} {o:HO} {t':Nat} (I:Inv X pins σ H s) (k:∀b u,s.heap.get? b=some u->h'.get? b=some u) (hp:s.heap.objs.size<=a) (new:jv X.prog X.w (upd H a o) h' a o) :
  Inv X pins σ (upd H a o) { s with heap:=h',toks:=t' }:=I.un (Un.laid k hp (I.hok.fresh hp)) (I.hok.laid k hp new)
theorem Inv.write {x e:Addr} {o:HO} {t':Nat} (I:Inv X pins σ H s) (mu:Nb (H x)) (he:e=x\/H e=some (.own x)) (k:∀b u,b≠e->s.heap.get? b=some u->h'.get? b=some u) (heo:∃u,h'.get? e=some u)
  (new:jv X.prog X.w (upd H x o) h' x o):Inv X pins σ (upd H x o) { s with heap:=h',toks:=t' }:=I.un (Un.write mu he k heo) (I.hok.write mu he k heo new)
theorem Inv.pins_of {pins':List (Addr×Obj)} (I:Inv X pins σ H s) (h:∀p∈pins',s.heap.get? p.1=some p.2/\H p.1=none/\p.1≠X.env.locals/\p.1∉X.fs/\∀v,p.2.data≠.cell v):Inv X pins' σ H s :=
 ⟨I.ok,I.os,I.bare,I.base,I.loc,I.cell,I.free,I.freeC,fun p hp=>(aw.mp hp).elim (fun z=>I.pin p (rg _ z)) (h p),I.hok,I.len⟩
theorem BW {N:List Str} (hN:N.Nodup) {i j:Nat} {x:Str} (a:N[i]?=some x) (b:N[j]?=some x):i=j:=by
 obtain ⟨h1,e1⟩:=aE.mp a;obtain ⟨h2,e2⟩:=aE.mp b;exact (List.getElem_inj hN).mp (e1.trans e2.symm)
theorem zD {M:Model} {A:Around} {E:Value->Shared->Prop} {i:Nat} {x:Str} {v:V} {u:Value} {Q:Unit->Shared->Prop} (I:Inv X pins σ H s) (hN:X.N.Nodup) (hi:X.N[i]?=some x) (hx:Loc X.env.scope x) (r:RelV v u)
  (h:∀s',Inv X pins (σ.set i (some v)) H s'->(∃a,Heap.SameBut a s.heap s'.heap/\(a=X.env.locals\/X.env.cells.lookup x=some a))->Q () s') (hf:X.fn x=true\/X.env.scope.names.lookup x=some .local:=by first | exact .inl rfl | exact .inr rfl | assumption):wpAny M A (storeName X.env x u) Q E s:=by
 obtain ⟨m,hn,hl⟩:=id I.loc;have hcls:(X.env.scope.kind == .class || (X.env.scope.kind == .module && X.env.locals != X.env.globals))=false:=by rw[I.ok.kind];rfl
 have hiσ:i < σ.length:=by rw[I.len];exact (aE.mp hi).1
 have cne:=I.cne
 have tracked:∀{a:Addr} {h':Heap},(∃o,s.heap.get? a=some o/\H a=none)->Heap.SameBut a s.heap h'->xN X.prog X.w H h':=fun {a h'} ha hs b ob e=>by
  obtain ⟨_,_,hfree⟩:=ha;refine (I.hok b ob e).stay (fun c w' hc q=>(hs.2 c ?_).trans q) (fun _ q=>q) fun _ _ q=>q
  rintro rfl;rcases hc with rfl | hc
  ·rw[hfree] at e;cases e
  ·rw[hfree] at hc;cases hc
 rcases hx with hk | hk
 ·refine wpAny_storeName_local hk hn (fun h' hn' hs=>?_) hcls;obtain ⟨oL,_,_,hoL,_⟩:=id hn;refine h _ ⟨I.ok,I.os,I.bare,⟨fun b o e n hb hx=>?_,fun b o e n hb hx=>?_,I.base.free,fun b o e hx=>?_,I.base.tups,I.base.frzs,I.base.tbls⟩,⟨_,hn',fun j y v' e1 e2 e3=>?_⟩,fun y c e=>?_,I.free,I.freeC,fun p hp=>?_,tracked ⟨oL,hoL,I.free⟩ hs,by simpa using I.len⟩ ⟨_,hs,.inl rfl⟩
  ·exact (hs.2 b (cw (bw (Heap.lt_size e) I.ok.above))).trans (I.base.keep b o e n hb hx)
  ·obtain ⟨sl,e1⟩:=I.base.slot b o e n hb hx;exact ⟨sl,(hs.2 b (cw (bw (Heap.lt_size e) I.ok.above))).trans e1⟩
  ·obtain ⟨o',e1⟩:=I.base.there b o e hx;exact ⟨o',(hs.2 b (cw (bw (Heap.lt_size e) I.ok.above))).trans e1⟩
  ·by_cases hj:j=i
   ·subst hj;rw[hi] at e1;cases e1;rw[List.getElem?_set_self hiσ] at e2;cases e2;exact ⟨u,r,.inl ⟨hk,by simp⟩⟩
   ·rw[List.getElem?_set_ne (Ne.symm hj)] at e2;obtain ⟨u',r',q⟩:=hl j y v' e1 e2 e3;refine ⟨u',r',?_⟩;rcases q with ⟨k,e⟩ | ⟨k,c,e,z⟩
    ·refine .inl ⟨k,?_⟩;have:y≠x:=fun e=>hj (BW hN e1 (e ▸ hi))
     simp [this,e]
    ·exact .inr ⟨k,c,e,z.sameBut hs (cne y c e)⟩
  ·obtain ⟨w',z⟩:=I.cell y c e;exact ⟨w',z.sameBut hs (cne y c e)⟩
  ·obtain ⟨e,n,ne,nf,d⟩:=I.pin p hp;exact ⟨(hs.2 p.1 ne).trans e,n,ne,nf,d⟩
 ·have hfn:X.fn x=true:=by
   rcases hf with z | z
   ·exact z
   ·rw[z] at hk;cases hk
  obtain ⟨c,hc⟩:=I.ok.has x (.inl hk);obtain ⟨w',z⟩:=I.cell x c hc;refine wpAny_storeName_cell I.ok.kind hk hc z (fun h' hc' hs=>?_);obtain ⟨oc,hoc,hocd⟩:=id z;refine h { s with heap:=h' } ⟨I.ok,I.os,I.bare,⟨fun b o e n hb hx=>?_,fun b o e n hb hx=>?_,I.base.free,fun b o e hx=>?_,I.base.tups,I.base.frzs,I.base.tbls⟩,⟨m,hn.sameBut hs (Ne.symm (cne x c hc)),fun j y v' e1 e2 e3=>?_⟩,fun y c' e=>?_,I.free,I.freeC,fun p hp=>?_,tracked ⟨oc,hoc,I.freeC x c hc⟩ hs,by simpa using I.len⟩ ⟨c,hs,.inr hc⟩
  ·exact (hs.2 b (cw (bw (Heap.lt_size e) (I.ok.cab x c hfn hc)))).trans (I.base.keep b o e n hb hx)
  ·obtain ⟨sl,e1⟩:=I.base.slot b o e n hb hx;exact ⟨sl,(hs.2 b (cw (bw (Heap.lt_size e) (I.ok.cab x c hfn hc)))).trans e1⟩
  ·obtain ⟨o',e1⟩:=I.base.there b o e hx;exact ⟨o',(hs.2 b (cw (bw (Heap.lt_size e) (I.ok.cab x c hfn hc)))).trans e1⟩
  ·by_cases hj:j=i
   ·subst hj;rw[hi] at e1;cases e1;rw[List.getElem?_set_self hiσ] at e2;cases e2;exact ⟨u,r,.inr ⟨.inl hk,c,hc,hc'⟩⟩
   ·rw[List.getElem?_set_ne (Ne.symm hj)] at e2;obtain ⟨u',r',q⟩:=hl j y v' e1 e2 e3;refine ⟨u',r',?_⟩;rcases q with q | ⟨k,c',e,z'⟩
    ·exact .inl q
    ·refine .inr ⟨k,c',e,z'.sameBut hs ?_⟩;rintro rfl;exact hj (BW hN e1 (I.ok.inj _ _ _ e hc ▸ hi))
  ·by_cases hcc:c'=c
   ·subst hcc;exact ⟨_,hc'⟩
   ·obtain ⟨w2,z2⟩:=I.cell y c' e;exact ⟨w2,z2.sameBut hs hcc⟩
  ·obtain ⟨e,n,ne,nf,d⟩:=I.pin p hp;refine ⟨(hs.2 p.1 ?_).trans e,n,ne,nf,d⟩;intro q;rw[q,hoc] at e;have q':oc=p.2:=bY e;exact d w' (by rw[<- q'];exact hocd)
theorem uM {M:Model} {A:Around} {E:Value->Shared->Prop} {i:Nat} {x:Str} {v:V} {u:Value} {Q:Unit->Shared->Prop} (I:Inv X pins σ H s) (hN:X.N.Nodup) (hi:X.N[i]?=some x) (hx:Loc X.env.scope x) (r:RelV v u)
  (h:∀s',Inv X pins (σ.set i (some v)) H s'->Q () s') (hf:X.fn x=true\/X.env.scope.names.lookup x=some .local:=by first | exact .inl rfl | exact .inr rfl | assumption):wpAny M A (storeName X.env x u) Q E s :=
 zD I hN hi hx r (fun s' I' _=>h s' I') hf
theorem Inv.call' {s':Shared} {ch:List Addr} (I:Inv X pins σ H s) (ho:s'.os=s.os) (u:Un (Fz X.stack) ch H H' s.heap s'.heap) (hok:xN X.prog X.w H' s'.heap) (hg:AllBare s'.gens)
  (hch:∀b∈ch,(b∈X.ex\/X.s₀.heap.objs.size<=b)/\b≠X.env.locals/\(∀x c,X.env.cells.lookup x=some c->c≠b)/\∀p∈X.pn++pins,p.1≠b):Inv X pins σ H' s':=by
 obtain ⟨h',g',d',t',o'⟩:=s';have e:o'=s.os:=ho;subst e;exact I.call (g':=g') (t':=t') (d':=d') u hok hg hch
end
abbrev XK:=Value->Option Addr->Hp->Prop
abbrev St:=List (Option V)
abbrev VK:=V->Hp->Prop
abbrev TE:=St->Hp->VK->Prop
abbrev TT:=St->Hp->(Bool->Hp->Prop)->Prop
abbrev TA:=St->Hp->(List V->Hp->Prop)->Prop
structure Ends where
 nx:St->Hp->Prop
 rt:VK
 bk:St->Hp->Prop:=fun _ _=>False
 ct:St->Hp->Prop:=fun _ _=>False
abbrev TS:=Ends->St->Hp->Prop
def EP (X:Cx) (pins:List (Addr×Obj)) (σ:St) (Q:VK) (u:Value) (s':Shared):Prop:=∃v H',Inv X pins σ H' s'/\RelV v u/\Q v H'
def TP (X:Cx) (pins:List (Addr×Obj)) (σ:St) (Q:Bool->Hp->Prop) (b:Bool) (s':Shared):Prop:=∃H',Inv X pins σ H' s'/\Q b H'
def AP (X:Cx) (pins:List (Addr×Obj)) (σ:St) (Q:List V->Hp->Prop) (us:List Value) (s':Shared):Prop:=∃vs H',Inv X pins σ H' s'/\cB vs us/\Q vs H'
def SP (X:Cx) (pins:List (Addr×Obj)) (D:Ends) (f:Flow) (s':Shared):Prop :=
 match f with
 | .next=>∃σ' H',Inv X pins σ' H' s'/\D.nx σ' H'
 | .brk=>∃σ' H',Inv X pins σ' H' s'/\D.bk σ' H'
 | .cont=>∃σ' H',Inv X pins σ' H' s'/\D.ct σ' H'
 | .ret u=>∃v σ' H',Inv X pins σ' H' s'/\RelV v u/\D.rt v H'
def PE (X:Cx) (e:Expr) (t:TE):Prop :=
 ∀(pins:List (Addr×Obj)) (s:Shared) (σ:St) (H:Hp) (Q:VK),Inv X pins σ H s->t σ H Q->wpAny (model X.prog X.w) X.A (eval e X.env) (EP X pins σ Q) X.xe s
def PT (X:Cx) (e:Expr) (t:TT):Prop :=
 ∀(pins:List (Addr×Obj)) (s:Shared) (σ:St) (H:Hp) (Q:Bool->Hp->Prop),Inv X pins σ H s->t σ H Q->wpAny (model X.prog X.w) X.A (isTrue e X.env (eval e X.env)) (TP X pins σ Q) X.xe s
def PW (X:Cx) (e:Expr) (t:TT):Prop :=
 ∀(whole:Sem Value) (pins:List (Addr×Obj)) (s:Shared) (σ:St) (H:Hp) (Q:Bool->Hp->Prop),Inv X pins σ H s->t σ H Q->wpAny (model X.prog X.w) X.A (isTrue e X.env whole) (TP X pins σ Q) X.xe s
theorem PW.pt {X:Cx} {e:Expr} {t:TT} (h:PW X e t):PT X e t:=h _
def PA (X:Cx) (es:List Expr) (t:TA):Prop :=
 ∀(pos:Pos) (pins:List (Addr×Obj)) (s:Shared) (σ:St) (H:Hp) (Q:List V->Hp->Prop),Inv X pins σ H s->t σ H Q->wpAny (model X.prog X.w) X.A (spliced (backTo pos (starEach es X.env))) (AP X pins σ Q) X.xe s
def PS (X:Cx) (st:Stmt) (t:TS):Prop :=
 ∀(pins:List (Addr×Obj)) (s:Shared) (σ:St) (H:Hp) (D:Ends),Inv X pins σ H s->t D σ H->wpAny (model X.prog X.w) X.A (exec st X.env) (SP X pins D) X.xe s
def DG (X:Cx) (st:List Stmt) (t:TS):Prop :=
 ∀(pins:List (Addr×Obj)) (s:Shared) (σ:St) (H:Hp) (D:Ends),Inv X pins σ H s->t D σ H->wpAny (model X.prog X.w) X.A (execs st X.env) (SP X pins D) X.xe s
theorem fY {α:Type} {t:Sem α} {Q Q':α->Shared->Prop} {M:Model} {A:Around} {E:Value->Shared->Prop} {s:Shared} (h:wpAny M A t Q E s) (hQ:∀a s,Q a s->Q' a s):wpAny M A t Q' E s:=wpAny_mono h hQ fun _ _ x=>x
section
variable {X:Cx}
def Kt (i:Nat):TE:=fun σ H Q=>∃v,σ[i]?=some (some v)/\Q v H
def tC (v:V):TE:=fun _ H Q=>Q v H
theorem Le {i:Nat} {x:Str} {pos:Pos} (hN:X.N[i]?=some x) (hv:Nw X.env.scope x) (hd:(x == ("__debug__":Str))=false:=by decide) (hcd:(x == ("__classdict__":Str))=false:=by decide):PE X (.Name x pos) (Kt i):=by
 intro pins s σ H Q I h;obtain ⟨v,e,h⟩:=h;obtain ⟨m,hn,hl⟩:=I.loc;obtain ⟨u,r,l⟩:=hl i x v hN e hv;have fin:EP X pins σ Q u s:=⟨v,H,I,r,h⟩;rcases l with ⟨hk,hm⟩ | ⟨hk,c,hc,hcell⟩
 ·exact wpAny_Name (wpAny_loadName_local I.ok.kind hk hn hm fin) hd
 ·rcases hk with hk | hk
  ·exact wpAny_Name (wpAny_loadName_cell I.ok.kind hk hc hcell fin) hd
  ·exact wpAny_Name (wpAny_loadName_free I.ok.kind hk hc hcell fin hcd) hd
theorem ak {i j pos}:PE X (.Constant (.int i) j pos) (tC (.int i)):=fun _ _ _ H _ I h=>wpAny_Constant_int ⟨.int i,H,I.tok _,⟨_,rfl⟩,h⟩
theorem m7 {b j pos}:PE X (.Constant (.bool b) j pos) (tC (.bl b)):=fun _ _ _ H _ I h=>Constant_bool ⟨.bl b,H,I,rfl,h⟩
theorem AF {j pos}:PE X (.Constant .none j pos) (tC .non):=fun _ _ _ H _ I h=>Constant_none ⟨.non,H,I,rfl,h⟩
def Gl (X:Cx) (x:Str):Prop:=X.env.kindOf x=some .globalImplicit
theorem xC {E:Value->Shared->Prop} {pins:List (Addr×Obj)} {s:Shared} {σ:St} {H:Hp} {x:Str} {u:Value} {pos:Pos} {Q:Value->Shared->Prop} (I:Inv X pins σ H s) (hg:Gl X x) (hm:X.mg x=some u) (h:Q u s)
  (hd:(x == ("__debug__":Str))=false:=by decide):wpAny (model X.prog X.w) X.A (eval (.Name x pos) X.env) Q E s :=
 Calls.Name_function_global I.ok.kind hg (Calls.loadGlobal_global (by rw[I.ok.glob];exact I.mod.glob.keeps I.bk) hm h) hd
theorem nB {E:Value->Shared->Prop} {pins:List (Addr×Obj)} {s:Shared} {σ:St} {H:Hp} {x:Str} {u:Value} {pos:Pos} {Q:Value->Shared->Prop} (I:Inv X pins σ H s) (hg:Gl X x) (hm:X.mg x=none) (hv:bootBuiltins x=some u) (h:Q u s)
  (hn:x≠"__name__":=by decide) (hd:(x == ("__debug__":Str))=false:=by decide):wpAny (model X.prog X.w) X.A (eval (.Name x pos) X.env) Q E s:=by
 obtain ⟨mb,h1,h2⟩:=I.mod.blt;exact Calls.Name_function_global I.ok.kind hg (Calls.loadGlobal_builtin (by rw[I.ok.glob];exact I.mod.glob.keeps I.bk) hm (by rw[I.ok.blt];exact h1.keeps I.bk) ((h2 x hn).trans hv) h) hd
theorem pO {x:Str} {v:V} {u:Value} {pos:Pos} (hg:Gl X x) (hm:X.mg x=some u) (r:RelV v u) (hd:(x == ("__debug__":Str))=false:=by decide):PE X (.Name x pos) (tC v) :=
 fun _ _ _ H _ I h=>xC I hg hm ⟨v,H,I,r,h⟩ hd
theorem DW {x:Str} {v:V} {u:Value} {pos:Pos} (hg:Gl X x) (hm:X.mg x=none) (hv:bootBuiltins x=some u) (r:RelV v u) (hn:x≠"__name__":=by decide) (hd:(x == ("__debug__":Str))=false:=by decide):PE X (.Name x pos) (tC v) :=
 fun _ _ _ H _ I h=>nB I hg hm hv ⟨v,H,I,r,h⟩ hn hd
variable {a b:Expr} {ta tb:TE} {pos:Pos}
def tB (t:TE):TT:=fun σ H Q=>t σ H fun x H1=>∃c,x=.bl c/\Q c H1
theorem iB {e : Expr} {t : TE} (h : PE X e t) (he : ∀ whole, isTrue e X.env whole = (do let v <- whole; standAt e.pos; holding [v] (truthy v)) := by intro _; rfl) : PT X e (tB t) := by
  intro pins s σ H Q I hw;refine isTrue_plain (fY (h pins s σ H _ I hw) fun v s1 ⟨x, H1, I1, r1, q1⟩ => ?_) (he _);obtain ⟨d, rfl, q⟩ := q1;cases r1;exact wpAny_truthy_bool ⟨H1, I1, q⟩

variable {tA tB':TT} {rest:List Expr}
def Md (t u:TT):TT:=fun σ H Q=>t σ H fun c H1=>if c=true then u σ H1 Q else Q false H1
def tOr (t u:TT):TT:=fun σ H Q=>t σ H fun c H1=>if c=true then Q true H1 else u σ H1 Q
def L8 (t:TT):TT:=fun σ H Q=>t σ H fun c H1=>Q (!c) H1
theorem kq (ha:PT X a tA):PW X (.BoolOp .And [a] pos) tA:=by
 intro wh pins s σ H Q I h;refine isTrue_and (fY (ha pins s σ H Q I h) fun c s1 e=>?_);cases c with
 | true=>exact isTrue_and_nil e
 | false=>exact e
theorem ka (ha:PT X a tA):PW X (.BoolOp .Or [a] pos) tA:=by
 intro wh pins s σ H Q I h;refine isTrue_or (fY (ha pins s σ H Q I h) fun c s1 e=>?_);cases c with
 | false=>exact isTrue_or_nil e
 | true=>exact e
theorem jG (ha:PT X a tA) (hb:PW X (.BoolOp .And (b :: rest) pos) tB'):PW X (.BoolOp .And (a :: b :: rest) pos) (Md tA tB'):=by
 intro wh pins s σ H Q I h;refine isTrue_and (fY (ha pins s σ H _ I h) fun c s1 ⟨H1,I1,q1⟩=>?_);cases c with
 | true=>exact hb wh pins s1 σ H1 Q I1 q1
 | false=>exact ⟨H1,I1,q1⟩
theorem o3 (ha:PT X a tA) (hb:PW X (.BoolOp .Or (b :: rest) pos) tB'):PW X (.BoolOp .Or (a :: b :: rest) pos) (tOr tA tB'):=by
 intro wh pins s σ H Q I h;refine isTrue_or (fY (ha pins s σ H _ I h) fun c s1 ⟨H1,I1,q1⟩=>?_);cases c with
 | true=>exact ⟨H1,I1,q1⟩
 | false=>exact hb wh pins s1 σ H1 Q I1 q1
theorem i5 (ha:PT X a tA):PT X (.UnaryOp .Not a pos) (L8 tA):=by
 intro pins s σ H Q I h;exact isTrue_not (ha pins s σ H (fun c H1=>Q (!c) H1) I h)
def JV (ta tb:TE):TE:=fun σ H Q=>ta σ H fun x H1=>∃c,x=.bl c/\if c=true then tb σ H1 Q else Q (.bl false) H1
def JP (ta:TE):TE:=fun σ H Q=>ta σ H fun x H1=>∃c,x=.bl c/\Q (.bl (!c)) H1
theorem C9 {op} {t:TE} (h:PE X a t):PE X (.BoolOp op [a] pos) t:=fun pins s σ H Q I hw=>BoolOp_one (h pins s σ H Q I hw)
theorem Dd (ha:PE X a ta) (hb:PE X (.BoolOp .And (b :: rest) pos) tb):PE X (.BoolOp .And (a :: b :: rest) pos) (JV ta tb):=by
 intro pins s σ H Q I h;refine BoolOp_and (fY (ha pins s σ H _ I h) fun v s1 ⟨x,H1,I1,r1,q1⟩=>?_);obtain ⟨c,rfl,q1⟩:=q1;cases r1;refine wpAny_truthy_bool ?_;cases c with
 | true=>exact hb pins s1 σ H1 Q I1 q1
 | false=>exact ⟨.bl false,H1,I1,rfl,q1⟩
theorem Lf (ha:PE X a ta):PE X (.UnaryOp .Not a pos) (JP ta):=by
 intro pins s σ H Q I h;refine UnaryOp_ (fY (ha pins s σ H _ I h) fun v s1 ⟨x,H1,I1,r1,q1⟩=>?_);obtain ⟨c,rfl,q1⟩:=q1;cases r1;exact not_of (wpAny_truthy_bool ⟨.bl (!c),H1,I1,rfl,q1⟩)
def tIf (t:TT) (ta tb:TE):TE:=fun σ H Q=>t σ H fun c H1=>if c=true then ta σ H1 Q else tb σ H1 Q
theorem GG {c:Expr} (hc:PT X c tA) (ha:PE X a ta) (hb:PE X b tb):PE X (.IfExp c a b pos) (tIf tA ta tb):=by
 intro pins s σ H Q I h;refine wpAny_IfExp (fY (hc pins s σ H _ I h) fun d s1 ⟨H1,I1,q1⟩=>?_);cases d with
 | true=>exact ha pins s1 σ H1 Q I1 q1
 | false=>exact hb pins s1 σ H1 Q I1 q1
end
def bJ (K:PySem.W.Frag) (H:Hp) (a:Addr) (xs:List V):Prop :=
 Rd H a (.lst xs) \/
  ∃(o:Obj) (its:Array Value) (n:Nat),K.lookup a=some o/\o.cls=.type "list"/\o.dict=none/\o.data=.seq its n/\its.size<=sizeLine/\cB xs its.toList
def qX (K:PySem.W.Frag) (H:Hp) (a:Addr) (xs:List V):Prop :=
 Rd H a (.tup xs) \/
  ∃(o:Obj) (its:Array Value) (n:Nat),K.lookup a=some o/\o.cls=.type "tuple"/\o.data=.seq its n/\its.size<=sizeLine/\cB xs its.toList
def Nv:Value->Option V
 | .none=>some .non
 | .bool b=>some (.bl b)
 | .int i _=>some (.int i)
 | .str x _=>some (.str x)
 | .bytes b _=>some (.byt b)
 | .float b _=>some (.flt b)
 | .ref a=>some (.ref a)
 | .type n=>some (.ty n)
 | _=>none
theorem RelV.abs {x:V} {u:Value} (r:RelV x u):Nv u=some x:=by
 cases x with
 | non=>cases r;rfl
 | bl _=>cases r;rfl
 | int _=>obtain ⟨t,rfl⟩:=r;rfl
 | str _=>obtain ⟨t,rfl⟩:=r;rfl
 | byt _=>obtain ⟨t,rfl⟩:=r;rfl
 | flt _=>obtain ⟨t,rfl⟩:=r;rfl
 | ref _=>cases r;rfl
 | ty _=>cases r;rfl
theorem RelV.inj {x y:V} {u:Value} (r:RelV x u) (q:RelV y u):x=y:=bY (r.abs.symm.trans q.abs)
theorem cB.inj:∀{xs ys:List V} {us:List Value},cB xs us->cB ys us->xs=ys
 | _,_,_,.nil,.nil=>rfl
 | _,_,_,.cons r t,.cons r' t'=>by rw[r.inj r',cB.inj t t']
section
variable {X:Cx} {pins:List (Addr×Obj)} {σ:St} {H:Hp} {s:Shared} {a:Addr} {xs ys:List V}
theorem bJ.of {K:PySem.W.Frag} (h:H a=some (.lst xs)):bJ K H a xs:=.inl (.inl h)
theorem qX.of {K:PySem.W.Frag} (h:H a=some (.tup xs)):qX K H a xs:=.inl (.inl h)
theorem Inv.list (I:Inv X pins σ H s) (h:bJ X.K H a xs):∃its:List Value,cB xs its/\PlainL s.heap a its.toArray/\xs.length<=sizeLine:=by
 rcases h with h | ⟨o,its,n,hk,hc,hd,hs,hz,r⟩
 ·obtain ⟨z,its,n,r,e⟩:=h.ok I.hok;exact ⟨its,r,⟨_,n,e,rfl,rfl,rfl⟩,z⟩
 ·refine ⟨its.toList,r,⟨o,n,I.kIn a o hk,hc,hd,by simpa using hs⟩,?_⟩;have e:=r.length;simp only[Array.length_toList] at e
  lia
theorem Inv.tuple (I:Inv X pins σ H s) (h:qX X.K H a xs):∃its:List Value,cB xs its/\IsTup s.heap a its.toArray/\xs.length<=sizeLine:=by
 rcases h with h | ⟨o,its,n,hk,hc,hs,hz,r⟩
 ·obtain ⟨z,its,r,p⟩:=h.ok I.hok;exact ⟨its,r,p,z⟩
 ·refine ⟨its.toList,r,⟨o,I.kIn a o hk,hc,n,by simpa using hs⟩,?_⟩;have e:=r.length;simp only[Array.length_toList] at e
  lia
theorem Inv.list_inj (I:Inv X pins σ H s) (h:bJ X.K H a xs) (h':bJ X.K H a ys):xs=ys:=by
 obtain ⟨its,r,⟨o,n,e,_,_,d⟩,_⟩:=I.list h;obtain ⟨its',r',⟨o',n',e',_,_,d'⟩,_⟩:=I.list h';rw[e] at e';cases e';rw[d] at d';injection d' with d1 _
 have:its=its':=by simpa using congrArg Array.toList d1
 subst this;exact r.inj r'
theorem Inv.tuple_inj (I:Inv X pins σ H s) (h:qX X.K H a xs) (h':qX X.K H a ys):xs=ys:=by
 obtain ⟨its,r,⟨o,e,_,n,d⟩,_⟩:=I.tuple h;obtain ⟨its',r',⟨o',e',_,n',d'⟩,_⟩:=I.tuple h';rw[e] at e';cases e';rw[d] at d';injection d' with d1 _
 have:its=its':=by simpa using congrArg Array.toList d1
 subst this;exact r.inj r'
end
abbrev Cx.wish (X:Cx) (E:Value->Shared->Prop):Cx:={ X with xe:=E }
abbrev Cx.nox (X:Cx):Cx:=X.wish fun _ _=>False
theorem Cx.Ok.wish {X:Cx} (ok:X.Ok) (E:Value->Shared->Prop):(X.wish E).Ok :=
 ⟨ok.mod,ok.kind,ok.glob,ok.blt,ok.above,ok.inj,ok.has,ok.cab,ok.hd,ok.frames,ok.stk,ok.exf,ok.bs,ok.bsz,ok.noex,ok.exfs,ok.funs,ok.frf⟩
theorem Cx.Ok.unwish {X:Cx} {E:Value->Shared->Prop} (ok:(X.wish E).Ok):X.Ok :=
 ⟨ok.mod,ok.kind,ok.glob,ok.blt,ok.above,ok.inj,ok.has,ok.cab,ok.hd,ok.frames,ok.stk,ok.exf,ok.bs,ok.bsz,ok.noex,ok.exfs,ok.funs,ok.frf⟩
section
variable {X:Cx} {pins:List (Addr×Obj)} {σ:St} {H:Hp} {s:Shared} {E:Value->Shared->Prop}
theorem Inv.wish (I:Inv X pins σ H s) (E:Value->Shared->Prop):Inv (X.wish E) pins σ H s:=⟨I.ok.wish E,I.os,I.bare,I.base,I.loc,I.cell,I.free,I.freeC,I.pin,I.hok,I.len⟩
theorem Inv.unwish (I:Inv (X.wish E) pins σ H s):Inv X pins σ H s:=⟨I.ok.unwish,I.os,I.bare,I.base,I.loc,I.cell,I.free,I.freeC,I.pin,I.hok,I.len⟩
theorem SP.unwish {D:Ends} {f:Flow} {s':Shared} (h:SP (X.wish E) pins D f s'):SP X pins D f s':=by
 cases f with
 | next=>obtain ⟨σ',H',I,q⟩:=h;exact ⟨σ',H',I.unwish,q⟩
 | brk=>obtain ⟨σ',H',I,q⟩:=h;exact ⟨σ',H',I.unwish,q⟩
 | cont=>obtain ⟨σ',H',I,q⟩:=h;exact ⟨σ',H',I.unwish,q⟩
 | ret u=>obtain ⟨v,σ',H',I,r,q⟩:=h;exact ⟨v,σ',H',I.unwish,r,q⟩
theorem DG.nox {st:List Stmt} {t:TS} (h:DG X.nox st t):DG X st t:=fun pins s σ H D I hw =>
 wpAny_mono (h pins s σ H D (I.wish _) hw) (fun _ _ q=>q.unwish) fun _ _ z=>False.elim z
end
section
variable {X:Cx} {st:Stmt} {rest:List Stmt} {t u:TS} {e:Expr} {te:TE} {pos:Pos}
def JQ:TS:=fun D σ H=>D.nx σ H
def L4 (t u:TS):TS:=fun D σ H=>t { D with nx:=u D } σ H
theorem bS:DG X [] JQ:=fun _ _ σ H _ I h=>wpAny_execs_nil ⟨σ,H,I,h⟩
theorem av (h1:PS X st t) (h2:DG X rest u):DG X (st :: rest) (L4 t u):=by
 intro pins s σ H D I h;refine wpAny_execs_cons (fY (h1 pins s σ H { D with nx:=u D } I h) fun f s1 q=>?_);cases f with
 | next =>
  obtain ⟨σ',H',I',q⟩:=q;exact h2 pins s1 σ' H' D I' q
 | ret v=>exact q
 | brk=>exact q
 | cont=>exact q
theorem az (h1:PS X st t):DG X [st] t:=by
 intro pins s σ H D I h;refine wpAny_execs_cons (fY (h1 pins s σ H D I h) fun f s1 q=>?_);cases f with
 | next=>exact wpAny_execs_nil q
 | ret v=>exact q
 | brk=>exact q
 | cont=>exact q
theorem Inv.quiet {pins:List (Addr×Obj)} {σ:St} {H:Hp} {s:Shared} (I:Inv X pins σ H s):interactive X.env=false:=by simp [interactive,I.ok.kind]
def JT (te:TE):TS:=fun D σ H=>te σ H fun _ H1=>D.nx σ H1
theorem kr (he:PE X e te) (hs:swapsWith e none pos.line X.env=pure false:=by rfl):PS X (.Expr e pos) (JT te):=by
 intro pins s σ H D I h;exact wpAny_Expr_any (fY (he pins s σ H _ I h) fun v s1 ⟨x,H1,I1,r1,q1⟩=>⟨σ,H1,I1,q1⟩) I.quiet hs
def L5 (te:TE):TS:=fun D σ H=>te σ H D.rt
theorem aP (he:PE X e te):PS X (.Return (some e) pos) (L5 te):=by
 intro pins s σ H D I h;exact wpAny_Return_some (fY (he pins s σ H _ I h) fun v s1 ⟨x,H1,I1,r1,q1⟩=>⟨x,σ,H1,I1,r1,q1⟩)
def Mb (c:TT) (t u:TS):TS:=fun D σ H=>c σ H fun b H1=>if b=true then t D σ H1 else u D σ H1
theorem cK {c:Expr} {a b:List Stmt} {tc:TT} (hc:PT X c tc) (ha:DG X a t) (hb:DG X b u):PS X (.If c a b pos) (Mb tc t u):=by
 intro pins s σ H D I h;refine wpAny_If (fY (hc pins s σ H _ I h) fun d s1 ⟨H1,I1,q1⟩=>?_);cases d with
 | true=>exact ha pins s1 σ H1 D I1 q1
 | false=>exact hb pins s1 σ H1 D I1 q1
end
abbrev TG:=V->St->Hp->(St->Hp->Prop)->Prop
abbrev Ie:=List V->St->Hp->(St->Hp->Prop)->Prop
def PG (X:Cx) (target:Expr) (t:TG):Prop :=
 ∀(pins:List (Addr×Obj)) (s:Shared) (σ:St) (H:Hp) (v:V) (u:Value) (Q:St->Hp->Prop),Inv X pins σ H s->RelV v u->t v σ H Q →
  wpAny (model X.prog X.w) X.A (assign target X.env u) (fun _ s'=>∃σ' H',Inv X pins σ' H' s'/\Q σ' H') X.xe s
def MS (X:Cx) (ts:List Expr) (t:Ie):Prop :=
 ∀(pins:List (Addr×Obj)) (s:Shared) (σ:St) (H:Hp) (vs:List V) (us:List Value) (Q:St->Hp->Prop),Inv X pins σ H s->cB vs us->t vs σ H Q →
  wpAny (model X.prog X.w) X.A (assignInOrder ((assignEach ts X.env).map (·.2)) us) (fun _ s'=>∃σ' H',Inv X pins σ' H' s'/\Q σ' H') X.xe s
abbrev DD:=V->V->V->Hp->(Hp->Prop)->Prop
def LI (X:Cx) (t:DD):Prop :=
 ∀(pins:List (Addr×Obj)) (s:Shared) (σ:St) (H:Hp) (o i v:V) (ov iv u:Value) (Q:Hp->Prop),Inv X pins σ H s->RelV o ov->RelV i iv->RelV v u->t o i v H Q →
  wpAny (model X.prog X.w) X.A (setItem ov iv u) (fun _ s'=>∃H',Inv X pins σ H' s'/\Q H') X.xe s
abbrev MQ:=V->V->Hp->VK->Prop
def PIp (X:Cx) (op:Operator) (t:MQ):Prop :=
 ∀(pins:List (Addr×Obj)) (s:Shared) (σ:St) (H:Hp) (x y:V) (v u:Value) (Q:VK),Inv X pins σ H s->RelV x v->RelV y u->t x y H Q →
  wpAny (model X.prog X.w) X.A (inplaceOp op v u) (EP X pins σ Q) X.xe s
section
variable {X:Cx} {pos:Pos}
def Ee (i:Nat):TG:=fun v σ H Q=>Q (σ.set i (some v)) H
theorem aH {i:Nat} {x:Str} (hN:X.N.Nodup) (hi:X.N[i]?=some x:=by exact rfl) (hx:Loc X.env.scope x:=by exact Or.inl rfl) (hf:X.fn x=true\/X.env.scope.names.lookup x=some .local:=by first | exact .inl rfl | exact .inr rfl | assumption):PG X (.Name x pos) (Ee i):=by
 intro pins s σ H v u Q I r h;exact wpAny_assign_Name (uM I hN hi hx r (fun s' I'=>⟨_,H,I',h⟩) hf)
def MM:Ie:=fun vs σ H Q=>vs=[]/\Q σ H
def Kc (t:TG) (u:Ie):Ie:=fun vs σ H Q=>∃v r,vs=v :: r/\t v σ H fun σ' H'=>u r σ' H' Q
theorem jH:MS X [] MM:=by
 intro pins s σ H vs us Q I r h;obtain ⟨e,h⟩:=h;subst e;cases r;exact assignInOrder_nil ⟨σ,H,I,h⟩
theorem cy {e:Expr} {es:List Expr} {t:TG} {u:Ie} (h1:PG X e t) (h2:MS X es u)
  (hs:(assignEach (e :: es) X.env).map (·.2)=assign e X.env :: (assignEach es X.env).map (·.2):=by rfl):MS X (e :: es) (Kc t u):=by
 intro pins s σ H vs us Q I r h;obtain ⟨v,vr,e1,h⟩:=h;subst e1;cases r with
 | cons r rr =>
  rw[hs];refine assignInOrder_cons (fY (h1 pins s σ H _ _ _ I r h) fun _ s1 ⟨σ1,H1,I1,q1⟩=>?_);exact h2 pins s1 σ1 H1 _ _ Q I1 rr q1
def Lu (K:PySem.W.Frag) (n:Nat) (t:Ie):TG:=fun v σ H Q=>∃a xs,v=.ref a/\qX K H a xs/\xs.length=n/\t xs σ H Q
theorem ux {es:List Expr} {k:Nat} {t:Ie} {n:Nat} (hc:X.calm=true) (h:MS X es t)
  (hn:(assignEach es X.env).length=n:=by rfl) (hst:(assignEach es X.env).findIdx? (·.1)=none:=by rfl):PG X (.Tuple es k pos) (Lu X.K n t):=by
 intro pins s σ H v u Q I r hw;obtain ⟨a,xs,e1,hq,hl,hw⟩:=hw;subst e1;cases r;obtain ⟨its,rv,ht,hz⟩:=I.tuple hq;refine assign_Tuple_tuple (I.ok.hd hc) ht (by simp [hn,<- hl,rv.length]) hst fun h' hx=>?_
 have I1:Inv X pins σ H { s with heap:=h' }:=I.kept (t':=s.toks) fun b o e=>hx b o (cw (Heap.lt_size e)) e
 exact h pins _ σ H xs _ Q I1 (by simpa using rv) hw
def ML (to ti:TE) (t:DD):TG:=fun v σ H Q=>to σ H fun o H1=>ti σ H1 fun i H2=>t o i v H2 fun H3=>Q σ H3
theorem iC {o i : Expr} {to ti : TE} {t : DD} (ho : PE X o to) (hi : PE X i ti) (hs : LI X t)
    (ha : ∀ v, assign (.Subscript o i pos) X.env v = (do
      let ov <- holding [v] (eval o X.env)
      let iv <- holding [v, ov] (eval i X.env)
      standAt pos
      holding [v, ov, iv] (setItem ov iv v)
      release [v, ov, iv] []) := by intro _; rfl) : PG X (.Subscript o i pos) (ML to ti t) := by
  intro pins s σ H v u Q I r h;rw [ha];refine wpAny_bind (wpAny_holding (fY (ho pins s σ H _ I h) fun ov s1 ⟨x, H1, I1, r1, q1⟩ => ?_));refine wpAny_bind (wpAny_holding (fY (hi pins s1 σ H1 _ I1 q1) fun iv s2 ⟨y, H2, I2, r2, q2⟩ => ?_));refine wpAny_bind (wpAny_standAt (wpAny_bind (wpAny_holding (fY (hs pins s2 σ H2 x y v ov iv u _ I2 r1 r2 r q2) fun _ s3 ⟨H3, I3, q3⟩ => ?_))));exact wpAny_release ⟨σ, H3, I3, q3⟩
def Iu (te:TE) (g:TG):TS:=fun D σ H=>te σ H fun x H1=>g x σ H1 D.nx
theorem ff {tg e:Expr} {te:TE} {g:TG} (he:PE X e te) (hg:PG X tg g) (hs:swapsWithSole [tg] e pos.line X.env=pure false:=by rfl) (hw:swappedStores [tg] e X.env=pure none:=by rfl)
  (h1:(assignEach [tg] X.env).map (·.2)=[assign tg X.env]:=by rfl):PS X (.Assign [tg] e pos) (Iu te g):=by
 intro pins s σ H D I h;refine wpAny_Assign_stores (fY (he pins s σ H _ I h) fun v s1 ⟨x,H1,I1,r1,q1⟩=>?_) hs hw;rw[h1];exact fY (hg pins s1 σ H1 x v _ I1 r1 q1) fun _ s2 q=>q
theorem bD {i:Nat} {x:Str} {e:Expr} {te:TE} {pos':Pos} (hN:X.N.Nodup) (hi:X.N[i]?=some x) (hx:Loc X.env.scope x) (he:PE X e te) (hs:swapsWith e (some (.Name x pos')) pos.line X.env=pure false:=by rfl) (hf:X.fn x=true\/X.env.scope.names.lookup x=some .local:=by first | exact .inl rfl | exact .inr rfl | assumption) :
  PS X (.Assign [.Name x pos'] e pos) (Iu te (Ee i)):=by
 intro pins s σ H D I h;refine wpAny_Assign_Name (fY (he pins s σ H _ I h) fun v s1 ⟨y,H1,I1,r1,q1⟩=>?_) hs;exact uM I1 hN hi hx r1 (fun s2 I2=>⟨_,H1,I2,q1⟩) hf
def L6 (i j:Nat) (ta:TA):TS:=fun D σ H=>ta σ H fun vs H1=>∃v w,vs=[v,w]/\D.nx ((σ.set i (some v)).set j (some w)) H1
theorem GA {i j : Nat} {x y : Str} {a b : Expr} {ta : TA} {px py pt : Pos} {kt k2 pt2} (hc : X.calm = true) (hN : X.N.Nodup) (hi : X.N[i]? = some x) (hj : X.N[j]? = some y) (hij : i ≠ j)
    (hx : X.env.scope.names.lookup x = some .local) (hy : X.env.scope.names.lookup y = some .local) (ha : PA X [a, b] ta)
    (hw : swappedStores [.Tuple [.Name x px, .Name y py] kt pt] (.Tuple [a, b] k2 pt2) X.env = pure (some [x, y]))
    (hs : swapsWithSole [.Tuple [.Name x px, .Name y py] kt pt] (.Tuple [a, b] k2 pt2) pos.line X.env = pure false := by rfl) :
    PS X (.Assign [.Tuple [.Name x px, .Name y py] kt pt] (.Tuple [a, b] k2 pt2) pos) (L6 i j ta) := by
  intro pins s σ H D I h;rw [exec_Assign_arm];refine wpAny_bind (wpAny_standAt ?_);rw [hs];refine wpAny_bind (wpAny_pure ?_);rw [if_neg (by decide)];refine wpAny_bind (Tuple_ (fY (ha _ pins s σ H _ I h) fun us s1 ⟨vs, H1, I1, r1, q1⟩ => ?_));obtain ⟨v, w, e1, q1⟩ := q1;subst e1
  obtain ⟨u1, u2, rfl, rv, rw'⟩ : ∃ u1 u2, us = [u1, u2] /\ RelV v u1 /\ RelV w u2 := by
    cases r1 with
    | cons p q =>
      cases q with
      | cons p' q' =>
        cases q';exact ⟨_, _, rfl, p, p'⟩
  refine wpAny_newObj_type ?_ (by show 2 ≤ sizeLine; decide);have I2 : Inv X pins σ H1 { s1 with heap := s1.heap.push { cls := .type "tuple", data := .seq [u1, u2].toArray } } := I1.kept (t' := s1.toks) fun b o e => Heap.get?_push_of_some _ e
  rw [hw];refine wpAny_bind (wpAny_pure ?_);show wpAny (model X.prog X.w) X.A (do rule "assign.swapped-stores"; let items <- unpackItems (.ref s1.heap.objs.size) 2 none; assignInOrder [fun v => bindName X.env y v, fun v => bindName X.env x v] items.reverse; pure Flow.next) _ _ _
  refine wpAny_bind (wpAny_rule (wpAny_bind (unpackItems_tuple (items := #[u1, u2]) (I.ok.hd hc) (IsTup.new s1.heap _) fun h' hx' => ?_)));have I3 := I2.kept (h' := h') (t' := s1.toks) fun b o e => hx' b o (cw (Heap.lt_size e)) e
  show wpAny _ _ (assignInOrder [fun v => bindName X.env y v, fun v => bindName X.env x v] [u2, u1] >>= fun _ => pure Flow.next) _ _ _
  refine wpAny_bind (assignInOrder_cons (wpAny_bindName (uM I3 hN hj (.inl hy) rw' (fun s2 I4 => ?_) (.inr hy))));refine assignInOrder_cons (wpAny_bindName (uM I4 hN hi (.inl hx) rv (fun s3 I5 => assignInOrder_nil (wpAny_pure ?_)) (.inr hx)));rw [List.set_comm _ _ (Ne.symm hij)] at I5;exact ⟨_, H1, I5, q1⟩
def JU (to ti te:TE) (tget:V->V->Hp->VK->Prop) (tip:MQ) (tset:DD):TS:=fun D σ H=>to σ H fun o H1=>ti σ H1 fun i H2=>tget o i H2 fun x H3=>te σ H3 fun y H4=>tip x y H4 fun z H5=>tset o i z H5 fun H6=>D.nx σ H6
def MT (X:Cx) (t:V->V->Hp->VK->Prop):Prop :=
 ∀(pins:List (Addr×Obj)) (s:Shared) (σ:St) (H:Hp) (o i:V) (ov iv:Value) (Q:VK),Inv X pins σ H s->RelV o ov->RelV i iv->t o i H Q →
  wpAny (model X.prog X.w) X.A (getItem ov iv) (EP X pins σ Q) X.xe s
theorem Jj {o i e : Expr} {to ti te : TE} {tget : V → V → Hp → VK → Prop} {tip : MQ} {tset : DD} {op : Operator} {tpos : Pos} (ho : PE X o to) (hi : PE X i ti) (hg : MT X tget) (he : PE X e te) (hp : PIp X op tip) (hs : LI X tset)
    (ha : ∀ ov iv new, augStore i ov iv new = (do holding [new, ov, iv] (setItem ov iv new); release [new, ov, iv] []; pure .next) := by intros; rfl) : PS X (.AugAssign (.Subscript o i tpos) op e pos) (JU to ti te tget tip tset) := by
  intro pins s σ H D I h;refine wpAny_AugAssign_SubscriptAny (fY (ho pins s σ H _ I h) fun ov s1 ⟨x1, H1, I1, r1, q1⟩ => ?_) ha;refine fY (hi pins s1 σ H1 _ I1 q1) fun iv s2 ⟨x2, H2, I2, r2, q2⟩ => ?_
  refine fY (hg pins s2 σ H2 x1 x2 ov iv _ I2 r1 r2 q2) fun old s3 ⟨x3, H3, I3, r3, q3⟩ => ?_
  refine fY (he pins s3 σ H3 _ I3 q3) fun v s4 ⟨x4, H4, I4, r4, q4⟩ => ?_
  refine fY (hp pins s4 σ H4 x3 x4 old v _ I4 r3 r4 q4) fun new s5 ⟨x5, H5, I5, r5, q5⟩ => ?_
  exact fY (hs pins s5 σ H5 x1 x2 x5 ov iv new _ I5 r1 r2 r5 q5) fun _ s6 ⟨H6, I6, q6⟩ => ⟨σ, H6, I6, q6⟩
def ipI (f:Int->Int->Int):MQ:=fun x y H Q=>∃i j,x=.int i/\y=.int j/\Q (.int (f i j)) H
theorem Lq:PIp X .Add (ipI fun i j=>i+j):=by
 intro pins s σ H x y v u Q I r1 r2 h;obtain ⟨i,j,e1,e2,q⟩:=h;subst e1;subst e2;obtain ⟨t,rfl⟩:=r1;obtain ⟨t',rfl⟩:=r2;exact iadd_int ⟨.int _,H,I.tok _,⟨_,rfl⟩,q⟩
end
section
variable {X:Cx} {pos:Pos}
def FL (c:TT) (tb:TS):TS:=fun D σ H=>∃W:Nat->St->Hp->Prop,(∃m,W m σ H)/\∀m σ H,W m σ H →
 c σ H fun b H1=>if b=true then ∃N:St->Hp->Prop,(∀σ' H',N σ' H'->∃m',m' < m/\W m' σ' H')/\tb { D with nx:=N,ct:=N,bk:=D.nx } σ H1 else D.nx σ H1
theorem xZ {c:Expr} {body:List Stmt} {tc:TT} {tb:TS} (hp:PassesOwn (model X.prog X.w) X.A X.env X.xe) (hc:PT X c tc) (hb:DG X body tb):PS X (.While c body [] pos) (FL tc tb):=by
 intro pins s σ H D I h;obtain ⟨W,⟨m0,w0⟩,turn⟩:=h;refine wpAny_While (codeAny_whileLoop (fun n s'=>∃σ' H',Inv X pins σ' H' s'/\W n σ' H') ?_ m0 ⟨σ,H,I,w0⟩);rintro n s1 ⟨σ1,H1,I1,w1⟩;refine wpAny_passesOwn hp (fY (hc pins s1 σ1 H1 _ I1 (turn n σ1 H1 w1)) fun b s2 ⟨H2,I2,q2⟩=>?_);cases b with
 | true =>
  obtain ⟨N,hN,q2⟩:=q2;rw[if_pos rfl];refine wpAny_passesOwn hp (fY (hb pins s2 σ1 H2 _ I2 q2) fun f s3 q3=>?_);cases f with
  | next =>
   obtain ⟨σ3,H3,I3,n3⟩:=q3;obtain ⟨m',hm,w3⟩:=hN σ3 H3 n3;exact ⟨m',hm,σ3,H3,I3,w3⟩
  | cont =>
   obtain ⟨σ3,H3,I3,n3⟩:=q3;obtain ⟨m',hm,w3⟩:=hN σ3 H3 n3;exact ⟨m',hm,σ3,H3,I3,w3⟩
  | brk=>exact q3
  | ret v=>exact q3
 | false =>
  rw[if_neg aX];exact wpAny_execs_nil ⟨σ1,H2,I2,q2⟩
end
structure It where
 go:Nat->Hp->Prop
 yld:Nat->Hp->V->Hp->Prop
 stop:Nat->Hp->Prop
def kg (X:Cx) (pins:List (Addr×Obj)) (H:Hp) (b:Addr):Prop :=
 H b=none/\b≠X.env.locals/\b∉X.fs/\(b∈X.ex\/X.s₀.heap.objs.size<=b)/\(∀x c,X.env.cells.lookup x=some c->c≠b)/\∀p∈X.pn++pins,p.1≠b
theorem Inv.fpOk {X:Cx} {pins:List (Addr×Obj)} {σ:St} {H H':Hp} {s:Shared} {b:Addr} (I:Inv X pins σ H s) (hb:s.heap.objs.size<=b) (hn:H' b=none):kg X pins H' b:=by
 refine ⟨hn,Ey (bw I.lt hb),I.nofs hb,.inr (ah I.sz hb),fun x c e z=>?_,fun p hp z=>?_⟩
 ·obtain ⟨v,q⟩:=I.cell x c e;exact absurd (bw q.lt (by rw[z];exact hb)) (dF _)
 ·exact absurd (bw (Heap.lt_size (I.pin p hp).1) (by rw[z];exact hb)) (dF _)
structure Turn (P:Program) (w:World) (K:PySem.W.Frag) (tg:Expr) (J:It) (fp:List Addr) (it:Addr) (tn:Nat->Heap->Prop):Prop where
 mem:it∈fp
 obj:∀i h,tn i h->∀b∈fp,∃o,h.get? b=some o/\∀v,o.data≠.cell v
 keep:∀i h h',tn i h->(∀b∈fp,∀o,h.get? b=some o->h'.get? b=some o)->tn i h'
 item:∀(X:Cx),X.prog=P->X.w=w->X.K=K->X.calm=true->∀(i:Nat) (pins:List (Addr×Obj)) (s:Shared) (σ:St) (H:Hp) (E:Value->Shared->Prop),Inv X pins σ H s->(∀b∈fp,kg X pins H b)->tn i s.heap->J.go i H →
  wpAny (model P w) X.A (pyNext (.ref it)) (fun r s1=>∃u,r=some u /\
   wpAny (model P w) X.A (letOwnedTupleGo tg (.ref it) u) (fun _ s2=>∃x H',Inv X pins σ H' s2/\RelV x u/\J.yld i H x H'/\tn (i+1) s2.heap/\∀b∈fp,H' b=none) E s1) E s
 done:∀(X:Cx),X.prog=P->X.w=w->X.K=K->X.calm=true->∀(i:Nat) (pins:List (Addr×Obj)) (s:Shared) (σ:St) (H:Hp) (E:Value->Shared->Prop),Inv X pins σ H s->(∀b∈fp,kg X pins H b)->tn i s.heap->J.stop i H →
  wpAny (model P w) X.A (pyNext (.ref it)) (fun r s1=>r=none/\Inv X pins σ H s1) E s
 self:∀(A:Around) (i:Nat) (s:Shared) (Q:Value->Shared->Prop) (E:Value->Shared->Prop),tn i s.heap->Q (.ref it) s->wpAny (model P w) A (pyIter (.ref it)) Q E s
abbrev TI:=St->Hp->(It->Hp->Prop)->Prop
def PIE (X:Cx) (pins:List (Addr×Obj)) (σ:St) (tg:Expr) (R:It->Hp->Prop) (itv:Value) (s2:Shared):Prop :=
 ∃(it:Addr) (fp:List Addr) (tn:Nat->Heap->Prop) (J:It) (H':Hp),itv=.ref it/\Inv X pins σ H' s2/\Turn X.prog X.w X.K tg J fp it tn/\tn 0 s2.heap/\(∀b∈fp,kg X pins H' b)/\R J H'
def PI (X:Cx) (tg iter:Expr) (wi:TI):Prop :=
 ∀(pins:List (Addr×Obj)) (s:Shared) (σ:St) (H:Hp) (R:It->Hp->Prop),Inv X pins σ H s->wi σ H R →
  wpAny (model X.prog X.w) X.A (eval iter X.env) (fun v s1=>wpAny (model X.prog X.w) X.A (pyIter v) (PIE X pins σ tg R) X.xe s1) X.xe s
theorem Hv {M : Model} {A : Around} {E : Value → Shared → Prop} {s : Shared} {tg : Expr} {it : Addr} {u : Value} {o : Obj} {n : String} {vs : Array Value} {Q : Unit → Shared → Prop} (ho : s.heap.get? it = some o) (hc : o.cls = .type n) (hd : o.data = .fields vs)
    (hn : ["enumerate", "zip", "dict_itemiterator", "dict_reverseitemiterator", "odict_iterator", "itertools.zip_longest", "itertools.pairwise"].contains n = false) (hQ : Q () s) : wpAny M A (letOwnedTupleGo tg (.ref it) u) Q E s := by
  unfold letOwnedTupleGo
  cases tg <;> first
    | exact wpAny_pure hQ
    | (cases u <;> first
        | exact wpAny_pure hQ
        | (refine wpAny_bind (wpAny_load ho ?_)
           rw [hc, hd];show wpAny M A (if (["enumerate", "zip", "dict_itemiterator", "dict_reverseitemiterator", "odict_iterator", "itertools.zip_longest", "itertools.pairwise"].contains n && vs[0]? == some (rawInt _)) = true then _ else _) Q E s
           rw [if_neg (by intro h; rw [hn, Bool.false_and] at h; cases h)];exact wpAny_pure hQ))

def Kj (K:PySem.W.Frag) (a:Addr):It :=
 ⟨fun i H=>∃xs x,bJ K H a xs/\xs[i]?=some x,fun i H x H'=>H'=H/\∀xs,bJ K H a xs->xs[i]?=some x,fun i H=>∃xs,bJ K H a xs/\xs.length<=i⟩
def LR (K:PySem.W.Frag) (a:Addr):It :=
 ⟨fun i H=>∃xs x,qX K H a xs/\xs[i]?=some x,fun i H x H'=>H'=H/\∀xs,qX K H a xs->xs[i]?=some x,fun i H=>∃xs,qX K H a xs/\xs.length<=i⟩
def Cu (lo:Int) (n:Nat):It:=⟨fun i _=>i < n,fun i H x H'=>H'=H/\x=.int (lo+i),fun i _=>n<=i⟩
theorem EC {P:Program} {w:World} {K:PySem.W.Frag} {tg:Expr} (a it:Addr):Turn P w K tg (Kj K a) [it] it (fun i h=>h.IsListIter it a i) where
 mem:=by simp
 obj:=fun i h st b hb=>by
  have e:b=it:=by simpa using hb
  subst e;obtain ⟨o,e,c,d⟩:=st;exact ⟨o,e,fun v z=>by rw[d] at z;cases z⟩
 keep:=fun i h h' st k=>st.at fun o e=>k it (by simp) o e
 item:=by
  intro X hP hw hK hc i pins s σ H E I hf st hg;subst hP hw hK;obtain ⟨xs,x,hq,hx⟩:=hg;obtain ⟨its,rv,p,hz⟩:=I.list hq;obtain ⟨u,hu,ru⟩:=rv.get hx;obtain ⟨f0,f1,f2,f3,f4,f5⟩:=hf it (by simp);refine wpAny_pyNext_list_item st p.isList (x:=u) (by simpa using hu) fun h' st' sb=>?_
  have I1:Inv X pins σ H { s with heap:=h' }:=I.turned (t':=s.toks) (fun b o hb e=>(sb.2 b hb).trans e) f0 f1 f3 f4 f5;obtain ⟨o,e,c,d⟩:=id st';exact ⟨u,rfl,Hv (s:={ s with heap:=h' }) e c d (by decide) ⟨x,H,I1,ru,⟨rfl,fun ys hy=>by rw[I.list_inj hy hq];exact hx⟩,st',fun b hb=>(hf b hb).1⟩⟩
 done:=by
  intro X hP hw hK hc i pins s σ H E I hf st hg;subst hP hw hK;obtain ⟨xs,hq,hx⟩:=hg;obtain ⟨its,rv,p,hz⟩:=I.list hq;obtain ⟨f0,f1,f2,f3,f4,f5⟩:=hf it (by simp);have hl:=rv.length;exact wpAny_pyNext_list_end (I.ok.hd hc) st p.isList (by simp;lia) fun h' eb=>⟨rfl,I.turned (t':=s.toks) (fun b o hb e=>eb b o hb e) f0 f1 f3 f4 f5⟩
 self:=fun _ _ _ _ _ st h=>wpAny_pyIter_listiter st h
theorem CG {P:Program} {w:World} {K:PySem.W.Frag} {tg:Expr} (a it:Addr):Turn P w K tg (LR K a) [it] it (fun i h=>h.IsTupleIter it a i) where
 mem:=by simp
 obj:=fun i h st b hb=>by
  have e:b=it:=by simpa using hb
  subst e;obtain ⟨o,e,c,d⟩:=st;exact ⟨o,e,fun v z=>by rw[d] at z;cases z⟩
 keep:=fun i h h' st k=>st.at fun o e=>k it (by simp) o e
 item:=by
  intro X hP hw hK hc i pins s σ H E I hf st hg;subst hP hw hK;obtain ⟨xs,x,hq,hx⟩:=hg;obtain ⟨its,rv,p,hz⟩:=I.tuple hq;obtain ⟨u,hu,ru⟩:=rv.get hx;obtain ⟨f0,f1,f2,f3,f4,f5⟩:=hf it (by simp);refine wpAny_pyNext_tuple_item st (show s.heap.IsTuple a its.toArray from p) (x:=u) (by simpa using hu) fun h' st' sb=>?_
  have I1:Inv X pins σ H { s with heap:=h' }:=I.turned (t':=s.toks) (fun b o hb e=>(sb.2 b hb).trans e) f0 f1 f3 f4 f5;obtain ⟨o,e,c,d⟩:=id st';exact ⟨u,rfl,Hv (s:={ s with heap:=h' }) e c d (by decide) ⟨x,H,I1,ru,⟨rfl,fun ys hy=>by rw[I.tuple_inj hy hq];exact hx⟩,st',fun b hb=>(hf b hb).1⟩⟩
 done:=by
  intro X hP hw hK hc i pins s σ H E I hf st hg;subst hP hw hK;obtain ⟨xs,hq,hx⟩:=hg;obtain ⟨its,rv,p,hz⟩:=I.tuple hq;obtain ⟨f0,f1,f2,f3,f4,f5⟩:=hf it (by simp);have hl:=rv.length;exact wpAny_pyNext_tuple_end (I.ok.hd hc) st (show s.heap.IsTuple a its.toArray from p) (by simp;lia) fun h' eb=>⟨rfl,I.turned (t':=s.toks) (fun b o hb e=>eb b o hb e) f0 f1 f3 f4 f5⟩
 self:=fun _ _ _ _ _ st h=>wpAny_pyIter_tupleiter st h
theorem CH {P:Program} {w:World} {K:PySem.W.Frag} {tg:Expr} (it:Addr) (lo:Int) (n:Nat):Turn P w K tg (Cu lo n) [it] it (fun i h=>IsRangeIter h it (lo+(i:Nat)*1) ((n:Int) - (i:Nat)) 1) where
 mem:=by simp
 obj:=fun i h st b hb=>by
  have e:b=it:=by simpa using hb
  subst e
  exact ⟨_,st,fun v z=>by
   have z':Data.fields _=Data.cell v:=z;cases z'⟩
 keep:=fun i h h' st k=>k it (by simp) _ st
 item:=by
  intro X hP hw hK hc i pins s σ H E I hf st hg;subst hP hw hK;obtain ⟨f0,f1,f2,f3,f4,f5⟩:=hf it (by simp);have W:=Walks.range (prog:=X.prog) (w:=X.w) (I.ok.hd hc) it lo 1 n;refine W.item i s _ _ hg st fun v h' tk hv st' kk=>?_
  obtain ⟨t,rfl⟩:=hv;have I1:Inv X pins σ H { s with heap:=h',toks:=tk }:=I.turned (fun b o hb e=>kk b o (by simpa using hb) e) f0 f1 f3 f4 f5;refine ⟨_,rfl,Hv (s:={ s with heap:=h',toks:=tk }) (n:="range_iterator") st' rfl rfl (by decide) ⟨.int (lo+i),H,I1,⟨t,?_⟩,⟨rfl,rfl⟩,st',fun b hb=>(hf b hb).1⟩⟩;rw[Int.mul_one]
 done:=by
  intro X hP hw hK hc i pins s σ H E I hf st hg;subst hP hw hK;obtain ⟨f0,f1,f2,f3,f4,f5⟩:=hf it (by simp);exact wpAny_pyNext_range_end (I.ok.hd hc) st (by have:n<=i:=hg;lia) fun h' eb=>⟨rfl,I.turned (t':=s.toks) (fun b o hb e=>eb b o hb e) f0 f1 f3 f4 f5⟩
 self:=fun _ _ _ _ _ st h=>wpAny_pyIter_rangeiter st h
section
variable {X:Cx} {tg:Expr}
def Ht (K:PySem.W.Frag) (tl:TE):TI:=fun σ H R=>tl σ H fun x H1=>∃a,x=.ref a/\(∃xs,bJ K H1 a xs)/\R (Kj K a) H1
def MJ (K:PySem.W.Frag) (tl:TE):TI:=fun σ H R=>tl σ H fun x H1=>∃a,x=.ref a/\(∃xs,qX K H1 a xs)/\R (LR K a) H1
theorem cn {l:Expr} {tl:TE} (hl:PE X l tl):PI X tg l (Ht X.K tl):=by
 intro pins s σ H R I h;refine fY (hl pins s σ H _ I h) fun v s1 ⟨x,H1,I1,r1,q1⟩=>?_
 obtain ⟨a,e,⟨xs,hq⟩,q⟩:=q1;subst e;cases r1;obtain ⟨its,rv,p,hz⟩:=I1.list hq;refine wpAny_pyIter_list p.isList ?_;refine ⟨s1.heap.objs.size,[s1.heap.objs.size],_,_,H1,rfl,I1.kept (t':=s1.toks) fun b o e=>Heap.get?_push_of_some _ e,EC a _,⟨_,Heap.get?_push_size _ rfl,rfl,rfl⟩,fun b hb=>?_,q⟩;have e:b=s1.heap.objs.size:=by simpa using hb
 subst e;exact I1.fpOk (ar _) (I1.hok.fresh (ar _))
theorem Ld {l:Expr} {tl:TE} (hl:PE X l tl):PI X tg l (MJ X.K tl):=by
 intro pins s σ H R I h;refine fY (hl pins s σ H _ I h) fun v s1 ⟨x,H1,I1,r1,q1⟩=>?_
 obtain ⟨a,e,⟨xs,hq⟩,q⟩:=q1;subst e;cases r1;obtain ⟨its,rv,p,hz⟩:=I1.tuple hq;refine wpAny_pyIter_tuple (show s1.heap.IsTuple a its.toArray from p) ?_;refine ⟨s1.heap.objs.size,[s1.heap.objs.size],_,_,H1,rfl,I1.kept (t':=s1.toks) fun b o e=>Heap.get?_push_of_some _ e,CG a _,⟨_,Heap.get?_push_size _ rfl,rfl,rfl⟩,fun b hb=>?_,q⟩;have e:b=s1.heap.objs.size:=by simpa using hb
 subst e;exact I1.fpOk (ar _) (I1.hok.fresh (ar _))
theorem BM {pins:List (Addr×Obj)} {σ:St} {H:Hp} {s:Shared} {R:It->Hp->Prop} {E:Value->Shared->Prop} {lo hi:Int} {t u v:Tok} {tk:Nat} (I:Inv X pins σ H s) (h1:-(2^62)<=lo) (h2:lo < 2^62) (h3:-(2^62)<=hi) (h4:hi < 2^62)
  (q:R (Cu lo (hi - lo).toNat) H):wpAny (model X.prog X.w) X.A (pyIter (.ref s.heap.objs.size)) (PIE X pins σ tg R) E { s with heap:=s.heap.push { cls:=.type "range",data:=.fields #[.int lo t,.int hi u,.int 1 v] },toks:=tk }:=by
 refine wpAny_pyIter_range (IsRange.new ..) (small_one h1 h2 h3 h4) ?_;have I1:Inv X pins σ H { s with heap:=s.heap.push { cls:=.type "range",data:=.fields #[.int lo t,.int hi u,.int 1 v] },toks:=tk }:=I.kept fun b o e=>Heap.get?_push_of_some _ e
 refine ⟨(s.heap.push { cls:=.type "range",data:=.fields #[.int lo t,.int hi u,.int 1 v] }).objs.size,[(s.heap.push { cls:=.type "range",data:=.fields #[.int lo t,.int hi u,.int 1 v] }).objs.size],_,_,H,rfl,
  I1.kept (t':=tk) fun b o e=>Heap.get?_push_of_some _ e,CH _ lo (hi - lo).toNat,?_,fun b hb=>?_,q⟩
 ·have e1:lo+((0:Nat):Int)*1=lo:=by simp
  have e2:(((hi - lo).toNat:Nat):Int) - ((0:Nat):Int)=Builtin.Range.rangeSize lo hi 1:=by rw[rangeSize_one];split <;> lia
  show IsRangeIter _ _ (lo+((0:Nat):Int)*1) ((((hi - lo).toNat:Nat):Int) - ((0:Nat):Int)) 1
  rw[e1,e2];exact Heap.get?_push_size _ rfl
 ·have e:b=(s.heap.push { cls:=.type "range",data:=.fields #[.int lo t,.int hi u,.int 1 v] }).objs.size:=by simpa using hb
  subst e;exact I1.fpOk (ar _) (I1.hok.fresh (ar _))
def J9 (ta:TA):TI:=fun σ H R=>ta σ H fun vs H1=>∃j:Int,vs=[.int j]/\-(2^62)<=j/\j < 2^62/\R (Cu 0 j.toNat) H1
def J8 (ta:TA):TI:=fun σ H R=>ta σ H fun vs H1=>∃i j:Int,vs=[.int i,.int j]/\(-(2^62)<=i/\i < 2^62/\-(2^62)<=j/\j < 2^62)/\R (Cu i (j - i).toNat) H1
theorem bZ {a:Expr} {ta:TA} {p pos:Pos} (hg:Gl X "range") (hm:X.mg "range"=none) (ha:PA X [a] ta) (hs:starEach [a] X.env=[(false,eval a X.env)]:=by rfl):PI X tg (.Call (.Name "range" p) [a] [] pos) (J9 ta):=by
 intro pins s σ H R I h;refine Call_ (nB I hg hm boot_range (PyProof.Rows.callWith_type1 (fY (ha pos pins s σ H _ I h) fun us s1 ⟨vs,H1,I1,r1,q1⟩=>?_) hs rfl));obtain ⟨j,e,q1,q2,q⟩:=q1;subst e;cases r1 with
 | cons r rr =>
  cases rr;obtain ⟨t,rfl⟩:=r;exact call_range_1 (BM I1 (by lia) (by lia) q1 q2 (by simpa using q))
theorem zK {a b:Expr} {ta:TA} {p pos:Pos} (hg:Gl X "range") (hm:X.mg "range"=none) (ha:PA X [a,b] ta) (hs:starEach [a,b] X.env=[(false,eval a X.env),(false,eval b X.env)]:=by rfl) (hs2:starEach [b] X.env=[(false,eval b X.env)]:=by rfl) :
  PI X tg (.Call (.Name "range" p) [a,b] [] pos) (J8 ta):=by
 intro pins s σ H R I h;refine Call_ (nB I hg hm boot_range (PyProof.Rows.callWith_type1 (fY (ha pos pins s σ H _ I h) fun us s1 ⟨vs,H1,I1,r1,q1⟩=>?_) (by rw[hs,hs2]) (by rw[hs2];rfl)));obtain ⟨i,j,e,⟨q1,q2,q3,q4⟩,q⟩:=q1;subst e;cases r1 with
 | cons r rr =>
  cases rr with
  | cons r' rr =>
   cases rr;obtain ⟨t,rfl⟩:=r;obtain ⟨t',rfl⟩:=r';exact call_range_2 (BM I1 q1 q2 q3 q4 q)
def Mc (wi:TI) (g:TG) (tb:TS):TS:=fun D σ H=>wi σ H fun J H1=>∃W:Nat->Nat->St->Hp->Prop,(∃m,W 0 m σ H1)/\∀i m σ H,W i m σ H →
 (J.stop i H/\D.nx σ H)\/(J.go i H/\∃N:St->Hp->Prop,(∀σ' H',N σ' H'->∃m',m' < m/\W (i+1) m' σ' H')/\∀x H',J.yld i H x H'->g x σ H' fun σ2 H2=>tb { D with nx:=N,ct:=N,bk:=D.nx } σ2 H2)
def ya (fp:List Addr) (h:Heap):List (Addr×Obj):=fp.filterMap fun b=>(h.get? b).map fun o=>(b,o)
theorem pU {fp:List Addr} {h:Heap} {b:Addr} {o:Obj} (hb:b∈fp) (e:h.get? b=some o):(b,o)∈ya fp h:=List.mem_filterMap.mpr ⟨b,hb,by rw[e];rfl⟩
theorem E7 {fp:List Addr} {h:Heap} {p:Addr×Obj} (hp:p∈ya fp h):p.1∈fp/\h.get? p.1=some p.2:=by
 obtain ⟨b,hb,e⟩:=List.mem_filterMap.mp hp;cases q:h.get? b with
 | none=>rw[q] at e;cases e
 | some o =>
  rw[q] at e;have e':(b,o)=p:=bY e;subst e';exact ⟨hb,q⟩
theorem Inv.pinned {pins:List (Addr×Obj)} {σ:St} {H:Hp} {s:Shared} {fp:List Addr} (I:Inv X pins σ H s) (hf:∀b∈fp,kg X pins H b) (ho:∀b∈fp,∃o,s.heap.get? b=some o/\∀v,o.data≠.cell v):Inv X (pins++ya fp s.heap) σ H s :=
 I.pins_of fun p hp=>(aw.mp hp).elim (fun z=>I.pin p (bQ _ z)) fun z=>by
  obtain ⟨hb,e⟩:=E7 z;obtain ⟨f0,f1,f2,_⟩:=hf p.1 hb;obtain ⟨o,e',d⟩:=ho p.1 hb;rw[e] at e';cases e';exact ⟨e,f0,f1,f2,d⟩
theorem Inv.unpinned {pins pl:List (Addr×Obj)} {σ:St} {H:Hp} {s:Shared} (I:Inv X (pins++pl) σ H s):Inv X pins σ H s:=I.pins_of fun p hp=>I.pin p (bQ _ (rg _ hp))
theorem eB {iter : Expr} {body : List Stmt} {wi : TI} {g : TG} {tb : TS} {pos : Pos} (hp : PassesOwn (model X.prog X.w) X.A X.env X.xe) (hc : X.calm = true) (hi : PI X tg iter wi) (hg : PG X tg g) (hb : DG X body tb)
    (hs : ∀ x, foldedSetIterable iter X.env x = pure x := by intro _; rfl) : PS X (.For tg iter body [] pos) (Mc wi g tb) := by
  intro pins s σ H D I h;refine wpAny_For (fY (hi pins s σ H _ I h) fun v s1 h1 => fY h1 fun itv s2 h2 => ?_) hs;obtain ⟨it, fp, tn, J, H2, e, I2, T, st2, f2, W, ⟨m0, w0⟩, turn⟩ := h2;subst e;have stat : ∀ {H' : Hp}, (∀ b ∈ fp, H' b = none) → ∀ b ∈ fp, kg X pins H' b := fun hn b hb => ⟨hn b hb, (f2 b hb).2⟩
  refine codeAny_forLoop_any (fun n s' => ∃ i σ' H', Inv X pins σ' H' s' /\ tn i s'.heap /\ (∀ b ∈ fp, H' b = none) /\ W i n σ' H') ?_ m0 ⟨0, σ, H2, I2, st2, fun b hb => (f2 b hb).1, w0⟩;rintro n s3 ⟨i, σ3, H3, I3, st3, fr3, w3⟩;rcases turn i n σ3 H3 w3 with ⟨stop, qn⟩ | ⟨go, N, hN, step⟩
  · refine wpAny_passesOwn hp (fY (T.done X rfl rfl rfl hc i pins s3 σ3 H3 X.xe I3 (stat fr3) st3 stop) fun r s4 ⟨hr, I4⟩ => ?_);subst hr;exact wpAny_execs_nil ⟨σ3, H3, I4, qn⟩
  · refine wpAny_passesOwn hp (fY (T.item X rfl rfl rfl hc i pins s3 σ3 H3 X.xe I3 (stat fr3) st3 go) fun r s4 ⟨u, hr, h4⟩ => ?_);subst hr;refine wpAny_passesOwn hp (fY h4 fun _ s5 ⟨x, H5, I5, r5, y5, st5, fr5⟩ => ?_);have I5' := I5.pinned (stat fr5) (T.obj _ _ st5);refine wpAny_passesOwn hp (fY (hg _ s5 σ3 H5 x u _ I5' r5 (step x H5 y5)) fun _ s6 ⟨σ6, H6, I6, q6⟩ => ?_);refine wpAny_passesOwn hp (fY (hb _ s6 σ6 H6 _ I6 q6) fun f s7 q7 => ?_)
    have again : ∀ {σ7 : St} {H7 : Hp}, Inv X (pins ++ ya fp s5.heap) σ7 H7 s7 → N σ7 H7 → ∃ m, m < n /\ ∃ i σ' H', Inv X pins σ' H' s7 /\ tn i s7.heap /\ (∀ b ∈ fp, H' b = none) /\ W i m σ' H' := fun {σ7 H7} I7 n7 => by
      obtain ⟨m', hm, w7⟩ := hN σ7 H7 n7;refine ⟨m', hm, i + 1, σ7, H7, I7.unpinned, T.keep _ _ _ st5 fun b hb o e => (I7.pin (b, o) (bQ _ (bQ _ (pU hb e)))).1, fun b hb => ?_, w7⟩;obtain ⟨o, e, d⟩ := T.obj _ _ st5 b hb;exact (I7.pin (b, o) (bQ _ (bQ _ (pU hb e)))).2.1
    cases f with
    | next => obtain ⟨σ7, H7, I7, n7⟩ := q7; exact again I7 n7
    | cont => obtain ⟨σ7, H7, I7, n7⟩ := q7; exact again I7 n7
    | brk => obtain ⟨σ7, H7, I7, q7⟩ := q7; exact ⟨σ7, H7, I7.unpinned, q7⟩
    | ret v => obtain ⟨x7, σ7, H7, I7, r7, q7⟩ := q7; exact ⟨x7, σ7, H7, I7.unpinned, r7, q7⟩
end
theorem fJ {K:PySem.W.Frag} {a:Addr} {xs:List V} {g:TG} {tb:TS} {D:Ends} {σ:St} {H:Hp} (Pv:Nat->St->Hp->Prop) (h0:Pv 0 σ H) (hl:∀i σ H,i<=xs.length->Pv i σ H->bJ K H a xs)
  (hs:∀i x σ H,xs[i]?=some x->Pv i σ H->g x σ H fun σ2 H2=>tb { D with nx:=Pv (i+1),ct:=Pv (i+1),bk:=D.nx } σ2 H2) (hd:∀σ H,Pv xs.length σ H->D.nx σ H) :
  ∃W:Nat->Nat->St->Hp->Prop,(∃m,W 0 m σ H)/\∀i m σ H,W i m σ H →
   ((Kj K a).stop i H/\D.nx σ H)\/((Kj K a).go i H/\∃N:St->Hp->Prop,(∀σ' H',N σ' H'->∃m',m' < m/\W (i+1) m' σ' H')/\∀x H',(Kj K a).yld i H x H'->g x σ H' fun σ2 H2=>tb { D with nx:=N,ct:=N,bk:=D.nx } σ2 H2):=by
 refine ⟨fun i m σ H=>m=xs.length - i/\i<=xs.length/\Pv i σ H,⟨xs.length,by simp,aT _,h0⟩,?_⟩;rintro i m σ H ⟨rfl,hi,p⟩;have q:=hl i σ H hi p;by_cases hlt:i < xs.length
 ·refine .inr ⟨⟨xs,xs[i],q,by simp [hlt]⟩,Pv (i+1),fun σ' H' p'=>⟨xs.length - (i+1),by lia,rfl,hlt,p'⟩,fun x H' y=>?_⟩;obtain ⟨e,y⟩:=y;subst e;exact hs i x σ _ (y xs q) p
 ·have e:i=xs.length:=by lia
  subst e;exact .inl ⟨⟨xs,q,ar _⟩,hd σ H p⟩
theorem Jw {K:PySem.W.Frag} {a:Addr} {xs:List V} {g:TG} {tb:TS} {D:Ends} {σ:St} {H:Hp} (Pv:Nat->St->Hp->Prop) (h0:Pv 0 σ H) (hl:∀i σ H,i<=xs.length->Pv i σ H->qX K H a xs)
  (hs:∀i x σ H,xs[i]?=some x->Pv i σ H->g x σ H fun σ2 H2=>tb { D with nx:=Pv (i+1),ct:=Pv (i+1),bk:=D.nx } σ2 H2) (hd:∀σ H,Pv xs.length σ H->D.nx σ H) :
  ∃W:Nat->Nat->St->Hp->Prop,(∃m,W 0 m σ H)/\∀i m σ H,W i m σ H →
   ((LR K a).stop i H/\D.nx σ H)\/((LR K a).go i H/\∃N:St->Hp->Prop,(∀σ' H',N σ' H'->∃m',m' < m/\W (i+1) m' σ' H')/\∀x H',(LR K a).yld i H x H'->g x σ H' fun σ2 H2=>tb { D with nx:=N,ct:=N,bk:=D.nx } σ2 H2):=by
 refine ⟨fun i m σ H=>m=xs.length - i/\i<=xs.length/\Pv i σ H,⟨xs.length,by simp,aT _,h0⟩,?_⟩;rintro i m σ H ⟨rfl,hi,p⟩;have q:=hl i σ H hi p;by_cases hlt:i < xs.length
 ·refine .inr ⟨⟨xs,xs[i],q,by simp [hlt]⟩,Pv (i+1),fun σ' H' p'=>⟨xs.length - (i+1),by lia,rfl,hlt,p'⟩,fun x H' y=>?_⟩;obtain ⟨e,y⟩:=y;subst e;exact hs i x σ _ (y xs q) p
 ·have e:i=xs.length:=by lia
  subst e;exact .inl ⟨⟨xs,q,ar _⟩,hd σ H p⟩
theorem zU {lo:Int} {n:Nat} {g:TG} {tb:TS} {D:Ends} {σ:St} {H:Hp} (Pv:Nat->St->Hp->Prop) (h0:Pv 0 σ H)
  (hs:∀i σ H,i < n->Pv i σ H->g (.int (lo+i)) σ H fun σ2 H2=>tb { D with nx:=Pv (i+1),ct:=Pv (i+1),bk:=D.nx } σ2 H2) (hd:∀σ H,Pv n σ H->D.nx σ H) :
  ∃W:Nat->Nat->St->Hp->Prop,(∃m,W 0 m σ H)/\∀i m σ H,W i m σ H →
   ((Cu lo n).stop i H/\D.nx σ H)\/((Cu lo n).go i H/\∃N:St->Hp->Prop,(∀σ' H',N σ' H'->∃m',m' < m/\W (i+1) m' σ' H')/\∀x H',(Cu lo n).yld i H x H'->g x σ H' fun σ2 H2=>tb { D with nx:=N,ct:=N,bk:=D.nx } σ2 H2):=by
 refine ⟨fun i m σ H=>m=n - i/\i<=n/\Pv i σ H,⟨n,by simp,aT _,h0⟩,?_⟩;rintro i m σ H ⟨rfl,hi,p⟩;by_cases hlt:i < n
 ·refine .inr ⟨hlt,Pv (i+1),fun σ' H' p'=>⟨n - (i+1),by lia,rfl,hlt,p'⟩,fun x H' y=>?_⟩;obtain ⟨e,y⟩:=y;subst e y;exact hs i σ _ hlt p
 ·have e:i=n:=by lia
  subst e;exact .inl ⟨ar _,hd σ H p⟩
abbrev R2:=V->V->Hp->VK->Prop
def xm (X:Cx) (f:Value->Value->Sem Value) (r:R2):Prop :=
 ∀(pins:List (Addr×Obj)) (s:Shared) (σ:St) (H:Hp) (x y:V) (v u:Value) (Q:VK),Inv X pins σ H s->RelV x v->RelV y u->r x y H Q →
  wpAny (model X.prog X.w) X.A (f v u) (EP X pins σ Q) X.xe s
def Ny (X:Cx) (f:Value->Sem Value) (r:V->Hp->VK->Prop):Prop :=
 ∀(pins:List (Addr×Obj)) (s:Shared) (σ:St) (H:Hp) (x:V) (v:Value) (Q:VK),Inv X pins σ H s->RelV x v->r x H Q →
  wpAny (model X.prog X.w) X.A (f v) (EP X pins σ Q) X.xe s
def sI (X:Cx) (f:Value) (r:List V->Hp->VK->Prop):Prop :=
 ∀(pins:List (Addr×Obj)) (s:Shared) (σ:St) (H:Hp) (xs:List V) (us:List Value) (Q:VK),Inv X pins σ H s->cB xs us->r xs H Q →
  wpAny (model X.prog X.w) X.A (call f us) (EP X pins σ Q) X.xe s
def L7 (r:R2) (ta tb:TE):TE:=fun σ H Q=>ta σ H fun x H1=>tb σ H1 fun y H2=>r x y H2 Q
def M7 (r:V->Hp->VK->Prop) (ta:TE):TE:=fun σ H Q=>ta σ H fun x H1=>r x H1 Q
def rI (C:Int->Int->Prop) (g:Int->Int->V):R2:=fun x y H Q=>∃i j,x=.int i/\y=.int j/\C i j/\Q (g i j) H
def Jh (g:Int->Int->V):R2:=fun x y H Q=>∃i j,x=.int i/\y=.int j/\Q (g i j) H
def rU (g:Int->V):V->Hp->VK->Prop:=fun x H Q=>∃i,x=.int i/\Q (g i) H
section
variable {X:Cx} {a b c:Expr} {ta tb tc:TE} {pos:Pos}
theorem LG (ha:PE X a ta) (hb:PE X b tb) {pins:List (Addr×Obj)} {s:Shared} {σ:St} {H:Hp} {R:V->V->Hp->Prop} (I:Inv X pins σ H s)
  (h:ta σ H fun x H1=>tb σ H1 fun y H2=>R x y H2) {Q:Value->Shared->Prop} {f:Value->Value->Sem Value}
  (hf:∀v u s2 x y H2,Inv X pins σ H2 s2->RelV x v->RelV y u->R x y H2->wpAny (model X.prog X.w) X.A (f v u) Q X.xe s2) :
  wpAny (model X.prog X.w) X.A (eval a X.env) (fun v s₁=>wpAny (model X.prog X.w) X.A (eval b X.env) (fun u s₂=>wpAny (model X.prog X.w) X.A (f v u) Q X.xe s₂) X.xe s₁) X.xe s:=by
 refine fY (ha pins s σ H _ I h) fun v s1 ⟨x,H1,I1,r1,q1⟩=>?_
 refine fY (hb pins s1 σ H1 _ I1 q1) fun u s2 ⟨y,H2,I2,r2,q2⟩=>?_
 exact hf v u s2 x y H2 I2 r1 r2 q2
theorem bK {op:Operator} {r:R2} (ho:xm X (binaryOp op) r) (ha:PE X a ta) (hb:PE X b tb):PE X (.BinOp a op b pos) (L7 r ta tb):=by
 intro pins s σ H Q I h;exact wpAny_BinOp (LG ha hb I h fun v u s2 x y H2 I2 rx ry q=>ho pins s2 σ H2 x y v u Q I2 rx ry q)
theorem yc {op:UnaryOp} {r:V->Hp->VK->Prop} (ho:Ny X (unaryOp op) r) (ha:PE X a ta):PE X (.UnaryOp op a pos) (M7 r ta):=by
 intro pins s σ H Q I h;exact UnaryOp_ (fY (ha pins s σ H _ I h) fun v s1 ⟨x,H1,I1,r1,q1⟩=>ho pins s1 σ H1 x v Q I1 r1 q1)
theorem M8 {f:Value->Value->Sem Value} {C:Int->Int->Prop} {g:Int->Int->Int}
  (rule:∀(i j:Int) (t u:Tok) (s:Shared) (Q:Value->Shared->Prop) (E:Value->Shared->Prop),C i j->Q (.int (g i j) s.toks) { s with toks:=s.toks+1 }->wpAny (model X.prog X.w) X.A (f (.int i t) (.int j u)) Q E s) :
  xm X f (rI C fun i j=>.int (g i j)):=by
 intro pins s σ H x y v u Q I rx ry h;obtain ⟨i,j,rfl,rfl,hc,q⟩:=h;obtain ⟨t,rfl⟩:=rx;obtain ⟨t',rfl⟩:=ry;exact rule i j t t' s _ _ hc ⟨.int (g i j),H,I.tok _,⟨_,rfl⟩,q⟩
theorem MB {f:Value->Value->Sem Value} {g:Int->Int->Int}
  (rule:∀(i j:Int) (t u:Tok) (s:Shared) (Q:Value->Shared->Prop) (E:Value->Shared->Prop),Q (.int (g i j) s.toks) { s with toks:=s.toks+1 }->wpAny (model X.prog X.w) X.A (f (.int i t) (.int j u)) Q E s) :
  xm X f (Jh fun i j=>.int (g i j)):=by
 intro pins s σ H x y v u Q I rx ry h;obtain ⟨i,j,rfl,rfl,q⟩:=h;obtain ⟨t,rfl⟩:=rx;obtain ⟨t',rfl⟩:=ry;exact rule i j t t' s _ _ ⟨.int (g i j),H,I.tok _,⟨_,rfl⟩,q⟩
theorem Jq {f:Value->Value->Sem Value} {g:Int->Int->Bool}
  (rule:∀(i j:Int) (t u:Tok) (s:Shared) (Q:Value->Shared->Prop) (E:Value->Shared->Prop),Q (.bool (g i j)) s->wpAny (model X.prog X.w) X.A (f (.int i t) (.int j u)) Q E s) :
  xm X f (Jh fun i j=>.bl (g i j)):=by
 intro pins s σ H x y v u Q I rx ry h;obtain ⟨i,j,rfl,rfl,q⟩:=h;obtain ⟨t,rfl⟩:=rx;obtain ⟨t',rfl⟩:=ry;exact rule i j t t' s _ _ ⟨.bl (g i j),H,I,rfl,q⟩
def LN (i j:Int):Prop:=(-(2^64) < i/\i < 2^64)\/(-(2^64) < j/\j < 2^64)
theorem LN.ok {i j:Int} (h:LN i j):IntMulOk i j:=by
 rcases h with ⟨h1,h2⟩ | ⟨h1,h2⟩
 ·exact .of_left (intBits_le_64 h1 h2)
 ·exact .of_right (intBits_le_64 h1 h2)
theorem fB:xm X (binaryOp .Add) (Jh fun i j=>.int (i+j)):=MB fun _ _ _ _ _ _ _ q=>add_int q
theorem ng:xm X (binaryOp .Sub) (Jh fun i j=>.int (i - j)):=MB fun _ _ _ _ _ _ _ q=>sub_int q
theorem oI:xm X (binaryOp .Mod) (rI (fun _ j=>0 < j) fun i j=>.int (i % j)):=M8 fun i j _ _ _ _ _ hc q=>by
 have h1:(0:Int) < j:=hc;exact mod_int' (by lia) (by rw[Int.fmod_eq_emod_of_nonneg i (by lia)];exact q)
theorem Jp:xm X (binaryOp .Mod) (rI (fun _ j=>j≠0) fun i j=>.int (i.fmod j)):=M8 fun _ _ _ _ _ _ _ hc q=>mod_int' hc q
theorem unI {f:Value->Sem Value} {g:Int->Int}
  (rule:∀(i:Int) (t:Tok) (s:Shared) (Q:Value->Shared->Prop) (E:Value->Shared->Prop),Q (.int (g i) s.toks) { s with toks:=s.toks+1 }->wpAny (model X.prog X.w) X.A (f (.int i t)) Q E s) :
  Ny X f (rU fun i=>.int (g i)):=by
 intro pins s σ H x v Q I rx h;obtain ⟨i,rfl,q⟩:=h;obtain ⟨t,rfl⟩:=rx;exact rule i t s _ _ ⟨.int (g i),H,I.tok _,⟨_,rfl⟩,q⟩
theorem uj:Ny X (unaryOp .USub) (rU fun i=>.int (-i)):=unI fun _ _ _ _ _ q=>neg_int q
end
def Mh:V->V->Bool
 | .non,.non=>true | .non,.int _=>true | .int _,.non=>true | .non,.bl _=>true | .bl _,.non=>true | .non,.str _=>true | .str _,.non=>true
 | .int _,.int _=>true | .bl _,.bl _=>true | .str _,.str _=>true | .byt _,.byt _=>true
 | .int _,.str _=>true | .str _,.int _=>true | .bl _,.str _=>true | .str _,.bl _=>true
 | _,_=>false
def rEq:R2:=fun x y H Q=>Mh x y=true/\Q (.bl (decide (x=y))) H
def rNe:R2:=fun x y H Q=>Mh x y=true/\Q (.bl (!decide (x=y))) H
theorem Ej {i j:Int}:decide (V.int i=V.int j)=(i == j):=by
 rw[mQ];simp
theorem HQ {i j:Bool}:decide (V.bl i=V.bl j)=(i == j):=by
 rw[mQ];simp
theorem Ei {i j:Str}:decide (V.str i=V.str j)=(i == j):=by
 rw[mQ];simp
theorem Ek {i j:Array UInt8}:decide (V.byt i=V.byt j)=(i.toList == j.toList):=by
 rw[mQ];cases i;cases j;simp
section
variable {X:Cx} {a b c:Expr} {ta tb tc:TE} {pos:Pos}
theorem cV {pins:List (Addr×Obj)} {σ:St} {H:Hp} {s:Shared} {Q:VK} {k k':Bool} (I:Inv X pins σ H s) (q:Q (.bl k) H) (e:k=k'):EP X pins σ Q (.bool k') s:=by
 subst e;exact ⟨.bl k,H,I,rfl,q⟩
theorem dW:xm X (compareOp .Eq) rEq:=by
 intro pins s σ H x y v u Q I rx ry h;obtain ⟨hs,q⟩:=h;cases x with
 | non =>
  cases rx;cases y with
  | non=>cases ry;exact PySem.EqNone.eq_none_none (cV I q (by simp))
  | bl j=>cases ry;exact PySem.EqNone.eq_none_bool (cV I q (by simp))
  | int j=>obtain ⟨t',rfl⟩:=ry;exact PySem.EqNone.eq_none_int (cV I q (by simp))
  | str j=>obtain ⟨t',rfl⟩:=ry;exact PySem.EqNone.eq_none_str (cV I q (by simp))
  | _=>exact absurd (show false=true from hs) aX
 | bl i =>
  cases rx;cases y with
  | non=>cases ry;exact PySem.EqNone.eq_bool_none (cV I q (by simp))
  | bl j=>cases ry;exact eq_bool (cV I q HQ)
  | str j=>obtain ⟨t',rfl⟩:=ry;exact PySem.EqMixed.eq_bool_str (cV I q (by simp))
  | _=>exact absurd (show false=true from hs) aX
 | int i =>
  obtain ⟨t,rfl⟩:=rx;cases y with
  | non=>cases ry;exact PySem.EqNone.eq_int_none (cV I q (by simp))
  | int j=>obtain ⟨t',rfl⟩:=ry;exact eq_int (cV I q Ej)
  | str j=>obtain ⟨t',rfl⟩:=ry;exact PySem.EqMixed.eq_int_str (cV I q (by simp))
  | _=>exact absurd (show false=true from hs) aX
 | str i =>
  obtain ⟨t,rfl⟩:=rx;cases y with
  | non=>cases ry;exact PySem.EqNone.eq_str_none (cV I q (by simp))
  | bl j=>cases ry;exact PySem.EqMixed.eq_str_bool (cV I q (by simp))
  | int j=>obtain ⟨t',rfl⟩:=ry;exact PySem.EqMixed.eq_str_int (cV I q (by simp))
  | str j=>obtain ⟨t',rfl⟩:=ry;exact eq_str (cV I q Ei)
  | _=>exact absurd (show false=true from hs) aX
 | byt i =>
  obtain ⟨t,rfl⟩:=rx;cases y with
  | byt j=>obtain ⟨t',rfl⟩:=ry;exact PySem.W.eq_bytes (cV I q Ek)
  | _=>exact absurd (show false=true from hs) aX
 | _=>cases y <;> exact absurd (show false=true from hs) aX
theorem wG:xm X (compareOp .NotEq) rNe:=by
 intro pins s σ H x y v u Q I rx ry h;obtain ⟨hs,q⟩:=h;cases x with
 | non =>
  cases rx;cases y with
  | non=>cases ry;exact PySem.EqNone.ne_none_none (cV I q (by simp))
  | bl j=>cases ry;exact PySem.EqNone.ne_none_bool (cV I q (by simp))
  | int j=>obtain ⟨t',rfl⟩:=ry;exact PySem.EqNone.ne_none_int (cV I q (by simp))
  | str j=>obtain ⟨t',rfl⟩:=ry;exact PySem.EqNone.ne_none_str (cV I q (by simp))
  | _=>exact absurd (show false=true from hs) aX
 | bl i =>
  cases rx;cases y with
  | non=>cases ry;exact PySem.EqNone.ne_bool_none (cV I q (by simp))
  | bl j=>cases ry;exact ne_bool (cV I q (congrArg not HQ))
  | str j=>obtain ⟨t',rfl⟩:=ry;exact PySem.EqMixed.ne_bool_str (cV I q (by simp))
  | _=>exact absurd (show false=true from hs) aX
 | int i =>
  obtain ⟨t,rfl⟩:=rx;cases y with
  | non=>cases ry;exact PySem.EqNone.ne_int_none (cV I q (by simp))
  | int j=>obtain ⟨t',rfl⟩:=ry;exact ne_int (cV I q (congrArg not Ej))
  | str j=>obtain ⟨t',rfl⟩:=ry;exact PySem.EqMixed.ne_int_str (cV I q (by simp))
  | _=>exact absurd (show false=true from hs) aX
 | str i =>
  obtain ⟨t,rfl⟩:=rx;cases y with
  | non=>cases ry;exact PySem.EqNone.ne_str_none (cV I q (by simp))
  | bl j=>cases ry;exact PySem.EqMixed.ne_str_bool (cV I q (by simp))
  | int j=>obtain ⟨t',rfl⟩:=ry;exact PySem.EqMixed.ne_str_int (cV I q (by simp))
  | str j=>obtain ⟨t',rfl⟩:=ry;exact ne_str (cV I q (congrArg not Ei))
  | _=>exact absurd (show false=true from hs) aX
 | byt i =>
  obtain ⟨t,rfl⟩:=rx;cases y with
  | byt j=>obtain ⟨t',rfl⟩:=ry;exact PySem.W.ne_bytes (cV I q (congrArg not Ek))
  | _=>exact absurd (show false=true from hs) aX
 | _=>cases y <;> exact absurd (show false=true from hs) aX
theorem rL:xm X (compareOp .Lt) (Jh fun i j=>.bl (decide (i < j))):=Jq fun _ _ _ _ _ _ _ q=>lt_int q
theorem Mz:xm X (compareOp .LtE) (Jh fun i j=>.bl (decide (i<=j))):=Jq fun _ _ _ _ _ _ _ q=>le_int q
theorem rM:xm X (compareOp .Gt) (Jh fun i j=>.bl (decide (j < i))):=Jq fun _ _ _ _ _ _ _ q=>gt_int q
theorem zM:xm X (compareOp .GtE) (Jh fun i j=>.bl (decide (j<=i))):=Jq fun _ _ _ _ _ _ _ q=>ge_int q
theorem Jo:xm X (compareOp .IsNot) (fun x y H Q=>y=.non/\Q (.bl (!decide (x=.non))) H):=by
 intro pins s σ H x y v u Q I rx ry h;obtain ⟨rfl,q⟩:=h;cases ry;refine isnot_none_gen (cV I q ?_)
 cases x <;> first
  | (cases rx;rfl)
  | (obtain ⟨t,rfl⟩:=rx;rfl)
theorem br (b:Expr) {op:CmpOp} (h:op≠.In:=by decide) (h2:op≠.NotIn:=by decide):behindInMarks op b=false:=by
 have e1:(op == CmpOp.In)=false:=by cases op <;> first | rfl | exact absurd rfl h
 have e2:(op == CmpOp.NotIn)=false:=by cases op <;> first | rfl | exact absurd rfl h2
 cases b <;> simp [behindInMarks,e1,e2]
theorem fA {op:CmpOp} {r:R2} (ho:xm X (compareOp op) r) (ha:PE X a ta) (hb:PE X b tb) (hm:behindInMarks op b=false):PE X (.Compare a [op] [b] pos) (L7 r ta tb):=by
 intro pins s σ H Q I h;exact wpAny_Compare1 (LG ha hb I h fun v u s2 x y H2 I2 rx ry q=>ho pins s2 σ H2 x y v u Q I2 rx ry q) hm
def JN (t:TE):TT:=fun σ H Q=>t σ H fun x H'=>∃k,x=.bl k/\Q k H'
theorem bh {op:CmpOp} {r:R2} (ho:xm X (compareOp op) r) (ha:PE X a ta) (hb:PE X b tb) (hm:behindInMarks op b=false):PT X (.Compare a [op] [b] pos) (JN (L7 r ta tb)):=by
 intro pins s σ H Q I h
 refine wpAny_isTrue_Compare1 (fY (ha pins s σ H _ I h) fun v s1 ⟨x,H1,I1,r1,q1⟩=>fY (hb pins s1 σ H1 _ I1 q1) fun u s2 ⟨y,H2,I2,r2,q2⟩ =>
  fY (ho pins s2 σ H2 x y v u _ I2 r1 r2 q2) fun c s3 ⟨z,H3,I3,r3,k,e,q3⟩=>?_) hm
 subst e;cases r3;exact wpAny_truthy_bool ⟨H3,I3,q3⟩
theorem yD:(sizeLine:Nat) < 2^63:=by rw[sizeLine_eq];decide
theorem vals1 {x:V} {us:List Value} (r:cB [x] us):∃u,us=[u]/\RelV x u:=by
 cases r with
 | cons r1 r2=>cases r2;exact ⟨_,rfl,r1⟩
theorem vals2 {x y:V} {us:List Value} (r:cB [x,y] us):∃u w',us=[u,w']/\RelV x u/\RelV y w':=by
 cases r with
 | cons r1 r2 =>
  cases r2 with
  | cons r3 r4=>cases r4;exact ⟨_,_,rfl,r1,r3⟩
theorem yM:sI X (.builtin "abs") (fun xs H Q=>∃i,xs=[.int i]/\Q (.int (if i < 0 then -i else i)) H):=by
 intro pins s σ H xs us Q I r h;obtain ⟨i,rfl,q⟩:=h;obtain ⟨u,rfl,t,rfl⟩:=vals1 r;exact call_abs_int fun u tk=>⟨.int (if i < 0 then -i else i),H,I.tok _,⟨_,rfl⟩,q⟩
theorem sW (hc:X.calm=true):sI X (.builtin "min") (fun xs H Q=>∃i j,xs=[.int i,.int j]/\Q (.int (if j < i then j else i)) H):=by
 intro pins s σ H xs us Q I r h;obtain ⟨i,j,rfl,q⟩:=h;obtain ⟨u,w',rfl,⟨t,rfl⟩,⟨t',rfl⟩⟩:=vals2 r;refine min_two_ints (I.ok.hd hc) fun h' tk k=>⟨_,H,I.kept k,?_,q⟩
 by_cases hj:j < i
 ·rw[if_pos hj,if_pos hj];exact ⟨_,rfl⟩
 ·rw[if_neg hj,if_neg hj];exact ⟨_,rfl⟩
end
structure DH (h:Heap) (x dx C:Addr) (mA:Str->Option Value):Prop where
 obj:h.get? x=some (PySem.W.instObj C dx)
 ns:h.Ns1 dx mA
 ne:dx≠x
theorem Fg {h:Heap} {dx:Addr} {mA:Str->Option Value} (n:h.Ns1 dx mA):∃od,h.get? dx=some od/\∀name,PySem.W.lookIn name od=some (mA name):=by
 obtain ⟨o,es,ep,ho,hd,hk,_,hm⟩:=n;refine ⟨o,ho,fun name=>?_⟩;have e:=hm name;unfold nsFind findBy at e;rw[<- Array.find?_toList] at e;unfold PySem.W.lookIn;rw[hd]
 dsimp only
 split
 ·rename_i y q
  rw[q] at e;exact congrArg some e
 ·rename_i q
  rw[q] at e
  have a:es.toList.any (·.refKey)=false:=by
   rw[List.any_eq_false];intro y hy;obtain ⟨z,t,hkey⟩:=hk y (Array.mem_toList_iff.mp hy);simp [DictEntry.refKey,hkey]
  have a':¬es.toList.any (·.refKey)=true:=by rw[a];exact aX
  rw[if_neg a'];exact congrArg some e
theorem DH.look {h:Heap} {x dx C:Addr} {mA:Str->Option Value} (I:DH h x dx C mA):∃od,PySem.W.InstAt h x (PySem.W.instObj C dx) C (some od)/\∀name,PySem.W.lookIn name od=some (mA name) :=
 let ⟨od,ho,hl⟩:=Fg I.ns
 ⟨od,⟨I.obj,rfl,rfl,ho⟩,hl⟩
section
variable {prog:Program} {w:World} {A:Around} {E:Value->Shared->Prop} {s:Shared} {K:PySem.W.Frag} {x dx C f:Addr} {mA:Str->Option Value} {name:Str} {v:Value}
theorem get_map {expr:Bool} {Q:Value->Shared->Prop} (X:K.In s.heap) (I:DH s.heap x dx C mA) (hg:PySem.W.plainGet K C name=true) (hh:PySem.W.hasDictIn K C=true)
  (ha:PySem.W.findIn K (.ref C) name=some none) (hv:mA name=some v) (hv':PySem.W.handedIn v=true) (h:Q v { s with toks:=s.toks+1 }) :
  wpAny (model prog w) A (getAttr (.ref x) name expr) Q E s:=by
 obtain ⟨od,J,hl⟩:=I.look;exact PySem.W.get_value X J (Bo hg).1 (PySem.W.findObj_own hh ha rfl (by rw[hl,hv])) hv' h
theorem Hw {pl:Sem Bool} {Q:Value×List Value->Shared->Prop} (X:K.In s.heap) (I:DH s.heap x dx C mA) (hg:PySem.W.plainGet K C name=true)
  (hf:PySem.W.findIn K (.ref C) name=some (some (.ref f))) (ht:PySem.W.isFn K (.ref f)=true) (hv:mA name=none) (h:Q (.ref f,[.ref x]) s) :
  wpAny (model prog w) A (getMethod (.ref x) name pl) Q E s:=by
 obtain ⟨od,J,hl⟩:=I.look;exact PySem.W.method_fn X J (Bo hg).1 (Bo hg).2 hf (beq_iff_eq.mp ht) (by show (PySem.W.lookIn name od).map (·.isSome)=some false;rw[hl,hv];rfl) h
theorem IG {ns:List Str} {Q:Unit->Shared->Prop} (X:K.In s.heap) (I:DH s.heap x dx C mA)
  (hs:PySem.W.findIn K (.ref C) "__setattr__"=some (some (.builtin "object.__setattr__"))) (hp:PySem.W.plainOver K C=true) (ht:PySem.W.takerIn K C name=some none) (hh:PySem.W.hasDictIn K C=true)
  (hw:PySem.Within mA ns) (hsz:ns.length<=sizeLine)
  (h:∀h',DH h' x dx C (fun y=>if y=name then some v else mA y)->Heap.SameBut dx s.heap h'->Q () { s with heap:=h',toks:=s.toks+2 }) :
  wpAny (model prog w) A (setAttr (.ref x) name v) Q E s:=by
 obtain ⟨od,J,hl⟩:=I.look;refine PySem.W.set_plain X J hs (PySem.W.osa_open (s:={ s with toks:=s.toks+1 }) (r:=none) X J hp ht fun b=>?_);obtain ⟨cd,hc,hd'⟩:=PySem.W.any_some hh;have hx:s.heap.get? x=some ⟨.ref C,some dx,.plain,#[]⟩:=I.obj;refine wpAny_bind (wpAny_pure (wpAny_bind (wpAny_bind (wpAny_loadPart hx (wpAny_bind (PySem.W.Looks.here (s:={ s with toks:=s.toks+1 }) (PySem.W.looks_clsIn X hc) ?_))))));rw[hd'];refine wpAny_pure (a:=some dx) (wpAny_bind (wpAny_pure (wpAny_bind ?_)));refine wpAny_nsSet1 (s:={ s with toks:=s.toks+1 }) I.ns fun h' hn2 hs2=>?_
 obtain ⟨oD,esD,epD,hoD,hdD,hcD⟩:=hn2.count (PySem.Within.cons name v hw);refine wpAny_bind (wpAny_lookBehind hoD (by rw[hdD];exact pastItsLine_dict (ah hcD (by rw[aQ];lia))) ?_);exact wpAny_pure (h _ ⟨(hs2.2 _ (Ne.symm I.ne)).trans I.obj,hn2,I.ne⟩ hs2)
theorem GV {R:Result->Shared->Prop} {vs:List Value} {kw:List (Str×Value)} (X:K.In s.heap) (hm:PySem.W.makesIn K C=true)
  (hi:PySem.W.findIn K (.ref C) "__init__"=some (some (.ref f))) (hf:PySem.W.typeIn K (.ref f)=some (.type "function"))
  (h:codeAny (model prog w) (A.under (.builtin "type.__call__" ⟨.ref C :: vs,kw⟩)) (.call (.ref f) ⟨.ref (s.heap.objs.size+1) :: vs,kw⟩) (PySem.W.InitBack (s.heap.objs.size+1) R)
   { s with heap:=(s.heap.push PySem.W.emptyDict).push (PySem.W.instObj C s.heap.objs.size) }) :
  codeAny (model prog w) A (.call (.ref C) ⟨vs,kw⟩) R s:=by
 obtain ⟨hh,g,d,t,os⟩:=s;exact PySem.W.make_core (PySem.W.makes_of X hm) (PySem.W.looks_findIn X hi) (fun self=>PySem.W.bind_fn X self hf) (.inl rfl) h
end
def b6 (f:Str) (v:V):List (Str×V)->List (Str×V)
 | []=>[(f,v)]
 | (g,x) :: r=>if g=f then (g,v) :: r else (g,x) :: b6 f v r
theorem bB (f g:Str) (v:V):∀fs:List (Str×V),(b6 f v fs).lookup g=if g=f then some v else fs.lookup g
 | []=>by
  show List.lookup g [(f,v)]=_
  by_cases h:g=f
  ·have hb:(g == f)=true:=beq_iff_eq.mpr h;simp only[List.lookup,hb,if_pos h]
  ·have hb:(g == f)=false:=beq_eq_false_iff_ne.mpr h;simp only[List.lookup,hb,if_neg h]
 | (k,x) :: r=>by
  have ih:=bB f g v r;rw[show b6 f v ((k,x) :: r)=(if k=f then (k,v) :: r else (k,x) :: b6 f v r) from rfl];by_cases hk:k=f
  ·rw[if_pos hk];by_cases h:g=k
   ·have hb:(g == k)=true:=beq_iff_eq.mpr h;simp only[List.lookup,hb,if_pos (h.trans hk)]
   ·have hb:(g == k)=false:=beq_eq_false_iff_ne.mpr h;simp only[List.lookup,hb,if_neg (fun e:g=f=>h (e.trans hk.symm))]
  ·rw[if_neg hk];by_cases h:g=k
   ·have hb:(g == k)=true:=beq_iff_eq.mpr h;simp only[List.lookup,hb,if_neg (fun e:g=f=>hk (h.symm.trans e))]
   ·have hb:(g == k)=false:=beq_eq_false_iff_ne.mpr h;simp only[List.lookup,hb];exact ih
theorem wa (f:Str) (v:V):∀fs:List (Str×V),f∈(b6 f v fs).map (·.1)/\∀g,g∈fs.map (·.1)->g∈(b6 f v fs).map (·.1)
 | []=>⟨by simp [b6],fun g h=>by simp at h⟩
 | (k,x) :: r=>by
  obtain ⟨i1,i2⟩:=wa f v r;rw[show b6 f v ((k,x) :: r)=(if k=f then (k,v) :: r else (k,x) :: b6 f v r) from rfl];by_cases hk:k=f
  ·rw[if_pos hk];subst hk;exact ⟨by simp,fun g h=>by simpa using h⟩
  ·rw[if_neg hk];refine ⟨?_,fun g h=>?_⟩
   ·rw[fh];exact bN _ i1
   ·rw[fh] at h ⊢;rcases aB.mp h with e | e
    ·exact aB.mpr (.inl e)
    ·exact bN _ (i2 g e)
theorem wN (f:Str) (v:V):∀fs:List (Str×V),(b6 f v fs).length<=fs.length+1
 | []=>by simp [b6]
 | (k,x) :: r=>by
  have ih:=wN f v r;rw[show b6 f v ((k,x) :: r)=(if k=f then (k,v) :: r else (k,x) :: b6 f v r) from rfl];by_cases hk:k=f
  ·rw[if_pos hk,aQ,aQ];lia
  ·rw[if_neg hk,aQ,aQ];lia
theorem zz.some_of {v:V} {o:Option Value} (r:zz (some v) o):∃u,o=some u/\RelV v u:=by
 cases o with
 | none=>exact (show False from r).elim
 | some u=>exact ⟨u,rfl,r⟩
theorem zz.none_of {o:Option Value} (r:zz none o):o=none:=by
 cases o with
 | none=>rfl
 | some u=>exact (show False from r).elim
theorem Fl {v:V} {u:Value} (r:RelV v u):PySem.W.handedIn u=true:=by
 cases v with
 | non=>cases (show u=Value.none from r);rfl
 | bl b=>cases (show u=Value.bool b from r);rfl
 | int i=>obtain ⟨t,e⟩:=(show ∃t,u=Value.int i t from r);cases e;rfl
 | str x=>obtain ⟨t,e⟩:=(show ∃t,u=Value.str x t from r);cases e;rfl
 | byt b=>obtain ⟨t,e⟩:=(show ∃t,u=Value.bytes b t from r);cases e;rfl
 | flt b=>obtain ⟨t,e⟩:=(show ∃t,u=Value.float b t from r);cases e;rfl
 | ref a=>cases (show u=Value.ref a from r);rfl
 | ty n=>cases (show u=Value.type n from r);rfl
section
variable {P:Program} {w:World} {H H':Hp} {h h':Heap} {a C dx:Addr} {fs fs':List (Str×V)}
theorem xE (hok:xN P w H h) (e:H a=some (.ins C dx fs)):∃mA,DH h a dx C mA/\(∀f,zz (fs.lookup f) (mA f))/\PySem.Within mA (fs.map (·.1))/\fs.length<=1000/\H dx=some (.own a):=by
 obtain ⟨d,z,ne,ob,mA,n,r,q⟩:=(show jv P w H h a (.ins C dx fs) from hok a _ e);exact ⟨mA,⟨ob,n,ne⟩,r,q,z,d⟩
end
structure FC (K:PySem.W.Frag) (C:Addr):Prop where
 pg:PySem.W.plainGet K C Str.empty=true
 hd:PySem.W.hasDictIn K C=true
 po:PySem.W.plainOver K C=true
 sa:PySem.W.findIn K (.ref C) "__setattr__"=some (some (.builtin "object.__setattr__"))
theorem FC.get {K:PySem.W.Frag} {C:Addr} (c:FC K C) (f:Str):PySem.W.plainGet K C f=true:=c.pg
def jT (K:PySem.W.Frag) (C:Addr) (f:Str):Prop:=PySem.W.findIn K (.ref C) f=some none
theorem jT.taker {K:PySem.W.Frag} {C:Addr} {f:Str} (n:jT K C f):PySem.W.takerIn K C f=some none:=by
 unfold PySem.W.takerIn;rw[show PySem.W.findIn K (.ref C) f=some none from n];rfl
structure LK (K:PySem.W.Frag) (C:Addr) (m:Str) (f:Addr):Prop where
 at_:PySem.W.findIn K (.ref C) m=some (some (.ref f))
 fn:PySem.W.isFn K (.ref f)=true
 kp:PySem.W.keepIn K (.ref f)=true
section
variable {X:Cx} {pins:List (Addr×Obj)} {σ:St} {H:Hp} {s:Shared} {a C dx:Addr} {fs:List (Str×V)} {f:Str} {v:V} {A:Around} {E:Value->Shared->Prop}
theorem Dv {b:Bool} {Q:Value->Shared->Prop} (I:Inv X pins σ H s) (e:H a=some (.ins C dx fs)) (c:FC X.K C) (n:jT X.K C f) (l:fs.lookup f=some v)
  (h:∀u s',Inv X pins σ H s'->RelV v u->Q u s'):wpAny (model X.prog X.w) A (getAttr (.ref a) f b) Q E s:=by
 obtain ⟨mA,O,r,_,_,_⟩:=xE I.hok e;obtain ⟨u,hu,ru⟩:=zz.some_of (v:=v) (o:=mA f) (by rw[<- l];exact r f);exact get_map I.kIn O (c.get f) c.hd n hu (Fl ru) (h u _ (I.tok _) ru)
theorem Dt {m:Str} {g:Addr} {pl:Sem Bool} {Q:Value×List Value->Shared->Prop} (I:Inv X pins σ H s) (e:H a=some (.ins C dx fs)) (c:FC X.K C) (k:LK X.K C m g) (l:fs.lookup m=none)
  (h:Q (.ref g,[.ref a]) s):wpAny (model X.prog X.w) A (getMethod (.ref a) m pl) Q E s:=by
 obtain ⟨mA,O,r,_,_,_⟩:=xE I.hok e;have hn:mA m=none:=zz.none_of (by rw[<- l];exact r m);exact Hw I.kIn O (c.get m) k.at_ k.fn hn h
theorem CW {y:V} {u:Value} {Q:Unit->Shared->Prop} (I:Inv X pins σ H s) (e:H a=some (.ins C dx fs)) (c:FC X.K C) (n:jT X.K C f) (hl:fs.length < 1000) (ry:RelV y u)
  (h:∀s',Inv X pins σ (upd H a (.ins C dx (b6 f y fs))) s'->Q () s'):wpAny (model X.prog X.w) A (setAttr (.ref a) f u) Q E s:=by
 obtain ⟨mA,O,r,wi,_,ho⟩:=xE I.hok e;have hz:(fs.map (·.1)).length<=sizeLine:=by rw[aj,sizeLine_eq];lia
 refine IG I.kIn O c.sa c.po n.taker c.hd wi hz fun h' O' sb=>h _ ?_
 have hd:∃o,h'.get? dx=some o:=let ⟨o,_,_,e',_⟩:=O'.ns;⟨o,e'⟩
 refine I.write (x:=a) (e:=dx) (by rw[e];exact True.intro) (.inr ho) (fun b q hb z=>(sb.2 b hb).trans z) hd ?_;refine ⟨by rw[be O.ne];exact ho,?_,O.ne,O'.obj,_,O'.ns,fun g=>?_,fun g hg=>?_⟩
 ·have:=wN f y fs;lia
 ·show zz ((b6 f y fs).lookup g) (if g=f then some u else mA g)
  rw[bB];by_cases q:g=f
  ·rw[if_pos q,if_pos q];exact ry
  ·rw[if_neg q,if_neg q];exact r g
 ·by_cases q:g=f
  ·rw[q];exact (wa f y fs).1
  ·refine (wa f y fs).2 g (wi g fun z=>hg ?_);show (if g=f then some u else mA g)=none
   rw[if_neg q];exact z
theorem Inv.made (I:Inv X pins σ H s):Inv X pins σ (upd (upd H s.heap.objs.size (.own (s.heap.objs.size+1))) (s.heap.objs.size+1) (.ins C s.heap.objs.size []))
  { s with heap:=(s.heap.push PySem.W.emptyDict).push (PySem.W.instObj C s.heap.objs.size) }:=by
 have e1:(s.heap.push PySem.W.emptyDict).get? s.heap.objs.size=some PySem.W.emptyDict:=Heap.get?_push_size s.heap rfl
 have e2:((s.heap.push PySem.W.emptyDict).push (PySem.W.instObj C s.heap.objs.size)).get? (s.heap.objs.size+1)=some (PySem.W.instObj C s.heap.objs.size):=by
  have:=Heap.get?_push_size (s.heap.push PySem.W.emptyDict) (o:=PySem.W.instObj C s.heap.objs.size) rfl;rwa [Heap.size_push] at this
 have e3:(s.heap.push PySem.W.emptyDict).Ns s.heap.objs.size (fun _=>none):=⟨PySem.W.emptyDict,#[],_,e1,rfl,(fun e he=>absurd he (by simp)),fun _=>rfl⟩;have I1:=I.laid (a:=s.heap.objs.size) (o:=.own (s.heap.objs.size+1)) (h':=s.heap.push PySem.W.emptyDict) (t':=s.toks) (fun b u q=>Heap.get?_push_of_some _ q) (ar _) ⟨_,e1⟩;refine I1.laid (a:=s.heap.objs.size+1) (o:=.ins C s.heap.objs.size []) (t':=s.toks) (fun b u q=>Heap.get?_push_of_some _ q) (Nat.le_of_eq (Heap.size_push _ _)) ?_;have ne:s.heap.objs.size≠s.heap.objs.size+1:=cw (iw _);refine ⟨by rw[be ne,aG],aT _,ne,e2,fun _=>none,(Heap.Ns1.of_empty e3).at fun o q=>Heap.get?_push_of_some _ q,fun _=>True.intro,fun y hy=>absurd rfl hy⟩
theorem JH {prog:Program} {w:World} {env:Env} {e:Expr} {f:Str} {pos:Pos} {s:Shared} {Q:Value->Shared->Prop} (hb:attributeBase e f env (eval e env)=eval e env)
  (h:wpAny (model prog w) A (eval e env) (fun o s₁=>wpAny (model prog w) A (getAttr o f true) Q E s₁) E s):wpAny (model prog w) A (eval (.Attribute e f pos) env) Q E s :=
 Attribute_any_ h (by rw[arm_eval_Attribute,hb])
end
def Ku (K:PySem.W.Frag) (ta:TE) (f:Str):TE:=fun σ H Q=>ta σ H fun x H1=>∃a C dx fs v,x=.ref a/\H1 a=some (.ins C dx fs)/\FC K C/\jT K C f/\fs.lookup f=some v/\Q v H1
def Mi (K:PySem.W.Frag) (ta tv:TE) (f:Str):TS:=fun D σ H=>tv σ H fun y H1=>ta σ H1 fun x H2=>∃a C dx fs,x=.ref a/\H2 a=some (.ins C dx fs)/\FC K C/\jT K C f/\fs.length < 1000 /\
 D.nx σ (upd H2 a (.ins C dx (b6 f y fs)))
section
variable {X:Cx} {o e value:Expr} {f:Str} {pos pos' tpos:Pos} {ta tv:TE}
theorem jI (he:PE X e ta) (hb:attributeBase e f X.env (eval e X.env)=eval e X.env):PE X (.Attribute e f pos) (Ku X.K ta f):=by
 intro pins s σ H Q I h;refine JH hb (fY (he pins s σ H _ I h) fun u s1 ⟨x,H1,I1,rx,a,C,dx,fs,v,ex,ea,c,n,l,q⟩=>?_);subst ex;obtain rfl:u=Value.ref a:=rx;exact Dv I1 ea c n l fun u' s2 I2 ru=>⟨v,H1,I2,ru,q⟩
theorem vX (ha:PE X o ta) (hv:PE X value tv) (hs:swapsWith value (some (.Attribute o f pos')) pos.line X.env=pure false):PS X (.Assign [.Attribute o f pos'] value pos) (Mi X.K ta tv f):=by
 intro pins s σ H D I h;refine plainObj_wpAny_Assign_Attribute (fY (hv pins s σ H _ I h) fun u s1 ⟨y,H1,I1,ry,q⟩=>fY (ha pins s1 σ H1 _ I1 q) fun ov s2 ⟨x,H2,I2,rx,a,C,dx,fs,ex,ea,c,n,l,q2⟩=>?_) hs;subst ex;obtain rfl:ov=Value.ref a:=rx;exact CW I2 ea c n l ry fun s3 I3=>⟨σ,_,I3,q2⟩
end
section
variable {X:Cx} {pins:List (Addr×Obj)} {σ:St} {H:Hp} {s:Shared} {A:Around} {E:Value->Shared->Prop} {Q:Value->Shared->Prop} {c:Value} {b:Bool}
inductive wg (K:PySem.W.Frag) (H:Hp):V->Value->Prop where
 | non:wg K H .non (.type "NoneType")
 | bl (x:Bool):wg K H (.bl x) (.type "bool")
 | int (i:Int):wg K H (.int i) (.type "int")
 | str (x:Str):wg K H (.str x) (.type "str")
 | flt (x:UInt64):wg K H (.flt x) (.type "float")
 | lst {a:Addr} {xs:List V} (e:H a=some (.lst xs)):wg K H (.ref a) (.type "list")
 | frz {a:Addr} {o:Obj} {xs:List V} (e:H a=some (.frz o (.lst xs))):wg K H (.ref a) (.type "list")
 | tup {a:Addr} {xs:List V} (e:H a=some (.tup xs)):wg K H (.ref a) (.type "tuple")
 | dK {a:Addr} {kvs:List (Key×V)} (e:H a=some (.dK kvs)):wg K H (.ref a) (.type "dict")
 | dT {a:Addr} {kvs:List (List Key×V)} (e:H a=some (.dT kvs)):wg K H (.ref a) (.type "dict")
 | ins {a C dx:Addr} {fs:List (Str×V)} (e:H a=some (.ins C dx fs)) (cl:FC K C) (ha:PySem.W.findIn K (.ref C) "__class__"=some (some (.builtin "object.__class__")))
   (hn:PySem.W.specialIn K (.builtin "object.__class__") "__get__"=some (some (.builtin "getset_descriptor.__get__"))) (htk:PySem.W.takesIn K (.builtin "object.__class__")=some true)
   (hm:PySem.W.mroIn K C (.type "object")=some true):wg K H (.ref a) (.ref C)
theorem zS {x:V} {u t:Value} (I:Inv X pins σ H s) (rx:RelV x u) (ty:wg X.K H x t) (e:PySem.W.kitOne X.K t c=some b) (h:∀tk,Q (.bool b) { s with toks:=tk }) :
  wpAny (model X.prog X.w) A (call (.builtin "isinstance") [u,c]) Q E s:=by
 cases ty with
 | non=>cases (show u=Value.none from rx);exact cX PySem.W.kitx_none I.kIn True.intro e (fun z=>nomatch z) h
 | bl y=>cases (show u=Value.bool y from rx);exact cX PySem.W.kitx_bool I.kIn True.intro e (fun z=>nomatch z) h
 | int i=>obtain ⟨t,q⟩:=(show ∃t,u=Value.int i t from rx);cases q;exact cX PySem.W.kitx_int I.kIn True.intro e (fun z=>nomatch z) h
 | str y=>obtain ⟨t,q⟩:=(show ∃t,u=Value.str y t from rx);cases q;exact cX PySem.W.kitx_str I.kIn True.intro e (fun z=>nomatch z) h
 | flt y=>obtain ⟨t,q⟩:=(show ∃t,u=Value.float y t from rx);cases q;exact cX PySem.W.kitx_float I.kIn True.intro e (fun z=>nomatch z) h
 | @lst a xs ea =>
  cases (show u=Value.ref a from rx);obtain ⟨_,_,n,_,h1⟩:=(show jv X.prog X.w H s.heap a (.lst xs) from I.hok a _ ea);exact cX PySem.W.kitx_list I.kIn ⟨_,h1,rfl⟩ e (fun z=>nomatch z) h
 | @frz a ob xs ea =>
  cases (show u=Value.ref a from rx);obtain ⟨_,_,_,n,_,h1⟩:=(show jv X.prog X.w H s.heap a (.frz ob (.lst xs)) from I.hok a _ ea);exact cX PySem.W.kitx_list I.kIn ⟨_,h1,rfl⟩ e (fun z=>nomatch z) h
 | @tup a xs ea =>
  cases (show u=Value.ref a from rx);obtain ⟨_,_,_,p⟩:=(show jv X.prog X.w H s.heap a (.tup xs) from I.hok a _ ea);obtain ⟨o,h1,h2,_⟩:=p;exact cX PySem.W.kitx_tuple I.kIn ⟨o,h1,h2⟩ e (fun z=>nomatch z) h
 | @dK a kvs ea =>
  cases (show u=Value.ref a from rx);obtain ⟨_,_,vs,_,p⟩:=(show jv X.prog X.w H s.heap a (.dK kvs) from I.hok a _ ea);obtain ⟨o,es,ep,h1,h2,_⟩:=p;exact cX PySem.W.kitx_dict I.kIn ⟨o,h1,h2.1⟩ e (fun z=>nomatch z) h
 | @dT a kvs ea =>
  cases (show u=Value.ref a from rx);obtain ⟨_,_,xs,_,o,es,ep,h1,h2,_⟩:=(show jv X.prog X.w H s.heap a (.dT kvs) from I.hok a _ ea);exact cX PySem.W.kitx_dict I.kIn ⟨o,h1,h2.1⟩ e (fun z=>nomatch z) h
 | @ins a C dx fs ea cl ha hn htk hm =>
  cases (show u=Value.ref a from rx);obtain ⟨mA,O,_⟩:=xE I.hok ea;obtain ⟨od,J,_⟩:=O.look;exact cX (PySem.W.kitx_own (cl.get _) cl.hd ha hn htk hm) I.kIn J e (fun z=>nomatch z) h
end
structure lh (k:Nat) (A:Around):Prop where
 hd:A.handled=none
 dp:A.depth+3*k+5 < recursionLimit
 un:A.units+16*k+200 < cLine
theorem lh.mono {j k:Nat} {A:Around} (r:lh k A) (h:j<=k):lh j A:=⟨r.hd,by have:=r.dp;lia,by have:=r.un;lia⟩
theorem lh.deeper {k:Nat} {A:Around} (r:lh (k+1) A) (env:Env):lh k (A.deeper env) :=
 ⟨r.hd,by have:=r.dp;show A.depth+1+3*k+5 < _;lia,by have:=r.un;show A.units+3+16*k+200 < _;lia⟩
theorem Dp {A:Around} {C:Addr} {us:List Value} {kw:List (Str×Value)}:(A.under (.builtin "type.__call__" ⟨.ref C :: us,kw⟩)).depth=A.depth+1:=by
 first | rfl | simp [Around.under,Code.weight,Code.isCreation,Code.isGuard,Code.isCaller,Code.frames,Code.isFrame,guardIds]
theorem Dn {A:Around} {C:Addr} {us:List Value} {kw:List (Str×Value)}:(A.under (.builtin "type.__call__" ⟨.ref C :: us,kw⟩)).units=A.units+1:=by
 first | rfl | simp [Around.under,Code.cUnits,Code.frames,Code.isFrame]
theorem lh.make {k:Nat} {A:Around} (r:lh (k+1) A) (C:Addr) (us:List Value) (kw:List (Str×Value)):lh k (A.under (.builtin "type.__call__" ⟨.ref C :: us,kw⟩)) :=
 ⟨r.hd,by have:=r.dp;rw[Dp];lia,by have:=r.un;rw[Dn];lia⟩
theorem lh.depth {k:Nat} {A:Around} (r:lh k A):A.depth < recursionLimit:=by have:=r.dp;lia
theorem lh.units {k:Nat} {A:Around} (r:lh k A):A.units+64 < cLine:=by have:=r.un;lia
def Bt:TA:=fun _ H Q=>Q [] H
def rA (ta:TE) (tr:TA):TA:=fun σ H Q=>ta σ H fun x H1=>tr σ H1 fun xs H2=>Q (x :: xs) H2
section
variable {X:Cx} {e:Expr} {es:List Expr} {te:TE} {t:TA} {pos:Pos}
theorem ai:PA X [] Bt:=fun _ _ _ _ H Q I h=>Calls.spliced_nil ⟨[],H,I,.nil,h⟩
theorem ae (ha:PE X e te) (hr:PA X es t) (hs:starEach (e :: es) X.env=(false,eval e X.env) :: starEach es X.env:=by rfl):PA X (e :: es) (rA te t):=by
 intro pos pins s σ H Q I h;rw[hs];show wpAny _ _ (spliced ((false,eval e X.env) :: backTo pos (starEach es X.env))) _ _ s
 refine Calls.spliced_cons (fY (ha pins s σ H _ I h) fun u s1 ⟨x,H1,I1,r1,q1⟩=>?_);exact fY (hr pos pins s1 σ H1 _ I1 q1) fun us s2 ⟨xs,H2,I2,r2,q2⟩=>⟨x :: xs,H2,I2,.cons r1 r2,q2⟩
def LZ (t:TA):TE:=fun σ H Q=>t σ H fun xs H1=>xs.length<=sizeLine/\∀p,H1 p=none->Q (.ref p) (upd H1 p (.tup xs))
def L9 (t:TA):TE:=fun σ H Q=>t σ H fun xs H1=>xs.length<=sizeLine/\∀p,H1 p=none->Q (.ref p) (upd H1 p (.lst xs))
theorem de {x1} (h:PA X es t):PE X (.Tuple es x1 pos) (LZ t):=by
 intro pins s σ H Q I hq;refine wpAny_Tuple_spliced (fY (h pos pins s σ H _ I hq) fun us s1 ⟨xs,H1,I1,r,z,q⟩=>⟨by rw[<- r.length];exact z,?_⟩);have hf:H1 s1.heap.objs.size=none:=I1.hok.fresh (ar _);refine ⟨.ref s1.heap.objs.size,upd H1 s1.heap.objs.size (.tup xs),I1.laid (t':=s1.toks) (fun b u e=>Heap.get?_push_of_some _ e) (ar _) ?_,rfl,q _ hf⟩;exact ⟨z,us,r,⟨_,Heap.get?_push_size _ rfl,rfl,_,rfl⟩⟩
theorem eF (h:PA X es t):PE X (.List es pos) (L9 t):=by
 intro pins s σ H Q I hq;refine wpAny_List_spliced (fY (h pos pins s σ H _ I hq) fun us s1 ⟨xs,H1,I1,r,z,q⟩=>⟨by rw[<- r.length];exact z,?_⟩);have hf:H1 s1.heap.objs.size=none:=I1.hok.fresh (ar _);refine ⟨.ref s1.heap.objs.size,upd H1 s1.heap.objs.size (.lst xs),I1.laid (t':=s1.toks) (fun b u e=>Heap.get?_push_of_some _ e) (ar _) ?_,rfl,q _ hf⟩;exact ⟨z,us,0,r,Heap.get?_push_size _ rfl⟩
end
abbrev Sp:=List V->Hp->VK->XK->Prop
abbrev Ig:=List Env->Hp->Shared->XK->Value->Shared->Prop
structure DI (P:Program) (w:World) (K:PySem.W.Frag) (mg:Str->Option Value) (base:Heap) (A:Around) (outer:List Env) (s:Shared) (H:Hp):Prop where
 frames:A.frames=some outer
 mod:Mod K mg base
 bs:∀b o,base.get? b=some o->s.heap.get? b=some o/\H b=none
 bsz:base.objs.size<=s.heap.objs.size
 funs:s.heap.FunFrames base outer
 frf:∀b∈Fz outer,H b=none
 hok:xN P w H s.heap
 bare:AllBare s.gens
def CE (outer:List Env) (P:Program) (w:World) (H:Hp) (s:Shared) (Q:VK) (u:Value) (s':Shared):Prop :=
 ∃v H',s'.os=s.os/\AllBare s'.gens/\Un (Fz outer) [] H H' s.heap s'.heap/\xN P w H' s'.heap/\RelV v u/\Q v H'
def CR (CX:Ig) (outer:List Env) (P:Program) (w:World) (H:Hp) (s:Shared) (Q:VK) (E:XK) (r:Result) (s':Shared):Prop :=
 match r with
 | .ok (.ret u)=>CE outer P w H s Q u s'
 | .ok _=>False
 | .error e=>CX outer H s E e s'
structure cC (P:Program) (w:World) (K:PySem.W.Frag) (mg:Str->Option Value) (base:Heap) (CX:Ig) (k:Nat) (f:Addr) (fd:FuncData) (ps:List Str) (sp:Sp):Prop where
 len:∀vs H Q E,sp vs H Q E->vs.length=ps.length
 run:∀(A:Around) (outer:List Env) (s:Shared) (H:Hp) (args:Args) (us:List Value) (vs:List V) (Q:VK) (E:XK),lh k A->DI P w K mg base A outer s H->BindsTo s fd args (ps.zip us)->cB vs us->sp vs H Q E →
  codeAny (model P w) A (.call (.ref f) args) (CR CX outer P w H s Q E) s
theorem DI.make {P:Program} {w:World} {K:PySem.W.Frag} {mg:Str->Option Value} {base:Heap} {A:Around} {outer:List Env} {s:Shared} {H:Hp} (e:DI P w K mg base A outer s H) (C:Addr) (us:List Value) (kw:List (Str×Value)) :
  DI P w K mg base (A.under (.builtin "type.__call__" ⟨.ref C :: us,kw⟩)) outer s H:=⟨by first | exact e.frames | (simpa [Around.under,Code.envs,Code.isFrame,pushEnvs] using e.frames),e.mod,e.bs,e.bsz,e.funs,e.frf,e.hok,e.bare⟩
section
variable {X:Cx} {pins:List (Addr×Obj)} {σ:St} {H:Hp} {s s':Shared}
theorem Inv.env0 (I:Inv X pins σ H s):DI X.prog X.w X.K X.mg X.base X.A X.stack s H :=
 ⟨I.ok.frames,I.ok.mod,I.bs,ah I.ok.bsz I.sz,I.stack,I.stkFree,I.hok,I.bare⟩
theorem Inv.after {Q:VK} {u:Value} (I:Inv X pins σ H s) (h:CE X.stack X.prog X.w H s Q u s'):EP X pins σ Q u s':=by
 obtain ⟨v,H',os,bare,un,hok,r,q⟩:=h;obtain ⟨hh,g,d,t,os'⟩:=s';obtain rfl:os'=s.os:=os;exact ⟨v,H',I.call (h':=hh) (g':=g) (d':=d) (t':=t) (ch:=[]) un hok bare (fun b z=>absurd z (by simp)),r,q⟩
end
def DK (sp:Sp) (dvs:List V) (E:XK) (t:TA):TE:=fun σ H Q=>t σ H fun vs H1=>sp (vs++dvs) H1 Q E
def JR (C:Addr) (m:Str) (sp:Sp) (dvs:List V) (E:XK) (ta:TE) (t:TA):TE:=fun σ H Q=>ta σ H fun x H1=>∃a dx fs,x=.ref a/\H1 a=some (.ins C dx fs)/\fs.lookup m=none /\
 t σ H1 fun vs H2=>sp (x :: (vs++dvs)) H2 Q E
def JS (C:Addr) (sp:Sp) (dvs:List V) (E:XK) (t:TA):TE:=fun σ H Q=>t σ H fun vs H1=>∀x dx,H1 x=none->H1 dx=none->dx≠x →
 sp (.ref x :: (vs++dvs)) (upd (upd H1 dx (.own x)) x (.ins C dx [])) (fun v H2=>v=.non/\Q (.ref x) H2) E
def Binds (K:PySem.W.Frag) (fd:FuncData) (ps:List Str) (ds:List Value):Prop :=
 ∀(s:Shared) (us:List Value),K.In s.heap->(us++ds).length=ps.length->BindsTo s fd ⟨us,[]⟩ (ps.zip (us++ds))
theorem Binds.all {K:PySem.W.Frag} {fd:FuncData} {ps:List Str} (h:∀us:List Value,us.length=ps.length->bindArgs fd ⟨us,[]⟩=pure (ps.zip us)):Binds K fd ps []:=fun s us _ hl=>by
 rw[jy] at hl ⊢;exact .of_eq (h us hl)
def uH (CX:Ig) (X:Cx) (E:XK):Prop:=∀(pins:List (Addr×Obj)) (σ:St) (H:Hp) (s:Shared) (e:Value) (s':Shared),Inv X pins σ H s->CX X.stack H s E e s'->X.xe e s'
section
variable {X:Cx} {CX:Ig} {k:Nat} {f C:Addr} {fd:FuncData} {ps:List Str} {sp:Sp} {dvs:List V} {ds:List Value} {E:XK} {x m:Str} {p pos apos:Pos} {e o:Expr} {es:List Expr} {ta:TE} {t:TA}
theorem C2 {pins:List (Addr×Obj)} {σ:St} {H:Hp} {s:Shared} {Q:VK} {us:List Value} {vs:List V} (F:cC X.prog X.w X.K X.mg X.base CX k f fd ps sp) (hr:lh k X.A) (hb:Binds X.K fd ps ds) (hd:cB dvs ds) (hx:uH CX X E)
  (I:Inv X pins σ H s) (r:cB vs us) (h:sp (vs++dvs) H Q E):wpAny (model X.prog X.w) X.A (call (.ref f) us) (EP X pins σ Q) X.xe s:=by
 have r2:cB (vs++dvs) (us++ds):=r.append hd;have hl:(us++ds).length=ps.length:=by rw[<- r2.length];exact F.len _ _ _ _ h
 refine wpAny_call (codeAny_mono (F.run X.A X.stack s H ⟨us,[]⟩ (us++ds) (vs++dvs) Q E hr I.env0 (hb s us I.kIn hl) r2 h) fun r s' hq=>?_);cases r with
 | error e=>exact hx pins σ H s e s' I hq
 | ok fl =>
  cases fl with
  | ret u=>exact I.after hq
  | next=>exact False.elim hq
  | brk=>exact False.elim hq
  | cont=>exact False.elim hq
theorem Jn (F:cC X.prog X.w X.K X.mg X.base CX k f fd ps sp) (hr:lh k X.A) (hg:Gl X x) (hm:X.mg x=some (.ref f)) (hk:PySem.W.keepIn X.K (.ref f)=true) (hb:Binds X.K fd ps ds) (hd:cB dvs ds) (hx:uH CX X E)
  (ha:PA X (e :: es) t) (hdb:(x == ("__debug__":Str))=false:=by decide) (he:starEach (e :: es) X.env=(false,eval e X.env) :: starEach es X.env:=by rfl) (hpl:(backTo pos (starEach es X.env)).any (·.1)=false:=by rfl) :
  PE X (.Call (.Name x p) (e :: es) [] pos) (DK sp dvs E t):=by
 intro pins s σ H Q I h;refine wpAny_Call_Name_kw (xC I hg hm ?_ hdb);refine PySem.W.callWith_K (h₀:=X.base) I.ok.mod.kin hk (fY (ha pos pins s σ H _ I h) fun us s1 ⟨vs,H1,I1,r,q⟩=>⟨I1.kIn,?_⟩) he hpl;exact C2 F hr hb hd hx I1 r q
theorem GH (F:cC X.prog X.w X.K X.mg X.base CX k f fd ps sp) (hr:lh k X.A) (hg:Gl X x) (hm:X.mg x=some (.ref f)) (hk:PySem.W.keepIn X.K (.ref f)=true) (hb:Binds X.K fd ps ds) (hd:cB dvs ds) (hx:uH CX X E)
  (hdb:(x == ("__debug__":Str))=false:=by decide):PE X (.Call (.Name x p) [] [] pos) (DK sp dvs E Bt):=by
 intro pins s σ H Q I h;refine wpAny_Call_Name_kw (xC I hg hm ?_ hdb);exact PySem.W.callWith_K0 I.kIn hk (C2 (us:=[]) F hr hb hd hx I .nil h)
theorem GD {pl : Sem Bool} (he : PE X o ta) (c : FC X.K C) (hm : LK X.K C m f) (F : cC X.prog X.w X.K X.mg X.base CX k f fd ps sp) (hr : lh k X.A) (hb : Binds X.K fd ps ds) (hd : cB dvs ds) (hx : uH CX X E)
    (ht : eval (.Call (.Attribute o m apos) [] [] pos) X.env = (do
      let ov <- eval o X.env
      standAt apos.atName
      let (f, first) <- holding [ov] (getMethod ov m pl)
      callWith pos f first (backTo pos (starEach [] X.env)) (backToKw pos (keywordEach [] X.env))) := by rfl) :
    PE X (.Call (.Attribute o m apos) [] [] pos) (JR C m sp dvs E ta Bt) := by
  intro pins s σ H Q I h;refine PySem.W.methodCall_KW (pl := pl) (fY (he pins s σ H _ I h) fun u s1 ⟨x, H1, I1, rx, a, dx, fs, ex, ea, l, q⟩ => ?_) ht;subst ex;obtain rfl : u = Value.ref a := rx;refine Dt I1 ea c hm l ?_;exact PySem.W.callWith_K0 (first := [.ref a]) I1.kIn hm.kp (C2 (us := [.ref a]) (vs := [.ref a]) F hr hb hd hx I1 (.cons rfl .nil) q)

structure Mk (K:PySem.W.Frag) (C f:Addr):Prop where
 makes:PySem.W.makesIn K C=true
 init:PySem.W.findIn K (.ref C) "__init__"=some (some (.ref f))
 fn:PySem.W.isFn K (.ref f)=true
 kp:PySem.W.keepIn K (.ref C)=true
theorem Gj {pins:List (Addr×Obj)} {σ:St} {H:Hp} {s:Shared} {Q:VK} {us:List Value} {vs:List V} (M:Mk X.K C f) (F:cC X.prog X.w X.K X.mg X.base CX k f fd ps sp) (hr:lh (k+1) X.A) (hb:Binds X.K fd ps ds) (hd:cB dvs ds)
  (hx:uH CX X E) (I:Inv X pins σ H s) (r:cB vs us)
  (h:∀x dx,H x=none->H dx=none->dx≠x->sp (.ref x :: (vs++dvs)) (upd (upd H dx (.own x)) x (.ins C dx [])) (fun v H2=>v=.non/\Q (.ref x) H2) E) :
  wpAny (model X.prog X.w) X.A (call (.ref C) us) (EP X pins σ Q) X.xe s:=by
 have hq:=h (s.heap.objs.size+1) s.heap.objs.size (I.hok.fresh (Ah _)) (I.hok.fresh (ar _)) (cw (iw _));have I2:=Inv.made (C:=C) I;have r2:cB (V.ref (s.heap.objs.size+1) :: (vs++dvs)) (Value.ref (s.heap.objs.size+1) :: (us++ds)):=.cons rfl (r.append hd)
 have hl:(Value.ref (s.heap.objs.size+1) :: us++ds).length=ps.length:=by
  have e:=r2.length;rw[F.len _ _ _ _ hq] at e;exact e.symm
 refine wpAny_call (GV (f:=f) I.kIn M.makes M.init (beq_iff_eq.mp M.fn) (codeAny_mono (F.run _ X.stack _ _ ⟨Value.ref (s.heap.objs.size+1) :: us,[]⟩ (Value.ref (s.heap.objs.size+1) :: (us++ds)) _ _ E (hr.make C us [])
  (I2.env0.make C us []) (hb _ (Value.ref (s.heap.objs.size+1) :: us) I2.kIn hl) r2 hq) fun r s' hq'=>?_))
 cases r with
 | error e=>exact hx pins σ _ _ e s' I2 hq'
 | ok fl =>
  cases fl with
  | ret u =>
   obtain ⟨v,H',I3,rv,ev,q3⟩:=I2.after hq';subst ev;exact ⟨rv,⟨V.ref (s.heap.objs.size+1),H',I3,rfl,q3⟩⟩
  | next=>exact False.elim hq'
  | brk=>exact False.elim hq'
  | cont=>exact False.elim hq'
theorem AG (M:Mk X.K C f) (F:cC X.prog X.w X.K X.mg X.base CX k f fd ps sp) (hr:lh (k+1) X.A) (hg:Gl X x) (hm:X.mg x=some (.ref C)) (hb:Binds X.K fd ps ds) (hd:cB dvs ds) (hx:uH CX X E)
  (ha:PA X (e :: es) t) (hdb:(x == ("__debug__":Str))=false:=by decide) (he:starEach (e :: es) X.env=(false,eval e X.env) :: starEach es X.env:=by rfl) (hpl:(backTo pos (starEach es X.env)).any (·.1)=false:=by rfl) :
  PE X (.Call (.Name x p) (e :: es) [] pos) (JS C sp dvs E t):=by
 intro pins s σ H Q I h;refine wpAny_Call_Name_kw (xC I hg hm ?_ hdb);refine PySem.W.callWith_K (h₀:=X.base) I.ok.mod.kin M.kp (fY (ha pos pins s σ H _ I h) fun us s1 ⟨vs,H1,I1,r,q⟩=>⟨I1.kIn,?_⟩) he hpl;exact Gj M F hr hb hd hx I1 r q
end
structure aZ (N P:List Str) (sc:Scope):Prop where
 kind:sc.kind=.function
 co:sc.isCoroutine=false
 gen:sc.isGenerator=false
 nd:N.Nodup
 pre:N.take P.length=P
 par:∀x∈P,sc.names.lookup x=some .local\/sc.names.lookup x=some .cell
 nofree:∀y∈sc.names,y.2≠.free
theorem z6 {kindOf:Str->Option NameKind} {x:Str}:∀{binds:List (Str×Value)} {m:Str->Option Value},(∀v,(x,v)∉binds)->bindL kindOf binds m x=m x
 | [],_,_=>rfl
 | (n,v) :: r,m,h=>by
  unfold bindL;rw[z6 fun w hw=>h w (bN _ hw)]
  split
  ·have:x≠n:=by rintro rfl;exact h v cT
   simp [this]
  ·rfl
theorem z8 {kindOf:Str->Option NameKind} {x:Str}:∀{binds:List (Str×Value)} {m:Str->Option Value},(∀v,(x,v)∉binds)->bindC kindOf binds m x=m x
 | [],_,_=>rfl
 | (n,v) :: r,m,h=>by
  unfold bindC;rw[z8 fun w hw=>h w (bN _ hw)]
  split
  ·rfl
  ·have:x≠n:=by rintro rfl;exact h v cT
   simp [this]
theorem z7 {kindOf:Str->Option NameKind} {x:Str} {v:Value}:∀{P:List Str} {vs:List Value} {i:Nat} {m:Str->Option Value},P.Nodup->P[i]?=some x->vs[i]?=some v->kindOf x=some .local →
  bindL kindOf (P.zip vs) m x=some v
 | [],_,_,_,_,h,_,_=>by simp at h
 | _ :: _,[],_,_,_,_,h,_=>by simp at h
 | p :: P,w :: vs,0,m,nd,h1,h2,hk=>by
  simp at h1 h2;subst h1;subst h2;show bindL kindOf ((p,w) :: P.zip vs) m p=_
  unfold bindL;rw[z6 fun v hv=>(dQ.mp nd).1 (Ij hv).1,if_pos hk];simp
 | p :: P,w :: vs,i+1,m,nd,h1,h2,hk=>by
  show bindL kindOf ((p,w) :: P.zip vs) m x=_
  unfold bindL;exact z7 (i:=i) (dQ.mp nd).2 (by simpa using h1) (by simpa using h2) hk
theorem z9 {kindOf:Str->Option NameKind} {x:Str} {v:Value}:∀{P:List Str} {vs:List Value} {i:Nat} {m:Str->Option Value},P.Nodup->P[i]?=some x->vs[i]?=some v->kindOf x≠some .local →
  bindC kindOf (P.zip vs) m x=some v
 | [],_,_,_,_,h,_,_=>by simp at h
 | _ :: _,[],_,_,_,_,h,_=>by simp at h
 | p :: P,w :: vs,0,m,nd,h1,h2,hk=>by
  simp at h1 h2;subst h1;subst h2;show bindC kindOf ((p,w) :: P.zip vs) m p=_
  unfold bindC;rw[z8 fun v hv=>(dQ.mp nd).1 (Ij hv).1,if_neg hk];simp
 | p :: P,w :: vs,i+1,m,nd,h1,h2,hk=>by
  show bindC kindOf ((p,w) :: P.zip vs) m x=_
  unfold bindC;exact z9 (i:=i) (dQ.mp nd).2 (by simpa using h1) (by simpa using h2) hk
def start (N:List Str) (vs:List V):St:=vs.map some++List.replicate (N.length - vs.length) none
def Fo (CX:Ig) (P:Program) (w:World) (K:PySem.W.Frag) (mg:Str->Option Value) (base:Heap) (N:List Str) (qual:Str) (scope:Scope) (f:Addr) (cd:Value) (A:Around) (outer:List Env) (s:Shared) (H:Hp) (E:XK):Cx where
 prog:=P
 w:=w
 K:=K
 mg:=mg
 base:=base
 A:=A.deeper (envOfC qual scope s.heap.objs.size f cd)
 N:=N
 s₀:=s
 H₀:=H
 env:=envOfC qual scope s.heap.objs.size f cd
 outer:=outer
 stack:=envOfC qual scope s.heap.objs.size f cd :: outer
 ex:=[]
 calm:=true
 fn:=fun _=>true
 pn:=[]
 xe:=fun e s'=>wpAny (model P w) (A.deeper (envOfC qual scope s.heap.objs.size f cd)) (leaving (envOfC qual scope s.heap.objs.size f cd) e) (fun _ s''=>CX outer H s E e s'') (fun e' s''=>CX outer H s E e' s'') s'
theorem Cm {sc:Scope} {n:Nat} {x:Str} (h:sc.names.lookup x=some .cell):∃c,(cellsFrom n sc.names []).lookup x=some c:=by
 have q:=xO sc.names n [] (.inl h);exact LU.mp q
theorem Fh {CX:Ig} {P:Program} {w:World} {K:PySem.W.Frag} {mg:Str->Option Value} {base:Heap} {N ps:List Str} {qual:Str} {scope:Scope} {f:Addr} {cd:Value} {A:Around} {outer:List Env} {s s1:Shared} {H:Hp} {E:XK} {us:List Value} {vs:List V}
  (S:aZ N ps scope) (hd:A.handled=none) (e0:DI P w K mg base A outer s H) (hl:vs.length=ps.length) (r:cB vs us)
  (x:InCallC s s.heap.objs.size (bindL (envOfC qual scope s.heap.objs.size f cd).kindOf (ps.zip us) fun _=>none) (cellsFrom (s.heap.objs.size+1) scope.names []) (bindC (envOfC qual scope s.heap.objs.size f cd).kindOf (ps.zip us) fun _=>none) s1) :
  Inv (Fo CX P w K mg base N qual scope f cd A outer s H E) [] (start N vs) H s1:=by
 have hpl:ps.length<=N.length:=by have:=congrArg List.length S.pre;rw[dt] at this;lia
 obtain ⟨h1,tk,rfl,hk⟩:=x.done;have noA:∀b:Addr,b∉(Fo CX P w K mg base N qual scope f cd A outer s H E).ex:=fun b z=>absurd (show b∈([]:List Addr) from z) (by simp)
 refine ⟨⟨e0.mod,S.kind,rfl,rfl,ar _,fun y z c h1 h2=>?_,fun y hy=>?_,fun y c _ h=>?_,fun _=>hd,Around.frames_deeper e0.frames,.inr ⟨rfl,rfl⟩,fun b z=>absurd z (noA b),e0.bs,e0.bsz,fun b _ _=>noA b,fun b z=>absurd z (noA b),e0.funs,e0.frf⟩,
  rfl,e0.bare,Un.kept hk,⟨_,x.toInCall.ns,fun i y v h1 h2 h3=>?_⟩,fun y c h=>⟨_,x.cell y c h⟩,e0.hok.fresh (ar _),fun y c h=>?_,fun p hp=>absurd (show p∈([]:List (Addr×Obj)) from hp) (by simp),e0.hok.kept hk,?_⟩
 ·exact name_of_addr x.apart (lD h1) (lD h2)
 ·have hy:scope.names.lookup y=some .cell\/scope.names.lookup y=some .free:=hy;rcases hy with hy | hy
  ·exact Cm hy
  ·exact absurd rfl (S.nofree _ (lD hy))
 ·exact bC (x.above y c (lD h))
 ·have hi:i < vs.length:=by
   unfold start at h2;by_cases hi:i < vs.length
   ·exact hi
   ·rw[b7 (by simpa using hi)] at h2;rw[nG] at h2
    split at h2 <;> cases h2
  have ha:vs[i]?=some v:=by
   unfold start at h2;rw[dd (by simpa using hi),aJ] at h2;cases e:vs[i]? with
   | none=>rw[e] at h2;cases h2
   | some a=>rw[e] at h2;cases h2;rfl
  obtain ⟨u,hu,rv⟩:=r.get ha
  have hp:ps[i]?=some y:=by
   rw[<- S.pre,vO (by lia)];exact h1
  have ndP:ps.Nodup:=by rw[<- S.pre];exact S.nd.sublist (List.take_sublist _ _)
  refine ⟨u,rv,?_⟩;rcases S.par y (ay hp) with k | k
  ·exact .inl ⟨k,z7 ndP hp hu k⟩
  ·obtain ⟨c,e⟩:=Cm (n:=s.heap.objs.size+1) k;refine .inr ⟨.inl k,c,e,?_⟩;have q:=x.cell y c e;rw[z9 ndP hp hu (by show scope.names.lookup y≠_;rw[k];decide)] at q;exact q
 ·exact e0.hok.fresh (bC (x.above y c (lD h)))
 ·unfold start;show _=N.length
  rw[ao,aj,List.length_replicate]
  lia
theorem MO {CX:Ig} {P:Program} {w:World} {K:PySem.W.Frag} {mg:Str->Option Value} {base:Heap} {k:Nat} {f:Addr} {name qual:Str} {params:Arguments} {body:List Stmt} {scope:Scope} {dV kV doc pm cdv ct oc:Value} {an od:Option Addr}
  {osl:Array (Option Value)} {N ps:List Str} {sp:Sp} (lk:K.lookup f=some ⟨oc,od,.func (PySem.W.fnOf name qual params body scope dV kV doc pm an cdv ct),osl⟩) (hcd:PySem.W.codeIn K cdv qual=true) (S:aZ N ps scope)
  (len:∀vs H Q E,sp vs H Q E->vs.length=ps.length)
  (hbody:∀(A:Around) (outer:List Env) (s:Shared) (H:Hp) (vs:List V) (Q:VK) (E:XK),lh k (A.deeper (envOfC qual scope s.heap.objs.size f cdv))->sp vs H Q E →
   ∃t,DG (Fo CX P w K mg base N qual scope f cdv A outer s H E) body t/\t { nx:=fun _ H'=>Q .non H',rt:=Q } (start N vs) H) :
  cC P w K mg base CX (k+1) f (PySem.W.fnOf name qual params body scope dV kV doc pm an cdv ct) ps sp:=by
 refine ⟨len,fun A outer s H args us vs Q E hr e0 hb r hsp=>?_⟩;have hl:=len _ _ _ _ hsp;have KX:K.In s.heap:=e0.mod.kin.keeps fun b o e=>(e0.bs b o e).1
 have lim:s.heap.NoLimit:=e0.mod.nolimit.keeps fun b o e=>(e0.bs b o e).1
 have hkind:∀y∈ps.zip us,scope.names.lookup y.1=some .local\/(scope.names.lookup y.1=some .cell/\((cellsFrom (s.heap.objs.size+1) scope.names []).lookup y.1).isSome=true):=fun ⟨n,v⟩ hy=>by
  rcases S.par n (Ij hy).1 with q | q
  ·exact .inl q
  ·exact .inr ⟨q,xO _ _ _ (.inl q)⟩
 refine codeAny_call_function hr.depth (KX _ _ lk) rfl S.co S.gen rfl (PySem.W.codeRec_of KX hcd) (hb _ _ _ _ ?_);refine wpAny_newFunctionEnv_cells S.kind hkind fun env he s1 x=>?_
 subst he;refine ⟨lim.keeps x.toInCall.keep,codeAny_func ?_⟩;obtain ⟨t,ht,hq⟩:=hbody A outer s H vs Q E (hr.deeper _) hsp;have I:Inv (Fo CX P w K mg base N qual scope f cdv A outer s H E) [] (start N vs) H s1:=Fh S hr.hd e0 hl r x;refine wpAny_mono (ht [] s1 (start N vs) H _ I hq) (fun fl s' hs=>?_) fun e s' hs=>hs
 have fin:∀{σ':St} {H':Hp} {v:V} {u:Value},Inv (Fo CX P w K mg base N qual scope f cdv A outer s H E) [] σ' H' s'->RelV v u->Q v H'->CE outer P w H s Q u s' :=
  fun {σ' H' v u} J rv q=>⟨v,H',J.os,J.bare,J.base,J.hok,rv,q⟩
 cases fl with
 | ret u =>
  obtain ⟨v,σ',H',J,rv,q⟩:=hs;exact fin J rv q
 | next =>
  obtain ⟨σ',H',J,q⟩:=hs;exact fin (v:=V.non) (u:=Value.none) J rfl q
 | brk =>
  obtain ⟨_,_,_,q⟩:=hs;exact False.elim q
 | cont =>
  obtain ⟨_,_,_,q⟩:=hs;exact False.elim q
section
variable {X:Cx} {x:Str} {p pos:Pos} {e:Expr} {es:List Expr} {t:TA} {id T:String} {r:List V->Hp->VK->Prop}
def Nh (r:List V->Hp->VK->Prop) (t:TA):TE:=fun σ H Q=>t σ H fun vs H1=>r vs H1 Q
theorem bH (hc:sI X (.builtin id) r) (hg:Gl X x) (hm:X.mg x=none) (hv:bootBuiltins x=some (.builtin id)) (ha:PA X (e :: es) t) (hn:x≠"__name__":=by decide) (hdb:(x == ("__debug__":Str))=false:=by decide)
  (he:starEach (e :: es) X.env=(false,eval e X.env) :: starEach es X.env:=by rfl) (hpl:(backTo pos (starEach es X.env)).any (·.1)=false:=by rfl):PE X (.Call (.Name x p) (e :: es) [] pos) (Nh r t):=by
 intro pins s σ H Q I h;refine wpAny_Call_Name_kw (nB I hg hm hv ?_ hn hdb);exact PyProof.Rows.callWith_builtin1 (fY (ha pos pins s σ H _ I h) fun us s1 ⟨vs,H1,I1,r1,q1⟩=>hc pins s1 σ H1 vs us Q I1 r1 q1) he hpl
theorem dI (hc:sI X (.type T) r) (hg:Gl X x) (hm:X.mg x=none) (hv:bootBuiltins x=some (.type T)) (ha:PA X (e :: es) t) (hn:x≠"__name__":=by decide) (hdb:(x == ("__debug__":Str))=false:=by decide)
  (he:starEach (e :: es) X.env=(false,eval e X.env) :: starEach es X.env:=by rfl) (hpl:(backTo pos (starEach es X.env)).any (·.1)=false:=by rfl):PE X (.Call (.Name x p) (e :: es) [] pos) (Nh r t):=by
 intro pins s σ H Q I h;refine wpAny_Call_Name_kw (nB I hg hm hv ?_ hn hdb);exact PyProof.Rows.callWith_type1 (fY (ha pos pins s σ H _ I h) fun us s1 ⟨vs,H1,I1,r1,q1⟩=>hc pins s1 σ H1 vs us Q I1 r1 q1) he hpl
end
end L2
namespace HT
open PySem PyProof.Rows
section
open PySem.SeqAt
open PySem.AutoSeq1 (wpAny_loadPart')
open PySem.MeetsSeq PySem.MeetsSeq2 PySem.MeetsSeq3
end
section
variable {prog:Program} {w:World} {A:Around} {E:Value->Shared->Prop} {s:Shared}
def BJ (n d:Nat):Option Int->Nat
 | none=>d
 | some v=>if v < 0 then (v+(n:Int)).toNat else min v.toNat n
theorem BI (n d:Nat):BJ n d none=d:=rfl
theorem DQ (n d k:Nat):BJ n d (some (k:Int))=min k n:=by
 show (if (k:Int) < 0 then ((k:Int)+(n:Int)).toNat else min (k:Int).toNat n)=min k n
 rw[if_neg (by lia),Int.toNat_natCast]
end
end HT
namespace L2
open PySem PySem.Spec PyProof.Rows
abbrev TO:=St->Hp->(Option Int->Hp->Prop)->Prop
def PO (X:Cx) (e:Option Expr) (t:TO):Prop :=
 ∀(pins:List (Addr×Obj)) (s:Shared) (σ:St) (H:Hp) (Q:Option Int->Hp->Prop),Inv X pins σ H s->t σ H Q →
  wpAny (model X.prog X.w) X.A (evalPart e X.env) (fun u s'=>∃o H',Inv X pins σ H' s'/\IsPart u o/\Q o H') X.xe s
def DJ:TO:=fun _ H Q=>Q none H
def JO (t:TE):TO:=fun σ H Q=>t σ H fun x H1=>∃i,x=.int i/\Q (some i) H1
theorem intsAre_of {ns:List Int}:∀{us:List Value},cB (ns.map V.int) us->IntsAre us ns:=by
 induction ns with
 | nil=>intro us r;rw[List.map_nil] at r;cases r;exact .nil
 | cons n ns ih =>
  intro us r;rw[fh] at r;cases r with
  | cons r1 r2 =>
   obtain ⟨t,e⟩:=r1;subst e;exact .cons n t (ih r2)
section
variable {X:Cx} {e:Expr} {te:TE} {lo hi:Option Expr} {tl th:TO} {pos p2:Pos}
theorem DU:PO X none DJ:=by
 intro pins s σ H Q I h;rw[evalPart_none];exact wpAny_pure ⟨none,H,I,.none,h⟩
theorem DT (h:PE X e te):PO X (some e) (JO te):=by
 intro pins s σ H Q I hw;rw[evalPart_some];refine fY (h pins s σ H _ I hw) fun u s1 ⟨x,H1,I1,r1,q1⟩=>?_
 obtain ⟨i,rfl,q⟩:=q1;obtain ⟨t,rfl⟩:=r1;exact ⟨some i,H1,I1,.int i t,q⟩
def SlR (X:Cx) (r:V->Option Int->Option Int->Hp->VK->Prop):Prop :=
 ∀(pins:List (Addr×Obj)) (s:Shared) (σ:St) (H:Hp) (x:V) (v vl vu:Value) (lo hi:Option Int) (sl:Addr) (Q:VK),Inv X pins σ H s->RelV x v->s.heap.IsSliceOf sl vl vu .none->IsPart vl lo->IsPart vu hi->r x lo hi H Q →
  ∃T id,typeLookup (.type T) "__getitem__"=pure (some (.builtin id))/\s.TypeIs v T/\wpAny (model X.prog X.w) X.A (getItem v (.ref sl)) (EP X pins σ Q) X.xe s
def tSl (r:V->Option Int->Option Int->Hp->VK->Prop) (te:TE) (tl th:TO):TE:=fun σ H Q=>te σ H fun x H1=>tl σ H1 fun l H2=>th σ H2 fun u H3=>r x l u H3 Q
theorem BS {r:V->Option Int->Option Int->Hp->VK->Prop} (hr:SlR X r) (he:PE X e te) (hl:PO X lo tl) (hu:PO X hi th):PE X (.Subscript e (.Slice lo hi none p2) pos) (tSl r te tl th):=by
 intro pins s σ H Q I h;refine Subscript_ (fY (he pins s σ H _ I h) fun v s1 ⟨x,H1,I1,r1,q1⟩=>?_);refine wpAny_Slice (fY (hl pins s1 σ H1 _ I1 q1) fun vl s2 ⟨l,H2,I2,pl,q2⟩=>fY (hu pins s2 σ H2 _ I2 q2) fun vu s3 ⟨u,H3,I3,pu,q3⟩=>?_);rw[evalPart_none];refine wpAny_pure ?_;have I4:Inv X pins σ H3 { s3 with heap:=s3.heap.push { cls:=.type "slice",data:=.fields #[vl,vu,.none] } }:=I3.kept (t':=s3.toks) fun b ob q=>Heap.get?_push_of_some _ q
 obtain ⟨T,id,hT,ht,hg⟩:=hr pins { s3 with heap:=s3.heap.push { cls:=.type "slice",data:=.fields #[vl,vu,.none] } } σ H3 x v vl vu l u s3.heap.objs.size Q I4 r1 (Heap.IsSliceOf.new ..) pl pu q3;show wpAny (model X.prog X.w) X.A (subscriptTail e (.Slice lo hi none p2) v (.ref s3.heap.objs.size)) (EP X pins σ Q) X.xe { s3 with heap:=s3.heap.push { cls:=.type "slice",data:=.fields #[vl,vu,.none] } }
 exact tail_any (ops:=[.ref s3.heap.objs.size,v]) ht hT hg (by with_unfolding_all rfl)
def vo (xs:List V) (lo hi:Option Int):List V:=(xs.drop (HT.BJ xs.length 0 lo)).take (HT.BJ xs.length xs.length hi - HT.BJ xs.length 0 lo)
theorem wQ (xs:List V) (lo hi:Option Int):(vo xs lo hi).length<=xs.length:=by
 unfold vo;rw[dt,List.length_drop]
 lia
end
def Fy (n:Nat) (i:Int):Option Nat:=if 0<=i then (if i < n then some i.toNat else none) else if -(n:Int)<=i then some (i+n).toNat else none
def DB {α:Type} (xs:List α) (i:Int):Option α:=(Fy xs.length i).bind fun j=>xs[j]?
theorem Eb {n:Nat} {i:Int} {j:Nat} (h:Fy n i=some j):seqIndex? i n=some j/\j < n/\-(n:Int)<=i/\i < n:=by
 unfold Fy at h;by_cases h0:0<=i
 ·rw[if_pos h0] at h;by_cases h1:i < n
  ·rw[if_pos h1] at h;have e:i.toNat=j:=bY h;exact ⟨by rw[seqIndex_of h0 h1,e],by lia,by lia,h1⟩
  ·rw[if_neg h1] at h;cases h
 ·rw[if_neg h0] at h;by_cases h1:-(n:Int)<=i
  ·rw[if_pos h1] at h;have e:(i+n).toNat=j:=bY h;exact ⟨by rw[seqIndex_neg (by lia) h1,e],by lia,h1,by lia⟩
  ·rw[if_neg h1] at h;cases h
theorem Bc {α:Type} {xs:List α} {i:Int} {v:α} (h:DB xs i=some v):∃j,seqIndex? i xs.length=some j/\xs[j]?=some v/\j < xs.length/\-(xs.length:Int)<=i/\i < xs.length:=by
 unfold DB at h;cases e:Fy xs.length i with
 | none=>rw[e] at h;cases h
 | some j =>
  rw[e] at h;obtain ⟨h1,h2,h3,h4⟩:=Eb e;exact ⟨j,h1,h,h2,h3,h4⟩
theorem dR {α:Type} {xs:List α} {j:Nat} {v:α} (h:xs[j]?=some v):DB xs (j:Int)=some v:=by
 have hj:j < xs.length:=(aE.mp h).1
 have e:Fy xs.length (j:Int)=some j:=by
  unfold Fy;rw[if_pos (by lia),if_pos (by lia)];simp
 unfold DB;rw[e];exact h
theorem yQ {α:Type} (xs:List α) (v:α):DB (xs++[v]) (-1)=some v:=by
 have hl:(xs++[v]).length=xs.length+1:=by simp
 have e:Fy (xs++[v]).length (-1)=some xs.length:=by
  unfold Fy;rw[hl,if_neg (by decide),if_pos (by lia)];congr 1
  lia
 unfold DB;rw[e];show (xs++[v])[xs.length]?=some v
 simp
def JK (b:Expr):Prop:=∀o i,subscripted b false o i=operate [o,i] (getItem o i)
def MW (X:Cx) (r:R2):Prop :=
 ∀(value slice:Expr) (pins:List (Addr×Obj)) (s:Shared) (σ:St) (H:Hp) (x y:V) (v u:Value) (Q:VK),Inv X pins σ H s->RelV x v->RelV y u->r x y H Q →
  subscripted slice false v u=operate [v,u] (getItem v u)->wpAny (model X.prog X.w) X.A (subscriptTail value slice v u) (EP X pins σ Q) X.xe s
def MtR (X:Cx) (id:String) (r:V->List V->Hp->VK->Prop):Prop :=
 ∀(pins:List (Addr×Obj)) (s:Shared) (σ:St) (H:Hp) (x:V) (xs:List V) (v:Value) (us:List Value) (Q:VK),Inv X pins σ H s->RelV x v->cB xs us->r x xs H Q →
  wpAny (model X.prog X.w) X.A (call (.builtin id) (v :: us)) (EP X pins σ Q) X.xe s
section
variable {X:Cx} {a b:Expr} {ta tb:TE} {pos:Pos}
theorem bf {r:R2} (hr:MW X r) (ha:PE X a ta) (hb:PE X b tb) (hs:JK b:=by intro _ _;rfl):PE X (.Subscript a b pos) (L7 r ta tb):=by
 intro pins s σ H Q I h;exact Subscript_ (LG ha hb I h fun v u s2 x y H2 I2 rx ry q=>hr a b pins s2 σ H2 x y v u Q I2 rx ry q (hs _ _))
def Lb (K:PySem.W.Frag):R2:=fun x y H Q=>∃p xs i v,x=.ref p/\y=.int i/\bJ K H p xs/\DB xs i=some v/\Q v H
def La (K:PySem.W.Frag):R2:=fun x y H Q=>∃p xs i v,x=.ref p/\y=.int i/\qX K H p xs/\DB xs i=some v/\Q v H
theorem bO:MW X (Lb X.K):=by
 intro value slice pins s σ H x y v u Q I rx ry h hs;obtain ⟨p,xs,i,z,rfl,rfl,hq,he,q⟩:=h;cases rx;obtain ⟨t,rfl⟩:=ry;obtain ⟨its,r,pl,hz⟩:=I.list hq;obtain ⟨j,h1,h2,h3,h4,h5⟩:=Bc he;obtain ⟨w,ew,rw'⟩:=r.get h2;have hl:=r.length;have hn:=yD;have fin:EP X pins σ Q w s:=⟨z,H,I,rw',q⟩;by_cases h0:0<=i
 ·have hj:i.toNat=j:=by
   rw[seqIndex_of h0 h5] at h1;exact bY h1
  exact item_listR pl.isList h0 (by lia) (by rw[hj];simpa using ew) fin hs
 ·have hj:(i+(its.toArray.size:Int)).toNat=j:=by
   rw[seqIndex_neg (by lia) h4] at h1;rw[aI,<- hl];exact bY h1
  exact subscriptTail_builtinR (x:=w) pl.isList.typeIs slot_list_getitem.lookup
   (wpAny_getItem_list_neg (Q:=fun r s'=>r=w/\EP X pins σ Q r s') pl.isList (by lia) (by rw[aI] <;> lia) (by lia) (by rw[hj];simpa using ew) ⟨rfl,fin⟩) hs
theorem cb:MW X (La X.K):=by
 intro value slice pins s σ H x y v u Q I rx ry h hs;obtain ⟨p,xs,i,z,rfl,rfl,hq,he,q⟩:=h;cases rx;obtain ⟨t,rfl⟩:=ry;obtain ⟨its,r,pl,hz⟩:=I.tuple hq;obtain ⟨j,h1,h2,h3,h4,h5⟩:=Bc he;obtain ⟨w,ew,rw'⟩:=r.get h2;have hl:=r.length;have hn:=yD;have fin:EP X pins σ Q w s:=⟨z,H,I,rw',q⟩
 exact subscriptTail_builtinR (x:=w) pl.typeIs slot_tuple_getitem.lookup
  (getItem_tuple (j:=j) (Q:=fun r s'=>r=w/\EP X pins σ Q r s') pl (by lia) (by lia) (by rw[aI,<- hl];exact h1) (by simpa using ew) ⟨rfl,fin⟩) hs
theorem Dm (its:List Value) (n j:Nat) (u:Value):Obj.mapSeq (·.setIfInBounds j u) { cls:=.type "list",data:=.seq its.toArray n }={ cls:=.type "list",data:=.seq (its.set j u).toArray n }:=by
 simp [Obj.mapSeq]
theorem Inv.lst {pins:List (Addr×Obj)} {σ:St} {H:Hp} {s:Shared} {p:Addr} {xs:List V} (I:Inv X pins σ H s) (h:H p=some (.lst xs)) :
  ∃(its:List Value) (n:Nat),cB xs its/\s.heap.get? p=some { cls:=.type "list",data:=.seq its.toArray n }/\xs.length<=sizeLine:=by
 obtain ⟨z,its,n,r,e⟩:=I.hok p _ h;exact ⟨its,n,r,e,z⟩
theorem Inv.lstUpd {pins:List (Addr×Obj)} {σ:St} {H:Hp} {s:Shared} {p:Addr} {xs ys:List V} {its its':List Value} {n n':Nat} {f:Obj->Obj} (I:Inv X pins σ H s) (h:H p=some (.lst xs))
  (ho:s.heap.get? p=some { cls:=.type "list",data:=.seq its.toArray n }) (hf:f { cls:=.type "list",data:=.seq its.toArray n }={ cls:=.type "list",data:=.seq its'.toArray n' }) (r:cB ys its') (hz:ys.length<=sizeLine) (t:Nat) :
  Inv X pins σ (upd H p (.lst ys)) { s with heap:=s.heap.update p f,toks:=t }:=by
 have e:(s.heap.update p f).get? p=some { cls:=.type "list",data:=.seq its'.toArray n' }:=by
  rw[Heap.get?_update_self f ho (by rw[hf] <;> rfl),hf]
 refine I.write (x:=p) (e:=p) (by rw[h];trivial) (.inl rfl) (fun b u hb q=>(Heap.get?_update_other _ _ (Ne.symm hb)).trans q) ⟨_,e⟩ ?_;exact ⟨hz,its',n',r,e⟩
def JY:V->V->V->Hp->(Hp->Prop)->Prop:=fun o i v H Q=>∃p xs k j,o=.ref p/\i=.int k/\H p=some (.lst xs)/\Fy xs.length k=some j/\Q (upd H p (.lst (xs.set j v)))
theorem set_list:LI X JY:=by
 intro pins s σ H o i v ov iv u Q I ro ri rv h;obtain ⟨p,xs,k,j,rfl,rfl,hp,hj,q⟩:=h;cases ro;obtain ⟨t,rfl⟩:=ri;obtain ⟨its,n,r,ho,hz⟩:=I.lst hp;obtain ⟨h1,h2,h3,h4⟩:=Eb hj;have hl:=r.length;have hn:=yD
 have I':Inv X pins σ (upd H p (.lst (xs.set j v))) { s with heap:=s.heap.update p (Obj.mapSeq (·.setIfInBounds j u)) } :=
  I.lstUpd hp ho (Dm its n j u) (r.set rv j) (by rw[eO];exact hz) s.toks
 by_cases h0:0<=k
 ·have hk:k.toNat=j:=by
   rw[seqIndex_of h0 h4] at h1;exact bY h1
  exact PySem.W.ki_setAt ho h0 (by lia) (by rw[aI,<- hl];exact h4) (by rw[hk];exact ⟨_,I',q⟩)
 ·have hk:(k+(its.toArray.size:Int)).toNat=j:=by
   rw[seqIndex_neg (by lia) h3] at h1;rw[aI,<- hl];exact bY h1
  exact PySem.W.ki_setBack ho (by lia) (by rw[aI,<- hl];exact h3) (by lia) (by rw[hk];exact ⟨_,I',q⟩)
theorem As (lo hi:Option Int) (n:Nat):(sliceBounds lo hi none n).1=((HT.BJ n 0 lo:Nat):Int)/\(sliceBounds lo hi none n).2.1=((HT.BJ n n hi:Nat):Int)/\(sliceBounds lo hi none n).2.2=1:=by
 refine ⟨?_,?_,rfl⟩
 ·cases lo with
  | none=>simp [sliceBounds,HT.BJ]
  | some i =>
   simp only[sliceBounds,HT.BJ,Option.getD_none,show (1:Int) > 0 by decide,if_true];by_cases h:i < 0
   ·simp only[h,if_true] <;> lia
   ·simp only[h,if_false] <;> lia
 ·cases hi with
  | none=>simp [sliceBounds,HT.BJ]
  | some i =>
   simp only[sliceBounds,HT.BJ,Option.getD_none,show (1:Int) > 0 by decide,if_true];by_cases h:i < 0
   ·simp only[h,if_true] <;> lia
   ·simp only[h,if_false] <;> lia
theorem y7 (its:List Value) (lo hi:Option Int):slicePick its.toArray lo hi none=((its.drop (HT.BJ its.length 0 lo)).take (HT.BJ its.length its.length hi - HT.BJ its.length 0 lo)).toArray:=by
 obtain ⟨h1,h2,h3⟩:=As lo hi its.toArray.size;unfold slicePick;rw[h1,h2,h3];simp only[sliceRange_one,pick_run,aI] <;> rfl
def Mw (K:PySem.W.Frag):V->Option Int->Option Int->Hp->VK->Prop:=fun x lo hi H Q=>∃a xs,x=.ref a/\bJ K H a xs/\∀p,H p=none->Q (.ref p) (upd H p (.lst (vo xs lo hi)))
theorem DP:SlR X (Mw X.K):=by
 intro pins s σ H x v vl vu lo hi sl Q I rx hs pl pu h;obtain ⟨a,xs,rfl,hx,q⟩:=h;cases rx;obtain ⟨its,r,ht,hz⟩:=I.list hx;have hlen:=r.length;refine ⟨"list",_,slot_list_getitem.lookup,ht.isList.typeIs,?_⟩;refine wpAny_getItem_list_slice ht.isList hs pl pu .none (by simp) ?_ (by rw[aI] <;> lia);rw[y7,<- hlen];refine ⟨.ref s.heap.objs.size,_,I.laid (t':=s.toks) (o:=.lst (vo xs lo hi)) (fun b ob q=>Heap.get?_push_of_some _ q) (ar _) ?_,rfl,q _ (I.hok.fresh (ar _))⟩;exact ⟨ah (wQ xs lo hi) hz,_,0,(r.drop (HT.BJ xs.length 0 lo)).take (HT.BJ xs.length xs.length hi - HT.BJ xs.length 0 lo),Heap.get?_push_size _ rfl⟩
def vg:V->Bool
 | .non=>true
 | .bl _=>true
 | .int _=>true
 | .str _=>true
 | _=>false
def Ke:V->V->Bool
 | .non,.non=>true
 | .bl a,.bl b=>a == b
 | .bl a,.int b=>(if a then 1 else 0) == b
 | .int a,.bl b=>a == (if b then 1 else 0)
 | .int a,.int b=>a == b
 | .str a,.str b=>a == b
 | _,_=>false
theorem Lz {A:Around} {s:Shared} {y x:V} {u v:Value} (ry:RelV y u) (rx:RelV x v) (fy:vg y=true) (fx:vg x=true):SeqAt.EqAt A s u v (Ke y x):=by
 cases y with
 | non =>
  cases ry;cases x with
  | non=>cases rx;exact SeqAt.EqAt.same _
  | bl b=>cases rx;exact SeqAt.EqAt.none_bool b
  | int b=>obtain ⟨t,rfl⟩:=rx;exact SeqAt.EqAt.none_int b t
  | str b=>obtain ⟨t,rfl⟩:=rx;exact SeqAt.EqAt.none_str b t
  | _=>exact absurd (show false=true from fx) aX
 | bl a =>
  cases ry;cases x with
  | non=>cases rx;exact SeqAt.EqAt.bool_none a
  | bl b=>cases rx;exact SeqAt.EqAt.bool_bool a b
  | int b=>obtain ⟨t,rfl⟩:=rx;exact SeqAt.EqAt.bool_int a b t
  | str b=>obtain ⟨t,rfl⟩:=rx;exact SeqAt.EqAt.bool_str a b t
  | _=>exact absurd (show false=true from fx) aX
 | int a =>
  obtain ⟨t',rfl⟩:=ry;cases x with
  | non=>cases rx;exact SeqAt.EqAt.int_none a t'
  | bl b=>cases rx;exact SeqAt.EqAt.int_bool a t' b
  | int b=>obtain ⟨t,rfl⟩:=rx;exact SeqAt.EqAt.int_int a t' b t
  | str b=>obtain ⟨t,rfl⟩:=rx;exact SeqAt.EqAt.int_str a t' b t
  | _=>exact absurd (show false=true from fx) aX
 | str a =>
  obtain ⟨t',rfl⟩:=ry;cases x with
  | non=>cases rx;exact SeqAt.EqAt.str_none a t'
  | bl b=>cases rx;exact SeqAt.EqAt.str_bool a t' b
  | int b=>obtain ⟨t,rfl⟩:=rx;exact SeqAt.EqAt.str_int a t' b t
  | str b=>obtain ⟨t,rfl⟩:=rx;exact SeqAt.EqAt.str_str a t' b t
  | _=>exact absurd (show false=true from fx) aX
 | _=>exact absurd (show false=true from fy) aX
def Jy (x:V) (u:Value):Bool:=match u with
 | .none=>Ke .non x
 | .bool b=>Ke (.bl b) x
 | .int i _=>Ke (.int i) x
 | .str z _=>Ke (.str z) x
 | _=>false
theorem HK {x y:V} {u:Value} (r:RelV y u) (f:vg y=true):Jy x u=Ke y x:=by
 cases y with
 | non=>cases r;rfl
 | bl b=>cases r;rfl
 | int i=>obtain ⟨t,rfl⟩:=r;rfl
 | str z=>obtain ⟨t,rfl⟩:=r;rfl
 | _=>exact absurd (show false=true from f) aX
theorem Be {x:V}:∀{xs:List V} {us:List Value},cB xs us->xs.all vg=true->us.any (Jy x)=xs.any fun y=>Ke y x
 | _,_,.nil,_=>rfl
 | y :: xs,u :: us,.cons r t,f=>by
  rw[List.all_cons,dw] at f;rw[List.any_cons,List.any_cons,HK r f.1,Be t f.2]
theorem yz {A:Around} {s:Shared} {x:V} {v:Value} (rx:RelV x v) (fx:vg x=true):∀{xs:List V} {us:List Value},cB xs us->xs.all vg=true->∀u∈us,SeqAt.EqAt A s u v (Jy x u)
 | _,_,.nil,_=>fun u hu=>by cases hu
 | y :: xs,u :: us,.cons r t,f=>fun u' hu=>by
  rw[List.all_cons,dw] at f;rcases aB.mp hu with rfl | hu
  ·rw[HK r f.1];exact Lz r rx f.1 fx
  ·exact yz rx fx t f.2 u' hu
def M9 (x:V) (xs:List V):Bool:=xs.any fun y=>Ke y x
def rIn (K:PySem.W.Frag) (neg:Bool):R2:=fun x y H Q=>∃p xs,y=.ref p/\(bJ K H p xs\/qX K H p xs)/\vg x=true/\xs.all vg=true/\Q (.bl (if neg then !M9 x xs else M9 x xs)) H
theorem AH:xm X (compareOp .NotIn) (rIn X.K true):=by
 intro pins s σ H x y v u Q I rx ry h;obtain ⟨p,xs,rfl,hq,fx,fs,q⟩:=h;cases ry;rcases hq with hq | hq
 ·obtain ⟨its,r,pl,hz⟩:=I.list hq;refine SeqAt.notIn_listAt (Jy x) pl.isList (fun w hw=>yz rx fx r fs w (by simpa using hw)) ⟨.bl _,H,I,rfl,?_⟩;rw[show its.toArray.any (Jy x)=its.any (Jy x) by simp,Be r fs];exact q
 ·obtain ⟨its,r,pl,hz⟩:=I.tuple hq;refine SeqAt.notIn_tupleAt (Jy x) pl (fun w hw=>yz rx fx r fs w (by simpa using hw)) ⟨.bl _,H,I,rfl,?_⟩;rw[show its.toArray.any (Jy x)=its.any (Jy x) by simp,Be r fs];exact q
theorem bA:sI X (.builtin "len") (fun xs H Q=>∃p ys,xs=[.ref p]/\(bJ X.K H p ys\/qX X.K H p ys)/\Q (.int ys.length) H):=by
 intro pins s σ H xs us Q I r h;obtain ⟨p,ys,rfl,hq,q⟩:=h;obtain ⟨u,rfl,rx⟩:=vals1 r;cases rx;have hn:=yD;rcases hq with hq | hq
 ·obtain ⟨its,r',pl,hz⟩:=I.list hq;have hlen:=r'.length;exact Calls.call_len_list pl.isList (by simp only[aI] <;> lia) ⟨.int ys.length,H,I.tok _,⟨s.toks+1,by rw[aI,hlen]⟩,q⟩
 ·obtain ⟨its,r',pl,hz⟩:=I.tuple hq;have hlen:=r'.length;exact len_tuple pl (by simp only[aI] <;> lia) ⟨.int ys.length,H,I.tok _,⟨s.toks+1,by rw[aI,hlen]⟩,q⟩
theorem vp:sI X (.type "list") (fun xs H Q=>∃p ys,xs=[.ref p]/\(bJ X.K H p ys\/qX X.K H p ys)/\∀l,H l=none->Q (.ref l) (upd H l (.lst ys))):=by
 intro pins s σ H xs us Q I r h;obtain ⟨p,ys,rfl,hq,q⟩:=h;obtain ⟨u,rfl,rx⟩:=vals1 r;cases rx
 have fin:∀(its:List Value),cB ys its->ys.length<=sizeLine->∀(h':Heap) (c':Nat),(∀b o',s.heap.get? b=some o'->h'.get? b=some o') →
   h'.get? s.heap.objs.size=some { cls:=.type "list",dict:=none,data:=.seq its.toArray c',slots:=#[] }->EP X pins σ Q (.ref s.heap.objs.size) { s with heap:=h' }:=fun its r' hz h' c' kp e =>
  ⟨.ref s.heap.objs.size,_,I.laid (t':=s.toks) kp (ar _) (show jv X.prog X.w _ h' _ (.lst ys) from ⟨hz,its,c',r',e⟩),rfl,q _ (I.hok.fresh (ar _))⟩
 rcases hq with hq | hq
 ·obtain ⟨its,r',pl,hz⟩:=I.list hq;have hlen:=r'.length;obtain ⟨o,ho,hc,n,hd⟩:=pl.isList;exact call_list_seq p (.inl rfl) ho hc hd (fun h' c' kp e=>fin its r' hz h' c' kp e) (by simp only[aI] <;> lia)
 ·obtain ⟨its,r',pl,hz⟩:=I.tuple hq;have hlen:=r'.length;obtain ⟨o,ho,hc,n,hd⟩:=pl;exact call_list_seq p (.inr rfl) ho hc hd (fun h' c' kp e=>fin its r' hz h' c' kp e) (by simp only[aI] <;> lia)
def Ng (K:PySem.W.Frag) (T:String) (x:V) (H:Hp):Prop:=match x with
 | .str _=>T="str"
 | .int _=>T="int"
 | .ref p=>(T="list"/\∃xs,bJ K H p xs)\/(T="tuple"/\∃o,K.lookup p=some o/\o.cls=.type "tuple"/\o.dict=none) \/
   (T="dict"/\((∃kvs,H p=some (.dK kvs))\/∃kvs,H p=some (.dT kvs)))\/(T="set"/\∃S n,H p=some (.set S n))
 | _=>False
theorem Kq {pins:List (Addr×Obj)} {σ:St} {H:Hp} {s:Shared} {T:String} {x:V} {v:Value} (I:Inv X pins σ H s) (r:RelV x v) (ty:Ng X.K T x H) :
  s.TypeIs v T/\∀a,v=.ref a->∃ob,s.heap.get? a=some ob/\ob.dict=none:=by
 cases x with
 | str z =>
  obtain ⟨t,rfl⟩:=r;cases (show T="str" from ty);exact ⟨typeIs_str s z t,fun _ e=>nomatch e⟩
 | int i =>
  obtain ⟨t,rfl⟩:=r;cases (show T="int" from ty);exact ⟨typeIs_int s i t,fun _ e=>nomatch e⟩
 | ref p =>
  cases r;rcases ty with ⟨rfl,xs,hq⟩ | ⟨rfl,o,hk,hc,hd⟩ | ⟨rfl,hk⟩ | ⟨rfl,S,n,hk⟩
  ·obtain ⟨its,_,pl,_⟩:=I.list hq;refine ⟨pl.isList.typeIs,fun a e=>?_⟩;cases e;obtain ⟨o,n,e,c,hd,_⟩:=pl;exact ⟨o,e,hd⟩
  ·refine ⟨⟨o,I.kIn p o hk,hc⟩,fun a e=>?_⟩;cases e;exact ⟨o,I.kIn _ o hk,hd⟩
  ·have z:∃o,s.heap.get? p=some o/\o.ExactDict:=by
    rcases hk with ⟨kvs,hk⟩ | ⟨kvs,hk⟩
    ·obtain ⟨_,_,_,_,o,_,_,e,ex,_⟩:=I.hok p _ hk;exact ⟨o,e,ex⟩
    ·obtain ⟨_,_,_,_,o,_,_,e,ex,_⟩:=I.hok p _ hk;exact ⟨o,e,ex⟩
   obtain ⟨o,e,ex⟩:=z;refine ⟨⟨o,e,ex.1⟩,fun a e2=>?_⟩;cases e2;exact ⟨o,e,ex.2.1⟩
  ·obtain ⟨o,_,_,_,e,ex,_⟩:=I.hok p _ hk;refine ⟨⟨o,e,ex.1⟩,fun a e2=>?_⟩;cases e2;exact ⟨o,e,ex.2.1⟩
 | _=>exact False.elim ty
def tBM (K:PySem.W.Frag) (T:String) (r:V->List V->Hp->VK->Prop) (to:TE) (t:TA):TE:=fun σ H Q=>to σ H fun x H1=>Ng K T x H1/\t σ H1 fun xs H2=>r x xs H2 Q
variable {o e:Expr} {es:List Expr} {to:TE} {t:TA} {name:Str} {apos cpos:Pos} {T id:String} {r:V->List V->Hp->VK->Prop}
theorem yd (pa:PlainAttrs T) (slot:Slot T name id) (hty:typeOf (.builtin id)=pure (.type "method_descriptor")) (hm:MtR X id r) (ho:PE X o to) (ha:PA X (e :: es) t)
  (hbase:attributeBase o name X.env (eval o X.env)=eval o X.env:=by rfl)
  (hfew:((backTo cpos (starEach (e :: es) X.env)).all (fun x=>!x.1) && (backToKw cpos (keywordEach [] X.env)).all (fun x=>x.1.isSome)
   && decide ((e :: es).length+([]:List Keyword).length+(if ([]:List Keyword).isEmpty then 0 else 1) < 30))=true:=by rfl)
  (hline:(apos.endLine == cpos.line)=true:=by rfl) (hs:starEach (e :: es) X.env=(false,eval e X.env) :: starEach es X.env:=by rfl) (hplain:(backTo cpos (starEach es X.env)).any (·.1)=false:=by rfl) :
  PE X (.Call (.Attribute o name apos) (e :: es) [] cpos) (tBM X.K T r to t):=by
 intro pins s σ H Q I h;refine wpAny_Call_method_late hbase hfew hline rfl (fY (ho pins s σ H _ I h) fun v s1 ⟨x,H1,I1,r1,ty,q1⟩=>?_);obtain ⟨h1,h2⟩:=Kq I1 r1 ty;refine ⟨T,id,pa,slot,hty,h1,h2,?_⟩;have hA:=ha cpos pins s1 σ H1 _ I1 q1;rw[hs] at hA ⊢;refine Calls.callWith_builtin (by show (false || (backTo cpos (starEach es X.env)).any (·.1))=false;rw[hplain] <;> rfl) (Calls.evalArgs_plain ?_);exact fY hA fun us s2 ⟨vs,H2,I2,r2,q2⟩=>hm pins s2 σ H2 x vs v us Q I2 r1 r2 q2
end
def NB (X:Cx) (id:String) (r:V->List V->Hp->VK->Prop):Prop :=
 ∀(pins:List (Addr×Obj)) (s:Shared) (σ:St) (H:Hp) (x:V) (xs:List V) (v:Value) (us:List Value) (Q:VK),Inv X pins σ H s->RelV x v->cB xs us->r x xs H Q →
  wpAny (model X.prog X.w) X.A (call (.builtin id) (v :: us)) (EP X pins σ Q) X.xe s
theorem cB.one:∀{x:V} {us:List Value},cB [x] us->∃u,us=[u]/\RelV x u
 | _,_,.cons r .nil=>⟨_,rfl,r⟩
theorem cB.eraseIdx:∀{xs:List V} {us:List Value} (i:Nat),cB xs us->cB (xs.eraseIdx i) (us.eraseIdx i)
 | _,_,_,.nil=>.nil
 | _,_,0,.cons _ t=>t
 | _,_,i+1,.cons r t=>.cons r (cB.eraseIdx i t)
theorem zP {α:Type}:∀(l:List α) (i:Nat),(l.eraseIdx i).length<=l.length
 | [],_=>ar _
 | _ :: _,0=>Ah _
 | _ :: r,i+1=>dc (zP r i)
section
variable {X:Cx} {pins:List (Addr×Obj)} {σ:St} {H:Hp} {s:Shared} {l b:Addr} {xs ys zs:List V}
theorem Inv.lset {its its':List Value} {n:Nat} {f:Array Value->Array Value} {t':Nat} (I:Inv X pins σ H s) (hH:H l=some (.lst xs))
  (e:s.heap.get? l=some { cls:=.type "list",data:=.seq its.toArray n }) (hf:f its.toArray=its'.toArray) (hv:cB ys its') (hz:ys.length<=sizeLine) :
  Inv X pins σ (upd H l (.lst ys)) { s with heap:=s.heap.update l (Obj.mapSeq f),toks:=t' }:=by
 have q:=kT e f;rw[hf] at q;refine I.write (x:=l) (e:=l) (by rw[hH];exact trivial) (.inl rfl) (fun b' u hb hu=>(Heap.get?_update_other s.heap (Obj.mapSeq f) (Ne.symm hb)).trans hu) ⟨_,q⟩ ?_;exact ⟨hz,its',_,hv,q⟩
theorem Inv.lnew {its:List Value} {t':Nat} (I:Inv X pins σ H s) (hv:cB ys its) (hz:ys.length<=sizeLine) :
  Inv X pins σ (upd H s.heap.objs.size (.lst ys)) { s with heap:=s.heap.push { cls:=.type "list",data:=.seq its.toArray },toks:=t' } :=
 I.laid (fun _ _ q=>Heap.get?_push_of_some _ q) (ar _) ⟨hz,its,0,hv,Heap.get?_push_size _ rfl⟩
theorem Inv.fresh (I:Inv X pins σ H s):H s.heap.objs.size=none:=I.hok.fresh (ar _)
theorem Inv.lstM (I:Inv X pins σ H s) (hH:H l=some (.lst xs)):xs.length<=sizeLine/\∃(its:List Value) (n:Nat),cB xs its/\xs.length=its.length/\s.heap.get? l=some { cls:=.type "list",data:=.seq its.toArray n }:=by
 obtain ⟨z,its,n,r,e⟩:=I.hok l _ hH;exact ⟨z,its,n,r,r.length,e⟩
theorem GQ {n:Nat} (h:n<=sizeLine):Builtin.List.listTooLong n=false:=by
 unfold Builtin.List.listTooLong;exact decide_eq_false (by lia)
end
section
variable {X:Cx}
def DS:V->List V->Hp->VK->Prop:=fun x vs H Q=>∃l xs y,x=.ref l/\vs=[y]/\H l=some (.lst xs)/\xs.length < sizeLine/\Q .non (upd H l (.lst (xs++[y])))
theorem o6:NB X "list.append" DS:=by
 intro pins s σ H x vs v us Q I rx rv h;obtain ⟨l,xs,y,rfl,rfl,hH,hz,q⟩:=h;cases rx;obtain ⟨u,rfl,ru⟩:=rv.one;obtain ⟨z,its,n,r,hl,e⟩:=I.lstM hH;refine call_meets F.slot_list_append ⟨_,e,rfl⟩ F.entry_list_append (F.args_list_append_2 _ _) (PySem.list_append l its.toArray n u (by rw[aI];lia)) ⟨e,?_⟩;refine ⟨.non,_,I.lset (its':=its++[u]) hH e (by simp) (r.append (.cons ru .nil)) ?_,rfl,q⟩;rw[ao,bc]
 lia
def Ji:V->List V->Hp->VK->Prop:=fun x vs H Q=>∃l b xs zs,x=.ref l/\vs=[.ref b]/\H l=some (.lst xs)/\H b=some (.lst zs)/\xs.length+zs.length<=sizeLine/\Q .non (upd H l (.lst (xs++zs)))
theorem Fe:NB X "list.extend" Ji:=by
 intro pins s σ H x vs v us Q I rx rv h;obtain ⟨l,b,xs,zs,rfl,rfl,hH,hB,hz,q⟩:=h;cases rx;obtain ⟨u,rfl,ru⟩:=rv.one;cases ru;obtain ⟨z,its,n,r,hl,e⟩:=I.lstM hH;obtain ⟨z2,its2,n2,r2,hl2,e2⟩:=I.lstM hB;have hsz:its.toArray.size+its2.toArray.size<=sizeLine:=by rw[aI,aI];lia
 have hlong:¬(!its.toArray.isEmpty && Builtin.List.listTooLong (its.toArray.size+its2.toArray.size))=true:=by
  rw[GQ hsz,Bool.and_false];exact aX
 refine call_meets F.slot_list_extend ⟨_,e,rfl⟩ F.entry_list_extend (F.args_list_extend_2 _ _)
  (AutoSeq1.list_extend_list_list_0 l its.toArray n b its2.toArray n2 hlong (by rw[aI];lia) (by lia)) ⟨e,e2,?_⟩
 refine ⟨.non,_,I.lset (its':=its++its2) hH e (by simp) (r.append r2) ?_,rfl,q⟩;rw[ao]
 lia
def My:R2:=fun x y H Q=>∃l b xs zs,x=.ref l/\y=.ref b/\H l=some (.lst xs)/\H b=some (.lst zs)/\xs.length+zs.length<=sizeLine/\∀p,H p=none->Q (.ref p) (upd H p (.lst (xs++zs)))
theorem De:xm X (binaryOp .Add) My:=by
 intro pins s σ H x y v u Q I rx ry h;obtain ⟨l,b,xs,zs,rfl,rfl,hH,hB,hz,q⟩:=h;cases rx;cases ry;obtain ⟨z,its,n,r,hl,e⟩:=I.lstM hH;obtain ⟨z2,its2,n2,r2,hl2,e2⟩:=I.lstM hB;refine PySem.P.add_list e e2 ?_ (by rw[aI,aI];lia);have ea:its.toArray++its2.toArray=(its++its2).toArray:=by simp
 rw[ea];exact ⟨.ref _,_,I.lnew (t':=s.toks) (r.append r2) (by rw[ao];lia),rfl,q _ I.fresh⟩
end
end L2
namespace Att
open PySem PySem.W PySem.Calls PyProof.Rows
theorem xj {P:Params} {h:Heap}:∀(ns:List Int) (vs:List Value),WellAll P h vs (ns.map WData.int)->IntsAre vs ns:=by
 intro ns
 induction ns with
 | nil =>
  intro vs w;rw[List.map_nil] at w;cases w;exact .nil
 | cons n ns ih =>
  intro vs w;rw[fh] at w;cases w with
  | cons a b =>
   cases a;exact .cons _ _ (ih _ b)
theorem EX {l:OpenLaw} {n:Nat} (hn:l.most=some n) {P:Params} {h:Heap} {args:List WData} {vals:List Value}
  (hpre:l.row.toRowW.claim.pre args=true) (hwl:WellAll P h vals args) :
  ∃a vs ns,vals=[Value.ref a]/\args=[WData.list (ns.map WData.int)]/\h.get? a=some { cls:=.type "list",data:=.seq vs.toArray }/\IntsAre vs ns/\ns.length<=n:=by
 have hsh:WShape.hasAll [] args [.list .int]=true:=(pre_splitW hpre).1;have hc:l.pre.holds [] { args:=args }=true:=(pre_splitW hpre).2;obtain ⟨d,r,rfl,h1,h2⟩:=hasAllW_cons hsh;obtain rfl:=hasAllW_nil h2;obtain ⟨xs,rfl,h3⟩:=hasW_list h1;obtain ⟨ns,rfl⟩:=items_int h3
 have hlen:ns.length<=n:=by
  unfold OpenLaw.pre at hc
  have h4:(WTm.not (.lt (.lit (.int (n:Int))) (.len (.arg 0)))).holds [] { args:=[.list (ns.map .int)] }=true:=by
   have h4:=(holds_andW hc).1;rw[hn] at h4;exact h4
  have h5:=condW_of h4 (w_not (w_lt w_lit (w_len_list (w_arg rfl))));rw[aj] at h5;refine Nat.le_of_not_lt fun q=>?_
  have q':(n:Int) < ((ns.length:Nat):Int):=by lia
  first
   | (rw[decide_eq_true q'] at h5;exact absurd h5 (by decide))
   | (simp at h5;lia)
 cases hwl with
 | cons w1 w2 =>
  cases w2;cases w1 with
  | list ho hall=>exact ⟨_,_,ns,rfl,rfl,ho,xj ns _ hall,hlen⟩
theorem E4 (l:OpenLaw) (args:List WData):l.row.toRowW.claim.post args (.bool true) args=true :=
 postW_of (r:=l.row.toRowW) (X:=(true == true))
  (show WShape.has [] (.bool true) .bool=true by first | rfl | decide | simp [WShape.has,WShape.arms,WShape.armsAll])
  (show (WTm.eq .res (.lit (.bool true))).value [] { args:=args,res:=some (.bool true),after:=args }=some (.bool (true == true)) from w_eq_bool (w_res rfl) w_lit) rfl
theorem Cr {l:OpenLaw} {n:Nat} {q:Program} {loose:List Str} {XP:(Str->Option Value)->Heap->Prop} {YP:World->Heap->Prop} {d:DefRec}
  (hn:l.most=some n) (hdf:d.params.defaults=[])
  (call:∀(w:World) (s₀ s₁:Shared) (mg mb:Str->Option Value) (fa:Addr) (o:Obj) (pm cd doc:Value) (a:Addr) (vs:List Value) (ns:List Int),
   Ground q loose [] XP w s₀ mg mb s₁.heap->YP w s₁.heap →
   s₁.heap.get? fa=some o->o.data=.func (docDef d.name d.params d.body d.scope pm cd doc)->s₁.heap.CodeRec cd d.name->mg d.name=some (.ref fa) →
   s₁.heap.get? a=some { cls:=.type "list",data:=.seq vs.toArray }->IntsAre vs ns->ns.length<=n->s₁.gens=#[] →
   codeAny (model l.prog w) callerA (.call (.ref fa) ⟨[.ref a],[]⟩) (fun r s'=>r=.ok (.ret (.bool true))/\OldK s₁.heap s'.heap/\s'.os=s₁.os/\AllBare s'.gens) s₁) :
  WalkO q loose XP YP l.row.toRowW d [] (fun f vs=>PySem.call f vs):=by
 intro w s₀ s₁ mg mb G Y fa o pm cd doc dV kV ho hd hcd hD hmg hg args vals as hpre hlay hrd hwl hlo;obtain rfl:dV=.none:=Dflts.none hD hdf;obtain rfl:kV=.none:=Dflts.noKw hD;obtain ⟨a,vs,ns,rfl,rfl,hobj,hints,hlen⟩:=EX hn hpre hwl;refine enter_call (codeAny_mono (call w s₀ s₁ mg mb fa o pm cd doc a vs ns G Y ho (fd_plain hd) hcd hmg hobj hints hlen hg) fun r s' hq=>?_);obtain ⟨rfl,h2,h3,h4⟩:=hq;exact ⟨.inl ⟨.bool true,.bool true,[],rfl,fun _=>rfl,.bool true,E4 l _,fun _=>⟨List.Pairwise.nil,fun _ hm=>(nomatch hm)⟩⟩,h2,h3,h4⟩
section
variable {prog:Program} {w:World} {A:Around} {E:Value->Shared->Prop} {s:Shared} {K:Frag}
end
end Att
namespace L2
open PySem PySem.Spec PyProof.Rows
theorem zB:∀{vs:List Value} {ns:List Int},IntsAre vs ns->cB (ns.map V.int) vs
 | _,_,.nil=>.nil
 | _,_,.cons n t h=>.cons ⟨t,rfl⟩ (zB h)
def LJ (H:Hp):Prop:=∀b,H b=none\/∃o xs,H b=some (.frz o (.lst xs))
theorem GZ {P : Program} {w : World} {K : PySem.W.Frag} {mg mb : Str → Option Value} {CX : Ig} {k : Nat} {fa a : Addr} {fd : FuncData} {x : Str} {sp : Sp} {s₁ : Shared} {vs : List Value} {ns : List Int}
    (KX : K.In s₁.heap) (hns : s₁.heap.Ns mainGlobals mg) (hb : s₁.heap.Ns builtinsNs mb) (hbb : ∀ x : Str, x ≠ "__name__" → mb x = bootBuiltins x) (hlim : s₁.heap.NoLimit) (hg : s₁.gens = #[])
    (ha : s₁.heap.get? a = some { cls := .type "list", data := .seq vs.toArray }) (hi : IntsAre vs ns) (hl : ns.length ≤ sizeLine) (hr : lh k callerA)
    (F : ∀ base : Heap, K.In base → base.Ns mainGlobals mg → cC P w K mg base CX k fa fd [x] sp) (hbind : ∀ (s : Shared) (u : Value), BindsTo s fd ⟨[u], []⟩ [(x, u)])
    (hsp : ∀ H : Hp, LJ H → bJ K H a (ns.map V.int) → sp [.ref a] H (fun v _ => v = .bl true) fun _ _ _ => False)
    (hCX : ∀ H e s', CX [] H s₁ (fun _ _ _ => False) e s' → False) :
    codeAny (model P w) callerA (.call (.ref fa) ⟨[.ref a], []⟩) (fun r s' => r = .ok (.ret (.bool true)) /\ OldK s₁.heap s'.heap /\ s'.os = s₁.os /\ AllBare s'.gens) s₁ := by
  have rv := zB hi;have lenV := hi.length
  have core : ∀ H : Hp, LJ H → bJ K H a (ns.map V.int) → xN P w H s₁.heap → (∀ b, H b ≠ none → b = a) → (H a ≠ none → K.lookup a = none) →
      codeAny (model P w) callerA (.call (.ref fa) ⟨[.ref a], []⟩) (fun r s' => r = .ok (.ret (.bool true)) /\ OldK s₁.heap s'.heap /\ s'.os = s₁.os /\ AllBare s'.gens) s₁ := by
    intro H hO hS hok hA hK;have base_of : ∀ {b : Addr} {o : Obj}, s₁.heap.get? b = some o → H b = none → (AZ s₁.heap H).get? b = some o := fun e n => Hu e n
    have noA : ∀ {b : Addr} {o : Obj} {es : Array DictEntry} {ep : Nat}, s₁.heap.get? b = some o → o.data = .dict es ep → H b = none := fun {b o es ep} e d => by
      cases q : H b with
      | none => rfl
      | some u =>
        have e' : b = a := hA b (by rw [q]; simp);subst e';rw [ha] at e; cases e;have d' : Data.seq vs.toArray _ = Data.dict es ep := d;cases d'
    have nsK : ∀ {b : Addr} {m : Str → Option Value}, s₁.heap.Ns b m → (AZ s₁.heap H).Ns b m := fun {b m} ⟨o, es, ep, e, d, r⟩ => ⟨o, es, ep, base_of e (noA e d), d, r⟩
    have hKb : K.In (AZ s₁.heap H) := fun b o e => base_of (KX b o e) (by
      cases q : H b with
      | none => rfl
      | some u =>
        have e' : b = a := hA b (by rw [q]; simp);subst e';rw [hK (by rw [q]; simp)] at e; cases e)
    have hM : Mod K mg (AZ s₁.heap H) := ⟨hKb, nsK hns, ⟨mb, nsK hb, hbb⟩, let ⟨mc, h1, h2⟩ := hlim; ⟨mc, nsK h1, h2⟩⟩;have e0 : DI P w K mg (AZ s₁.heap H) callerA [] s₁ H := ⟨rfl, hM, fun b o e => Jr e, Nat.le_of_eq (Fj _ _), trivial, fun b hb => absurd (show b ∈ ([] : List Addr) from hb) (by simp), hok, .of_eq hg⟩;refine codeAny_mono ((F _ hKb (nsK hns)).run callerA [] s₁ H ⟨[.ref a], []⟩ [.ref a] [.ref a] _ _ hr e0 (hbind s₁ (.ref a)) (.cons rfl .nil) (hsp H hO hS)) fun r s' h => ?_
    cases r with
    | error e => exact (hCX H e s' h).elim
    | ok fl =>
      cases fl with
      | next => exact False.elim h
      | brk => exact False.elim h
      | cont => exact False.elim h
      | ret u =>
        obtain ⟨v, H', os, bare, un, hok', r', q⟩ := h;have q' : v = .bl true := q;subst q';obtain rfl : u = Value.bool true := r';refine ⟨rfl, OldK.of_keep fun b o e => ?_, os, bare⟩;cases q : H b with
        | none => exact un.keep b o e q (by intro z; exact absurd (show b ∈ ([] : List Addr) from z) (by simp)) (by simp)
        | some u =>
          rcases hO b with z | ⟨ob, xs, z⟩
          · rw [q] at z; cases z
          · have z2 := un.frzs b ob _ z;obtain ⟨e1, _⟩ := hok b _ z;obtain ⟨e2, _⟩ := hok' b _ z2;rw [e] at e1; cases e1;exact e2
  cases hk : K.lookup a with
  | some o =>
    have e := KX a o hk;rw [ha] at e;cases e;refine core (fun _ => none) (fun _ => .inl rfl) (.inr ⟨_, vs.toArray, _, hk, rfl, rfl, rfl, by rw [aI, lenV]; exact hl, by simpa using rv⟩) (fun b u z => by have z' : (none : Option HO) = some u := z; cases z') (fun b z => absurd rfl z) fun z => absurd rfl z
  | none =>
    refine core (fun b => if b = a then some (.frz { cls := .type "list", data := .seq vs.toArray } (.lst (ns.map V.int))) else none) (fun b => ?_) (.inl (.inr ⟨{ cls := .type "list", data := .seq vs.toArray }, if_pos rfl⟩)) (fun b u z => ?_) (fun b z => ?_) fun _ => hk
    · by_cases hb : b = a
      · exact .inr ⟨_, _, if_pos hb⟩
      · exact .inl (if_neg hb)
    · by_cases hb : b = a
      · have z' := (if_pos hb).symm.trans z;cases z';subst hb;exact ⟨ha, by rw [aj]; exact hl, vs, _, rv, ha⟩
      · have z' := (if_neg hb).symm.trans z;cases z'
    · by_cases hb : b = a
      · exact hb
      · exact absurd (if_neg hb) z
theorem Io {l:PySem.W.OpenLaw} {n k:Nat} {q:Program} {loose:List Str} {XP:(Str->Option Value)->Heap->Prop} {YP:World->Heap->Prop} {d:DefRec} {K:Params->PySem.W.Frag} {CX:World->Ig} {sp:World->Sp} {x:Str}
  (hn:l.most=some n) (hn2:n<=sizeLine) (hdf:d.params.defaults=[]) (hr:lh k callerA)
  (hY:∀(w:World) (h:Heap),YP w h->(K w.params).In h)
  (F:∀(w:World) (mg:Str->Option Value) (fa:Addr) (h:Heap),(K w.params).In h->h.Ns mainGlobals mg->mg d.name=some (.ref fa) →
   ∃fd:FuncData,(∀(s:Shared) (u:Value),BindsTo s fd ⟨[u],[]⟩ [(x,u)]) /\
    ∀base:Heap,(K w.params).In base->base.Ns mainGlobals mg->cC l.prog w (K w.params) mg base (CX w) k fa fd [x] (sp w))
  (hsp:∀(w:World) (H:Hp) (a:Addr) (ns:List Int),ns.length<=n->LJ H->bJ (K w.params) H a (ns.map V.int)->sp w [.ref a] H (fun v _=>v=.bl true) fun _ _ _=>False)
  (hCX:∀(w:World) (H:Hp) (s:Shared) (e:Value) (s':Shared),CX w [] H s (fun _ _ _=>False) e s'->False) :
  PySem.W.WalkO q loose XP YP l.row.toRowW d [] (fun f vs=>PySem.call f vs):=by
 refine Att.Cr hn hdf fun w s₀ s₁ mg mb fa o pm cd doc a vs ns G Y ho hd hcd hmg hobj hints hlen hg=>?_
 have KX:=hY w _ Y;obtain ⟨fd,hb,hF⟩:=F w mg fa _ KX G.T.g hmg;exact GZ KX G.T.g G.T.b G.T.builtins G.T.nolimit hg hobj hints (ah hlen hn2) hr hF hb (fun H hO hS=>hsp w H a ns hlen hO hS) fun H e s'=>hCX w H s₁ e s'
end L2


namespace L2
open PySem PySem.Spec PyProof.Rows
def inClass (s:Stmt) (j:Nat):Stmt:=match s with
 | .ClassDef _ _ _ body _ _ _ _ _ _ _=>body.getD j (.Pass ⟨0,0,0,0⟩)
 | _=>.Pass ⟨0,0,0,0⟩
def aY (s:Stmt):Arguments:=match s with
 | .FunctionDef _ a _ _ _ _ _ _ _ _=>a
 | _=>{ posonlyargs:=[],args:=[],vararg:=none,kwonlyargs:=[],kw_defaults:=[],kwarg:=none,defaults:=[] }
def aS (s:Stmt):List Stmt:=match s with
 | .FunctionDef _ _ b _ _ _ _ _ _ _=>b
 | _=>[]
def ax (s:Stmt):Scope:=match s with
 | .FunctionDef _ _ _ _ _ _ sc _ _ _=>sc
 | _=>{ kind:=.function,names:=[],isGenerator:=false,isCoroutine:=false }
abbrev iq:Ig:=fun _ _ _ _ _ _=>False
abbrev E0:XK:=fun _ _ _=>False
theorem zL {X:Cx}:uH iq X E0:=fun _ _ _ _ _ _ _ h=>h.elim
theorem cP {X:Cx} {k k':Nat} {f:Addr} {fd:FuncData} {ps:List Str} {sp:Sp} {x:Str} {p pos:Pos} {e:Expr} {es:List Expr} {t:TA} (F:cC X.prog X.w X.K X.mg X.base iq k f fd ps sp) (hr:lh k' X.A) (hm:X.mg x=some (.ref f)) (hk:PySem.W.keepIn X.K (.ref f)=true) (hb:Binds X.K fd ps []) (ha:PA X (e::es) t) (hle:k<=k':=by decide) (hg:Gl X x:=by exact rfl) (hdb:(x==("__debug__":Str))=false:=by decide) (he:starEach (e::es) X.env=(false,eval e X.env)::starEach es X.env:=by rfl) (hpl:(backTo pos (starEach es X.env)).any (·.1)=false:=by rfl):PE X (.Call (.Name x p) (e::es) [] pos) (DK sp [] E0 t):=Jn F (hr.mono hle) hg hm hk hb .nil zL ha hdb he hpl
structure iE (K:PySem.W.Frag) (x qual:Str) (st:Stmt) (f:Addr) (fd:FuncData):Prop where
 ex:∃(oc:Value) (od:Option Addr) (kV doc pm:Value) (an:Option Addr) (cdv ct:Value) (osl:Array (Option Value)),
  fd=PySem.W.fnOf x qual (aY st) (aS st) (ax st) .none kV doc pm an cdv ct/\K.lookup f=some ⟨oc,od,.func fd,osl⟩/\PySem.W.codeIn K cdv qual=true
 kp:PySem.W.keepIn K (.ref f)=true
section
variable {P:Program} {w:World} {K:PySem.W.Frag} {mg:Str->Option Value} {base:Heap}
theorem iE.ok {x qual:Str} {st:Stmt} {f:Addr} {fd:FuncData} {N ps:List Str} {k:Nat} {sp:Sp} (F:iE K x qual st f fd) (S:aZ N ps (ax st)) (len:∀vs H Q E,sp vs H Q E->vs.length=ps.length)
  (hbody:∀(cdv:Value) (A:Around) (outer:List Env) (s:Shared) (H:Hp) (vs:List V) (Q:VK) (E:XK),lh k (A.deeper (envOfC qual (ax st) s.heap.objs.size f cdv))->sp vs H Q E →
   ∃t,DG (Fo iq P w K mg base N qual (ax st) f cdv A outer s H E).nox (aS st) t/\t { nx:=fun _ H'=>Q .non H',rt:=Q } (start N vs) H):cC P w K mg base iq (k+1) f fd ps sp:=by
 obtain ⟨oc,od,kV,doc,pm,an,cdv,ct,osl,rfl,lk,hcd⟩:=F.ex;refine MO lk hcd S len fun A outer s H vs Q E hr hsp=>?_
 obtain ⟨t,h,q⟩:=hbody cdv A outer s H vs Q E hr hsp;exact ⟨t,h.nox,q⟩
theorem iE.binds {x qual:Str} {st:Stmt} {f:Addr} {fd:FuncData} {ps:List Str} (F:iE K x qual st f fd)
  (h:∀(kV doc pm:Value) (an:Option Addr) (cdv ct:Value) (us:List Value),us.length=ps.length->bindArgs (PySem.W.fnOf x qual (aY st) (aS st) (ax st) .none kV doc pm an cdv ct) ⟨us,[]⟩=pure (ps.zip us)):Binds K fd ps []:=by
 obtain ⟨oc,od,kV,doc,pm,an,cdv,ct,osl,rfl,lk,hcd⟩:=F.ex;exact .all (h kV doc pm an cdv ct)
theorem bI {x qual:Str} {st:Stmt} {f:Addr} {oc:Value} {od an:Option Addr} {osl:Array (Option Value)} {kV doc pm cdv ct:Value} (l:K.lookup f=some ⟨oc,od,.func (PySem.W.fnOf x qual (aY st) (aS st) (ax st) .none kV doc pm an cdv ct),osl⟩)
  (c:PySem.W.codeIn K cdv qual=true) (k:PySem.W.keepIn K (.ref f)=true):iE K x qual st f (PySem.W.fnOf x qual (aY st) (aS st) (ax st) .none kV doc pm an cdv ct):=⟨⟨oc,od,kV,doc,pm,an,cdv,ct,osl,rfl,l,c⟩,k⟩
end
theorem bT {n:Nat} (h:n<=1000):n < sizeLine:=aW h (by decide)
section
variable {X:Cx}
theorem pv (i:Nat) {x:Str} {pos:Pos} (hN:X.N[i]?=some x:=by rfl) (hv:Nw X.env.scope x:=by first | exact Or.inl rfl | exact Or.inr (Or.inl rfl) | exact Or.inr (Or.inr rfl)) (hd:(x == ("__debug__":Str))=false:=by decide)
  (hcd:(x == ("__classdict__":Str))=false:=by decide):PE X (.Name x pos) (Kt i):=Le hN hv hd hcd
end
theorem Hq {A B:Prop} (h:B):if false=true then A else B:=by
 rw[if_neg aX];exact h
theorem MG {A B:Prop} (h:A):if true=true then A else B:=by
 rw[if_pos rfl];exact h
theorem gG {c A B:Prop} [Decidable c] (h1:c->A) (h2:¬c->B):if c then A else B:=by
 by_cases h:c
 ·rw[if_pos h];exact h1 h
 ·rw[if_neg h];exact h2 h
def aF (H H':Hp):Prop:=∀b o,H b=some o->H' b=some o
theorem aF.refl (H:Hp):aF H H:=fun _ _ h=>h
theorem aF.trans {H H1 H2:Hp} (a:aF H H1) (b:aF H1 H2):aF H H2:=fun c o h=>b c o (a c o h)
theorem aF.free {H H':Hp} (e:aF H H') {l:Addr} (h:H' l=Option.none):H l=Option.none:=by
 cases q:H l with
 | none=>rfl
 | some o =>
  rw[e l o q] at h;cases h
theorem aF.seq {K:PySem.W.Frag} {H H':Hp} {a:Addr} {xs:List V} (e:aF H H') (h:bJ K H a xs):bJ K H' a xs:=by
 rcases h with (h | ⟨o,h⟩) | h
 ·exact .inl (.inl (e _ _ h))
 ·exact .inl (.inr ⟨o,e _ _ h⟩)
 ·exact .inr h
end L2
namespace Nm
theorem HD (a b:Int):Int.gcd b (a.fmod b)=Int.gcd a b:=by
 rw[Int.fmod_def,kX a b];apply Nat.dvd_antisymm
 ·apply Ic
  ·exact eh ..
  ·have h1:=eh (a:=b) (b:=a - b*a.fdiv b);have h2:=eN (a:=b) (b:=a - b*a.fdiv b);have h3:=Int.dvd_add h2 (nI (c:=a.fdiv b) h1);rwa [Int.sub_add_cancel] at h3
 ·apply Ic
  ·exact eh ..
  ·exact Int.dvd_sub (eN ..) (nI (eh ..))
theorem HE (a b:Int):Int.gcd b (a % b)=Int.gcd a b:=by
 rw[Int.emod_def,kX a b];apply Nat.dvd_antisymm
 ·apply Ic
  ·exact eh ..
  ·have h1:=eh (a:=b) (b:=a - b*(a / b));have h2:=eN (a:=b) (b:=a - b*(a / b));have h3:=Int.dvd_add h2 (nI (c:=a / b) h1);rwa [Int.sub_add_cancel] at h3
 ·apply Ic
  ·exact eh ..
  ·exact Int.dvd_sub (eN ..) (nI (eh ..))
theorem Jx (a b:Int) (h:b≠0):(a.fmod b).natAbs < b.natAbs:=by
 rcases Int.lt_or_gt_of_ne h with h | h
 ·have e:a.fmod b=-((-a).fmod (-b)):=by
   have:=Int.neg_fmod_neg (-a) (-b);simp only[Int.neg_neg] at this;exact this
  have h1:=Int.fmod_nonneg_of_pos (-a) (b:=-b) (by lia);have h2:=Int.fmod_lt_of_pos (-a) (b:=-b) (by lia)
  lia
 ·have h1:=Int.fmod_nonneg_of_pos a h;have h2:=Int.fmod_lt_of_pos a h
  lia
def g (t b:Int):Int:=(Int.gcd t b:Int)
def lo (t b:Int):Int:=t / g t b
def hi (t b:Int):Int:=b / g t b
theorem yG {t b:Int} (h:b≠0):0 < g t b:=by
 unfold g;have:0 < Int.gcd t b:=Il _ h
 lia
theorem yC (t b:Int):lo t b*g t b=t:=Int.ediv_mul_cancel (eh ..)
theorem wb (t b:Int):hi t b*g t b=b:=Int.ediv_mul_cancel (eN ..)
theorem A0 {t b:Int} (h:0 < b):0 < hi t b:=by
 have h1:=yG (t:=t) (b:=b) (by lia);have h2:=wb t b;by_cases h3:0 < hi t b
 ·exact h3
 ·have:hi t b*g t b<=0:=Int.mul_nonpos_of_nonpos_of_nonneg (by lia) (by lia)
  lia
theorem yA {t b:Int} (h:b≠0):Int.gcd (lo t b) (hi t b)=1:=by
 have h1:=yG (t:=t) h;have e:=Int.gcd_mul_right (lo t b) (g t b) (hi t b);rw[yC,wb] at e;have e2:(g t b).natAbs=Int.gcd t b:=by unfold g;simp
 rw[e2] at e;have h2:0 < Int.gcd t b:=Il _ h;exact Nat.eq_of_mul_eq_mul_right h2 (by rw[<- e,Ia])
theorem yB (t b : Int) : lo t b * b = t * hi t b := by
  have h1 := yC t b;have h2 := wb t b
  calc lo t b * b = lo t b * (hi t b * g t b) := by rw [h2]
    _ = (lo t b * g t b) * hi t b := by rw [e8 (hi t b), <- di]
    _ = t * hi t b := by rw [h1]
theorem pW {a b c:Int} (h:Int.gcd a b=1) (hd:a∣b*c):a∣c:=by
 have h1:a.natAbs∣b.natAbs*c.natAbs:=by rw[<- eE];exact dX.mpr hd
 have h2:Nat.Coprime a.natAbs b.natAbs:=h;exact dX.mp (h2.dvd_of_dvd_mul_left h1)
theorem uniq {a b c d:Int} (hb:0 < b) (hd:0 < d) (h1:Int.gcd a b=1) (h2:Int.gcd c d=1) (e:a*d=c*b):a=c/\b=d:=by
 have e1:b∣d:=by
  have:b∣a*d:=⟨c,by rw[e,e8]⟩;exact pW (by rw[kX];exact h1) this
 have e2:d∣b:=by
  have:d∣c*b:=⟨a,by rw[<- e,e8]⟩;exact pW (by rw[kX];exact h2) this
 have e3:b=d:=Int.dvd_antisymm (by lia) (by lia) e1 e2;subst e3;exact ⟨ui (by lia) e,rfl⟩
theorem Lk {t b c d : Int} (hb : 0 < b) (hd : 0 < d) (h2 : Int.gcd c d = 1) (e : t * d = c * b) : lo t b = c /\ hi t b = d := by
  refine uniq (A0 hb) hd (yA (by lia)) h2 ?_;have h := yB t b;have hb' : b ≠ 0 := by lia
  apply ui hb'
  calc lo t b * d * b = lo t b * b * d := by rw [di, e8 d b, <- di]
    _ = t * hi t b * d := by rw [h]
    _ = t * d * hi t b := by rw [di, e8 (hi t b), <- di]
    _ = c * b * hi t b := by rw [e]
    _ = c * hi t b * b := by rw [di, e8 b, <- di]
theorem Ll {a b:Int} (hb:0 < b) (h:Int.gcd a b=1):lo a b=a/\hi a b=b:=Lk hb hb h rfl
theorem oJ {a b:Int} (h:b≠0):a.natAbs<=(a*b).natAbs:=by
 rw[eE];exact dr _ (Int.natAbs_pos.mpr h)
theorem lo_le {t b:Int} (h:b≠0):(lo t b).natAbs<=t.natAbs:=by
 have:=oJ (a:=lo t b) (b:=g t b) (by have:=yG (t:=t) h;lia);rwa [yC] at this
theorem Kb {t b:Int} (h:b≠0):(hi t b).natAbs<=b.natAbs:=by
 have:=oJ (a:=hi t b) (b:=g t b) (by have:=yG (t:=t) h;lia);rwa [wb] at this
def Sz (k:Nat) (x:Int):Prop:=x.natAbs < 2^k
theorem Sz.mono {j k:Nat} {x:Int} (h:Sz j x) (l:j<=k):Sz k x:=bw h (au (by decide) l)
theorem Sz.mul {j k:Nat} {x y:Int} (h1:Sz j x) (h2:Sz k y):Sz (j+k) (x*y):=by
 unfold Sz at *
 rw[eE,bM];exact Nat.mul_lt_mul'' h1 h2
theorem Sz.neg {k:Nat} {x:Int} (h:Sz k x):Sz k (-x):=by unfold Sz at *;rw[oF];exact h
theorem Sz.le {k:Nat} {x y:Int} (h:Sz k y) (l:x.natAbs<=y.natAbs):Sz k x:=aW l h
theorem Sz.hi {k:Nat} {t b:Int} (h:Sz k b) (hb:b≠0):Sz k (hi t b):=h.le (Kb hb)
end Nm
namespace L2
open PySem PySem.Spec PyProof.Rows
structure Bk (env:Env) (scope:Scope) (own capN:List Str):Prop where
 kind:scope.kind=.function
 locs:∀y∈scope.names,y.2=.local->scope.names.lookup y.1=some .local
 ownk:∀x∈own,scope.names.lookup x=some .local\/scope.names.lookup x=some .cell
 cells:∀y∈scope.names,y.2=.cell->y.1∈own/\y.1∉capN
 frees:∀y∈scope.names,y.2=.free->y.1∈capN/\y.1∉own
 capf:∀x∈capN,scope.names.lookup x=some .free
 caps:∀x∈capN,env.kindOf x=some .cell\/env.kindOf x=some .free
def Na (scope:Scope) (own capN:List Str):Bool :=
 decide (scope.kind=.function) && scope.names.all (fun y=>decide (y.2=.local->scope.names.lookup y.1=some .local) && decide (y.2=.cell->y.1∈own/\y.1∉capN) && decide (y.2=.free->y.1∈capN/\y.1∉own)) &&
 own.all (fun x=>decide (scope.names.lookup x=some .local\/scope.names.lookup x=some .cell)) && capN.all fun x=>decide (scope.names.lookup x=some .free)
def z5 (env:Env):List Str->Bool
 | []=>true
 | x :: r=>(match env.kindOf x with | some .cell=>true | some .free=>true | _=>false) && z5 env r
theorem Cn {env:Env}:∀{capN:List Str},z5 env capN=true->∀x∈capN,env.kindOf x=some .cell\/env.kindOf x=some .free
 | [],_,_,h=>nomatch h
 | y :: r,h,x,hx=>by
  unfold z5 at h;rw[dw] at h;rcases aB.mp hx with e | hx
  ·subst e;have h1:=h.1
   split at h1
   ·rename_i e;exact .inl e
   ·rename_i e;exact .inr e
   ·cases h1
  ·exact Cn h.2 x hx
theorem Bk.of {env:Env} {scope:Scope} {own capN:List Str} (h1:Na scope own capN=true) (h2:z5 env capN=true):Bk env scope own capN:=by
 unfold Na at h1;rw[dw,dw,dw,pI,pI,pI] at h1;obtain ⟨⟨⟨a1,a2⟩,a3⟩,a4⟩:=h1
 have a2':∀y∈scope.names,(y.2=.local->scope.names.lookup y.1=some .local)/\(y.2=.cell->y.1∈own/\y.1∉capN)/\(y.2=.free->y.1∈capN/\y.1∉own):=fun y hy=>by
  have q:=a2 y hy;rw[dw,dw] at q;exact ⟨of_decide_eq_true q.1.1,of_decide_eq_true q.1.2,of_decide_eq_true q.2⟩
 exact ⟨of_decide_eq_true a1,fun y hy=>(a2' y hy).1,fun x hx=>of_decide_eq_true (a3 x hx),fun y hy=>(a2' y hy).2.1,fun y hy=>(a2' y hy).2.2,fun x hx=>of_decide_eq_true (a4 x hx),Cn h2⟩
def dD (env:Env):List (Str×NameKind)->List (Str×Addr)->List (Str×Addr)
 | [],acc=>acc
 | (n,k) :: r,acc=>if k == .free then dD env r ((n,(env.cells.lookup n).getD 0) :: acc) else dD env r acc
theorem ic (env:Env):∀(names:List (Str×NameKind)) (acc:List (Str×Addr)),dD env names acc=dD env names []++acc
 | [],_=>rfl
 | (n,k) :: r,acc=>by
  unfold dD
  split
  ·rw[ic env r (_ :: acc),ic env r [_],bW];rfl
  ·exact ic env r acc
theorem p9 (env:Env):∀(names:List (Str×NameKind)) {x:Str} {c:Addr},(x,c)∈dD env names []->(x,NameKind.free)∈names/\c=(env.cells.lookup x).getD 0
 | [],_,_,h=>nomatch h
 | (n,k) :: r,x,c,h=>by
  unfold dD at h
  split at h
  ·rename_i hk
   have ek:k=.free:=by simpa using hk
   subst ek;rw[ic] at h;rcases aw.mp h with h | h
   ·have q:=p9 env r h;exact ⟨bN _ q.1,q.2⟩
   ·have e:(x,c)=(n,(env.cells.lookup n).getD 0):=by simpa using h
    cases e;exact ⟨cT,rfl⟩
  ·have q:=p9 env r h;exact ⟨bN _ q.1,q.2⟩
theorem jd {α:Type}:∀{l:List (Str×α)} {x:Str} {c:α},(x,c)∈l->∃d,l.lookup x=some d
 | (k,v) :: r,x,c,h=>by
  rw[kU];cases hb:x == k with
  | true=>exact ⟨v,rfl⟩
  | false =>
   rcases aB.mp h with e | h
   ·cases e;simp at hb
   ·exact jd h
theorem qd (env:Env):∀(names:List (Str×NameKind)) {x:Str},(x,NameKind.free)∈names->∃c,(x,c)∈dD env names []
 | (n,k) :: r,x,h=>by
  unfold dD;rcases aB.mp h with e | h
  ·cases e;rw[if_pos (by decide),ic];exact ⟨_,bQ _ cT⟩
  ·obtain ⟨c,q⟩:=qd env r h
   split
   ·rw[ic];exact ⟨c,rg _ q⟩
   ·exact ⟨c,q⟩
theorem yK {scope : Scope} {env : Env} (h : ∀ y ∈ scope.names, y.2 = .free → ∃ c, env.cells.lookup y.1 = some c) : closureFor scope env = pure (dD env scope.names []) := by
  have gen : ∀ (names : List (Str × NameKind)) (acc : List (Str × Addr)) (f : Str × NameKind → List (Str × Addr) → Sem (ForInStep (List (Str × Addr)))),
      (∀ name kind cells, f (name, kind) cells = if kind == .free then (do let a <- cellOf env name; pure (.yield ((name, a) :: cells))) else pure (.yield cells)) →
      (∀ y ∈ names, y.2 = .free → ∃ c, env.cells.lookup y.1 = some c) → forIn names acc f = pure (dD env names acc) := by
    intro names
    induction names with
    | nil => intro acc f hf _; rw [Al]; rfl
    | cons y r ih =>
      intro acc f hf hh;obtain ⟨n, k⟩ := y;rw [Ik, hf];unfold dD;by_cases hk : (k == NameKind.free) = true
      · obtain ⟨c, hc⟩ := hh (n, k) cT (by simpa using hk);have hc' : env.cells.lookup n = some c := hc;have e : cellOf env n = pure c := by unfold cellOf; rw [hc']
        rw [if_pos hk, if_pos hk, e, hc'];simp only [pure_bind, Option.getD_some];exact ih _ f hf fun y hy => hh y (bN _ hy)
      · rw [if_neg hk, if_neg hk];simp only [pure_bind];exact ih _ f hf fun y hy => hh y (bN _ hy)
  simp only [closureFor];rw [gen scope.names [] _ (fun name kind cells => by cases hkc : kind == NameKind.free <;> simp [hkc]) h];rfl

theorem eS:∀(names:List (Str×NameKind)) (n:Nat) (acc:List (Str×Addr)),cellsFrom n names acc=cellsFrom n names []++acc
 | [],_,_=>rfl
 | (x,k) :: r,n,acc=>by
  unfold cellsFrom
  split
  ·rw[eS r (n+1) (_ :: acc),eS r (n+1) [_],bW];rfl
  ·exact eS r n acc
theorem kE:∀(names:List (Str×NameKind)) (n:Nat) {x:Str} {c:Addr},(x,c)∈cellsFrom n names []->(x,NameKind.cell)∈names
 | [],_,_,_,h=>nomatch h
 | (y,k) :: r,n,x,c,h=>by
  unfold cellsFrom at h
  split at h
  ·rename_i hk
   have ek:k=.cell:=by simpa using hk
   subst ek;rw[eS] at h;rcases aw.mp h with h | h
   ·exact bN _ (kE r _ h)
   ·have e:(x,c)=(y,n):=by simpa using h
    cases e;exact cT
  ·exact bN _ (kE r _ h)
def wd (env:Env) (scope:Scope) (C:Addr):Env :=
 { scope:=relabel scope env,locals:=C,globals:=env.globals,cells:=cellsFrom (C+1) scope.names (dD env scope.names []),qual:=env.qual,func:=none,code:=env.code,frame:=env.frame,builtins:=env.builtins }
theorem BX {M:Model} {A:Around} {E:Value->Shared->Prop} {s:Shared} {scope:Scope} {g:Addr} {cl:List (Str×Addr)} {qual:Str} {env:Env} {Q:Env->Shared->Prop}
  (h:Q (newEnv scope s.heap.objs.size g (cellsFrom (s.heap.objs.size+1) scope.names cl) qual none .none (some env) builtinsNs) { s with heap:=pushCells (s.heap.push { cls:=.type "dict",data:=.dict #[] }) scope.names }) :
  wpAny M A (newFunctionEnv scope g cl [] qual none .none (some env)) Q E s:=by
 simp only[newFunctionEnv,Option.isSome_some,if_true];refine wpAny_bind (wpAny_alloc ?_);refine wpAny_bind (wpAny_layCells _ (fun name kind cells=>by cases hkc:kind == NameKind.cell <;> simp [hkc]) _ _ _ _ ?_);rw[show ({ s with heap:=s.heap.push { cls:=.type "dict",data:=.dict #[] } }:Shared).heap.objs.size=s.heap.objs.size+1 from Heap.size_push ..];rw[Al];exact wpAny_bind (wpAny_pure (wpAny_pure h))
theorem uQ {scope:Scope} {env:Env} {x:Str}:∀{k:NameKind},(relabel scope env).names.lookup x=some k->∃k0,scope.names.lookup x=some k0/\(k=k0\/(k0=.free/\k=.cell)):=by
 unfold relabel;show ∀{k:NameKind},(scope.names.map fun (n,k)=>if (k == NameKind.free && env.scope.kind == .function && env.kindOf n == some .cell) then (n,NameKind.cell) else (n,k)).lookup x=some k->_
 induction scope.names with
 | nil=>intro k h;cases h
 | cons y r ih =>
  intro k h;obtain ⟨n,k1⟩:=y;rw[fh,kU] at h;rw[kU];by_cases hc:(k1 == NameKind.free && env.scope.kind == .function && env.kindOf n == some .cell)=true
  ·simp only[hc,if_true] at h;cases hb:x == n with
   | true =>
    simp only[hb] at h
    have e1:k1=.free:=by
     rw[dw,dw] at hc;simpa using hc.1.1
    cases h;exact ⟨k1,rfl,.inr ⟨e1,rfl⟩⟩
   | false=>simp only[hb] at h;exact ih h
  ·have hc':(k1 == NameKind.free && env.scope.kind == .function && env.kindOf n == some .cell)=false:=by simpa using hc
   simp only[hc',fu,if_false] at h;cases hb:x == n with
   | true=>simp only[hb] at h;cases h;exact ⟨_,rfl,.inl rfl⟩
   | false=>simp only[hb] at h;exact ih h
theorem BL {scope:Scope} {env:Env} {x:Str}:scope.names.lookup x=some .free->(relabel scope env).names.lookup x=some .cell\/(relabel scope env).names.lookup x=some .free:=by
 unfold relabel;show _->(scope.names.map fun (n,k)=>if (k == NameKind.free && env.scope.kind == .function && env.kindOf n == some .cell) then (n,NameKind.cell) else (n,k)).lookup x=some .cell\/(scope.names.map fun (n,k)=>if (k == NameKind.free && env.scope.kind == .function && env.kindOf n == some .cell) then (n,NameKind.cell) else (n,k)).lookup x=some .free
 induction scope.names with
 | nil=>intro h;cases h
 | cons y r ih =>
  intro h;obtain ⟨n,k1⟩:=y;rw[kU] at h;rw[fh];by_cases hc:(k1 == NameKind.free && env.scope.kind == .function && env.kindOf n == some .cell)=true
  ·simp only[hc,if_true,kU];cases hb:x == n with
   | true=>exact .inl rfl
   | false=>rw[hb] at h;exact ih h
  ·have hc':(k1 == NameKind.free && env.scope.kind == .function && env.kindOf n == some .cell)=false:=by simpa using hc
   simp only[hc',fu,if_false,kU];cases hb:x == n with
   | true=>rw[hb] at h;cases h;exact .inr rfl
   | false=>rw[hb] at h;exact ih h
structure Bz where
 s:Shared
 H:Hp
 fp:List Addr
 C:Addr
def xl (X:Cx) (own capN:List Str) (scope:Scope) (Z:Bz):Cx where
 prog:=X.prog
 w:=X.w
 K:=X.K
 mg:=X.mg
 base:=X.base
 A:=X.A
 N:=own++capN
 s₀:=Z.s
 H₀:=Z.H
 env:=wd X.env scope Z.C
 outer:=X.stack
 stack:=X.stack
 ex:=Z.fp
 fn:=fun x=>own.contains x
 calm:=true
 pn:=[]
 xe:=fun _ _=>False
section
variable {X:Cx} {pins:List (Addr×Obj)} {σ:St} {own capN:List Str} {scope:Scope} {Z:Bz}
theorem jt (B:Bk X.env scope own capN) (I:Inv X pins σ Z.H Z.s) {x:Str} {c:Addr} (h:(wd X.env scope Z.C).cells.lookup x=some c) :
  (x∈own/\(x,c)∈cellsFrom (Z.C+1) scope.names [])\/(x∈capN/\x∉own/\X.env.cells.lookup x=some c):=by
 have h':(cellsFrom (Z.C+1) scope.names (dD X.env scope.names [])).lookup x=some c:=h;rw[eS] at h';rcases aw.mp (mem_of_lookup h') with m | m
 ·exact .inl ⟨(B.cells _ (kE _ _ m) rfl).1,m⟩
 ·obtain ⟨m1,e⟩:=p9 _ _ m;obtain ⟨q1,q2⟩:=B.frees _ m1 rfl;obtain ⟨d,hd⟩:=I.ok.has x (B.caps x q1);rw[hd] at e;exact .inr ⟨q1,q2,by rw[hd,e];rfl⟩
theorem JG (B:Bk X.env scope own capN) (I:Inv X pins σ Z.H Z.s) {x:Str} {c:Addr} (hx:x∈capN) (h:X.env.cells.lookup x=some c):(wd X.env scope Z.C).cells.lookup x=some c:=by
 have hm:(x,NameKind.free)∈scope.names:=mem_of_lookup (B.capf x hx);obtain ⟨c1,m1⟩:=qd X.env scope.names hm
 have hs:∃d,(wd X.env scope Z.C).cells.lookup x=some d:=by
  show ∃d,(cellsFrom (Z.C+1) scope.names (dD X.env scope.names [])).lookup x=some d
  rw[eS];exact jd (bQ _ m1)
 obtain ⟨d,hd⟩:=hs;rcases jt B I hd with ⟨q,m⟩ | ⟨_,_,q⟩
 ·exact absurd hx (B.cells _ (kE _ _ m) rfl).2
 ·rw[h] at q;cases q;exact hd
theorem E5 (h:Heap) (C:Addr) (hC:h.objs.size=C+1) (names:List (Str×NameKind)):CellsOk (pushCells h names) (C+1) (cellsFrom (C+1) names []):=by
 have q:=cellsFrom_ok names h (C+1) [] ⟨fun _ _ hm=>(nomatch hm),List.Pairwise.nil⟩ (by rw[hC];exact ar _);rwa [hC] at q
theorem A9 (I:Inv X pins σ Z.H Z.s) {x:Str} {c:Addr} (h:X.env.cells.lookup x=some c):@LT.lt Nat instLTNat c Z.s.heap.objs.size:=by
 obtain ⟨v,q⟩:=I.cell x c h;exact q.lt
theorem LF {h1:Heap} (I:Inv X pins σ Z.H Z.s) (hc:X.calm=true) (B:Bk X.env scope own capN) (hC:Z.s.heap.objs.size<=Z.C) (hcl:CellsOk h1 (Z.C+1) (cellsFrom (Z.C+1) scope.names []))
  (hf:∀b∈Z.fp,kg X pins Z.H b/\@LT.lt Nat instLTNat b Z.s.heap.objs.size):(xl X own capN scope Z).Ok:=by
 refine ⟨I.ok.mod,B.kind,I.ok.glob,I.ok.blt,hC,fun x y c h1 h2=>?_,fun x hx=>?_,fun x c hx h=>?_,fun _=>I.ok.hd hc,I.ok.frames,.inl rfl,fun b hb=>⟨?_,fun x c h=>?_⟩,I.bs,ah I.ok.bsz I.sz,fun b o e hb=>?_,fun b hb hz=>?_,I.stack,I.stkFree⟩
 ·rcases jt B I h1 with ⟨q1,m1⟩ | ⟨q1,n1,m1⟩ <;> rcases jt B I h2 with ⟨q2,m2⟩ | ⟨q2,n2,m2⟩
  ·exact name_of_addr hcl.apart m1 m2
  ·have l1:=(hcl.empty _ _ m1).2;have l2:=A9 I m2
   lia
  ·have l1:=(hcl.empty _ _ m2).2;have l2:=A9 I m1
   lia
  ·exact I.ok.inj x y c m1 m2
 ·have hx':(relabel scope X.env).names.lookup x=some .cell\/(relabel scope X.env).names.lookup x=some .free:=hx
  have hk:scope.names.lookup x=some .cell\/scope.names.lookup x=some .free:=by
   rcases hx' with h | h
   ·obtain ⟨k0,e,q | ⟨q,_⟩⟩:=uQ h
    ·exact .inl (by rw[e,<- q])
    ·exact .inr (by rw[e,q])
   ·obtain ⟨k0,e,q | ⟨_,q⟩⟩:=uQ h
    ·exact .inr (by rw[e,<- q])
    ·cases q
  show ∃c,(cellsFrom (Z.C+1) scope.names (dD X.env scope.names [])).lookup x=some c
  rcases hk with h | h
  ·exact LU.mp (xO scope.names (Z.C+1) _ (.inl h))
  ·obtain ⟨c,m⟩:=qd X.env scope.names (mem_of_lookup h);rw[eS];exact jd (bQ _ m)
 ·have ho:x∈own:=by have hx':own.contains x=true:=hx;simpa using hx'
  rcases jt B I h with ⟨_,m⟩ | ⟨_,n,_⟩
  ·have:=(hcl.empty _ _ m).2;have hC':Z.s.heap.objs.size<=Z.C:=hC;show Z.s.heap.objs.size<=c
   lia
  ·exact absurd ho n
 ·intro e;have e':@Eq Nat b Z.C:=e;have:=(hf b hb).2
  lia
 ·have l:=(hf b hb).2;rcases jt B I h with ⟨_,m⟩ | ⟨_,_,m⟩
  ·intro e;have e':@Eq Nat c b:=e;have:=(hcl.empty _ _ m).2
   lia
  ·exact (hf b hb).1.2.2.2.2.1 x c m
 ·obtain ⟨_,_,_,f3,_⟩:=(hf b hb).1;rcases f3 with f3 | f3
  ·exact I.ok.noex b o e f3
  ·exact absurd (bw (Heap.lt_size e) (ah I.ok.bsz f3)) (dF _)
 ·obtain ⟨_,f1,f2,_⟩:=(hf b hb).1;rcases aB.mp (I.stkSub b hz) with e | e
  ·exact f1 e
  ·exact f2 e
def Fw (k:Nat) (cap:List Nat) (σ:St):St:=List.replicate k none++cap.map fun j=>(σ[j]?).join
def xf (X:Cx) (capN:List Str) (cap:List Nat):Prop:=cap.map (fun j=>X.N[j]?)=capN.map some
theorem xf.get {cap:List Nat} (h:xf X capN cap) {i:Nat} {x:Str} (e:capN[i]?=some x):∃j,cap[i]?=some j/\X.N[j]?=some x:=by
 have q:=congrArg (fun l=>l[i]?) h;simp only[aJ,e,Option.map_some] at q;cases hc:cap[i]? with
 | none=>rw[hc] at q;cases q
 | some j=>rw[hc] at q;exact ⟨j,rfl,by simpa using q⟩
theorem Co {cap:List Nat} {h':Heap} {m:Str->Option Value} (I:Inv X pins σ Z.H Z.s) (B:Bk X.env scope own capN) (hcap:xf X capN cap)
  (kc:∀x c,X.env.cells.lookup x=some c->∀v,Z.s.heap.IsCell c v->h'.IsCell c v) {i:Nat} {x:Str} {v:V} (e1:(own++capN)[i]?=some x) (e2:(Fw own.length cap σ)[i]?=some (some v)) :
  ∃u,RelV v u/\Look (wd X.env scope Z.C) h' m x u:=by
 have hi:own.length<=i:=by
  by_cases hi:own.length<=i
  ·exact hi
  ·exfalso
   unfold Fw at e2;rw[dd (by simpa using hi),nG] at e2
   split at e2 <;> cases e2
 rw[b7 hi] at e1;unfold Fw at e2;rw[b7 (by simpa using hi),List.length_replicate,aJ] at e2;obtain ⟨j,hj,hN⟩:=hcap.get e1;rw[hj] at e2;have e3:(σ[j]?).join=some v:=by simpa using e2
 have e4:σ[j]?=some (some v):=by
  cases q:σ[j]? with
  | none=>rw[q] at e3;cases e3
  | some o=>rw[q] at e3;simp at e3;rw[e3]
 have hx:x∈capN:=ay e1;have hk:=B.caps x hx;obtain ⟨m0,_,hl⟩:=I.loc;obtain ⟨u,r,l⟩:=hl j x v hN e4 (.inr hk);refine ⟨u,r,.inr ⟨BL (B.capf x hx),?_⟩⟩;rcases l with ⟨hk2,_⟩ | ⟨_,c,hc,z⟩
 ·rcases hk with hk | hk
  ·rw[hk] at hk2;cases hk2
  ·rw[hk] at hk2;cases hk2
 ·exact ⟨c,JG B I hx hc,kc x c hc _ z⟩
theorem MN (I:Inv X pins σ Z.H Z.s) {b:Addr} (h:b∈Fz X.stack):@LT.lt Nat instLTNat b Z.s.heap.objs.size:=by
 obtain ⟨_,o,ho,_⟩:=I.stack.mem h;exact Heap.lt_size ho
theorem JE {cap:List Nat} {h1:Heap} {D:Addr} {oD:Obj} {t1:Nat} (I:Inv X pins σ Z.H Z.s) (hc:X.calm=true) (B:Bk X.env scope own capN) (hcap:xf X capN cap) (hC:Z.s.heap.objs.size<=Z.C)
  (hcl:CellsOk h1 (Z.C+1) (cellsFrom (Z.C+1) scope.names [])) (hf:∀b∈Z.fp,kg X pins Z.H b/\@LT.lt Nat instLTNat b Z.s.heap.objs.size)
  (hk:∀b o,Z.s.heap.get? b=some o->h1.get? b=some o) (hn:h1.Ns Z.C fun _=>none) (hD:Z.s.heap.objs.size<=D) (hDC:D≠Z.C) (hoD:h1.get? D=some oD) (hdD:∀v,oD.data≠.cell v) :
  Inv (xl X own capN scope Z) [(D,oD)] (Fw own.length cap σ) Z.H { Z.s with heap:=h1,toks:=t1 }:=by
 refine ⟨LF I hc B hC hcl hf,rfl,I.bare,Un.kept hk,⟨_,hn,fun i x v e1 e2 _=>Co I B hcap (fun x c _ v z=>z.keeps hk) e1 e2⟩,fun x c h=>?_,I.hok.fresh hC,fun x c h=>?_,fun p hp=>?_,I.hok.kept hk,?_⟩
 ·rcases jt B I h with ⟨_,m⟩ | ⟨_,_,m⟩
  ·exact ⟨none,(hcl.empty _ _ m).1⟩
  ·obtain ⟨v,q⟩:=I.cell x c m;exact ⟨v,q.keeps hk⟩
 ·rcases jt B I h with ⟨_,m⟩ | ⟨_,_,m⟩
  ·exact I.hok.fresh (by have:=(hcl.empty _ _ m).2;lia)
  ·exact I.freeC x c m
 ·have e:p=(D,oD):=by simpa [xl] using hp
  subst e;exact ⟨hoD,I.hok.fresh hD,hDC,fun z=>dF _ (bw (MN I z) hD),hdD⟩
 ·show (Fw own.length cap σ).length=(own++capN).length
  have:=congrArg List.length hcap;simp only[aj] at this;unfold Fw;simp [this]
theorem HX {cap:List Nat} {pins':List (Addr×Obj)} {σ':St} {H':Hp} {s':Shared} (I:Inv X pins σ Z.H Z.s) (B:Bk X.env scope own capN) (hcap:xf X capN cap) (hf:∀b∈Z.fp,kg X pins Z.H b/\@LT.lt Nat instLTNat b Z.s.heap.objs.size)
  (J:Inv (xl X own capN scope Z) pins' σ' H' s'):Inv (xl X own capN scope Z) pins' (Fw own.length cap σ) H' s':=by
 refine ⟨J.ok,J.os,J.bare,J.base,?_,J.cell,J.free,J.freeC,J.pin,J.hok,?_⟩
 ·obtain ⟨m,hn,_⟩:=J.loc;refine ⟨m,hn,fun i x v e1 e2 _=>Co I B hcap (fun x c hx v z=>?_) e1 e2⟩;obtain ⟨o,ho,hd⟩:=z;obtain ⟨sl,e⟩:=J.base.any ho (I.freeC x c hx) fun z=>(hf c z).1.2.2.2.2.1 x c hx rfl
  exact ⟨_,e,hd⟩
 ·show (Fw own.length cap σ).length=(own++capN).length
  have:=congrArg List.length hcap;simp only[aj] at this;unfold Fw;simp [this]
theorem JF {σ':St} {H':Hp} {s':Shared} {D:Addr} {its:List Value} {n:Nat} {ys:List V} (I:Inv X pins σ Z.H Z.s) (hf:∀b∈Z.fp,kg X pins Z.H b/\@LT.lt Nat instLTNat b Z.s.heap.objs.size) (hD:Z.s.heap.objs.size<=D)
  (J:Inv (xl X own capN scope Z) [(D,{ cls:=.type "list",data:=.seq its.toArray n })] σ' H' s') (r:cB ys its) (hz:ys.length<=sizeLine) :
  Inv X pins σ (upd H' D (.lst ys)) s':=by
 have pD:=J.pin (D,{ cls:=.type "list",data:=.seq its.toArray n }) (by simp);have ne:∀{b:Addr} {o:Obj},Z.s.heap.get? b=some o->b≠D:=fun e z=>by subst z;exact dF _ (bw (Heap.lt_size e) hD)
 have nt:∀{b:Addr} {u:HO},H' b=some u->b≠D:=fun e z=>by rw[z,pD.2.1] at e;cases e
 refine I.call' (ch:=Z.fp) J.os ⟨J.base.keep,J.base.slot,fun b o e h hx=>?_,J.base.there,fun b xs e=>?_,fun b o u e=>?_,fun b ps e=>?_⟩ (fun b u e=>?_) J.bare fun b hb=>?_
 ·rw[be (ne e)];exact J.base.free b o e h hx
 ·have q:=J.base.tups b xs e;rw[be (nt q)];exact q
 ·have q:=J.base.frzs b o u e;rw[be (nt q)];exact q
 ·obtain ⟨more,q⟩:=J.base.tbls b ps e;exact ⟨more,by rw[be (nt q)];exact q⟩
 ·by_cases hb:b=D
  ·subst hb;rw[aG] at e;cases e;exact ⟨hz,its,n,r,pD.1⟩
  ·rw[be hb] at e;exact (J.hok b u e).stay (fun c v _ q=>q) (fun c q=>by rw[be (nt q)];exact q) fun c xs q=>by rw[be (nt q)];exact q
 ·obtain ⟨_,f1,_,f3,f4,f5⟩:=(hf b hb).1;exact ⟨f3,f1,f4,f5⟩
end
theorem Ks {α:Type} {t:Sem α} {Q Q':α->Shared->Prop} {M:Model} {A:Around} {E:Value->Shared->Prop} {s:Shared} (h:wpAny M A t Q (fun _ _=>False) s) (hQ:∀a s,Q a s->Q' a s):wpAny M A t Q' E s :=
 wpAny_mono h hQ fun _ _ z=>False.elim z
theorem A8 {prog : Program} {w : World} {A : Around} {R : Result → Shared → Prop} {s : Shared} {elt target iter : Expr} {ifs : List Expr} {scope : Scope} {pos : Pos} {it acc : Value} {env : Env} (I : Nat → Shared → Prop)
    (turn : ∀ (E : Value → Shared → Prop) n s, I n s → wpAny (model prog w) A (pyNext it) (fun r s₁ => match r with
      | none => R (.ok .next) s₁
      | some v => wpAny (model prog w) A (letOwnedTupleGo target it v) (fun _ s₂ => wpAny (model prog w) A (assign target env v) (fun _ s₃ =>
          wpAny (model prog w) A (forIn ifs true fun c r => if r = true then do let ok <- isTrue c env (eval c env); pure (ForInStep.yield ok) else pure (ForInStep.yield r)) (fun ok s₄ =>
            if ok = true then wpAny (model prog w) A (eval elt env) (fun x s₅ => wpAny (model prog w) A (call (.builtin "list.append") [acc, x]) (fun _ s₆ => ∃ m, m < n /\ I m s₆) E s₅) E s₄
            else ∃ m, m < n /\ I m s₄) E s₃) E s₂) E s₁) E s)
    (n : Nat) (h : I n s) : codeAny (model prog w) A (.compLoop (.ListComp elt [⟨target, iter, ifs, 0⟩] scope pos) 0 it acc env) R s := by
  refine codeAny_loop rfl I (fun n s hI => ?_) n h;show wpAny _ A ((compTurn (.ListComp elt [⟨target, iter, ifs, 0⟩] scope pos) 0 it acc env).onRaise (fun x => do noteFrame x env; theTreesLotGoes x)) _ _ s
  refine wpAny_noted ?_;rw [compTurn_list];refine wpAny_bind (wpAny_standAt (wpAny_bind (wpAny_mono (turn _ n s hI) (fun r s₁ h₁ => ?_) fun _ _ h' => h')));cases r with
  | none => exact wpAny_pure h₁
  | some v =>
    refine wpAny_bind (wpAny_mono h₁ (fun _ s₂ h₂ => wpAny_bind (wpAny_mono h₂ (fun _ s₃ h₃ => wpAny_bind (wpAny_mono h₃ (fun ok s₄ h₄ => ?_) fun _ _ h' => h')) fun _ _ h' => h')) fun _ _ h' => h');cases ok with
    | false => exact wpAny_pure ⟨rfl, h₄⟩
    | true =>
      exact wpAny_bind (wpAny_bind (wpAny_mono h₄ (fun x s₅ h₅ => wpAny_bind (wpAny_mono h₅ (fun _ s₆ h₆ => wpAny_pure (wpAny_pure ⟨rfl, h₆⟩)) fun _ _ h' => h')) fun _ _ h' => h'))

def PF (X : Cx) (ifs : List Expr) (t : TT) : Prop :=
  ∀ (pins : List (Addr × Obj)) (s : Shared) (σ : St) (H : Hp) (Q : Bool → Hp → Prop), Inv X pins σ H s → t σ H Q →
    wpAny (model X.prog X.w) X.A (forIn ifs true fun c r => if r = true then do let ok <- isTrue c X.env (eval c X.env); pure (ForInStep.yield ok) else pure (ForInStep.yield r)) (TP X pins σ Q) X.xe s
def LY:TT:=fun _ H Q=>Q true H
theorem ck {X:Cx}:PF X [] LY:=fun _ _ _ H _ I h=>wpAny_tests_nil ⟨H,I,h⟩
theorem C8 {X:Cx} {c:Expr} {t:TT} (h:PT X c t):PF X [c] t:=fun pins s σ H Q I hw=>wpAny_tests_one (h pins s σ H Q I hw)
def rz (σ₀:St) (g:TG) (tf:TT) (te:TE) (x:V) (H:Hp) (NY:V->Hp->Prop) (NN:Hp->Prop):Prop :=
 g x σ₀ H fun σ2 H2=>tf σ2 H2 fun b H3=>if b=true then te σ2 H3 NY else NN H3
def sH (J:It) (σ₀:St) (g:TG) (tf:TT) (te:TE) (Q:VK) (H1:Hp):Prop :=
 ∃W:Nat->Nat->List V->Hp->Prop,(∃m,W 0 m [] H1)/\∀i m ys H,W i m ys H →
  (J.stop i H/\ys.length<=sizeLine/\∀p,H p=none->Q (.ref p) (upd H p (.lst ys))) \/
  (J.go i H/\ys.length < sizeLine/\∃(NY:V->Hp->Prop) (NN:Hp->Prop),(∀y H',NY y H'->∃m',m' < m/\W (i+1) m' (ys++[y]) H')/\(∀H',NN H'->∃m',m' < m/\W (i+1) m' ys H') /\
   ∀x H',J.yld i H x H'->rz σ₀ g tf te x H' NY NN)
def Bv (wi:TI) (k:Nat) (cap:List Nat) (g:TG) (tf:TT) (te:TE):TE:=fun σ H Q=>wi σ H fun J H1=>sH J (Fw k cap σ) g tf te Q H1
abbrev lobj (its:List Value) (n:Nat):Obj:={ cls:=.type "list",data:=.seq its.toArray n }
section
variable {X:Cx} {own capN:List Str} {cap:List Nat} {scope:Scope} {elt tg iter:Expr} {ifs:List Expr} {pos:Pos} {wi:TI} {g:TG} {tf:TT} {te:TE}
theorem zY {use:Option (Value->Sem Unit)} {Qe:Value->Shared->Prop} {fpos:Pos} (hc:X.calm=true) (B:Bk X.env scope own capN) (hcap:xf X capN cap)
  (hi:PI X tg iter wi) (hg:∀Z,PG (xl X own capN scope Z) tg g) (hf:∀Z,PF (xl X own capN scope Z) ifs tf) (he:∀Z,PE (xl X own capN scope Z) elt te)
  (hs:∀x,foldedSetIterable iter X.env x=pure x) {pins:List (Addr×Obj)} {s:Shared} {σ:St} {H:Hp} {Q:VK} (I:Inv X pins σ H s) (h:Bv wi own.length cap g tf te σ H Q)
  (fin:∀(D C:Addr) (s':Shared) (H':Hp),Inv X pins σ H' s'->kg X pins H' C->(∃m,s'.heap.Ns C m)->Q (.ref D) H'->compPost (model X.prog X.w) X.A X.xe use Qe (.ref D) C (.ok .next) s') :
  wpAny (model X.prog X.w) X.A (comprehension (.ListComp elt [⟨tg,iter,ifs,0⟩] scope pos) scope X.env fpos (newList []) false (eval iter X.env) use) Qe X.xe s:=by
 refine wpAny_comprehension_free (use:=use) rfl hs (yK fun y hy hk=>I.ok.has y.1 (B.caps _ (B.frees y hy hk).1)) B.kind B.locs ?_;refine fY (hi pins s σ H _ I h) fun v s1 h1=>fY h1 fun itv s2 h2=>?_
 obtain ⟨it,fp,tn,J,H2,e,I2,T,st2,f2,W,⟨m0,w0⟩,turn⟩:=h2;subst e;have hfp:∀b∈fp,kg X pins H2 b/\@LT.lt Nat instLTNat b s2.heap.objs.size:=fun b hb=>⟨f2 b hb,let ⟨_,e,_⟩:=T.obj _ _ st2 b hb;Heap.lt_size e⟩
 refine wpAny_newObj_type (BX ?_) (aT _);have es:(s2.heap.push { cls:=.type "list",data:=.seq ([]:List Value).toArray }).objs.size=s2.heap.objs.size+1:=Heap.size_push ..
 show codeAny _ _ (.compStart _ 0 (.ref it) (.ref s2.heap.objs.size) { newEnv scope (s2.heap.push { cls:=.type "list",data:=.seq ([]:List Value).toArray }).objs.size X.env.globals (cellsFrom ((s2.heap.push { cls:=.type "list",data:=.seq ([]:List Value).toArray }).objs.size+1) scope.names (dD X.env scope.names [])) X.env.qual none .none (some X.env) builtinsNs with scope:=relabel scope X.env })
  (compPost (model X.prog X.w) X.A X.xe use Qe (.ref s2.heap.objs.size) (s2.heap.push { cls:=.type "list",data:=.seq ([]:List Value).toArray }).objs.size)
  { s2 with heap:=pushCells ((s2.heap.push { cls:=.type "list",data:=.seq ([]:List Value).toArray }).push { cls:=.type "dict",data:=.dict #[] }) scope.names }
 have hk1:∀b o,(s2.heap.push { cls:=.type "list",data:=.seq ([]:List Value).toArray }).get? b=some o->(pushCells ((s2.heap.push { cls:=.type "list",data:=.seq ([]:List Value).toArray }).push { cls:=.type "dict",data:=.dict #[] }) scope.names).get? b=some o :=
  fun b o e=>pushCells_keeps _ _ _ _ (Heap.get?_push_of_some _ e)
 have hk:∀b o,s2.heap.get? b=some o->(pushCells ((s2.heap.push { cls:=.type "list",data:=.seq ([]:List Value).toArray }).push { cls:=.type "dict",data:=.dict #[] }) scope.names).get? b=some o:=fun b o e=>hk1 b o (Heap.get?_push_of_some _ e)
 have hoD:=hk1 s2.heap.objs.size _ (Heap.get?_push_size s2.heap (o:={ cls:=.type "list",data:=.seq ([]:List Value).toArray }) rfl);have hn:=(Heap.Ns.new (s2.heap.push { cls:=.type "list",data:=.seq ([]:List Value).toArray }) (.type "dict")).keeps (pushCells_keeps scope.names _);have hcl:=E5 ((s2.heap.push { cls:=.type "list",data:=.seq ([]:List Value).toArray }).push { cls:=.type "dict",data:=.dict #[] }) (s2.heap.objs.size+1) (by rw[Heap.size_push,es]) scope.names;rw[es] at hn ⊢;generalize pushCells ((s2.heap.push { cls:=.type "list",data:=.seq ([]:List Value).toArray }).push { cls:=.type "dict",data:=.dict #[] }) scope.names=h3 at hk hoD hn hcl ⊢;have Z:Bz:=⟨s2,H2,fp,s2.heap.objs.size+1⟩
 have I3:Inv (xl X own capN scope ⟨s2,H2,fp,s2.heap.objs.size+1⟩) [(s2.heap.objs.size,lobj [] 0)] (Fw own.length cap σ) H2 { s2 with heap:=h3 } :=
  JE (Z:=⟨s2,H2,fp,s2.heap.objs.size+1⟩) (t1:=s2.toks) I2 hc B hcap (Ah _) hcl hfp hk hn (ar _) (cw (iw _)) hoD (fun v z=>nomatch z)
 have st3:tn 0 h3:=T.keep _ _ _ st2 fun b _ o e=>hk b o e
 have loop:codeAny (model X.prog X.w) X.A (.compLoop (.ListComp elt [⟨tg,iter,ifs,0⟩] scope pos) 0 (.ref it) (.ref s2.heap.objs.size) (wd X.env scope (s2.heap.objs.size+1))) (compPost (model X.prog X.w) X.A X.xe use Qe (.ref s2.heap.objs.size) (s2.heap.objs.size+1)) { s2 with heap:=h3 }:=by
  refine A8 (fun m s'=>∃i ys σ' H' its n,Inv (xl X own capN scope ⟨s2,H2,fp,s2.heap.objs.size+1⟩) [(s2.heap.objs.size,lobj its n)] σ' H' s'/\tn i s'.heap/\(∀b∈fp,H' b=none)/\cB ys its/\W i m ys H') ?_ m0
   ⟨0,[],_,H2,[],0,I3,st3,fun b hb=>(f2 b hb).1,.nil,w0⟩
  rintro E n s4 ⟨i,ys,σ4,H4,its,k,I4,st4,fr4,rv,w4⟩
  have fpo:∀{pp:List (Addr×Obj)} {H':Hp},(∀p∈pp,p.1=s2.heap.objs.size)->(∀b∈fp,H' b=none)->∀b∈fp,kg (xl X own capN scope ⟨s2,H2,fp,s2.heap.objs.size+1⟩) pp H' b:=fun {pp H'} hpp hn b hb=>by
   obtain ⟨e1,e2⟩:=I4.ok.exf b hb;refine ⟨hn b hb,e1,I4.ok.exfs b hb,.inl hb,e2,fun p hp=>?_⟩;have hp':p∈pp:=by simpa [xl] using hp
   have l:=(hfp b hb).2;rw[hpp p hp'];exact fun z=>dF _ (by rw[<- z] at l;exact l)
  have pinD:∀{its:List Value} {n:Nat},∀p∈[(s2.heap.objs.size,lobj its n)],p.1=s2.heap.objs.size:=fun p hp=>by simp at hp;rw[hp]
  rcases turn i n ys H4 w4 with ⟨stop,hz,q⟩ | ⟨go,hlt,NY,NN,hNY,hNN,step⟩
  ·refine fY (T.done (xl X own capN scope ⟨s2,H2,fp,s2.heap.objs.size+1⟩) rfl rfl rfl rfl i _ s4 σ4 H4 E I4 (fpo pinD fr4) st4 stop) fun r s5 ⟨hr,I5⟩=>?_
   subst hr;have pD:=I5.pin (s2.heap.objs.size,lobj its k) (by simp);have I6:=JF (Z:=⟨s2,H2,fp,s2.heap.objs.size+1⟩) I2 hfp (ar _) I5 rv hz
   have hC:upd H4 s2.heap.objs.size (.lst ys) (s2.heap.objs.size+1)=none:=by
    rw[be (Ey (iw _))];exact I5.free
   obtain ⟨m,hm,_⟩:=I5.loc;exact fin _ _ s5 _ I6 (I2.fpOk (Ah _) hC) ⟨m,hm⟩ (q _ pD.2.1)
  ·refine fY (T.item (xl X own capN scope ⟨s2,H2,fp,s2.heap.objs.size+1⟩) rfl rfl rfl rfl i _ s4 σ4 H4 E I4 (fpo pinD fr4) st4 go) fun r s5 ⟨u,hr,h5⟩=>?_
   subst hr;refine fY h5 fun _ s6 ⟨x,H6,I6,r6,y6,st6,fr6⟩=>?_
   have I6':=(HX (Z:=⟨s2,H2,fp,s2.heap.objs.size+1⟩) I2 B hcap hfp I6).pinned (fpo pinD fr6) (T.obj _ _ st6)
   have back:∀{σ7:St} {H7:Hp} {s7:Shared},Inv (xl X own capN scope ⟨s2,H2,fp,s2.heap.objs.size+1⟩) ([(s2.heap.objs.size,lobj its k)]++ya fp s6.heap) σ7 H7 s7 →
     Inv (xl X own capN scope ⟨s2,H2,fp,s2.heap.objs.size+1⟩) [(s2.heap.objs.size,lobj its k)] σ7 H7 s7/\tn (i+1) s7.heap/\∀b∈fp,H7 b=none:=fun {σ7 H7 s7} I7=>by
    refine ⟨I7.unpinned,T.keep _ _ _ st6 fun b hb o e=>(I7.pin (b,o) (bQ _ (bQ _ (pU hb e)))).1,fun b hb=>?_⟩;obtain ⟨o,e,d⟩:=T.obj _ _ st6 b hb;exact (I7.pin (b,o) (bQ _ (bQ _ (pU hb e)))).2.1
   refine Ks (hg _ _ s6 _ H6 x u _ I6' r6 (step x H6 y6)) fun _ s7 ⟨σ7,H7,I7,q7⟩=>?_
   refine Ks (hf _ _ s7 σ7 H7 _ I7 q7) fun ok s8 ⟨H8,I8,q8⟩=>?_
   cases ok with
   | false =>
    rw[if_neg aX] at q8 ⊢;obtain ⟨m',hm,w8⟩:=hNN H8 q8;obtain ⟨J1,J2,J3⟩:=back I8;exact ⟨m',hm,i+1,ys,σ7,H8,its,k,J1,J2,J3,rv,w8⟩
   | true =>
    rw[if_pos rfl] at q8 ⊢;refine Ks (he _ _ s8 σ7 H8 _ I8 q8) fun z s9 ⟨y,H9,I9,r9,q9⟩=>?_
    obtain ⟨J1,J2,J3⟩:=back I9;obtain ⟨m',hm,w9⟩:=hNY y H9 q9;have pD:=J1.pin (s2.heap.objs.size,lobj its k) (by simp);have hl:=rv.length;refine call_meets F.slot_list_append ⟨_,pD.1,rfl⟩ F.entry_list_append (F.args_list_append_2 _ _) (PySem.list_append s2.heap.objs.size its.toArray k z (by rw[aI];lia)) ⟨pD.1,?_⟩;have e9:=kT pD.1 (fun a=>a.push z);have e9':(its.toArray.push z)=(its++[z]).toArray:=by simp
    rw[e9'] at e9;obtain ⟨n',e9⟩:∃n',(s9.heap.update s2.heap.objs.size (Obj.mapSeq fun a=>a.push z)).get? s2.heap.objs.size=some (lobj (its++[z]) n'):=⟨_,e9⟩
    have J4:Inv (xl X own capN scope ⟨s2,H2,fp,s2.heap.objs.size+1⟩) [] σ7 H9 { s9 with heap:=s9.heap.update s2.heap.objs.size (Obj.mapSeq fun a=>a.push z),toks:=s9.toks } :=
     (J1.pins_of (pins':=[]) fun p hp=>nomatch hp).turned (fun b o hb e=>(Heap.get?_update_other s9.heap _ (Ne.symm hb)).trans e) pD.2.1 pD.2.2.1 (.inr (ar _)) (fun x c hx z=>by
      rcases jt (Z:=⟨s2,H2,fp,s2.heap.objs.size+1⟩) B I2 hx with ⟨_,m⟩ | ⟨_,_,m⟩
      ·have:=(hcl.empty _ _ m).2;have z':@Eq Nat c s2.heap.objs.size:=z
       lia
      ·have:=A9 (Z:=⟨s2,H2,fp,s2.heap.objs.size+1⟩) I2 m;rw[z] at this;exact dF _ this) fun p hp=>by simp [xl] at hp
    have nfp:∀b∈fp,b≠s2.heap.objs.size:=fun b hb z=>by have:=(hfp b hb).2;rw[z] at this;exact dF _ this
    refine ⟨m',hm,i+1,ys++[y],σ7,H9,its++[z],n',J4.pins_of fun p hp=>?_,T.keep _ _ _ J2 fun b hb o e=>(Heap.get?_update_other s9.heap _ (Ne.symm (nfp b hb))).trans e,J3,rv.append (.cons r9 .nil),w9⟩;have ep:p=(s2.heap.objs.size,lobj (its++[z]) n'):=by simpa using hp
    rw[ep];exact ⟨e9,pD.2.1,pD.2.2.1,pD.2.2.2.1,fun v z=>nomatch z⟩
 exact codeAny_compStart_list loop (T.self _ _ _ _ _ st3 loop)
theorem cm (own capN:List Str) (cap:List Nat) (hi:PI X tg iter wi) (hg:∀Z,PG (xl X own capN scope Z) tg g) (hf:∀Z,PF (xl X own capN scope Z) ifs tf) (he:∀Z,PE (xl X own capN scope Z) elt te)
  (h1:Na scope own capN=true:=by decide +kernel) (h2:z5 X.env capN=true:=by rfl) (hcap:xf X capN cap:=by rfl) (hc:X.calm=true:=by rfl) (hs:∀x,foldedSetIterable iter X.env x=pure x:=by intro _;rfl) :
  PE X (.ListComp elt [⟨tg,iter,ifs,0⟩] scope pos) (Bv wi own.length cap g tf te):=by
 intro pins s σ H Q I h;rw[eval_ListComp];refine zY (use:=none) hc (Bk.of h1 h2) hcap hi hg hf he hs I h fun D C s' H' I' fC hm q=>?_
 obtain ⟨m,hm⟩:=hm;refine ⟨m,hm,fun h' hs'=>?_⟩;obtain ⟨f0,f1,f2,f3,f4,f5⟩:=fC;exact ⟨.ref D,H',I'.turned (t':=s'.toks) (fun b o hb e=>(hs'.2 b hb).trans e) f0 f1 f3 f4 f5,rfl,q⟩
theorem h7 (i:Nat) (own capN:List Str) (cap:List Nat) {x:Str} {pos' spos:Pos} (hN:X.N.Nodup) (hi':X.N[i]?=some x) (hx:X.env.scope.names.lookup x=some .local) (hi:PI X tg iter wi) (hg:∀Z,PG (xl X own capN scope Z) tg g) (hf:∀Z,PF (xl X own capN scope Z) ifs tf) (he:∀Z,PE (xl X own capN scope Z) elt te)
  (h1:Na scope own capN=true:=by decide +kernel) (h2:z5 X.env capN=true:=by rfl) (hcap:xf X capN cap:=by rfl) (hc:X.calm=true:=by rfl) (hs:∀x,foldedSetIterable iter X.env x=pure x:=by intro _;rfl)
  (hsw:swapsWith (.ListComp elt [⟨tg,iter,ifs,0⟩] scope pos) (some (.Name x pos')) spos.line X.env=pure true:=by rfl) :
  PS X (.Assign [.Name x pos'] (.ListComp elt [⟨tg,iter,ifs,0⟩] scope pos) spos) (Iu (Bv wi own.length cap g tf te) (Ee i)):=by
 intro pins s σ H D I h;rw[exec_Assign_Name_used _ _ _ _ hsw];refine wpAny_bind (wpAny_standAt (wpAny_bind ?_));rw[arm_evalThenUse_ListComp];refine wpAny_bind (zY (Q:=fun v H1=>D.nx (σ.set i (some v)) H1) (use:=some _) hc (Bk.of h1 h2) hcap hi hg hf he hs I h fun L C s' H' I' fC hm q=>?_);obtain ⟨m,hm⟩:=hm;obtain ⟨f0,f1,f2,f3,f4,f5⟩:=fC;refine wpAny_assign_Name (zD I' hN hi' (.inl hx) (v:=.ref L) rfl (fun s'' I'' ⟨a,sb,ha⟩=>?_) (.inr hx))
 have hCa:C≠a:=by
  rcases ha with e | e
  ·rw[e];exact f1
  ·exact (f4 x a e).symm
 refine ⟨m,hm.at' fun o e=>(sb.2 C hCa).trans e,fun h' hs'=>?_⟩;have I3:=I''.turned (h':=h') (t':=s''.toks) (fun b o hb e=>(hs'.2 b hb).trans e) f0 f1 f3 f4 f5;exact wpAny_pure (wpAny_pure ⟨_,H',I3,q⟩)
end
section
variable {K:PySem.W.Frag} {a:Addr} {xs:List V} {g:TG} {tf:TT} {te:TE} {Q:VK} {σ₀:St} {H:Hp}
theorem d6 (Pv:Nat->List V->Hp->Prop) (hz:xs.length<=sizeLine) (h0:Pv 0 [] H) (hl:∀i ys H,i<=xs.length->Pv i ys H->bJ K H a xs)
  (hs:∀i x ys H,xs[i]?=some x->ys.length<=i->Pv i ys H->rz σ₀ g tf te x H (fun y H'=>Pv (i+1) (ys++[y]) H') (fun H'=>Pv (i+1) ys H'))
  (hd:∀ys H,ys.length<=xs.length->Pv xs.length ys H->∀p,H p=none->Q (.ref p) (upd H p (.lst ys))):sH (Kj K a) σ₀ g tf te Q H:=by
 refine ⟨fun i m ys H=>m=xs.length - i/\i<=xs.length/\ys.length<=i/\Pv i ys H,⟨xs.length,by simp,aT _,aT _,h0⟩,?_⟩;rintro i m ys H ⟨rfl,hi,hy,p⟩;have q:=hl i ys H hi p;by_cases hlt:i < xs.length
 ·refine .inr ⟨⟨xs,xs[i],q,by simp [hlt]⟩,by lia,fun y H'=>Pv (i+1) (ys++[y]) H',fun H'=>Pv (i+1) ys H',fun y H' p'=>⟨xs.length - (i+1),by lia,rfl,hlt,by rw[ao,bc];lia,p'⟩,fun H' p'=>⟨xs.length - (i+1),by lia,rfl,hlt,by lia,p'⟩,fun x H' y=>?_⟩;obtain ⟨e,y⟩:=y;subst e;exact hs i x ys _ (y xs q) hy p
 ·have e:i=xs.length:=by lia
  subst e;exact .inl ⟨⟨xs,q,ar _⟩,by lia,hd ys H hy p⟩
theorem ke {lo:Int} {n:Nat} (Pv:Nat->List V->Hp->Prop) (hz:n<=sizeLine) (h0:Pv 0 [] H)
  (hs:∀i ys H,i < n->ys.length<=i->Pv i ys H->rz σ₀ g tf te (.int (lo+i)) H (fun y H'=>Pv (i+1) (ys++[y]) H') (fun H'=>Pv (i+1) ys H'))
  (hd:∀ys H,ys.length<=n->Pv n ys H->∀p,H p=none->Q (.ref p) (upd H p (.lst ys))):sH (Cu lo n) σ₀ g tf te Q H:=by
 refine ⟨fun i m ys H=>m=n - i/\i<=n/\ys.length<=i/\Pv i ys H,⟨n,by simp,aT _,aT _,h0⟩,?_⟩;rintro i m ys H ⟨rfl,hi,hy,p⟩;by_cases hlt:i < n
 ·refine .inr ⟨hlt,by lia,fun y H'=>Pv (i+1) (ys++[y]) H',fun H'=>Pv (i+1) ys H',fun y H' p'=>⟨n - (i+1),by lia,rfl,hlt,by rw[ao,bc];lia,p'⟩,fun H' p'=>⟨n - (i+1),by lia,rfl,hlt,by lia,p'⟩,fun x H' y=>?_⟩;obtain ⟨e,y⟩:=y;subst e y;exact hs i ys _ hlt hy p
 ·have e:i=n:=by lia
  subst e;exact .inl ⟨ar _,by lia,hd ys H hy p⟩
end
open Nm
def fq (i j:Int):Prop:=LN i j\/∃m n,Sz m i/\Sz n j/\m+n<=1000000
def rd (i j:Int):Prop:=j≠0/\Sz 8999 j
theorem yN {k:Nat} {i:Int} (h:Sz k i):Builtin.Int.intBits i<=k:=by
 unfold Builtin.Int.intBits;by_cases e:i=0
 ·subst e;simp
 ·have e':(i == 0)=false:=by simpa using e
  rw[e'];have hn:i.natAbs≠0:=by lia
  have:=(Nat.log2_lt hn).mpr h;simp only[fu,if_false]
  lia
theorem fq.ok {i j:Int} (h:fq i j):IntMulOk i j:=by
 rcases h with h | ⟨m,n,h1,h2,h3⟩
 ·exact h.ok
 ·have e:(2:Nat)^20=1048576:=by decide
  exact .of_bits (by have:=yN h1;lia) (by have:=yN h2;lia)
section
variable {X:Cx} {a b:Expr} {ta tb:TE} {pos:Pos}
theorem cI:xm X (binaryOp .Mult) (rI fq fun i j=>.int (i*j)):=M8 fun _ _ _ _ _ _ _ hc q=>mul_int q hc.ok
theorem jJ:xm X (binaryOp .FloorDiv) (rI rd fun i j=>.int (i.fdiv j)):=M8 fun i j _ _ _ _ _ hc q=>by
 refine floordiv_int hc.1 q (.inl (PyProof.noPylong_of_log2 ?_));have hn:j.natAbs≠0:=by have:=hc.1;lia
 have:=(Nat.log2_lt hn).mpr hc.2
 lia
def L0 (t u:TS):TS:=fun D σ H=>∃N:St->Hp->Prop,t { D with nx:=N } σ H/\∀σ' H',N σ' H'->u D σ' H'
theorem hZ {st:Stmt} {rest:List Stmt} {t u:TS} (h1:PS X st t) (h2:DG X rest u):DG X (st :: rest) (L0 t u):=by
 intro pins s σ H D I h;obtain ⟨N,h,k⟩:=h;refine wpAny_execs_cons (fY (h1 pins s σ H { D with nx:=N } I h) fun f s1 q=>?_);cases f with
 | next =>
  obtain ⟨σ',H',I',q⟩:=q;exact h2 pins s1 σ' H' D I' (k _ _ q)
 | ret v=>exact q
 | brk=>exact q
 | cont=>exact q
def JZ (K:PySem.W.Frag):V->V->Hp->VK->Prop:=fun o i H Q=>∃p xs k v,o=.ref p/\i=.int k/\bJ K H p xs/\DB xs k=some v/\Q v H
theorem HB:MT X (JZ X.K):=by
 intro pins s σ H o i ov iv Q I ro ri h;obtain ⟨p,xs,k,z,rfl,rfl,hq,he,q⟩:=h;cases ro;obtain ⟨t,rfl⟩:=ri;obtain ⟨its,r,pl,hz⟩:=I.list hq;obtain ⟨j,h1,h2,h3,h4,h5⟩:=Bc he;obtain ⟨w,ew,rw'⟩:=r.get h2;have hl:=r.length;have hn:=yD;have fin:EP X pins σ Q w s:=⟨z,H,I,rw',q⟩;by_cases h0:0<=k
 ·have hj:k.toNat=j:=by
   rw[seqIndex_of h0 h5] at h1;exact bY h1
  exact wpAny_getItem_list pl.isList h0 (by lia) (by rw[hj];simpa using ew) fin
 ·have hj:(k+(its.toArray.size:Int)).toNat=j:=by
   rw[seqIndex_neg (by lia) h4] at h1;rw[aI,<- hl];exact bY h1
  exact wpAny_getItem_list_neg pl.isList (by lia) (by rw[aI] <;> lia) (by lia) (by rw[hj];simpa using ew) fin
def C7 (K:PySem.W.Frag) (T:String):V->Hp->VK->Prop:=fun x H Q=>∃t b,wg K H x t/\PySem.W.kitOne K t (.type T)=some b/\Q (.bl b) H
theorem uy {c:Str} {T:String} {p p2:Pos} (hg:Gl X "isinstance") (hm:X.mg "isinstance"=none) (hb:bootBuiltins c=some (.type T)) (hmc:X.mg c=none) (ha:PE X a ta) (hgc:Gl X c:=by rfl) (hn:c≠"__name__":=by decide)
  (hd:(c == ("__debug__":Str))=false:=by decide) (he:starEach [a,.Name c p2] X.env=[(false,eval a X.env),(false,eval (.Name c p2) X.env)]:=by rfl)
  (hpl:(backTo pos (starEach [.Name c p2] X.env)).any (·.1)=false:=by rfl) (he2:starEach [.Name c p2] X.env=[(false,eval (.Name c p2) X.env)]:=by rfl):PE X (.Call (.Name "isinstance" p) [a,.Name c p2] [] pos) (M7 (C7 X.K T) ta):=by
 intro pins s σ H Q I h;refine wpAny_Call_Name_kw (nB I hg hm PyProof.Rows.boot_isinstance ?_);have hA:PA X [a,.Name c p2] (rA ta (rA (tC (.ty T)) Bt)):=ae ha (ae (DW hgc hmc hb rfl hn hd) ai he2) (by rw[he,he2])
 have hq:rA ta (rA (tC (.ty T)) Bt) σ H (fun vs H1=>∃x,vs=[x,.ty T]/\C7 X.K T x H1 Q):=by
  show ta σ H fun x H1=>∃x',[x,V.ty T]=[x',V.ty T]/\C7 X.K T x' H1 Q
  have e:(fun x H1=>∃x',[x,V.ty T]=[x',V.ty T]/\C7 X.K T x' H1 Q)=fun x H1=>C7 X.K T x H1 Q:=by
   funext x H1;apply propext;constructor
   ·rintro ⟨x',e,q⟩;cases e;exact q
   ·intro q;exact ⟨x,rfl,q⟩
  rw[e];exact h
 refine PyProof.Rows.callWith_builtin1 (fY (hA pos pins s σ H _ I hq) fun us s1 ⟨vs,H1,I1,r1,x,e,q1⟩=>?_) (by rw[he,he2]) hpl;subst e;obtain ⟨u,w',rfl,ru,rt⟩:=vals2 r1;cases rt;obtain ⟨t,bb,ty,ek,q⟩:=q1;exact zS I1 ru ty ek fun tk=>⟨.bl bb,H1,I1.tok tk,rfl,q⟩
end
structure Kind (α:Type) [DecidableEq α] where
 R:PySem.W.Frag->Hp->V->α->Prop
 d:Nat
 inj:∀{X:Cx} {pins:List (Addr×Obj)} {σ:St} {H:Hp} {s:Shared} {x:V} {a b:α},Inv X pins σ H s->R X.K H x a->R X.K H x b->a=b
 rc:∀{X:Cx} {pins:List (Addr×Obj)} {σ:St} {H:Hp} {s:Shared} {x y:V} {v u:Value} {a b:α} {A:Around},Inv X pins σ H s->RelV x v->RelV y u->R X.K H x a->R X.K H y b->A.units+d < cLine->SeqAt.RcAt A s v u (decide (a=b))
 ne:∀{X:Cx} {pins:List (Addr×Obj)} {σ:St} {H:Hp} {s:Shared} {x y:V} {v u:Value} {a b:α} {A:Around},Inv X pins σ H s->RelV x v->RelV y u->R X.K H x a->R X.K H y b->A.units+d < cLine->SeqAt.RcNeAt A s v u (!decide (a=b))
 eq:∀{X:Cx} {pins:List (Addr×Obj)} {σ:St} {H:Hp} {s:Shared} {x y:V} {v u:Value} {a b:α} {A:Around},Inv X pins σ H s->RelV x v->RelV y u->R X.K H x a->R X.K H y b->A.units+d < cLine->SeqAt.EqAt A s v u (decide (a=b))
def Nt:Kind Int where
 R:=fun _ _ x i=>x=.int i
 d:=0
 inj:=fun _ h1 h2=>by rw[h1] at h2;cases h2;rfl
 rc:=fun {X pins σ H s x y v u a b A} I rx ry h1 h2 _=>by
  subst h1 h2;obtain ⟨t,rfl⟩:=rx;obtain ⟨t',rfl⟩:=ry;have q:=SeqAt.RcAt.int_int (A:=A) (s:=s) a t b t';rwa [y4] at q
 ne:=fun {X pins σ H s x y v u a b A} I rx ry h1 h2 _=>by
  subst h1 h2;obtain ⟨t,rfl⟩:=rx;obtain ⟨t',rfl⟩:=ry;have q:=SeqAt.RcNeAt.int_int (A:=A) (s:=s) a t b t';rwa [y4] at q
 eq:=fun {X pins σ H s x y v u a b A} I rx ry h1 h2 _=>by
  subst h1 h2;obtain ⟨t,rfl⟩:=rx;obtain ⟨t',rfl⟩:=ry;have q:=SeqAt.EqAt.int_int (A:=A) (s:=s) a t b t';rwa [y4] at q
theorem ja {α β:Type} {F:α->β->Prop}:∀{l1:List α} {l2:List β} {i:Nat} (_:Paired F l1 l2) (h1:i < l1.length) (h2:i < l2.length),F l1[i] l2[i]
 | _,_,_,.nil,h1,_=>absurd h1 (cz _)
 | _,_,0,.cons r _,_,_=>r
 | _,_,i+1,.cons _ t,h1,h2=>ja (i:=i) t (Nat.lt_of_succ_lt_succ h1) (Nat.lt_of_succ_lt_succ h2)
theorem m9 {α β:Type} {F:α->β->Prop} (hF:∀a b x,F a x->F b x->a=b):∀{l1 l2:List α} {l:List β},Paired F l1 l->Paired F l2 l->l1=l2
 | _,_,_,.nil,.nil=>rfl
 | _,_,_,.cons r t,.cons r' t'=>by rw[hF _ _ _ r r',m9 hF t t']
theorem vh {α:Type} [DecidableEq α] (as bs:List α) (h:as.length=bs.length):(List.range as.length).all (fun j=>decide (as[j]?=bs[j]?))=decide (as=bs):=by
 rw[mQ,pI,decide_eq_true_iff];constructor
 ·intro q;apply Ez;intro i;by_cases hi:i < as.length
  ·exact of_decide_eq_true (q i (oE.mpr hi))
  ·rw[aR (by lia),aR (by lia)]
 ·rintro rfl i _;simp
section
variable {α:Type} [DecidableEq α] (k:Kind α)
theorem Kind.items {X:Cx} {pins:List (Addr×Obj)} {σ:St} {H:Hp} {s:Shared} {A:Around} (I:Inv X pins σ H s) (hA:A.units+k.d < cLine) {xs ys:List V} {us ws:List Value} {as bs:List α}
  (rx:cB xs us) (ry:cB ys ws) (ha:Paired (fun a x=>k.R X.K H x a) as xs) (hb:Paired (fun a x=>k.R X.K H x a) bs ys) :
  ∀j (h1:j < us.toArray.size) (h2:j < ws.toArray.size),SeqAt.EqAt A s us.toArray[j] ws.toArray[j] (decide (as[j]?=bs[j]?)):=fun j h1 h2=>by
 have l1:j < us.length:=by simpa using h1
 have l2:j < ws.length:=by simpa using h2
 have e1:=rx.length;have e2:=ry.length;have e3:=ha.length;have e4:=hb.length;obtain ⟨u,hu,ru⟩:=rx.get (i:=j) (x:=xs[j]'(by lia)) (by simp);obtain ⟨w,hw,rw'⟩:=ry.get (i:=j) (x:=ys[j]'(by lia)) (by simp);have q:=k.eq (A:=A) I ru rw' (ja ha (by lia) (by lia)) (ja hb (by lia) (by lia)) hA
 have eu:us.toArray[j]=u:=by
  have:=hu;rw[ag l1] at this;simpa using this
 have ew:ws.toArray[j]=w:=by
  have:=hw;rw[ag l2] at this;simpa using this
 rw[eu,ew,ag (show j < as.length by lia),ag (show j < bs.length by lia)];have e5:decide (some as[j]=some bs[j])=decide (as[j]=bs[j]):=by simp
 rw[e5];exact q
theorem Ao {α:Type} [DecidableEq α] (as bs:List α) {n m:Nat} (h1:as.length=n) (h2:bs.length=m):((List.range (min n m)).all (fun j=>decide (as[j]?=bs[j]?)) && n == m)=decide (as=bs):=by
 subst h1 h2;by_cases e:as.length=bs.length
 ·rw[show min as.length bs.length=as.length by lia,vh as bs e];simp [e]
 ·have h1:(as.length == bs.length)=false:=by simpa using e
  rw[h1,Bool.and_false];exact (decide_eq_false fun z=>e (by rw[z])).symm
def Nr:Kind (List α) where
 R:=fun K H x as=>∃p xs,x=.ref p/\qX K H p xs/\Paired (fun a x=>k.R K H x a) as xs
 d:=k.d+1
 inj:=fun {X pins σ H s x a b} I h1 h2=>by
  obtain ⟨p,xs,rfl,hp,pa⟩:=h1;obtain ⟨q,ys,e,hq,pb⟩:=h2;cases e;have e:=I.tuple_inj hp hq;subst e;exact m9 (F:=fun a x=>k.R X.K H x a) (fun a b x=>k.inj I) pa pb
 rc:=fun {X pins σ H s x y v u a b A} I rx ry h1 h2 hA=>by
  obtain ⟨p,xs,rfl,hp,pa⟩:=h1;obtain ⟨q,ys,rfl,hq,pb⟩:=h2;cases rx;cases ry;obtain ⟨us,r1,t1,_⟩:=I.tuple hp;obtain ⟨ws,r2,t2,_⟩:=I.tuple hq;have z:=SeqAt.RcAt.tuples (A:=A) (e:=fun j=>decide (a[j]?=b[j]?)) (show s.heap.IsTuple p us.toArray from t1) (show s.heap.IsTuple q ws.toArray from t2) (by lia) (k.items (A:=A.in1) I (by show A.units+1+k.d < cLine;lia) r1 r2 pa pb);rwa [Ao a b (by rw[pa.length,r1.length];simp) (by rw[pb.length,r2.length];simp)] at z
 ne:=fun {X pins σ H s x y v u a b A} I rx ry h1 h2 hA=>by
  obtain ⟨p,xs,rfl,hp,pa⟩:=h1;obtain ⟨q,ys,rfl,hq,pb⟩:=h2;cases rx;cases ry;obtain ⟨us,r1,t1,_⟩:=I.tuple hp;obtain ⟨ws,r2,t2,_⟩:=I.tuple hq;have z:=SeqAt.RcNeAt.tuples (A:=A) (e:=fun j=>decide (a[j]?=b[j]?)) (show s.heap.IsTuple p us.toArray from t1) (show s.heap.IsTuple q ws.toArray from t2) (by lia) (k.items (A:=A.in1) I (by show A.units+1+k.d < cLine;lia) r1 r2 pa pb);rwa [Ao a b (by rw[pa.length,r1.length];simp) (by rw[pb.length,r2.length];simp)] at z
 eq:=fun {X pins σ H s x y v u a b A} I rx ry h1 h2 hA=>by
  obtain ⟨p,xs,rfl,hp,pa⟩:=h1;obtain ⟨q,ys,rfl,hq,pb⟩:=h2;cases rx;cases ry;by_cases e:p=q
  ·subst e;have e:=I.tuple_inj hp hq;subst e;rw[m9 (F:=fun a x=>k.R X.K H x a) (fun a b x=>k.inj I) pa pb,decide_eq_true rfl];exact SeqAt.EqAt.same _
  ·obtain ⟨us,r1,t1,_⟩:=I.tuple hp;obtain ⟨ws,r2,t2,_⟩:=I.tuple hq;have z:=SeqAt.RcAt.tuples (A:=A) (e:=fun j=>decide (a[j]?=b[j]?)) (show s.heap.IsTuple p us.toArray from t1) (show s.heap.IsTuple q ws.toArray from t2) (by lia) (k.items (A:=A.in1) I (by show A.units+1+k.d < cLine;lia) r1 r2 pa pb);rw[Ao a b (by rw[pa.length,r1.length];simp) (by rw[pb.length,r2.length];simp)] at z;exact .of_refs e z
theorem Dq {X:Cx} {pins:List (Addr×Obj)} {σ:St} {H:Hp} {s:Shared} {p q:Addr} {xs ys:List V} {a b:List α} {A:Around} (I:Inv X pins σ H s) (hp:bJ X.K H p xs) (hq:bJ X.K H q ys)
  (pa:Paired (fun a x=>k.R X.K H x a) a xs) (pb:Paired (fun a x=>k.R X.K H x a) b ys) (hA:A.units+(k.d+1) < cLine) :
  SeqAt.RcAt A s (.ref p) (.ref q) (decide (a=b))/\SeqAt.RcNeAt A s (.ref p) (.ref q) (!decide (a=b)):=by
 obtain ⟨us,r1,t1,_⟩:=I.list hp;obtain ⟨ws,r2,t2,_⟩:=I.list hq;have l1:=r1.length;have l2:=r2.length;have l3:=pa.length;have l4:=pb.length;by_cases e:us.length=ws.length
 ·have it:=k.items (A:=A.in1) I (by show A.units+1+k.d < cLine;lia) r1 r2 pa pb;have z:=SeqAt.RcAt.lists (A:=A) (e:=fun j=>decide (a[j]?=b[j]?)) t1.isList t2.isList (by simpa using e) (by lia) it;have z2:=SeqAt.RcNeAt.lists (A:=A) (e:=fun j=>decide (a[j]?=b[j]?)) t1.isList t2.isList (by simpa using e) (by lia) it;have e1:us.toArray.size=a.length:=by rw[aI];lia
  rw[e1,vh a b (by lia)] at z z2;exact ⟨z,z2⟩
 ·have hne:¬a=b:=fun z=>e (by have:=congrArg List.length z;lia)
  rw[decide_eq_false hne];exact ⟨SeqAt.RcAt.lists_lengths t1.isList t2.isList (by simpa using e) (by lia),SeqAt.RcNeAt.lists_lengths t1.isList t2.isList (by simpa using e) (by lia)⟩
def MF:Kind (List α) where
 R:=fun K H x as=>∃p xs,x=.ref p/\bJ K H p xs/\Paired (fun a x=>k.R K H x a) as xs
 d:=k.d+1
 inj:=fun {X pins σ H s x a b} I h1 h2=>by
  obtain ⟨p,xs,rfl,hp,pa⟩:=h1;obtain ⟨q,ys,e,hq,pb⟩:=h2;cases e;have e:=I.list_inj hp hq;subst e;exact m9 (F:=fun a x=>k.R X.K H x a) (fun a b x=>k.inj I) pa pb
 rc:=fun {X pins σ H s x y v u a b A} I rx ry h1 h2 hA=>by
  obtain ⟨p,xs,rfl,hp,pa⟩:=h1;obtain ⟨q,ys,rfl,hq,pb⟩:=h2;cases rx;cases ry;exact (Dq k I hp hq pa pb hA).1
 ne:=fun {X pins σ H s x y v u a b A} I rx ry h1 h2 hA=>by
  obtain ⟨p,xs,rfl,hp,pa⟩:=h1;obtain ⟨q,ys,rfl,hq,pb⟩:=h2;cases rx;cases ry;exact (Dq k I hp hq pa pb hA).2
 eq:=fun {X pins σ H s x y v u a b A} I rx ry h1 h2 hA=>by
  obtain ⟨p,xs,rfl,hp,pa⟩:=h1;obtain ⟨q,ys,rfl,hq,pb⟩:=h2;cases rx;cases ry;by_cases e:p=q
  ·subst e;have e:=I.list_inj hp hq;subst e;rw[m9 (F:=fun a x=>k.R X.K H x a) (fun a b x=>k.inj I) pa pb,decide_eq_true rfl];exact SeqAt.EqAt.same _
  ·exact .of_refs e (Dq k I hp hq pa pb hA).1
def Kind.via {β:Type} [DecidableEq β] (f:β->α) (fi:∀a b,f a=f b->a=b) (R':PySem.W.Frag->Hp->V->β->Prop) (im:∀{K H x b},R' K H x b->k.R K H x (f b)):Kind β where
 R:=R'
 d:=k.d
 inj:=fun I h1 h2=>fi _ _ (k.inj I (im h1) (im h2))
 rc:=fun {X pins σ H s x y v u a b A} I rx ry h1 h2 hA=>by
  have z:=k.rc (A:=A) I rx ry (im h1) (im h2) hA;rwa [decide_eq_decide.mpr (show f a=f b↔a=b from ⟨fi a b,fun e=>by rw[e]⟩)] at z
 ne:=fun {X pins σ H s x y v u a b A} I rx ry h1 h2 hA=>by
  have z:=k.ne (A:=A) I rx ry (im h1) (im h2) hA;rwa [decide_eq_decide.mpr (show f a=f b↔a=b from ⟨fi a b,fun e=>by rw[e]⟩)] at z
 eq:=fun {X pins σ H s x y v u a b A} I rx ry h1 h2 hA=>by
  have z:=k.eq (A:=A) I rx ry (im h1) (im h2) hA;rwa [decide_eq_decide.mpr (show f a=f b↔a=b from ⟨fi a b,fun e=>by rw[e]⟩)] at z
end
def Cs (K:PySem.W.Frag) (H:Hp) (x:V) (n:Int×Int):Prop:=∃p,x=.ref p/\qX K H p [.int n.1,.int n.2]
def ME:Kind (Int×Int):=(Nr Nt).via (fun n=>[n.1,n.2]) (fun a b e=>by cases a;cases b;simp at e;rw[e.1,e.2]) Cs fun ⟨p,e,h⟩=>⟨p,_,e,h,.cons rfl (.cons rfl .nil)⟩
def Nl (K:PySem.W.Frag):R2:=fun x y H Q=>∃(α:Type) (_:DecidableEq α) (k:Kind α) (a b:α),k.d<=50/\k.R K H x a/\k.R K H y b/\Q (.bl (decide (a=b))) H
def Mx (K:PySem.W.Frag):R2:=fun x y H Q=>∃(α:Type) (_:DecidableEq α) (k:Kind α) (a b:α),k.d<=50/\k.R K H x a/\k.R K H y b/\Q (.bl (!decide (a=b))) H
theorem GI {X:Cx} (hu:X.A.units+50 < cLine):xm X (compareOp .Eq) (Nl X.K):=by
 intro pins s σ H x y v u Q I rx ry h;obtain ⟨α,_,k,a,b,hd,ha,hb,q⟩:=h;exact k.rc (A:=X.A) I rx ry ha hb (by lia) _ _ _ _ ⟨.bl (decide (a=b)),H,I,rfl,q⟩
theorem AI {X:Cx} (hu:X.A.units+50 < cLine):xm X (compareOp .NotEq) (Mx X.K):=by
 intro pins s σ H x y v u Q I rx ry h;obtain ⟨α,_,k,a,b,hd,ha,hb,q⟩:=h;exact k.ne (A:=X.A) I rx ry ha hb (by lia) _ _ _ _ ⟨.bl (!decide (a=b)),H,I,rfl,q⟩
theorem Cf {A:Around} {k:Nat} (hr:lh k A):A.units+50 < cLine:=by have:=hr.units;lia
def Inner (H:Hp) (p q:Addr):Prop:=∃a b c:Int,H p=some (.lst [.int a,.int b,.int c,.ref q])
def cL (p:Addr) (H H':Hp):Prop:=(∀b o,H b=some o->b≠p->H' b=some o)/\∀q,Inner H p q->Inner H' p q
theorem cL.refl {p:Addr} (H:Hp):cL p H H:=⟨fun _ _ h _=>h,fun _ h=>h⟩
theorem cL.trans {p:Addr} {H H1 H2:Hp} (a:cL p H H1) (b:cL p H1 H2):cL p H H2:=⟨fun c o h n=>b.1 c o (a.1 c o h n) n,fun q h=>b.2 q (a.2 q h)⟩
theorem Inner.inj {H:Hp} {p q q':Addr} (h:Inner H p q) (h':Inner H p q'):q=q':=by
 obtain ⟨a,b,c,e⟩:=h;obtain ⟨a',b',c',e'⟩:=h';rw[e] at e';have:=HO.lst.inj (bY e');simp at this;exact this.2.2.2
theorem cL.set {p q:Addr} {H:Hp} {a b c a' b' c':Int} (h:H p=some (.lst [.int a,.int b,.int c,.ref q])):cL p H (upd H p (.lst [.int a',.int b',.int c',.ref q])) :=
 ⟨fun b u h n=>by rw[be n];exact h,fun q' h'=>by
  rw[(Inner.inj ⟨a,b,c,h⟩ h').symm];exact ⟨a',b',c',aG⟩⟩
theorem aF.upto {p:Addr} {H H':Hp} (h:aF H H'):cL p H H':=⟨fun b o e _=>h b o e,fun q ⟨a,b,c,e⟩=>⟨a,b,c,h _ _ e⟩⟩
theorem aF.new {H:Hp} {p:Addr} {o:HO} (h:H p=Option.none):aF H (upd H p o):=fun b u e=>by rw[be (eQ e h)];exact e
theorem aF.sqt {K:PySem.W.Frag} {H H':Hp} {a:Addr} {xs:List V} (e:aF H H') (h:qX K H a xs):qX K H' a xs:=by
 rcases h with (h | ⟨o,h⟩) | h
 ·exact .inl (.inl (e _ _ h))
 ·exact .inl (.inr ⟨o,e _ _ h⟩)
 ·exact .inr h
theorem aF.num {K:PySem.W.Frag} {H H':Hp} {x:V} {n:Int×Int} (e:aF H H') (h:Cs K H x n):Cs K H' x n:=by obtain ⟨p,q,r⟩:=h;exact ⟨p,q,e.sqt r⟩
section
variable {σ:St} {H:Hp} {D:Ends}
theorem aO {t:TS} {σ0 σ:St} {D:Ends} {H:Hp} (e:σ0=σ) (h:t D σ H):t D σ0 H:=by rw[e];exact h
theorem KO {t u:TS} (h:t { D with nx:=u D } σ H):L4 t u D σ H:=h
theorem IQ (h:D.nx σ H):JQ D σ H:=h
theorem K8 {te:TE} {g:TG} (h:te σ H fun x H1=>g x σ H1 D.nx):Iu te g D σ H:=h
theorem Gy {i:Nat} {v:V} {Q:St->Hp->Prop} (h:Q (σ.set i (some v)) H):Ee i v σ H Q:=h
theorem KP {te:TE} (h:te σ H D.rt):L5 te D σ H:=h
theorem K3 {c:TT} {t u:TS} (h:c σ H fun b H1=>if b=true then t D σ H1 else u D σ H1):Mb c t u D σ H:=h
theorem Ja {te:TE} (h:te σ H fun _ H1=>D.nx σ H1):JT te D σ H:=h
theorem KQ {i j:Nat} {ta:TA} (h:ta σ H fun vs H1=>∃v w,vs=[v,w]/\D.nx ((σ.set i (some v)).set j (some w)) H1):L6 i j ta D σ H:=h
theorem Je {to ti te:TE} {tget:V->V->Hp->VK->Prop} {tip:MQ} {tset:DD}
  (h:to σ H fun o H1=>ti σ H1 fun i H2=>tget o i H2 fun x H3=>te σ H3 fun y H4=>tip x y H4 fun z H5=>tset o i z H5 fun H6=>D.nx σ H6):JU to ti te tget tip tset D σ H:=h
theorem K2 {f:Int->Int->Int} {i j:Int} {Q:VK} (h:Q (.int (f i j)) H):ipI f (.int i) (.int j) H Q:=⟨i,j,rfl,rfl,h⟩
theorem K5 {wi:TI} {g:TG} {tb:TS} (h:wi σ H fun J H1=>∃W:Nat->Nat->St->Hp->Prop,(∃m,W 0 m σ H1)/\∀i m σ H,W i m σ H →
  (J.stop i H/\D.nx σ H)\/(J.go i H/\∃N:St->Hp->Prop,(∀σ' H',N σ' H'->∃m',m' < m/\W (i+1) m' σ' H')/\∀x H',J.yld i H x H'->g x σ H' fun σ2 H2=>tb { D with nx:=N,ct:=N,bk:=D.nx } σ2 H2)):Mc wi g tb D σ H:=h
variable {Q:VK} {QA:List V->Hp->Prop} {QB:Bool->Hp->Prop}
theorem KJ {i:Nat} {v:V} (e:σ[i]?=some (some v)) (h:Q v H):Kt i σ H Q:=⟨v,e,h⟩
theorem Ni {v:V} (h:Q v H):tC v σ H Q:=h
theorem Ms {r:R2} {ta tb:TE} (h:ta σ H fun x H1=>tb σ H1 fun y H2=>r x y H2 Q):L7 r ta tb σ H Q:=h
theorem Mo {r:V->Hp->VK->Prop} {ta:TE} (h:ta σ H fun x H1=>r x H1 Q):M7 r ta σ H Q:=h
theorem Mv {g:Int->Int->V} {i j:Int} (h:Q (g i j) H):Jh g (.int i) (.int j) H Q:=⟨i,j,rfl,rfl,h⟩
theorem fj {C:Int->Int->Prop} {g:Int->Int->V} {i j:Int} (hc:C i j) (h:Q (g i j) H):rI C g (.int i) (.int j) H Q:=⟨i,j,rfl,rfl,hc,h⟩
theorem Nj {g:Int->V} {i:Int} (h:Q (g i) H):rU g (.int i) H Q:=⟨i,rfl,h⟩
theorem K7 {i j:Int} (h:Q (.bl (decide (i=j))) H):rEq (.int i) (.int j) H Q:=⟨rfl,by
 have e:decide (V.int i=V.int j)=decide (i=j):=by simp
 rw[e];exact h⟩
theorem KU {i j:Int} (h:Q (.bl (!decide (i=j))) H):rNe (.int i) (.int j) H Q:=⟨rfl,by
 have e:decide (V.int i=V.int j)=decide (i=j):=by simp
 rw[e];exact h⟩
theorem IK {t:TE} (h:t σ H fun x H'=>∃k,x=.bl k/\QB k H'):JN t σ H QB:=h
theorem Mp {t:TE} (h:t σ H fun x H'=>∃k,x=.bl k/\QB k H'):tB t σ H QB:=h
theorem K9 {t u:TT} (h:t σ H fun c H1=>if c=true then u σ H1 QB else QB false H1):Md t u σ H QB:=h
theorem Mr {t u:TT} (h:t σ H fun c H1=>if c=true then QB true H1 else u σ H1 QB):tOr t u σ H QB:=h
theorem KR {t:TT} (h:t σ H fun c H1=>QB (!c) H1):L8 t σ H QB:=h
theorem Jf {t u:TE} (h:t σ H fun x H1=>∃c,x=.bl c/\if c=true then u σ H1 Q else Q (.bl false) H1):JV t u σ H Q:=h
theorem IP {t:TE} (h:t σ H fun x H1=>∃c,x=.bl c/\Q (.bl (!c)) H1):JP t σ H Q:=h
theorem K4 {c:TT} {ta tb:TE} (h:c σ H fun b H1=>if b=true then ta σ H1 Q else tb σ H1 Q):tIf c ta tb σ H Q:=h
theorem KI (h:QB true H):LY σ H QB:=h
theorem KS (h:QA [] H):Bt σ H QA:=h
theorem Jb {ta:TE} {tr:TA} (h:ta σ H fun x H1=>tr σ H1 fun xs H2=>QA (x :: xs) H2):rA ta tr σ H QA:=h
theorem Jd {sp:Sp} {E:XK} {t:TA} (h:t σ H fun vs H1=>sp vs H1 Q E):DK sp [] E t σ H Q:=by
 have e:(fun vs H1=>sp (vs++[]) H1 Q E)=fun vs H1=>sp vs H1 Q E:=by funext vs H1;rw[jy]
 show t σ H fun vs H1=>sp (vs++[]) H1 Q E
 rw[e];exact h
theorem Mt {r:List V->Hp->VK->Prop} {t:TA} (h:t σ H fun vs H1=>r vs H1 Q):Nh r t σ H Q:=h
theorem KY {K:PySem.W.Frag} {p:Addr} {xs:List V} {i:Int} {v:V} (hx:qX K H p xs) (e:DB xs i=some v) (h:Q v H):La K (.ref p) (.int i) H Q:=⟨p,xs,i,v,rfl,rfl,hx,e,h⟩
theorem b9 {K:PySem.W.Frag} {p:Addr} {xs:List V} {i:Int} (hx:bJ K H p xs) {v:V} (e:DB xs i=some v) (h:Q v H):Lb K (.ref p) (.int i) H Q:=⟨p,xs,i,v,rfl,rfl,hx,e,h⟩
theorem IZ {K:PySem.W.Frag} {p:Addr} {xs:List V} {i:Int} (hx:bJ K H p xs) {v:V} (e:DB xs i=some v) (h:Q v H):JZ K (.ref p) (.int i) H Q:=⟨p,xs,i,v,rfl,rfl,hx,e,h⟩
theorem eV {QH:Hp->Prop} {p:Addr} {xs:List V} {i:Int} {v:V} {j:Nat} {ys:List V} (hx:H p=some (.lst xs)) (e:Fy xs.length i=some j) (ey:xs.set j v=ys) (h:QH (upd H p (.lst ys))):JY (.ref p) (.int i) v H QH:=⟨p,xs,i,j,rfl,rfl,hx,e,by rw[ey];exact h⟩
theorem IX {to ti:TE} {t:DD} {v:V} {QS:St->Hp->Prop} (h:to σ H fun o H1=>ti σ H1 fun i H2=>t o i v H2 fun H3=>QS σ H3):ML to ti t v σ H QS:=h
theorem Gz {t:TG} {u:Ie} {v:V} {r:List V} {QS:St->Hp->Prop} (h:t v σ H fun σ' H'=>u r σ' H' QS):Kc t u (v :: r) σ H QS:=⟨v,r,rfl,h⟩
theorem IY {QS:St->Hp->Prop} (h:QS σ H):MM [] σ H QS:=⟨rfl,h⟩
theorem IW {K:PySem.W.Frag} {n:Nat} {t:Ie} {a:Addr} {xs:List V} {QS:St->Hp->Prop} (hx:qX K H a xs) (hl:xs.length=n) (h:t xs σ H QS):Lu K n t (.ref a) σ H QS:=⟨a,xs,rfl,hx,hl,h⟩
theorem Mq {r:V->Option Int->Option Int->Hp->VK->Prop} {te:TE} {tl th:TO} (h:te σ H fun x H1=>tl σ H1 fun l H2=>th σ H2 fun u H3=>r x l u H3 Q):tSl r te tl th σ H Q:=h
theorem E2 {QO:Option Int->Hp->Prop} (h:QO none H):DJ σ H QO:=h
theorem IM {t:TE} {QO:Option Int->Hp->Prop} (h:t σ H fun x H1=>∃i,x=.int i/\QO (some i) H1):JO t σ H QO:=h
variable {R:It->Hp->Prop} {K:PySem.W.Frag}
theorem Gv {tl:TE} (h:tl σ H fun x H1=>∃a,x=.ref a/\(∃xs,bJ K H1 a xs)/\R (Kj K a) H1):Ht K tl σ H R:=h
theorem IV {tl:TE} (h:tl σ H fun x H1=>∃a,x=.ref a/\(∃xs,qX K H1 a xs)/\R (LR K a) H1):MJ K tl σ H R:=h
theorem Gu {ta:TA} (h:ta σ H fun vs H1=>∃j:Int,vs=[.int j]/\-(2^62)<=j/\j < 2^62/\R (Cu 0 j.toNat) H1):J9 ta σ H R:=h
theorem Gs {ta:TA} (h:ta σ H fun vs H1=>∃i j:Int,vs=[.int i,.int j]/\(-(2^62)<=i/\i < 2^62/\-(2^62)<=j/\j < 2^62)/\R (Cu i (j - i).toNat) H1):J8 ta σ H R:=h
theorem Jc {wi:TI} {k:Nat} {cap:List Nat} {g:TG} {tf:TT} {te:TE} {σ₀:St} (e:Fw k cap σ=σ₀) (h:wi σ H fun J H1=>sH J σ₀ g tf te Q H1):Bv wi k cap g tf te σ H Q:=by
 unfold Bv;rw[e];exact h
theorem IJ {g:TG} {tf:TT} {te:TE} {x:V} {NY:V->Hp->Prop} {NN:Hp->Prop} (h:g x σ H fun σ2 H2=>tf σ2 H2 fun b H3=>if b=true then te σ2 H3 NY else NN H3):rz σ g tf te x H NY NN:=h
theorem Mu {T:String} {r:V->List V->Hp->VK->Prop} {to:TE} {t:TA} (h:to σ H fun x H1=>Ng K T x H1/\t σ H1 fun xs H2=>r x xs H2 Q):tBM K T r to t σ H Q:=h
def MU (Q:VK) (xs:List V) (H:Hp):Prop:=xs.length<=sizeLine/\∀p,H p=none->Q (.ref p) (upd H p (.tup xs))
def MV (Q:VK) (xs:List V) (H:Hp):Prop:=xs.length<=sizeLine/\∀p,H p=none->Q (.ref p) (upd H p (.lst xs))
theorem KL {t:TA} (h:t σ H (MU Q)):LZ t σ H Q:=h
theorem KW {t:TA} (h:t σ H (MV Q)):L9 t σ H Q:=h
theorem jB {n:Nat} (h:Nat.ble n 1000=true):n<=sizeLine:=bC (bT (Nat.le_of_ble_eq_true h))
theorem cu {xs:List V} (h:∀p H',aF H H'->H' p=some (.tup xs)->Q (.ref p) H') (hl:Nat.ble xs.length 1000=true:=by rfl):MU Q xs H :=
 ⟨jB hl,fun p hp=>h p _ (aF.new hp) aG⟩
theorem dj {xs:List V} (h:∀p H',aF H H'->H p=none->H' p=some (.lst xs)->Q (.ref p) H') (hl:Nat.ble xs.length 1000=true:=by rfl):MV Q xs H :=
 ⟨jB hl,fun p hp=>h p _ (aF.new hp) hp aG⟩
theorem MH {A B:Prop} (h:B):if (!true)=true then A else B:=Hq h
theorem MI {A B:Prop} (h:A):if (!false)=true then A else B:=MG h
def WB (tb:TS) (D:Ends) (Pv:St->Hp->Prop) (μ:St->Hp->Nat) (n:Nat) (σ:St) (H:Hp):Prop:=∃N:St->Hp->Prop,(∀σ' H',N σ' H'->∃m',m' < n/\(m'=μ σ' H'/\Pv σ' H'))/\tb { D with nx:=N,ct:=N,bk:=D.nx } σ H
theorem JX {tb:TS} {Pv:St->Hp->Prop} {μ:St->Hp->Nat} {n:Nat} (h:tb { D with nx:=fun σ' H'=>Pv σ' H'/\μ σ' H' < n,ct:=fun σ' H'=>Pv σ' H'/\μ σ' H' < n,bk:=D.nx } σ H):WB tb D Pv μ n σ H :=
 ⟨_,fun σ' H' ⟨p,l⟩=>⟨_,l,rfl,p⟩,h⟩
theorem An {c:TT} {tb:TS} (Pv:St->Hp->Prop) (μ:St->Hp->Nat) (h0:Pv σ H) (hs:∀σ H,Pv σ H->c σ H fun b H1=>if b=true then WB tb D Pv μ (μ σ H) σ H1 else D.nx σ H1):FL c tb D σ H:=by
 refine ⟨fun m σ H=>m=μ σ H/\Pv σ H,⟨_,rfl,h0⟩,?_⟩;rintro m σ H ⟨rfl,p⟩;exact hs σ H p
end
def iX (H:Hp) (p:Addr):Prop:=∃(q:Addr) (a b c:Int) (cs:List Int),H p=some (.lst [.int a,.int b,.int c,.ref q])/\H q=some (.lst (cs.map V.int))/\0<=a/\0<=c/\c<=(cs.length:Int)/\∀x∈cs,(0:Int)<=x
theorem Fu {H:Hp} {p q:Addr} {a b c:Int} {cs:List Int} (hp:H p=some (.lst [.int a,.int b,.int c,.ref q])) (hq:H q=some (.lst (cs.map V.int))):q≠p:=fun e=>by
 rw[e,hp] at hq;have h:=HO.lst.inj (bY hq);cases cs with
 | nil=>cases h
 | cons x1 cs=>cases cs with
  | nil=>cases h
  | cons x2 cs=>cases cs with
   | nil=>cases h
   | cons x3 cs=>cases cs with
    | nil=>cases h
    | cons x4 cs=>simp at h
theorem iX.same {H H':Hp} {p:Addr} (h:iX H p) (e:aF H H'):iX H' p:=by obtain ⟨q,a,b,c,cs,h1,h2,r⟩:=h;exact ⟨q,a,b,c,cs,e _ _ h1,e _ _ h2,r⟩
theorem cL.tup {H H':Hp} {p r:Addr} {xs:List V} (u:cL p H H') (B:iX H p) (h:H r=some (.tup xs)):H' r=some (.tup xs):=by
 obtain ⟨q,a,b,c,cs,h1,_⟩:=B;exact u.1 r _ h fun e=>by rw[e,h1] at h;cases h
theorem cL.other {H H':Hp} {p r:Addr} {o:HO} (u:cL p H H') (n:r≠p) (h:H r=some o):H' r=some o:=u.1 r _ h n
theorem iX.inner {H:Hp} {p:Addr} (h:iX H p):∃q,Inner H p q/\∃xs,H q=some (.lst xs):=by obtain ⟨q,a,b,c,cs,h1,h2,_⟩:=h;exact ⟨q,⟨a,b,c,h1⟩,_,h2⟩
theorem iX.upd {H:Hp} {p q r:Addr} {o:HO} (h:iX H p) (hi:Inner H p q) (n1:r≠p) (n2:r≠q):iX (L2.upd H r o) p:=by
 obtain ⟨q',a,b,c,cs,h1,h2,z⟩:=h;have e:q'=q:=Inner.inj ⟨a,b,c,h1⟩ hi;subst e;exact ⟨q',a,b,c,cs,by rw[be n1.symm];exact h1,by rw[be n2.symm];exact h2,z⟩
theorem Inner.upd {H:Hp} {p q r:Addr} {o:HO} (hi:Inner H p q) (n1:r≠p):Inner (L2.upd H r o) p q:=by obtain ⟨a,b,c,h⟩:=hi;exact ⟨a,b,c,by rw[be n1.symm];exact h⟩
def IB:Sp:=fun vs H Q _=>∃p n,vs=[.ref p,.int n]/\iX H p/\0 < n/\n < 2^64/\∀v H',0<=v->v < n->iX H' p->cL p H H'->Q (.int v) H'
def KD (K:PySem.W.Frag):Sp:=fun vs H Q _=>∃(a:Addr) (ns:List Int),vs=[.ref a]/\bJ K H a (ns.map V.int)/\ns.length<=63/\∀p H',H p=none->iX H' p->aF H H'->Q (.ref p) H'
def Ar (K:PySem.W.Frag):Sp:=fun vs H Q _=>∃(a:Addr) (ns:List Int),vs=[.ref a]/\bJ K H a (ns.map V.int)/\ns.length<=63/\∀H',Q (.bl true) H'
def Ky:Sp:=fun vs H Q _=>∃t b,vs=[.int t,.int b]/\0 < b/\Sz 8999 b/\∀r H',aF H H'->H' r=some (.tup [.int (lo t b),.int (hi t b)])->Q (.ref r) H'
def Mf:Sp:=fun vs H Q _=>∃a b,vs=[.int a,.int b]/\Q (.int (g a b)) H
def ER:Sp:=fun vs H Q _=>∃t b,vs=[.int t,.int b]/\b≠0/\Sz 8999 b/\∀r H',aF H H'->H' r=some (.tup [.int (lo (if b < 0 then -t else t) (if b < 0 then -b else b)),.int (hi (if b < 0 then -t else t) (if b < 0 then -b else b))])->Q (.ref r) H'
def Kd (a b c d:Int):Int:=a*d+c*b
def HJ (a b c d:Int):Int:=a*d - c*b
def HI (a _b c _d:Int):Int:=a*c
def DO (K:PySem.W.Frag) (f:Int->Int->Int->Int->Int):Sp:=fun vs H Q _=>∃p q a b c d,vs=[.ref p,.ref q]/\qX K H p [.int a,.int b]/\qX K H q [.int c,.int d]/\0 < b/\0 < d/\Sz 4000 a/\Sz 4000 b/\Sz 4000 c/\Sz 4000 d /\
 ∀r H',aF H H'->H' r=some (.tup [.int (lo (f a b c d) (b*d)),.int (hi (f a b c d) (b*d))])->Q (.ref r) H'
def IC (K:PySem.W.Frag):Sp:=fun vs H Q _=>∃p q a b c d,vs=[.ref p,.ref q]/\qX K H p [.int a,.int b]/\qX K H q [.int c,.int d]/\0 < b/\0 < d/\c≠0/\Sz 4000 a/\Sz 4000 b/\Sz 4000 c/\Sz 4000 d /\
 ∀r H',aF H H'->H' r=some (.tup [.int (lo (if c < 0 then 0 - a*d else a*d) (if c < 0 then 0 - b*c else b*c)),.int (hi (if c < 0 then 0 - a*d else a*d) (if c < 0 then 0 - b*c else b*c))])->Q (.ref r) H'
theorem cU {α β:Type} {F:α->β->Prop}:∀{l1 l1':List α} {l2 l2':List β},Paired F l1 l2->Paired F l1' l2'->Paired F (l1++l1') (l2++l2')
 | _,_,_,_,.nil,h=>h
 | _,_,_,_,.cons r t,h=>.cons r (cU t h)
theorem cR {h:Heap} {a b:Addr} {o u:Obj} (ha:h.get? a=some o) (hb:h.get? b=some u) (hc:o.cls≠u.cls):a≠b:=fun e=>by
 subst e;rw[ha] at hb;cases hb;exact hc rfl
theorem m4 {a b:String} (h:a≠b):Value.type a≠Value.type b:=fun e=>h (by injection e)
theorem zA {h:Heap} {z TI TO i1 i2 l1 l2:Addr} {f0 a b:Value} {k1 k2:Nat} {xs ys:Array Value} (hz:IsZip h z TI TO f0) (hTI:IsPair h TI (.ref i1) (.ref i2)) (hTO:IsPair h TO a b)
  (h1:h.IsListIter i1 l1 k1) (h2:h.IsListIter i2 l2 k2) (hl1:h.IsList l1 xs) (hl2:h.IsList l2 ys) (hT:TI≠TO) (hi:i1≠i2):ZipApart z TI TO i1 i2 l1 l2:=by
 obtain ⟨o1,g1,c1,_⟩:=h1;obtain ⟨o2,g2,c2,_⟩:=h2;obtain ⟨p1,q1,d1,_⟩:=hl1;obtain ⟨p2,q2,d2,_⟩:=hl2;refine ⟨cR hTI hz ?_,cR hTO hz ?_,cR g1 hz ?_,cR g2 hz ?_,hT,cR hTI g1 ?_,cR hTI g2 ?_,cR hTO g1 ?_,cR hTO g2 ?_,hi,cR q1 hz ?_,cR q1 hTO ?_,cR q1 g1 ?_,cR q1 g2 ?_,cR q2 hz ?_,cR q2 hTO ?_,cR q2 g1 ?_,cR q2 g2 ?_⟩
 all_goals first
  | (rw[d1];first | (rw[c1];exact m4 (by decide)) | (rw[c2];exact m4 (by decide)) | exact m4 (by decide))
  | (rw[d2];first | (rw[c1];exact m4 (by decide)) | (rw[c2];exact m4 (by decide)) | exact m4 (by decide))
  | (rw[c1];exact m4 (by decide))
  | (rw[c2];exact m4 (by decide))
  | exact m4 (by decide)
def LL (K : PySem.W.Frag) (l1 l2 : Addr) : It :=
  ⟨fun i H => ∃ xs ys x y, bJ K H l1 xs /\ bJ K H l2 ys /\ xs[i]? = some x /\ ys[i]? = some y,
   fun i H v H' => ∃ p x y, v = .ref p /\ H p = none /\ H' = upd H p (.tup [x, y]) /\ (∀ xs, bJ K H l1 xs → xs[i]? = some x) /\ ∀ ys, bJ K H l2 ys → ys[i]? = some y,
   fun i H => ∃ xs ys, bJ K H l1 xs /\ bJ K H l2 ys /\ (xs.length ≤ i \/ ys.length ≤ i)⟩
def tnZ (z TI TO i1 i2 l1 l2:Addr) (i:Nat) (h:Heap):Prop:=IsZip h z TI TO .none/\IsPair h TI (.ref i1) (.ref i2)/\(∃a b,IsPair h TO a b)/\h.IsListIter i1 l1 i/\h.IsListIter i2 l2 i
theorem FJ {P:Program} {w:World} {K:PySem.W.Frag} {elts:List Expr} {kk:Nat} {tpos:Pos} (z TI TO i1 i2 l1 l2:Addr) (hT:TI≠TO) (hi:i1≠i2):Turn P w K (.Tuple elts kk tpos) (LL K l1 l2) [z,TI,TO,i1,i2] z (tnZ z TI TO i1 i2 l1 l2) where
 mem:=by simp
 obj:=fun i h st b hb=>by
  obtain ⟨hz,hTI,⟨a,c,hTO⟩,⟨o1,g1,c1,d1⟩,⟨o2,g2,c2,d2⟩⟩:=st;simp only[aB,aL,or_false] at hb;rcases hb with rfl | rfl | rfl | rfl | rfl
  ·exact ⟨_,hz,fun v q=>nomatch q⟩
  ·exact ⟨_,hTI,fun v q=>nomatch q⟩
  ·exact ⟨_,hTO,fun v q=>nomatch q⟩
  ·exact ⟨o1,g1,fun v q=>by rw[d1] at q;cases q⟩
  ·exact ⟨o2,g2,fun v q=>by rw[d2] at q;cases q⟩
 keep:=fun i h h' st k=>by
  obtain ⟨hz,hTI,⟨a,c,hTO⟩,h1,h2⟩:=st;exact ⟨k z (by simp) _ hz,k TI (by simp) _ hTI,⟨a,c,k TO (by simp) _ hTO⟩,h1.at fun o e=>k i1 (by simp) o e,h2.at fun o e=>k i2 (by simp) o e⟩
 item:=by
  intro X hP hw hK hc i pins s σ H E I hf st hg;subst hP hw hK;obtain ⟨hz,hTI,⟨a,c,hTO⟩,h1,h2⟩:=st;obtain ⟨xs,ys,x,y,qx,qy,ex,ey⟩:=hg;obtain ⟨us,rx,px,_⟩:=I.list qx;obtain ⟨ws,ry,py,_⟩:=I.list qy;obtain ⟨u,eu,ru⟩:=rx.get ex;obtain ⟨v,ev,rv⟩:=ry.get ey;have D:=zA hz hTI hTO h1 h2 px.isList py.isList hT hi;refine wpAny_pyNext_zip_item D hz hTI hTO h1 h2 px.isList py.isList (x:=u) (y:=v) (by simpa using eu) (by simpa using ev) fun h' a1 a2 a3 a4 a5 a6 hk=>?_
  refine ⟨_,rfl,wpAny_letOwnedTupleGo_zip a1 fun h'' hz'' hs=>?_⟩;have hT0:H s.heap.objs.size=none:=I.hok.fresh (ar _);have zne:s.heap.objs.size≠z:=Ey (Heap.lt_size hz)
  have up:∀b o,b∉[z,TO,i1,i2]->s.heap.get? b=some o->h''.get? b=some o:=fun b o hb e=>by
   simp only[aB,aL,or_false,not_or] at hb;exact (hs.2 b hb.1).trans (hk b o hb.1 hb.2.1 hb.2.2.1 hb.2.2.2 e)
  have fx:∀b∈[z,TO,i1,i2],kg X pins H b:=fun b hb=>hf b (by
   simp only[aB,aL,or_false] at hb ⊢;rcases hb with rfl | rfl | rfl | rfl <;> simp)
  have nx:∀b o,H b=some o->b∉[z,TO,i1,i2]:=fun b o e hb=>by
   have:=(fx b hb).1;rw[this] at e;cases e
  have nT:∀{b:Addr} {o:HO},H b=some o->b≠s.heap.objs.size:=fun e q=>by rw[q,hT0] at e;cases e
  have tup:h''.get? s.heap.objs.size=some { cls:=.type "tuple",data:=.seq #[u,v] }:=(hs.2 _ zne).trans a5
  have I2:Inv X pins σ (upd H s.heap.objs.size (.tup [x,y])) { s with heap:=h'' }:=by
   refine I.step (g':=s.gens) (d':=s.drawn) (t':=s.toks) (ch:=[z,TO,i1,i2]) (fun b hb=>?_) (fun b o _ _ hb e _=>up b o hb e) (fun b o _ _ hb e _=>⟨o.slots,up b o hb e⟩) (fun b o hb e n=>?_)
    (fun b o hb e=>⟨o,up b o hb e⟩) (fun b q e=>by rw[be (nT e)];exact e) (fun b o q e=>by rw[be (nT e)];exact e) (fun b q e=>⟨#[],by rw[be (nT e),e];simp⟩) (fun m hm=>?_) (fun b o e=>?_) I.bare
   ·obtain ⟨_,f1,_,f3,f4,f5⟩:=fx b hb;exact ⟨f3,f1,f4,f5⟩
   ·rw[be (cw (Heap.lt_size e))];exact n
   ·obtain ⟨o,es,ep,ho,r⟩:=hm;exact ⟨o,es,ep,up _ o (fun z=>(fx _ z).2.1 rfl) ho,r⟩
   ·by_cases hb:b=s.heap.objs.size
    ·subst hb;rw[aG] at e;cases e;exact ⟨jB rfl,[u,v],.cons ru (.cons rv .nil),⟨_,tup,rfl,_,rfl⟩⟩
    ·rw[be hb] at e;refine (I.hok b o e).stay (fun c v' hc q=>up c v' ?_ q) (fun c q=>by rw[be (nT q)];exact q) fun c xs q=>by rw[be (nT q)];exact q
     rcases hc with rfl | hc
     ·exact nx _ _ e
     ·exact nx _ _ hc
  refine ⟨.ref s.heap.objs.size,_,I2,rfl,⟨_,x,y,rfl,hT0,rfl,fun xs' q=>by rw[I.list_inj q qx];exact ex,fun ys' q=>by rw[I.list_inj q qy];exact ey⟩,?_,fun b hb=>?_⟩
  ·refine ⟨hz'',(hs.2 _ D.TIz).trans (hk _ _ D.TIz D.TITO D.TIi1 D.TIi2 hTI),⟨_,_,(hs.2 _ D.TOz).trans a2⟩,a3.at fun o e=>(hs.2 _ D.i1z).trans e,a4.at fun o e=>(hs.2 _ D.i2z).trans e⟩
  ·obtain ⟨o,e,_⟩:∃o,s.heap.get? b=some o/\True:=by
    obtain ⟨o1,g1,_⟩:=h1;obtain ⟨o2,g2,_⟩:=h2;simp only[aB,aL,or_false] at hb;rcases hb with rfl | rfl | rfl | rfl | rfl
    ·exact ⟨_,hz,trivial⟩
    ·exact ⟨_,hTI,trivial⟩
    ·exact ⟨_,hTO,trivial⟩
    ·exact ⟨_,g1,trivial⟩
    ·exact ⟨_,g2,trivial⟩
   rw[be (cw (Heap.lt_size e))];exact (hf b hb).1
 done:=by
  intro X hP hw hK hc i pins s σ H E I hf st hg;subst hP hw hK;obtain ⟨hz,hTI,⟨a,c,hTO⟩,h1,h2⟩:=st;obtain ⟨xs,ys,qx,qy,hend⟩:=hg;obtain ⟨us,rx,px,_⟩:=I.list qx;obtain ⟨ws,ry,py,_⟩:=I.list qy;have lx:=rx.length;have ly:=ry.length;have D:=zA hz hTI hTO h1 h2 px.isList py.isList hT hi
  refine wpAny_pyNext_zip_end (I.ok.hd hc) D hz hTI hTO h1 h2 px.isList py.isList (by
   rcases hend with q | q
   ·exact .inl (by simp;lia)
   ·exact .inr (by simp;lia)) fun h' hk=>⟨rfl,?_⟩
  have up:∀b o,b∉[z,TO,i1,i2]->s.heap.get? b=some o->h'.get? b=some o:=fun b o hb e=>by
   simp only[aB,aL,or_false,not_or] at hb;exact hk b o hb.1 hb.2.1 hb.2.2.1 hb.2.2.2 e
  have fx:∀b∈[z,TO,i1,i2],kg X pins H b:=fun b hb=>hf b (by
   simp only[aB,aL,or_false] at hb ⊢;rcases hb with rfl | rfl | rfl | rfl <;> simp)
  have nx:∀b o,H b=some o->b∉[z,TO,i1,i2]:=fun b o e hb=>by
   have:=(fx b hb).1;rw[this] at e;cases e
  refine I.step (g':=s.gens) (d':=s.drawn) (t':=s.toks) (ch:=[z,TO,i1,i2]) (fun b hb=>?_) (fun b o _ _ hb e _=>up b o hb e) (fun b o _ _ hb e _=>⟨o.slots,up b o hb e⟩) (fun b o hb e n=>n)
   (fun b o hb e=>⟨o,up b o hb e⟩) (fun b q e=>e) (fun b o q e=>e) (fun b q e=>⟨#[],by rw[e];simp⟩) (fun m hm=>?_) (fun b o e=>?_) I.bare
  ·obtain ⟨_,f1,_,f3,f4,f5⟩:=fx b hb;exact ⟨f3,f1,f4,f5⟩
  ·obtain ⟨o,es,ep,ho,r⟩:=hm;exact ⟨o,es,ep,up _ o (fun z=>(fx _ z).2.1 rfl) ho,r⟩
  ·refine (I.hok b o e).stay (fun c v' hc q=>up c v' ?_ q) (fun c q=>q) fun c xs q=>q
   rcases hc with rfl | hc
   ·exact nx _ _ e
   ·exact nx _ _ hc
 self:=fun _ _ _ _ _ st h=>wpAny_pyIter_zip st.1 h
section
variable {X:Cx}
def Lr (K:PySem.W.Frag) (ta:TA):TI:=fun σ H R=>ta σ H fun vs H1=>∃l1 l2,vs=[.ref l1,.ref l2]/\(∃xs,bJ K H1 l1 xs)/\(∃ys,bJ K H1 l2 ys)/\R (LL K l1 l2) H1
theorem AE {a b:Expr} {ta:TA} {p pos tpos:Pos} {elts:List Expr} {kk:Nat} (hg:Gl X "zip") (hm:X.mg "zip"=none) (ha:PA X [a,b] ta) (hs:starEach [a,b] X.env=[(false,eval a X.env),(false,eval b X.env)]:=by rfl) (hs2:starEach [b] X.env=[(false,eval b X.env)]:=by rfl) :
  PI X (.Tuple elts kk tpos) (.Call (.Name "zip" p) [a,b] [] pos) (Lr X.K ta):=by
 intro pins s σ H R I h;refine Call_ (nB I hg hm boot_zip (PyProof.Rows.callWith_type1 (fY (ha pos pins s σ H _ I h) fun us s1 ⟨vs,H1,I1,r1,q1⟩=>?_) (by rw[hs,hs2]) (by rw[hs2];rfl)));obtain ⟨l1,l2,e,⟨xs,qx⟩,⟨ys,qy⟩,q⟩:=q1;subst e;obtain ⟨u,v,rfl,ru,rv⟩:=vals2 r1;cases ru;cases rv;obtain ⟨us,rx,px,_⟩:=I1.list qx;obtain ⟨ws,ry,py,_⟩:=I1.list qy;refine call_zip_2 px.isList py.isList fun h' a1 a2 a3 a4 a5 a6 hk=>wpAny_pyIter_zip a1 ?_
 have I2:Inv X pins σ H1 { s1 with heap:=h' }:=I1.kept (t':=s1.toks) hk;refine ⟨_,[s1.heap.objs.size+4,s1.heap.objs.size+2,s1.heap.objs.size+3,s1.heap.objs.size,s1.heap.objs.size+1],_,_,H1,rfl,I2,FJ (s1.heap.objs.size+4) (s1.heap.objs.size+2) (s1.heap.objs.size+3) s1.heap.objs.size (s1.heap.objs.size+1) l1 l2 (cw (iw _)) (cw (iw _)),⟨a1,a2,⟨_,_,a3⟩,a4,a5⟩,fun b hb=>?_,q⟩
 have hb':s1.heap.objs.size<=b:=by
  simp only[aB,aL,or_false] at hb;rcases hb with rfl | rfl | rfl | rfl | rfl <;> first | exact Nat.le_add_right _ _ | exact ar _
 exact I1.fpOk hb' (I1.hok.fresh hb')
theorem yL (hc:X.calm=true):sI X (.builtin "all") (fun xs H Q=>∃(p:Addr) (bs:List Bool),xs=[.ref p]/\bJ X.K H p (bs.map V.bl)/\Q (.bl (bs.all id)) H):=by
 intro pins s σ H xs us Q I r h;obtain ⟨p,bs,rfl,hp,q⟩:=h;obtain ⟨u,rfl,ru⟩:=vals1 r;cases ru;obtain ⟨vs,rv,pl,hz⟩:=I.list hp
 have hb:PyProof.Rows.LSm.BoolsAre vs bs:=by
  clear q hp pl hz
  induction bs generalizing vs with
  | nil=>cases rv;exact .nil
  | cons b bs ih =>
   rw[fh] at rv;cases rv with
   | cons r1 r2=>cases r1;exact .cons b (ih _ r2)
 have hlt:p < s.heap.objs.size:=by obtain ⟨_,e,_⟩:=pl.isList;exact Heap.lt_size e
 refine call_all_walk (wpAny_pyIter_list pl.isList ?_)
 refine ⟨s.heap.objs.size,[s.heap.objs.size,p],[s.heap.objs.size],vs.toArray.size,_,_,fun i=>(bs[i]?).getD true,rfl,Walks.list (A:=X.A.in1) (I.ok.hd hc) _ p (cw hlt) vs.toArray,
  ⟨⟨_,Heap.get?_push_size _ rfl,rfl,rfl⟩,pl.isList.push _⟩,fun i v s' Q' E' hP hQ=>?_,fun h' tk hk=>?_⟩
 ·obtain ⟨b,e,rfl⟩:=hb.get i v (by simpa using hP);simp only[e,Option.getD_some] at hQ;exact wpAny_truthy_bool hQ
 ·have e:((List.range vs.toArray.size).all fun i=>(bs[i]?).getD true)=bs.all id:=by
   rw[aI,hb.length];exact PyProof.Rows.LSm.range_all bs
  rw[e];exact ⟨.bl _,H,I.kept (t':=tk) (PyProof.Rows.LSm.kept_iter hk),rfl,q⟩
theorem HW (hc:X.calm=true):sI X (.builtin "sum") (fun xs H Q=>∃(p:Addr) (ns:List Int),xs=[.ref p]/\bJ X.K H p (ns.map V.int)/\Q (.int ns.sum) H):=by
 intro pins s σ H xs us Q I r h;obtain ⟨p,ns,rfl,hp,q⟩:=h;obtain ⟨u,rfl,ru⟩:=vals1 r;cases ru;obtain ⟨vs,rv,pl,_⟩:=I.list hp;have hi:IntsAre vs ns:=intsAre_of rv;obtain ⟨xs,hx⟩:=hi.allInts.items;have hl':s.heap.IsList p (intItems xs):=hx ▸ pl.isList;refine sum_intListG (I.ok.hd hc) hl' fun h' tk t' hk=>?_
 have e1:ns=xs.toList.map (·.1):=by
  rw[<- nums_intItems,<- hx];exact (show numsOf vs.toArray.toList=ns from hi.numsOf).symm
 have e2:preSum (numAt xs) xs.size=ns.sum:=by
  rw[preSum_eq,aN (by simp),e1]
 rw[e2];exact ⟨.int _,H,I.kept (t':=tk) hk,⟨_,rfl⟩,q⟩
end
section
variable {K:PySem.W.Frag} {l1 l2:Addr} {xs ws:List V} {g:TG} {tf:TT} {te:TE} {Q:VK} {σ₀:St} {H:Hp}
theorem Cj (Pv:Nat->List V->Hp->Prop) (hz:xs.length<=sizeLine) (hw:ws.length=xs.length) (h0:Pv 0 [] H) (hl:∀i ys H,i<=xs.length->Pv i ys H->bJ K H l1 xs/\bJ K H l2 ws)
  (hs:∀i x y ys H p,xs[i]?=some x->ws[i]?=some y->ys.length<=i->Pv i ys H->H p=none->rz σ₀ g tf te (.ref p) (upd H p (.tup [x,y])) (fun y H'=>Pv (i+1) (ys++[y]) H') (fun H'=>Pv (i+1) ys H'))
  (hd:∀ys H,ys.length<=xs.length->Pv xs.length ys H->∀p,H p=none->Q (.ref p) (upd H p (.lst ys))):sH (LL K l1 l2) σ₀ g tf te Q H:=by
 refine ⟨fun i m ys H=>m=xs.length - i/\i<=xs.length/\ys.length<=i/\Pv i ys H,⟨xs.length,by simp,aT _,aT _,h0⟩,?_⟩;rintro i m ys H ⟨rfl,hi,hy,p⟩;obtain ⟨q1,q2⟩:=hl i ys H hi p;by_cases hlt:i < xs.length
 ·refine .inr ⟨⟨xs,ws,xs[i],ws[i]'(by lia),q1,q2,by simp [hlt],by simp⟩,by lia,fun y H'=>Pv (i+1) (ys++[y]) H',fun H'=>Pv (i+1) ys H',fun y H' p'=>⟨xs.length - (i+1),by lia,rfl,hlt,by rw[ao,bc];lia,p'⟩,fun H' p'=>⟨xs.length - (i+1),by lia,rfl,hlt,by lia,p'⟩,fun x H' y=>?_⟩;obtain ⟨r,x',y',rfl,hr,rfl,e1,e2⟩:=y;exact hs i x' y' ys _ r (e1 xs q1) (e2 ws q2) hy p hr
 ·have e:i=xs.length:=by lia
  subst e;exact .inl ⟨⟨xs,ws,q1,q2,.inl (ar _)⟩,by lia,hd ys H hy p⟩
theorem Jv {tb:TS} {D:Ends} {σ:St} (Pv:Nat->St->Hp->Prop) (hw:ws.length=xs.length) (h0:Pv 0 σ H) (hl:∀i σ H,i<=xs.length->Pv i σ H->bJ K H l1 xs/\bJ K H l2 ws)
  (hs:∀i x y σ H p,xs[i]?=some x->ws[i]?=some y->Pv i σ H->H p=none->g (.ref p) σ (upd H p (.tup [x,y])) fun σ2 H2=>tb { D with nx:=Pv (i+1),ct:=Pv (i+1),bk:=D.nx } σ2 H2) (hd:∀σ H,Pv xs.length σ H->D.nx σ H) :
  ∃W:Nat->Nat->St->Hp->Prop,(∃m,W 0 m σ H)/\∀i m σ H,W i m σ H →
   ((LL K l1 l2).stop i H/\D.nx σ H)\/((LL K l1 l2).go i H/\∃N:St->Hp->Prop,(∀σ' H',N σ' H'->∃m',m' < m/\W (i+1) m' σ' H')/\∀x H',(LL K l1 l2).yld i H x H'->g x σ H' fun σ2 H2=>tb { D with nx:=N,ct:=N,bk:=D.nx } σ2 H2):=by
 refine ⟨fun i m σ H=>m=xs.length - i/\i<=xs.length/\Pv i σ H,⟨xs.length,by simp,aT _,h0⟩,?_⟩;rintro i m σ H ⟨rfl,hi,p⟩;obtain ⟨q1,q2⟩:=hl i σ H hi p;by_cases hlt:i < xs.length
 ·refine .inr ⟨⟨xs,ws,xs[i],ws[i]'(by lia),q1,q2,by simp [hlt],by simp⟩,Pv (i+1),fun σ' H' p'=>⟨xs.length - (i+1),by lia,rfl,hlt,p'⟩,fun x H' y=>?_⟩;obtain ⟨r,x',y',rfl,hr,rfl,e1,e2⟩:=y;exact hs i x' y' σ _ r (e1 xs q1) (e2 ws q2) p hr
 ·have e:i=xs.length:=by lia
  subst e;exact .inl ⟨⟨xs,ws,q1,q2,.inl (ar _)⟩,hd σ H p⟩
end
section
variable {X:Cx}
theorem uR (K:PySem.W.Frag) (n:Nat) {es:List Expr} {k:Nat} {pos:Pos} {t:Ie} (h:MS X es t) (hK:X.K=K:=by rfl) (hc:X.calm=true:=by rfl)
  (hn:(assignEach es X.env).length=n:=by rfl) (hst:(assignEach es X.env).findIdx? (·.1)=none:=by rfl):PG X (.Tuple es k pos) (Lu K n t):=by subst hK;exact ux hc h hn hst
theorem AY (K:PySem.W.Frag) (hK:X.K=K):MW X (La K):=by subst hK;exact cb
theorem fI (K:PySem.W.Frag) (hK:X.K=K):MW X (Lb K):=by subst hK;exact bO
theorem DX (K:PySem.W.Frag) (hK:X.K=K) (hu:X.A.units+50 < cLine):xm X (compareOp .NotEq) (Mx K):=by subst hK;exact AI hu
theorem BR (K:PySem.W.Frag) {tg l:Expr} {tl:TE} (hl:PE X l tl) (hK:X.K=K:=by rfl):PI X tg l (Ht K tl):=by subst hK;exact cn hl
end
theorem dO {X:Cx} {e e':Expr} {es:List Expr} {te:TE} {t:TA} (h:e=e') (ha:PE X e' te) (hr:PA X es t) (hs:∀l,starEach (e' :: l) X.env=(false,eval e' X.env) :: starEach l X.env:=by intro _;rfl):PA X (e :: es) (rA te t):=by subst h;exact ae ha hr (hs _)
section
variable {σ:St} {H:Hp} {D:Ends} {Q:VK}
theorem oZ {l:Addr} {xs:List V} {y:V} (hl:H l=some (.lst xs)) (hz:xs.length < sizeLine) (h:Q .non (upd H l (.lst (xs++[y])))):DS (.ref l) [y] H Q:=⟨l,xs,y,rfl,rfl,hl,hz,h⟩
theorem IU {K:PySem.W.Frag} {ta:TA} {R:It->Hp->Prop} (h:ta σ H fun vs H1=>∃l1 l2,vs=[.ref l1,.ref l2]/\(∃xs,bJ K H1 l1 xs)/\(∃ys,bJ K H1 l2 ys)/\R (LL K l1 l2) H1):Lr K ta σ H R:=h
theorem C6 {l b:Addr} {xs zs:List V} (h1:H l=some (.lst xs)) (h2:H b=some (.lst zs)) (hz:xs.length+zs.length<=sizeLine) (h:∀p H',aF H H'->H p=none->H' p=some (.lst (xs++zs))->Q (.ref p) H'):My (.ref l) (.ref b) H Q :=
 ⟨l,b,xs,zs,rfl,rfl,h1,h2,hz,fun p hp=>h p _ (aF.new hp) hp aG⟩
theorem KN {K:PySem.W.Frag} {a:Addr} {xs:List V} {lo hi:Option Int} (h1:bJ K H a xs) (h:∀p H',aF H H'->H p=none->H' p=some (.lst (vo xs lo hi))->Q (.ref p) H'):Mw K (.ref a) lo hi H Q :=
 ⟨a,xs,rfl,h1,fun p hp=>h p _ (aF.new hp) hp aG⟩
theorem pB {α:Type} {xs:List α} {i:Int} (h0:0<=i) (h1:i < xs.length):∃v,DB xs i=some v/\v∈xs/\xs[i.toNat]?=some v:=by
 have hj:i.toNat < xs.length:=by lia
 refine ⟨xs[i.toNat],?_,bE hj,by simp [hj]⟩;have:=dR (xs:=xs) (j:=i.toNat) (v:=xs[i.toNat]) (by simp [hj]);rwa [Int.toNat_of_nonneg h0] at this
end
inductive Kn (H:Hp):V->Prop where
 | non:Kn H .non
 | bl (b:Bool):Kn H (.bl b)
 | int (i:Int):Kn H (.int i)
 | str (x:Str):Kn H (.str x)
 | lst {a:Addr} {xs:List V} (e:H a=some (.lst xs)):Kn H (.ref a)
 | tup {a:Addr} {xs:List V} (e:H a=some (.tup xs)):Kn H (.ref a)
 | dic {a:Addr} {kvs:List (Key×V)} (e:H a=some (.dK kvs)):Kn H (.ref a)
def tyB (T:String) (x:V) (H:Hp):Bool:=match x with
 | .int _=>T == "int"
 | .bl _=>T == "int" || T == "bool"
 | .ref a=>(match H a with
  | some (.lst _)=>T == "list"
  | some (.tup _)=>T == "tuple"
  | _=>false)
 | _=>false
def OkT (T:String):Prop:=T="int"\/T="bool"\/T="list"\/T="tuple"
theorem KZ {K:PySem.W.Frag} {H:Hp} {Q:VK} {x:V} {T:String} (h:Kn H x) (hT:OkT T) (q:Q (.bl (tyB T x H)) H):C7 K T x H Q:=by
 cases h with
 | non=>rcases hT with rfl | rfl | rfl | rfl <;> exact ⟨_,_,.non,rfl,q⟩
 | bl b=>rcases hT with rfl | rfl | rfl | rfl <;> exact ⟨_,_,.bl b,rfl,q⟩
 | int i=>rcases hT with rfl | rfl | rfl | rfl <;> exact ⟨_,_,.int i,rfl,q⟩
 | str x=>rcases hT with rfl | rfl | rfl | rfl <;> exact ⟨_,_,.str x,rfl,q⟩
 | lst e =>
  simp only[tyB,e] at q;rcases hT with rfl | rfl | rfl | rfl <;> exact ⟨_,_,.lst e,rfl,q⟩
 | tup e =>
  simp only[tyB,e] at q;rcases hT with rfl | rfl | rfl | rfl <;> exact ⟨_,_,.tup e,rfl,q⟩
 | dic e =>
  simp only[tyB,e] at q;rcases hT with rfl | rfl | rfl | rfl <;> exact ⟨_,_,.dK e,rfl,q⟩
theorem df {α β:Type} {F:α->β->Prop}:∀{l1:List α} {l2:List β} {y:β},Paired F l1 l2->y∈l2->∃x∈l1,F x y
 | _,_,_,.nil,h=>nomatch h
 | _,_,_,.cons r t,h=>by
  rcases aB.mp h with rfl | h
  ·exact ⟨_,cT,r⟩
  ·obtain ⟨x,hx,q⟩:=df t h;exact ⟨x,bN _ hx,q⟩
theorem cQ {α β:Type} {F:α->β->Prop} {l1:List α} {l2:List β} {i:Nat} {y:β} (h:Paired F l1 l2) (e:l2[i]?=some y):∃x,l1[i]?=some x/\F x y:=by
 have hl:=h.length;have hi:i < l2.length:=(aE.mp e).1;refine ⟨l1[i]'(by lia),by simp,?_⟩;have:=ja h (i:=i) (by lia) hi;have e2:l2[i]=y:=(aE.mp e).2;rwa [e2] at this
def w5 (n:Int×Int):Prop:=0 < n.2/\Int.gcd n.1 n.2=1/\Sz 8000 n.1/\Sz 8000 n.2
theorem take_snoc {α:Type} {l:List α} {i:Nat} {v:α} (h:l[i]?=some v):l.take (i+1)=l.take i++[v]:=by rw[List.take_add_one,h];rfl
theorem aF.after {H H':Hp} {r:Addr} {o:HO} (s:aF H H') (h:H r=Option.none):aF H (upd H' r o):=fun b u e=>by rw[be (eQ e h)];exact s b u e
theorem cL.after {H H':Hp} {b r:Addr} {o:HO} (s:cL b H H') (h:H r=Option.none):cL b H (upd H' r o):=⟨fun c u e n=>by rw[be (eQ e h)];exact s.1 c u e n,fun q hi=>(s.2 q hi).upd fun z=>by obtain ⟨_,_,_,e⟩:=hi;rw[<- z,h] at e;cases e⟩
theorem cL.same {H H' H'':Hp} {b:Addr} (s:cL b H H') (e:aF H' H''):cL b H H'':=s.trans e.upto
theorem Er {α:Type} {Pr:α->Prop} {l:List α} {a:α} (h:∀n∈l,Pr n) (ha:Pr a):∀n∈l++[a],Pr n:=fun n hn=>by
 rcases aw.mp hn with hn | hn
 ·exact h n hn
 ·have e:n=a:=by simpa using hn
  rw[e];exact ha
abbrev yS (h:Heap) (z TI TO:Addr) (f0 f1:Value):Prop:=h.get? z=some { cls:=.type "zip",dict:=none,data:=.fields #[f0,f1,.bool false,.ref TI,.ref TO],slots:=#[] }
section
variable {prog:Program} {w:World} {A:Around} {E:Value->Shared->Prop} {s:Shared}
theorem DC {a:Addr} {o:Obj} {Q:Option Obj->Shared->Prop} (e:s.heap.get? a=some o) (h:Q (some o) s):wpAny (model prog w) A (loadIfAlive a) Q E s:=by
 intro Γ p hp;show Sem.wp _ _ (.loadIfAlive a .pure) _ _ _ _
 simp only[Sem.wp_loadIfAlive,e];exact wpAny_pure h Γ p hp
theorem yg {z TI TO T:Addr} {b1:Bool} {o:Obj} {Q:Bool->Shared->Prop} (zr:yS s.heap z TI TO (rawInt T) (.bool b1)) (al:s.heap.get? T=some o)
  (h:∀h',yS h' z TI TO (rawInt T) (.bool true)->Heap.SameBut z s.heap h'->Q false { s with heap:=h' }):wpAny (model prog w) A (Builtin.SmallTypes.ownedTupleIsFree (.ref z)) Q E s:=by
 unfold Builtin.SmallTypes.ownedTupleIsFree;refine wpAny_bind (wpAny_field zr rfl (x:=rawInt T) rfl ?_);refine wpAny_bind (DC (a:=T) al ?_);refine wpAny_bind (wpAny_field zr rfl (x:=.bool b1) rfl ?_);cases b1 with
 | true=>exact wpAny_pure (h _ zr (.refl ..))
 | false=>exact wpAny_bind (wpAny_setField_rec zr (by simp) fun h' zr' sb=>wpAny_pure (h h' zr' sb))
theorem Ff {z TI TO T i1 i2 l1 l2:Addr} {k1 k2:Nat} {us ws:Array Value} {u v:Value} {b1:Bool} {o:Obj} {Q:Value->Shared->Prop} (D:ZipApart z TI TO i1 i2 l1 l2) (zr:yS s.heap z TI TO (rawInt T) (.bool b1)) (al:s.heap.get? T=some o)
  (pt:IsPair s.heap TI (.ref i1) (.ref i2)) (j1:s.heap.IsListIter i1 l1 k1) (j2:s.heap.IsListIter i2 l2 k2) (m1:s.heap.IsList l1 us) (m2:s.heap.IsList l2 ws) (eu:us[k1]?=some u) (ev:ws[k2]?=some v)
  (hQ:∀h',yS h' z TI TO (rawInt T) (.bool true)->h'.IsListIter i1 l1 (k1+1)->h'.IsListIter i2 l2 (k2+1)->IsPair h' s.heap.objs.size u v->(∀c o,c≠z->c≠i1->c≠i2->s.heap.get? c=some o->h'.get? c=some o)->Q (.ref s.heap.objs.size) { s with heap:=h' }) :
  wpAny (model prog w) A (Builtin.«zip.__next__» ⟨[.ref z],[]⟩) (fun fin s'=>∃v,fin=.done (.ret v)/\Q v s') E s:=by
 change wpAny _ _ (field (Value.ref z) 2 >>= _) _ _ s
 refine wpAny_bind (wpAny_field zr rfl (x:=.bool false) rfl ?_)
 change wpAny _ _ (field (Value.ref z) 3 >>= _) _ _ s
 refine wpAny_bind (wpAny_field zr rfl (x:=.ref TI) rfl (wpAny_bind (wpAny_seqItems pt rfl ?_)))
 change wpAny _ _ (Builtin.SmallTypes.ownedTupleIsFree (Value.ref z) >>= _) _ _ s
 refine wpAny_bind (yg zr al fun g1 zr1 sb1=>?_);simp only[fu,if_false];refine wpAny_bind ?_;rw[<- Array.forIn_toList];simp only[Ik,Al];have j1':=j1.extBut sb1.extBut D.i1z;have m1':=m1.extBut sb1.extBut D.l1z;refine wpAny_bind (wpAny_bind (wpAny_holding ?_))
 change wpAny _ _ (Builtin.SmallTypes.nextOf (Value.ref i1) >>= _) _ _ _
 refine wpAny_bind (wpAny_nextOf_list_item j1' m1' eu fun g2 j1a sb2=>wpAny_pure ?_);refine wpAny_pure ?_;have j2':=(j2.extBut sb1.extBut D.i2z).extBut sb2.extBut D.i12.symm;have m2':=(m2.extBut sb1.extBut D.l2z).extBut sb2.extBut D.l2i1;refine wpAny_bind (wpAny_bind (wpAny_holding ?_))
 change wpAny _ _ (Builtin.SmallTypes.nextOf (Value.ref i2) >>= _) _ _ _
 refine wpAny_bind (wpAny_nextOf_list_item j2' m2' ev fun g3 j2a sb3=>wpAny_pure ?_);refine wpAny_pure (wpAny_pure ?_);refine wpAny_bind (wpAny_newTuple (hsz:=jB rfl) ?_);have sz:g3.objs.size=s.heap.objs.size:=by rw[sb3.1,sb2.1,sb1.1]
 have up:∀c o,c≠z->c≠i1->c≠i2->s.heap.get? c=some o->g3.get? c=some o:=fun c o c1 c2 c3 e=>sb3.extBut _ _ c3 (sb2.extBut _ _ c2 (sb1.extBut _ _ c1 e))
 have zr3:yS g3 z TI TO (rawInt T) (.bool true):=sb3.extBut _ _ D.i2z.symm (sb2.extBut _ _ D.i1z.symm zr1);refine wpAny_pure ⟨_,rfl,?_⟩
 change Q (.ref g3.objs.size) { s with heap:=g3.push { cls:=.type "tuple",data:=.seq #[u,v] } }
 have last:=hQ (g3.push { cls:=.type "tuple",data:=.seq #[u,v] }) (Heap.get?_push_of_some _ zr3) ((j1a.extBut sb3.extBut D.i12).at fun o e=>Heap.get?_push_of_some _ e) (j2a.at fun o e=>Heap.get?_push_of_some _ e)
  (by rw[<- sz];exact Heap.get?_push_size _ rfl) fun c o c1 c2 c3 e=>Heap.get?_push_of_some _ (up c o c1 c2 c3 e)
 rw[sz];exact last
theorem GU {z TI TO T i1 i2 l1 l2:Addr} {k1:Nat} {us:Array Value} {b1:Bool} {o:Obj} {Q:PySem.Fin->Shared->Prop} (hh:A.handled=none) (D:ZipApart z TI TO i1 i2 l1 l2) (zr:yS s.heap z TI TO (rawInt T) (.bool b1)) (al:s.heap.get? T=some o)
  (pt:IsPair s.heap TI (.ref i1) (.ref i2)) (j1:s.heap.IsListIter i1 l1 k1) (m1:s.heap.IsList l1 us) (eu:us[k1]?=none)
  (hE:∀h' e,(∀c o,c≠z->c≠i1->c≠i2->s.heap.get? c=some o->h'.get? c=some o)->(∃o,h'.get? e=some o/\o.cls=.type "StopIteration")->E (.ref e) { s with heap:=h' }) :
  wpAny (model prog w) A (Builtin.«zip.__next__» ⟨[.ref z],[]⟩) Q E s:=by
 change wpAny _ _ (field (Value.ref z) 2 >>= _) _ _ s
 refine wpAny_bind (wpAny_field zr rfl (x:=.bool false) rfl ?_)
 change wpAny _ _ (field (Value.ref z) 3 >>= _) _ _ s
 refine wpAny_bind (wpAny_field zr rfl (x:=.ref TI) rfl (wpAny_bind (wpAny_seqItems pt rfl ?_)))
 change wpAny _ _ (Builtin.SmallTypes.ownedTupleIsFree (Value.ref z) >>= _) _ _ s
 refine wpAny_bind (yg zr al fun g1 zr1 sb1=>?_);simp only[fu,if_false];refine wpAny_bind ?_;rw[<- Array.forIn_toList];simp only[Ik,Al];refine wpAny_bind (wpAny_bind (wpAny_holding ?_))
 change wpAny _ _ (Builtin.SmallTypes.nextOf (Value.ref i1) >>= _) _ _ _
 exact wpAny_bind (wpAny_nextOf_list_end hh (j1.extBut sb1.extBut D.i1z) (m1.extBut sb1.extBut D.l1z) eu fun g2 e xb he=>hE g2 e (fun c o c1 c2 _ q=>xb _ _ c2 (sb1.extBut _ _ c1 q)) he)
theorem E9 {z TI TO T i1 i2 l1 l2:Addr} {k1 k2:Nat} {us ws:Array Value} {u v:Value} {b1:Bool} {o:Obj} {Q:Option Value->Shared->Prop} (D:ZipApart z TI TO i1 i2 l1 l2) (zr:yS s.heap z TI TO (rawInt T) (.bool b1)) (al:s.heap.get? T=some o)
  (pt:IsPair s.heap TI (.ref i1) (.ref i2)) (j1:s.heap.IsListIter i1 l1 k1) (j2:s.heap.IsListIter i2 l2 k2) (m1:s.heap.IsList l1 us) (m2:s.heap.IsList l2 ws) (eu:us[k1]?=some u) (ev:ws[k2]?=some v)
  (hQ:∀h',yS h' z TI TO (rawInt T) (.bool true)->h'.IsListIter i1 l1 (k1+1)->h'.IsListIter i2 l2 (k2+1)->IsPair h' s.heap.objs.size u v->(∀c o,c≠z->c≠i1->c≠i2->s.heap.get? c=some o->h'.get? c=some o)->Q (some (.ref s.heap.objs.size)) { s with heap:=h' }) :
  wpAny (model prog w) A (pyNext (.ref z)) Q E s:=by
 have ty:s.TypeIs (.ref z) "zip":=⟨_,zr,rfl⟩;unfold pyNext;refine wpAny_bind (wpAny_attempt (wpAny_callSpecial?_slot (name:=Str.ofString "__next__") ty pG (wpAny_call_entry pG ty PySem.F.entry_zip_next ?_ (MY _))));exact Ff D zr al pt j1 j2 m1 m2 eu ev fun h' a1 a2 a3 a4 a5=>wpAny_pure (hQ h' a1 a2 a3 a4 a5)
theorem E8 {z TI TO T i1 i2 l1 l2:Addr} {k1:Nat} {us:Array Value} {b1:Bool} {o:Obj} {Q:Option Value->Shared->Prop} (hh:A.handled=none) (D:ZipApart z TI TO i1 i2 l1 l2) (zr:yS s.heap z TI TO (rawInt T) (.bool b1)) (al:s.heap.get? T=some o)
  (pt:IsPair s.heap TI (.ref i1) (.ref i2)) (j1:s.heap.IsListIter i1 l1 k1) (m1:s.heap.IsList l1 us) (eu:us[k1]?=none)
  (hQ:∀h',(∀c o,c≠z->c≠i1->c≠i2->s.heap.get? c=some o->h'.get? c=some o)->Q none { s with heap:=h' }):wpAny (model prog w) A (pyNext (.ref z)) Q E s:=by
 have ty:s.TypeIs (.ref z) "zip":=⟨_,zr,rfl⟩;unfold pyNext;refine wpAny_bind (wpAny_attempt (wpAny_callSpecial?_slot (name:=Str.ofString "__next__") ty pG (wpAny_call_entry pG ty PySem.F.entry_zip_next ?_ (MY _))));refine GU hh D zr al pt j1 m1 eu fun h' e kk ⟨oe,he,hc⟩=>?_
 exact wpAny_bind (wpAny_isInstance (T:="StopIteration") (b:=true) ⟨oe,he,hc⟩ isSubtype_stop (wpAny_pure (hQ _ kk)))
end
section
variable {X:Cx} {pins:List (Addr×Obj)} {σ:St} {H:Hp} {s:Shared}
theorem Inv.moved {h':Heap} {ch:List Addr} {g':Array GenState} {d':Drawn} {t':Nat} (I:Inv X pins σ H s) (fx:∀b∈ch,kg X pins H b) (up:∀b o,b∉ch->s.heap.get? b=some o->h'.get? b=some o) (hg:AllBare g') :
  Inv X pins σ H { s with heap:=h',gens:=g',drawn:=d',toks:=t' }:=by
 have nx:∀b o,H b=some o->b∉ch:=fun b o e hb=>by have:=(fx b hb).1;rw[this] at e;cases e
 refine I.step (ch:=ch) (fun b hb=>?_) (fun b o _ _ hb e _=>up b o hb e) (fun b o _ _ hb e _=>⟨o.slots,up b o hb e⟩) (fun b o hb e n=>n) (fun b o hb e=>⟨o,up b o hb e⟩) (fun b q e=>e) (fun b o q e=>e) (fun b q e=>⟨#[],by rw[e];simp⟩) (fun m hm=>?_) (fun b o e=>?_) hg
 ·obtain ⟨_,f1,_,f3,f4,f5⟩:=fx b hb;exact ⟨f3,f1,f4,f5⟩
 ·obtain ⟨o,es,ep,ho,r⟩:=hm;exact ⟨o,es,ep,up _ o (fun z=>(fx _ z).2.1 rfl) ho,r⟩
 ·refine (I.hok b o e).stay (fun c v' hc q=>up c v' ?_ q) (fun c q=>q) fun c xs q=>q
  rcases hc with rfl | hc
  ·exact nx _ _ e
  ·exact nx _ _ hc
theorem Inv.track {p:Addr} {o:HO} (I:Inv X pins σ H s) (fp:kg X pins H p) (new:jv X.prog X.w (upd H p o) s.heap p o):Inv X pins σ (upd H p o) s:=by
 have nt:∀{b:Addr} {u:HO},H b=some u->b≠p:=fun e z=>by rw[z,fp.1] at e;cases e
 refine I.step (h':=s.heap) (g':=s.gens) (d':=s.drawn) (t':=s.toks) (ch:=[p]) (fun b hb=>?_) (fun b o _ _ _ e _=>e) (fun b o _ _ _ e _=>⟨o.slots,e⟩) (fun b o hb e n=>?_) (fun b o _ e=>⟨o,e⟩) (fun b q e=>by rw[be (nt e)];exact e) (fun b o q e=>by rw[be (nt e)];exact e)
  (fun b q e=>⟨#[],by rw[be (nt e),e];simp⟩) (fun m hm=>hm) (fun b u e=>?_) I.bare
 ·have e:b=p:=by simpa using hb
  subst e;obtain ⟨_,f1,_,f3,f4,f5⟩:=fp;exact ⟨f3,f1,f4,f5⟩
 ·rw[be fun z=>hb (by simp [z])];exact n
 ·by_cases hb:b=p
  ·subst hb;rw[aG] at e;cases e;exact new
  ·rw[be hb] at e;exact (I.hok b u e).stay (fun c v _ q=>q) (fun c q=>by rw[be (nt q)];exact q) fun c xs q=>by rw[be (nt q)];exact q
end
def Kh (H:Hp) (p:V×V) (x:V):Prop:=∃T,x=.ref T/\H T=some (.tup [p.1,p.2])
theorem Kh.same {H H':Hp} {p:V×V} {x:V} (h:Kh H p x) (e:aF H H'):Kh H' p x:=by obtain ⟨T,q,g⟩:=h;exact ⟨T,q,e _ _ g⟩
def Zst (h:Heap) (z TI TO:Addr) (base:Nat):Prop:=(∃a b,IsPair h TO a b)/\(IsZip h z TI TO .none\/∃(T:Addr) (b1:Bool) (o:Obj),yS h z TI TO (rawInt T) (.bool b1)/\h.get? T=some o/\@LE.le Nat instLENat base T)
theorem Am {h:Heap} {z TI TO i1 i2 l1 l2:Addr} {f0 f1 a b:Value} {k1 k2:Nat} {xs ys:Array Value} (hz:yS h z TI TO f0 f1) (hTI:IsPair h TI (.ref i1) (.ref i2)) (hTO:IsPair h TO a b) (h1:h.IsListIter i1 l1 k1) (h2:h.IsListIter i2 l2 k2) (hl1:h.IsList l1 xs) (hl2:h.IsList l2 ys) (hT:TI≠TO) (hi:i1≠i2):ZipApart z TI TO i1 i2 l1 l2:=by
 obtain ⟨o1,g1,c1,_⟩:=h1;obtain ⟨o2,g2,c2,_⟩:=h2;obtain ⟨p1,q1,d1,_⟩:=hl1;obtain ⟨p2,q2,d2,_⟩:=hl2;have zt:Value.type "zip"≠.type "tuple":=m4 (by decide);have it:Value.type "list_iterator"≠.type "tuple":=m4 (by decide);have iz:Value.type "list_iterator"≠.type "zip":=m4 (by decide);have lz:Value.type "list"≠.type "zip":=m4 (by decide);have lt:Value.type "list"≠.type "tuple":=m4 (by decide);have li:Value.type "list"≠.type "list_iterator":=m4 (by decide)
 exact ⟨cR hTI hz zt.symm,cR hTO hz zt.symm,cR g1 hz (by rw[c1];exact iz),cR g2 hz (by rw[c2];exact iz),hT,cR hTI g1 (by rw[c1];exact it.symm),cR hTI g2 (by rw[c2];exact it.symm),cR hTO g1 (by rw[c1];exact it.symm),cR hTO g2 (by rw[c2];exact it.symm),hi,
  cR q1 hz (by rw[d1];exact lz),cR q1 hTO (by rw[d1];exact lt),cR q1 g1 (by rw[d1,c1];exact li),cR q1 g2 (by rw[d1,c2];exact li),cR q2 hz (by rw[d2];exact lz),cR q2 hTO (by rw[d2];exact lt),cR q2 g1 (by rw[d2,c1];exact li),cR q2 g2 (by rw[d2,c2];exact li)⟩
section
variable {X:Cx} {pins:List (Addr×Obj)} {σ:St}
theorem kg.heap {H H':Hp} {b:Addr} (f:kg X pins H b) (e:H' b=none):kg X pins H' b:=⟨e,f.2⟩
structure Bg where
 z:Addr
 TI:Addr
 TO:Addr
 i1:Addr
 i2:Addr
 S:Addr
 base:Nat
def Bg.all (a:Bg):List Addr:=[a.z,a.TI,a.TO,a.i1,a.i2,a.S]
structure Bg.Ok (a:Bg):Prop where
 tt:a.TI≠a.TO
 ii:a.i1≠a.i2
 Sz:a.S≠a.z
 STI:a.S≠a.TI
 STO:a.S≠a.TO
 Si1:a.S≠a.i1
 Si2:a.S≠a.i2
 lt:∀b∈a.all,@LT.lt Nat instLTNat b a.base
structure JL (X:Cx) (pins:List (Addr×Obj)) (σ:St) (H1:Hp) (a:Bg) (l1 l2:Addr) (i:Nat) (H:Hp) (s:Shared):Prop where
 inv:Inv X pins σ H s
 same:aF H1 H
 fps:∀b∈a.all,kg X pins H b
 sz:a.base<=s.heap.objs.size
 zst:Zst s.heap a.z a.TI a.TO a.base
 pt:IsPair s.heap a.TI (.ref a.i1) (.ref a.i2)
 j1:s.heap.IsListIter a.i1 l1 i
 j2:s.heap.IsListIter a.i2 l2 i
variable {a:Bg} {l1 l2:Addr} {H1 H:Hp} {s:Shared} {i:Nat} {xs ys:List V}
theorem JL.push {h':Heap} (L:JL X pins σ H1 a l1 l2 i H s) (O:a.Ok) (k:∀b o,b≠a.S->s.heap.get? b=some o->h'.get? b=some o) (hz:h'.objs.size=s.heap.objs.size):JL X pins σ H1 a l1 l2 i H { s with heap:=h' }:=by
 refine ⟨L.inv.moved (g':=s.gens) (d':=s.drawn) (t':=s.toks) (ch:=[a.S]) (fun b hb=>?_) (fun b o hb e=>k b o (fun z=>hb (by simp [z])) e) L.inv.bare,L.same,L.fps,by show a.base<=h'.objs.size;rw[hz];exact L.sz,?_,k _ _ O.STI.symm L.pt,L.j1.at fun o e=>k _ o O.Si1.symm e,L.j2.at fun o e=>k _ o O.Si2.symm e⟩
 ·have e:b=a.S:=by simpa using hb
  rw[e];exact L.fps _ (by simp [Bg.all])
 ·obtain ⟨⟨c,d,z0⟩,z4⟩:=L.zst;refine ⟨⟨c,d,k _ _ O.STO.symm z0⟩,?_⟩;rcases z4 with z1 | ⟨T,b1,o,z1,z2,z3⟩
  ·exact .inl (k _ _ O.Sz.symm z1)
  ·refine .inr ⟨T,b1,o,k _ _ O.Sz.symm z1,k _ _ (fun e=>?_) z2,z3⟩;have:=O.lt a.S (by simp [Bg.all]);rw[<- e] at this;exact absurd this (Nat.not_lt.mpr z3)
theorem FG {A':Around} {E:Value->Shared->Prop} {Q:Option Value->Shared->Prop} (O:a.Ok) (q1:bJ X.K H1 l1 xs) (q2:bJ X.K H1 l2 ys) {x y:V} (ex:xs[i]?=some x) (ey:ys[i]?=some y) (L:JL X pins σ H1 a l1 l2 i H s)
  (hQ:∀s',JL X pins σ H1 a l1 l2 (i+1) (upd H s.heap.objs.size (.tup [x,y])) s'->(∀c o,c∉[a.z,a.TO,a.i1,a.i2]->s.heap.get? c=some o->s'.heap.get? c=some o)->H s.heap.objs.size=none->Q (some (.ref s.heap.objs.size)) s'):wpAny (model X.prog X.w) A' (pyNext (.ref a.z)) Q E s:=by
 obtain ⟨I,sm,fps,sz,zst,pt,j1,j2⟩:=id L;obtain ⟨us,ru,pu,_⟩:=I.list (sm.seq q1);obtain ⟨ws,rw',pw,_⟩:=I.list (sm.seq q2);obtain ⟨u,eu,r1⟩:=ru.get ex;obtain ⟨v,ev,r2⟩:=rw'.get ey;have fx:∀b∈[a.z,a.TO,a.i1,a.i2],kg X pins H b:=fun b hb=>fps b (by simp only[Bg.all,aB,aL,or_false] at hb ⊢;rcases hb with e | e | e | e <;> simp [e])
 have hT0:H s.heap.objs.size=none:=I.hok.fresh (ar _);have fT:kg X pins H s.heap.objs.size:=I.fpOk (ar _) hT0;have lt:∀b∈a.all,b≠s.heap.objs.size:=fun b hb e=>by have:=O.lt b hb;rw[e] at this;exact absurd this (Nat.not_lt.mpr sz)
 have fin:∀h',(∀c o,c∉[a.z,a.TO,a.i1,a.i2]->s.heap.get? c=some o->h'.get? c=some o)->IsPair h' s.heap.objs.size u v->IsPair h' a.TI (.ref a.i1) (.ref a.i2)->h'.IsListIter a.i1 l1 (i+1)->h'.IsListIter a.i2 l2 (i+1)->Zst h' a.z a.TI a.TO a.base →
   Q (some (.ref s.heap.objs.size)) { s with heap:=h' }:=fun h' up pr pt' j1' j2' zst'=>by
  have I2:Inv X pins σ H { s with heap:=h' }:=I.moved (g':=s.gens) (d':=s.drawn) (t':=s.toks) fx up I.bare;have I3:Inv X pins σ (upd H s.heap.objs.size (.tup [x,y])) { s with heap:=h' }:=I2.track fT ⟨jB rfl,[u,v],.cons r1 (.cons r2 .nil),⟨_,pr,rfl,_,rfl⟩⟩;refine hQ _ ⟨I3,sm.trans (aF.new hT0),fun b hb=>(fps b hb).heap (by rw[be (lt b hb)];exact (fps b hb).1),?_,zst',pt',j1',j2'⟩ up hT0;exact ah sz (bC (Heap.lt_size pr))
 obtain ⟨⟨c,d,z0⟩,z4⟩:=zst;rcases z4 with z1 | ⟨T,b1,o,z1,z2,z3⟩
 ·have D:=Am z1 pt z0 j1 j2 pu.isList pw.isList O.tt O.ii;refine wpAny_pyNext_zip_item D z1 pt z0 j1 j2 pu.isList pw.isList (x:=u) (y:=v) (by simpa using eu) (by simpa using ev) fun h' a1 a2 a3 a4 a5 a6 hk=>?_
  have up:∀c o,c∉[a.z,a.TO,a.i1,a.i2]->s.heap.get? c=some o->h'.get? c=some o:=fun c o hc e=>by
   simp only[aB,aL,or_false,not_or] at hc;exact hk c o hc.1 hc.2.1 hc.2.2.1 hc.2.2.2 e
  exact fin h' up a5 (hk _ _ D.TIz D.TITO D.TIi1 D.TIi2 pt) a3 a4 ⟨⟨_,_,a2⟩,.inr ⟨s.heap.objs.size,false,_,a1,a5,sz⟩⟩
 ·have D:=Am z1 pt z0 j1 j2 pu.isList pw.isList O.tt O.ii;refine E9 D z1 z2 pt j1 j2 pu.isList pw.isList (u:=u) (v:=v) (by simpa using eu) (by simpa using ev) fun h' a1 a3 a4 a5 hk=>?_
  have up:∀c o,c∉[a.z,a.TO,a.i1,a.i2]->s.heap.get? c=some o->h'.get? c=some o:=fun c o hc e=>by
   simp only[aB,aL,or_false,not_or] at hc;exact hk c o hc.1 hc.2.2.1 hc.2.2.2 e
  have Tn:∀b∈a.all,T≠b:=fun b hb e=>by have:=O.lt b hb;rw[<- e] at this;exact absurd this (Nat.not_lt.mpr z3)
  exact fin h' up a5 (hk _ _ D.TIz D.TIi1 D.TIi2 pt) a3 a4 ⟨⟨_,_,hk _ _ D.TOz D.TOi1 D.TOi2 z0⟩,.inr ⟨T,true,o,a1,hk _ _ (Tn _ (by simp [Bg.all])) (Tn _ (by simp [Bg.all])) (Tn _ (by simp [Bg.all])) z2,z3⟩⟩
theorem FF {A':Around} {E:Value->Shared->Prop} {Q:Option Value->Shared->Prop} (hh:A'.handled=none) (O:a.Ok) (q1:bJ X.K H1 l1 xs) (q2:bJ X.K H1 l2 ys) (hi:xs.length<=i) (L:JL X pins σ H1 a l1 l2 i H s)
  (hQ:∀s',Inv X pins σ H s'->(∀c o,c∉[a.z,a.TO,a.i1,a.i2]->s.heap.get? c=some o->s'.heap.get? c=some o)->Q none s'):wpAny (model X.prog X.w) A' (pyNext (.ref a.z)) Q E s:=by
 obtain ⟨I,sm,fps,sz,zst,pt,j1,j2⟩:=id L;obtain ⟨us,ru,pu,_⟩:=I.list (sm.seq q1);obtain ⟨ws,rw',pw,_⟩:=I.list (sm.seq q2);have lx:=ru.length;have none1:us.toArray[i]?=none:=by simp;lia
 have fx:∀b∈[a.z,a.TO,a.i1,a.i2],kg X pins H b:=fun b hb=>fps b (by simp only[Bg.all,aB,aL,or_false] at hb ⊢;rcases hb with e | e | e | e <;> simp [e])
 have fin:∀h',(∀c o,c∉[a.z,a.TO,a.i1,a.i2]->s.heap.get? c=some o->h'.get? c=some o)->Q none { s with heap:=h' }:=fun h' up=>hQ _ (I.moved (g':=s.gens) (d':=s.drawn) (t':=s.toks) fx up I.bare) up
 obtain ⟨⟨c,d,z0⟩,z4⟩:=zst;rcases z4 with z1 | ⟨T,b1,o,z1,z2,z3⟩
 ·have D:=Am z1 pt z0 j1 j2 pu.isList pw.isList O.tt O.ii;refine wpAny_pyNext_zip_end hh D z1 pt z0 j1 j2 pu.isList pw.isList (.inl none1) fun h' hk=>fin h' fun c o hc e=>?_
  simp only[aB,aL,or_false,not_or] at hc;exact hk c o hc.1 hc.2.1 hc.2.2.1 hc.2.2.2 e
 ·have D:=Am z1 pt z0 j1 j2 pu.isList pw.isList O.tt O.ii;refine E8 hh D z1 z2 pt j1 pu.isList none1 fun h' hk=>fin h' fun c o hc e=>?_
  simp only[aB,aL,or_false,not_or] at hc;exact hk c o hc.1 hc.2.2.1 hc.2.2.2 e
theorem FI {A':Around} {R:Result->Shared->Prop} (hh:A'.handled=none) (O:a.Ok) (hz:xs.length<=sizeLine) (hl:ys.length=xs.length) (q1:bJ X.K H1 l1 xs) (q2:bJ X.K H1 l2 ys)
  (fin:∀s' H' ts acc c,Inv X pins σ H' s'->aF H1 H'->kg X pins H' a.S->s'.heap.get? a.S=some (lobj acc c)->cB ts acc->Paired (Kh H') (xs.zip ys) ts->R (.ok (.ret .none)) s') :
  ∀(k i:Nat) (s:Shared) (H:Hp) (ts:List V) (acc:List Value) (c:Nat),xs.length - i=k->i<=xs.length->JL X pins σ H1 a l1 l2 i H s->s.heap.get? a.S=some (lobj acc c)->cB ts acc->Paired (Kh H) ((xs.zip ys).take i) ts →
   codeAny (model X.prog X.w) A' (.builtin "list.extend.loop" ⟨[.ref a.S,.ref a.z,.none],[]⟩) R s:=by
 have Sn:a.S∉[a.z,a.TO,a.i1,a.i2]:=fun h=>by
  simp only[aB,aL,or_false] at h;rcases h with e | e | e | e
  ·exact O.Sz e
  ·exact O.STO e
  ·exact O.Si1 e
  ·exact O.Si2 e
 intro k
 induction k with
 | zero =>
  intro i s H ts acc c hk hi L gS rv prs;have e:i=xs.length:=by lia
  refine codeAny_builtin LO ?_;rw[Around.under_plainId lC _]
  change wpAny _ A'.in1 (pyNext (Value.ref a.z) >>= _) _ _ s
  refine wpAny_bind (FF hh O q1 q2 (by lia) L fun s' I' up=>wpAny_pure (fin s' H ts acc c I' L.same (L.fps _ (by simp [Bg.all])) (up _ _ Sn gS) rv ?_));rwa [aN (by rw[yY];lia)] at prs
 | succ k ih =>
  intro i s H ts acc c hk hi L gS rv prs;have hlt:i < xs.length:=by lia
  have lt:=prs.length;have la:=rv.length;refine codeAny_builtin LO ?_;rw[Around.under_plainId lC _]
  change wpAny _ A'.in1 (pyNext (Value.ref a.z) >>= _) _ _ s
  refine wpAny_bind (FG O q1 q2 (x:=xs[i]) (y:=ys[i]'(by lia)) (by simp [hlt]) (by simp) L fun s' L' up hT=>?_);have gS':=up _ _ Sn gS
  change wpAny _ A'.in1 (updateSeq a.S (·.push (Value.ref s.heap.objs.size)) >>= _) _ _ s'
  have small:acc.length<=sizeLine:=by
   rw[dt,yY] at lt
   lia
  refine wpAny_bind (wpAny_updateSeq gS' rfl (wpAny_pure ⟨plainId_quiet lC _,?_⟩) (by rw[aI];exact small) (by
   show (acc.toArray.push (Value.ref s.heap.objs.size)).size<=sizeLine+1
   rw[Array.size_push,aI]
   lia))
  have gS2:=kT gS' (fun b=>b.push (Value.ref s.heap.objs.size));have e2:(acc.toArray.push (Value.ref s.heap.objs.size))=(acc++[Value.ref s.heap.objs.size]).toArray:=by simp
  rw[e2] at gS2;refine ih (i+1) _ (upd H s.heap.objs.size (.tup [xs[i],ys[i]'(by lia)])) (ts++[.ref s.heap.objs.size]) (acc++[.ref s.heap.objs.size]) _ (by lia) hlt (L'.push O (fun b o hb e=>(Heap.get?_update_other _ _ (Ne.symm hb)).trans e) (Heap.size_update ..)) gS2 (rv.append (show cB [V.ref s.heap.objs.size] [Value.ref s.heap.objs.size] from .cons rfl .nil)) ?_;have zp:(xs.zip ys)[i]?=some (xs[i],ys[i]'(by lia)):=by simp [LP,hlt]
  rw[take_snoc zp];exact (Paired.imp' (fun _ _ z=>z.same (aF.new hT)) prs).snoc ⟨_,rfl,aG⟩
theorem CC:typeLookup (.type "zip") "__len__"=pure Option.none:=by rw[typeLookup_type,builtinLookup_eq_fast];kernel_rfl
theorem Br:typeLookup (.type "zip") "__length_hint__"=pure Option.none:=by rw[typeLookup_type,builtinLookup_eq_fast];kernel_rfl
theorem FH {A' : Around} {R : Result → Shared → Prop} (hh : A'.handled = none) (O : a.Ok) (hz : xs.length ≤ sizeLine) (hl : ys.length = xs.length) (q1 : bJ X.K H1 l1 xs) (q2 : bJ X.K H1 l2 ys) (L : JL X pins σ H1 a l1 l2 0 H s) (gS : s.heap.get? a.S = some (lobj [] 0)) (z0 : IsZip s.heap a.z a.TI a.TO .none)
    (fin : ∀ s' H' ts acc c, Inv X pins σ H' s' → aF H1 H' → kg X pins H' a.S → s'.heap.get? a.S = some (lobj acc c) → cB ts acc → Paired (Kh H') (xs.zip ys) ts → R (.ok (.ret .none)) s') :
    wpAny (model X.prog X.w) A'.in1 (Builtin.«list.__init__» ⟨[.ref a.S, .ref a.z], []⟩) (fun fl s' => match fl with | .done f => R (.ok f) s' | .again c' => c'.quiet = true /\ codeAny (model X.prog X.w) A' c' R s') (fun e s' => R (.error e) s') s := by
  change wpAny _ A'.in1 (do let old <- Builtin.List.listItems (Value.ref a.S); Builtin.List.listUpdate (Value.ref a.S) (fun _ => #[]); letGo old.toList.reverse; Builtin.List.listExtendWith (Value.ref a.S) (Value.ref a.z) Value.none) _ _ s
  refine wpAny_bind ?_;unfold Builtin.List.listItems;refine wpAny_bind (wpAny_seqItems gS rfl (wpAny_pure ?_))
  change wpAny _ A'.in1 (updateSeq a.S (fun _ => #[]) >>= fun _ => letGo (#[] : Array Value).toList.reverse >>= fun _ => Builtin.List.listExtendWith (Value.ref a.S) (Value.ref a.z) Value.none) _ _ s
  refine wpAny_bind (wpAny_updateSeq gS rfl ?_);have g1 := kT gS (fun _ => (#[] : Array Value));obtain ⟨n1, g1⟩ : ∃ n1, (s.heap.update a.S (Obj.mapSeq fun _ => (#[] : Array Value))).get? a.S = some (lobj [] n1) := ⟨_, g1⟩;have L1 := L.push (h' := s.heap.update a.S (Obj.mapSeq fun _ => (#[] : Array Value))) O (fun b o hb e => (Heap.get?_update_other _ _ (Ne.symm hb)).trans e) (Heap.size_update ..);have z1 : IsZip (s.heap.update a.S (Obj.mapSeq fun _ => (#[] : Array Value))) a.z a.TI a.TO .none := (Heap.get?_update_other _ _ O.Sz).trans z0;refine wpAny_bind (wpAny_letGo ?_);unfold Builtin.List.listExtendWith;have ty : Shared.TypeIs { s with heap := s.heap.update a.S (Obj.mapSeq fun _ => (#[] : Array Value)) } (.ref a.z) "zip" := ⟨_, z1, rfl⟩;refine wpAny_bind (wpAny_typeOf ty ?_);have h1 : Builtin.List.listSameRef (.ref a.S) (.ref a.z) = false := by simp [Builtin.List.listSameRef, O.Sz]
  have h2 : (Value.type "zip" == Value.type "list") = false := by decide
  have h3 : (Value.type "zip" == Value.type "tuple") = false := by decide
  simp only [h1, h2, h3, Bool.or_false, fu, if_false];refine wpAny_bind (wpAny_pyIter_zip z1 (wpAny_bind (wpAny_holding ?_)));unfold Builtin.List.listLengthHint;refine wpAny_bind (wpAny_specialOf ty CC ?_)
  change wpAny _ A'.in1 (specialOf (Value.ref a.z) (Str.ofString "__length_hint__") >>= _) _ _ _
  refine wpAny_bind (wpAny_specialOf ty Br (wpAny_pure ?_))
  change wpAny _ A'.in1 (rule "list.extend.makes-room" >>= fun _ => Builtin.List.listTouch (Value.ref a.S) >>= fun _ => again (.builtin "list.extend.loop" ⟨[Value.ref a.S, Value.ref a.z, Value.none], []⟩)) _ _ _
  refine wpAny_bind (wpAny_rule (wpAny_bind ?_))
  change wpAny _ A'.in1 (updateSeq a.S (·.push Value.none) >>= fun _ => updateSeq a.S (·.pop)) _ _ _
  refine wpAny_bind (wpAny_updateSeq g1 rfl ?_);have g2 := kT g1 (fun b => b.push Value.none);obtain ⟨n2, g2⟩ : ∃ n2, ((s.heap.update a.S (Obj.mapSeq fun _ => (#[] : Array Value))).update a.S (Obj.mapSeq fun b => b.push Value.none)).get? a.S = some (lobj [Value.none] n2) := ⟨_, g2⟩;have L2 := L1.push (h' := (s.heap.update a.S (Obj.mapSeq fun _ => (#[] : Array Value))).update a.S (Obj.mapSeq fun b => b.push Value.none)) O (fun b o hb e => (Heap.get?_update_other _ _ (Ne.symm hb)).trans e) (Heap.size_update ..);refine wpAny_updateSeq g2 rfl ?_ (jB rfl);have g3 := kT g2 (fun b => b.pop);have L3 := L2.push (h' := ((s.heap.update a.S (Obj.mapSeq fun _ => (#[] : Array Value))).update a.S (Obj.mapSeq fun b => b.push Value.none)).update a.S (Obj.mapSeq fun b => b.pop)) O (fun b o hb e => (Heap.get?_update_other _ _ (Ne.symm hb)).trans e) (Heap.size_update ..);exact wpAny_pure ⟨plainId_quiet lC _, FI hh O hz hl q1 q2 fin _ 0 _ H [] [] _ rfl (aT _) L3 g3 .nil .nil⟩
end
section
variable {X:Cx}
theorem Ko (n:Nat):Bg.Ok ⟨n+4,n+2,n+3,n,n+1,n+5,n+5+1⟩:=by
 have ne:∀p q:Nat,p≠q->@Ne Addr p q:=fun _ _ h=>h
 refine ⟨ne (n+2) (n+3) (by lia),ne n (n+1) (by lia),ne (n+5) (n+4) (by lia),ne (n+5) (n+2) (by lia),ne (n+5) (n+3) (by lia),ne (n+5) n (by lia),ne (n+5) (n+1) (by lia),fun b hb=>?_⟩;have hb':b∈[n+4,n+2,n+3,n,n+1,n+5]:=hb;show @LT.lt Nat instLTNat b (n+5+1)
 simp only[aB,aL,or_false] at hb';rcases hb' with e | e | e | e | e | e <;> (rw[e];exact bw (iw _) (by lia))
def Bu (K:PySem.W.Frag) (ta:TA):TE:=fun σ H Q=>ta σ H fun vs H1=>∃(l1 l2:Addr) (xs ys:List V),vs=[.ref l1,.ref l2]/\bJ K H1 l1 xs/\bJ K H1 l2 ys/\ys.length=xs.length /\
 ∀L ts H',aF H1 H'->H1 L=none->H' L=some (.lst ts)->Paired (Kh H') (xs.zip ys) ts->Q (.ref L) H'
theorem Dc {e1 e2:Expr} {ta:TA} {p p2 pos pos2:Pos} (hg:Gl X "list") (hm:X.mg "list"=none) (hg2:Gl X "zip") (hm2:X.mg "zip"=none) (ha:PA X [e1,e2] ta) (hc:X.calm=true:=by rfl)
  (hs:starEach [e1,e2] X.env=[(false,eval e1 X.env),(false,eval e2 X.env)]:=by rfl) (hs2:starEach [e2] X.env=[(false,eval e2 X.env)]:=by rfl)
  (hs3:starEach [Expr.Call (.Name "zip" p2) [e1,e2] [] pos2] X.env=[(false,eval (.Call (.Name "zip" p2) [e1,e2] [] pos2) X.env)]:=by rfl) :
  PE X (.Call (.Name "list" p) [.Call (.Name "zip" p2) [e1,e2] [] pos2] [] pos) (Bu X.K ta):=by
 intro pins s σ H Q I h;refine wpAny_Call_Name_kw (nB I hg hm boot_list ?_);refine PyProof.Rows.callWith_type1 ?_ (by rw[hs3];rfl) rfl;rw[hs3];show wpAny _ _ (spliced ((false,eval (.Call (.Name "zip" p2) [e1,e2] [] pos2) X.env) :: [])) _ _ s
 refine Calls.spliced_cons ?_;refine Call_ (nB I hg2 hm2 boot_zip (PyProof.Rows.callWith_type1 (fY (ha pos2 pins s σ H _ I h) fun us s1 ⟨vs,H1,I1,r1,q1⟩=>?_) (by rw[hs,hs2]) (by rw[hs2];rfl)));obtain ⟨l1,l2,xs,ys,e,qx,qy,hl,q⟩:=q1;subst e;obtain ⟨u,v,rfl,ru,rv⟩:=vals2 r1;cases ru;cases rv;obtain ⟨us,rx,px,hz⟩:=I1.list qx;obtain ⟨ws,ry,py,_⟩:=I1.list qy;refine call_zip_2 px.isList py.isList fun h' a1 a2 a3 a4 a5 a6 hk=>?_
 refine Calls.spliced_nil ?_;have I2:Inv X pins σ H1 { s1 with heap:=h' }:=I1.kept (t':=s1.toks) hk;have up:∀b o,h'.get? b=some o->(h'.push { cls:=.type "list",data:=.seq #[] }).get? b=some o:=fun b o e=>Heap.get?_push_of_some _ e
 have O:Bg.Ok ⟨s1.heap.objs.size+4,s1.heap.objs.size+2,s1.heap.objs.size+3,s1.heap.objs.size,s1.heap.objs.size+1,h'.objs.size,h'.objs.size+1⟩:=by
  rw[a6];exact Ko s1.heap.objs.size
 have old:∀b∈(Bg.mk (s1.heap.objs.size+4) (s1.heap.objs.size+2) (s1.heap.objs.size+3) s1.heap.objs.size (s1.heap.objs.size+1) h'.objs.size (h'.objs.size+1)).all,s1.heap.objs.size<=b:=fun b hb=>by
  rw[a6] at hb;simp only[Bg.all,aB,aL,or_false] at hb;rcases hb with rfl | rfl | rfl | rfl | rfl | rfl <;> first | exact Nat.le_add_right _ _ | exact ar _
 have gS:(h'.push { cls:=.type "list",data:=.seq #[] }).get? h'.objs.size=some (lobj [] 0):=Heap.get?_push_size _ rfl;refine callType_codes (Q₁:=fun ob t=>ob=.ref h'.objs.size/\t={ s1 with heap:=h'.push { cls:=.type "list",data:=.seq #[] } }) PySem.F.called_list (PySem.F.typeCall_list_1 _) PySem.F.entry_list_init (code_list_new _ ⟨rfl,rfl⟩) fun ob t ht=>?_
 obtain ⟨rfl,rfl⟩:=ht;refine ⟨⟨_,gS,rfl⟩,PySem.F.args_list_init_2 _ _,?_⟩
 have L:JL X pins σ H1 ⟨s1.heap.objs.size+4,s1.heap.objs.size+2,s1.heap.objs.size+3,s1.heap.objs.size,s1.heap.objs.size+1,h'.objs.size,h'.objs.size+1⟩ l1 l2 0 H1 { s1 with heap:=h'.push { cls:=.type "list",data:=.seq #[] } } :=
  ⟨I2.kept (t':=s1.toks) up,aF.refl _,fun b hb=>I1.fpOk (old b hb) (I1.hok.fresh (old b hb)),by rw[Heap.size_push];exact ar _,⟨⟨_,_,up _ _ a3⟩,.inl (up _ _ a1)⟩,up _ _ a2,a4.at fun o e=>up _ o e,a5.at fun o e=>up _ o e⟩
 refine FH (A':=X.A.in1) (I.ok.hd hc) O hz hl qx qy L gS (up _ _ a1) fun s' H' ts acc c I' sm fS gS' vs' prs=>⟨rfl,?_⟩
 have nS:H1 h'.objs.size=none:=I1.hok.fresh (old _ (by simp [Bg.all]));have lt:=prs.length;rw[yY] at lt;exact ⟨.ref h'.objs.size,_,I'.track (o:=.lst ts) fS ⟨by lia,acc,c,vs',gS'⟩,rfl,q _ ts _ (sm.trans (aF.new fS.1)) nS aG (Paired.imp' (fun _ _ z=>z.same (aF.new fS.1)) prs)⟩
end
end L2
namespace Nm
def v9:List Int->Int->Int
 | [],m=>m
 | b :: r,m=>v9 r (m*(b / g m b))
theorem va {m b:Int} (hm:0 < m) (hb:0 < b):0 < m*(b / g m b):=iO hm (A0 (t:=m) hb)
theorem AU {m b : Int} : b ∣ m * (b / g m b) := by
  have h1 := yC m b;refine ⟨lo m b, ?_⟩;have h2 : b / g m b * g m b = b := wb m b
  calc m * (b / g m b) = lo m b * g m b * (b / g m b) := by rw [h1]
    _ = lo m b * (b / g m b * g m b) := by rw [di, e8 (g m b)]
    _ = b * lo m b := by rw [h2, e8]
theorem yE:∀{bs:List Int} {m:Int},0 < m->(∀b∈bs,0 < b)->0 < v9 bs m
 | [],_,hm,_=>hm
 | b :: r,m,hm,h=>yE (bs:=r) (va hm (h b cT)) fun c hc=>h c (bN _ hc)
theorem Cc:∀{bs:List Int} {m:Int},m∣v9 bs m
 | [],_=>EA _
 | b :: r,m=>Int.dvd_trans (Int.dvd_mul_right m _) (Cc (bs:=r))
theorem Cb:∀{bs:List Int} {m b:Int},b∈bs->b∣v9 bs m
 | c :: r,m,b,h=>by
  rcases aB.mp h with rfl | h
  ·exact Int.dvd_trans AU (Cc (bs:=r))
  ·exact Cb (bs:=r) h
end Nm
namespace L2
open PySem PySem.Spec PyProof.Rows Nm
def Bh (K:PySem.W.Frag) (H:Hp) (p:Addr) (ns:List (Int×Int)):Prop:=∃xs,H p=some (.lst xs)/\Paired (fun n x=>Cs K H x n) ns xs
theorem Bh.same {K:PySem.W.Frag} {H H':Hp} {p:Addr} {ns:List (Int×Int)} (h:Bh K H p ns) (e:aF H H'):Bh K H' p ns:=by obtain ⟨xs,g,q⟩:=h;exact ⟨xs,e _ _ g,Paired.imp' (fun _ _ z=>e.num z) q⟩
def BN (K:PySem.W.Frag) (T:String):V->Hp->VK->Prop:=fun x H Q=>C7 K T x H Q\/∃a xs b,x=.ref a/\qX K H a xs/\PySem.W.kitOne K (.type "tuple") (.type T)=some b/\Q (.bl b) H
theorem zQ:∀{bs:List Int} {m b:Int},v9 (bs++[b]) m=v9 bs m*(b / g (v9 bs m) b)
 | [],_,_=>rfl
 | c :: r,m,b=>zQ (bs:=r)
def eU (ns:List (Int×Int)) (B:Int):List Int:=ns.map fun n=>n.1*(B / n.2)
def gH (ns:List (Int×Int)):Int:=v9 (ns.map (·.2)) 1
def HP (ns ms:List (Int×Int)):Int:=(List.zipWith (·*·) (eU ns (gH ns)) (eU ms (gH ms))).sum
theorem pe {ns:List (Int×Int)} {n:Int×Int} (h:n∈ns):n.2∣gH ns:=Cb (aA.mpr ⟨n,h,rfl⟩)
theorem C5 {σ:St} {H:Hp} {Q:VK} {K:PySem.W.Frag} {ta:TA} (h:ta σ H fun vs H1=>∃(l1 l2:Addr) (xs ys:List V),vs=[.ref l1,.ref l2]/\bJ K H1 l1 xs/\bJ K H1 l2 ys/\ys.length=xs.length /\
 ∀L ts H',aF H1 H'->H1 L=none->H' L=some (.lst ts)->Paired (Kh H') (xs.zip ys) ts->Q (.ref L) H'):Bu K ta σ H Q:=h
theorem Nu {m b:Int} (hb:0 < b) {k:Nat} (h:Sz k b):Sz k (g m b):=h.le (by
 have h1:(g m b).natAbs=Int.gcd m b:=by unfold g;simp
 rw[h1];exact jz (by lia) (by have:=eN (a:=m) (b:=b);exact dX.mpr this |> fun z=>by simpa using z))
theorem Im {ts us:List Int} {i:Nat} {pq:V×V} (h:((ts.map V.int).zip (us.map V.int))[i]?=some pq):∃t u,ts[i]?=some t/\us[i]?=some u/\pq=(.int t,.int u):=by
 rw[LP,aJ,aJ] at h;obtain ⟨h1,h2⟩:=h;cases e1:ts[i]? with
 | none=>rw[e1] at h1;cases h1
 | some t =>
  cases e2:us[i]? with
  | none=>rw[e2] at h2;cases h2
  | some u =>
   rw[e1] at h1;rw[e2] at h2;refine ⟨t,u,rfl,rfl,?_⟩;cases pq;simp at h1 h2;rw[h1,h2]
def ET (K:PySem.W.Frag):Sp:=fun vs H Q _=>∃x n,vs=[x]/\Cs K H x n/\w5 n/\∀H',aF H H'->Q (.bl true) H'
def zE (K:PySem.W.Frag):Sp:=fun vs H Q _=>∃(p:Addr) (ns:List (Int×Int)),vs=[.ref p,.int ns.length]/\Bh K H p ns/\ns.length<=1000/\(∀n∈ns,w5 n)/\∀H',aF H H'->Q (.bl true) H'
theorem xy {X:Cx} {a:Expr} {ta:TE} {pos:Pos} {c:Str} {T:String} {p p2:Pos} (hg:Gl X "isinstance") (hm:X.mg "isinstance"=none) (hb:bootBuiltins c=some (.type T)) (hmc:X.mg c=none) (ha:PE X a ta) (hgc:Gl X c:=by rfl) (hn:c≠"__name__":=by decide)
  (hd:(c == ("__debug__":Str))=false:=by decide) (he:starEach [a,.Name c p2] X.env=[(false,eval a X.env),(false,eval (.Name c p2) X.env)]:=by rfl)
  (hpl:(backTo pos (starEach [.Name c p2] X.env)).any (·.1)=false:=by rfl) (he2:starEach [.Name c p2] X.env=[(false,eval (.Name c p2) X.env)]:=by rfl):PE X (.Call (.Name "isinstance" p) [a,.Name c p2] [] pos) (M7 (BN X.K T) ta):=by
 intro pins s σ H Q I h;refine wpAny_Call_Name_kw (nB I hg hm PyProof.Rows.boot_isinstance ?_);have hA:PA X [a,.Name c p2] (rA ta (rA (tC (.ty T)) Bt)):=ae ha (ae (DW hgc hmc hb rfl hn hd) ai he2) (by rw[he,he2])
 have hq:rA ta (rA (tC (.ty T)) Bt) σ H (fun vs H1=>∃x,vs=[x,.ty T]/\BN X.K T x H1 Q):=by
  show ta σ H fun x H1=>∃x',[x,V.ty T]=[x',V.ty T]/\BN X.K T x' H1 Q
  have e:(fun x H1=>∃x',[x,V.ty T]=[x',V.ty T]/\BN X.K T x' H1 Q)=fun x H1=>BN X.K T x H1 Q:=by
   funext x H1;apply propext;constructor
   ·rintro ⟨x',e,q⟩;cases e;exact q
   ·intro q;exact ⟨x,rfl,q⟩
  rw[e];exact h
 refine PyProof.Rows.callWith_builtin1 (fY (hA pos pins s σ H _ I hq) fun us s1 ⟨vs,H1,I1,r1,x,e,q1⟩=>?_) (by rw[he,he2]) hpl;subst e;obtain ⟨u,w',rfl,ru,rt⟩:=vals2 r1;cases rt;rcases q1 with ⟨t,bb,ty,ek,q⟩ | ⟨ad,xs,bb,rfl,hs,ek,q⟩
 ·exact zS I1 ru ty ek fun tk=>⟨.bl bb,H1,I1.tok tk,rfl,q⟩
 ·cases ru;obtain ⟨its,_,⟨o,g1,g2,_⟩,_⟩:=I1.tuple hs;exact cX PySem.W.kitx_tuple I1.kIn ⟨o,g1,g2⟩ ek (fun z=>nomatch z) fun tk=>⟨.bl bb,H1,I1.tok tk,rfl,q⟩
theorem LD {xs:List V} {k:Nat} (h:k<=xs.length):vo xs none (some (k:Int))=xs.take k:=by
 unfold vo;rw[HT.BI,HT.DQ,Nat.min_eq_left h];simp
theorem fD {n a:Nat} (h:a < n):Fy n (a:Int)=some a:=by
 unfold Fy;rw[if_pos (by lia),if_pos (by lia),Int.toNat_natCast]
theorem HU {xs:List V} {k:Nat}:vo xs none (some (k:Int))=xs.take k:=by
 by_cases h:k<=xs.length
 ·exact LD h
 ·unfold vo;rw[HT.BI,HT.DQ,Nat.min_eq_right (by lia),aN (by simp),aN (by lia)];rfl
theorem wD {α β:Type} {F:α->β->Prop}:∀{l1:List α} {l2:List β} (_:Paired F l1 l2) (k:Nat),Paired F (l1.take k) (l2.take k)
 | _,_,.nil,k=>by simp;exact .nil
 | _,_,.cons h r,0=>.nil
 | _,_,.cons h r,k+1=>.cons h (wD r k)
def Jg (K:PySem.W.Frag):List V->Hp->VK->Prop:=fun xs H Q=>∃p ys,xs=[.ref p]/\(bJ K H p ys\/qX K H p ys)/\∀l,H l=none->Q (.ref l) (upd H l (.lst ys))
theorem kF {X:Cx} (K:PySem.W.Frag) (hK:X.K=K):sI X (.type "list") (Jg K):=by subst hK;exact vp
theorem aF.none {H H':Hp} {l:Addr} (s:aF H H') (h:H' l=Option.none):H l=Option.none:=by
 cases e:H l with
 | none=>rfl
 | some o=>have:=s _ _ e;rw[h] at this;cases this
def Kk (K:PySem.W.Frag) (H:Hp) (p:Addr) (rows:List (List (Int×Int))):Prop:=∃xs,H p=some (.lst xs)/\Paired (fun ns x=>∃q,x=V.ref q/\Bh K H q ns) rows xs
theorem FO {b:Int} (h:b.natAbs<=1000000):Sz 20 b:=aW h (by decide)
theorem cL.none {H H':Hp} {b l:Addr} (u:cL b H H') (B:iX H' b) (h:H' l=Option.none):H l=Option.none:=by
 cases e:H l with
 | none=>rfl
 | some o =>
  by_cases z:l=b
  ·obtain ⟨_,_,_,_,_,e2,_⟩:=B;rw[<- z,h] at e2;cases e2
  ·have:=u.1 l o e z;rw[h] at this;cases this
def CS (K:PySem.W.Frag):Sp:=fun vs H Q _=>∃(p:Addr) (rows:List (List (Int×Int))) (m:Nat),vs=[.ref p,.int rows.length,.int m]/\Kk K H p rows/\rows.length<=1000/\m<=1000/\(∀ns∈rows,ns.length=m/\∀n∈ns,w5 n)/\∀H',aF H H'->Q (.bl true) H'
end L2
namespace Nm
def nm (q:Rat):Int×Int:=(q.num,(q.den:Int))
theorem gM (q:Rat):0 < (nm q).2:=by have:=q.den_pos;show 0 < (q.den:Int);lia
theorem AR (q:Rat):Int.gcd (nm q).1 (nm q).2=1:=q.reduced
theorem Li {p q:Rat} (h:nm p=nm q):p=q:=by
 have h1:p.num=q.num:=congrArg Prod.fst h;have h2:(p.den:Int)=q.den:=congrArg Prod.snd h;exact Rat.ext h1 (by lia)
theorem lM (q : Rat) : (q.num : Rat) = q * (q.den : Rat) := by
  have h := Rat.num_divInt_den q;rw [Rat.divInt_eq_div] at h
  have hd : ((q.den : Int) : Rat) ≠ 0 := by
    intro z;have z := xg.mp z;have := q.den_pos
    lia
  have e : ((q.den : Int) : Rat) = (q.den : Rat) := aU _
  calc (q.num : Rat) = (q.num : Rat) / ((q.den : Int) : Rat) * ((q.den : Int) : Rat) := (Rat.div_mul_cancel hd).symm
    _ = q * (q.den : Rat) := by rw [h, e]
theorem MD {a b:Int} {q:Rat} (hb:0 < b) (hg:Int.gcd a b=1) (e:q*(b:Rat)=(a:Rat)):(a,b)=nm q:=by
 have h1:a*(q.den:Int)=q.num*b:=by
  apply dk.mp;rw[aM,aM,<- e,lM,aU];grind
 obtain ⟨e1,e2⟩:=uniq hb (gM q) hg (AR q) h1;exact Prod.ext e1 e2
theorem pV {t b:Int} {q:Rat} (hb:0 < b) (e:q*(b:Rat)=(t:Rat)):(lo t b,hi t b)=nm q:=by
 refine MD (A0 hb) (yA (by lia)) ?_;have h:=yB t b;have hb':(b:Rat)≠0:=fun z=>by have:=xg.mp z;lia
 have h2:((lo t b:Int):Rat)*(b:Rat)=(t:Rat)*((hi t b:Int):Rat):=by rw[<- aM,h,aM]
 rw[<- e] at h2;have h3:(q*((hi t b:Int):Rat) - ((lo t b:Int):Rat))*(b:Rat)=0:=by grind
 rcases Ih.mp h3 with h4 | h4
 ·grind
 ·exact absurd h4 hb'
def Fr (M V:Nat) (q:Rat):Prop:=∃z:Int,q*(M:Rat)=(z:Rat)/\z.natAbs<=V*M
theorem Fr.mono {M V V':Nat} {q:Rat} (h:Fr M V q) (l:V<=V'):Fr M V' q:=by obtain ⟨z,e,b⟩:=h;exact ⟨z,e,ah b (aD _ l)⟩
theorem Fr.scale {M V:Nat} {q:Rat} (h:Fr M V q) (k:Nat):Fr (M*k) V q:=by
 obtain ⟨z,e,b⟩:=h;refine ⟨z*k,?_,?_⟩
 ·rw[yV,aM,<- e,aU,Rat.mul_assoc]
 ·rw[eE,cF,<- cJ];exact aD _ b
theorem Fr.scaleL {M V:Nat} {q:Rat} (h:Fr M V q) (k:Nat):Fr (k*M) V q:=by rw[cx];exact h.scale k
theorem Fr.dvd {M N V:Nat} {q:Rat} (h:Fr M V q) (d:M∣N):Fr N V q:=by obtain ⟨k,rfl⟩:=d;exact h.scale k
theorem Fr.add {M V W:Nat} {p q:Rat} (h:Fr M V p) (h':Fr M W q):Fr M (V+W) (p+q):=by
 obtain ⟨z,e,b⟩:=h;obtain ⟨z',e',b'⟩:=h';refine ⟨z+z',by rw[yX,<- e,<- e',Rat.add_mul],?_⟩;rw[Ib];have:=Int.natAbs_add_le z z'
 lia
theorem Fr.neg {M V:Nat} {q:Rat} (h:Fr M V q):Fr M V (-q):=by
 obtain ⟨z,e,b⟩:=h;exact ⟨-z,by rw[cW,<- e,Rat.neg_mul],by rw[oF];exact b⟩
theorem Fr.mul {M N V W : Nat} {p q : Rat} (h : Fr M V p) (h' : Fr N W q) : Fr (M * N) (V * W) (p * q) := by
  obtain ⟨z, e, b⟩ := h;obtain ⟨z', e', b'⟩ := h';refine ⟨z * z', ?_, ?_⟩
  · rw [yV, aM, <- e, <- e']; grind
  · rw [eE]
    calc z.natAbs * z'.natAbs ≤ (V * M) * (W * N) := aK b b'
      _ = V * W * (M * N) := by rw [cJ, Nat.mul_left_comm M, <- cJ]
theorem Fr.zero {M V:Nat}:Fr M V 0:=⟨0,by simp,by simp⟩
theorem Fr.int {M V:Nat} {i:Int} (h:i.natAbs<=V):Fr M V (i:Rat):=⟨i*M,by rw[aM,aU],by rw[eE,cF];exact aD _ h⟩
theorem Fr.one {M V:Nat} (h:1<=V):Fr M V 1:=Fr.int (i:=1) h
theorem Fr.den {M V:Nat} {q:Rat} (h:Fr M V q):(q.den:Int)∣(M:Int):=by
 obtain ⟨z,e,b⟩:=h
 have h1:q.num*(M:Int)=z*(q.den:Int):=by
  apply dk.mp;rw[aM,aM,<- e,lM,aU,aU];grind
 have h2:(q.den:Int)∣q.num*(M:Int):=⟨z,by rw[h1,e8]⟩;exact pW (by rw[kX];exact AR q) h2
theorem Fr.den_le {M V:Nat} {q:Rat} (h:Fr M V q) (hM:0 < M):q.den<=M:=jz hM (nH.mp h.den)
theorem Fr.num_le {M V:Nat} {q:Rat} (h:Fr M V q) (hM:0 < M):q.num.natAbs<=V*M:=by
 have hd:=h.den;obtain ⟨z,e,b⟩:=h;obtain ⟨k,hk⟩:=nH.mp hd;have hk0:k≠0:=fun z=>by rw[z,Nat.mul_zero] at hk;lia
 have h1:z=q.num*(k:Int):=by
  apply dk.mp;rw[aM,<- e,lM,aU,hk,yV];grind
 rw[h1] at b;exact ah (oJ (by lia)) b
theorem Fr.own (q:Rat) {V:Nat} (h:q.num.natAbs<=V):Fr q.den V q:=⟨q.num,(lM q).symm,ah h (dr _ q.den_pos)⟩
theorem Fr.sz {M V k j:Nat} {q:Rat} (h:Fr M V q) (hM:0 < M) (h1:M<=2^k) (h2:V<=2^j):Sz (j+k+1) (nm q).1/\Sz (k+1) (nm q).2:=by
 constructor
 ·show q.num.natAbs < 2^(j+k+1)
  have h3:=h.num_le hM;have h4:V*M<=2^j*2^k:=aK h2 h1;rw[iY,bM];have:=Nat.two_pow_pos (j+k);rw[bM] at this
  lia
 ·show (q.den:Int).natAbs < 2^(k+1)
  have h3:=h.den_le hM;rw[cF,iY];have:=Nat.two_pow_pos k
  lia
theorem Fr.sum {M V:Nat}:∀{l:List Rat},(∀x∈l,Fr M V x)->Fr M (l.length*V) l.sum
 | [],_=>by simp;exact Fr.zero
 | x :: r,h=>by
  rw[List.sum_cons,aQ,tE,tG];exact (h x (.head _)).add (Fr.sum fun y hy=>h y (.tail _ hy))
def iJ (xs ys:List Rat):Rat:=(List.zipWith (·*·) xs ys).sum
theorem Fr.dot {M N V W : Nat} {xs ys : List Rat} (h : ∀ x ∈ xs, Fr M V x) (h' : ∀ y ∈ ys, Fr N W y) : Fr (M * N) (xs.length * (V * W)) (iJ xs ys) := by
  have q := Fr.sum (M := M * N) (V := V * W) (l := List.zipWith (· * ·) xs ys) fun z hz => by
    obtain ⟨i, hi, e⟩ := cg hz;rw [List.getElem_zipWith] at e;rw [<- e];exact (h _ (bE _)).mul (h' _ (bE _))
  exact q.mono (aD _ (by rw [ir]; lia))
theorem xD : ∀ {bs : List Int} {m M : Int}, 0 < m → m ∣ M → (∀ b ∈ bs, 0 < b /\ b ∣ M) → v9 bs m ∣ M
  | [], _, _, _, h, _ => h
  | b :: r, m, M, hm, h, hb => by
    have b1 := hb b cT;refine xD (bs := r) (va hm b1.1) ?_ fun c hc => hb c (bN _ hc)
    have gp : 0 < g m b := yG (by lia);have e1 := yC m b;have e2 := wb m b;obtain ⟨u, hu⟩ := h;obtain ⟨v, hv⟩ := b1.2
    have h3 : lo m b * u = hi m b * v := by
      apply ui (show g m b ≠ 0 by lia)
      calc lo m b * u * g m b = lo m b * g m b * u := by rw [di, e8 u, <- di]
        _ = m * u := by rw [e1]
        _ = M := hu.symm
        _ = b * v := hv
        _ = hi m b * g m b * v := by rw [e2]
        _ = hi m b * v * g m b := by rw [di, e8 (g m b), <- di]
    have h4 : hi m b ∣ lo m b * u := ⟨v, h3⟩;have h5 : hi m b ∣ u := pW (by rw [kX]; exact yA (by lia)) h4;obtain ⟨w, hw⟩ := h5;refine ⟨w, ?_⟩;show M = m * hi m b * w
    rw [hu, hw, di]
theorem A4 {a b:Int} {k:Nat} (hb:0 < b) (d:a∣b) (h:Sz k b):Sz k a:=h.le (jz (by lia) (dX.mpr d))
end Nm
namespace Nm
def Dr (W:Nat) (x:Rat):Prop:=x.num.natAbs<=W/\x.den<=W
def zJ:List Nat->Nat
 | []=>1
 | a :: r=>a*zJ r
theorem zH:∀{l:List Nat},(∀a∈l,0 < a)->0 < zJ l
 | [],_=>Nat.one_pos
 | a :: r,h=>dq (h a (.head _)) (zH fun b hb=>h b (.tail _ hb))
theorem zI:∀{l:List Nat} {a:Nat},a∈l->a∣zJ l
 | b :: r,a,h=>by
  rcases aB.mp h with rfl | h
  ·exact Nat.dvd_mul_right ..
  ·exact Nat.dvd_trans (zI h) (FE ..)
theorem BP {k:Nat}:∀{l:List Nat},(∀a∈l,a<=2^k)->zJ l<=2^(k*l.length)
 | [],_=>by simp [zJ]
 | a :: r,h=>by
  rw[aQ,Nat.mul_succ,bM,cx (2^(k*r.length))];exact aK (h a (.head _)) (BP fun b hb=>h b (.tail _ hb))
def GF (M V:Nat) (rows:List (List Rat)):Prop:=∀xs∈rows,∀x∈xs,Fr M V x
def cG (rows:List (List Rat)) (w:Nat):List (List Rat):=(List.range w).map fun j=>rows.map fun xs=>xs.getD j 0
theorem fL {rows:List (List Rat)} {w:Nat}:(cG rows w).length=w:=by simp [cG]
theorem EE {rows:List (List Rat)} {w:Nat}:∀ys∈cG rows w,ys.length=rows.length:=fun ys hy=>by
 obtain ⟨j,_,rfl⟩:=aA.mp hy;exact aj ..
end Nm
namespace L2
open PySem PySem.Spec PyProof.Rows Nm
theorem cL.sqt {K:PySem.W.Frag} {H H':Hp} {b a:Addr} {xs:List V} (u:cL b H H') (B:iX H b) (h:qX K H a xs):qX K H' a xs:=by
 rcases h with (h | ⟨o,h⟩) | h
 ·exact .inl (.inl (u.tup B h))
 ·exact .inl (.inr ⟨o,u.other (fun z=>by obtain ⟨_,_,_,_,_,e,_⟩:=B;rw[z,e] at h;cases h) h⟩)
 ·exact .inr h
theorem FQ {K:PySem.W.Frag} {H:Hp} {a l:Addr} {xs ys:List V} {o:HO} (h:qX K H a xs) (hl:H l=some (.lst ys)):qX K (upd H l o) a xs:=by
 rcases h with (h | ⟨o,h⟩) | h
 ·exact .inl (.inl (by rw[be fun z=>by rw[z,hl] at h;cases h];exact h))
 ·exact .inl (.inr ⟨o,by rw[be fun z=>by rw[z,hl] at h;cases h];exact h⟩)
 ·exact .inr h
def cf (K:PySem.W.Frag) (H:Hp) (q:Rat) (x:V):Prop:=Cs K H x (nm q)
section
variable {K:PySem.W.Frag} {H H':Hp} {q:Rat} {x:V} {b l p:Addr} {qs:List Rat}
theorem cf.same (h:cf K H q x) (e:aF H H'):cf K H' q x:=e.num h
theorem cf.upto (h:cf K H q x) (u:cL b H H') (B:iX H b):cf K H' q x:=by obtain ⟨p,e,s⟩:=h;exact ⟨p,e,u.sqt B s⟩
theorem cf.updL {ys:List V} {o:HO} (h:cf K H q x) (hl:H l=some (.lst ys)):cf K (upd H l o) q x:=by obtain ⟨p,e,s⟩:=h;exact ⟨p,e,FQ s hl⟩
theorem cf.mk {r:Addr} {a c:Int} (h:H r=some (.tup [.int a,.int c])) (e:(a,c)=nm q):cf K H q (.ref r):=⟨r,rfl,by rw[<- e];exact qX.of h⟩
def dC (K:PySem.W.Frag) (H:Hp) (p:Addr) (qs:List Rat):Prop:=∃xs,H p=some (.lst xs)/\Paired (cf K H) qs xs
theorem dC.same (h:dC K H p qs) (e:aF H H'):dC K H' p qs:=by obtain ⟨xs,g,r⟩:=h;exact ⟨xs,e _ _ g,Paired.imp' (fun _ _ z=>z.same e) r⟩
theorem dC.upto (h:dC K H p qs) (u:cL b H H') (B:iX H b) (n:p≠b):dC K H' p qs:=by obtain ⟨xs,g,r⟩:=h;exact ⟨xs,u.other n g,Paired.imp' (fun _ _ z=>z.upto u B) r⟩
theorem dC.updL {ys:List V} {o:HO} (h:dC K H p qs) (hl:H l=some (.lst ys)) (n:p≠l):dC K (upd H l o) p qs:=by obtain ⟨xs,g,r⟩:=h;exact ⟨xs,by rw[be n];exact g,Paired.imp' (fun _ _ z=>z.updL hl) r⟩
theorem rK {α β γ:Type} {F:α->β->Prop} {f:γ->α}:∀{l:List γ} {l2:List β},Paired (fun c x=>F (f c) x) l l2->Paired F (l.map f) l2
 | _,_,.nil=>.nil
 | _,_,.cons r t=>.cons r (rK t)
theorem dC.rowK (h:dC K H p qs):Bh K H p (qs.map nm):=by obtain ⟨xs,g,r⟩:=h;exact ⟨xs,g,rK (F:=fun n x=>Cs K H x n) r⟩
def cM (K:PySem.W.Frag) (H0 H:Hp) (qs:List Rat) (x:V):Prop:=∃q,x=V.ref q/\H0 q=none/\dC K H q qs
def bF (K:PySem.W.Frag) (H0 H:Hp) (p:Addr) (rows:List (List Rat)):Prop:=∃xs,H p=some (.lst xs)/\Paired (cM K H0 H) rows xs/\V.ref p∉xs
theorem lJ {H0:Hp} {K:PySem.W.Frag} {p:Addr} {rows:List (List Rat)} {ys:List V} (h:∃H2,H2 p=none/\Paired (cM K H0 H2) rows ys):V.ref p∉ys:=fun hm=>by
 obtain ⟨H2,e,pr⟩:=h;obtain ⟨qs,_,q,z,_,xs,g,_⟩:=df pr hm;cases z;rw[e] at g;cases g
variable {H0:Hp} {rows:List (List Rat)}
theorem cM.same (h:cM K H0 H qs x) (e:aF H H'):cM K H0 H' qs x:=by obtain ⟨q,a,b,c⟩:=h;exact ⟨q,a,b,c.same e⟩
theorem cM.upto (h:cM K H0 H qs x) (u:cL b H H') (B:iX H b) (nb:H0 b≠none):cM K H0 H' qs x:=by obtain ⟨q,a,c,d⟩:=h;exact ⟨q,a,c,d.upto u B fun z=>nb (by rw[<- z];exact c)⟩
theorem cM.weak (h:cM K H0 H qs x) {H1:Hp} (e:aF H1 H0):cM K H1 H qs x:=by obtain ⟨q,a,b,c⟩:=h;exact ⟨q,a,e.none b,c⟩
theorem bF.same (h:bF K H0 H p rows) (e:aF H H'):bF K H0 H' p rows:=by obtain ⟨xs,g,r,n⟩:=h;exact ⟨xs,e _ _ g,Paired.imp' (fun _ _ z=>z.same e) r,n⟩
theorem bF.upto (h:bF K H0 H p rows) (u:cL b H H') (B:iX H b) (n:p≠b) (nb:H0 b≠none):bF K H0 H' p rows:=by obtain ⟨xs,g,r,nn⟩:=h;exact ⟨xs,u.other n g,Paired.imp' (fun _ _ z=>z.upto u B nb) r,nn⟩
theorem bF.weak (h:bF K H0 H p rows) {H1:Hp} (e:aF H1 H0):bF K H1 H p rows:=by obtain ⟨xs,g,r,n⟩:=h;exact ⟨xs,g,Paired.imp' (fun _ _ z=>z.weak e) r,n⟩
theorem bF.gridK (h:bF K H0 H p rows):Kk K H p (rows.map (List.map nm)):=by obtain ⟨xs,g,r,_⟩:=h;exact ⟨xs,g,rK (F:=fun ns x=>∃q,x=V.ref q/\Bh K H q ns) (Paired.imp' (fun _ _ ⟨q,a,_,c⟩=>⟨q,a,c.rowK⟩) r)⟩
end
def Ea:Kind Rat:=ME.via nm (fun _ _ e=>Li e) (fun K H x q=>cf K H q x) id
def Ho:Kind (List Rat):=MF Ea
def AX:Kind (List (List Rat)):=MF Ho
theorem dC.kind {K:PySem.W.Frag} {H:Hp} {p:Addr} {qs:List Rat} (h:dC K H p qs):Ho.R K H (.ref p) qs:=by obtain ⟨xs,g,q⟩:=h;exact ⟨p,xs,rfl,bJ.of g,q⟩
theorem bF.kind {K:PySem.W.Frag} {H0 H:Hp} {p:Addr} {rows:List (List Rat)} (h:bF K H0 H p rows):AX.R K H (.ref p) rows:=by obtain ⟨xs,g,q,_⟩:=h;exact ⟨p,xs,rfl,bJ.of g,Paired.imp' (fun _ _ ⟨q,a,_,c⟩=>by rw[a];exact c.kind) q⟩
def qW (x:Rat):Prop:=Sz 4000 (nm x).1/\Sz 4000 (nm x).2
def Fits (l:List Rat):Prop:=∃M V:Nat,0 < M/\M<=2^900/\V<=2^900/\∀x∈l,Fr M V x
theorem Fits.szn {l:List Rat} (h:Fits l) {x:Rat} (hx:x∈l):qW x:=by
 obtain ⟨M,V,h0,h1,h2,h3⟩:=h;obtain ⟨a,b⟩:=(h3 x hx).sz h0 h1 h2;exact ⟨a.mono (by decide),b.mono (by decide)⟩
theorem Fits.ok {l:List Rat} (h:Fits l) {x:Rat} (hx:x∈l):w5 (nm x):=⟨gM x,AR x,(h.szn hx).1.mono (by decide),(h.szn hx).2.mono (by decide)⟩
theorem Dw {M V:Nat} {x:Rat} (h0:0 < M) (h1:M<=2^1800) (h2:V<=2^1810) (h:Fr M V x):qW x:=by
 obtain ⟨a,b⟩:=h.sz h0 h1 h2;exact ⟨a.mono (by decide),b.mono (by decide)⟩
theorem Kv {x:Rat} (h:qW x):w5 (nm x):=⟨gM x,AR x,h.1.mono (by decide),h.2.mono (by decide)⟩
def rD (K:PySem.W.Frag) (f:Rat->Rat->Rat):Sp:=fun vs H Q _=>∃(u v:V) (x y:Rat),vs=[u,v]/\cf K H x u/\cf K H y v/\qW x/\qW y/\∀r H',aF H H'->cf K H' (f x y) (.ref r)->Q (.ref r) H'
section
variable {K:PySem.W.Frag} {vs:List V} {H:Hp} {Q:VK} {E:XK}
theorem Df {f:Rat->Rat->Rat} {F:Int->Int->Int->Int->Int} (hf:∀x y:Rat,(f x y)*(((nm x).2*(nm y).2:Int):Rat)=((F (nm x).1 (nm x).2 (nm y).1 (nm y).2:Int):Rat)) (h:rD K f vs H Q E):DO K F vs H Q E:=by
 obtain ⟨u,v,x,y,rfl,⟨p,rfl,hp⟩,⟨q,rfl,hq⟩,⟨s1,s2⟩,⟨s3,s4⟩,k⟩:=h;refine ⟨p,q,_,_,_,_,rfl,hp,hq,gM x,gM y,s1,s2,s3,s4,fun r H' s g=>k r H' s (cf.mk g ?_)⟩;exact pV (iO (gM x) (gM y)) (hf x y)
theorem pR (x:Rat):(((nm x).1:Int):Rat)=x*(((nm x).2:Int):Rat):=by
 show (x.num:Rat)=x*(((x.den:Nat):Int):Rat)
 rw[lM,aU]
theorem Es (h:rD K (fun x y=>x+y) vs H Q E):DO K Kd vs H Q E:=Df (fun x y=>by
 unfold Kd;rw[yX,aM,aM,aM,pR,pR];grind) h
theorem xu (h:rD K (fun x y=>x - y) vs H Q E):DO K HJ vs H Q E:=Df (fun x y=>by
 unfold HJ;rw[yW,aM,aM,aM,pR,pR];grind) h
theorem D3 (h:rD K (fun x y=>x*y) vs H Q E):DO K HI vs H Q E:=Df (fun x y=>by
 unfold HI;rw[aM,aM,pR,pR];grind) h
end
def DE (M:Int) (ns:List (Int×Int)):Prop:=0 < M/\Sz 4400 M/\∀n∈ns,0 < n.2/\n.2∣M/\Sz 4400 n.1
theorem DE.bot {M:Int} {ns:List (Int×Int)} (h:DE M ns):0 < gH ns/\Sz 4400 (gH ns):=by
 have hb:∀b∈ns.map (·.2),0 < b/\b∣M:=fun b hb=>by
  obtain ⟨n,hn,rfl⟩:=aA.mp hb;exact ⟨(h.2.2 n hn).1,(h.2.2 n hn).2.1⟩
 exact ⟨yE (by decide) fun b q=>(hb b q).1,A4 h.1 (xD (by decide) (Int.one_dvd _) hb) h.2.1⟩
def Kz (K:PySem.W.Frag):Sp:=fun vs H Q _=>∃(p:Addr) (bs:List Int) (M:Int),vs=[.ref p]/\bJ K H p (bs.map V.int)/\0 < M/\Sz 4400 M/\(∀b∈bs,0 < b/\b∣M)/\Q (.int (v9 bs 1)) H
def KA (K:PySem.W.Frag):Sp:=fun vs H Q _=>∃(p:Addr) (ns:List (Int×Int)) (M:Int),vs=[.ref p]/\Bh K H p ns/\ns.length<=1000/\DE M ns/\∀H',aF H H'->Q (.int (gH ns)) H'
def FU (K:PySem.W.Frag):Sp:=fun vs H Q _=>∃(p:Addr) (ns:List (Int×Int)) (M:Int) (B:Int),vs=[.ref p,.int B]/\Bh K H p ns/\ns.length<=1000/\DE M ns/\0 < B/\Sz 4400 B /\
 ∀r H',H r=none->aF H H'->H' r=some (.lst ((eU ns B).map V.int))->Q (.ref r) H'
theorem Bs {M:Int} {ns:List (Int×Int)} {B t:Int} (h:DE M ns) (hB:0 < B) (sB:Sz 4400 B) (ht:t∈eU ns B):Sz 8800 t:=by
 obtain ⟨n,hn,rfl⟩:=aA.mp ht;have hp:=h.2.2 n hn
 have sq:Sz 4400 (B / n.2):=sB.le (by
  rw[LQ (by lia)];exact Nat.div_le_self ..)
 exact (hp.2.2.mul sq).mono (by lia)
theorem rn {x:Rat} {B:Int} (h:(nm x).2∣B):(((nm x).1*(B / (nm x).2):Int):Rat)=x*(B:Rat):=by
 obtain ⟨k,rfl⟩:=h;have hp:=gM x;rw[Int.mul_ediv_cancel_left _ (by lia),aM,aM,pR];grind
theorem Cg {B C : Int} : ∀ {xs ys : List Rat}, (∀ x ∈ xs, (nm x).2 ∣ B) → (∀ y ∈ ys, (nm y).2 ∣ C) → (((List.zipWith (· * ·) (eU (xs.map nm) B) (eU (ys.map nm) C)).sum : Int) : Rat) = iJ xs ys * ((B : Rat) * (C : Rat))
  | [], ys, _, _ => by simp [eU, iJ]
  | x :: xs, [], _, _ => by simp [eU, iJ]
  | x :: xs, y :: ys, h1, h2 => by
    have ih := Cg (B := B) (C := C) (xs := xs) (ys := ys) (fun z hz => h1 z (.tail _ hz)) (fun z hz => h2 z (.tail _ hz));have e1 := rn (h1 x (.head _));have e2 := rn (h2 y (.head _));have e3 : (List.zipWith (· * ·) (eU ((x :: xs).map nm) B) (eU ((y :: ys).map nm) C)).sum = ((nm x).1 * (B / (nm x).2)) * ((nm y).1 * (C / (nm y).2)) + (List.zipWith (· * ·) (eU (xs.map nm) B) (eU (ys.map nm) C)).sum := rfl;have e4 : iJ (x :: xs) (y :: ys) = x * y + iJ xs ys := rfl;rw [e3, e4, yX, aM, ih, e1, e2];grind
theorem JB {xs ys:List Rat} (h1:0 < gH (xs.map nm)) (h2:0 < gH (ys.map nm)):(lo (HP (xs.map nm) (ys.map nm)) (gH (xs.map nm)*gH (ys.map nm)),hi (HP (xs.map nm) (ys.map nm)) (gH (xs.map nm)*gH (ys.map nm)))=nm (iJ xs ys):=by
 refine pV (iO h1 h2) ?_;unfold HP;rw[Cg (fun x hx=>pe (aA.mpr ⟨x,hx,rfl⟩)) (fun x hx=>pe (aA.mpr ⟨x,hx,rfl⟩)),aM]
def FT (K:PySem.W.Frag):Sp:=fun vs H Q _=>∃(p:Addr) (w:Nat) (H0:Hp) (rows:List (List Rat)),vs=[.ref p,.int w]/\bF K H0 H p rows/\rows.length<=1000/\w<=1000/\(∀xs∈rows,xs.length=w) /\
 ∀r H',H r=none->aF H H'->bF K H H' r (cG rows w)->Q (.ref r) H'
def xQ (m:Nat) (a:Int):List Rat:=(List.range m).map fun (i:Nat)=>if ((i:Nat):Int)=a then 1 else 0
def FR (K:PySem.W.Frag):Sp:=fun vs H Q _=>∃(m:Nat) (a:Int),vs=[.int m,.int a]/\m<=1000/\∀r H',H r=none->aF H H'->dC K H' r (xQ m a)->Q (.ref r) H'
def CP (K:PySem.W.Frag):Sp:=fun vs H Q _=>∃(b:Addr) (w:Nat),vs=[.ref b,.int w]/\iX H b/\1<=w/\w<=1000000/\∀r x H',Dr (max w 6) x->cf K H' x (.ref r)->iX H' b->cL b H H'->Q (.ref r) H'
def Gf (K:PySem.W.Frag):Sp:=fun vs H Q _=>∃(b:Addr) (m w:Nat),vs=[.ref b,.int m,.int w]/\iX H b/\m<=1000/\1<=w/\w<=1000000 /\
 ∀r xs H',H r=none->dC K H' r xs->xs.length=m->(∀x∈xs,Dr (max w 6) x)->iX H' b->cL b H H'->Q (.ref r) H'
def FV (K:PySem.W.Frag):Sp:=fun vs H Q _=>∃(p q:Addr) (xs ys:List Rat),vs=[.ref p,.ref q]/\dC K H p xs/\dC K H q ys/\ys.length=xs.length/\xs.length<=1000/\(∀x∈xs,qW x)/\(∀y∈ys,qW y) /\
 ∀r H',H r=none->aF H H'->dC K H' r (List.zipWith (fun x y=>x+y) xs ys)->Q (.ref r) H'
def KC (K:PySem.W.Frag):Sp:=fun vs H Q _=>∃(u:V) (q:Addr) (c:Rat) (ys:List Rat),vs=[u,.ref q]/\cf K H c u/\qW c/\dC K H q ys/\ys.length<=1000/\(∀y∈ys,qW y) /\
 ∀r H',H r=none->aF H H'->dC K H' r (ys.map fun y=>c*y)->Q (.ref r) H'
def CU (K:PySem.W.Frag):Sp:=fun vs H Q _=>∃(p:Addr) (H0:Hp) (rows:List (List Rat)),vs=[.ref p]/\bF K H0 H p rows/\rows.length<=1000/\(∀xs∈rows,xs.length<=1000)/\∀r H',H r=none->aF H H'->bF K H H' r rows->Q (.ref r) H'
section
variable {K:PySem.W.Frag} {a:Addr} {xs:List V} {g:TG} {tf:TT} {te:TE} {Q:VK} {σ₀:St} {H:Hp} {α β:Type}
theorem d5 {as:List α} {F:Hp->α->V->Prop} (G:Hp->β->V->Prop) (f:α->β) (hx:H a=some (.lst xs)) (pf:Paired (F H) as xs) (hl:as.length<=1000)
  (hF:∀{H H' c x},F H c x->aF H H'->F H' c x) (hG:∀{H H' c x},G H c x->aF H H'->G H' c x)
  (hs:∀(i:Nat) c x H' NY NN,as[i]?=some c->aF H H'->F H' c x->(∀y H2,aF H' H2->G H2 (f c) y->NY y H2)->rz σ₀ g tf te x H' NY NN)
  (hd:∀ys H' p,H p=none->aF H H'->H' p=some (.lst ys)->Paired (G H') (as.map f) ys->(∃H2,H2 p=none/\Paired (G H2) (as.map f) ys)->Q (.ref p) H'):sH (Kj K a) σ₀ g tf te Q H:=by
 have lx:=pf.length;refine d6 (K:=K) (xs:=xs) (fun i ys H'=>aF H H'/\Paired (G H') ((as.take i).map f) ys) (bC (bT (by lia))) ⟨aF.refl _,.nil⟩ (fun i ys H' _ ⟨s,_⟩=>bJ.of (s _ _ hx)) ?_ ?_
 ·rintro i x ys H' hx' hlen ⟨s,pr⟩;obtain ⟨c,ec,hc⟩:=cQ pf hx';refine hs i c x H' _ _ ec s (hF hc s) fun y H2 s2 gy=>⟨s.trans s2,?_⟩
  rw[take_snoc ec,cH];exact cU (Paired.imp' (fun _ _ z=>hG z s2) pr) (.cons gy .nil)
 ·rintro ys H' hy ⟨s,pr⟩ p hp;rw[aN (by lia)] at pr;exact hd ys _ p (s.none hp) (s.trans (aF.new hp)) aG (Paired.imp' (fun _ _ z=>hG z (aF.new hp)) pr) ⟨H',hp,pr⟩
theorem dm {n:Nat} (G:Hp->β->V->Prop) (f:Nat->β) (hl:n<=1000) (hG:∀{H H' c x},G H c x->aF H H'->G H' c x)
  (hs:∀(i:Nat) H' NY NN,i < n->aF H H'->(∀y H2,aF H' H2->G H2 (f i) y->NY y H2)->rz σ₀ g tf te (.int i) H' NY NN)
  (hd:∀ys H' p,H p=none->aF H H'->H' p=some (.lst ys)->Paired (G H') ((List.range n).map f) ys->(∃H2,H2 p=none/\Paired (G H2) ((List.range n).map f) ys)->Q (.ref p) H'):sH (Cu 0 n) σ₀ g tf te Q H:=by
 refine ke (fun i ys H'=>aF H H'/\Paired (G H') ((List.range i).map f) ys) (bC (bT (by lia))) ⟨aF.refl _,.nil⟩ ?_ ?_
 ·rintro i ys H' hi hlen ⟨s,pr⟩;rw[tI];refine hs i H' _ _ hi s fun y H2 s2 gy=>⟨s.trans s2,?_⟩
  rw[mN,cH];exact cU (Paired.imp' (fun _ _ z=>hG z s2) pr) (.cons gy .nil)
 ·rintro ys H' hy ⟨s,pr⟩ p hp;exact hd ys _ p (s.none hp) (s.trans (aF.new hp)) aG (Paired.imp' (fun _ _ z=>hG z (aF.new hp)) pr) ⟨H',hp,pr⟩
theorem Fq {n:Nat} {b:Addr} (G:Hp->β->V->Prop) (C:β->Prop) (hB:iX H b) (hl:n<=1000) (hG:∀{H' H'' c x},G H' c x->cL b H' H''->iX H' b->G H'' c x)
  (hs:∀(i:Nat) H' NY NN,i < n->cL b H H'->iX H' b->(∀y c H2,cL b H' H2->iX H2 b->C c->G H2 c y->NY y H2)->rz σ₀ g tf te (.int i) H' NY NN)
  (hd:∀ys cs H' p,H p=none->cL b H H'->iX H' b->H' p=some (.lst ys)->cs.length=n->(∀c∈cs,C c)->Paired (G H') cs ys->(∃H2,H2 p=none/\Paired (G H2) cs ys)->Q (.ref p) H'):sH (Cu 0 n) σ₀ g tf te Q H:=by
 refine ke (fun i ys H'=>cL b H H'/\iX H' b/\∃cs,cs.length=i/\(∀c∈cs,C c)/\Paired (G H') cs ys) (bC (bT (by lia))) ⟨(aF.refl _).upto,hB,[],rfl,(fun _ z=>nomatch z),.nil⟩ ?_ ?_
 ·rintro i ys H' hi hlen ⟨u,B,cs,lc,hc,pr⟩;rw[tI];refine hs i H' _ _ hi u B fun y c H2 u2 B2 cc gy=>⟨u.trans u2,B2,cs++[c],by simp [lc],Er hc cc,cU (Paired.imp' (fun _ _ z=>hG z u2 B) pr) (.cons gy .nil)⟩
 ·rintro ys H' hy ⟨u,B,cs,lc,hc,pr⟩ p hp;have s:aF H' (upd H' p (.lst ys)):=aF.new hp;exact hd ys cs _ p (u.none B hp) (u.same s) (B.same s) aG lc hc (Paired.imp' (fun _ _ z=>hG z s.upto B) pr) ⟨H',hp,pr⟩
end
section
variable {X:Cx}
theorem gN {n:Nat} {g:TG} {tb:TS} {D:Ends} {σ:St} {H:Hp} (Pv:Nat->St->Hp->Prop) (h0:Pv 0 σ H)
  (hs:∀(i:Nat) σ H,i < n->Pv i σ H->g (.int i) σ H fun σ2 H2=>tb { D with nx:=Pv (i+1),ct:=Pv (i+1),bk:=D.nx } σ2 H2) (hd:∀σ H,Pv n σ H->D.nx σ H) :
  ∃W:Nat->Nat->St->Hp->Prop,(∃m,W 0 m σ H)/\∀i m σ H,W i m σ H →
   ((Cu 0 n).stop i H/\D.nx σ H)\/((Cu 0 n).go i H/\∃N:St->Hp->Prop,(∀σ' H',N σ' H'->∃m',m' < m/\W (i+1) m' σ' H')/\∀x H',(Cu 0 n).yld i H x H'->g x σ H' fun σ2 H2=>tb { D with nx:=N,ct:=N,bk:=D.nx } σ2 H2) :=
 zU (lo:=0) Pv h0 (fun i σ H hi p=>by rw[tI];exact hs i σ H hi p) hd
theorem ie:sI X (.type "int") (fun xs H Q=>∃b:Bool,xs=[.bl b]/\Q (.int (if b=true then 1 else 0)) H):=by
 intro pins s σ H xs us Q I r h;obtain ⟨b,rfl,q⟩:=h;obtain ⟨u,rfl,ru⟩:=vals1 r;cases ru;exact call_int_bool ⟨.int _,H,I.tok _,⟨_,rfl⟩,q⟩
theorem GB {st:Stmt}:PS X st (fun _ _ _=>False):=fun _ _ _ _ _ _ h=>h.elim
end
theorem GX {t b:Int} {W:Nat} (hb:0 < b) (h1:t.natAbs<=W) (h2:b.natAbs<=W):∃q:Rat,(lo t b,hi t b)=nm q/\Dr W q/\q*(b:Rat)=(t:Rat):=by
 have hb':(b:Rat)≠0:=fun z=>by have:=xg.mp z;lia
 have e:(t:Rat) / (b:Rat)*(b:Rat)=t:=Rat.div_mul_cancel hb';have h:=pV hb e;refine ⟨_,h,⟨?_,?_⟩,e⟩
 ·have:=congrArg Prod.fst h;have z:=lo_le (t:=t) (b:=b) (by lia);show ((nm ((t:Rat) / (b:Rat))).1).natAbs<=W
  rw[<- this];exact ah z h1
 ·have:=congrArg Prod.snd h;have z:=Kb (t:=t) (b:=b) (by lia);have hd:(((t:Rat) / (b:Rat)).den:Int)=hi t b:=this.symm;have hp:=A0 (t:=t) hb
  lia
theorem Ce {K:PySem.W.Frag} {H:Hp} {qs:List Rat} {xs:List V} (h:Paired (cf K H) qs xs) {j:Nat} (hj:j < qs.length):∃v,DB xs (j:Int)=some v/\cf K H (qs.getD j 0) v:=by
 have hl:=h.length;refine ⟨xs[j]'(by lia),dR (by simp),?_⟩;have:=ja h (i:=j) hj (by lia);rwa [aa,ag hj]
theorem zX {xs ys:List Rat} {i:Nat} (h1:i < xs.length) (h2:i < ys.length):iJ (xs.take (i+1)) (ys.take (i+1))=iJ (xs.take i) (ys.take i)+xs.getD i 0*ys.getD i 0:=by
 have e1:xs[i]?=some (xs.getD i 0):=by rw[aa,ag h1];rfl
 have e2:ys[i]?=some (ys.getD i 0):=by rw[aa,ag h2];rfl
 unfold iJ;rw[take_snoc e1,take_snoc e2,List.zipWith_append (by simp;lia),List.sum_append];simp [Ex]
theorem getD_mem {xs:List Rat} {i:Nat} (h:i < xs.length):xs.getD i 0∈xs:=by
 rw[aa,ag h];exact bE h
theorem EB {xs ys:List Rat} (h:ys.length=xs.length):List.zipWith (fun x y=>x+y) xs ys=(List.range xs.length).map fun i=>xs.getD i 0+ys.getD i 0:=by
 apply Ez;intro i;rw[fG,aJ];by_cases hi:i < xs.length
 ·rw[lF hi,ag hi,ag (show i < ys.length by lia)];simp [aa,ag hi,ag (show i < ys.length by lia)]
 ·rw[aR (show (List.range xs.length).length<=i by simp;lia),aR (show xs.length<=i by lia)];rfl
theorem cM.updL {K:PySem.W.Frag} {H0 H:Hp} {qs:List Rat} {x:V} {l:Addr} {ys:List V} {o:HO} (h:cM K H0 H qs x) (hl:H l=some (.lst ys)) (nl:H0 l≠none):cM K H0 (upd H l o) qs x:=by obtain ⟨q,a,b,c⟩:=h;exact ⟨q,a,b,c.updL hl fun z=>nl (by rw[<- z];exact b)⟩
theorem iX.at {H:Hp} {b:Addr} (B:iX H b):H b≠none:=by obtain ⟨_,_,_,_,_,e,_⟩:=B;rw[e];simp
theorem Inner.at {H:Hp} {b q:Addr} (B:iX H b) (i:Inner H b q):H q≠none:=by
 obtain ⟨q',i',xs,e⟩:=B.inner;rw[<- Inner.inj i' i,e];simp
theorem jb {α β:Type} {F:α->β->Prop} {l1:List α} {l2:List β} {i:Nat} (h:Paired F l1 l2) (hi:i < l1.length):∃x y,l1[i]?=some x/\l2[i]?=some y/\x∈l1/\F x y:=by
 have hl:=h.length;exact ⟨l1[i],l2[i]'(by lia),by simp,by simp,bE _,ja h hi (by lia)⟩
theorem El {i j:Int} (h1:-(2^64) < i) (h2:i < 2^64):fq i j:=.inl (.inl ⟨h1,h2⟩)
theorem JD {i j:Int} (h1:-(2^64) < j) (h2:j < 2^64):fq i j:=.inl (.inr ⟨h1,h2⟩)
def LM (K : PySem.W.Frag) (l : Addr) : It :=
  ⟨fun i H => ∃ xs x, bJ K H l xs /\ xs[i]? = some x,
   fun i H v H' => ∃ p x, v = .ref p /\ H p = none /\ H' = upd H p (.tup [.int i, x]) /\ ∀ xs, bJ K H l xs → xs[i]? = some x,
   fun i H => ∃ xs, bJ K H l xs /\ xs.length ≤ i⟩
def tnE (e it l:Addr) (i:Nat) (h:Heap):Prop:=(∃old,IsEnum h e it i old)/\h.IsListIter it l i
theorem ED {P:Program} {w:World} {K:PySem.W.Frag} {elts:List Expr} {kk:Nat} {tpos:Pos} (e it l:Addr) (hei:e≠it):Turn P w K (.Tuple elts kk tpos) (LM K l) [e,it] e (tnE e it l) where
 mem:=by simp
 obj:=fun i h st b hb=>by
  obtain ⟨⟨old,he⟩,⟨o1,g1,c1,d1⟩⟩:=st;simp only[aB,aL,or_false] at hb;rcases hb with rfl | rfl
  ·exact ⟨_,he,fun v q=>nomatch q⟩
  ·exact ⟨o1,g1,fun v q=>by rw[d1] at q;cases q⟩
 keep:=fun i h h' st k=>by
  obtain ⟨⟨old,he⟩,h1⟩:=st;exact ⟨⟨old,k e (by simp) _ he⟩,h1.at fun o q=>k it (by simp) o q⟩
 item:=by
  intro X hP hw hK hc i pins s σ H E I hf st hg;subst hP hw hK;obtain ⟨⟨old,he⟩,h1⟩:=st;obtain ⟨xs,x,qx,ex⟩:=hg;obtain ⟨us,rx,px,_⟩:=I.list qx;obtain ⟨u,eu,ru⟩:=rx.get ex;refine wpAny_pyNext_enum_item he h1 px.isList (x:=u) (by simpa using eu) hei fun h' a1 a2 a3 a4 hk=>?_
  refine ⟨_,rfl,wpAny_letOwnedTupleGo_enum a1 fun h'' he'' hs=>?_⟩;have hT0:H s.heap.objs.size=none:=I.hok.fresh (ar _);have ene:s.heap.objs.size≠e:=Ey (Heap.lt_size he)
  have up:∀b o,b∉[e,it]->s.heap.get? b=some o->h''.get? b=some o:=fun b o hb q=>by
   simp only[aB,aL,or_false,not_or] at hb;exact (hs.2 b hb.1).trans (hk b o hb.1 hb.2 q)
  have tup:h''.get? s.heap.objs.size=some { cls:=.type "tuple",data:=.seq #[.int i s.toks,u] }:=(hs.2 _ ene).trans a3;have I1:Inv X pins σ H { s with heap:=h'',toks:=s.toks+1 }:=I.moved (g':=s.gens) (d':=s.drawn) (t':=s.toks+1) (ch:=[e,it]) hf up I.bare;have fT:kg X pins H s.heap.objs.size:=I.fpOk (ar _) hT0;have I2:=I1.track (o:=.tup [.int i,x]) fT ⟨jB rfl,[.int i s.toks,u],.cons ⟨_,rfl⟩ (.cons ru .nil),⟨_,tup,rfl,_,rfl⟩⟩;refine ⟨.ref s.heap.objs.size,_,I2,rfl,⟨_,x,rfl,hT0,rfl,fun xs' q=>by rw[I.list_inj q qx];exact ex⟩,?_,fun b hb=>?_⟩
  ·exact ⟨⟨_,by simpa using he''⟩,a2.at fun o q=>(hs.2 _ hei.symm).trans q⟩
  ·rw[be]
   ·exact (hf b hb).1
   ·obtain ⟨o1,g1,_⟩:=h1;simp only[aB,aL,or_false] at hb;rcases hb with rfl | rfl
    ·exact ene.symm
    ·exact cw (Heap.lt_size g1)
 done:=by
  intro X hP hw hK hc i pins s σ H E I hf st hg;subst hP hw hK;obtain ⟨⟨old,he⟩,h1⟩:=st;obtain ⟨xs,qx,hend⟩:=hg;obtain ⟨us,rx,px,_⟩:=I.list qx;have lx:=rx.length;refine wpAny_pyNext_enum_end (I.ok.hd hc) he h1 px.isList (by simp;lia) fun h' hk=>⟨rfl,?_⟩
  exact I.moved (g':=s.gens) (d':=s.drawn) (t':=s.toks) (ch:=[e,it]) hf (fun b o hb q=>hk b o (fun z=>hb (by simp [z])) q) I.bare
 self:=fun _ _ _ _ _ st h=>let ⟨⟨_,he⟩,_⟩:=st;wpAny_pyIter_enum he h
section
variable {X:Cx}
def Ka (K:PySem.W.Frag) (ta:TA):TI:=fun σ H R=>ta σ H fun vs H1=>∃l,vs=[.ref l]/\(∃xs,bJ K H1 l xs)/\R (LM K l) H1
theorem DV {a:Expr} {ta:TA} {p pos tpos:Pos} {elts:List Expr} {kk:Nat} (hg:Gl X "enumerate") (hm:X.mg "enumerate"=none) (ha:PA X [a] ta) (hs:starEach [a] X.env=[(false,eval a X.env)]:=by rfl) :
  PI X (.Tuple elts kk tpos) (.Call (.Name "enumerate" p) [a] [] pos) (Ka X.K ta):=by
 intro pins s σ H R I h;refine Call_ (nB I hg hm boot_enumerate (PyProof.Rows.callWith_type1 (fY (ha pos pins s σ H _ I h) fun us s1 ⟨vs,H1,I1,r1,q1⟩=>?_) (by rw[hs];rfl) rfl));obtain ⟨l,e,⟨xs,qx⟩,q⟩:=q1;subst e;obtain ⟨u,rfl,ru⟩:=vals1 r1;cases ru;obtain ⟨us,rx,px,_⟩:=I1.list qx;refine call_enumerate_list px.isList fun h' a1 a2 a3 hk=>wpAny_pyIter_enum a1 ?_
 have I2:Inv X pins σ H1 { s1 with heap:=h' }:=I1.kept (t':=s1.toks) hk;refine ⟨_,[s1.heap.objs.size+1,s1.heap.objs.size],_,_,H1,rfl,I2,ED (s1.heap.objs.size+1) s1.heap.objs.size l (Nat.succ_ne_self _),⟨⟨_,a1⟩,a2⟩,fun b hb=>?_,q⟩
 have hb':s1.heap.objs.size<=b:=by
  simp only[aB,aL,or_false] at hb;rcases hb with rfl | rfl <;> first | exact Ah _ | exact ar _
 exact I1.fpOk hb' (I1.hok.fresh hb')
end
theorem Gx {K:PySem.W.Frag} {ta:TA} {R:It->Hp->Prop} {σ:St} {H:Hp} (h:ta σ H fun vs H1=>∃l,vs=[.ref l]/\(∃xs,bJ K H1 l xs)/\R (LM K l) H1):Ka K ta σ H R:=h
theorem HG {K:PySem.W.Frag} {l:Addr} {xs:List V} {g:TG} {tb:TS} {D:Ends} {σ:St} {H:Hp} (Pv:Nat->St->Hp->Prop) (h0:Pv 0 σ H) (hl:∀i σ H,i<=xs.length->Pv i σ H->bJ K H l xs)
  (hs:∀i x σ H p,xs[i]?=some x->Pv i σ H->H p=none->g (.ref p) σ (upd H p (.tup [.int i,x])) fun σ2 H2=>tb { D with nx:=Pv (i+1),ct:=Pv (i+1),bk:=D.nx } σ2 H2) (hd:∀σ H,Pv xs.length σ H->D.nx σ H) :
  ∃W:Nat->Nat->St->Hp->Prop,(∃m,W 0 m σ H)/\∀i m σ H,W i m σ H →
   ((LM K l).stop i H/\D.nx σ H)\/((LM K l).go i H/\∃N:St->Hp->Prop,(∀σ' H',N σ' H'->∃m',m' < m/\W (i+1) m' σ' H')/\∀x H',(LM K l).yld i H x H'->g x σ H' fun σ2 H2=>tb { D with nx:=N,ct:=N,bk:=D.nx } σ2 H2):=by
 refine ⟨fun i m σ H=>m=xs.length - i/\i<=xs.length/\Pv i σ H,⟨xs.length,by simp,aT _,h0⟩,?_⟩;rintro i m σ H ⟨rfl,hi,p⟩;have q1:=hl i σ H hi p;by_cases hlt:i < xs.length
 ·refine .inr ⟨⟨xs,xs[i],q1,by simp [hlt]⟩,Pv (i+1),fun σ' H' p'=>⟨xs.length - (i+1),by lia,rfl,hlt,p'⟩,fun x H' y=>?_⟩;obtain ⟨r,x',rfl,hr,rfl,e1⟩:=y;exact hs i x' σ _ r (e1 xs q1) p hr
 ·have e:i=xs.length:=by lia
  subst e;exact .inl ⟨⟨xs,q1,ar _⟩,hd σ H p⟩
section
variable {X:Cx}
theorem Jm (K:PySem.W.Frag) {e:Expr} {f:Str} {pos:Pos} {ta:TE} (he:PE X e ta) (hb:attributeBase e f X.env (eval e X.env)=eval e X.env) (hK:X.K=K:=by rfl):PE X (.Attribute e f pos) (Ku K ta f):=by subst hK;exact jI he hb
end
theorem K6 {K:PySem.W.Frag} {ta:TE} {f:Str} {σ:St} {H:Hp} {Q:VK} (h:ta σ H fun x H1=>∃a C dx fs v,x=.ref a/\H1 a=some (.ins C dx fs)/\FC K C/\jT K C f/\fs.lookup f=some v/\Q v H1):Ku K ta f σ H Q:=h
theorem IL {K:PySem.W.Frag} {ta tv:TE} {f:Str} {D:Ends} {σ:St} {H:Hp} (h:tv σ H fun y H1=>ta σ H1 fun x H2=>∃a C dx fs,x=.ref a/\H2 a=some (.ins C dx fs)/\FC K C/\jT K C f/\fs.length < 1000 /\
 D.nx σ (upd H2 a (.ins C dx (b6 f y fs)))):Mi K ta tv f D σ H:=h
theorem IS {C:Addr} {m:Str} {sp:Sp} {E:XK} {ta:TE} {t:TA} {σ:St} {H:Hp} {Q:VK} (h:ta σ H fun x H1=>∃a dx fs,x=.ref a/\H1 a=some (.ins C dx fs)/\fs.lookup m=none /\
 t σ H1 fun vs H2=>sp (x :: vs) H2 Q E):JR C m sp [] E ta t σ H Q:=by
 have e:(fun (x:V) H1=>∃a dx fs,x=.ref a/\H1 a=some (.ins C dx fs)/\fs.lookup m=none/\t σ H1 fun vs H2=>sp (x :: (vs++[])) H2 Q E)=fun x H1=>∃a dx fs,x=.ref a/\H1 a=some (.ins C dx fs)/\fs.lookup m=none/\t σ H1 fun vs H2=>sp (x :: vs) H2 Q E:=by
  funext x H1;simp only[jy]
 show ta σ H (fun (x:V) H1=>∃a dx fs,x=.ref a/\H1 a=some (.ins C dx fs)/\fs.lookup m=none/\t σ H1 fun vs H2=>sp (x :: (vs++[])) H2 Q E)
 rw[e];exact h
theorem IT {C:Addr} {sp:Sp} {E:XK} {t:TA} {σ:St} {H:Hp} {Q:VK} (h:t σ H fun vs H1=>∀x dx,H1 x=none->H1 dx=none->dx≠x →
 sp (.ref x :: vs) (upd (upd H1 dx (.own x)) x (.ins C dx [])) (fun v H2=>v=.non/\Q (.ref x) H2) E):JS C sp [] E t σ H Q:=by
 have e:(fun vs (H1:Hp)=>∀x dx,H1 x=none->H1 dx=none->dx≠x->sp (.ref x :: (vs++[])) (upd (upd H1 dx (.own x)) x (.ins C dx [])) (fun v H2=>v=.non/\Q (.ref x) H2) E)=fun vs H1=>∀x dx,H1 x=none->H1 dx=none->dx≠x->sp (.ref x :: vs) (upd (upd H1 dx (.own x)) x (.ins C dx [])) (fun v H2=>v=.non/\Q (.ref x) H2) E:=by
  funext vs H1;simp only[jy]
 show t σ H (fun vs (H1:Hp)=>∀x dx,H1 x=none->H1 dx=none->dx≠x->sp (.ref x :: (vs++[])) (upd (upd H1 dx (.own x)) x (.ins C dx [])) (fun v H2=>v=.non/\Q (.ref x) H2) E)
 rw[e];exact h
def Bn (x:Addr) (H H':Hp):Prop:=∀b o,H b=some o->b≠x->H' b=some o
theorem Bn.upd {x:Addr} {H:Hp} {o:HO}:Bn x H (L2.upd H x o):=fun b u h n=>by rw[be n];exact h
def uh (H:Hp) (x:Addr):Prop:=∃C dx fs,H x=some (.ins C dx fs)
section
variable {K:PySem.W.Frag} {H H' H0:Hp} {q:Rat} {v:V} {x p:Addr} {qs:List Rat} {rows:List (List Rat)}
theorem cf.exc (h:cf K H q v) (e:Bn x H H') (hx:uh H x):cf K H' q v:=by
 obtain ⟨C,dx,fs,hx⟩:=hx;obtain ⟨r,er,s⟩:=h;refine ⟨r,er,?_⟩;rcases s with (h | ⟨o,h⟩) | h
 ·exact .inl (.inl (e _ _ h fun z=>by rw[z,hx] at h;cases h))
 ·exact .inl (.inr ⟨o,e _ _ h fun z=>by rw[z,hx] at h;cases h⟩)
 ·exact .inr h
theorem dC.exc (h:dC K H p qs) (e:Bn x H H') (hx:uh H x):dC K H' p qs:=by
 obtain ⟨xs,g,r⟩:=h;have hx':=hx;obtain ⟨C,dx,fs,hx⟩:=hx;exact ⟨xs,e _ _ g (fun z=>by rw[z,hx] at g;cases g),Paired.imp' (fun _ _ z=>z.exc e hx') r⟩
theorem cM.exc (h:cM K H0 H qs v) (e:Bn x H H') (hx:uh H x):cM K H0 H' qs v:=by obtain ⟨q,a,b,c⟩:=h;exact ⟨q,a,b,c.exc e hx⟩
theorem bF.exc (h:bF K H0 H p rows) (e:Bn x H H') (hx:uh H x):bF K H0 H' p rows:=by
 obtain ⟨xs,g,r,n⟩:=h;have hx':=hx;obtain ⟨C,dx,fs,hx⟩:=hx;exact ⟨xs,e _ _ g (fun z=>by rw[z,hx] at g;cases g),Paired.imp' (fun _ _ z=>z.exc e hx') r,n⟩
end
def qQ (a b c:Addr) (n i o:Nat):List (Str×V):=b6 "outs" (.int o) (b6 "look" (.ref c) (b6 "ins" (.int i) (b6 "put" (.ref b) (b6 "states" (.int n) (b6 "move" (.ref a) [])))))
section
variable {a b c:Addr} {n i o:Nat}
theorem FP:(qQ a b c n i o).lookup ("look":Str)=some (.ref c):=by
 unfold qQ;rw[bB,if_neg (by decide +kernel),bB,if_pos rfl]
theorem DL:(qQ a b c n i o).lookup ("put":Str)=some (.ref b):=by
 unfold qQ;rw[bB,if_neg (by decide +kernel),bB,if_neg (by decide +kernel),bB,if_neg (by decide +kernel),bB,if_pos rfl]
theorem pJ:(qQ a b c n i o).lookup ("states":Str)=some (.int n):=by
 unfold qQ;rw[bB,if_neg (by decide +kernel),bB,if_neg (by decide +kernel),bB,if_neg (by decide +kernel),bB,if_neg (by decide +kernel),bB,if_pos rfl]
theorem Bw:(qQ a b c n i o).lookup ("move":Str)=some (.ref a):=by
 unfold qQ;rw[bB,if_neg (by decide +kernel),bB,if_neg (by decide +kernel),bB,if_neg (by decide +kernel),bB,if_neg (by decide +kernel),bB,if_neg (by decide +kernel),bB,if_pos rfl]
theorem Kw {m:Str} (h1:¬m="outs") (h2:¬m="look") (h3:¬m="ins") (h4:¬m="put") (h5:¬m="states") (h6:¬m="move"):(qQ a b c n i o).lookup m=none:=by
 unfold qQ;rw[bB,if_neg h1,bB,if_neg h2,bB,if_neg h3,bB,if_neg h4,bB,if_neg h5,bB,if_neg h6];rfl
theorem CI:(qQ a b c n i o).lookup ("turned":Str)=none:=Kw (by decide +kernel) (by decide +kernel) (by decide +kernel) (by decide +kernel) (by decide +kernel) (by decide +kernel)
end
theorem dN {k:Str} {v:V}:∀{l:List (Str×V)},(b6 k v l).length<=l.length+1
 | []=>ar _
 | (x,y) :: r=>by
  unfold b6
  split
  ·simp
  ·have:=dN (k:=k) (v:=v) (l:=r);simp only[aQ]
   lia
structure qC (mv pt lk:List (List Rat)):Prop where
 n8:mv.length<=8
 i4:pt.length<=4
 o4:lk.length<=4
 mw:∀xs∈mv,xs.length=mv.length
 pw:∀xs∈pt,xs.length=mv.length
 lw:∀xs∈lk,xs.length=mv.length
def ug (mv pt lk:List (List Rat)):Prop:=∃M V:Nat,0 < M/\M<=2^800/\V<=2^400/\GF M V mv/\GF M V pt/\GF M V lk
def mJ (K:PySem.W.Frag) (H0 H:Hp) (C p:Addr) (mv pt lk:List (List Rat)):Prop:=∃dx a b c,H p=some (.ins C dx (qQ a b c mv.length pt.length lk.length))/\H0 a=none/\H0 b=none/\H0 c=none/\bF K H0 H a mv/\bF K H0 H b pt/\bF K H0 H c lk
section
variable {K:PySem.W.Frag} {H H' H0 H1:Hp} {C p b:Addr} {mv pt lk:List (List Rat)}
theorem mJ.same (h:mJ K H0 H C p mv pt lk) (e:aF H H'):mJ K H0 H' C p mv pt lk:=by obtain ⟨dx,a,b,c,g,n1,n2,n3,g1,g2,g3⟩:=h;exact ⟨dx,a,b,c,e _ _ g,n1,n2,n3,g1.same e,g2.same e,g3.same e⟩
theorem mJ.upto (h:mJ K H0 H C p mv pt lk) (u:cL b H H') (B:iX H b) (nb:H0 b≠none):mJ K H0 H' C p mv pt lk:=by
 obtain ⟨dx,a,b',c,g,n1,n2,n3,g1,g2,g3⟩:=h;refine ⟨dx,a,b',c,u.other (fun z=>by obtain ⟨_,_,_,_,_,e,_⟩:=B;rw[z,e] at g;cases g) g,n1,n2,n3,g1.upto u B (fun z=>nb (by rw[<- z];exact n1)) nb,g2.upto u B (fun z=>nb (by rw[<- z];exact n2)) nb,g3.upto u B (fun z=>nb (by rw[<- z];exact n3)) nb⟩
theorem mJ.weak (h:mJ K H0 H C p mv pt lk) (e:aF H1 H0):mJ K H1 H C p mv pt lk:=by obtain ⟨dx,a,b,c,g,n1,n2,n3,g1,g2,g3⟩:=h;exact ⟨dx,a,b,c,g,e.none n1,e.none n2,e.none n3,g1.weak e,g2.weak e,g3.weak e⟩
theorem ug.fits (h:ug mv pt lk) {l:List Rat} (hl:∀x∈l,(∃xs∈mv,x∈xs)\/(∃xs∈pt,x∈xs)\/(∃xs∈lk,x∈xs)\/x=0):Fits l:=by
 obtain ⟨M,V,h0,h1,h2,h3,h4,h5⟩:=h;refine ⟨M,V,h0,ah h1 (au (by decide) (by decide)),ah h2 (au (by decide) (by decide)),fun x hx=>?_⟩;rcases hl x hx with ⟨xs,a,b⟩ | ⟨xs,a,b⟩ | ⟨xs,a,b⟩ | rfl
 ·exact h3 xs a x b
 ·exact h4 xs a x b
 ·exact h5 xs a x b
 ·exact Fr.zero
theorem ug.turn (h:ug mv pt lk):ug (cG mv mv.length) lk pt:=by
 obtain ⟨M,V,h0,h1,h2,h3,h4,h5⟩:=h;refine ⟨M,V,h0,h1,h2,fun ys hy y hy'=>?_,h5,h4⟩;obtain ⟨j,_,rfl⟩:=aA.mp hy;obtain ⟨xs,hx,rfl⟩:=aA.mp hy';by_cases hj:j < xs.length
 ·rw[aa,ag hj];exact h3 xs hx _ (bE hj)
 ·rw[aa,aR (by lia)];exact Fr.zero
theorem qC.turn (h:qC mv pt lk):qC (cG mv mv.length) lk pt:=⟨by rw[fL];exact h.n8,h.o4,h.i4,fun xs hx=>by rw[EE xs hx,fL],fun xs hx=>by rw[fL];exact h.lw xs hx,fun xs hx=>by rw[fL];exact h.pw xs hx⟩
end
def EF:Sp:=fun vs H Q _=>∃i:Int,vs=[.int i]/\Q (.bl true) H
def ES (K:PySem.W.Frag):Sp:=fun vs H Q _=>∃x n,vs=[x]/\Cs K H x n/\w5 n/\∀H',aF H H'->Q (.bl true) H'
def Iz:Sp:=fun vs H Q _=>∃(p:Addr) (xs:List V) (a m:Int),vs=[.ref p,.int a,.int m]/\H p=some (.lst xs)/\(xs.length:Int)<=m/\Q .non H
def IF (K:PySem.W.Frag):Sp:=fun vs H Q _=>∃(p:Addr) (H0:Hp) (rows:List (List Rat)) (w:Nat),vs=[.ref p,.int w]/\bF K H0 H p rows/\rows.length<=1000/\w<=1000/\(∀xs∈rows,xs.length=w/\∀x∈xs,w5 (nm x))/\∀r H',H r=none->aF H H'->bF K H H' r rows->Q (.ref r) H'
def LS (rows:List (List Rat)):Prop:=∀xs∈rows,∀x∈xs,w5 (nm x)
def ID (K:PySem.W.Frag) (C:Addr):Sp:=fun vs H Q _=>∃(x dx p q r:Addr) (Hb H0 H1 H2:Hp) (mv pt lk:List (List Rat)),vs=[.ref x,.ref p,.ref q,.ref r]/\Hb x=none/\Hb dx=none/\dx≠x/\H=upd (upd Hb dx (.own x)) x (.ins C dx []) /\
 bF K H0 Hb p mv/\bF K H1 Hb q pt/\bF K H2 Hb r lk/\qC mv pt lk/\LS mv/\LS pt/\LS lk/\∀H',aF Hb H'->mJ K Hb H' C x mv pt lk->Q .non H'
def CL (K:PySem.W.Frag) (C:Addr):Sp:=fun vs H Q _=>∃(x:Addr) (H0:Hp) (mv pt lk:List (List Rat)),vs=[.ref x]/\mJ K H0 H C x mv pt lk/\qC mv pt lk/\ug mv pt lk /\
 ∀r H',H r=none->aF H H'->mJ K H H' C r (cG mv mv.length) lk pt->Q (.ref r) H'
theorem ug.ok {mv pt lk:List (List Rat)} (h:ug mv pt lk):LS mv/\LS pt/\LS lk :=
 ⟨fun xs hx x hx'=>(h.fits (l:=xs) fun y hy=>.inl ⟨xs,hx,hy⟩).ok hx',fun xs hx x hx'=>(h.fits (l:=xs) fun y hy=>.inr (.inl ⟨xs,hx,hy⟩)).ok hx',fun xs hx x hx'=>(h.fits (l:=xs) fun y hy=>.inr (.inr (.inl ⟨xs,hx,hy⟩))).ok hx'⟩
def fF (K:PySem.W.Frag) (A:Addr->Prop) (H:Hp) (n:Nat) (C:Rat->Prop) (x:V):Prop:=∃q qs,x=V.ref q/\A q/\dC K H q qs/\qs.length=n/\∀y∈qs,C y
section
variable {K:PySem.W.Frag} {A A':Addr->Prop} {H H' H0:Hp} {n:Nat} {C C':Rat->Prop} {x v:V} {q b l p:Addr} {xs zs:List V} {y:Rat} {o:HO}
theorem fF.same (h:fF K A H n C x) (e:aF H H'):fF K A H' n C x:=by obtain ⟨q,qs,a,c,r,z⟩:=h;exact ⟨q,qs,a,c,r.same e,z⟩
theorem fF.upto (h:fF K A H n C x) (u:cL b H H') (B:iX H b) (nb:¬A b):fF K A H' n C x:=by obtain ⟨q,qs,a,c,r,z⟩:=h;exact ⟨q,qs,a,c,r.upto u B (fun e=>nb (by rw[<- e];exact c)),z⟩
theorem fF.other (h:fF K A H n C x) (hl:H l=some (.lst zs)) (nl:¬A l):fF K A (upd H l o) n C x:=by obtain ⟨q,qs,a,c,r,z⟩:=h;exact ⟨q,qs,a,c,r.updL hl (fun e=>nl (by rw[<- e];exact c)),z⟩
theorem fF.weak (h:fF K A H n C x) (w:∀q,A q->A' q) (wc:∀y,C y->C' y):fF K A' H n C' x:=by obtain ⟨q,qs,a,c,r,l,z⟩:=h;exact ⟨q,qs,a,w q c,r,l,fun y hy=>wc y (z y hy)⟩
theorem ye {α β:Type} {F:α->β->Prop} {a:α} {b:β} (h:F a b):∀{l1:List α} {l2:List β} (j:Nat),Paired F l1 l2->Paired F (l1.set j a) (l2.set j b)
 | _,_,_,.nil=>.nil
 | _,_,0,.cons _ t=>.cons h t
 | _,_,j+1,.cons r t=>.cons r (ye h j t)
theorem fF.put (h:fF K A H n C x) (hq:H q=some (.lst zs)) (hv:cf K H y v) (hc:C y) (j:Nat):fF K A (upd H q (.lst (zs.set j v))) n C x:=by
 obtain ⟨q1,qs,rfl,a,⟨zs1,g1,pr⟩,l1,c1⟩:=h;by_cases e:q1=q
 ·subst e;rw[hq] at g1;cases g1;refine ⟨q1,qs.set j y,rfl,a,⟨_,aG,ye (hv.updL hq) j (Paired.imp' (fun _ _ z=>z.updL hq) pr)⟩,by rw[eO];exact l1,fun z hz=>?_⟩;rcases cv hz with hz | rfl
  ·exact c1 z hz
  ·exact hc
 ·exact ⟨q1,qs,rfl,a,⟨zs1,by rw[be e];exact g1,Paired.imp' (fun _ _ z=>z.updL hq) pr⟩,l1,c1⟩
theorem fF.at (h:fF K A H n C x):∃q zs qs,x=V.ref q/\A q/\H q=some (.lst zs)/\zs.length=n/\Paired (cf K H) qs zs/\qs.length=n/\∀y∈qs,C y:=by obtain ⟨q,qs,a,c,⟨zs,g,pr⟩,l,z⟩:=h;exact ⟨q,zs,qs,a,c,g,by rw[<- pr.length];exact l,pr,l,z⟩
end
theorem rY {W:Nat} {i:Int} (h:i.natAbs<=W) (hW:1<=W):Dr W (i:Rat):=⟨h,hW⟩
def MX (K:PySem.W.Frag) (A:Addr->Prop) (H:Hp) (n:Nat) (C:Rat->Prop) (p:Addr) (m:Nat):Prop:=∃us,H p=some (.lst us)/\us.length=m/\¬A p/\∀x∈us,fF K A H n C x
structure Ct (A:Addr->Prop) (m p l b q0:Addr):Prop where
 am:¬A m
 ap:¬A p
 al:¬A l
 ab:¬A b
 aq:¬A q0
 mb:m≠b
 pb:p≠b
 lb:l≠b
 mp:m≠p
 ml:m≠l
 mq:m≠q0
theorem Ef {M:Nat} {z:Int} (h:z.natAbs<=2):Fr 1 2 (z:Rat):=Fr.int h
theorem A1 {M W:Nat} {a c:Rat} {z:Int} (hz:z.natAbs<=2) (ha:Fr M W a) (hc:Fr M W c):Fr M (3*W) (a+(z:Rat)*c):=by
 have h:=(Ef (M:=M) hz).mul hc;rw[Ia] at h;exact (ha.add h).mono (by lia)
theorem Aq {z:Int} (h:z.natAbs<=1000):qW (z:Rat):=Dw (M:=1) (V:=1000) (by decide) (bG) (ah (show 1000<=2^10 by decide) (au (by decide) (by decide))) (Fr.int h)
theorem xR {M W:Nat} {c:Rat} {z:Int} (hz:z.natAbs<=2) (hc:Fr M W c) (h0:0 < M) (h1:M<=2^800) (hW:W<=2^140):qW ((z:Rat)*c):=by
 have h:=(Ef (M:=M) hz).mul hc;rw[Ia] at h;refine Dw h0 (ah h1 (au (by decide) (by decide))) (ah (bL 2 hW) ?_) h;rw[show 2*2^140=2^141 by rw[iY,cx]];exact au (by decide) (by decide)
def iu (A:Addr->Prop) (b m:Addr) (H H':Hp):Prop:=∀c u,H c=some u->c≠b->¬A c->c≠m->H' c=some u
theorem iu.same {A:Addr->Prop} {b m:Addr} {H H1 H2:Hp} (h:iu A b m H H1) (s:aF H1 H2):iu A b m H H2:=fun c u e n1 n2 n3=>s _ _ (h c u e n1 n2 n3)
theorem iu.upto {A:Addr->Prop} {b m:Addr} {H H1 H2:Hp} (h:iu A b m H H1) (s:cL b H1 H2):iu A b m H H2:=fun c u e n1 n2 n3=>s.1 _ _ (h c u e n1 n2 n3) n1
theorem iu.upd {A:Addr->Prop} {b m q:Addr} {H H1:Hp} {o:HO} (h:iu A b m H H1) (hq:A q\/q=m):iu A b m H (L2.upd H1 q o):=fun c u e n1 n2 n3=>by
 rw[be]
 ·exact h c u e n1 n2 n3
 ·rintro rfl;rcases hq with hq | hq
  ·exact n2 hq
  ·exact n3 hq
theorem iu.new {A:Addr->Prop} {b m r:Addr} {H H1:Hp} (h:iu A b m H H1) (hA:∀q,H q=none->A q) (B:iX H1 b) (hm:H1 m≠none) (hr:H1 r=none):A r:=by
 by_cases z:A r
 ·exact z
 ·cases e:H r with
  | none=>exact hA r e
  | some u =>
   have:=h r u e (fun y=>B.at (by rw[<- y];exact hr)) z (fun y=>hm (by rw[<- y];exact hr));rw[hr] at this;cases this
structure Ew (K:PySem.W.Frag) (A:Addr->Prop) (n:Nat) (C:Rat->Prop) (r p b q0:Addr) (us:List V) (H0 H:Hp):Prop where
 gr:H r=some (.lst us)
 ru:∀x∈us,fF K A H n C x
 rp:fF K A H n C (.ref p)
 bag:iX H b
 inn:Inner H b q0
 up:cL b H0 H
section
variable {K:PySem.W.Frag} {A:Addr->Prop} {n:Nat} {C:Rat->Prop} {r p b q0:Addr} {us:List V} {H0 H H':Hp} {y:Rat} {v:V}
theorem Ew.same (h:Ew K A n C r p b q0 us H0 H) (e:aF H H'):Ew K A n C r p b q0 us H0 H':=⟨e _ _ h.gr,fun x hx=>(h.ru x hx).same e,h.rp.same e,h.bag.same e,(e.upto (p:=b)).2 _ h.inn,h.up.same e⟩
theorem Ew.upto (h:Ew K A n C r p b q0 us H0 H) (u:cL b H H') (B:iX H' b) (nb:¬A b) (rb:r≠b):Ew K A n C r p b q0 us H0 H':=⟨u.other rb h.gr,fun x hx=>(h.ru x hx).upto u h.bag nb,h.rp.upto u h.bag nb,B,u.2 _ h.inn,h.up.trans u⟩
theorem Ew.put (h:Ew K A n C r p b q0 us H0 H) (ap:A p) (nr:¬A r) (nb:¬A b) (nq:¬A q0) (hp:H0 p=none) (hv:cf K H y v) (hc:C y) (j:Nat):∃zs,H p=some (.lst zs)/\zs.length=n/\Ew K A n C r p b q0 us H0 (upd H p (.lst (zs.set j v))):=by
 obtain ⟨q,zs,qs,e,a,g,l,_⟩:=h.rp.at;cases e;have ne:∀{z},¬A z->z≠p:=fun h e=>h (by rw[e];exact ap)
 exact ⟨zs,g,l,by rw[be (ne nr)];exact h.gr,fun x hx=>(h.ru x hx).put g hv hc j,h.rp.put g hv hc j,h.bag.upd h.inn (ne nb).symm (ne nq).symm,h.inn.upd (ne nb).symm,h.up.after hp⟩
end
theorem xX {K:PySem.W.Frag} {A:Addr->Prop} {H:Hp} {n:Nat} {C:Rat->Prop} {us:List V} (h:∀x∈us,fF K A H n C x):∃rows:List (List Rat),Paired (fun qs x=>∃q,x=V.ref q/\A q/\dC K H q qs) rows us/\rows.length=us.length/\∀qs∈rows,qs.length=n/\∀y∈qs,C y:=by
 induction us with
 | nil=>exact ⟨[],.nil,rfl,fun _ z=>nomatch z⟩
 | cons u us ih =>
  obtain ⟨rows,pr,l,hr⟩:=ih fun x hx=>h x (.tail _ hx)
  obtain ⟨q,qs,e,a,r,l1,c⟩:=h u (.head _);refine ⟨qs :: rows,.cons ⟨q,e,a,r⟩ pr,by simp [l],fun zs hz=>?_⟩;rcases aB.mp hz with rfl | hz
  ·exact ⟨l1,c⟩
  ·exact hr zs hz
theorem C3 {K:PySem.W.Frag} {A:Addr->Prop} {H:Hp} {n:Nat} {C:Rat->Prop} {us:List V} {rows:List (List Rat)} (pr:Paired (fun qs x=>∃q,x=V.ref q/\A q/\dC K H q qs) rows us) (h:∀qs∈rows,qs.length=n/\∀y∈qs,C y):∀x∈us,fF K A H n C x:=fun x hx=>by
 obtain ⟨qs,hq,q,e,a,r⟩:=df pr hx;exact ⟨q,qs,e,a,r,(h qs hq).1,(h qs hq).2⟩
theorem zV {n:Nat}:∀{rows:List (List Rat)},(∀xs∈rows,xs.length=n)->rows.flatten.length=rows.length*n
 | [],_=>by simp
 | xs :: rows,h=>by
  rw[List.flatten_cons,ao,h xs (.head _),zV fun ys hy=>h ys (.tail _ hy),aQ,tE,tG]
theorem II {c n:Nat} {rows:List (List Rat)} (h:∀qs∈rows,qs.length=n/\∀y∈qs,Dr (2^c) y):∃M:Nat,0 < M/\M<=2^(c*(rows.length*n))/\∀qs∈rows,∀y∈qs,Fr M (2^c) y:=by
 have fl:rows.flatten.length=rows.length*n:=zV fun ys hy=>(h ys hy).1
 have hm:∀a∈rows.flatten.map (·.den),0 < a/\a<=2^c:=fun a ha=>by
  obtain ⟨y,hy,rfl⟩:=aA.mp ha;obtain ⟨qs,hq,hy⟩:=List.mem_flatten.mp hy;exact ⟨y.den_pos,((h qs hq).2 y hy).2⟩
 refine ⟨zJ (rows.flatten.map (·.den)),zH fun a ha=>(hm a ha).1,?_,fun qs hq y hy=>?_⟩
 ·have:=BP (k:=c) (l:=rows.flatten.map (·.den)) fun a ha=>(hm a ha).2
  rwa [aj,fl] at this
 ·exact (Fr.own y ((h qs hq).2 y hy).1).dvd (zI (aA.mpr ⟨y,List.mem_flatten.mpr ⟨qs,hq,hy⟩,rfl⟩))
theorem kb {K:PySem.W.Frag} {A:Addr->Prop} {H H0:Hp} {n m:Nat} {C:Rat->Prop} {p:Addr} (h:MX K A H n C p m) (w:∀q,A q->H0 q=none):∃rows,bF K H0 H p rows/\rows.length=m/\∀qs∈rows,qs.length=n/\∀y∈qs,C y:=by
 obtain ⟨us,g,l,a,r⟩:=h;obtain ⟨rows,pr,lr,hr⟩:=xX r;refine ⟨rows,⟨us,g,Paired.imp' (fun _ _ ⟨q,e,aq,rq⟩=>⟨q,e,w q aq,rq⟩) pr,fun hm=>?_⟩,by rw[lr,l],hr⟩;obtain ⟨q,_,e,aq,_⟩:=r _ hm;cases e;exact a aq
theorem iu.trans {A:Addr->Prop} {b m:Addr} {H H1 H2:Hp} (h:iu A b m H H1) (h':iu A b m H1 H2):iu A b m H H2:=fun c u e n1 n2 n3=>h' c u (h c u e n1 n2 n3) n1 n2 n3
theorem C4 {K:PySem.W.Frag} {A:Addr->Prop} {H0 H:Hp} {n:Nat} {C:Rat->Prop} {us:List V} {rows:List (List Rat)} (pr:Paired (cM K H0 H) rows us) (h:∀qs∈rows,qs.length=n/\∀y∈qs,C y) (w:∀q,V.ref q∈us->H0 q=none->H q≠none->A q):∀x∈us,fF K A H n C x:=fun x hx=>by
 obtain ⟨qs,hq,q,e,a,r⟩:=df pr hx;subst e;exact ⟨q,qs,rfl,w q hx a (by obtain ⟨_,g,_⟩:=r;rw[g];simp),r,(h qs hq).1,(h qs hq).2⟩
def EH:Sp:=fun vs H Q _=>∃b,vs=[.ref b]/\iX H b/\∀r (n i o w:Nat) H',H' r=some (.tup [.int n,.int i,.int o,.int w])->n<=5->i<=4->o<=4->(w=4\/w=9\/(w=1000000/\n<=2))->(n=5->i<=2/\o<=2)->iX H' b->cL b H H'->Q (.ref r) H'
def iD (K:PySem.W.Frag) (H0 H:Hp) (r:Addr) (mv pt lk:List (List Rat)):Prop:=∃m p l,H r=some (.tup [.ref m,.ref p,.ref l])/\H0 m=none/\H0 p=none/\H0 l=none/\bF K H0 H m mv/\bF K H0 H p pt/\bF K H0 H l lk
section
variable {K:PySem.W.Frag} {H H' H0 H1:Hp} {r b:Addr} {mv pt lk:List (List Rat)}
theorem iD.same (h:iD K H0 H r mv pt lk) (e:aF H H'):iD K H0 H' r mv pt lk:=by obtain ⟨m,p,l,g,n1,n2,n3,g1,g2,g3⟩:=h;exact ⟨m,p,l,e _ _ g,n1,n2,n3,g1.same e,g2.same e,g3.same e⟩
theorem iD.upto (h:iD K H0 H r mv pt lk) (u:cL b H H') (B:iX H b) (nb:H0 b≠none):iD K H0 H' r mv pt lk:=by
 obtain ⟨m,p,l,g,n1,n2,n3,g1,g2,g3⟩:=h;exact ⟨m,p,l,u.tup B g,n1,n2,n3,g1.upto u B (fun z=>nb (by rw[<- z];exact n1)) nb,g2.upto u B (fun z=>nb (by rw[<- z];exact n2)) nb,g3.upto u B (fun z=>nb (by rw[<- z];exact n3)) nb⟩
theorem iD.weak (h:iD K H0 H r mv pt lk) (e:∀q,H0 q=none->H1 q=none):iD K H1 H r mv pt lk:=by
 obtain ⟨m,p,l,g,n1,n2,n3,⟨x1,y1,z1,w1⟩,⟨x2,y2,z2,w2⟩,⟨x3,y3,z3,w3⟩⟩:=h;exact ⟨m,p,l,g,e _ n1,e _ n2,e _ n3,⟨x1,y1,Paired.imp' (fun _ _ ⟨q,a,b,c⟩=>⟨q,a,e _ b,c⟩) z1,w1⟩,⟨x2,y2,Paired.imp' (fun _ _ ⟨q,a,b,c⟩=>⟨q,a,e _ b,c⟩) z2,w2⟩,⟨x3,y3,Paired.imp' (fun _ _ ⟨q,a,b,c⟩=>⟨q,a,e _ b,c⟩) z3,w3⟩⟩
end
def CM (K:PySem.W.Frag) (C:Addr):Sp:=fun vs H Q _=>∃(r:Addr) (H0:Hp) (mv pt lk:List (List Rat)),vs=[.ref r]/\iD K H0 H r mv pt lk/\qC mv pt lk/\ug mv pt lk/\∀x H',H x=none->aF H H'->mJ K H H' C x mv pt lk->Q (.ref x) H'
theorem mJ.weakN {K:PySem.W.Frag} {H H0 H1:Hp} {C p:Addr} {mv pt lk:List (List Rat)} (h:mJ K H0 H C p mv pt lk) (e:∀q,H0 q=none->H1 q=none):mJ K H1 H C p mv pt lk:=by
 obtain ⟨dx,a,b,c,g,n1,n2,n3,⟨x1,y1,z1,w1⟩,⟨x2,y2,z2,w2⟩,⟨x3,y3,z3,w3⟩⟩:=h;exact ⟨dx,a,b,c,g,e _ n1,e _ n2,e _ n3,⟨x1,y1,Paired.imp' (fun _ _ ⟨q,a,b,c⟩=>⟨q,a,e _ b,c⟩) z1,w1⟩,⟨x2,y2,Paired.imp' (fun _ _ ⟨q,a,b,c⟩=>⟨q,a,e _ b,c⟩) z2,w2⟩,⟨x3,y3,Paired.imp' (fun _ _ ⟨q,a,b,c⟩=>⟨q,a,e _ b,c⟩) z3,w3⟩⟩
def su (k j:Nat) (l:List Rat):Prop:=∃M V:Nat,0 < M/\M<=2^k/\V<=2^j/\∀x∈l,Fr M V x
section
variable {k j k' j':Nat} {l xs ys:List Rat} {x y:Rat}
theorem su.szn (h:su k j l) (hx:x∈l) (hk:k+j<=3950:=by decide):qW x:=by
 obtain ⟨M,V,h0,h1,h2,h3⟩:=h;obtain ⟨a,b⟩:=(h3 x hx).sz h0 h1 h2;exact ⟨a.mono (by lia),b.mono (by lia)⟩
theorem su.rowM (h:su k j l) (hk:k+j<=4200:=by decide):∃M,DE M (l.map nm):=by
 obtain ⟨M,V,h0,h1,h2,h3⟩:=h;refine ⟨M,by lia,?_,fun n hn=>?_⟩
 ·show ((M:Nat):Int).natAbs < 2^4400
  rw[cF];exact aW h1 (eC (by decide) (by lia))
 ·obtain ⟨x,hx,rfl⟩:=aA.mp hn;obtain ⟨a,_⟩:=(h3 x hx).sz h0 h1 h2;exact ⟨gM x,(h3 x hx).den,a.mono (by lia)⟩
theorem su.one (h:su k j l) (hx:x∈l):su k j [x]:=by
 obtain ⟨M,V,h0,h1,h2,h3⟩:=h;exact ⟨M,V,h0,h1,h2,fun y hy=>by rw[cE.mp hy];exact h3 x hx⟩
theorem HM (h:su k j xs) (h':su k' j' ys) (hl:xs.length<=1000) (i:Nat) (hk:(k+k')+(j+j')<=3930:=by decide):qW (iJ (xs.take i) (ys.take i)):=by
 obtain ⟨M,V,h0,h1,h2,h3⟩:=h;obtain ⟨N,W,k0,k1,k2,k3⟩:=h'
 have e:1000*(V*W)<=2^(10+(j+j')):=by
  rw[bM 2 10];exact aK (by decide) (ah (aK h2 k2) (by rw[<- bM];exact ar _))
 obtain ⟨a,b⟩:=((Fr.dot (fun x hx=>h3 x (cS hx)) (fun y hy=>k3 y (cS hy))).mono (aD _ (show (xs.take i).length<=1000 by rw[dt];lia))).sz (dq h0 k0) (ah (aK h1 k1) (by rw[<- bM];exact ar _)) e;exact ⟨a.mono (by lia),b.mono (by lia)⟩
theorem GR (hx:su k j [x]) (hy:su k' j' [y]) (hk:(k+k')+(j+j')<=3930:=by decide):qW (x*y):=by
 obtain ⟨M,V,h0,h1,h2,h3⟩:=hx;obtain ⟨N,W,k0,k1,k2,k3⟩:=hy;obtain ⟨a,b⟩:=((h3 x (.head _)).mul (k3 y (.head _))).sz (dq h0 k0) (ah (aK h1 k1) (by rw[<- bM];exact ar _)) (ah (aK h2 k2) (by rw[<- bM];exact ar _));exact ⟨a.mono (by lia),b.mono (by lia)⟩
def Cw (xs ys:List Rat):Prop:=∃k j k' j':Nat,su k j xs/\su k' j' ys/\(k+k')+(j+j')<=3930
end
def Kg (mv pt lk:List (List Rat)):Prop:=∃M V:Nat,0 < M/\M<=2^400/\V<=2^120/\GF M V mv/\GF M V pt/\GF M V lk
section
variable {mv pt lk:List (List Rat)}
theorem Kg.sf (h:Kg mv pt lk):ug mv pt lk:=by obtain ⟨M,V,a,b,c,d⟩:=h;exact ⟨M,V,a,ah b (au (by decide) (by decide)),ah c (au (by decide) (by decide)),d⟩
end
def DN (K:PySem.W.Frag):Sp:=fun vs H Q _=>∃(p q:Addr) (xs ys:List Rat),vs=[.ref p,.ref q]/\dC K H p xs/\dC K H q ys/\ys.length=xs.length/\xs.length<=1000/\Cw xs ys /\
 ∀r H',aF H H'->cf K H' (iJ xs ys) (.ref r)->Q (.ref r) H'
def IE (K:PySem.W.Frag):Sp:=fun vs H Q _=>∃(p q:Addr) (H0:Hp) (rows:List (List Rat)) (ys:List Rat),vs=[.ref p,.ref q]/\bF K H0 H p rows/\dC K H q ys/\rows.length<=1000/\ys.length<=1000/\(∀xs∈rows,xs.length=ys.length/\Cw xs ys) /\
 ∀r H',H r=none->aF H H'->dC K H' r (rows.map fun xs=>iJ xs ys)->Q (.ref r) H'
section
variable {mv pt lk pus:List (List Rat)} {st:List Rat} {k:Nat}
theorem xp {M W:Nat} {rows:List (List Rat)} {w:Nat} (h:GF M W rows):GF M W (cG rows w):=fun ys hy y hy'=>by
 obtain ⟨j,_,rfl⟩:=aA.mp hy;obtain ⟨xs,hx,rfl⟩:=aA.mp hy';rw[aa];cases e:xs[j]? with
 | none=>exact Fr.zero
 | some z=>exact h xs hx z (ay e)
end
theorem Mg {i:Int} (h:i=0\/i=1):Fr 1 1 (i:Rat):=Fr.int (by rcases h with rfl | rfl <;> decide)
end L2
namespace L2
abbrev ju:=Nat->Rat
def yZ (F:List ju->Rat) (r:Nat):List ju->List ju->Rat->Rat
 | _,[],_=>0
 | pre,v :: post,s=>s*v r*F (pre++post)+yZ F r (pre++[v]) post (-s)
def rk:List Nat->List ju->Rat
 | [],[]=>1
 | [],_ :: _=>0
 | r :: rs,vs=>yZ (fun ws=>rk rs ws) r [] vs 1
theorem A6 {a b:List ju} {x:ju}:rk [] (a++x :: b)=0:=by
 cases a <;> rfl
theorem AS {F:List ju->Rat} {r:Nat} {f g h:ju} {x y:Rat} (hF:∀a b,F (a++h :: b)=x*F (a++f :: b)+y*F (a++g :: b)):∀(b p q:List ju) (s:Rat),yZ F r (p++h :: q) b s=x*yZ F r (p++f :: q) b s+y*yZ F r (p++g :: q) b s
 | [],p,q,s=>by simp only[yZ,oC,Ex]
 | v :: b,p,q,s=>by
  have i1:=hF p (q++b);have i2:=AS (r:=r) hF b p (q++[v]) (-s);simp only[yZ,bW,d9] at i1 i2 ⊢;rw[i1,i2];grind
theorem D5 {F:List ju->Rat} {r:Nat} {f g h:ju} {x y:Rat} (hF:∀a b,F (a++h :: b)=x*F (a++f :: b)+y*F (a++g :: b)) (hr:h r=x*f r+y*g r):∀(a pre b:List ju) (s:Rat),yZ F r pre (a++h :: b) s=x*yZ F r pre (a++f :: b) s+y*yZ F r pre (a++g :: b) s
 | [],pre,b,s=>by
  have i2:=AS (r:=r) hF b pre [] (-s);simp only[yZ,cY] at i2 ⊢;rw[i2,hr];grind
 | v :: a,pre,b,s=>by
  have i1:=hF (pre++a) b;have i2:=D5 hF hr a (pre++[v]) b (-s);simp only[yZ,bW,d9] at i1 i2 ⊢;rw[i1,i2];grind
theorem uE {f g h:ju} {x y:Rat}:∀{rs:List Nat},(∀r∈rs,h r=x*f r+y*g r)->∀a b,rk rs (a++h :: b)=x*rk rs (a++f :: b)+y*rk rs (a++g :: b)
 | [],_,a,b=>by rw[A6,A6,A6];grind
 | r :: rs,hr,a,b=>D5 (fun a b=>uE (fun r' h'=>hr r' (.tail _ h')) a b) (hr r (.head _)) a [] b 1
theorem A5 {h:ju} {rs:List Nat} (hr:∀r∈rs,h r=0) (a b:List ju):rk rs (a++h :: b)=0:=by
 rw[uE (f:=h) (g:=h) (x:=0) (y:=0) (fun r h'=>by rw[hr r h'];grind) a b];grind
theorem D6 {F:List ju->Rat} {r:Nat} {x:ju} (hF:∀a b,F (a++x :: x :: b)=0):∀(b p q:List ju) (s:Rat),yZ F r (p++x :: x :: q) b s=0
 | [],p,q,s=>rfl
 | v :: b,p,q,s=>by
  have i1:=hF p (q++b);have i2:=D6 (r:=r) hF b p (q++[v]) (-s);simp only[yZ,bW,d9] at i1 i2 ⊢;rw[i1,i2];grind
theorem D7 {F:List ju->Rat} {r:Nat} {x:ju} (hF:∀a b,F (a++x :: x :: b)=0):∀(a pre b:List ju) (s:Rat),yZ F r pre (a++x :: x :: b) s=0
 | [],pre,b,s=>by
  have i2:=D6 (r:=r) hF b pre [] (- -s);simp only[yZ,cY,bW,d9] at i2 ⊢;rw[i2];grind
 | v :: a,pre,b,s=>by
  have i1:=hF (pre++a) b;have i2:=D7 (r:=r) hF a (pre++[v]) b (-s);simp only[yZ,bW,d9] at i1 i2 ⊢;rw[i1,i2];grind
theorem yJ {x:ju}:∀{rs:List Nat} (a b:List ju),rk rs (a++x :: x :: b)=0
 | [],a,b=>A6
 | r :: rs,a,b=>D7 (fun a b=>yJ a b) a [] b 1
theorem Jz {x y:ju} {rs:List Nat} (a b:List ju):rk rs (a++x :: y :: b)=- rk rs (a++y :: x :: b):=by
 have hr:∀r∈rs,(fun r=>1*x r+1*y r) r=1*x r+1*y r:=fun _ _=>rfl
 have h0:=yJ (x:=fun r=>1*x r+1*y r) (rs:=rs) a b;have h1:=uE hr a ((fun r=>1*x r+1*y r) :: b);have h2:=uE hr (a++[x]) b;have h3:=uE hr (a++[y]) b;have h4:=yJ (x:=x) (rs:=rs) a b;have h5:=yJ (x:=y) (rs:=rs) a b;simp only[bW,d9,cY] at h0 h1 h2 h3 h4 h5;rw[h1,h2,h3,h4,h5] at h0;grind
theorem A7 {x:ju} {rs:List Nat}:∀(b a c:List ju),rk rs (a++x :: (b++x :: c))=0
 | [],a,c=>yJ a c
 | y :: b,a,c=>by
  have:=A7 (x:=x) (rs:=rs) b (a++[y]) c;simp only[bW,d9,cY] at this;rw[d9,Jz,this];rfl
def bX:Nat->(Nat->Rat)->Rat
 | 0,_=>0
 | k+1,f=>bX k f+f k
theorem bP {f g:Nat->Rat}:∀{k:Nat},(∀j,j < k->f j=g j)->bX k f=bX k g
 | 0,_=>rfl
 | k+1,h=>by
  show bX k f+f k=bX k g+g k
  rw[bP fun j hj=>h j (by lia),h k (by lia)]
theorem rB {f g:Nat->Rat}:∀{k:Nat},bX k (fun j=>f j+g j)=bX k f+bX k g
 | 0=>by show (0:Rat)=0+0;grind
 | k+1=>by
  show bX k (fun j=>f j+g j)+_=(bX k f+f k)+(bX k g+g k)
  rw[rB];grind
theorem dM {f:Nat->Rat} {c:Rat}:∀{k:Nat},bX k (fun j=>c*f j)=c*bX k f
 | 0=>by show (0:Rat)=c*0;grind
 | k+1=>by
  show bX k (fun j=>c*f j)+_=c*(bX k f+f k)
  rw[dM];grind
theorem cZ {f:Nat->Rat}:∀{k:Nat},(∀j,j < k->f j=0)->bX k f=0
 | 0,_=>rfl
 | k+1,h=>by
  show bX k f+f k=0
  rw[cZ fun j hj=>h j (by lia),h k (by lia)];grind
theorem jA {f:Nat->Rat} {i:Nat}:∀{k:Nat},i < k->(∀j,j < k->j≠i->f j=0)->bX k f=f i
 | k+1,hi,h=>by
  show bX k f+f k=f i
  by_cases e:i=k
  ·subst e;rw[cZ fun j hj=>h j (by lia) (by lia)];grind
  ·rw[jA (by lia) fun j hj=>h j (by lia),h k (by lia) (fun z=>e z.symm)];grind
theorem mR {f:Nat->Nat->Rat} {m:Nat}:∀{k:Nat},bX k (fun i=>bX m (f i))=bX m (fun j=>bX k fun i=>f i j)
 | 0=>(cZ fun _ _=>rfl).symm
 | k+1=>by
  show bX k (fun i=>bX m (f i))+bX m (f k)=bX m (fun j=>bX k (fun i=>f i j)+f k j)
  rw[mR,rB]
theorem Dz {rs:List Nat} {W:ju} {v:Nat->ju} {c:Nat->Rat} (a b:List ju):∀{k:Nat} {W:ju},(∀r∈rs,W r=bX k fun j=>c j*v j r)->rk rs (a++W :: b)=bX k fun j=>c j*rk rs (a++v j :: b)
 | 0,W,h=>A5 h a b
 | k+1,W,h=>by
  rw[uE (f:=fun r=>bX k fun j=>c j*v j r) (g:=v k) (x:=1) (y:=c k) (fun r hr=>by rw[h r hr];show bX k _+_=_;grind) a b,Dz a b (k:=k) (W:=fun r=>bX k fun j=>c j*v j r) fun r _=>rfl];show _=bX k _+_
  grind
end L2
namespace L2
open Nm
def vW (f:Nat->Nat):Nat->List Nat
 | 0=>[]
 | k+1=>f k :: vW f k
def p8 (v:Nat->ju):Nat->List ju
 | 0=>[]
 | k+1=>v k :: p8 v k
def FA (v:Nat->ju) (i:Nat):Nat->List ju
 | 0=>[]
 | k+1=>if k<=i then [] else v k :: FA v i k
theorem rJ {f:Nat->Nat}:∀{k:Nat},(vW f k).length=k
 | 0=>rfl
 | k+1=>by show (vW f k).length+1=_;rw[rJ]
theorem cw_len {v:Nat->ju}:∀{k:Nat},(p8 v k).length=k
 | 0=>rfl
 | k+1=>by show (p8 v k).length+1=_;rw[cw_len]
theorem oH {f:Nat->Nat} {r:Nat}:∀{k:Nat},r∈vW f k->∃t,t < k/\r=f t
 | k+1,h=>by
  rcases aB.mp h with h | h
  ·exact ⟨k,by lia,h⟩
  ·obtain ⟨t,a,b⟩:=oH h;exact ⟨t,by lia,b⟩
theorem xY {f g:Nat->Nat}:∀{k:Nat},(∀j,j < k->f j=g j)->vW f k=vW g k
 | 0,_=>rfl
 | k+1,h=>by
  show f k :: vW f k=g k :: vW g k
  rw[h k (by lia),xY fun j hj=>h j (by lia)]
theorem cw_congr {f g:Nat->ju}:∀{k:Nat},(∀j,j < k->f j=g j)->p8 f k=p8 g k
 | 0,_=>rfl
 | k+1,h=>by
  show f k :: p8 f k=g k :: p8 g k
  rw[h k (by lia),cw_congr fun j hj=>h j (by lia)]
theorem cw_mem {v:Nat->ju} {j:Nat}:∀{k:Nat},j < k->v j∈p8 v k
 | k+1,h=>by
  by_cases e:j=k
  ·subst e;exact .head _
  ·exact .tail _ (cw_mem (by lia))
theorem cw_in {v:Nat->ju} {x:ju}:∀{k:Nat},x∈p8 v k->∃t,t < k/\x=v t
 | k+1,h=>by
  rcases aB.mp h with h | h
  ·exact ⟨k,by lia,h⟩
  ·obtain ⟨t,a,b⟩:=cw_in h;exact ⟨t,by lia,b⟩
theorem HS {v:Nat->ju} {i j:Nat} (h1:i < j):∀{k:Nat},j < k->v j∈FA v i k
 | k+1,h=>by
  show v j∈if k<=i then [] else v k :: FA v i k
  rw[if_neg (by lia)];by_cases e:j=k
  ·subst e;exact .head _
  ·exact .tail _ (HS h1 (by lia))
theorem Ci {v:Nat->ju} {i:Nat} {x:ju}:∀{k:Nat},x∈FA v i k->∃t,t < k/\x=v t
 | k+1,h=>by
  have h:x∈if k<=i then [] else v k :: FA v i k:=h
  split at h
  ·cases h
  ·rcases aB.mp h with h | h
   ·exact ⟨k,by lia,h⟩
   ·obtain ⟨t,a,b⟩:=Ci h;exact ⟨t,by lia,b⟩
theorem cw_split {v:Nat->ju} {i:Nat}:∀{k:Nat},i < k->p8 v k=FA v i k++v i :: p8 v i
 | k+1,h=>by
  show v k :: p8 v k=(if k<=i then [] else v k :: FA v i k)++_
  by_cases e:i=k
  ·subst e;rw[if_pos (ar _)];rfl
  ·rw[if_neg (by lia),cw_split (k:=k) (i:=i) (by lia)];rfl
theorem zW {rs:List Nat} {v:Nat->ju} {c:Nat->Rat} {W:ju} {k i:Nat} (hi:i < k) (hW:∀r∈rs,W r=bX k fun j=>c j*v j r):rk rs (FA v i k++W :: p8 v i)=c i*rk rs (p8 v k):=by
 rw[Dz (v:=v) (c:=c) (W:=W) _ _ hW,jA hi fun j hj ne=>?_,cw_split hi];rcases bV j i with h | h
 ·obtain ⟨s,t,e⟩:=CA (cw_mem (v:=v) h);rw[e,A7];grind
 ·obtain ⟨s,t,e⟩:=CA (HS (v:=v) (show i < j by lia) hj);have:=A7 (x:=v j) (rs:=rs) t s (p8 v i);rw[e,bW,d9,this];grind
theorem LB {rs:List Nat} {v:Nat->ju} {c:Nat->Rat} {W:ju} {k:Nat} (hW:∀r∈rs,W r=bX k fun j=>c j*v j r):rk rs (W :: p8 v k)=0:=by
 have:=Dz (v:=v) (c:=c) (W:=W) [] (p8 v k) hW;rw[cY] at this;rw[this];refine cZ fun j hj=>?_
 obtain ⟨s,t,e⟩:=CA (cw_mem (v:=v) hj);have:=A7 (x:=v j) (rs:=rs) s [] t;rw[cY] at this;rw[e,cY,this];grind
theorem Fn {rs:List Nat} {v:Nat->ju} {c:Nat->Rat} {W:ju} {k i:Nat} {s:Rat} (hi:i∉rs) (h1:W i=bX k (fun j=>c j*v j i)+s) (hW:∀r∈rs,W r=bX k fun j=>c j*v j r):rk (i :: rs) (W :: p8 v k)=s*rk rs (p8 v k):=by
 have e:=uE (rs:=i :: rs) (h:=W) (f:=fun r=>bX k fun j=>c j*v j r) (g:=fun r=>if r=i then 1 else 0) (x:=1) (y:=s) (fun r hr=>by
  rcases aB.mp hr with rfl | hr
  ·rw[h1,if_pos rfl];grind
  ·rw[hW r hr,if_neg (fun z=>hi (by rw[<- z];exact hr))];grind) [] (p8 v k)
 rw[cY,cY,cY,LB (c:=c) fun r _=>rfl] at e
 have e2:rk (i :: rs) ((fun r=>if r=i then (1:Rat) else 0) :: p8 v k)=rk rs (p8 v k):=by
  show 1*(if i=i then (1:Rat) else 0)*rk rs ([]++p8 v k)+yZ (fun ws=>rk rs ws) i ([]++[fun r=>if r=i then (1:Rat) else 0]) (p8 v k) (-1)=_
  have hF:∀a b,(fun ws=>rk rs ws) (a++(fun r=>if r=i then (1:Rat) else 0) :: b)=0*(fun ws=>rk rs ws) (a++(fun r=>if r=i then (1:Rat) else 0) :: b)+0*(fun ws=>rk rs ws) (a++(fun r=>if r=i then (1:Rat) else 0) :: b):=fun a b=>by
   have:=A5 (h:=fun r=>if r=i then (1:Rat) else 0) (rs:=rs) (fun r hr=>if_neg fun z=>hi (by rw[<- z];exact hr)) a b
   dsimp only
   rw[this];grind
  have:=AS (r:=i) hF (p8 v k) [] [] (-1);rw[this,if_pos rfl,cY];grind
 rw[e2] at e;rw[e];grind
theorem J6 {F:List ju->Rat} {r B W:Nat}:∀{post pre:List ju} {s:Rat},(∀ws,(∀w∈ws,w∈pre++post)->ws.length+1=(pre++post).length->Fr 1 B (F ws))->(∀w∈post,Fr 1 W (w r))->Fr 1 1 s->Fr 1 (post.length*(W*B)) (yZ F r pre post s)
 | [],pre,s,_,_,_=>by show Fr 1 _ 0;exact Fr.zero
 | v :: post,pre,s,hF,hw,hs=>by
  have t1:Fr 1 (W*B) (s*v r*F (pre++post)):=by
   have:=(hs.mul (hw v (.head _))).mul (hF (pre++post) (fun w h=>by
    rcases aw.mp h with h | h
    ·exact rg _ h
    ·exact bQ _ (.tail _ h)) (by simp only[ao,aQ];lia))
   simpa using this
  have t2:=J6 (F:=F) (r:=r) (B:=B) (W:=W) (post:=post) (pre:=pre++[v]) (s:=-s) (fun ws h h'=>hF ws (fun w hw=>by simpa using h w hw) (by simpa using h')) (fun w h=>hw w (.tail _ h)) (by simpa using hs.neg);exact (t1.add t2).mono (by rw[aQ,tE];lia)
theorem yI {W N:Nat}:∀{rs:List Nat} {vs:List ju},vs.length<=N->(∀v∈vs,∀r∈rs,Fr 1 W (v r))->Fr 1 ((N*W)^rs.length) (rk rs vs)
 | [],[],_,_=>by show Fr 1 1 1;exact (Fr.int (i:=1) (by decide))
 | [],_ :: _,_,_=>by show Fr 1 _ 0;exact Fr.zero
 | r :: rs,vs,hl,h=>by
  have:=J6 (F:=fun ws=>rk rs ws) (r:=r) (B:=(N*W)^rs.length) (W:=W) (post:=vs) (pre:=[]) (s:=1) (fun ws h1 h2=>yI (by rw[cY] at h2;lia) fun v hv r' hr'=>h v (by simpa using h1 v hv) r' (.tail _ hr')) (fun w hw=>h w hw r (.head _)) (Fr.int (i:=1) (by decide));refine this.mono ?_;rw[aQ,iY,cx ((N*W)^rs.length),cJ N];exact aD _ hl
structure vN (a:Nat->Nat->Rat) (m k:Nat) (pm p:Nat->Nat) (l:Nat->Nat->Rat) (d:Rat):Prop where
 inj:∀i j,i < m->j < m->pm i=pm j->i=j
 rng:∀i,i < m->pm i < m
 km:k<=m
 d0:d≠0
 det:d=rk (vW pm k) (p8 (fun j r=>a r (p j)) k)
 eqs:∀i,i < m->∀c,d*a (pm i) c=bX k (fun j=>a (pm i) (p j)*l j c)+if i < k then 0 else l i c
 unit:∀i,i < m->∀j,j < k->l i (p j)=if i=j then d else 0
section
variable {a l:Nat->Nat->Rat} {m k:Nat} {pm p:Nat->Nat} {d:Rat}
theorem vN.start (h:∀i,i < m->pm i=i):vN a m 0 pm p a 1 where
 inj i j hi hj e:=by rw[h i hi,h j hj] at e;exact e
 rng i hi:=by rw[h i hi];exact hi
 km:=aT _
 d0:=by decide
 det:=rfl
 eqs i hi c:=by
  rw[h i hi,if_neg (by lia)];show 1*a i c=0+a i c
  grind
 unit i _ j hj:=absurd hj (by lia)
theorem vN.coef (B:vN a m k pm p l d) {i c:Nat} (hi:i < m):a (pm i) c=bX k (fun j=>(l j c / d)*a (pm i) (p j))+if i < k then 0 else l i c / d:=by
 have h:=B.eqs i hi c;have d0:=B.d0
 have e:bX k (fun j=>(l j c / d)*a (pm i) (p j))=(1 / d)*bX k (fun j=>a (pm i) (p j)*l j c):=by
  rw[<- dM];exact bP fun j _=>by grind
 rw[e]
 split at h
 ·rw[if_pos (by assumption)];grind
 ·rw[if_neg (by assumption)];grind
theorem vN.old (B:vN a m k pm p l d) {i c:Nat} (hi:i < k):l i c=rk (vW pm k) (FA (fun j r=>a r (p j)) i k++(fun r=>a r c) :: p8 (fun j r=>a r (p j)) i):=by
 have km:=B.km;have d0:=B.d0;rw[zW (v:=fun j r=>a r (p j)) (c:=fun j=>l j c / d) hi fun r hr=>?_,<- B.det]
 ·grind
 ·obtain ⟨t,ht,rfl⟩:=oH hr;have:=B.coef (i:=t) (c:=c) (by lia);rw[if_pos ht] at this;rw[this];grind
theorem vN.new (B:vN a m k pm p l d) {i c:Nat} (h1:k<=i) (hi:i < m):l i c=rk (pm i :: vW pm k) ((fun r=>a r c) :: p8 (fun j r=>a r (p j)) k):=by
 have km:=B.km;have d0:=B.d0
 have hn:pm i∉vW pm k:=fun hm=>by
  obtain ⟨t,ht,e⟩:=oH hm;have:=B.inj i t hi (by lia) e
  lia
 have e1:a (pm i) c=bX k (fun j=>(l j c / d)*a (pm i) (p j))+l i c / d:=by
  have:=B.coef (i:=i) (c:=c) hi;rwa [if_neg (by lia)] at this
 have e2:∀r∈vW pm k,a r c=bX k (fun j=>(l j c / d)*a r (p j)):=fun r hr=>by
  obtain ⟨t,ht,rfl⟩:=oH hr;have:=B.coef (i:=t) (c:=c) (by lia);rw[if_pos ht] at this;rw[this];grind
 rw[Fn (v:=fun j r=>a r (p j)) (c:=fun j=>l j c / d) (W:=fun r=>a r c) (s:=l i c / d) hn e1 e2,<- B.det];grind
theorem vN.fr {W N:Nat} (B:vN a m k pm p l d) (hN:k < N) (hW:1<=W) (ha:∀i,i < m->∀c,Fr 1 W (a i c)) {i c:Nat} (hi:i < m):Fr 1 ((N*W)^(k+1)) (l i c):=by
 have km:=B.km;have mono:∀t,t<=k+1->(N*W)^t<=(N*W)^(k+1):=fun t ht=>au (dq (by lia) hW) ht
 have ha':∀r∈vW pm k,∀c,Fr 1 W (a r c):=fun r hr c=>by
  obtain ⟨t,ht,rfl⟩:=oH hr;exact ha _ (B.rng t (by lia)) c
 by_cases h:i < k
 ·rw[B.old h];refine (yI (W:=W) (N:=N) ?_ ?_).mono (mono _ (by rw[rJ];lia))
  ·have:=congrArg List.length (cw_split (v:=fun j r=>a r (p j)) h);rw[ao,aQ,cw_len] at this;rw[ao,aQ]
   lia
  ·intro v hv r hr;rcases aw.mp hv with hv | hv
   ·obtain ⟨t,_,rfl⟩:=Ci hv;exact ha' r hr _
   ·rcases aB.mp hv with rfl | hv
    ·exact ha' r hr _
    ·obtain ⟨t,_,rfl⟩:=cw_in hv;exact ha' r hr _
 ·rw[B.new (by lia) hi];refine (yI (W:=W) (N:=N) ?_ ?_).mono (mono _ (by rw[aQ,rJ];lia))
  ·rw[aQ,cw_len]
   lia
  ·intro v hv r hr
   have hr':∀c,Fr 1 W (a r c):=fun c=>by
    rcases aB.mp hr with rfl | hr
    ·exact ha _ (B.rng i hi) c
    ·exact ha' r hr c
   rcases aB.mp hv with rfl | hv
   ·exact hr' _
   ·obtain ⟨t,_,rfl⟩:=cw_in hv;exact hr' _
theorem vN.dfr {W N:Nat} (B:vN a m k pm p l d) (hN:k<=N) (ha:∀i,i < m->∀c,Fr 1 W (a i c)):Fr 1 ((N*W)^k) d:=by
 have km:=B.km;rw[B.det]
 have:=yI (W:=W) (N:=N) (rs:=vW pm k) (vs:=p8 (fun j r=>a r (p j)) k) (by rw[cw_len];exact hN) fun v hv r hr=>by
  obtain ⟨t,ht,rfl⟩:=oH hr;obtain ⟨t',_,rfl⟩:=cw_in hv;exact ha _ (B.rng t (by lia)) _
 rwa [rJ] at this
def jX (k t i:Nat):Nat:=if i=k then t else if i=t then k else i
theorem tJ {k t m i:Nat} (hk:k < m) (ht:t < m) (hi:i < m):jX k t i < m:=by
 unfold jX
 split
 ·exact ht
 ·split
  ·exact hk
  ·exact hi
theorem Kx {k t i j:Nat} (h:jX k t i=jX k t j):i=j:=by
 unfold jX at h
 split at h <;> split at h <;> (try split at h) <;> (try split at h) <;> lia
theorem uu {k t i:Nat} (h:k<=t) (hi:i < k):jX k t i=i:=by
 unfold jX;rw[if_neg (by lia),if_neg (by lia)]
theorem uL {k t i:Nat} (h:k<=t) (hi:k<=i):k<=jX k t i:=by
 unfold jX
 split
 ·exact h
 ·split <;> lia
theorem vN.swap (B:vN a m k pm p l d) {t:Nat} (h:k<=t) (ht:t < m):vN a m k (fun i=>pm (jX k t i)) p (fun i=>l (jX k t i)) d where
 inj i j hi hj e:=Kx (B.inj _ _ (tJ (by lia) ht hi) (tJ (by lia) ht hj) e)
 rng i hi:=B.rng _ (tJ (by lia) ht hi)
 km:=B.km
 d0:=B.d0
 det:=by rw[B.det,xY (f:=pm) (g:=fun i=>pm (jX k t i)) fun j hj=>by rw[uu h hj]]
 eqs i hi c:=by
  have e:=B.eqs (jX k t i) (tJ (by lia) ht hi) c;have e1:bX k (fun j=>a (pm (jX k t i)) (p j)*l (jX k t j) c)=bX k (fun j=>a (pm (jX k t i)) (p j)*l j c):=bP fun j hj=>by rw[uu h hj]
  rw[e1];by_cases hk:i < k
  ·rw[uu h hk] at e ⊢;exact e
  ·rw[if_neg hk];rw[if_neg (by have:=uL h (show k<=i by lia);lia)] at e;exact e
 unit i hi j hj:=by
  rw[B.unit _ (tJ (by lia) ht hi) j hj];by_cases hk:i < k
  ·rw[uu h hk]
  ·have:=uL h (show k<=i by lia);rw[if_neg (by lia),if_neg (by lia)]
theorem vN.step (B:vN a m k pm p l d) {c0:Nat} (hk:k < m) (h0:l k c0≠0):vN a m (k+1) pm (fun j=>if j=k then c0 else p j) (fun i c=>if i=k then l k c else (l k c0*l i c - l i c0*l k c) / d) (l k c0) where
 inj:=B.inj
 rng:=B.rng
 km:=hk
 d0:=h0
 det:=by
  rw[B.new (ar _) hk];show _=rk (pm k :: vW pm k) ((fun r=>a r (if k=k then c0 else p k)) :: p8 _ k)
  rw[if_pos rfl];congr 2;exact cw_congr fun j hj=>by rw[if_neg (show j≠k by lia)]
 eqs i hi c:=by
  have d0:=B.d0;have e1:=B.eqs i hi c;have e2:=B.eqs i hi c0;show l k c0*a (pm i) c=(bX k _+_)+_
  have s1:bX k (fun j=>a (pm i) (if j=k then c0 else p j)*(if j=k then l k c else (l k c0*l j c - l j c0*l k c) / d))=(l k c0 / d)*bX k (fun j=>a (pm i) (p j)*l j c)+(- l k c / d)*bX k (fun j=>a (pm i) (p j)*l j c0):=by
   rw[<- dM,<- dM,<- rB];refine bP fun j hj=>?_
   rw[if_neg (show j≠k by lia),if_neg (show j≠k by lia)];grind
  rw[s1];simp only[if_true];generalize bX k (fun j=>a (pm i) (p j)*l j c)=S1 at e1 ⊢;generalize bX k (fun j=>a (pm i) (p j)*l j c0)=S2 at e2 ⊢;rcases eL i k with h | h | h
  ·rw[if_pos h] at e1 e2;rw[if_pos (by lia)];grind
  ·subst h;rw[if_neg (by lia)] at e1 e2;rw[if_pos (by lia)];grind
  ·rw[if_neg (by lia)] at e1 e2;rw[if_neg (by lia),if_neg (by lia)];grind
 unit i hi j hj:=by
  have d0:=B.d0;by_cases e:j=k
  ·subst e;simp only[if_true];by_cases ei:i=j
   ·rw[if_pos ei,if_pos ei]
   ·rw[if_neg ei,if_neg ei];grind
  ·have hj':j < k:=by lia
   rw[if_neg e];by_cases ei:i=k
   ·rw[if_pos ei,B.unit k hk j hj',if_neg (by lia),if_neg (by lia)]
   ·rw[if_neg ei,B.unit i hi j hj',B.unit k hk j hj',if_neg (show k≠j by lia)]
    split
    ·grind
    ·grind
end
def d7 (m:Nat) (a:Nat->Nat->Rat) (x:Nat->Rat):Prop:=∃w:Nat->Rat,∀c,x c=bX m fun t=>w t*a t c
section
variable {m m' k n:Nat} {a b:Nat->Nat->Rat} {x y:Nat->Rat}
theorem d7.row {i:Nat} (hi:i < m):d7 m a (a i):=⟨fun t=>if t=i then 1 else 0,fun c=>by
 rw[jA hi fun j _ ne=>by dsimp only;rw[if_neg ne];grind]
 dsimp only
 rw[if_pos rfl];grind⟩
theorem d7.lin (α β:Rat) (hx:d7 m a x) (hy:d7 m a y):d7 m a fun c=>α*x c+β*y c:=by
 obtain ⟨w,hw⟩:=hx;obtain ⟨v,hv⟩:=hy;refine ⟨fun t=>α*w t+β*v t,fun c=>?_⟩
 dsimp only
 rw[hw c,hv c,<- dM,<- dM,<- rB];exact bP fun j _=>by grind
theorem d7.congr (h:∀c,x c=y c) (hx:d7 m a x):d7 m a y:=by obtain ⟨w,hw⟩:=hx;exact ⟨w,fun c=>by rw[<- h c];exact hw c⟩
theorem d7.trans (h:∀t,t < m'->d7 m a (b t)) (hx:d7 m' b x):d7 m a x:=by
 obtain ⟨v,hv⟩:=hx
 have h2:∀t,∃w:Nat->Rat,t < m'->∀c,b t c=bX m fun s=>w s*a s c:=fun t=>by
  by_cases ht:t < m'
  ·obtain ⟨w,hw⟩:=h t ht;exact ⟨w,fun _=>hw⟩
  ·exact ⟨fun _=>0,fun z=>absurd z ht⟩
 have hc:=Classical.axiomOfChoice h2;obtain ⟨w,hw⟩:=hc;refine ⟨fun s=>bX m' fun t=>v t*w t s,fun c=>?_⟩;rw[hv c];have e1:bX m' (fun t=>v t*b t c)=bX m' (fun t=>bX m fun s=>v t*(w t s*a s c)):=bP fun t ht=>by rw[hw t ht c,<- dM]
 rw[e1,mR];refine bP fun s _=>?_
 have:bX m' (fun t=>v t*w t s)*a s c=a s c*bX m' (fun t=>v t*w t s):=gE ..;rw[this,<- dM];exact bP fun t _=>by grind
theorem d7.zero (h:∀c,x c=0):d7 m a x:=⟨fun _=>0,fun c=>by rw[h c,cZ fun _ _=>by grind]⟩
end
structure Af (m n:Nat) (a:Nat->Nat->Rat) (k:Nat) (p:Nat->Nat) (R:Nat->Nat->Rat):Prop where
 inc:∀i j,i < j->j < k->p i < p j
 low:∀j,j < k->p j < n
 unit:∀i,i < k->∀j,j < k->R i (p j)=if i=j then 1 else 0
 lead:∀i,i < k->∀c,c < p i->R i c=0
 span:∀i,i < m->d7 k R (a i)
 back:∀i,i < k->d7 m a (R i)
section
variable {m m' k k' n:Nat} {a a' R R':Nat->Nat->Rat} {p p':Nat->Nat} {x:Nat->Rat}
theorem Af.coef (h:Af m n a k p R) (hx:d7 k R x) (c:Nat):x c=bX k fun j=>x (p j)*R j c:=by
 obtain ⟨w,hw⟩:=hx;rw[hw c];refine bP fun j hj=>?_
 rw[hw (p j),jA hj fun t ht ne=>by rw[h.unit t ht j hj,if_neg ne];grind,h.unit j hj j hj,if_pos rfl];grind
theorem Af.lead_in (h:Af m n a k p R) (hx:d7 k R x) {c:Nat} (h1:x c≠0) (h0:∀c',c' < c->x c'=0):∃j,j < k/\p j=c:=by
 refine Classical.byContradiction fun hn=>h1 ?_
 rw[h.coef hx c];refine cZ fun j hj=>?_
 rcases eL (p j) c with z | z | z
 ·rw[h0 _ z];grind
 ·exact absurd ⟨j,hj,z⟩ hn
 ·rw[h.lead j hj c z];grind
theorem inc_le (h1:∀i j,i < j->j < k->p i < p j) (h2:∀i j,i < j->j < k'->p' i < p' j) (hs:∀j,j < k'->∃i,i < k/\p i=p' j):∀{j:Nat},j < k'->∀{i:Nat},i < k->p i=p' j->j<=i
 | 0,_,_,_,_=>aT _
 | j+1,hj,i,hi,e=>by
  obtain ⟨i0,hi0,e0⟩:=hs j (by lia);have:=inc_le h1 h2 hs (j:=j) (by lia) hi0 e0;have lt:=h2 j (j+1) (by lia) hj;rcases eL i0 i with z | z | z
  ·lia
  ·subst z;lia
  ·have:=h1 i i0 z hi0;lia
theorem Hr (h1:∀i j,i < j->j < k->p i < p j) {i j:Nat} (h:i<=j) (hj:j < k):p i<=p j:=by
 rcases bV i j with z | z
 ·exact bC (h1 i j z hj)
 ·have:i=j:=by lia
  rw[this];exact ar _
theorem Ed (h1:∀i j,i < j->j < k->p i < p j) (h2:∀i j,i < j->j < k'->p' i < p' j) (hs:∀j,j < k'->∃i,i < k/\p i=p' j):k'<=k/\∀j,j < k'->p j<=p' j:=by
 refine ⟨?_,fun j hj=>?_⟩
 ·rcases m3 k' with z | z
  ·lia
  ·obtain ⟨i,hi,e⟩:=hs (k' - 1) (by lia);have:=inc_le h1 h2 hs (j:=k' - 1) (by lia) hi e
   lia
 ·obtain ⟨i,hi,e⟩:=hs j hj;rw[<- e];exact Hr h1 (inc_le h1 h2 hs hj hi e) hi
theorem Af.uniq (h:Af m n a k p R) (h':Af m' n a' k' p' R') (s1:∀i,i < m->d7 m' a' (a i)) (s2:∀i,i < m'->d7 m a (a' i)):k=k'/\(∀j,j < k->p j=p' j)/\∀i,i < k->∀c,R i c=R' i c:=by
 have x1:∀i,i < k->d7 k' R' (R i):=fun i hi=>d7.trans (fun t ht=>h'.span t ht) (d7.trans s1 (h.back i hi))
 have x2:∀i,i < k'->d7 k R (R' i):=fun i hi=>d7.trans (fun t ht=>h.span t ht) (d7.trans s2 (h'.back i hi))
 have y1:∀j,j < k->∃i,i < k'/\p' i=p j:=fun j hj=>h'.lead_in (x1 j hj) (by rw[h.unit j hj j hj,if_pos rfl];decide) (h.lead j hj)
 have y2:∀j,j < k'->∃i,i < k/\p i=p' j:=fun j hj=>h.lead_in (x2 j hj) (by rw[h'.unit j hj j hj,if_pos rfl];decide) (h'.lead j hj)
 obtain ⟨z1,w1⟩:=Ed h'.inc h.inc y1;obtain ⟨z2,w2⟩:=Ed h.inc h'.inc y2;have ek:k=k':=Ii z1 z2;subst ek;have ep:∀j,j < k->p j=p' j:=fun j hj=>Ii (w2 j hj) (w1 j hj)
 refine ⟨rfl,ep,fun i hi c=>?_⟩;rw[h.coef (x2 i hi) c,jA hi fun j hj ne=>by rw[ep j hj,h'.unit i hi j hj,if_neg (fun z=>ne z.symm)];grind,ep i hi,h'.unit i hi i hi,if_pos rfl];grind
end
structure kn (a:Nat->Nat->Rat) (m k P:Nat) (p:Nat->Nat) (l:Nat->Nat->Rat) (d:Rat):Prop where
 km:k<=m
 d0:d≠0
 unit:∀i,i < m->∀j,j < k->l i (p j)=if i=j then d else 0
 inc:∀i j,i < j->j < k->p i < p j
 low:∀j,j < k->p j < P
 zero:∀i,k<=i->i < m->∀c,c < P->l i c=0
 lead:∀j,j < k->∀c,c < p j->l j c=0
 there:∀i,i < m->d7 m l (a i)
 back:∀i,i < m->d7 m a (l i)
section
variable {m k n P:Nat} {a l l':Nat->Nat->Rat} {p:Nat->Nat} {d d':Rat}
theorem kn.start:kn a m 0 0 p a 1 where
 km:=aT _
 d0:=by decide
 unit _ _ j hj:=absurd hj (by lia)
 inc _ j _ hj:=absurd hj (by lia)
 low j hj:=absurd hj (by lia)
 zero _ _ _ c hc:=absurd hc (by lia)
 lead j hj:=absurd hj (by lia)
 there i hi:=d7.row hi
 back i hi:=d7.row hi
theorem kn.skip (E:kn a m k P p l d) (h:∀i,k<=i->i < m->l i P=0):kn a m k (P+1) p l d :=
 ⟨E.km,E.d0,E.unit,E.inc,fun j hj=>vL (E.low j hj),fun i h1 h2 c hc=>by
  by_cases e:c=P
  ·rw[e];exact h i h1 h2
  ·exact E.zero i h1 h2 c (by lia),E.lead,E.there,E.back⟩
theorem Me {k t i:Nat}:jX k t (jX k t i)=i:=by
 unfold jX
 split
 ·split <;> (try split) <;> lia
 ·split
  ·rw[if_pos rfl];lia
  ·rfl
theorem kn.swap (E:kn a m k P p l d) {t:Nat} (h:k<=t) (ht:t < m):kn a m k P p (fun i=>l (jX k t i)) d where
 km:=E.km
 d0:=E.d0
 unit i hi j hj:=by
  rw[E.unit _ (tJ (by lia) ht hi) j hj];by_cases hk:i < k
  ·rw[uu h hk]
  ·have:=uL h (show k<=i by lia);rw[if_neg (by lia),if_neg (by lia)]
 inc:=E.inc
 low:=E.low
 zero i h1 h2 c hc:=E.zero _ (uL h h1) (tJ (by lia) ht h2) c hc
 lead j hj c hc:=by rw[uu h hj];exact E.lead j hj c hc
 there i hi:=d7.trans (fun s hs=>d7.congr (fun c=>by rw[Me]) (d7.row (a:=fun i=>l (jX k t i)) (i:=jX k t s) (tJ (by lia) ht hs))) (E.there i hi)
 back i hi:=E.back _ (tJ (by lia) ht hi)
theorem kn.step (E : kn a m k P p l d) (hk : k < m) (h0 : d' ≠ 0) (unit' : ∀ i, i < m → ∀ j, j < k + 1 → l' i (if j = k then P else p j) = if i = j then d' else 0)
    (hl : ∀ i, i < m → ∃ β γ : Rat, β ≠ 0 /\ (i = k → γ = 0) /\ ∀ c, l' i c = β * l i c + γ * l k c) : kn a m (k + 1) (P + 1) (fun j => if j = k then P else p j) l' d' where
  km := hk
  d0 := h0
  unit := unit'
  inc i j hij hj := by
    by_cases e : j = k
    · rw [if_pos e, if_neg (by lia)];exact E.low i (by lia)
    · rw [if_neg e, if_neg (by lia)];exact E.inc i j hij (by lia)
  low j hj := by
    by_cases e : j = k
    · rw [if_pos e]; lia
    · rw [if_neg e];exact vL (E.low j (by lia))
  zero i h1 h2 c hc := by
    by_cases e : c = P
    · have := unit' i h2 k (by lia);rw [if_pos rfl, if_neg (by lia)] at this;rw [e]; exact this
    · obtain ⟨β, γ, _, _, q⟩ := hl i h2;rw [q c, E.zero i (by lia) h2 c (by lia), E.zero k (ar _) hk c (by lia)];grind
  lead j hj c hc := by
    have km := E.km;obtain ⟨β, γ, _, _, q⟩ := hl j (by lia);by_cases e : j = k
    · rw [if_pos e] at hc;rw [q c, e, E.zero k (ar _) hk c hc];grind
    · rw [if_neg e] at hc;have := E.low j (by lia);rw [q c, E.lead j (by lia) c hc, E.zero k (ar _) hk c (by lia)];grind
  there i hi := by
    refine d7.trans (fun s hs => ?_) (E.there i hi);obtain ⟨β, γ, b0, _, q⟩ := hl s hs;obtain ⟨βk, γk, bk0, gk, qk⟩ := hl k hk;have g0 := gk rfl;refine d7.congr (fun c => ?_) (d7.lin (1 / β) (-(γ / β) / βk) (d7.row (a := l') hs) (d7.row (a := l') hk));rw [q c, qk c, g0];grind
  back i hi := by
    obtain ⟨β, γ, _, _, q⟩ := hl i hi;exact d7.congr (fun c => (q c).symm) (d7.lin β γ (E.back i hi) (E.back k hk))
theorem kn.done (E:kn a m k n p l d) (ha:∀i,i < m->∀c,n<=c->a i c=0):Af m n a k p (fun i c=>l i c / d) where
 inc:=E.inc
 low:=E.low
 unit i hi j hj:=by
  have d0:=E.d0;have km:=E.km;rw[E.unit i (by lia) j hj]
  split
  ·grind
  ·grind
 lead i hi c hc:=by
  rw[E.lead i hi c hc];grind
 span i hi:=by
  have d0:=E.d0;refine d7.trans (fun s hs=>?_) (E.there i hi);by_cases z:s < k
  ·refine d7.congr (fun c=>?_) (d7.lin d 0 (d7.row (a:=fun i c=>l i c / d) z) (d7.row (a:=fun i c=>l i c / d) z));grind
  ·refine d7.zero fun c=>?_
   by_cases hc:c < n
   ·exact E.zero s (by lia) hs c hc
   ·obtain ⟨w,hw⟩:=E.back s hs;rw[hw c,cZ fun t ht=>by rw[ha t ht c (by lia)];grind]
 back i hi:=by
  have km:=E.km;have d0:=E.d0;refine d7.congr (fun c=>?_) (d7.lin (1 / d) 0 (E.back i (by lia)) (E.back i (by lia)));grind
end
def dE (ls:List (List Int)) (i c:Nat):Rat:=(((ls.getD i []).getD c 0:Int):Rat)
def b8 (rows:List (List Rat)) (i c:Nat):Rat:=(rows.getD i []).getD c 0
def pK (ls:List (List Int)) (k t:Nat):List (List Int):=(ls.set k (ls.getD t [])).set t (ls.getD k [])
def Ck (ls:List (List Int)) (k c:Nat) (b:Int):List (List Int):=(ls.map fun zs=>List.zipWith (fun x y=>((ls.getD k []).getD c 0*x - zs.getD c 0*y).fdiv b) zs (ls.getD k [])).set k (ls.getD k [])
section
variable {ls ls0:List (List Int)} {k t n P c:Nat} {b d:Int} {ps:List Nat}
theorem rX {α:Type} {l:List α} {i j:Nat} {x e:α} (hi:i < l.length):(l.set i x).getD j e=if j=i then x else l.getD j e:=by
 rw[aa,aa,List.getElem?_set];by_cases h:j=i
 ·subst h;rw[if_pos rfl,if_pos hi,if_pos rfl];rfl
 ·rw[if_neg (fun z=>h z.symm),if_neg h]
theorem vQ:(pK ls k t).length=ls.length:=by unfold pK;rw[eO,eO]
theorem HV:(Ck ls k c b).length=ls.length:=by unfold Ck;rw[eO,aj]
theorem getD_in {α:Type} {l:List α} {i:Nat} {e:α} (h:i < l.length):l.getD i e∈l:=by
 rw[aa,ag h];exact bE h
theorem DM (w:∀zs∈ls,zs.length=n) (hk:k < ls.length) (ht:t < ls.length):∀zs∈pK ls k t,zs.length=n:=fun zs hz=>by
 unfold pK at hz;rcases cv hz with h | h
 ·rcases cv h with h | h
  ·exact w zs h
  ·rw[h];exact w _ (getD_in ht)
 ·rw[h];exact w _ (getD_in hk)
theorem Em (w:∀zs∈ls,zs.length=n) (hk:k < ls.length):∀zs∈Ck ls k c b,zs.length=n:=fun zs hz=>by
 unfold Ck at hz;rcases cv hz with h | h
 ·obtain ⟨y,hy,rfl⟩:=aA.mp h;rw[ir,w y hy,w _ (getD_in hk)]
  lia
 ·rw[h];exact w _ (getD_in hk)
theorem vf (hk:k < ls.length) (ht:t < ls.length) (i c:Nat):dE (pK ls k t) i c=dE ls (jX k t i) c:=by
 unfold dE pK jX;rw[rX (by rw[eO];exact ht),rX hk];by_cases h1:i=t
 ·rw[if_pos h1];by_cases h2:i=k
  ·rw[if_pos h2,<- h1,<- h2]
  ·rw[if_neg h2,if_pos h1]
 ·rw[if_neg h1];by_cases h2:i=k
  ·rw[if_pos h2,if_pos h2]
  ·rw[if_neg h2,if_neg h2,if_neg h1]
theorem uD (w:∀zs∈ls,zs.length=n) {i c:Nat} (hc:n<=c):dE ls i c=0:=by
 unfold dE;by_cases h:i < ls.length
 ·have:=w _ (getD_in (e:=[]) h);rw[aa (l:=ls.getD i []),aR (by lia)];rfl
 ·rw[aa (l:=ls),aR (by lia)];rfl
theorem rZ {x:Int} (h:(x:Rat)=0):x=0:=by
 have:(x:Rat)=((0:Int):Rat):=h;exact dk.mp this
theorem Dy {x b:Int} {q:Rat} (hb:b≠0) (hq:∃z:Int,q=(z:Rat)) (e:(x:Rat)=(b:Rat)*q):((x.fdiv b:Int):Rat)=q:=by
 obtain ⟨z,rfl⟩:=hq;rw[<- aM] at e;have:=dk.mp e;rw[this,Int.mul_fdiv_cancel_left _ hb]
theorem ve {W:Nat} {q:Rat} (h:Fr 1 W q):∃z:Int,q=(z:Rat):=by
 obtain ⟨z,e,_⟩:=h;exact ⟨z,by rw[<- e];simp⟩
theorem uC {W:Nat} {z:Int} (h:Fr 1 W (z:Rat)):z.natAbs<=W:=by
 obtain ⟨y,e,b⟩:=h;have:(z:Rat)=(y:Rat):=by rw[<- e];simp
 rw[dk.mp this];simpa using b
theorem HH (w:∀zs∈ls,zs.length=n) (hk:k < ls.length) (hb:b≠0) {i:Nat} (hi:i < ls.length) (hz:∀c,∃z:Int,(dE ls k P*dE ls i c - dE ls i P*dE ls k c) / (b:Rat)=(z:Rat)) (c:Nat) :
  dE (Ck ls k P b) i c=if i=k then dE ls k c else (dE ls k P*dE ls i c - dE ls i P*dE ls k c) / (b:Rat):=by
 by_cases e:i=k
 ·rw[if_pos e];unfold dE Ck;rw[rX (by rw[aj];exact hk),if_pos e]
 ·rw[if_neg e];by_cases hc:c < n
  ·have hb':(b:Rat)≠0:=fun z=>hb (rZ z)
   have lk:=w _ (getD_in (e:=[]) hk);have li:=w _ (getD_in (e:=[]) hi)
   have e1:dE (Ck ls k P b) i c=(((((ls.getD k []).getD P 0*(ls.getD i []).getD c 0 - (ls.getD i []).getD P 0*(ls.getD k []).getD c 0).fdiv b:Int)):Rat):=by
    unfold Ck;rw[dE,rX (by rw[aj];exact hk),if_neg e];rw[aa (l:=List.map _ ls),aJ,ag hi];show ((((List.zipWith _ ls[i] (ls.getD k [])).getD c 0:Int)):Rat)=_
    have ei:ls.getD i []=ls[i]:=by rw[aa,ag hi];rfl
    rw[<- ei];rw[aa (l:=List.zipWith _ _ _),fG,aa (l:=ls.getD i []) (i:=c),aa (l:=ls.getD k []) (i:=c),ag (show c < (ls.getD i []).length by lia),ag (show c < (ls.getD k []).length by lia)];rfl
   rw[e1];refine Dy hb (hz c) ?_;rw[yW,aM,aM];show _=(b:Rat)*((dE ls k P*dE ls i c - dE ls i P*dE ls k c) / (b:Rat))
   show dE ls k P*dE ls i c - dE ls i P*dE ls k c=_
   grind
  ·rw[uD (Em w hk) (show n<=c by lia),uD w (i:=i) (show n<=c by lia),uD w (i:=k) (show n<=c by lia)];grind
end
section
variable {m k n P:Nat} {a l l2:Nat->Nat->Rat} {pm p p2:Nat->Nat} {d:Rat}
theorem vN.congr (B:vN a m k pm p l d) (hp:∀j,j < k->p2 j=p j) (hl:∀i,i < m->∀c,l2 i c=l i c):vN a m k pm p2 l2 d where
 inj:=B.inj
 rng:=B.rng
 km:=B.km
 d0:=B.d0
 det:=by rw[B.det,cw_congr (f:=fun j r=>a r (p j)) (g:=fun j r=>a r (p2 j)) fun j hj=>by rw[hp j hj]]
 eqs i hi c:=by
  have km:=B.km;rw[B.eqs i hi c,hl i hi c];congr 1;exact bP fun j hj=>by rw[hp j hj,hl j (by lia) c]
 unit i hi j hj:=by rw[hp j hj,hl i hi];exact B.unit i hi j hj
theorem d7.rows {x:Nat->Rat} (h:∀i,i < m->∀c,l2 i c=l i c) (hx:d7 m l x):d7 m l2 x:=by obtain ⟨w,hw⟩:=hx;exact ⟨w,fun c=>by rw[hw c];exact bP fun t ht=>by rw[h t ht c]⟩
theorem kn.congr (E:kn a m k P p l d) (hp:∀j,j < k->p2 j=p j) (hl:∀i,i < m->∀c,l2 i c=l i c):kn a m k P p2 l2 d where
 km:=E.km
 d0:=E.d0
 unit i hi j hj:=by rw[hp j hj,hl i hi];exact E.unit i hi j hj
 inc i j hij hj:=by rw[hp i (by lia),hp j hj];exact E.inc i j hij hj
 low j hj:=by rw[hp j hj];exact E.low j hj
 zero i h1 h2 c hc:=by rw[hl i h2];exact E.zero i h1 h2 c hc
 lead j hj c hc:=by
  have km:=E.km;rw[hp j hj] at hc;rw[hl j (by lia)];exact E.lead j hj c hc
 there i hi:=(E.there i hi).rows hl
 back i hi:=(E.back i hi).congr fun c=>(hl i hi c).symm
theorem kn.kP (E:kn a m k P p l d):k<=P:=by
 have:∀j,j < k->j<=p j:=by
  intro j
  induction j with
  | zero=>intro _;exact aT _
  | succ j ih =>
   intro hj;have:=ih (by lia);have:=E.inc j (j+1) (by lia) hj
   lia
 rcases m3 k with z | z
 ·lia
 ·have h1:=this (k - 1) (by lia);have h2:=E.low (k - 1) (by lia)
  lia
end
structure Ae (ls0:List (List Int)) (n P:Nat) (ls:List (List Int)) (ps:List Nat) (d:Int):Prop where
 len:ls.length=ls0.length
 wide:∀zs∈ls,zs.length=n
 bar:∃pm,vN (dE ls0) ls0.length ps.length pm (fun j=>ps.getD j 0) (dE ls) d
 el:kn (dE ls0) ls0.length ps.length P (fun j=>ps.getD j 0) (dE ls) d
section
variable {ls0 ls:List (List Int)} {n P:Nat} {ps:List Nat} {d:Int}
theorem Ae.start (w:∀zs∈ls0,zs.length=n):Ae ls0 n 0 ls0 [] 1:=⟨rfl,w,⟨fun i=>i,vN.start fun _ _=>rfl⟩,kn.start⟩
theorem Ae.d0 (h:Ae ls0 n P ls ps d):d≠0:=fun z=>h.el.d0 (by rw[z];rfl)
theorem Ae.skip (h:Ae ls0 n P ls ps d) (hz:∀i,ps.length<=i->i < ls.length->dE ls i P=0):Ae ls0 n (P+1) ls ps d:=⟨h.len,h.wide,h.bar,h.el.skip fun i h1 h2=>hz i h1 (by rw[h.len];exact h2)⟩
theorem getD_snoc {l:List Nat} {x j:Nat} (hj:j < l.length+1):(l++[x]).getD j 0=if j=l.length then x else l.getD j 0:=by
 rw[aa,aa];by_cases e:j=l.length
 ·rw[if_pos e,e,b7 (ar _),tF];rfl
 ·rw[if_neg e,dd (by lia)]
theorem Ae.int {W:Nat} (h:Ae ls0 n P ls ps d) (hW:1<=W) (h0:∀i,i < ls0.length->∀c,Fr 1 W (dE ls0 i c)) {t:Nat} (ht:ps.length<=t) (ht2:t < ls.length) (hne:dE ls t P≠0) :
  ∀i,i < ls.length->i≠ps.length->∀c,∃z:Int,(dE (pK ls ps.length t) ps.length P*dE (pK ls ps.length t) i c - dE (pK ls ps.length t) i P*dE (pK ls ps.length t) ps.length c) / (d:Rat)=(z:Rat):=fun i hi ne c=>by
 obtain ⟨pm,B⟩:=h.bar;have hl:=h.len;have hk:ps.length < ls.length:=by lia
 have B1:=(B.swap ht (by lia)).congr (p2:=fun j=>ps.getD j 0) (l2:=dE (pK ls ps.length t)) (fun _ _=>rfl) (fun i _ c=>vf hk ht2 i c)
 have h1:dE (pK ls ps.length t) ps.length P≠0:=by
  rw[vf hk ht2];unfold jX;rw[if_pos rfl];exact hne
 have B2:=B1.step (c0:=P) (by lia) h1;have:=B2.fr (W:=W) (N:=ps.length+2) (by lia) hW h0 (i:=i) (c:=c) (by lia);rw[if_neg ne] at this;exact ve this
theorem Ae.step {W:Nat} (h:Ae ls0 n P ls ps d) (hW:1<=W) (h0:∀i,i < ls0.length->∀c,Fr 1 W (dE ls0 i c)) {t:Nat} (ht:ps.length<=t) (ht2:t < ls.length) (hne:dE ls t P≠0) :
  Ae ls0 n (P+1) (Ck (pK ls ps.length t) ps.length P d) (ps++[P]) (((Ck (pK ls ps.length t) ps.length P d).getD ps.length []).getD P 0):=by
 obtain ⟨pm,B⟩:=h.bar;have hl:=h.len;have hk:ps.length < ls.length:=by lia
 have hz:=h.int hW h0 ht ht2 hne;have w1:=DM h.wide hk ht2;have k1:ps.length < (pK ls ps.length t).length:=by rw[vQ];exact hk
 have B1:=(B.swap ht (by lia)).congr (p2:=fun j=>ps.getD j 0) (l2:=dE (pK ls ps.length t)) (fun _ _=>rfl) (fun i _ c=>vf hk ht2 i c);have E1:=(h.el.swap ht (by lia)).congr (p2:=fun j=>ps.getD j 0) (l2:=dE (pK ls ps.length t)) (fun _ _=>rfl) (fun i _ c=>vf hk ht2 i c)
 have h1:dE (pK ls ps.length t) ps.length P≠0:=by
  rw[vf hk ht2];unfold jX;rw[if_pos rfl];exact hne
 have B2:=B1.step (c0:=P) (by lia) h1
 have fc:∀i,i < ls0.length->∀c,dE (Ck (pK ls ps.length t) ps.length P d) i c=if i=ps.length then dE (pK ls ps.length t) ps.length c else (dE (pK ls ps.length t) ps.length P*dE (pK ls ps.length t) i c - dE (pK ls ps.length t) i P*dE (pK ls ps.length t) ps.length c) / (d:Rat):=fun i hi c=>by
  by_cases e:i=ps.length
  ·rw[if_pos e];unfold dE Ck;rw[rX (by rw[aj];exact k1),if_pos e]
  ·have:=HH w1 k1 h.d0 (i:=i) (by rw[vQ];lia) (hz i (by lia) e) c;rw[this]
 have ed:(((((Ck (pK ls ps.length t) ps.length P d).getD ps.length []).getD P 0:Int)):Rat)=dE (pK ls ps.length t) ps.length P:=by
  have:=fc ps.length (by lia) P;rw[if_pos rfl] at this;exact this
 have lp:(ps++[P]).length=ps.length+1:=by rw[ao];rfl
 have hp:∀j,j < ps.length+1->(ps++[P]).getD j 0=if j=ps.length then P else ps.getD j 0:=fun j hj=>getD_snoc hj
 refine ⟨by rw[HV,vQ];exact hl,Em w1 k1,⟨fun i=>pm (jX ps.length t i),?_⟩,?_⟩
 ·rw[ed,lp];exact B2.congr hp fc
 ·rw[ed,lp];refine kn.congr (E1.step (d':=dE (pK ls ps.length t) ps.length P) (l':=fun i c=>if i=ps.length then dE (pK ls ps.length t) ps.length c else (dE (pK ls ps.length t) ps.length P*dE (pK ls ps.length t) i c - dE (pK ls ps.length t) i P*dE (pK ls ps.length t) ps.length c) / (d:Rat)) (by lia) h1 B2.unit fun i hi=>?_) hp fc;have d0:=h.el.d0;by_cases e:i=ps.length
  ·refine ⟨1,0,by decide,fun _=>rfl,fun c=>?_⟩;rw[if_pos e,e];grind
  ·refine ⟨dE (pK ls ps.length t) ps.length P / (d:Rat),-(dE (pK ls ps.length t) i P) / (d:Rat),?_,fun z=>absurd z e,fun c=>?_⟩
   ·intro z;apply h1;grind
   ·rw[if_neg e];grind
theorem Ae.sz {W r:Nat} (h:Ae ls0 n P ls ps d) (hW:1<=W) (h0:∀i,i < ls0.length->∀c,Fr 1 W (dE ls0 i c)) (hP:P<=n) (hr:min ls0.length n<=r) (r15:r<=15):(d.natAbs<=(16*W)^r)/\∀zs∈ls,∀z∈zs,z.natAbs<=(16*W)^r:=by
 obtain ⟨pm,B⟩:=h.bar;have kP:=h.el.kP;have km:=B.km;have hl:=h.len;have mono:∀{s t:Nat},s<=t->(16*W)^s<=(16*W)^t:=fun hs=>au (dq (by decide) hW) hs
 refine ⟨ah (uC (B.dfr (W:=W) (N:=16) (by lia) h0)) (mono (by lia)),fun zs hz z hz'=>?_⟩;obtain ⟨i,hi,rfl⟩:=cg hz;obtain ⟨c,hc,rfl⟩:=cg hz';have hw:=h.wide _ (bE hi)
 have ez:dE ls i c=(((ls[i])[c]:Int):Rat):=by
  unfold dE;rw[aa (l:=ls),ag hi];show ((ls[i].getD c 0:Int):Rat)=_
  rw[aa,ag hc];rfl
 by_cases hk:i < ps.length
 ·have:Fr 1 ((16*W)^ps.length) (dE ls i c):=by
   have hd:=B.d0;rw[B.old hk]
   have:=yI (W:=W) (N:=16) (rs:=vW pm ps.length) (vs:=FA (fun j r=>dE ls0 r (ps.getD j 0)) i ps.length++(fun r=>dE ls0 r c) :: p8 (fun j r=>dE ls0 r (ps.getD j 0)) i) (by
    have:=congrArg List.length (cw_split (v:=fun j r=>dE ls0 r (ps.getD j 0)) hk);rw[ao,aQ,cw_len] at this;rw[ao,aQ]
    lia) (by
    intro v hv r hr
    have hr':∀c,Fr 1 W (dE ls0 r c):=fun c=>by
     obtain ⟨t,ht,rfl⟩:=oH hr;exact h0 _ (B.rng t (by lia)) c
    rcases aw.mp hv with hv | hv
    ·obtain ⟨t,_,rfl⟩:=Ci hv;exact hr' _
    ·rcases aB.mp hv with rfl | hv
     ·exact hr' _
     ·obtain ⟨t,_,rfl⟩:=cw_in hv;exact hr' _)
   rwa [rJ] at this
  rw[ez] at this;exact ah (uC this) (mono (by lia))
 ·by_cases hn:ps.length < n
  ·have:=B.fr (W:=W) (N:=16) (by lia) hW h0 (i:=i) (c:=c) (by lia);rw[ez] at this;exact ah (uC this) (mono (by lia))
  ·have:=h.el.zero i (by lia) (by lia) c (by lia);rw[ez] at this;rw[rZ this];exact aT _
end
def Tp (M W:Nat) (q:Rat):Prop:=∃z:Int,q*(M:Rat)=(z:Rat)/\z.natAbs<=W
theorem Tp.of {M V W:Nat} {q:Rat} (h:Fr M V q) (hW:V*M<=W):Tp M W q:=by obtain ⟨z,a,b⟩:=h;exact ⟨z,a,ah b hW⟩
theorem Tp.mono {M W W':Nat} {q:Rat} (h:Tp M W q) (hW:W<=W'):Tp M W' q:=by obtain ⟨z,a,b⟩:=h;exact ⟨z,a,ah b hW⟩
theorem Tp.fr {M W:Nat} {q:Rat} (h:Tp M W q) (h0:0 < M):Fr M W q:=by obtain ⟨z,a,b⟩:=h;exact ⟨z,a,ah b (dr _ h0)⟩
def Et (rows:List (List Rat)) (n w:Nat):Prop:=∃M W:Nat,0 < M/\M<=2^4300/\1<=W/\W<=2^w/\(∀xs∈rows,∀x∈xs,Tp M W x)/\w<=4300/\min rows.length n<=15/\min rows.length n*(w+4)<=8900
def gF (xs:List Rat):List Int:=eU (xs.map nm) (gH (xs.map nm))
theorem oV {xs:List Rat}:(gF xs).length=xs.length:=by unfold gF eU;rw[aj,aj]
theorem o9 {xs:List Rat}:0 < gH (xs.map nm):=yE (by decide) fun b hb=>by
 obtain ⟨n,hn,rfl⟩:=aA.mp hb;obtain ⟨x,_,rfl⟩:=aA.mp hn;exact gM x
theorem Ir {xs:List Rat} {c:Nat}:(((gF xs).getD c 0:Int):Rat)=xs.getD c 0*((gH (xs.map nm):Int):Rat):=by
 unfold gF eU;rw[aa,aa,aJ,aJ];cases e:xs[c]? with
 | none=>show ((0:Int):Rat)=0*_;rw[Rat.zero_mul];rfl
 | some x=>exact rn (pe (aA.mpr ⟨x,ay e,rfl⟩))
section
variable {rows:List (List Rat)} {n w i c:Nat} {xs:List Rat}
theorem wC (hi:i < rows.length):dE (rows.map gF) i c=((gH ((rows.getD i []).map nm):Int):Rat)*b8 rows i c:=by
 unfold dE b8
 have e:(rows.map gF).getD i []=gF (rows.getD i []):=by
  rw[aa,aa,aJ,ag hi];rfl
 rw[e,Ir,gE]
theorem Dx (hw:∀xs∈rows,xs.length=n) (hc:n<=c):b8 rows i c=0:=by
 unfold b8;by_cases h:i < rows.length
 ·have:=hw _ (getD_in (e:=[]) h);rw[aa (l:=rows.getD i []),aR (by lia)];rfl
 ·rw[aa (l:=rows),aR (by lia)];rfl
theorem xo (i:Nat) (hi:i < rows.length):d7 rows.length (dE (rows.map gF)) (b8 rows i):=by
 have h0:((gH ((rows.getD i []).map nm):Int):Rat)≠0:=fun z=>by
  have:=o9 (xs:=rows.getD i []);have:=rZ z
  lia
 refine d7.congr (fun c=>?_) (d7.lin (1 / ((gH ((rows.getD i []).map nm):Int):Rat)) 0 (d7.row (a:=dE (rows.map gF)) hi) (d7.row (a:=dE (rows.map gF)) hi));rw[wC hi];grind
theorem xn (i:Nat) (hi:i < rows.length):d7 rows.length (b8 rows) (dE (rows.map gF) i):=by
 refine d7.congr (fun c=>?_) (d7.lin ((gH ((rows.getD i []).map nm):Int):Rat) 0 (d7.row (a:=b8 rows) hi) (d7.row (a:=b8 rows) hi));rw[wC hi];grind
theorem uo {M W:Nat} {x:Rat} (h:Tp M W x):(nm x).2∣(M:Int):=by
 obtain ⟨z,e,b⟩:=h
 exact Fr.den (V:=z.natAbs) (M:=M) ⟨z,e,by
  rcases m3 M with h | h
  ·subst h;have:(z:Rat)=0:=by rw[<- e];simp
   rw[rZ this];simp
  ·exact dr _ h⟩
theorem vP {M W:Nat} {x:Rat} (h:Tp M W x) (h0:0 < M) {B:Int} (hB:0 < B) (d1:(nm x).2∣B) (d2:B∣(M:Int)):∃t:Int,x*(B:Rat)=(t:Rat)/\t.natAbs<=W:=by
 obtain ⟨z,e,b⟩:=h;obtain ⟨s,es⟩:=d2;refine ⟨(nm x).1*(B / (nm x).2),(rn d1).symm,?_⟩
 have s0:0 < s:=by
  rcases Int.lt_trichotomy s 0 with h | h | h
  ·have:=uK hB h
   lia
  ·rw[h] at es;lia
  ·exact h
 have e2:(((nm x).1*(B / (nm x).2)*s:Int):Rat)=(z:Rat):=by
  rw[aM,rn d1,<- e,<- aU,es,aM];grind
 have e3:=dk.mp e2;have:((nm x).1*(B / (nm x).2)).natAbs*s.natAbs=z.natAbs:=by rw[<- eE,e3]
 have h1:1<=s.natAbs:=by lia
 have:=dr ((nm x).1*(B / (nm x).2)).natAbs h1
 lia
theorem xI {M W:Nat} (h0:0 < M) (h:∀x∈xs,Tp M W x):gH (xs.map nm)∣(M:Int):=xD (by decide) (Int.one_dvd _) fun b hb=>by
 obtain ⟨n,hn,rfl⟩:=aA.mp hb;obtain ⟨x,hx,rfl⟩:=aA.mp hn;exact ⟨gM x,uo (h x hx)⟩
theorem Et.rowM (F:Et rows n w) (hx:xs∈rows):∃M,DE M (xs.map nm):=by
 obtain ⟨M,W,h0,h1,hW,h2,h3,h4,_⟩:=F;refine ⟨M,by lia,?_,fun y hy=>?_⟩
 ·show ((M:Nat):Int).natAbs < 2^4400
  rw[cF];exact aW h1 (eC (by decide) (by decide))
 ·obtain ⟨x,hx',rfl⟩:=aA.mp hy;have t:=h3 xs hx x hx';refine ⟨gM x,uo t,?_⟩;obtain ⟨s,e,b⟩:=vP t h0 (gM x) (EA _) (uo t);have e2:(((nm x).1:Int):Rat)=(s:Rat):=by rw[<- e];exact lM x
  rw[dk.mp e2];exact aW (ah b h2) (eC (by decide) (by lia))
theorem Et.ent (F:Et rows n w):∃W:Nat,1<=W/\W<=2^w/\∀i,i < (rows.map gF).length->∀c,Fr 1 W (dE (rows.map gF) i c):=by
 obtain ⟨M,W,h0,h1,hW,h2,h3,h4,_⟩:=F;refine ⟨W,hW,h2,fun i hi c=>?_⟩;rw[aj] at hi;have hx:=getD_in (e:=[]) hi;rw[wC hi];unfold b8;generalize rows.getD i []=xs at hx ⊢;by_cases hc:c < xs.length
 ·have t:=h3 xs hx _ (getD_in (e:=0) hc);obtain ⟨s,e,b⟩:=vP t h0 (o9 (xs:=xs)) (pe (aA.mpr ⟨_,getD_in (e:=0) hc,rfl⟩)) (xI h0 (h3 xs hx));rw[gE,e];exact Fr.int b
 ·rw[aa,aR (by lia)];show Fr 1 W (_*0)
  rw[oC];exact Fr.zero
end
def bR (rows:List (List Rat)) (n:Nat) (R:List (List Rat)) (ps:List Nat):Prop:=R.length=ps.length/\(∀xs∈R,xs.length=n)/\Af rows.length n (b8 rows) ps.length (fun j=>ps.getD j 0) (b8 R)
structure Nz (rows:List (List Rat)) (n w:Nat) (R:List (List Rat)) (ps:List Nat) (d:Int) (ls:List (List Int)):Prop where
 rr:bR rows n R ps
 d0:d≠0
 len:ls.length=ps.length
 wide:∀zs∈ls,zs.length=n
 val:∀i c,dE ls i c=(d:Rat)*b8 R i c
 dsz:d.natAbs<=2^(min rows.length n*(w+4))
 zsz:∀zs∈ls,∀z∈zs,z.natAbs<=2^(min rows.length n*(w+4))
 tp:∀xs∈R,∀x∈xs,Tp d.natAbs (2^(min rows.length n*(w+4))) x
 km:ps.length<=rows.length
theorem Af.congrR {m n k:Nat} {a R R2:Nat->Nat->Rat} {p:Nat->Nat} (h:Af m n a k p R) (hr:∀i,i < k->∀c,R2 i c=R i c):Af m n a k p R2 :=
 ⟨h.inc,h.low,fun i hi j hj=>by rw[hr i hi];exact h.unit i hi j hj,fun i hi c hc=>by rw[hr i hi];exact h.lead i hi c hc,fun i hi=>(h.span i hi).rows hr,fun i hi=>(h.back i hi).congr fun c=>(hr i hi c).symm⟩
theorem Af.other {m m' n k:Nat} {a a' R:Nat->Nat->Rat} {p:Nat->Nat} (h:Af m n a k p R) (s1:∀i,i < m->d7 m' a' (a i)) (s2:∀i,i < m'->d7 m a (a' i)):Af m' n a' k p R :=
 ⟨h.inc,h.low,h.unit,h.lead,fun i hi=>d7.trans h.span (s2 i hi),fun i hi=>d7.trans s1 (h.back i hi)⟩
theorem vY {W w r : Nat} (h : W ≤ 2 ^ w) : (16 * W) ^ r ≤ 2 ^ (r * (w + 4)) := by
  calc (16 * W) ^ r ≤ (2 ^ (w + 4)) ^ r := lE (by rw [bM]; lia) _
    _ = 2 ^ (r * (w + 4)) := by rw [<- vK, cx]
theorem Ae.done {rows:List (List Rat)} {n w:Nat} {ls:List (List Int)} {ps:List Nat} {d:Int} (h:Ae (rows.map gF) n n ls ps d) (hw:∀xs∈rows,xs.length=n) (F:Et rows n w) :
  ∃R,Nz rows n w R ps d (ls.take ps.length):=by
 obtain ⟨W,hW,W2,ent⟩:=F.ent;obtain ⟨_,_,_,_,_,_,_,_,r15,_⟩:=F;have hl:=h.len;have d0:=h.d0;have d0':(d:Rat)≠0:=fun z=>d0 (rZ z)
 have km:=h.el.km;have hm:(rows.map gF).length=rows.length:=aj ..;obtain ⟨s1,s2⟩:=h.sz (r:=min rows.length n) hW ent (ar _) (by rw[hm];exact ar _) r15;have s2':∀zs∈ls,∀z∈zs,z.natAbs<=2^(min rows.length n*(w+4)):=fun zs hz z hz'=>ah (s2 zs hz z hz') (vY W2)
 have er:∀i c,b8 ((ls.take ps.length).map fun zs=>zs.map fun (z:Int)=>(z:Rat) / (d:Rat)) i c=dE (ls.take ps.length) i c / (d:Rat):=fun i c=>by
  unfold b8 dE;rw[aa (l:=List.map _ _),aJ,aa (l:=List.take _ _)];cases e:(ls.take ps.length)[i]? with
  | none=>show (0:Rat)=((0:Int):Rat) / _;grind
  | some zs =>
   show (zs.map fun (z:Int)=>(z:Rat) / (d:Rat)).getD c 0=((zs.getD c 0:Int):Rat) / (d:Rat)
   rw[aa,aa,aJ];cases e2:zs[c]? with
   | none=>show (0:Rat)=((0:Int):Rat) / _;grind
   | some z=>rfl
 have et:∀i,i < ps.length->∀c,dE (ls.take ps.length) i c=dE ls i c:=fun i hi c=>by
  unfold dE;rw[aa (l:=List.take _ _),vO hi,<- aa]
 have RR:=(h.el.done fun i hi c hc=>uD (n:=n) (fun zs hz=>by
  obtain ⟨xs,hx,rfl⟩:=aA.mp hz;rw[oV];exact hw xs hx) hc).congrR (R2:=b8 ((ls.take ps.length).map fun zs=>zs.map fun (z:Int)=>(z:Rat) / (d:Rat))) fun i hi c=>by rw[er,et i hi]
 rw[hm] at RR;refine ⟨(ls.take ps.length).map fun zs=>zs.map fun (z:Int)=>(z:Rat) / (d:Rat),⟨by rw[aj,dt];lia,fun xs hx=>?_,RR.other xn xo⟩,d0,by rw[dt];lia,fun zs hz=>h.wide zs (cS hz),fun i c=>?_,ah s1 (vY W2),fun zs hz=>s2' zs (cS hz),fun xs hx x hx'=>?_,by lia⟩
 ·obtain ⟨zs,hz,rfl⟩:=aA.mp hx;rw[aj];exact h.wide zs (cS hz)
 ·rw[er];grind
 ·obtain ⟨zs,hz,rfl⟩:=aA.mp hx;obtain ⟨z,hz',rfl⟩:=aA.mp hx';have b:=s2' zs (cS hz) z hz';rcases Cy d with e | e
  ·refine ⟨z,?_,b⟩;have:((d.natAbs:Nat):Rat)=(d:Rat):=by rw[<- aU,<- e]
   rw[this];grind
  ·refine ⟨-z,?_,by rw[oF];exact b⟩;have:((d.natAbs:Nat):Rat)=-(d:Rat):=by rw[<- aU,<- cW];congr 1;lia
   rw[this,cW];grind
theorem HF {R R':List (List Rat)} {n:Nat} (hl:R.length=R'.length) (w1:∀xs∈R,xs.length=n) (w2:∀xs∈R',xs.length=n) (h:∀i,i < R.length->∀c,b8 R i c=b8 R' i c):R=R':=by
 apply kW hl;intro i h1 h2;apply kW (by rw[w1 _ (bE h1),w2 _ (bE h2)]);intro c h3 h4;have:=h i h1 c;unfold b8 at this;rw[aa (l:=R),aa (l:=R'),ag h1,ag h2] at this;have this:(R[i]).getD c 0=(R'[i]).getD c 0:=this;rw[aa,aa,ag h3,ag h4] at this;exact this
theorem bR.uniq {rows rows' R R':List (List Rat)} {n:Nat} {ps ps':List Nat} (h:bR rows n R ps) (h':bR rows' n R' ps') (s1:∀i,i < rows.length->d7 rows'.length (b8 rows') (b8 rows i)) (s2:∀i,i < rows'.length->d7 rows.length (b8 rows) (b8 rows' i)):R=R'/\ps=ps':=by
 obtain ⟨l1,w1,r1⟩:=h;obtain ⟨l2,w2,r2⟩:=h';obtain ⟨ek,ep,eR⟩:=r1.uniq r2 s1 s2;refine ⟨HF (by lia) w1 w2 fun i hi c=>eR i (by lia) c,?_⟩;apply kW ek;intro j h1 h2;have:=ep j h1;rw[aa,aa,ag h1,ag h2] at this;exact this
theorem bR.same {rows R R':List (List Rat)} {n:Nat} {ps ps':List Nat} (h:bR rows n R ps) (h':bR rows n R' ps'):R=R'/\ps=ps':=h.uniq h' (fun _ hi=>d7.row hi) (fun _ hi=>d7.row hi)
open PySem PySem.Spec PyProof.Rows
def Eu (l:Addr) (H:Hp) (zs:List Int) (v:V):Prop:=∃q,v=V.ref q/\q≠l/\H q=some (.lst (zs.map V.int))
def so (l:Addr) (H:Hp) (p:Addr) (ls:List (List Int)):Prop:=p≠l/\∃xs,H p=some (.lst xs)/\Paired (Eu l H) ls xs
theorem Eu.same {l:Addr} {H H':Hp} {zs:List Int} {v:V} (h:Eu l H zs v) (e:aF H H'):Eu l H' zs v:=by obtain ⟨q,a,n,b⟩:=h;exact ⟨q,a,n,e _ _ b⟩
theorem Eu.upd {l:Addr} {H:Hp} {zs:List Int} {v:V} {o:HO} (h:Eu l H zs v):Eu l (upd H l o) zs v:=by obtain ⟨q,a,n,b⟩:=h;exact ⟨q,a,n,by rw[be n];exact b⟩
theorem so.upd {l:Addr} {H:Hp} {p:Addr} {ls:List (List Int)} {o:HO} (h:so l H p ls):so l (upd H l o) p ls:=by obtain ⟨n,xs,a,b⟩:=h;exact ⟨n,xs,by rw[be n];exact a,Paired.imp' (fun _ _ z=>z.upd) b⟩
theorem ne_old {H:Hp} {l r:Addr} (h:H l≠none) (n:H r=none):r≠l:=fun z=>h (by rw[<- z];exact n)
theorem m8 {α β:Type} {F:α->β->Prop}:∀{l1:List α} {l2:List β} (_:Paired F l1 l2) (i:Nat) {x:α} {y:β},F x y->Paired F (l1.set i x) (l2.set i y)
 | _,_,.nil,_,_,_,_=>.nil
 | _,_,.cons _ r,0,_,_,h=>.cons h r
 | _,_,.cons a r,i+1,_,_,h=>.cons a (m8 r i h)
theorem Kp {ls:List (List Int)} {i c:Nat} {zs:List Int} (h:ls[i]?=some zs):dE ls i c=((zs.getD c 0:Int):Rat):=by
 unfold dE;rw[aa (l:=ls),h];rfl
theorem Nf {z:Int}:((z:Int):Rat)≠0↔z≠0:=⟨fun h e=>h (by rw[e];rfl),fun h e=>h (rZ e)⟩
theorem Bq {zs:List Int} {c:Nat} (h:c < zs.length):DB (zs.map V.int) (c:Int)=some (V.int (zs.getD c 0)):=dR (by rw[aJ,aa,ag h];rfl)
def EV:Sp:=fun vs H Q _=>∃(l p:Addr) (ls:List (List Int)) (b c:Nat),vs=[.ref p,.int b,.int c]/\so l H p ls/\ls.length<=1000/\b<=1000/\(∀zs∈ls,c < zs.length)/\(∀t:Nat,b<=t->t < ls.length->dE ls t c≠0->Q (.int t) H)/\((∀t,b<=t->t < ls.length->dE ls t c=0)->Q .non H)
def BA:Sp:=fun vs H Q _=>∃(l p:Addr) (ls:List (List Int)) (t k:Nat),vs=[.ref p,.int t,.int k]/\H l≠none/\so l H p ls/\ls.length<=1000/\t < ls.length/\k < ls.length/\∀r H',H r=none->aF H H'->so l H' r (pK ls k t)->Q (.ref r) H'
def EW:Sp:=fun vs H Q _=>∃(l p:Addr) (ls:List (List Int)) (k c n:Nat) (b:Int),vs=[.ref p,.int k,.int c,.int b]/\H l≠none/\so l H p ls/\ls.length<=1000/\k < ls.length/\(∀zs∈ls,zs.length=n)/\n<=1000/\c < n/\b≠0/\Sz 8999 b/\(∀zs∈ls,∀z∈zs,Sz 8999 z)/\∀r H',H r=none->aF H H'->so l H' r (Ck ls k c b)->Q (.ref r) H'
theorem GC (K:PySem.W.Frag) {X:Cx} {a b:Expr} {ta:TA} {p pos tpos:Pos} {elts:List Expr} {kk:Nat} (hg:Gl X "zip") (hm:X.mg "zip"=none) (ha:PA X [a,b] ta) (hK:X.K=K:=by rfl) (hs:starEach [a,b] X.env=[(false,eval a X.env),(false,eval b X.env)]:=by rfl) (hs2:starEach [b] X.env=[(false,eval b X.env)]:=by rfl) :
  PI X (.Tuple elts kk tpos) (.Call (.Name "zip" p) [a,b] [] pos) (Lr K ta):=by subst hK;exact AE hg hm ha hs hs2
def dP (ps:List Nat):List V:=ps.map fun (j:Nat)=>V.int (j:Int)
def EG (K:PySem.W.Frag):Sp:=fun vs H Q _=>∃(p:Addr) (n w:Nat) (H0:Hp) (rows:List (List Rat)),vs=[.ref p,.int n]/\bF K H0 H p rows/\rows.length<=100/\n<=100/\(∀xs∈rows,xs.length=n)/\Et rows n w /\
 ∀t lp qp R ps d ls H',H' t=some (.tup [.ref lp,.ref qp])->H' qp=some (.lst (dP ps))->so qp H' lp ls->aF H H'->Nz rows n w R ps d ls->Q (.ref t) H'
def Bx (K:PySem.W.Frag):Sp:=fun vs H Q _=>∃(p:Addr) (n w:Nat) (H0:Hp) (rows:List (List Rat)),vs=[.ref p,.int n]/\bF K H0 H p rows/\rows.length<=100/\n<=100/\(∀xs∈rows,xs.length=n)/\Et rows n w /\
 ∀r R ps M H',H r=none->aF H H'->bF K H H' r R->bR rows n R ps->ps.length<=rows.length->0 < M->M<=2^(min rows.length n*(w+4))->(∀xs∈R,∀x∈xs,Tp M (2^(min rows.length n*(w+4))) x)->Q (.ref r) H'
def xk (rows:List (List Rat)) (i:Nat):Rat:=((gH ((rows.getD i []).map nm):Int):Rat)
theorem vq {rows:List (List Rat)} {i:Nat}:xk rows i≠0:=fun z=>by
 have:=o9 (xs:=rows.getD i []);have:=rZ z
 lia
structure xa (rows:List (List Rat)) (n P:Nat) (rs:List (List Rat)) (ps:List Nat):Prop where
 len:rs.length=rows.length
 wide:∀xs∈rs,xs.length=n
 ex:∃pm l d,vN (dE (rows.map gF)) rows.length ps.length pm (fun j=>ps.getD j 0) l d/\kn (dE (rows.map gF)) rows.length ps.length P (fun j=>ps.getD j 0) l d/\∀i,i < rows.length->∀c,b8 rs i c=l i c / (d*if i < ps.length then 1 else xk rows (pm i))
section
variable {rows rs rs':List (List Rat)} {n P w a:Nat} {ps:List Nat}
theorem GW {d:Rat} {k i j:Nat} (h:d≠0):d*(if i < k then 1 else xk rows j)≠0:=by
 have:=vq (rows:=rows) (i:=j)
 split <;> grind
theorem xa.start (hw:∀xs∈rows,xs.length=n):xa rows n 0 rows []:=⟨rfl,hw,fun i=>i,dE (rows.map gF),1,vN.start fun _ _=>rfl,kn.start,fun i hi c=>by
 rw[wC hi,if_neg (by show ¬i < 0;lia)];have:=vq (rows:=rows) (i:=i);show b8 rows i c=xk rows i*b8 rows i c / (1*xk rows i)
 grind⟩
theorem xa.skip (h:xa rows n P rs ps) (hz:∀i,ps.length<=i->i < rs.length->b8 rs i P=0):xa rows n (P+1) rs ps:=by
 obtain ⟨len,wide,pm,l,d,B,E,v⟩:=h;refine ⟨len,wide,pm,l,d,B,E.skip fun i h1 h2=>?_,v⟩;have:=v i h2 P;rw[hz i h1 (by lia)] at this;have ne:=GW (rows:=rows) (i:=i) (j:=pm i) (k:=ps.length) B.d0;generalize d*(if i < ps.length then 1 else xk rows (pm i))=D at this ne;grind
theorem xa.km (h:xa rows n P rs ps):ps.length<=rows.length/\ps.length<=P:=by obtain ⟨_,_,_,_,_,_,E,_⟩:=h;exact ⟨E.km,E.kP⟩
theorem xa.step (h:xa rows n P rs ps) {t:Nat} (ht:ps.length<=t) (ht2:t < rs.length) (hne:b8 rs t P≠0) (l':rs'.length=rows.length) (w':∀xs∈rs',xs.length=n)
  (hv:∀i,i < rows.length->∀c,b8 rs' i c=if i=ps.length then 1 / b8 rs t P*b8 rs t c else b8 rs (jX ps.length t i) c - b8 rs (jX ps.length t i) P*(1 / b8 rs t P*b8 rs t c)):xa rows n (P+1) rs' (ps++[P]):=by
 obtain ⟨len,wide,pm,l,d,B,E,v⟩:=h;have hk:ps.length < rows.length:=by lia
 have B1:=B.swap ht (by lia);have E1:=E.swap ht (by lia);have d0:=B.d0
 have v1:∀i,i < rows.length->∀c,b8 rs (jX ps.length t i) c=l (jX ps.length t i) c / (d*if i < ps.length then 1 else xk rows (pm (jX ps.length t i))):=fun i hi c=>by
  rw[v _ (tJ hk (by lia) hi) c];by_cases z:i < ps.length
  ·rw[uu ht z,if_pos z]
  ·rw[if_neg z,if_neg (by have:=uL ht (show ps.length<=i by lia);lia)]
 have sk:jX ps.length t ps.length=t:=by unfold jX;rw[if_pos rfl]
 have vt:∀c,b8 rs t c=l (jX ps.length t ps.length) c / (d*xk rows (pm (jX ps.length t ps.length))):=fun c=>by
  have:=v1 ps.length hk c;rw[if_neg (by lia),sk] at this;rw[sk];exact this
 have bt:=vq (rows:=rows) (i:=pm (jX ps.length t ps.length));have h1:l (jX ps.length t ps.length) P≠0:=fun z=>hne (by rw[vt P,z];grind)
 have B2:=B1.step (c0:=P) hk h1;have lp:(ps++[P]).length=ps.length+1:=by rw[ao];rfl
 have hp:∀j,j < ps.length+1->(ps++[P]).getD j 0=if j=ps.length then P else ps.getD j 0:=fun j hj=>getD_snoc hj
 refine ⟨l',w',fun i=>pm (jX ps.length t i),_,_,by rw[lp];exact B2.congr (l2:=fun i c=>if i=ps.length then l (jX ps.length t ps.length) c else (l (jX ps.length t ps.length) P*l (jX ps.length t i) c - l (jX ps.length t i) P*l (jX ps.length t ps.length) c) / d) hp (fun _ _ _=>rfl),?_,fun i hi c=>?_⟩
 ·rw[lp];refine kn.congr (E1.step (d':=l (jX ps.length t ps.length) P) (l':=fun i c=>if i=ps.length then l (jX ps.length t ps.length) c else (l (jX ps.length t ps.length) P*l (jX ps.length t i) c - l (jX ps.length t i) P*l (jX ps.length t ps.length) c) / d) hk h1 B2.unit fun i hi=>?_) hp (fun _ _ _=>rfl);by_cases e:i=ps.length
  ·refine ⟨1,0,by decide,fun _=>rfl,fun c=>?_⟩;rw[if_pos e,e];grind
  ·refine ⟨l (jX ps.length t ps.length) P / d,-(l (jX ps.length t i) P) / d,?_,fun z=>absurd z e,fun c=>?_⟩
   ·intro z;apply h1;grind
   ·rw[if_neg e];grind
 ·rw[hv i hi c,lp,vt c,vt P];by_cases e:i=ps.length
  ·rw[if_pos e,if_pos e,if_pos (by lia)];grind
  ·rw[if_neg e,if_neg e,v1 i hi c,v1 i hi P];have ne:=GW (rows:=rows) (i:=i) (j:=pm (jX ps.length t i)) (k:=ps.length) d0;by_cases z:i < ps.length
   ·rw[if_pos z,if_pos (by lia)];grind
   ·have bi:=vq (rows:=rows) (i:=pm (jX ps.length t i));rw[if_neg z,if_neg (by lia)];grind
theorem xa.done (h:xa rows n n rs ps) (hw:∀xs∈rows,xs.length=n):bR rows n (rs.take ps.length) ps:=by
 obtain ⟨len,wide,pm,l,d,B,E,v⟩:=h;have km:=E.km;refine ⟨by rw[dt];lia,fun xs hx=>wide xs (cS hx),Af.other ((E.done fun i hi c hc=>?_).congrR fun i hi c=>?_) xn xo⟩
 ·exact uD (n:=n) (fun zs hz=>by
   obtain ⟨xs,hx,rfl⟩:=aA.mp hz;rw[oV];exact hw xs hx) hc
 ·have e:b8 (rs.take ps.length) i c=b8 rs i c:=by
   unfold b8;rw[aa (l:=List.take _ _),vO hi,<- aa]
  rw[e,v i (by lia) c,if_pos hi,Rat.mul_one]
def Ki (rows:List (List Rat)) (n w a:Nat):Prop:=∃M W:Nat,0 < M/\M<=2^a/\1<=W/\W<=2^w/\(∀xs∈rows,∀x∈xs,Tp M W x)/\min rows.length n<=15/\2*(min rows.length n*(w+4)+a)<=3990
theorem Ki.ent (F:Ki rows n w a):∃W:Nat,1<=W/\W<=2^w/\∀i,i < rows.length->∀c,Fr 1 W (dE (rows.map gF) i c):=by
 obtain ⟨M,W,h0,h1,hW,h2,h3,_⟩:=F;refine ⟨W,hW,h2,fun i hi c=>?_⟩;have hx:=getD_in (e:=[]) hi;rw[wC hi];unfold b8;generalize rows.getD i []=xs at hx ⊢;by_cases hc:c < xs.length
 ·have t:=h3 xs hx _ (getD_in (e:=0) hc);obtain ⟨s,e,b⟩:=vP t h0 (o9 (xs:=xs)) (pe (aA.mpr ⟨_,getD_in (e:=0) hc,rfl⟩)) (xI h0 (h3 xs hx));rw[gE,e];exact Fr.int b
 ·rw[aa,aR (by lia)];show Fr 1 W (_*0)
  rw[oC];exact Fr.zero
theorem Ki.bot (F:Ki rows n w a) {i:Nat} (hi:i < rows.length):∃b:Nat,0 < b/\b<=2^a/\xk rows i=(b:Rat):=by
 obtain ⟨M,W,h0,h1,hW,h2,h3,_⟩:=F;have hx:=getD_in (e:=[]) hi;have p:=o9 (xs:=rows.getD i []);have dv:=xI h0 (h3 _ hx);refine ⟨(gH ((rows.getD i []).map nm)).natAbs,by lia,ah (jz h0 ?_) h1,?_⟩
 ·have:=dX.mpr dv;rwa [cF] at this
 ·unfold xk;rw[<- aU];congr 1
  lia
theorem Kr {l D:Rat} {z y:Int} {W:Nat} (hl:l=(z:Rat)) (hD:D=(y:Rat)) (h0:D≠0) (hz:z.natAbs<=W):Tp y.natAbs W (l / D):=by
 rcases Cy y with e | e
 ·refine ⟨z,?_,hz⟩;have:((y.natAbs:Nat):Rat)=D:=by rw[<- aU,<- e,hD]
  rw[this,hl];grind
 ·refine ⟨-z,?_,by rw[oF];exact hz⟩;have:((y.natAbs:Nat):Rat)=-D:=by rw[<- aU,hD,<- cW];congr 1;lia
  rw[this,hl,cW];grind
theorem xa.sz (h:xa rows n P rs ps) (F:Ki rows n w a) (hP:P<=n) {i:Nat} (hi:i < rows.length):∃D:Nat,0 < D/\D<=2^(min rows.length n*(w+4)+a)/\∀c,Tp D (2^(min rows.length n*(w+4))) (b8 rs i c):=by
 obtain ⟨len,wide,pm,l,d,B,E,v⟩:=h;obtain ⟨W,hW,W2,ent⟩:=F.ent;obtain ⟨_,_,_,_,_,_,_,r15,_⟩:=id F;have kP:=E.kP;have km:=B.km;have mono:∀{s t:Nat},s<=t->(16*W)^s<=(16*W)^t:=fun hs=>au (dq (by decide) hW) hs
 obtain ⟨y,ey⟩:=ve (B.dfr (W:=W) (N:=16) (by lia) ent);have hy:=B.dfr (W:=W) (N:=16) (by lia) ent;rw[ey] at hy;have yb:y.natAbs<=2^(min rows.length n*(w+4)):=ah (uC hy) (ah (mono (show ps.length<=min rows.length n by lia)) (vY W2));have y0:y≠0:=fun z=>B.d0 (by rw[ey,z];rfl)
 have lb:∀c,∃z:Int,l i c=(z:Rat)/\z.natAbs<=2^(min rows.length n*(w+4)):=fun c=>by
  by_cases hk:i < ps.length
  ·have f:Fr 1 ((16*W)^ps.length) (l i c):=by
    rw[B.old hk]
    have:=yI (W:=W) (N:=16) (rs:=vW pm ps.length) (vs:=FA (fun j r=>dE (rows.map gF) r (ps.getD j 0)) i ps.length++(fun r=>dE (rows.map gF) r c) :: p8 (fun j r=>dE (rows.map gF) r (ps.getD j 0)) i) (by
     have:=congrArg List.length (cw_split (v:=fun j r=>dE (rows.map gF) r (ps.getD j 0)) hk);rw[ao,aQ,cw_len] at this;rw[ao,aQ]
     lia) (by
     intro v hv r hr
     have hr':∀c,Fr 1 W (dE (rows.map gF) r c):=fun c=>by
      obtain ⟨t,ht,rfl⟩:=oH hr;exact ent _ (B.rng t (by lia)) c
     rcases aw.mp hv with hv | hv
     ·obtain ⟨t,_,rfl⟩:=Ci hv;exact hr' _
     ·rcases aB.mp hv with rfl | hv
      ·exact hr' _
      ·obtain ⟨t,_,rfl⟩:=cw_in hv;exact hr' _)
    rwa [rJ] at this
   obtain ⟨z,ez⟩:=ve f;rw[ez] at f;exact ⟨z,ez,ah (uC f) (ah (mono (by lia)) (vY W2))⟩
  ·by_cases hn:ps.length < n
   ·have f:=B.fr (W:=W) (N:=16) (by lia) hW ent (i:=i) (c:=c) hi;obtain ⟨z,ez⟩:=ve f;rw[ez] at f;exact ⟨z,ez,ah (uC f) (ah (mono (by lia)) (vY W2))⟩
   ·refine ⟨0,?_,aT _⟩;by_cases hc:c < n
    ·rw[E.zero i (by lia) hi c (by lia)];rfl
    ·have:=v i hi c;rw[Dx wide (by lia)] at this;have ne:=GW (rows:=rows) (i:=i) (j:=pm i) (k:=ps.length) B.d0;generalize d*(if i < ps.length then 1 else xk rows (pm i))=D at this ne;show l i c=0
     grind
 obtain ⟨b,b0,b1,eb⟩:∃b:Nat,0 < b/\b<=2^a/\(if i < ps.length then 1 else xk rows (pm i))=(b:Rat):=by
  by_cases hk:i < ps.length
  ·exact ⟨1,by decide,bG,by rw[if_pos hk];rfl⟩
  ·obtain ⟨b,x1,x2,x3⟩:=F.bot (B.rng i hi);exact ⟨b,x1,x2,by rw[if_neg hk,x3]⟩
 have eD:d*(b:Rat)=((y*b:Int):Rat):=by rw[aM,ey,aU]
 refine ⟨(y*b).natAbs,?_,?_,fun c=>?_⟩
 ·rw[eE,cF];exact dq (by lia) b0
 ·rw[eE,cF,bM];exact aK yb b1
 ·obtain ⟨z,ez,bz⟩:=lb c;rw[v i hi c,eb];refine Kr ez eD (fun q=>?_) bz;rw[eD] at q;have:=rZ q;rcases Int.mul_eq_zero.mp this with q | q
  ·exact y0 q
  ·lia
end
theorem uq {M W:Nat} {x:Rat} (h:Tp M W x) (h0:0 < M) (h1:M<=2^3995) (h2:W<=2^3995):qW x:=by
 refine ⟨?_,?_⟩
 ·obtain ⟨s,e,b⟩:=vP h h0 (gM x) (EA _) (uo h);have e2:(((nm x).1:Int):Rat)=(s:Rat):=by rw[<- e];exact lM x
  rw[dk.mp e2];exact aW (ah b h2) (eC (by decide) (by decide))
 ·have:=jz h0 (nH.mp (uo h));show ((x.den:Nat):Int).natAbs < _
  rw[cF];exact aW (ah this h1) (eC (by decide) (by decide))
theorem Tp.mul {M W M' W':Nat} {x y:Rat} (h:Tp M W x) (h':Tp M' W' y):Tp (M*M') (W*W') (x*y):=by
 obtain ⟨z,e,b⟩:=h;obtain ⟨z',e',b'⟩:=h';refine ⟨z*z',?_,by rw[eE];exact aK b b'⟩;rw[aM,<- e,<- e',yV];grind
theorem Iw {x:Rat} (h:qW x) (h0:x≠0):qW (1 / x):=by
 have n0:x.num≠0:=fun z=>h0 (Rat.num_eq_zero.mp z)
 have e:=lM x;have e1:(1 / x)*(x.num:Rat)=(x.den:Rat):=by rw[e];grind
 have t:Tp x.num.natAbs x.den (1 / x):=by
  rcases Cy x.num with q | q
  ·refine ⟨x.den,?_,by simp⟩;have:((x.num.natAbs:Nat):Rat)=(x.num:Rat):=by rw[<- aU,<- q]
   rw[this,e1,aU]
  ·refine ⟨-(x.den:Int),?_,by simp⟩;have:((x.num.natAbs:Nat):Rat)=-(x.num:Rat):=by rw[<- aU,<- cW];congr 1;lia
   rw[this,cW,aU,<- e1];grind
 obtain ⟨h1,h2⟩:=h;have h1:x.num.natAbs < 2^4000:=h1;have h2:((x.den:Nat):Int).natAbs < 2^4000:=h2;rw[cF] at h2;refine ⟨?_,?_⟩
 ·obtain ⟨s,e,b⟩:=vP t (by lia) (gM (1 / x)) (EA _) (uo t);have e2:(((nm (1 / x)).1:Int):Rat)=(s:Rat):=by rw[<- e];exact lM (1 / x)
  rw[dk.mp e2];exact aW b h2
 ·have:=jz (show 0 < x.num.natAbs by lia) (nH.mp (uo t));show (((1 / x).den:Nat):Int).natAbs < _
  rw[cF];exact aW this h1
def By (K:PySem.W.Frag):Sp:=fun vs H Q _=>∃(u v:V) (x y:Rat),vs=[u,v]/\cf K H x u/\cf K H y v/\qW x/\qW y/\y≠0/\∀r H',aF H H'->cf K H' (x / y) (.ref r)->Q (.ref r) H'
theorem BO {K:PySem.W.Frag} {vs:List V} {H:Hp} {Q:VK} {E:XK} (h:By K vs H Q E):IC K vs H Q E:=by
 obtain ⟨u,v,x,y,rfl,⟨p,rfl,hp⟩,⟨q,rfl,hq⟩,⟨s1,s2⟩,⟨s3,s4⟩,y0,k⟩:=h;have n0:(nm y).1≠0:=fun z=>y0 (Rat.num_eq_zero.mp z)
 have px:=gM x;have py:=gM y;have e1:=pR x;have e2:=pR y;have dx:(((nm x).2:Int):Rat)≠0:=fun z=>by have:=rZ z;lia
 have dy:(((nm y).2:Int):Rat)≠0:=fun z=>by have:=rZ z;lia
 refine ⟨p,q,_,_,_,_,rfl,hp,hq,px,py,n0,s1,s2,s3,s4,fun r H' s g=>k r H' s (cf.mk g ?_)⟩;by_cases hc:(nm y).1 < 0
 ·rw[if_pos hc,if_pos hc];refine pV (by have:=uK px hc;lia) ?_;rw[yW,yW,aM,aM,e1,e2];show x / y*(((0:Int):Rat) - _)=((0:Int):Rat) - _
  grind
 ·rw[if_neg hc,if_neg hc];refine pV (iO px (by lia)) ?_;rw[aM,aM,e1,e2];grind
def EO (K:PySem.W.Frag):Sp:=fun vs H Q _=>∃(p q:Addr) (xs ys:List Rat),vs=[.ref p,.ref q]/\dC K H p xs/\dC K H q ys/\ys.length=xs.length/\xs.length<=1000/\(∀x∈xs,qW x)/\(∀y∈ys,qW y) /\
 ∀r H',H r=none->aF H H'->dC K H' r (List.zipWith (fun x y=>x - y) xs ys)->Q (.ref r) H'
theorem HC {xs ys:List Rat} {c:Nat} (h:xs.length=ys.length):(List.zipWith (fun x y=>x - y) xs ys).getD c 0=xs.getD c 0 - ys.getD c 0:=by
 rw[aa,aa,aa,fG];by_cases hc:c < xs.length
 ·rw[ag hc,ag (show c < ys.length by lia)];rfl
 ·rw[aR (by lia),aR (by lia)];show (0:Rat)=0 - 0
  grind
theorem zT {xs:List Rat} {c:Nat} {q:Rat}:(xs.map fun y=>q*y).getD c 0=q*xs.getD c 0:=by
 rw[aa,aa,aJ];cases xs[c]? with
 | none=>show (0:Rat)=q*0;grind
 | some x=>rfl
def FZ (K:PySem.W.Frag):Sp:=fun vs H Q _=>∃(p:Addr) (n:Nat) (H0:Hp) (R:List (List Rat)) (ps:List Nat),vs=[.ref p]/\bF K H0 H p R/\R.length<=100/\n<=100/\(∃rows,bR rows n R ps) /\
 ∀r H',H r=none->aF H H'->H' r=some (.lst (dP ps))->Q (.ref r) H'
theorem CB {xs ys:List Rat} (h:ys.length=xs.length):List.zipWith (fun x y=>x - y) xs ys=(List.range xs.length).map fun i=>xs.getD i 0 - ys.getD i 0:=by
 apply Ez;intro i;rw[fG,aJ];by_cases hi:i < xs.length
 ·rw[lF hi,ag hi,ag (show i < ys.length by lia)];simp [aa,ag hi,ag (show i < ys.length by lia)]
 ·rw[aR (show (List.range xs.length).length<=i by simp;lia),aR (show xs.length<=i by lia)];rfl
theorem Fm {K:PySem.W.Frag} {H0 H H':Hp} {q:Addr} {rows:List (List Rat)} {vs:List V} (pr:Paired (cM K H0 H) rows vs) (s:aF H H') (n:H q=none) (g:H' q=some (.lst vs)):bF K H0 H' q rows :=
 ⟨vs,g,Paired.imp' (fun _ _ z=>z.same s) pr,fun z=>by
  obtain ⟨_,_,q',e,_,_,g',_⟩:=df pr z;cases e;rw[n] at g';cases g'⟩
theorem Iv:qW 1:=uq (M:=1) (W:=1) ⟨1,by simp,by decide⟩ (by decide) bG bG
theorem bR.le {rows R:List (List Rat)} {n:Nat} {ps:List Nat} (h:bR rows n R ps):ps.length<=n:=by
 obtain ⟨_,_,rr⟩:=h;rcases bV n ps.length with z | z
 ·have inc:∀j,j < ps.length->j<=ps.getD j 0:=by
   intro j
   induction j with
   | zero=>intro _;exact aT _
   | succ j ih =>
    intro hj;have:=ih (by lia);have:=rr.inc j (j+1) (by lia) hj
    lia
  have h1:=inc (ps.length - 1) (by lia);have h2:=rr.low (ps.length - 1) (by lia)
  lia
 ·exact z
theorem Tp.zero {M W:Nat}:Tp M W 0:=⟨0,by simp,by simp⟩
theorem Tp.add {M W W':Nat} {x y:Rat} (h:Tp M W x) (h':Tp M W' y):Tp M (W+W') (x+y):=by
 obtain ⟨z,e,b⟩:=h;obtain ⟨z',e',b'⟩:=h';refine ⟨z+z',?_,ah (Int.natAbs_add_le _ _) (Nat.add_le_add b b')⟩;rw[yX,<- e,<- e'];grind
theorem Tp.sum {M W:Nat} {f:Nat->Rat}:∀{k:Nat},(∀j,j < k->Tp M W (f j))->Tp M (k*W) (bX k f)
 | 0,_=>Tp.zero
 | k+1,h=>by
  have:=(Tp.sum (k:=k) fun j hj=>h j (by lia)).add (h k (by lia));exact this.mono (by rw[tE];exact ar _)
theorem Ap {M W:Nat} {xs:List Rat} (h:∀x∈xs,Tp M W x) (c:Nat):Tp M W (xs.getD c 0):=by
 by_cases hc:c < xs.length
 ·exact h _ (getD_in hc)
 ·rw[aa,aR (by lia)];exact Tp.zero
theorem JM {M W:Nat} {R:List (List Rat)} (h:∀xs∈R,∀x∈xs,Tp M W x) (i c:Nat):Tp M W (b8 R i c):=by
 unfold b8;by_cases hi:i < R.length
 ·exact Ap (h _ (getD_in hi)) c
 ·rw[aa (l:=R),aR (by lia)];exact Tp.zero
theorem Fp {K:PySem.W.Frag} {l:Addr} {xs:List V} {g:TG} {tf:TT} {te:TE} {Q:VK} {σ₀:St} {H:Hp} (Pv:Nat->List V->Hp->Prop) (hz:xs.length<=sizeLine) (h0:Pv 0 [] H) (hl:∀i ys H,i<=xs.length->Pv i ys H->bJ K H l xs)
  (hs:∀i x ys H p,xs[i]?=some x->ys.length<=i->Pv i ys H->H p=none->rz σ₀ g tf te (.ref p) (upd H p (.tup [.int i,x])) (fun y H'=>Pv (i+1) (ys++[y]) H') (fun H'=>Pv (i+1) ys H'))
  (hd:∀ys H,ys.length<=xs.length->Pv xs.length ys H->∀p,H p=none->Q (.ref p) (upd H p (.lst ys))):sH (LM K l) σ₀ g tf te Q H:=by
 refine ⟨fun i m ys H=>m=xs.length - i/\i<=xs.length/\ys.length<=i/\Pv i ys H,⟨xs.length,by simp,aT _,aT _,h0⟩,?_⟩;rintro i m ys H ⟨rfl,hi,hy,p⟩;have q1:=hl i ys H hi p;by_cases hlt:i < xs.length
 ·refine .inr ⟨⟨xs,xs[i],q1,by simp [hlt]⟩,by lia,fun y H'=>Pv (i+1) (ys++[y]) H',fun H'=>Pv (i+1) ys H',fun y H' p'=>⟨xs.length - (i+1),by lia,rfl,hlt,by rw[ao,bc];lia,p'⟩,fun H' p'=>⟨xs.length - (i+1),by lia,rfl,hlt,by lia,p'⟩,fun x H' y=>?_⟩;obtain ⟨r,x',rfl,hr,rfl,e1⟩:=y;exact hs i x' ys _ r (e1 xs q1) hy p hr
 ·have e:i=xs.length:=by lia
  subst e;exact .inl ⟨⟨xs,q1,ar _⟩,by lia,hd ys H hy p⟩
section
variable {X:Cx}
theorem Fs (hc:X.calm=true):sI X (.builtin "min") (fun xs H Q=>∃(p:Addr) (ns:List Int),xs=[.ref p]/\bJ X.K H p (ns.map V.int)/\0 < ns.length/\∀M,M∈ns->(∀a,a∈ns->M<=a)->Q (.int M) H):=by
 intro pins s σ H xs us Q I r h;obtain ⟨p,ns,rfl,hp,hne,q⟩:=h;obtain ⟨u,rfl,ru⟩:=vals1 r;cases ru;obtain ⟨its,r2,pl,_⟩:=I.list hp;have hi:=intsAre_of r2;have hl:=pl.isList;obtain ⟨xs,e⟩:=hi.allInts.items
 have hns:ns=xs.toList.map (·.1):=by
  rw[<- hi.numsOf,<- nums_intItems,<- e]
 have hsz:0 < xs.size:=by
  have h3:=hne;rw[hns,aj,Array.length_toList] at h3;exact h3
 rw[e] at hl;refine min_intList (I.ok.hd hc) hl hsz fun v h' tk hv hk=>?_
 obtain ⟨t,rfl⟩:=intItems_at hv;obtain ⟨h1,h2⟩:=argBest_lt (numAt xs) (xs.size - 1);refine ⟨.int _,H,I.kept hk,⟨_,rfl⟩,q _ ?_ fun a ha=>?_⟩
 ·rw[hns,numAt_eq];exact getD_in (by rw[aj,Array.length_toList];lia)
 ·rw[hns] at ha;obtain ⟨j,hj,rfl⟩:=mem_getD ha;rw[aj,Array.length_toList] at hj;rw[<- numAt_eq];exact h2 j (by lia)
theorem ze (K:PySem.W.Frag) (hK:X.K=K):xm X (compareOp .NotIn) (rIn K true):=by subst hK;exact AH
end
theorem Hs {j:Nat} {ps:List Nat}:M9 (.int (j:Int)) (dP ps)=decide (j∈ps):=by
 unfold M9 dP;rw[List.any_map,mQ,List.any_eq_true,decide_eq_true_iff];constructor
 ·rintro ⟨x,hx,e⟩;have e:((x:Int) == (j:Int))=true:=e;have:(x:Int)=j:=by simpa using e
  have:x=j:=by lia
  rw[<- this];exact hx
 ·intro h;exact ⟨j,h,by show ((j:Int) == (j:Int))=true;simp⟩
theorem Fc {ps:List Nat}:(dP ps).all vg=true:=by
 unfold dP;rw[List.all_map];exact pI.mpr fun _ _=>rfl
theorem yt {ps:List Nat}:(dP ps).length=ps.length:=aj ..
def Ec (ps:List Nat):List Int:=ps.map fun (j:Nat)=>(j:Int)
theorem Fb {ps:List Nat}:dP ps=(Ec ps).map V.int:=by unfold dP Ec;rw[tH];rfl
theorem DZ {ps:List Nat} {i:Nat} {v:V} (h:(dP ps)[i]?=some v):∃j,ps[i]?=some j/\v=V.int (j:Int):=by
 unfold dP at h;rw[aJ] at h;cases e:ps[i]? with
 | none=>rw[e] at h;cases h
 | some x=>rw[e] at h;exact ⟨x,rfl,(bY h).symm⟩
def yq (xs:List Rat) (i:Nat):List Nat:=(List.range i).filter fun c=>decide (xs.getD c 0≠0)
theorem xA {xs:List Rat} {i:Nat}:yq xs (i+1)=if xs.getD i 0≠0 then yq xs i++[i] else yq xs i:=by
 unfold yq;rw[mN,List.filter_append];by_cases h:xs.getD i 0≠0
 ·rw[if_pos h,MZ (by simpa using h)];rfl
 ·rw[if_neg h,M5 (by simpa using h)];simp
def wO (ps:List Nat) (i:Nat):List Nat:=(List.range i).filter fun c=>decide (c∉ps)
theorem yH {ps:List Nat} {i:Nat}:wO ps (i+1)=if i∉ps then wO ps i++[i] else wO ps i:=by
 unfold wO;rw[mN,List.filter_append];by_cases h:i∉ps
 ·rw[if_pos h,MZ (by simpa using h)];rfl
 ·rw[if_neg h,M5 (by simpa using h)];simp
theorem Ly {ps:List Nat} {i:Nat}:(wO ps i).length<=i:=by
 unfold wO;exact ah (List.length_filter_le ..) (by rw[cO];exact ar _)
def FY (K:PySem.W.Frag):Sp:=fun vs H Q _=>∃(p:Addr) (xs:List Rat) (j:Nat),vs=[.ref p]/\dC K H p xs/\xs.length<=1000/\j < xs.length/\xs.getD j 0≠0/\(∀c,c < j->xs.getD c 0=0)/\∀H',aF H H'->Q (.int (j:Int)) H'
def Ge (K:PySem.W.Frag):Sp:=fun vs H Q _=>∃(p:Addr) (n:Nat) (H0:Hp) (R:List (List Rat)) (ps:List Nat),vs=[.ref p,.int n]/\bF K H0 H p R/\R.length<=100/\n<=100/\(∃rows,bR rows n R ps) /\
 ∀r H',H r=none->aF H H'->H' r=some (.lst (dP (wO ps n)))->Q (.ref r) H'
def DY (R:List (List Rat)) (ps:List Nat) (n at_ j:Nat):List Rat:=(List.range n).map fun c=>if c=at_ then 1 else bX j fun i=>if ps.getD i 0=c then -(b8 R i at_) else 0
def Fx (R:List (List Rat)) (ps:List Nat) (n at_:Nat):List Rat:=DY R ps n at_ ps.length
def cA (R:List (List Rat)) (ps:List Nat) (n:Nat):List (List Rat):=(wO ps n).map (Fx R ps n)
section
variable {R rows:List (List Rat)} {ps:List Nat} {n a j:Nat}
theorem pS:(DY R ps n a j).length=n:=by unfold DY;rw[aj,cO]
theorem GP {c:Nat} (h:c < n):(DY R ps n a j).getD c 0=if c=a then 1 else bX j fun i=>if ps.getD i 0=c then -(b8 R i a) else 0:=by
 unfold DY;rw[aa,aJ,lF h];rfl
theorem xB:DY R ps n a 0=xQ n a:=by
 unfold DY xQ;refine dJ fun c _=>?_
 by_cases e:c=a
 ·subst e;simp
 ·rw[if_neg e];show (0:Rat)=_
  have:¬(c:Int)=(a:Int):=by lia
  simp [this]
theorem Js (RR:bR rows n R ps) (hj:j < ps.length) (ha:a∉ps):(DY R ps n a j).set (ps.getD j 0) (-(b8 R j a))=DY R ps n a (j+1):=by
 obtain ⟨_,_,rr⟩:=RR;have low:=rr.low j hj;have pm:ps.getD j 0∈ps:=getD_in hj;apply kW (by rw[eO,pS,pS]);intro c h1 h2;rw[pS] at h2;have e1:(DY R ps n a j)[c]'(by rw[pS];exact h2)=if c=a then 1 else bX j fun i=>if ps.getD i 0=c then -(b8 R i a) else 0:=by simp only[DY,pH,Cz]
 have e2:(DY R ps n a (j+1))[c]'(by rw[pS];exact h2)=if c=a then 1 else bX (j+1) fun i=>if ps.getD i 0=c then -(b8 R i a) else 0:=by simp only[DY,pH,Cz]
 rw[List.getElem_set,e2];have es:bX (j+1) (fun i=>if ps.getD i 0=c then -(b8 R i a) else 0)=bX j (fun i=>if ps.getD i 0=c then -(b8 R i a) else 0)+if ps.getD j 0=c then -(b8 R j a) else 0:=rfl
 by_cases q:ps.getD j 0=c
 ·rw[if_pos q,if_neg (fun z=>ha (by rw[<- z,<- q];exact pm)),es,if_pos q,cZ fun i hi=>?_,Rat.zero_add];rw[if_neg];intro z;have:=rr.inc i j hi hj
  lia
 ·rw[if_neg q,e1];by_cases z:c=a
  ·rw[if_pos z,if_pos z]
  ·rw[if_neg z,if_neg z,es,if_neg q,Ex]
theorem Jt {c:Nat} (hc:c < n) (hp:c∉ps):(Fx R ps n a).getD c 0=if c=a then 1 else 0:=by
 unfold Fx;rw[GP hc];by_cases e:c=a
 ·rw[if_pos e,if_pos e]
 ·rw[if_neg e,if_neg e,cZ fun i hi=>?_];rw[if_neg (fun z=>hp (by rw[<- z];exact getD_in hi))]
theorem iI:∀{xs ys:List Rat},xs.length=ys.length->iJ xs ys=bX xs.length fun c=>xs.getD c 0*ys.getD c 0:=by
 intro xs ys h
 have key:∀k,k<=xs.length->iJ (xs.take k) (ys.take k)=bX k fun c=>xs.getD c 0*ys.getD c 0:=by
  intro k
  induction k with
  | zero=>intro _;rfl
  | succ k ih =>
   intro hk;rw[zX (by lia) (by lia),ih (by lia)];rfl
 have:=key xs.length (ar _);rwa [aN (ar _),aN (by lia)] at this
theorem Lh (RR:bR rows n R ps) (ha:a < n) (hp:a∉ps) {i:Nat} {row:List Rat} (hr:rows[i]?=some row) (hw:row.length=n):iJ row (Fx R ps n a)=0:=by
 obtain ⟨_,_,rr⟩:=RR;have hi:=(aE.mp hr).1;have ef:∀c,b8 rows i c=row.getD c 0:=fun c=>by unfold b8;rw[aa (l:=rows),hr];rfl
 have co:=rr.coef (rr.span i hi) a;rw[ef] at co;rw[iI (by unfold Fx;rw[pS,hw]),hw]
 have e1:bX n (fun c=>row.getD c 0*(Fx R ps n a).getD c 0)=bX n (fun c=>(if c=a then row.getD a 0 else 0)+bX ps.length fun j=>if ps.getD j 0=c then row.getD (ps.getD j 0) 0*-(b8 R j a) else 0):=by
  refine bP fun c hc=>?_
  unfold Fx;rw[GP hc];by_cases e:c=a
  ·rw[if_pos e,if_pos e,e,cZ fun j hj=>?_]
   ·grind
   ·rw[if_neg (fun z=>hp (by rw[<- z];exact getD_in hj))]
  ·rw[if_neg e,if_neg e,<- dM,Rat.zero_add];refine bP fun j _=>?_
   split
   ·rename_i q;rw[q]
   ·grind
 rw[e1,rB,jA (i:=a) ha (fun j _ ne=>if_neg ne),if_pos rfl,<- mR]
 have e2:bX ps.length (fun j=>bX n fun c=>if ps.getD j 0=c then row.getD (ps.getD j 0) 0*-(b8 R j a) else 0)=bX ps.length fun j=>-1*(b8 rows i (ps.getD j 0)*b8 R j a):=by
  refine bP fun j hj=>?_
  rw[jA (i:=ps.getD j 0) (rr.low j hj) fun c _ ne=>if_neg fun z=>ne z.symm,if_pos rfl,ef];grind
 rw[e2,dM,co];grind
theorem MC {M W:Nat} (h0:0 < M) (hW:M<=W) (tp:∀xs∈R,∀x∈xs,Tp M W x) (RR:bR rows n R ps):∀x∈Fx R ps n a,Tp M W x:=fun x hx=>by
 obtain ⟨_,_,rr⟩:=RR;obtain ⟨c,hc,rfl⟩:=aA.mp hx
 split
 ·exact ⟨M,by rw[Rat.one_mul,aU],by simpa using hW⟩
 ·by_cases hp:∃j,j < ps.length/\ps.getD j 0=c
  ·obtain ⟨j,hj,e⟩:=hp;rw[jA hj fun i hi ne=>if_neg fun z=>?_,if_pos e]
   ·obtain ⟨z,ez,b⟩:=JM tp j a;exact ⟨-z,by rw[cW,<- ez];grind,by rw[oF];exact b⟩
   ·rcases eL i j with q | q | q
    ·have:=rr.inc i j q hj;lia
    ·exact ne q
    ·have:=rr.inc j i q hi;lia
  ·rw[cZ fun j hj=>if_neg fun z=>hp ⟨j,hj,z⟩];exact Tp.zero
theorem A3 {c:Nat}:c∈wO ps n↔c < n/\c∉ps:=by
 unfold wO;rw[mO,oE,decide_eq_true_iff]
end
def EL (K:PySem.W.Frag):Sp:=fun vs H Q _=>∃(p:Addr) (n a:Nat) (H0:Hp) (R:List (List Rat)) (ps:List Nat),vs=[.ref p,.int n,.int a]/\bF K H0 H p R/\R.length<=100/\n<=100/\(∃rows,bR rows n R ps)/\a < n/\a∉ps/\(∀xs∈R,∀x∈xs,qW x) /\
 ∀r H',H r=none->aF H H'->dC K H' r (Fx R ps n a)->Q (.ref r) H'
theorem FN:qW 0:=uq (M:=1) (W:=1) Tp.zero (by decide) bG bG
theorem v7 {R:List (List Rat)} {ps:List Nat} {n:Nat} {xs:List Rat} (h:xs∈cA R ps n):∃a,a < n/\a∉ps/\xs=Fx R ps n a:=by
 obtain ⟨a,ha,rfl⟩:=aA.mp h;obtain ⟨h1,h2⟩:=A3.mp ha;exact ⟨a,h1,h2,rfl⟩
theorem JC {q:Rat} (h:q.den<=9):q.den∣2520:=by
 have:=q.den_pos;generalize q.den=d at h this;have:d=1\/d=2\/d=3\/d=4\/d=5\/d=6\/d=7\/d=8\/d=9:=by lia
 rcases this with rfl | rfl | rfl | rfl | rfl | rfl | rfl | rfl | rfl <;> decide
theorem LC {q:Rat} {M:Nat} (h:Dr 9 q) (hM:2520∣M):Fr M 9 q:=(Fr.own q h.1).dvd (Nat.dvd_trans (JC h.2) hM)
section
variable {rows:List (List Rat)} {ws xs row:List Rat} {n j:Nat}
theorem HN (h:xs.length=ws.length):iJ xs ws=iJ ws xs:=by
 rw[iI h,iI h.symm,h];exact bP fun c _=>gE ..
theorem Lj {c i:Nat}:(rows.map fun xs=>xs.getD c 0).getD i 0=b8 rows i c:=by
 unfold b8;rw[aa,aJ,aa (l:=rows)];cases rows[i]? with
 | none=>rfl
 | some y=>rfl
end
theorem Fr.up {M V M' V':Nat} {x:Rat} (h:Fr M V x) (hd:M∣M') (hv:V<=V'):Fr M' V' x:=(h.dvd hd).mono hv
section
variable {rows R:List (List Rat)} {due:List Rat} {ps:List Nat} {n:Nat}
theorem JA {xs ys:List Rat} {M V D B:Nat} (h:ys.length=xs.length) (hx:∀x∈xs,Fr M V x) (hy:∀y∈ys,Fr D B y):Fr (M*D) (xs.length*(V*B)) (iJ xs ys):=by
 rw[iI h.symm]
 have key:∀j,j<=xs.length->Fr (M*D) (j*(V*B)) (bX j fun c=>xs.getD c 0*ys.getD c 0):=by
  intro j
  induction j with
  | zero=>intro _;exact Fr.zero
  | succ j ih =>
   intro hj;exact ((ih (by lia)).add ((hx _ (getD_in (by lia))).mul (hy _ (getD_in (by lia))))).mono (Nat.le_of_eq (tE j (V*B)).symm)
 exact key _ (ar _)
end
def qD (K:PySem.W.Frag) (P:Addr->Prop) (H:Hp) (xs:List Rat) (v:V):Prop:=∃q,v=.ref q/\P q/\dC K H q xs
section
variable {K:PySem.W.Frag} {P:Addr->Prop} {H H':Hp} {xs:List Rat} {v:V} {b l:Addr}
theorem qD.same (h:qD K P H xs v) (s:aF H H'):qD K P H' xs v:=by obtain ⟨q,a,c,d⟩:=h;exact ⟨q,a,c,d.same s⟩
theorem qD.updL {ys:List V} {o:HO} (h:qD K P H xs v) (hl:H l=some (.lst ys)) (nb:∀q,P q->q≠l):qD K P (upd H l o) xs v:=by obtain ⟨q,a,c,d⟩:=h;exact ⟨q,a,c,d.updL hl (nb q c)⟩
theorem bF.ofE {H0:Hp} {rows:List (List Rat)} {us:List V} (g:H l=some (.lst us)) (h:Paired (qD K P H) rows us) (h0:∀q,P q->H0 q=none) (hn:∀q,P q->q≠l):bF K H0 H l rows :=
 ⟨us,g,Paired.imp' (fun _ _ ⟨q,a,c,d⟩=>⟨q,a,h0 q c,d⟩) h,fun z=>by
  obtain ⟨_,_,q,e,c,_⟩:=df h z;cases e;exact hn _ c rfl⟩
end
theorem wF {α β:Type} {F G:α->β->Prop}:∀{l1:List α} {l2:List β},(∀a b,b∈l2->F a b->G a b)->Paired F l1 l2->Paired G l1 l2
 | _,_,_,.nil=>.nil
 | _,_,h,.cons a r=>.cons (h _ _ (by simp) a) (wF (fun x y hy=>h x y (by simp [hy])) r)
section
variable {rows rows' R R':List (List Rat)} {n w W:Nat} {ps ps':List Nat}
theorem vR (hw:∀xs∈rows,xs.length=n) (hW:1<=W) (ent:∀i,i < (rows.map gF).length->∀c,Fr 1 W (dE (rows.map gF) i c)):∀P,P<=n->∃ls ps d,Ae (rows.map gF) n P ls ps d:=by
 intro P
 induction P with
 | zero=>intro _;exact ⟨_,_,_,Ae.start fun zs hz=>by obtain ⟨x,hx,rfl⟩:=aA.mp hz;rw[oV];exact hw x hx⟩
 | succ P ih =>
  intro hP;obtain ⟨ls,ps,d,I⟩:=ih (by lia);by_cases e:∃t,ps.length<=t/\t < ls.length/\dE ls t P≠0
  ·obtain ⟨t,h1,h2,h3⟩:=e;exact ⟨_,_,_,I.step hW ent h1 h2 h3⟩
  ·exact ⟨_,_,_,I.skip fun i h1 h2=>by
    by_cases z:dE ls i P=0
    ·exact z
    ·exact absurd ⟨i,h1,h2,z⟩ e⟩
theorem zG (hw:∀xs∈rows,xs.length=n) (F:Et rows n w):∃R ps d ls,Nz rows n w R ps d ls:=by
 obtain ⟨W,hW,W2,ent⟩:=F.ent;obtain ⟨ls,ps,d,I⟩:=vR hw hW ent n (ar _);obtain ⟨R,S⟩:=I.done hw F;exact ⟨R,ps,d,_,S⟩
theorem Mm (hw:∀xs∈rows,xs.length=n) (F:Et rows n w) (RR:bR rows n R ps):ps.length<=rows.length/\∃M,0 < M/\M<=2^(min rows.length n*(w+4))/\∀xs∈R,∀x∈xs,Tp M (2^(min rows.length n*(w+4))) x:=by
 obtain ⟨R2,ps2,d,ls,S⟩:=zG hw F;obtain ⟨rfl,rfl⟩:=S.rr.same RR;exact ⟨S.km,d.natAbs,Int.natAbs_pos.mpr S.d0,S.dsz,S.tp⟩
theorem Fi {k:Nat} {p q:Nat->Nat} (hp:∀i j,i < j->j < k->p i < p j) (hq:∀i j,i < j->j < k->q i < q j) (hs:∀i,i < k->∃j,j < k/\q j=p i):∀i,i < k->p i=q i:=by
 have hqm:∀i j,i<=j->j < k->q i<=q j:=fun i j h hj=>by
  rcases bV i j with z | z
  ·exact bC (hq i j z hj)
  ·have:i=j:=by lia
   rw[this];exact ar _
 have hqi:∀i j,i < k->j < k->q i < q j->i < j:=fun i j hi hj h=>by
  rcases bV i j with z | z
  ·exact z
  ·have:=hqm j i z hi
   lia
 have key:∀i,i < k->∀j,j < k->q j=p i->i<=j:=by
  intro i
  induction i with
  | zero=>intro _ j _ _;exact aT _
  | succ i ih =>
   intro hi j hj e;obtain ⟨j',hj',e'⟩:=hs i (by lia);have h1:=ih (by lia) j' hj' e';have h2:=hp i (i+1) (by lia) hi;have:=hqi j' j hj' hj (by lia)
   lia
 have key2:∀t i,i+t+1=k->∀j,j < k->q j=p i->j<=i:=by
  intro t
  induction t with
  | zero=>intro i e j hj _;lia
  | succ t ih =>
   intro i e j hj ej;obtain ⟨j',hj',e'⟩:=hs (i+1) (by lia);have h1:=ih (i+1) (by lia) j' hj' e';have h2:=hp i (i+1) (by lia) (by lia);have:=hqi j j' hj hj' (by lia)
   lia
 intro i hi;obtain ⟨j,hj,e⟩:=hs i hi;have h1:=key i hi j hj e;have h2:=key2 (k - 1 - i) i (by lia) j hj e;have:j=i:=by lia
 rw[<- e,this]
theorem EZ (h:bR rows n R ps) (h':bR rows' n R' ps') (hl:ps.length=ps'.length) (hs:∀i,i < ps.length->d7 ps'.length (b8 R') (b8 R i)):R=R'/\ps=ps':=by
 obtain ⟨l1,w1,r1⟩:=h;obtain ⟨l2,w2,r2⟩:=h'
 have ep:∀i,i < ps.length->ps.getD i 0=ps'.getD i 0:=Fi r1.inc (by rw[hl];exact r2.inc) fun i hi=>by
  have u:=r1.unit i hi i hi;rw[if_pos rfl] at u;obtain ⟨j,hj,e⟩:=r2.lead_in (hs i hi) (c:=ps.getD i 0) (by rw[u];decide) (fun c hc=>r1.lead i hi c hc);exact ⟨j,by lia,e⟩
 have eps:ps=ps':=by
  apply kW hl;intro i a b;have:=ep i a;rw[aa,aa,ag a,ag b] at this;exact this
 refine ⟨HF (n:=n) (by lia) w1 w2 fun i hi c=>?_,eps⟩;rw[l1] at hi;rw[r2.coef (hs i hi) c,<- hl,jA hi fun j hj hj'=>?_]
 ·rw[<- ep i hi];have u:=r1.unit i hi i hi;rw[if_pos rfl] at u;rw[u];grind
 ·rw[<- ep j hj];have u:=r1.unit i hi j hj;rw[if_neg (Ne.symm hj')] at u;rw[u];grind
end
def uT (mv:List (List Rat)) (x:List Rat):List Rat:=mv.map fun xs=>iJ xs x
def kry (mv pt:List (List Rat)):Nat->List (List Rat)
 | 0=>[]
 | t+1=>pt++(kry mv pt t).map (uT mv)
section
variable {mv pt R R' S X Y:List (List Rat)} {n t m i c:Nat} {ps ps':List Nat} {a:Nat->Nat->Rat}
theorem yh {x:List Rat}:(uT mv x).length=mv.length:=aj ..
theorem J0 (lm:mv.length=n) (wm:∀xs∈mv,xs.length=n) (wR:∀xs∈R,xs.length=n) (hi:i < R.length) (c:Nat):b8 (R.map (uT mv)) i c=bX n fun j=>b8 mv c j*b8 R i j:=by
 have wi:=wR _ (bE hi);have e1:(R.map (uT mv)).getD i []=uT mv R[i]:=by rw[aa,aJ,ag hi];rfl
 have e2:R.getD i []=R[i]:=by rw[aa,ag hi];rfl
 by_cases hc:c < n
 ·have wc:=wm _ (bE (show c < mv.length by lia));have e3:mv.getD c []=mv[c]'(by lia):=by rw[aa,ag (by lia)];rfl
  have e4:(uT mv R[i]).getD c 0=iJ (mv[c]'(by lia)) R[i]:=by
   unfold uT;rw[aa,aJ,ag (by lia)];rfl
  unfold b8;rw[e1,e2,e3,e4,iI (by lia),wc]
 ·have e3:mv.getD c []=[]:=by rw[aa,aR (by lia)];rfl
  unfold b8
  rw[e1,e3,aa,aR (by rw[yh];lia),cZ fun j _=>by
   show ([]:List Rat).getD j 0*_=0
   rw[aa];show (0:Rat)*_=0
   grind]
  rfl
theorem xS (lm:mv.length=n) (wm:∀xs∈mv,xs.length=n) (wR:∀xs∈R,xs.length=n) (wS:∀xs∈S,xs.length=n) (hi:i < R.length) (h:d7 S.length (b8 S) (b8 R i)):d7 (S.map (uT mv)).length (b8 (S.map (uT mv))) (b8 (R.map (uT mv)) i):=by
 obtain ⟨w,hw⟩:=h;refine ⟨w,fun c=>?_⟩;rw[J0 lm wm wR hi,aj]
 have e1:bX n (fun j=>b8 mv c j*b8 R i j)=bX n (fun j=>bX S.length fun s=>w s*(b8 mv c j*b8 S s j)):=bP fun j _=>by
  rw[hw j,<- dM];exact bP fun s _=>by grind
 rw[e1,mR];exact bP fun s hs=>by rw[dM,J0 lm wm wS hs]
theorem yR (h:i < X.length):b8 (X++Y) i=b8 X i:=by
 funext c;unfold b8;rw[aa (l:=X++Y),dd h,<- aa]
theorem pC:b8 (X++Y) (X.length+i)=b8 Y i:=by
 funext c;unfold b8;rw[aa (l:=X++Y),b7 (by lia),show X.length+i - X.length=i by lia,<- aa]
theorem uN (h1:∀i,i < X.length->d7 m a (b8 X i)) (h2:∀i,i < Y.length->d7 m a (b8 Y i)):∀i,i < (X++Y).length->d7 m a (b8 (X++Y) i):=fun i hi=>by
 rw[ao] at hi;by_cases h:i < X.length
 ·rw[yR h];exact h1 i h
 ·obtain ⟨j,rfl⟩:∃j,i=X.length+j:=⟨i - X.length,by lia⟩;rw[pC];exact h2 j (by lia)
theorem rC (h:i < X.length):d7 (X++Y).length (b8 (X++Y)) (b8 X i):=by
 have:=d7.row (a:=b8 (X++Y)) (m:=(X++Y).length) (i:=i) (by rw[ao];lia);rwa [yR h] at this
theorem oW {x:Nat->Rat} (h:d7 Y.length (b8 Y) x):d7 (X++Y).length (b8 (X++Y)) x:=d7.trans (fun s hs=>by
 have:=d7.row (a:=b8 (X++Y)) (m:=(X++Y).length) (i:=X.length+s) (by rw[ao];lia);rwa [pC] at this) h
theorem iH (lm:mv.length=n) (wp:∀xs∈pt,xs.length=n):∀t,∀xs∈kry mv pt t,xs.length=n:=by
 intro t
 induction t with
 | zero=>intro xs hx;cases hx
 | succ t ih =>
  intro xs hx;rcases aw.mp hx with hx | hx
  ·exact wp xs hx
  ·obtain ⟨y,_,rfl⟩:=aA.mp hx;rw[yh,lm]
theorem vd (lm:mv.length=n) (wm:∀xs∈mv,xs.length=n) (wp:∀xs∈pt,xs.length=n) (RR:bR (kry mv pt t) n R ps) (RR':bR (pt++R.map (uT mv)) n R' ps'):bR (kry mv pt (t+1)) n R' ps':=by
 have wk:=iH (mv:=mv) lm wp t;refine ⟨RR'.1,RR'.2.1,RR'.2.2.other ?_ ?_⟩
 ·refine uN (fun i hi=>rC hi) fun i hi=>oW ?_
  rw[aj] at hi;exact xS lm wm RR.2.1 wk hi (RR.2.2.back i (by rw[<- RR.1];exact hi))
 ·refine uN (fun i hi=>rC hi) fun i hi=>oW ?_
  rw[aj] at hi;have:=RR.2.2.span i hi;rw[<- RR.1] at this;exact xS lm wm wk RR.2.1 hi this
theorem G6 (lm:mv.length=n) (wm:∀xs∈mv,xs.length=n) (wp:∀xs∈pt,xs.length=n):∀t i,i < (kry mv pt t).length->d7 (kry mv pt (t+1)).length (b8 (kry mv pt (t+1))) (b8 (kry mv pt t) i):=by
 intro t
 induction t with
 | zero=>intro i hi;cases hi
 | succ t ih =>
  refine uN (fun i hi=>rC hi) fun i hi=>oW ?_
  rw[aj] at hi;exact xS lm wm (iH lm wp t) (iH lm wp (t+1)) hi (ih i hi)
theorem yF (lm:mv.length=n) (wm:∀xs∈mv,xs.length=n) (wp:∀xs∈pt,xs.length=n) (RR:bR (kry mv pt t) n R ps) (RR':bR (kry mv pt (t+1)) n R' ps'):∀i,i < ps.length->d7 ps'.length (b8 R') (b8 R i):=fun i hi =>
 d7.trans (fun s hs=>RR'.2.2.span s hs) (d7.trans (G6 lm wm wp t) (RR.2.2.back i hi))
theorem zR (lm:mv.length=n) (wm:∀xs∈mv,xs.length=n) (wp:∀xs∈pt,xs.length=n) (RR:bR (kry mv pt t) n R ps) (RR':bR (pt++R.map (uT mv)) n R' ps') (hl:ps'.length=ps.length):∀s,bR (kry mv pt (t+s)) n R ps:=by
 have K1:=vd lm wm wp RR RR';obtain ⟨e1,e2⟩:=EZ RR K1 hl.symm (yF lm wm wp RR K1);subst e1 e2;intro s
 induction s with
 | zero=>exact RR
 | succ s ih=>exact vd lm wm wp ih RR'
theorem Cd (lm:mv.length=n) (wm:∀xs∈mv,xs.length=n) (wp:∀xs∈pt,xs.length=n) (RR:bR (kry mv pt t) n R ps) (RR':bR (kry mv pt (t+1)) n R' ps'):ps.length<=ps'.length:=by
 have h:=yF lm wm wp RR RR'
 have hs:∀i,i < ps.length->∃j,j < ps'.length/\ps'.getD j 0=ps.getD i 0:=fun i hi=>by
  have u:=RR.2.2.unit i hi i hi;rw[if_pos rfl] at u;exact RR'.2.2.lead_in (h i hi) (c:=ps.getD i 0) (by rw[u];decide) (fun c hc=>RR.2.2.lead i hi c hc)
 rcases bV ps'.length ps.length with z | z
 ·exfalso
  have key:∀i,i < ps.length->∀j,j < ps'.length->ps'.getD j 0=ps.getD i 0->i<=j:=by
   intro i
   induction i with
   | zero=>intro _ j _ _;exact aT _
   | succ i ih =>
    intro hi j hj e;obtain ⟨j',hj',e'⟩:=hs i (by lia);have h1:=ih (by lia) j' hj' e';have h2:=RR.2.2.inc i (i+1) (by lia) hi;rcases bV j' j with y | y
    ·lia
    ·rcases bV j j' with x | x
     ·have:=RR'.2.2.inc j j' x hj'
      lia
     ·have:j=j':=by lia
      rw[this] at e
      lia
  obtain ⟨j,hj,e⟩:=hs (ps.length - 1) (by lia);have:=key (ps.length - 1) (by lia) j hj e
  lia
 ·exact z
theorem G8 {M V c:Nat} (lm:mv.length=n) (wm:∀xs∈mv,xs.length=n) (wp:∀xs∈pt,xs.length=n) (hc:(n+1)*V<=2^c) (fm:GF M V mv) (fp:GF M V pt):∀t,∀xs∈kry mv pt t,∀x∈xs,Fr (M^t) (2^(c*t)) x:=by
 intro t
 induction t with
 | zero=>intro xs hx;cases hx
 | succ t ih =>
  intro xs hx x hx';have hV:V<=2^c:=ah (eZ _ (by lia)) hc;rcases aw.mp hx with hx | hx
  ·refine Fr.up (fp xs hx x hx') (by rw[iY];exact FE _ _) (ah hV (au (by decide) (dr _ (by lia))))
  ·obtain ⟨y,hy,rfl⟩:=aA.mp hx;unfold uT at hx';obtain ⟨r,hr,rfl⟩:=aA.mp hx';have wr:=wm r hr;have wy:=iH (mv:=mv) lm wp t y hy;have f:=JA (by lia) (fm r hr) (ih y hy);rw[iY,cx (M^t)];refine f.mono ?_;rw[iN,Nat.mul_one,bM,cx (2^(c*t)),<- cJ,wr];exact aD _ (ah (aD _ (by lia)) hc)
def rj (mv pt:List (List Rat)) (a c:Nat):Prop:=∃M V:Nat,0 < M/\M<=2^a/\(mv.length+1)*V<=2^c/\GF M V mv/\GF M V pt/\a<=400/\c<=40/\mv.length*(mv.length*(a+c)+4)<=1740/\mv.length*(mv.length*(mv.length*(a+c)+4)+a+c+4)<=8900
theorem rj.swf {a c:Nat} (F:rj mv pt a c) (D:mv.length<=8) (wm:∀xs∈mv,xs.length=mv.length) (wp:∀xs∈pt,xs.length=mv.length) (ht:t<=mv.length):Et (kry mv pt t) mv.length (mv.length*(a+c)):=by
 obtain ⟨M,V,M0,Ma,hV,fm,fp,a3,c3,e14,e89⟩:=F;have f:=G8 rfl wm wp hV fm fp t;have h1:mv.length*(a+c)<=8*440:=aK D (by lia);have hM:M^t<=2^(a*mv.length):=ah (lE Ma _) (by rw[<- vK];exact au (by decide) (bL _ ht));have h2:a*mv.length<=mv.length*(a+c):=by rw[cx];exact bL _ (by lia)
 have h3:mv.length=0\/mv.length*(a+c)<=1740:=by
  rcases m3 mv.length with z | z
  ·exact .inl z
  ·right
   have:=eZ (mv.length*(a+c)+4) z
   lia
 have h4:mv.length*(a+c)<=1740:=by
  rcases h3 with z | z
  ·rw[z];lia
  ·exact z
 refine ⟨M^t,2^(mv.length*(a+c)),Ag M0,ah hM (au (by decide) (by lia)),bG,ar _,fun xs hx x hx'=>Tp.of (f xs hx x hx') ?_,by lia,by lia,?_⟩
 ·refine ah (aK (au (by decide) (bL c ht)) hM) ?_;rw[<- bM];refine au (by decide) ?_;rw[cx c,cx a,<- iN,tG c];exact ar _
 ·exact ah (aD _ (FD _ _)) (by lia)
theorem rj.tp {a c:Nat} (F:rj mv pt a c) (D:mv.length<=8) (wm:∀xs∈mv,xs.length=mv.length) (wp:∀xs∈pt,xs.length=mv.length) (ht:t<=mv.length) (RR:bR (kry mv pt t) mv.length R ps):∃M,0 < M/\M<=2^(mv.length*(mv.length*(a+c)+4))/\∀xs∈R,∀x∈xs,Tp M (2^(mv.length*(mv.length*(a+c)+4))) x:=by
 obtain ⟨_,M,h0,h1,h2⟩:=Mm (iH rfl wp t) (F.swf D wm wp ht) RR;have le:2^(min (kry mv pt t).length mv.length*(mv.length*(a+c)+4))<=2^(mv.length*(mv.length*(a+c)+4)):=au (by decide) (aD _ (FD _ _));exact ⟨M,h0,ah h1 le,fun xs hx x hx'=>(h2 xs hx x hx').mono le⟩
theorem rj.step {a c:Nat} (F:rj mv pt a c) (D:mv.length<=8) (wm:∀xs∈mv,xs.length=mv.length) (wp:∀xs∈pt,xs.length=mv.length) (ht:t<=mv.length) (RR:bR (kry mv pt t) mv.length R ps):Et (pt++R.map (uT mv)) mv.length (mv.length*(mv.length*(a+c)+4)+a+c):=by
 obtain ⟨N,N0,N1,tN⟩:=F.tp D wm wp ht RR;obtain ⟨M,V,M0,Ma,hV,fm,fp,a3,c3,e14,e89⟩:=F;generalize mv.length*(mv.length*(a+c)+4)=e at *
 have V1:V<=2^c:=ah (eZ _ (by lia)) hV;have eW:(2:Nat)^(e+a+c)=2^c*(2^a*2^e):=by rw[<- bM,<- bM];congr 1;lia
 refine ⟨N*M,2^(e+a+c),dq N0 M0,?_,bG,ar _,fun xs hx x hx'=>?_,by lia,by lia,?_⟩
 ·exact ah (aK N1 Ma) (by rw[<- bM];exact au (by decide) (by lia))
 ·rcases aw.mp hx with hx | hx
  ·refine Tp.of ((fp xs hx x hx').scaleL N) ?_;rw[eW,cx N];exact aK V1 (aK Ma N1)
  ·obtain ⟨y,hy,rfl⟩:=aA.mp hx;unfold uT at hx';obtain ⟨r,hr,rfl⟩:=aA.mp hx';have wr:=wm r hr;have wy:=RR.2.1 y hy;rw[iI (by lia),wr];have t1:∀j,Tp M (V*M) (r.getD j 0):=fun j=>Ap (fun x hx=>Tp.of (fm r hr x hx) (ar _)) j
   have t2:∀j,Tp N (2^e) (y.getD j 0):=fun j=>Ap (tN y hy) j
   have:=Tp.sum (k:=mv.length) (M:=N*M) (W:=V*M*2^e) (f:=fun j=>r.getD j 0*y.getD j 0) fun j _=>by
    have:=(t1 j).mul (t2 j);rwa [cx M N] at this
   refine this.mono ?_;rw[eW,cJ V,<- cJ mv.length];exact aK (ah (aD _ (by lia)) hV) (aD _ Ma)
 ·exact ah (aD _ (FD _ _)) (by rw[show e+a+c+4=e+a+c+4 from rfl];exact e89)
theorem rj.fit {a c:Nat} (F:rj mv pt a c) (D:mv.length<=8) (wm:∀xs∈mv,xs.length=mv.length) (wp:∀xs∈pt,xs.length=mv.length) (ht:t<=mv.length) (RR:bR (kry mv pt t) mv.length R ps):∀xs∈mv,∀r∈R,Cw xs r:=fun xs hx r hr=>by
 obtain ⟨N,N0,N1,tN⟩:=F.tp D wm wp ht RR;obtain ⟨M,V,M0,Ma,hV,fm,fp,a3,c3,e14,e89⟩:=F;have V1:V<=2^c:=ah (eZ _ (by lia)) hV;have p14:=au (show 0 < 2 by decide) e14;exact ⟨400,40,1740,1740,⟨M,V,M0,ah Ma (au (by decide) a3),ah V1 (au (by decide) c3),fm xs hx⟩,⟨N,2^1740,N0,ah N1 p14,ar _,fun x hx=>((tN r hr x hx).mono p14).fr N0⟩,by decide⟩
end
def EM (K:PySem.W.Frag) (C:Addr):Sp:=fun vs H Q _=>∃(x p:Addr) (H0 H1:Hp) (mv pt lk R:List (List Rat)),vs=[.ref x,.ref p]/\mJ K H0 H C x mv pt lk/\qC mv pt lk/\bF K H1 H p R/\R.length<=100/\(∀r∈R,r.length=mv.length)/\(∀xs∈mv,∀r∈R,Cw xs r) /\
 ∀r H',H r=none->aF H H'->bF K H H' r (R.map (uT mv))->Q (.ref r) H'
structure yT (mv pt:List (List Rat)) (Rs:List (List (List Rat))):Prop where
 ne:Rs≠[]
 rr:∀t R,Rs[t]?=some R->∃ps,bR (kry mv pt t) mv.length R ps
 up:∀t R R',Rs[t]?=some R->Rs[t+1]?=some R'->R.length < R'.length
def GrL (K:PySem.W.Frag) (H0 H:Hp) (l:Addr) (Rs:List (List (List Rat))):Prop:=∃us,H l=some (.lst us)/\Paired (fun R v=>∃q,v=V.ref q/\H0 q=none/\q≠l/\bF K H0 H q R) Rs us
def EU (K:PySem.W.Frag) (C:Addr):Sp:=fun vs H Q _=>∃(x:Addr) (a c st:Nat) (H0:Hp) (mv pt lk:List (List Rat)),vs=[.ref x,.int st]/\st<=1000/\mJ K H0 H C x mv pt lk/\qC mv pt lk/\rj mv pt a c /\
 ∀r Rs H',H r=none->aF H H'->GrL K H H' r Rs->yT mv pt Rs->Rs.length<=st+1->(∀R,Rs.getLast?=some R->∀s,(Rs.length - 1=st/\s=st\/Rs.length - 1 < st/\Rs.length - 1<=s)->∃ps,bR (kry mv pt s) mv.length R ps)->Q (.ref r) H'
def EI (K:PySem.W.Frag) (C:Addr):Sp:=fun vs H Q _=>∃(x:Addr) (a c st:Nat) (H0:Hp) (mv pt lk:List (List Rat)),vs=[.ref x,.int st]/\st<=1000/\mJ K H0 H C x mv pt lk/\qC mv pt lk/\rj mv pt a c /\
 ∀r R ps H',H r=none->aF H H'->bF K H H' r R->bR (kry mv pt st) mv.length R ps->Q (.ref r) H'
section
variable {K:PySem.W.Frag} {H0 H1 H H':Hp} {p l:Addr} {rows mv pt R R':List (List Rat)} {Rs:List (List (List Rat))} {t:Nat}
theorem bF.weakN (h:bF K H0 H p rows) (hn:∀q,H0 q=none->H1 q=none):bF K H1 H p rows:=by obtain ⟨xs,g,r,n⟩:=h;exact ⟨xs,g,Paired.imp' (fun _ _ ⟨q,a,b,c⟩=>⟨q,a,hn q b,c⟩) r,n⟩
theorem bF.updL {ys:List V} {o:HO} (h:bF K H0 H p rows) (hl:H l=some (.lst ys)) (nl:H0 l≠none) (pl:p≠l):bF K H0 (upd H l o) p rows:=by obtain ⟨xs,g,r,n⟩:=h;exact ⟨xs,by rw[be pl];exact g,Paired.imp' (fun _ _ z=>cM.updL z hl nl) r,n⟩
theorem AB {n:Nat}:bR [] n [] []:=⟨rfl,(fun _ h=>by cases h),(fun _ _ _ h=>absurd h (cz _)),(fun _ h=>absurd h (cz _)),(fun _ h=>absurd h (cz _)),(fun _ h=>absurd h (cz _)),(fun _ h=>absurd h (cz _)),(fun _ h=>absurd h (cz _))⟩
theorem yT.len (h:yT mv pt Rs):∀(t:Nat) (R:List (List Rat)),Rs[t]?=some R->t<=R.length:=by
 intro t
 induction t with
 | zero=>intro R _;exact aT _
 | succ t ih =>
  intro R e;have ht:=(aE.mp e).1;have e0:=ag (show t < Rs.length by lia);have:=ih _ e0;have:=h.up t _ R e0 e
  lia
theorem yT.snoc {ps':List Nat} (h:yT mv pt (Rs++[R])) (h1:bR (kry mv pt (Rs.length+1)) mv.length R' ps') (h2:R.length < R'.length):yT mv pt ((Rs++[R])++[R']):=by
 have l1:(Rs++[R]).length=Rs.length+1:=by rw[ao];rfl
 refine ⟨by simp,fun t S e=>?_,fun t S S' e e'=>?_⟩
 ·rcases bV t (Rs.length+1) with z | z
  ·rw[dd (by lia)] at e;exact h.rr t S e
  ·have ht:=(aE.mp e).1;rw[ao,bc] at ht;have:t=Rs.length+1:=by lia
   subst this;rw[b7 (by lia),l1,tF] at e;cases e;exact ⟨ps',h1⟩
 ·have ht:=(aE.mp e').1;rw[ao,bc] at ht;rw[dd (by lia)] at e;rcases bV (t+1) (Rs.length+1) with z | z
  ·rw[dd (by lia)] at e';exact h.up t S S' e e'
  ·have:t=Rs.length:=by lia
   subst this;rw[b7 (by lia),l1,tF] at e';cases e';rw[b7 (ar _),tF] at e;cases e;exact h2
end
def qR (k t i:Nat):Nat:=if i < k then i else if i=k then t else if i<=t then i - 1 else i
def BK (k t i:Nat):Nat:=if i < k then i else if i=t then k else if i < t then i+1 else i
section
variable {k t m i j:Nat}
theorem uO (h : k ≤ t) (ht : t < m) (hi : i < m) : qR k t i < m := by     unfold qR; split; · exact hi
                                                                          · split; · exact ht
                                                                            · split <;> lia
theorem Mn (h : k ≤ t) (ht : t < m) (hi : i < m) : BK k t i < m := by     unfold BK; split; · exact hi
                                                                          · split; · lia
                                                                            · split <;> lia
theorem Ml (h:k<=t):qR k t (BK k t i)=i:=by
 by_cases h1:i < k
 ·rw[show BK k t i=i by unfold BK;rw[if_pos h1]];unfold qR;rw[if_pos h1]
 ·by_cases h2:i=t
  ·rw[show BK k t i=k by unfold BK;rw[if_neg h1,if_pos h2]];unfold qR;rw[if_neg (by lia),if_pos rfl,h2]
  ·by_cases h3:i < t
   ·rw[show BK k t i=i+1 by unfold BK;rw[if_neg h1,if_neg h2,if_pos h3]];unfold qR;rw[if_neg (by lia),if_neg (by lia),if_pos (by lia)];lia
   ·rw[show BK k t i=i by unfold BK;rw[if_neg h1,if_neg h2,if_neg h3]];unfold qR;rw[if_neg h1,if_neg (by lia),if_neg (by lia)]
theorem JW (h:k<=t):BK k t (qR k t i)=i:=by
 by_cases h1:i < k
 ·rw[show qR k t i=i by unfold qR;rw[if_pos h1]];unfold BK;rw[if_pos h1]
 ·by_cases h2:i=k
  ·rw[show qR k t i=t by unfold qR;rw[if_neg h1,if_pos h2]];unfold BK;rw[if_neg (by lia),if_pos rfl,h2]
  ·by_cases h3:i<=t
   ·rw[show qR k t i=i - 1 by unfold qR;rw[if_neg h1,if_neg h2,if_pos h3]];unfold BK;rw[if_neg (by lia),if_neg (by lia),if_pos (by lia)];lia
   ·rw[show qR k t i=i by unfold qR;rw[if_neg h1,if_neg h2,if_neg h3]];unfold BK;rw[if_neg h1,if_neg (by lia),if_neg (by lia)]
theorem rH (hi:i < k):qR k t i=i:=by unfold qR;rw[if_pos hi]
theorem uP (h:k<=t) (hi:k<=i):k<=qR k t i:=by
 unfold qR;rw[if_neg (by lia)]
 split
 ·exact h
 ·split <;> lia
variable {a l:Nat->Nat->Rat} {pm p:Nat->Nat} {d:Rat} {P:Nat}
theorem vN.rot (B:vN a m k pm p l d) (h:k<=t) (ht:t < m):vN a m k (fun i=>pm (qR k t i)) p (fun i=>l (qR k t i)) d where
 inj i j hi hj e:=by
  have:=B.inj _ _ (uO h ht hi) (uO h ht hj) e;rw[<- JW (i:=i) h,this,JW h]
 rng i hi:=B.rng _ (uO h ht hi)
 km:=B.km
 d0:=B.d0
 det:=by rw[B.det,xY (f:=pm) (g:=fun i=>pm (qR k t i)) fun j hj=>by rw[rH hj]]
 eqs i hi c:=by
  have e:=B.eqs (qR k t i) (uO h ht hi) c;have e1:bX k (fun j=>a (pm (qR k t i)) (p j)*l (qR k t j) c)=bX k (fun j=>a (pm (qR k t i)) (p j)*l j c):=bP fun j hj=>by rw[rH hj]
  rw[e1];by_cases hk:i < k
  ·rw[rH hk] at e ⊢;exact e
  ·rw[if_neg hk];rw[if_neg (by have:=uP h (show k<=i by lia);lia)] at e;exact e
 unit i hi j hj:=by
  rw[B.unit _ (uO h ht hi) j hj];by_cases hk:i < k
  ·rw[rH hk]
  ·have:=uP h (show k<=i by lia);rw[if_neg (by lia),if_neg (by lia)]
theorem kn.rot (E:kn a m k P p l d) (h:k<=t) (ht:t < m):kn a m k P p (fun i=>l (qR k t i)) d where
 km:=E.km
 d0:=E.d0
 unit i hi j hj:=by
  rw[E.unit _ (uO h ht hi) j hj];by_cases hk:i < k
  ·rw[rH hk]
  ·have:=uP h (show k<=i by lia);rw[if_neg (by lia),if_neg (by lia)]
 inc:=E.inc
 low:=E.low
 zero i h1 h2 c hc:=E.zero _ (uP h h1) (uO h ht h2) c hc
 lead j hj c hc:=by rw[rH hj];exact E.lead j hj c hc
 there i hi:=d7.trans (fun s hs=>d7.congr (fun c=>by rw[Ml h]) (d7.row (a:=fun i=>l (qR k t i)) (i:=BK k t s) (Mn h ht hs))) (E.there i hi)
 back i hi:=E.back _ (uO h ht hi)
end
section
variable {rows fs ls:List (List Rat)} {n P w a:Nat} {ps:List Nat}
theorem Iy {k i:Nat}:jX k k i=i:=by unfold jX;split <;> (try split) <;> lia
theorem xa.rot (h:xa rows n P (fs++ls) ps) (hf:fs.length=ps.length) {t:Nat} (ht:t < ls.length):xa rows n P (fs++ls.getD t [] :: ls.eraseIdx t) ps:=by
 obtain ⟨len,wide,pm,l,d,B,E,v⟩:=h;rw[ao] at len;have h1:ps.length<=ps.length+t:=by lia
 have h2:ps.length+t < rows.length:=by lia
 have ef:∀i,i < rows.length->∀c,b8 (fs++ls.getD t [] :: ls.eraseIdx t) i c=b8 (fs++ls) (qR ps.length (ps.length+t) i) c:=fun i hi c=>by
  by_cases z:i < ps.length
  ·rw[rH z,yR (by lia),yR (by lia)]
  ·obtain ⟨j,rfl⟩:∃j,i=fs.length+j:=⟨i - fs.length,by lia⟩;rw[pC];cases j with
   | zero =>
    rw[show qR ps.length (ps.length+t) (fs.length+0)=fs.length+t by unfold qR;rw[if_neg (by lia),if_pos (by lia)];lia,pC];rfl
   | succ j =>
    by_cases y:j < t
    ·rw[show qR ps.length (ps.length+t) (fs.length+(j+1))=fs.length+j by unfold qR;rw[if_neg (by lia),if_neg (by lia),if_pos (by lia)];lia,pC];show b8 (ls.eraseIdx t) j c=_
     unfold b8;rw[aa (l:=ls.eraseIdx t),List.getElem?_eraseIdx_of_lt y,<- aa]
    ·rw[show qR ps.length (ps.length+t) (fs.length+(j+1))=fs.length+(j+1) by unfold qR;rw[if_neg (by lia),if_neg (by lia),if_neg (by lia)],pC];show b8 (ls.eraseIdx t) j c=_
     unfold b8;rw[aa (l:=ls.eraseIdx t),List.getElem?_eraseIdx_of_ge (by lia),<- aa]
 refine ⟨?_,fun xs hx=>?_,fun i=>pm (qR ps.length (ps.length+t) i),fun i=>l (qR ps.length (ps.length+t) i),d,B.rot h1 h2,E.rot h1 h2,fun i hi c=>?_⟩
 ·rw[ao,aQ,Km ht];lia
 ·rcases aw.mp hx with hx | hx
  ·exact wide xs (aw.mpr (.inl hx))
  ·rcases aB.mp hx with rfl | hx
   ·exact wide _ (aw.mpr (.inr (getD_in ht)))
   ·exact wide xs (aw.mpr (.inr (LV hx)))
 ·rw[ef i hi c,v _ (uO h1 h2 hi) c];by_cases z:i < ps.length
  ·dsimp only
   rw[rH z]
  ·rw[if_neg z,if_neg (by have:=uP h1 (show ps.length<=i by lia);lia)]
def gI (P:Nat) (h:List Rat):List Rat:=h.map fun y=>1 / h.getD P 0*y
def oO (P:Nat) (u r:List Rat):List Rat:=List.zipWith (fun x y=>x - y) r (u.map fun y=>r.getD P 0*y)
theorem xa.lean (h:xa rows n P (fs++ls) ps) (hf:fs.length=ps.length) {t:Nat} (ht:t < ls.length) (hP:P < n) (hne:(ls.getD t []).getD P 0≠0):xa rows n (P+1) ((fs.map (oO P (gI P (ls.getD t [])) )++[gI P (ls.getD t [])])++(ls.eraseIdx t).map (oO P (gI P (ls.getD t [])))) (ps++[P]):=by
 have R:=h.rot hf ht;have len:=R.len;have wide:=R.wide;generalize ls.getD t []=hd at *
 generalize ls.eraseIdx t=l2 at *
 rw[ao,aQ] at len;have whd:hd.length=n:=wide _ (aw.mpr (.inr (.head _)));have wu:(gI P hd).length=n:=by unfold gI;rw[aj];exact whd
 have ek:b8 (fs++hd :: l2) ps.length=fun c=>hd.getD c 0:=by
  have:=pC (X:=fs) (Y:=hd :: l2) (i:=0);rw[show fs.length+0=ps.length by lia] at this;rw[this];rfl
 have wl:∀r,r.length=n->(oO P (gI P hd) r).length=n:=fun r hr=>by unfold oO;rw[ir,aj,wu,hr];lia
 have vl:∀r,r.length=n->∀c,(oO P (gI P hd) r).getD c 0=r.getD c 0 - r.getD P 0*(1 / hd.getD P 0*hd.getD c 0):=fun r hr c=>by
  unfold oO;rw[HC (by rw[aj,wu,hr]),zT];unfold gI;rw[zT]
 refine R.step (t:=ps.length) (ar _) (by rw[ao,aQ];lia) (by rw[ek];exact hne) ?_ ?_ fun i hi c=>?_
 ·rw[ao,ao,aj,aj,bc];lia
 ·intro xs hx;rcases aw.mp hx with hx | hx
  ·rcases aw.mp hx with hx | hx
   ·obtain ⟨r,hr,rfl⟩:=aA.mp hx;exact wl r (wide r (aw.mpr (.inl hr)))
   ·rw[cE.mp hx];exact wu
  ·obtain ⟨r,hr,rfl⟩:=aA.mp hx;exact wl r (wide r (aw.mpr (.inr (.tail _ hr))))
 ·rw[Iy,ek]
  dsimp only
  have lf:(fs.map (oO P (gI P hd))).length=ps.length:=by rw[aj];exact hf
  have key:∀{X:List (List Rat)} {s:Nat} (hs:s < X.length) (_:∀r∈X,r.length=n),b8 (X.map (oO P (gI P hd))) s c=b8 X s c - b8 X s P*(1 / hd.getD P 0*hd.getD c 0):=fun {X s} hs hX=>by
   unfold b8;have e1:(X.map (oO P (gI P hd))).getD s []=oO P (gI P hd) X[s]:=by rw[aa,aJ,ag hs];rfl
   have e2:X.getD s []=X[s]:=by rw[aa,ag hs];rfl
   rw[e1,e2];exact vl _ (hX _ (bE hs)) c
  rcases eL i ps.length with z | z | z
  ·rw[if_neg (by lia),bW,yR (by lia),yR (by lia),key (by lia) fun r hr=>wide r (aw.mpr (.inl hr))]
  ·rw[if_pos z,bW,show i=(fs.map (oO P (gI P hd))).length+0 by lia,pC];show (gI P hd).getD c 0=_
   unfold gI;rw[zT]
  ·rw[if_neg (by lia)];obtain ⟨j,rfl⟩:∃j,i=ps.length+1+j:=⟨i - ps.length - 1,by lia⟩
   have e1:b8 (fs++hd :: l2) (ps.length+1+j)=b8 l2 j:=by
    have:=pC (X:=fs) (Y:=hd :: l2) (i:=j+1);rw[show fs.length+(j+1)=ps.length+1+j by lia] at this;rw[this];rfl
   have e2:b8 ((fs.map (oO P (gI P hd))++[gI P hd])++l2.map (oO P (gI P hd))) (ps.length+1+j)=b8 (l2.map (oO P (gI P hd))) j:=by
    have:=pC (X:=fs.map (oO P (gI P hd))++[gI P hd]) (Y:=l2.map (oO P (gI P hd))) (i:=j);rw[ao,lf,bc] at this;exact this
   rw[e1,e2,key (by lia) fun r hr=>wide r (aw.mpr (.inr (.tail _ hr)))]
end
theorem uS {α β:Type} {F:α->β->Prop}:∀{l1:List α} {l2:List β} (_:Paired F l1 l2) (i:Nat),Paired F (l1.eraseIdx i) (l2.eraseIdx i)
 | _,_,.nil,_=>.nil
 | _,_,.cons _ r,0=>r
 | _,_,.cons h r,i+1=>.cons h (uS r i)
theorem Dk {xs:List Rat} {i c:Nat}:c∈yq xs i↔c < i/\xs.getD c 0≠0:=by
 unfold yq;rw[mO,oE];simp
theorem bF.toE {K:PySem.W.Frag} {H0 H:Hp} {l:Addr} {rows:List (List Rat)} (h:bF K H0 H l rows):∃us,H l=some (.lst us)/\Paired (qD K (fun q=>H0 q=none/\q≠l) H) rows us:=by
 obtain ⟨us,g,pr,nn⟩:=h;exact ⟨us,g,wF (fun xs v hv ⟨q,e,a,b⟩=>⟨q,e,⟨a,fun z=>nn (by rw[<- z,<- e];exact hv)⟩,b⟩) pr⟩
theorem zN {α:Type} {v:α}:∀{l:List α},l.Nodup->v∉l->∀j,(l.set j v).Nodup
 | [],_,_,_=>Ak
 | a :: l,h,hn,0=>by
  rw[dQ] at h;rw[List.set_cons_zero,dQ];exact ⟨fun z=>hn (.tail _ z),h.2⟩
 | a :: l,h,hn,j+1=>by
  rw[dQ] at h;rw[List.set_cons_succ,dQ];refine ⟨fun z=>?_,zN h.2 (fun z=>hn (.tail _ z)) j⟩;rcases cv z with z | z
  ·exact h.1 z
  ·exact hn (by rw[z];exact .head _)
structure jU (K:PySem.W.Frag) (A:Addr->Prop) (H:Hp) (n:Nat) (C:V->Rat->Prop) (m p l b q0:Addr) (us ws vs:List V):Prop where
 bag:iX H b
 inn:Inner H b q0
 gm:H m=some (.lst us)
 gp:H p=some (.lst ws)
 gl:H l=some (.lst vs)
 lm:us.length=n
 row:∀x∈us++vs++ws,fF K A H n (C x) x
 nd:(us++vs++ws).Nodup
section
variable {K:PySem.W.Frag} {A:Addr->Prop} {H H':Hp} {n:Nat} {C C':V->Rat->Prop} {m p l b q0 q:Addr} {us ws vs zs:List V} {y:Rat} {v:V}
theorem jU.same (h:jU K A H n C m p l b q0 us ws vs) (e:aF H H'):jU K A H' n C m p l b q0 us ws vs :=
 ⟨h.bag.same e,(e.upto (p:=b)).2 _ h.inn,e _ _ h.gm,e _ _ h.gp,e _ _ h.gl,h.lm,fun x hx=>(h.row x hx).same e,h.nd⟩
theorem jU.upto (h:jU K A H n C m p l b q0 us ws vs) (M:Ct A m p l b q0) (u:cL b H H') (B':iX H' b):jU K A H' n C m p l b q0 us ws vs :=
 ⟨B',u.2 _ h.inn,u.other M.mb h.gm,u.other M.pb h.gp,u.other M.lb h.gl,h.lm,fun x hx=>(h.row x hx).upto u h.bag M.ab,h.nd⟩
theorem jU.weak (h:jU K A H n C m p l b q0 us ws vs) (w:∀x∈us++vs++ws,∀y,C x y->C' x y):jU K A H n C' m p l b q0 us ws vs :=
 ⟨h.bag,h.inn,h.gm,h.gp,h.gl,h.lm,fun x hx=>(h.row x hx).weak (fun _ z=>z) (w x hx),h.nd⟩
theorem jU.put (h:jU K A H n C m p l b q0 us ws vs) (M:Ct A m p l b q0) (aq:A q) (hq:H q=some (.lst zs)) (hv:cf K H y v) (hc:C (.ref q) y) (j:Nat):jU K A (upd H q (.lst (zs.set j v))) n C m p l b q0 us ws vs:=by
 have ne:∀{z},¬A z->z≠q:=fun h e=>h (by rw[e];exact aq)
 refine ⟨h.bag.upd h.inn (ne M.ab).symm (ne M.aq).symm,h.inn.upd (ne M.ab).symm,by rw[be (ne M.am)];exact h.gm,by rw[be (ne M.ap)];exact h.gp,by rw[be (ne M.al)];exact h.gl,h.lm,fun x hx=>?_,h.nd⟩;by_cases e:x=.ref q
 ·subst e;exact (h.row _ hx).put hq hv hc j
 ·obtain ⟨q1,qs,rfl,a1,r1,l1,c1⟩:=h.row x hx;exact ⟨q1,qs,rfl,a1,r1.updL hq (fun z=>e (by rw[z])),l1,c1⟩
theorem jU.set (h:jU K A H n C m p l b q0 us ws vs) (M:Ct A m p l b q0) (hx:fF K A H n (C v) v) (hn:v∉us++vs++ws) (j:Nat):jU K A (upd H m (.lst (us.set j v))) n C m p l b q0 (us.set j v) ws vs:=by
 have mem:∀x∈us.set j v++vs++ws,x=v\/x∈us++vs++ws:=fun x hx=>by
  rcases aw.mp hx with hx | hx
  ·rcases aw.mp hx with hx | hx
   ·rcases cv hx with hx | hx
    ·exact .inr (by simp [hx])
    ·exact .inl hx
   ·exact .inr (by simp [hx])
  ·exact .inr (by simp [hx])
 refine ⟨h.bag.upd h.inn M.mb M.mq,h.inn.upd M.mb,aG,by rw[be M.mp.symm];exact h.gp,by rw[be M.ml.symm];exact h.gl,by rw[eO];exact h.lm,fun x hx'=>?_,?_⟩
 ·rcases mem x hx' with rfl | hx'
  ·exact hx.other h.gm M.am
  ·exact (h.row x hx').other h.gm M.am
 ·have nd:=h.nd;rw[bW] at nd hn ⊢;obtain ⟨n1,n2,n3⟩:=cN.mp nd;refine cN.mpr ⟨?_,n2,fun a ha c hc=>?_⟩
  ·rcases bV j us.length with z | z
   ·exact zN n1 (fun z'=>hn (aw.mpr (.inl z'))) j
   ·rw[List.set_eq_of_length_le z];exact n1
  ·rcases cv ha with ha | rfl
   ·exact n3 a ha c hc
   ·exact fun z=>hn (aw.mpr (.inr (by rw[z];exact hc)))
end
theorem Eg {M W:Nat} {x:Rat} (h0:0 < M) (h1:M<=2^800) (hW:W<=2^140) (h:Fr M W x):qW x :=
 Dw h0 (ah h1 (au (by decide) (by decide))) (ah hW (au (by decide) (by decide))) h
theorem Jl {t V c:Nat} (ht:t<=3) (hV:V<=2^20) (hc:c<=9):c*(9^t*V)<=2^140:=by
 have h1:9^t<=9^3:=au (by decide) ht;have h2:c*(9^t*V)<=9*(9^3*2^20):=aK hc (aK h1 hV);exact ah h2 (ah (show 9*(9^3*2^20)<=2^40 by decide) (au (by decide) (by decide)))
theorem yr {α:Type} {l:List α} {v:α} (h:l.Nodup) (hn:v∉l):(l++[v]).Nodup:=cN.mpr ⟨h,by simp,fun a ha c hc=>by rw[cE.mp hc];exact fun z=>hn (by rw[<- z];exact ha)⟩
section
variable {K:PySem.W.Frag} {a:Addr} {xs:List V} {g:TG} {tf:TT} {te:TE} {Q:VK} {σ₀:St} {H:Hp} {α β:Type}
theorem zZ {n:Nat} {b:Addr} (G:Hp->β->V->Prop) (C:β->Prop) (hB:iX H b) (hl:n<=1000) (hG:∀{H' H'' c x},G H' c x->cL b H' H''->iX H' b->G H'' c x)
  (hA:∀{H' c x},G H' c x->∃q,x=V.ref q/\H' q≠none)
  (hs:∀(i:Nat) H' NY NN,i < n->cL b H H'->iX H' b->(∀y c H2,cL b H' H2->iX H2 b->C c->G H2 c y->(∃q,y=V.ref q/\H' q=none)->NY y H2)->rz σ₀ g tf te (.int i) H' NY NN)
  (hd:∀ys cs H' p,H p=none->cL b H H'->iX H' b->H' p=some (.lst ys)->cs.length=n->ys.Nodup->(∀c∈cs,C c)->Paired (G H') cs ys->(∃H2,H2 p=none/\Paired (G H2) cs ys)->Q (.ref p) H'):sH (Cu 0 n) σ₀ g tf te Q H:=by
 refine ke (fun i ys H'=>cL b H H'/\iX H' b/\∃cs,cs.length=i/\ys.Nodup/\(∀c∈cs,C c)/\Paired (G H') cs ys) (bC (bT (by lia))) ⟨(aF.refl _).upto,hB,[],rfl,Ak,(fun _ z=>nomatch z),.nil⟩ ?_ ?_
 ·rintro i ys H' hi hlen ⟨u,B,cs,lc,nd,hc,pr⟩;rw[tI];refine hs i H' _ _ hi u B fun y c H2 u2 B2 cc gy ⟨q,ey,nq⟩=>⟨u.trans u2,B2,cs++[c],by simp [lc],yr nd (fun z=>by obtain ⟨c',_,gc⟩:=df pr z;obtain ⟨q',e',h'⟩:=hA gc;rw[ey] at e';cases e';exact h' nq),Er hc cc,cU (Paired.imp' (fun _ _ z=>hG z u2 B) pr) (.cons gy .nil)⟩
 ·rintro ys H' hy ⟨u,B,cs,lc,nd,hc,pr⟩ p hp;have s:aF H' (upd H' p (.lst ys)):=aF.new hp;exact hd ys cs _ p (u.none B hp) (u.same s) (B.same s) aG lc nd hc (Paired.imp' (fun _ _ z=>hG z s.upto B) pr) ⟨H',hp,pr⟩
end
structure DF (K:PySem.W.Frag) (A:Addr->Prop) (n:Nat) (C:Rat->Prop) (m p l b q0:Addr) (us ws vs:List V) (H0 H:Hp):Prop where
 mix:jU K A H n (fun _=>C) m p l b q0 us ws vs
 gp:H p=some (.lst ws)
 gl:H l=some (.lst vs)
 kp:iu A b m H0 H
section
variable {K:PySem.W.Frag} {A:Addr->Prop} {n:Nat} {C:Rat->Prop} {m p l b q0 q:Addr} {us ws vs:List V} {H0 H H':Hp} {y:Rat} {v:V}
theorem DF.same (h:DF K A n C m p l b q0 us ws vs H0 H) (e:aF H H'):DF K A n C m p l b q0 us ws vs H0 H':=⟨h.mix.same e,e _ _ h.gp,e _ _ h.gl,h.kp.same e⟩
theorem DF.upto (h:DF K A n C m p l b q0 us ws vs H0 H) (M:Ct A m p l b q0) (u:cL b H H') (B:iX H' b):DF K A n C m p l b q0 us ws vs H0 H':=⟨h.mix.upto M u B,u.other M.pb h.gp,u.other M.lb h.gl,h.kp.upto u⟩
theorem DF.row (h:DF K A n C m p l b q0 us ws vs H0 H) {x:V} (hx:x∈ws\/x∈vs):fF K A H n C x:=h.mix.row x (by rcases hx with hx | hx <;> simp [hx])
theorem DF.put (h:DF K A n C m p l b q0 us ws vs H0 H) (M:Ct A m p l b q0) (hx:V.ref q∈ws\/V.ref q∈vs) (hv:cf K H y v) (hc:C y) (j:Nat):∃zs,H q=some (.lst zs)/\zs.length=n/\DF K A n C m p l b q0 us ws vs H0 (upd H q (.lst (zs.set j v))):=by
 obtain ⟨q',zs,qs,e,a,g,lz,_⟩:=(h.row hx).at;cases e;have ne:∀{z},¬A z->z≠q:=fun h e=>h (by rw[e];exact a)
 exact ⟨zs,g,lz,h.mix.put M a g hv hc j,by rw[be (ne M.ap)];exact h.gp,by rw[be (ne M.al)];exact h.gl,h.kp.upd (.inl a)⟩
end
def FW (K:PySem.W.Frag):Sp:=fun vs H Q _=>∃(b:Addr) (n w:Nat) (way first:Int),vs=[.ref b,.int n,.int way,.int first,.int w]/\iX H b/\n<=8/\1<=w/\w<=1000000 /\
 ∀r us H',H r=none->H' r=some (.lst us)->us.length=n->us.Nodup->(∀x∈us,fF K (fun q=>H q=none/\q≠r) H' n (Dr (max w 6)) x)->iX H' b->cL b H H'->Q (.ref r) H'
def PtF (n i o w c:Nat) (mv pt lk:List (List Rat)):Prop:=∃M V1:Nat,0 < M/\GF M V1 mv/\GF M V1 pt/\GF M V1 lk/\((w<=9/\M=2520/\V1=9^3*9)\/(9 < w/\M<=2^(c*((n+i+o)*n))/\V1=9^3*2^c))
theorem AW {mv pt:List (List Rat)} {M V1 a c n0:Nat} (M0:0 < M) (hM:M<=2^a) (hn:mv.length<=n0) (hV:(n0+1)*V1<=2^c) (fm:GF M V1 mv) (fp:GF M V1 pt) (h4:a<=400/\c<=40/\n0*(n0*(a+c)+4)<=1740/\n0*(n0*(n0*(a+c)+4)+a+c+4)<=8900):rj mv pt a c:=by
 obtain ⟨h1,h2,h3,h5⟩:=h4;have e1:mv.length*(a+c)<=n0*(a+c):=aD _ hn;have e2:mv.length*(mv.length*(a+c)+4)<=n0*(n0*(a+c)+4):=aK hn (by lia);have e3:mv.length*(mv.length*(mv.length*(a+c)+4)+a+c+4)<=n0*(n0*(n0*(a+c)+4)+a+c+4):=aK hn (by lia);exact ⟨M,V1,M0,hM,ah (aD _ (by lia)) hV,fm,fp,h1,h2,by lia,by lia⟩
def IA (K:PySem.W.Frag):Sp:=fun vs H Q _=>∃b:Addr,vs=[.ref b]/\iX H b /\
 ∀r mv pt lk H',iD K H H' r mv pt lk->6<=mv.length->qC mv pt lk->GF 1 (9^3) mv->GF 1 (9^3) pt->GF 1 (9^3) lk->iX H' b->cL b H H'->Q (.ref r) H'
theorem G9 {mv pt R R':List (List Rat)} {n t:Nat} {ps ps':List Nat} (lm:mv.length=n) (wm:∀xs∈mv,xs.length=n) (wp:∀xs∈pt,xs.length=n) (RR:bR (kry mv pt t) n R ps) (RR':bR (kry mv pt (t+1)) n R' ps'):bR (pt++R.map (uT mv)) n R' ps':=by
 have wk:=iH (mv:=mv) lm wp t;refine ⟨RR'.1,RR'.2.1,RR'.2.2.other ?_ ?_⟩
 ·refine uN (fun i hi=>rC hi) fun i hi=>oW ?_
  rw[aj] at hi;have:=RR.2.2.span i hi;rw[<- RR.1] at this;exact xS lm wm wk RR.2.1 hi this
 ·refine uN (fun i hi=>rC hi) fun i hi=>oW ?_
  rw[aj] at hi;exact xS lm wm RR.2.1 wk hi (RR.2.2.back i (by rw[<- RR.1];exact hi))
theorem J5 {F G:List ju->Rat} {r:Nat} {σ:Nat->Nat} (hF:∀ws:List ju,F (ws.map fun v i=>v (σ i))=G ws):∀(post pre:List ju) (s:Rat),yZ F r (pre.map fun v i=>v (σ i)) (post.map fun v i=>v (σ i)) s=yZ G (σ r) pre post s
 | [],_,_=>rfl
 | v :: post,pre,s=>by
  have i1:=hF (pre++post);have i2:=J5 (r:=r) hF post (pre++[v]) (-s);simp only[cH,fh,List.map_nil,yZ] at i1 i2 ⊢;rw[i1,i2]
theorem Kf {σ:Nat->Nat}:∀(rs:List Nat) (vs:List ju),rk rs (vs.map fun v i=>v (σ i))=rk (rs.map σ) vs
 | [],[]=>rfl
 | [],_ :: _=>rfl
 | r :: rs,vs=>J5 (fun ws=>Kf rs ws) vs [] 1
theorem Gr {σ:Nat->Nat}:∀{k:Nat},(vW (fun i=>i) k).map σ=vW σ k
 | 0=>rfl
 | k+1=>by show σ k :: _=_;rw[Gr];rfl
theorem cw_map {τ:ju->ju} {v:Nat->ju}:∀{k:Nat},(p8 v k).map τ=p8 (fun j=>τ (v j)) k
 | 0=>rfl
 | k+1=>by show τ (v k) :: _=_;rw[cw_map];rfl
theorem LA {σ:Nat->Nat} {v:Nat->ju} {k:Nat}:rk (vW σ k) (p8 v k)=rk (vW (fun i=>i) k) (p8 (fun j i=>v j (σ i)) k):=by
 rw[<- Gr,<- Kf,cw_map]
structure Vb (r n:Nat) (Pm Y Z:Nat->Nat->Rat) (d:Rat) (W:Nat):Prop where
 d0:d≠0
 det:d=rk (vW (fun i=>i) r) (p8 (fun j i=>Pm i j) r)
 eq:∀i,i < r->∀c,c < n->Z i c=bX r fun s=>Pm i s*Y s c
 pf:∀i,i < r->∀s,s < r->Fr 1 W (Pm i s)
 zf:∀i,i < r->∀c,c < n->Fr 1 W (Z i c)
section
variable {rows fs ls:List (List Rat)} {n r M W Wv Wb k P:Nat} {Pm Y Z B E a:Nat->Nat->Rat} {d:Rat} {ps:List Nat} {rs:List (List Rat)}
def NC (rows:List (List Rat)) (n S:Nat):Prop:=2*S<=3990/\∃J:Nat->List (List Rat)->List Nat->Prop,J 0 rows []/\(∀P rs ps,J P rs ps->(∀i,ps.length<=i->i < rs.length->b8 rs i P=0)->J (P+1) rs ps) /\
 (∀P fs ls ps t,J P (fs++ls) ps->fs.length=ps.length->t < ls.length->P < n->(ls.getD t []).getD P 0≠0->J (P+1) ((fs.map (oO P (gI P (ls.getD t [])) )++[gI P (ls.getD t [])])++(ls.eraseIdx t).map (oO P (gI P (ls.getD t [])))) (ps++[P])) /\
 (∀P rs ps,J P rs ps->xa rows n P rs ps)/\∀P rs ps,J P rs ps->P<=n->∀i,i < rows.length->∃D:Nat,0 < D/\D<=2^S/\∀c,Tp D (2^S) (b8 rs i c)
theorem Ki.lws {w a:Nat} (F:Ki rows n w a) (hw:∀xs∈rows,xs.length=n):NC rows n (min rows.length n*(w+4)+a):=by
 obtain ⟨_,_,_,_,_,_,_,_,e⟩:=id F;refine ⟨e,xa rows n,xa.start hw,fun _ _ _ h z=>h.skip z,fun _ _ _ _ _ h hf ht hP hne=>h.lean hf ht hP hne,fun _ _ _ h=>h,fun P rs ps h hP i hi=>?_⟩;obtain ⟨D,D0,D1,D2⟩:=h.sz F hP hi;exact ⟨D,D0,D1,fun c=>(D2 c).mono (au (by decide) (by lia))⟩
end
section
variable {rows R R1 R2 mv pt:List (List Rat)} {n r M V1 W W' Wv Wb k P:Nat} {Pm Y Z B E a:Nat->Nat->Rat} {d:Rat} {ps ps1 ps2:List Nat} {rs:List (List Rat)}
theorem FK (h0:0 < M) (h3:∀xs∈rows,∀x∈xs,Tp M W x):∀i,i < rows.length->∀c,Fr 1 W (dE (rows.map gF) i c):=fun i hi c=>by
 have hx:=getD_in (e:=[]) hi;rw[wC hi];unfold b8;generalize rows.getD i []=xs at hx ⊢;by_cases hc:c < xs.length
 ·have t:=h3 xs hx _ (getD_in (e:=0) hc);obtain ⟨s,e,b⟩:=vP t h0 (o9 (xs:=xs)) (pe (aA.mpr ⟨_,getD_in (e:=0) hc,rfl⟩)) (xI h0 (h3 xs hx));rw[gE,e];exact Fr.int b
 ·rw[aa,aR (by lia)];show Fr 1 W (_*0)
  rw[oC];exact Fr.zero
theorem Vb.of (hw:∀xs∈rows,xs.length=n) (hW:1<=W) (h0:0 < M) (h3:∀xs∈rows,∀x∈xs,Tp M W x) (RR:bR rows n R ps):∃Pm Z d,Vb ps.length n Pm (b8 R) Z d W:=by
 have ent:=FK h0 h3;obtain ⟨ls,ps2,d,I⟩:=vR hw hW (by rw[aj];exact ent) n (ar _);obtain ⟨_,_,⟨pm,B⟩,E⟩:=I;rw[aj] at B E
 have RF:Af rows.length n (b8 rows) ps2.length (fun j=>ps2.getD j 0) (fun i c=>dE ls i c / d):=Af.other (E.done fun i hi c hc=>uD (n:=n) (fun zs hz=>by
  obtain ⟨xs,hx,rfl⟩:=aA.mp hz;rw[oV];exact hw xs hx) hc) xn xo
 obtain ⟨e1,e2,e3⟩:=RF.uniq RR.2.2 (fun _ hi=>d7.row hi) (fun _ hi=>d7.row hi);refine ⟨fun i s=>dE (rows.map gF) (pm i) (ps2.getD s 0),fun i c=>dE (rows.map gF) (pm i) c,d,?_⟩;rw[<- e1];have km:=B.km;refine ⟨B.d0,?_,fun i hi c hc=>?_,fun i hi s hs=>ent _ (B.rng i (by lia)) _,fun i hi c hc=>ent _ (B.rng i (by lia)) _⟩
 ·rw[B.det];exact LA
 ·have:=B.coef (i:=i) (c:=c) (by lia);rw[if_pos hi,Ex] at this;rw[this];exact bP fun s hs=>by rw[<- e3 s hs c];exact gE _ _
theorem zC {f:Nat->Rat} {a:Nat}:∀{b:Nat},bX (a+b) f=bX a f+bX b fun t=>f (a+t)
 | 0=>by show bX a f=bX a f+0;grind
 | b+1=>by
  show bX (a+b) f+f (a+b)=_+(bX b _+f (a+b))
  rw[zC];grind
end
section
variable {rows R R1 R2 mv pt:List (List Rat)} {n t t2 a c:Nat} {ps ps1 ps2:List Nat}
theorem xv (RR:bR rows n R ps):bR R n R ps:=⟨RR.1,RR.2.1,RR.2.2.other (fun i hi=>by rw[RR.1];exact RR.2.2.span i hi) (fun i hi=>RR.2.2.back i (by rw[<- RR.1];exact hi))⟩
theorem IH (RR:bR rows n R ps) (e:ps.length=n) {i:Nat} (hi:i < n) (c:Nat):b8 R i c=if c=i then 1 else 0:=by
 have lo:∀j,j < n->j<=ps.getD j 0:=by
  intro j
  induction j with
  | zero=>intro _;exact aT _
  | succ j ih =>
   intro hj;have:=ih (by lia);have:=RR.2.2.inc j (j+1) (by lia) (by lia)
   lia
 have hi2:∀s j,j+s+1=n->ps.getD j 0<=j:=by
  intro s
  induction s with
  | zero =>
   intro j hj;have:=RR.2.2.low j (by lia)
   lia
  | succ s ih =>
   intro j hj;have:=ih (j+1) (by lia);have:=RR.2.2.inc j (j+1) (by lia) (by lia)
   lia
 have ep:∀j,j < n->ps.getD j 0=j:=fun j hj=>Ii (hi2 (n - 1 - j) j (by lia)) (lo j hj)
 by_cases hc:c < n
 ·have:=RR.2.2.unit i (by lia) c (by lia);rw[ep c hc] at this;rw[this];by_cases z:i=c
  ·rw[if_pos z,if_pos z.symm]
  ·rw[if_neg z,if_neg (Ne.symm z)]
 ·rw[Dx RR.2.1 (by lia),if_neg (by lia)]
theorem Eh {M W:Nat} (h:∀i,i < rows.length->∀c,Tp M W (b8 rows i c)):∀xs∈rows,∀x∈xs,Tp M W x:=fun xs hx x hx'=>by
 obtain ⟨i,hi,rfl⟩:=cg hx;obtain ⟨c,hc,rfl⟩:=cg hx';have:=h i hi c;unfold b8 at this;rw[aa (l:=rows),ag hi] at this;have e:(some rows[i]).getD []=rows[i]:=rfl;rw[e,aa,ag hc] at this;exact this
theorem rj.vb (F:rj mv pt a c) (wm:∀xs∈mv,xs.length=mv.length) (wp:∀xs∈pt,xs.length=mv.length) (ht:t<=ps.length) (RR:bR (kry mv pt t) mv.length R ps):∃Pm Z d w,Vb ps.length mv.length Pm (b8 R) Z d (2^w)/\(ps.length < mv.length/\w=(mv.length - 1)*(a+c)\/ps.length=mv.length/\w=0):=by
 have le:=RR.le;rcases bV ps.length mv.length with z | z
 ·obtain ⟨M,V,M0,Ma,hV,fm,fp,_⟩:=F;have f:=G8 rfl wm wp hV fm fp t
  obtain ⟨Pm,Z,d,vb⟩:=Vb.of (iH rfl wp t) (bG (n:=(mv.length - 1)*(a+c))) (Ag M0 (n:=t)) (fun xs hx x hx'=>Tp.of (f xs hx x hx') (by
   refine ah (bL _ (lE Ma t)) ?_;rw[<- vK,<- bM];refine au (by decide) ?_;rw[<- Ib,cx,tG c];exact aD _ (by lia))) RR
  exact ⟨Pm,Z,d,_,vb,.inl ⟨z,rfl⟩⟩
 ·have e:ps.length=mv.length:=by lia
  obtain ⟨Pm,Z,d,vb⟩:=Vb.of (W:=2^0) (M:=1) RR.2.1 (by decide) (by decide) (Eh fun i hi c=>by
   rw[RR.1,e] at hi;rw[IH RR e hi c]
   split
   ·exact ⟨1,by rw[Rat.one_mul];rfl,by decide⟩
   ·exact ⟨0,by rw[Rat.zero_mul];rfl,by decide⟩) (xv RR)
  exact ⟨Pm,Z,d,0,vb,.inr ⟨e,rfl⟩⟩
end
def Gd (mv pt:List (List Rat)) (i:Nat) (R:List (List Rat)) (ps:List Nat):Prop:=bR (kry mv pt i) mv.length R ps/\∃t,t<=ps.length/\t<=i/\bR (kry mv pt t) mv.length R ps/\(t=i\/∀s,bR (kry mv pt (t+s)) mv.length R ps)
section
variable {mv pt R R':List (List Rat)} {i:Nat} {ps ps':List Nat}
theorem Gd.start:Gd mv pt 0 [] []:=⟨AB,0,ar _,ar _,AB,.inl rfl⟩
theorem Gn (wm:∀xs∈mv,xs.length=mv.length) (wp:∀xs∈pt,xs.length=mv.length) (h:bR (kry mv pt i) mv.length R ps) (h':bR (kry mv pt (i+1)) mv.length R' ps') (e:ps'.length=ps.length):∀s,bR (kry mv pt (i+s)) mv.length R ps:=zR rfl wm wp h (G9 rfl wm wp h h') e
theorem Gd.step (wm:∀xs∈mv,xs.length=mv.length) (wp:∀xs∈pt,xs.length=mv.length) (h:Gd mv pt i R ps) (h':bR (kry mv pt (i+1)) mv.length R' ps'):Gd mv pt (i+1) R' ps'/\(mv.length<=i->R'=R):=by
 obtain ⟨h0,t,t1,t2,ht,hs⟩:=h
 have st:(∀s,bR (kry mv pt (t+s)) mv.length R ps)->Gd mv pt (i+1) R' ps'/\(mv.length<=i->R'=R):=fun hs=>by
  have:=hs (i+1 - t);rw[show t+(i+1 - t)=i+1 by lia] at this;obtain ⟨rfl,rfl⟩:=this.same h';exact ⟨⟨h',t,t1,by lia,ht,.inr hs⟩,fun _=>rfl⟩
 rcases hs with rfl | hs
 ·have gr:=Cd rfl wm wp h0 h';by_cases e:ps'.length=ps.length
  ·exact st (Gn wm wp h0 h' e)
  ·refine ⟨⟨h',t+1,by lia,ar _,h',.inl rfl⟩,fun hn=>?_⟩;have:=h'.le
   lia
 ·exact st hs
end
section
variable {rows R X K0:List (List Rat)} {due L:List Rat} {n m M W D E W0 W1:Nat} {ps:List Nat}
theorem HL {N Wx:Nat} {rs:List Nat} {vs:List ju} (hl:vs.length<=N) (h:∀v∈vs,∀r∈rs,Fr 1 Wx (v r)):∃z:Int,rk rs vs=(z:Rat)/\z.natAbs<=(N*Wx)^rs.length:=by
 have f:=yI hl h;obtain ⟨z,ez⟩:=ve f;rw[ez] at f;exact ⟨z,ez,uC f⟩
end
def rh (mv:List (List Rat)):Nat->List Rat->List Rat
 | 0,x=>x
 | t+1,x=>uT mv (rh mv t x)
section
variable {mv pt lk pus:List (List Rat)} {st pu go:List Rat} {n t T c:Nat}
theorem Jk (h:st.length=mv.length):∀t,(rh mv t st).length=mv.length
 | 0=>h
 | _+1=>yh
theorem AV:∀t,(kry mv pt t).length=t*pt.length
 | 0=>by rw[Nat.zero_mul];rfl
 | t+1=>by
  show (pt++(kry mv pt t).map (uT mv)).length=_
  rw[ao,aj,AV t,tE,tG]
end
section
variable {K:PySem.W.Frag} {H0 H H':Hp} {l p q:Addr} {R:List (List Rat)} {v:V} {mv pt:List (List Rat)} {u T:Nat}
def LH (mv pt:List (List Rat)) (u:Nat):List (List (List Rat)):=(List.range u).map fun s=>pt.map (rh mv s)
theorem JJ:LH mv pt (u+1)=LH mv pt u++[pt.map (rh mv u)]:=by unfold LH;rw[mN,cH];rfl
theorem Bf:∀u,(LH mv pt u).flatten=kry mv pt u
 | 0=>rfl
 | u+1=>by
  have e:LH mv pt (u+1)=pt :: (LH mv pt u).map (List.map (uT mv)):=by
   unfold LH;rw[List.range_succ_eq_map,fh,tH];congr 1
   ·exact vM pt
   ·rw[tH];refine dJ fun s _=>?_
    show pt.map (rh mv (s+1))=(pt.map (rh mv s)).map (uT mv)
    rw[tH];rfl
  rw[e,List.flatten_cons,<- List.map_flatten,Bf u];rfl
end
section
variable {mv pt lk rows R N Hd:List (List Rat)} {st pr go:List Rat} {n r t T a c W B:Nat} {ps psd:List Nat} {Pm Y Z:Nat->Nat->Rat} {d:Rat}
theorem Vb.tp (V:Vb r n Pm Y Z d W) (r15:r<=15) (w1:1<=W):∃q:Nat,0 < q/\q<=(16*W)^r/\∀s,s < r->∀c,c < n->Tp q ((16*W)^r) (Y s c):=by
 have rlt:∀i∈vW (fun i=>i) r,i < r:=fun i hi=>by
  obtain ⟨t,ht,e⟩:=oH hi;have e:i=t:=e
  lia
 obtain ⟨q,eq,bq⟩:=HL (N:=16) (Wx:=W) (rs:=vW (fun i=>i) r) (vs:=p8 (fun j i=>Pm i j) r) (by rw[cw_len];lia) fun w hw i hi=>by
  obtain ⟨s,hs,rfl⟩:=cw_in hw;exact V.pf i (rlt i hi) s hs
 rw[rJ] at bq;rw[<- V.det] at eq;have q0:q≠0:=fun z=>V.d0 (by rw[eq,z];rfl)
 refine ⟨q.natAbs,by lia,bq,fun s hs c hc=>?_⟩
 have cr:=zW (rs:=vW (fun i=>i) r) (v:=fun j i=>Pm i j) (c:=fun j=>Y j c) (W:=fun i=>Z i c) hs (fun i hi=>by
  rw[V.eq i (rlt i hi) c hc];exact bP fun j _=>gE _ _)
 obtain ⟨z,ez,bz⟩:=HL (N:=16) (Wx:=W) (rs:=vW (fun i=>i) r) (vs:=FA (fun j i=>Pm i j) s r++(fun i=>Z i c) :: p8 (fun j i=>Pm i j) s) (by
  have:=congrArg List.length (cw_split (v:=fun j i=>Pm i j) hs);rw[ao,aQ,cw_len] at this;rw[ao,aQ]
  lia) fun w hw i hi=>by
   rcases aw.mp hw with hw | hw
   ·obtain ⟨s',hs',rfl⟩:=Ci hw;exact V.pf i (rlt i hi) s' hs'
   ·rcases aB.mp hw with rfl | hw
    ·exact V.zf i (rlt i hi) c hc
    ·obtain ⟨s',hs',rfl⟩:=cw_in hw;exact V.pf i (rlt i hi) s' (by lia)
 rw[rJ] at bz;rw[ez,<- V.det,eq] at cr;have key:Y s c*(q:Rat)=(z:Rat):=cr.symm;rcases Cy q with h | h
 ·have hq:((q.natAbs:Nat):Rat)=(q:Rat):=by rw[<- aU,<- h]
  exact ⟨z,by rw[hq,key],bz⟩
 ·have hq:((q.natAbs:Nat):Rat)=-(q:Rat):=by rw[<- aU,<- cW];congr 1;lia
  exact ⟨-z,by rw[hq,cW,<- key];grind,by rw[oF];exact bz⟩
theorem Ls (F:rj mv pt a c) (D8:mv.length<=8) (wm:∀xs∈mv,xs.length=mv.length) (wp:∀xs∈pt,xs.length=mv.length):∀T,∃R ps,Gd mv pt T R ps:=by
 intro T
 induction T with
 | zero=>exact ⟨_,_,Gd.start⟩
 | succ T ih =>
  obtain ⟨R,ps,G⟩:=ih;obtain ⟨RR,t,t1,t2,RRt,hs⟩:=id G;have le:=RR.le
  obtain ⟨R',ps',d,ls,S⟩:=zG (n:=mv.length) (rows:=pt++R.map (uT mv)) (fun xs hx=>by
   rcases aw.mp hx with hx | hx
   ·exact wp xs hx
   ·obtain ⟨y,_,rfl⟩:=aA.mp hx;exact yh) (F.step D8 wm wp (t:=t) (by lia) RRt)
  have RR':=vd rfl wm wp RR S.rr;exact ⟨R',ps',(G.step wm wp RR').1⟩
theorem MK (F:rj mv pt a c) (D8:mv.length<=8) (wm:∀xs∈mv,xs.length=mv.length) (wp:∀xs∈pt,xs.length=mv.length) (RR:bR (kry mv pt T) mv.length R ps):Gd mv pt T R ps:=by
 obtain ⟨R',ps',G⟩:=Ls F D8 wm wp T;obtain ⟨rfl,rfl⟩:=RR.same G.1;exact G
theorem rj.rtp (F:rj mv pt a c) (D8:mv.length<=8) (wm:∀xs∈mv,xs.length=mv.length) (wp:∀xs∈pt,xs.length=mv.length) (RR:bR (kry mv pt T) mv.length R ps):∃q,0 < q/\q<=2^(ps.length*((mv.length - 1)*(a+c)+4))/\∀xs∈R,∀x∈xs,Tp q (2^(ps.length*((mv.length - 1)*(a+c)+4))) x:=by
 obtain ⟨_,t,t1,_,RRt,_⟩:=MK F D8 wm wp RR;obtain ⟨Pm,Z,d,w,vb,hw⟩:=F.vb wm wp t1 RRt;have le:=RR.le;obtain ⟨q,q0,q1,q2⟩:=vb.tp (by lia) bG
 have up:(16*2^w)^ps.length<=2^(ps.length*((mv.length - 1)*(a+c)+4)):=by
  have e:(16*2^w)^ps.length=2^(ps.length*(w+4)):=by rw[show (16:Nat)=2^4 from rfl,<- bM,<- vK,cx ps.length,tG w]
  rw[e];refine au (by decide) (bL _ ?_);rcases hw with ⟨_,rfl⟩ | ⟨_,rfl⟩ <;> lia
 refine ⟨q,q0,ah q1 up,Eh fun i hi e=>?_⟩;by_cases he:e < mv.length
 ·exact (q2 i (by rw[<- RR.1];exact hi) e he).mono up
 ·rw[Dx RR.2.1 (by lia)];exact Tp.zero
theorem E3 {M:Nat} (hw:∀xs∈N,xs.length=n) (hW:1<=W) (h0:0 < M) (h3:∀xs∈N,∀x∈xs,Tp M W x) (f:Nat->Nat) (hf:∀i,i < N.length->b8 N i (f i)≠0/\∀j,j < N.length->j≠i->b8 N j (f i)=0) (hn:∀i,i < N.length->f i < n) (RR:bR N n Hd psd):psd.length=N.length:=by
 have ent:=FK h0 h3;obtain ⟨ls,ps2,d,I⟩:=vR hw hW (by rw[aj];exact ent) n (ar _);obtain ⟨_,_,⟨pm,B⟩,E⟩:=I;rw[aj] at B E
 have RF:Af N.length n (b8 N) ps2.length (fun j=>ps2.getD j 0) (fun i c=>dE ls i c / d):=Af.other (E.done fun i hi c hc=>uD (n:=n) (fun zs hz=>by
  obtain ⟨xs,hx,rfl⟩:=aA.mp hz;rw[oV];exact hw xs hx) hc) xn xo
 obtain ⟨e1,_,_⟩:=RF.uniq RR.2.2 (fun _ hi=>d7.row hi) (fun _ hi=>d7.row hi);rw[<- e1];have km:=B.km;rcases bV ps2.length N.length with z | z
 ·exfalso
  have hk:=B.rng ps2.length z;obtain ⟨f1,f2⟩:=hf _ hk
  have low:∀i,i < ps2.length->dE (N.map gF) (pm i) (f (pm ps2.length))=0:=fun i hi=>by
   rw[wC (B.rng i (by lia)),f2 _ (B.rng i (by lia)) (fun e=>by have:=B.inj i ps2.length (by lia) z e;lia),oC]
  have lz:∀j,j < ps2.length->dE ls j (f (pm ps2.length))=0:=fun j hj=>by
   rw[B.old hj]
   exact A5 (fun r hr=>by
    obtain ⟨t,ht,rfl⟩:=oH hr;exact low t ht) _ _
  have:=B.eqs ps2.length z (f (pm ps2.length));rw[if_neg (dF _),E.zero ps2.length (ar _) z _ (hn _ hk),cZ fun j hj=>by rw[lz j hj,oC],wC hk] at this;have bne:=vq (rows:=N) (i:=pm ps2.length);have d0:=B.d0;rcases Ih.mp (this.trans (by grind)) with q | q
  ·exact d0 q
  ·rcases Ih.mp q with q | q
   ·exact bne q
   ·exact f1 q
 ·lia
theorem Lx (h1:∀i j,i < j->j < ps.length->ps.getD i 0 < ps.getD j 0) (h2:∀j,j < ps.length->ps.getD j 0 < n):(wO ps n).length+ps.length=n:=by
 have key:∀i,∃k,k<=ps.length/\(wO ps i).length+k=i/\(∀j,j < k->ps.getD j 0 < i)/\∀j,k<=j->j < ps.length->i<=ps.getD j 0:=by
  intro i
  induction i with
  | zero=>exact ⟨0,aT _,rfl,fun j hj=>absurd hj (cz _),fun j _ _=>aT _⟩
  | succ i ih =>
   obtain ⟨k,k1,k2,k3,k4⟩:=ih;rw[yH];by_cases hk:k < ps.length/\ps.getD k 0=i
   ·have hm:i∈ps:=by rw[<- hk.2];exact getD_in hk.1
    rw[if_neg (fun z=>z hm)];refine ⟨k+1,hk.1,by lia,fun j hj=>?_,fun j hj hl=>?_⟩
    ·rcases bV j k with z | z
     ·have:=k3 j z;lia
     ·rw[show j=k by lia,hk.2];lia
    ·have:=h1 k j (by lia) hl
     lia
   ·have hm:i∉ps:=fun z=>by
     obtain ⟨j,hj,ej⟩:=cg z;have ej':ps.getD j 0=i:=by rw[aa,ag hj];exact ej
     rcases bV j k with y | y
     ·have:=k3 j y;lia
     ·rcases bV k j with x | x
      ·have:=h1 k j x hj;have:=k4 k (ar _) (by lia)
       lia
      ·exact hk ⟨by lia,by rw[show k=j by lia];exact ej'⟩
    rw[if_pos hm];refine ⟨k,k1,by rw[ao,bc];lia,fun j hj=>by have:=k3 j hj;lia,fun j hj hl=>?_⟩;have:=k4 j hj hl;rcases bV i (ps.getD j 0) with y | y
    ·exact y
    ·exact absurd (by rw[show i=ps.getD j 0 by lia];exact getD_in hl) hm
 obtain ⟨k,k1,k2,k3,k4⟩:=key n;rcases bV k ps.length with z | z
 ·have:=k4 k (ar _) z;have:=h2 k z
  lia
 ·lia
theorem AQ:∀xs∈cA R ps n,xs.length=n:=fun xs hx=>by
 obtain ⟨_,_,_,rfl⟩:=v7 hx;exact pS
theorem v8 (RR:bR rows n R ps):(cA R ps n).length+ps.length=n:=by
 unfold cA;rw[aj];exact Lx RR.2.2.inc RR.2.2.low
theorem Dl {M:Nat} (RR:bR rows n R ps) (hW:1<=W) (h0:0 < M) (h3:∀xs∈cA R ps n,∀x∈xs,Tp M W x) (RN:bR (cA R ps n) n Hd psd):psd.length+ps.length=n:=by
 have fn:∀i,i < (cA R ps n).length->∀c,c < n->c∉ps->b8 (cA R ps n) i c=if c=(wO ps n).getD i 0 then 1 else 0:=fun i hi c hc hp=>by
  unfold cA at hi ⊢;rw[aj] at hi;unfold b8;rw[aa (l:=List.map _ _),aJ,ag hi];show (Fx R ps n (wO ps n)[i]).getD c 0=_
  rw[Jt hc hp,aa,ag hi];rfl
 have fm:∀i,i < (cA R ps n).length->(wO ps n).getD i 0 < n/\(wO ps n).getD i 0∉ps:=fun i hi=>by
  unfold cA at hi;rw[aj] at hi;exact A3.mp (getD_in hi)
 have nd:(wO ps n).Nodup:=by
  unfold wO;exact List.Nodup.sublist List.filter_sublist List.nodup_range
 rw[E3 AQ hW h0 h3 (fun i=>(wO ps n).getD i 0) (fun i hi=>⟨?_,fun j hj ne=>?_⟩) (fun i hi=>(fm i hi).1) RN,v8 RR]
 ·rw[fn i hi _ (fm i hi).1 (fm i hi).2,if_pos rfl];decide
 ·rw[fn j hj _ (fm i hi).1 (fm i hi).2,if_neg fun z=>ne ?_];unfold cA at hi hj;rw[aj] at hi hj;rw[aa,aa,ag hi,ag hj] at z;have z:(wO ps n)[i]=(wO ps n)[j]:=z;have pw:=List.pairwise_iff_getElem.mp nd;rcases eL i j with y | y | y
  ·exact absurd z (pw i j hi hj y)
  ·exact y.symm
  ·exact absurd z.symm (pw j i hj hi y)
theorem CD (RR:bR rows n R ps) (RN:bR (cA R ps n) n Hd psd):∀h∈Hd,∀r∈R,iJ h r=0:=fun h hh r hr=>by
 obtain ⟨i,hi,rfl⟩:=cg hh;have wr:=RR.2.1 r hr;have wh:=RN.2.1 _ (bE hi);obtain ⟨v,hv⟩:=RN.2.2.back i (by rw[<- RN.1];exact hi);rw[iI (by lia),wh]
 have fnh:∀c,Hd[i].getD c 0=b8 Hd i c:=fun c=>by
  unfold b8;rw[aa (l:=Hd),ag hi];rfl
 have e1:(bX n fun c=>Hd[i].getD c 0*r.getD c 0)=bX (cA R ps n).length fun t=>v t*bX n fun c=>b8 (cA R ps n) t c*r.getD c 0:=by
  have q:∀c,c < n->Hd[i].getD c 0*r.getD c 0=bX (cA R ps n).length fun t=>v t*(b8 (cA R ps n) t c*r.getD c 0):=fun c _=>by
   rw[fnh c,hv c,gE,<- dM];exact bP fun t _=>by grind
  rw[bP q,mR];exact bP fun t _=>dM
 rw[e1];refine cZ fun t ht=>?_
 have mt:=bE ht;obtain ⟨at_,ha,hp,en⟩:=v7 mt;obtain ⟨j,hj,rfl⟩:=cg hr;have dz:=Lh (xv RR) ha hp (ag hj) wr;rw[<- en] at dz;have wn:(cA R ps n)[t].length=n:=AQ _ mt;rw[iI (by lia),wr] at dz
 have q:(bX n fun c=>b8 (cA R ps n) t c*R[j].getD c 0)=0:=by
  refine Eq.trans (bP fun c _=>?_) dz
  have:b8 (cA R ps n) t c=(cA R ps n)[t].getD c 0:=by
   unfold b8;rw[aa (l:=cA R ps n),ag ht];rfl
  rw[this];exact gE _ _
 rw[q,oC]
end
structure Bd (mv pt:List (List Rat)) (M1 M2 V a1 a2 c:Nat):Prop where
 m1:0 < M1
 m2:0 < M2
 b1:M1<=2^a1
 b2:M2<=2^a2
 gm:GF M1 V mv
 gp:GF M2 V pt
 vc:(mv.length+4)*V<=2^c
section
variable {mv pt lk pus:List (List Rat)} {st pu go:List Rat} {M1 M2 V a1 a2 c N Np p t T ν:Nat}
theorem Bd.v1 (B:Bd mv pt M1 M2 V a1 a2 c):V<=2^c:=ah (eZ _ (by lia)) B.vc
theorem Lv {M W:Nat} {x:Rat} (h0:0 < M) {a b:Nat} (h1:M<=2^a) (h2:W<=2^b) (hab:a+b<=3990) (h:Fr M W x):qW x:=by
 refine uq (Tp.of h (ar _)) h0 (ah h1 (au (by decide) (by lia))) ?_;refine ah (aK h2 h1) ?_;rw[<- bM];exact au (by decide) (by lia)
end
section
variable {mv pt lk pus:List (List Rat)} {st pu go:List Rat} {M1 M2 V a1 a2 c N Np p t T ν k:Nat}
theorem BQ {M a t N ν:Nat} (h:M<=2^a) (hN:N<=2^ν):M^t*N<=2^(a*t+ν):=by
 rw[bM,vK];exact aK (lE h t) hN
def ND (mv:List (List Rat)) (st:List Rat) (T:Nat):Prop:=∃M1 V a1 c N p ν,0 < M1/\M1<=2^a1/\GF M1 V mv/\(mv.length+4)*V<=2^c/\0 < N/\N<=2^ν/\(∀x∈st,Fr N (2^p) x)/\a1*(T+1)+ν+c*(T+1)+p<=3900
theorem Lc (gm:GF M1 V mv) (wm:∀xs∈mv,xs.length=mv.length) (vc:(mv.length+4)*V<=2^c) (ls:st.length=mv.length) (hs:∀x∈st,Fr N (2^p) x):∀t,∀x∈rh mv t st,Fr (M1^t*N) (2^(c*t+p)) x:=by
 intro t
 induction t with
 | zero =>
  intro x hx;rw[Nat.pow_zero,Ia,Nat.mul_zero,Nat.zero_add];exact hs x hx
 | succ t ih =>
  intro x hx;obtain ⟨row,hr,rfl⟩:=aA.mp (show x∈mv.map fun xs=>iJ xs (rh mv t st) from hx);have f:=Fr.dot (gm row hr) ih;rw[<- cJ,cx M1,<- iY] at f;refine f.mono ?_;rw[wm row hr,<- cJ,show c*(t+1)+p=c+(c*t+p) by rw[iN];lia,bM 2 c];exact aD _ (ah (aD V (show mv.length<=mv.length+4 by lia)) vc)
theorem ND.fit (h:ND mv st T) (wm:∀xs∈mv,xs.length=mv.length) (ls:st.length=mv.length) (ht:t<=T):(∀xs∈mv,Cw xs (rh mv t st))/\∀x∈rh mv t st,qW x:=by
 obtain ⟨M1,V,a1,c,N,p,ν,m0,m1,gm,vc,N0,hN,hs,sz⟩:=h;have f:=Lc gm wm vc ls hs t;have V1:V<=2^c:=ah (eZ _ (by lia)) vc;have e1:a1*t<=a1*T:=bL _ ht;have e2:c*t<=c*T:=bL _ ht;rw[iN,iN,Nat.mul_one,Nat.mul_one] at sz;exact ⟨fun xs hx=>⟨a1,c,a1*t+ν,c*t+p,⟨M1,V,m0,m1,V1,gm xs hx⟩,⟨M1^t*N,2^(c*t+p),dq (Ag m0) N0,BQ m1 hN,ar _,f⟩,by lia⟩,fun x hx=>Lv (dq (Ag m0) N0) (BQ m1 hN) (ar _) (by lia) (f x hx)⟩
def Nc (mv pt:List (List Rat)) (T:Nat):Prop:=∃M1 M2 V a1 a2 c,Bd mv pt M1 M2 V a1 a2 c/\a1*(T+1)+a2+c*(T+2)<=3900
theorem Nc.row (h:Nc mv pt T) (wm:∀xs∈mv,xs.length=mv.length) (wp:∀xs∈pt,xs.length=mv.length):∀xs∈pt,ND mv xs T:=fun xs hx=>by
 obtain ⟨M1,M2,V,a1,a2,c,B,sz⟩:=h;refine ⟨M1,V,a1,c,M2,c,a2,B.m1,B.b1,B.gm,B.vc,B.m2,B.b2,fun x hx'=>(B.gp xs hx x hx').mono B.v1,?_⟩;rw[iN c T 2] at sz;rw[iN c T 1]
 lia
end
section
variable {X:Cx}
end
theorem GS (ws vs:List V) (M1 M2 M3:Nat):∃μ:V->Nat,(∀x∈ws,μ x=M2)/\(∀x∈vs,x∉ws->μ x=M3)/\(∀x,x∉ws->x∉vs->μ x=M1)/\∀x,μ x=M1\/μ x=M2\/μ x=M3:=by
 classical
 refine ⟨fun x=>if x∈ws then M2 else if x∈vs then M3 else M1,fun x h=>if_pos h,fun x h h'=>?_,fun x h h'=>?_,fun x=>?_⟩
 ·show (if x∈ws then M2 else if x∈vs then M3 else M1)=M3
  rw[if_neg h',if_pos h]
 ·show (if x∈ws then M2 else if x∈vs then M3 else M1)=M1
  rw[if_neg h,if_neg h']
 ·show (if x∈ws then M2 else if x∈vs then M3 else M1)=M1\/(if x∈ws then M2 else if x∈vs then M3 else M1)=M2\/(if x∈ws then M2 else if x∈vs then M3 else M1)=M3
  by_cases h:x∈ws
  ·rw[if_pos h];exact .inr (.inl rfl)
  ·rw[if_neg h];by_cases h':x∈vs
   ·rw[if_pos h'];exact .inr (.inr rfl)
   ·rw[if_neg h'];exact .inl rfl
theorem jU.apart {K:PySem.W.Frag} {A:Addr->Prop} {H:Hp} {n:Nat} {C:V->Rat->Prop} {m p l b q0:Addr} {us ws vs:List V} (h:jU K A H n C m p l b q0 us ws vs):(∀x∈us,x∉ws/\x∉vs)/\∀x∈vs,x∉ws:=by
 obtain ⟨n1,n2,n3⟩:=cN.mp h.nd;obtain ⟨n4,n5,n6⟩:=cN.mp n1;exact ⟨fun x hx=>⟨fun z=>n3 x (aw.mpr (.inl hx)) x z rfl,fun z=>n6 x hx x z rfl⟩,fun x hx z=>n3 x (aw.mpr (.inr hx)) x z rfl⟩
theorem jU.fr3 {K:PySem.W.Frag} {A:Addr->Prop} {H:Hp} {n c:Nat} {m p l b q0:Addr} {us ws vs:List V} (h:jU K A H n (fun _=>Dr (2^c)) m p l b q0 us ws vs):∃M1 M2 M3,0 < M1/\0 < M2/\0 < M3/\M1<=2^(c*(n*n))/\M2<=2^(c*(ws.length*n))/\M3<=2^(c*(vs.length*n))/\(∀x∈us,fF K A H n (Fr M1 (2^c)) x)/\(∀x∈ws,fF K A H n (Fr M2 (2^c)) x)/\∀x∈vs,fF K A H n (Fr M3 (2^c)) x:=by
 have one:∀l:List V,(∀x∈l,x∈us++vs++ws)->∃M,0 < M/\M<=2^(c*(l.length*n))/\∀x∈l,fF K A H n (Fr M (2^c)) x:=fun l hl=>by
  obtain ⟨ra,pa,la,ha⟩:=xX fun x hx=>h.row x (hl x hx)
  obtain ⟨M,m0,m1,m2⟩:=II (c:=c) (n:=n) (rows:=ra) ha;exact ⟨M,m0,by rw[la] at m1;exact m1,C3 pa fun qs hq=>⟨(ha qs hq).1,m2 qs hq⟩⟩
 obtain ⟨M1,a1,a2,a3⟩:=one us fun x hx=>by simp [hx]
 obtain ⟨M2,b1,b2,b3⟩:=one ws fun x hx=>by simp [hx]
 obtain ⟨M3,c1,c2,c3⟩:=one vs fun x hx=>by simp [hx]
 rw[h.lm] at a2;exact ⟨M1,M2,M3,a1,b1,c1,a2,b2,c2,a3,b3,c3⟩
def EN (K:PySem.W.Frag):Sp:=fun xs H Q _=>∃(b m p l q0:Addr) (n V1:Nat) (μ:V->Nat) (A:Addr->Prop) (us ws vs:List V),xs=[.ref b,.ref m,.ref p,.ref l]/\Ct A m p l b q0/\jU K A H n (fun x=>Fr (μ x) V1) m p l b q0 us ws vs/\n<=8/\ws.length<=4/\vs.length<=4/\(∀x,0 < μ x)/\(∀x,μ x<=2^800)/\(∃M,∀x,x∉ws->x∉vs->μ x=M)/\V1<=2^20/\(∀q,H q=none->A q) /\
 ∀r us' H',H' r=some (.tup [.ref m,.ref p,.ref l])->jU K A H' n (fun x=>Fr (μ x) (9^3*V1)) m p l b q0 us' ws vs->iu A b m H H'->Q (.ref r) H'
def NA (n i o w c:Nat) (mv pt lk:List (List Rat)):Prop:=∃M1 M2 M3 V1:Nat,0 < M1/\0 < M2/\0 < M3/\GF M1 V1 mv/\GF M2 V1 pt/\GF M3 V1 lk/\((w<=9/\M1=2520/\M2=2520/\M3=2520/\V1=9^3*9)\/(9 < w/\M1<=2^(c*(n*n))/\M2<=2^(c*(i*n))/\M3<=2^(c*(o*n))/\V1=9^3*2^c))
def EJ (K:PySem.W.Frag):Sp:=fun vs H Q _=>∃(b:Addr) (n i o w c:Nat),vs=[.ref b,.int n,.int i,.int o,.int w]/\iX H b/\n<=8/\i<=4/\o<=4/\1<=w/\w<=1000000/\max w 6<=2^c/\c<=20/\c*((n+i+o)*n)<=800 /\
 ∀r mv pt lk H',iD K H H' r mv pt lk->mv.length=n->pt.length=i->lk.length=o->qC mv pt lk->NA n i o w c mv pt lk->iX H' b->cL b H H'->Q (.ref r) H'
def Rg (mv pt:List (List Rat)) (w:Nat):Prop:=(w<=9/\Bd mv pt 1 1 (9^3) 0 0 14)\/(w<=9/\mv.length<=5/\Bd mv pt 2520 2520 (9^3*9) 12 12 16)\/(w=1000/\mv.length<=2/\∃M1 M2,Bd mv pt M1 M2 (9^3*2^20) 80 160 33)
theorem Ds {M V:Nat} {l:List (List Rat)} (h:GF M V l) (k:Nat):GF (k*M) V l:=fun xs hx x hx'=>(h xs hx x hx').scaleL k
theorem NA.n {n i o w c:Nat} {mv pt lk:List (List Rat)} (h:NA n i o w c mv pt lk):PtF n i o w c mv pt lk:=by
 obtain ⟨M1,M2,M3,V1,a1,a2,a3,f1,f2,f3,hc⟩:=h;rcases hc with ⟨w9,rfl,rfl,rfl,e⟩ | ⟨w9,e1,e2,e3,e⟩
 ·exact ⟨2520,V1,by decide,f1,f2,f3,.inl ⟨w9,rfl,e⟩⟩
 ·refine ⟨M1*M2*M3,V1,dq (dq a1 a2) a3,?_,?_,?_,.inr ⟨w9,?_,e⟩⟩
  ·have:=Ds f1 (M2*M3);rwa [show M2*M3*M1=M1*M2*M3 by rw[cx (M2*M3),cJ]] at this
  ·have:=Ds f2 (M1*M3);rwa [show M1*M3*M2=M1*M2*M3 by rw[cJ,cx M3,cJ]] at this
  ·exact Ds f3 (M1*M2)
  ·refine ah (aK (aK e1 e2) e3) ?_;rw[<- bM,<- bM,show c*((n+i+o)*n)=c*(n*n)+c*(i*n)+c*(o*n) by rw[Ib,Ib,iN,iN]];exact ar _
section
variable {mv pt lk pus:List (List Rat)} {st pu go pr:List Rat} {M1 M2 V a1 a2 c B b g p t T w:Nat}
theorem Bd.kry (X:Bd mv pt M1 M2 V a1 a2 c) (D:qC mv pt lk):∀t,∀xs∈kry mv pt t,∀x∈xs,Fr (M1^(t - 1)*M2) (2^(c*t)) x:=by
 intro t
 induction t with
 | zero=>intro xs hx;exact nomatch hx
 | succ t ih =>
  intro xs hx x hx';rcases aw.mp (show xs∈pt++(L2.kry mv pt t).map (uT mv) from hx) with hx | hx
  ·refine Fr.up (X.gp xs hx x hx') (FE _ _) (ah X.v1 (au (by decide) ?_));exact dr _ (by lia)
  ·obtain ⟨ys,hy,rfl⟩:=aA.mp hx;obtain ⟨row,hr,rfl⟩:=aA.mp (show x∈mv.map fun zs=>iJ zs ys from hx');rcases t with _ | t
   ·exact nomatch hy
   have f:=Fr.dot (X.gm row hr) (ih ys hy);rw[show M1*(M1^(t+1 - 1)*M2)=M1^(t+1+1 - 1)*M2 by rw[<- cJ,show t+1 - 1=t by lia,show t+1+1 - 1=t+1 by lia,iY,cx M1]] at f;refine f.mono ?_;rw[D.mw row hr,<- cJ,show c*(t+1+1)=c+c*(t+1) by rw[iN c (t+1)];lia,bM 2 c];exact aD _ (ah (aD V (show mv.length<=mv.length+4 by lia)) X.vc)
end
open PySem.MeetsSeq
theorem zd (l:Addr) (items:Array Value) (n:Nat) (x:Value) (e:Nat->Bool) (j:Nat) (hj:j < items.size) (hit:e j=true) (k:Nat) (hs1:items.size<=sizeLine) :
  ∀i:Nat,j - i=k->i<=j->(∀m,i<=m->m < j->e m=false)->Meets (Builtin.«list.remove.loop» ⟨[.ref l,x,rawInt i],[]⟩)
   (fun A R s=>s.heap.get? l=some { cls:=.type "list",dict:=none,data:=.seq items n,slots:=#[] }/\(∀m (hm:m < items.size),SeqAt.EqAt A.in1 s items[m] x (e m))/\R (.ok (.ret .none)) { s with heap:=s.heap.update l (Obj.mapSeq fun xs=>xs.eraseIdxIfInBounds j) }):=by
 induction k with
 | zero =>
  intro i hk hij hno prog w A R s h;obtain ⟨hp,g,d,tk,os⟩:=s;obtain ⟨hl,he,h⟩:=h;have hij':i=j:=by lia
  subst hij'
  wp_walk using wpAny_loadPart' hl
  have hi:items[((i:Nat):Int).toNat]?=some items[i]:=by simp [hj]
  rw[hi];refine wpAny_bind (he _ hj prog w _ _ ?_);rw[hit];have hz':(items.eraseIdxIfInBounds i).size<=sizeLine+1:=ah (size_erased items _) (Nat.le_succ_of_le hs1)
  wp_walk using (wpAny_updateSeq hl rfl (hz:=hs1) (_hz':=hz')),wpAny_loadPart' hl
  simpa using h
 | succ k ih =>
  intro i hk hij hno prog w A R s h;obtain ⟨hp,g,d,tk,os⟩:=s;obtain ⟨hl,he,h⟩:=h;have hlt:i < items.size:=by lia
  wp_walk using wpAny_loadPart' hl
  have hi:items[((i:Nat):Int).toNat]?=some items[i]:=by simp [hlt]
  have hc:((i:Int)+1)=((i+1:Nat):Int):=by push_cast;rfl
  rw[hi];refine wpAny_bind (he _ hlt prog w _ _ ?_);rw[hno i (ar _) (by lia)]
  wp_walk
  rw[hc]
  exact ⟨plainId_quiet plain_remove_loop _,codeAny_builtin entry_remove_loop (by
   rw[Around.under_plainId plain_remove_loop _];exact ih (i+1) (by lia) (by lia) (fun m h1 h2=>hno m (by lia) h2) prog w A R _ ⟨hl,he,h⟩)⟩
theorem zx (l:Addr) (items:Array Value) (n:Nat) (x:Value) (e:Nat->Bool) (j:Nat) (hj:j < items.size)
  (hit:e j=true) (hno:∀m,m < j->e m=false) (hs1:items.size<=sizeLine) :
  Meets (Builtin.«list.remove» ⟨[.ref l,x],[]⟩)
   (fun A R s=>s.heap.get? l=some { cls:=.type "list",dict:=none,data:=.seq items n,slots:=#[] }/\(∀m (hm:m < items.size),SeqAt.EqAt A.in1 s items[m] x (e m))/\R (.ok (.ret .none)) { s with heap:=s.heap.update l (Obj.mapSeq fun xs=>xs.eraseIdxIfInBounds j) }):=by
 intro prog w A R s h;obtain ⟨hp,g,d,tk,os⟩:=s;obtain ⟨hl,he,h⟩:=h
 wp_walk using wpAny_loadPart' hl
 exact ⟨plainId_quiet plain_remove_loop _,codeAny_builtin entry_remove_loop (by
  rw[Around.under_plainId plain_remove_loop _];exact zd l items n x e j hj hit _ hs1 0 rfl (aT _) (fun m _ h2=>hno m h2) prog w A R _ ⟨hl,he,h⟩)⟩
def Nk (K:PySem.W.Frag):V->List V->Hp->VK->Prop:=fun x vs H Q=>∃(l:Addr) (xs:List V) (y:V) (α:Type) (_:DecidableEq α) (k:Kind α) (as:List α) (a:α) (j:Nat),x=.ref l/\vs=[y]/\H l=some (.lst xs)/\k.d<=40/\Paired (fun a x=>k.R K H x a) as xs/\k.R K H y a/\as[j]?=some a/\(∀i,i < j->as[i]?≠some a)/\Q .non (upd H l (.lst (xs.eraseIdx j)))
theorem Fd {X:Cx} (hu:X.A.units+50 < cLine):NB X "list.remove" (Nk X.K):=by
 intro pins s σ H x vs v us Q I rx rv h;obtain ⟨l,xs,y,α,dα,k,as,a,j,rfl,rfl,hH,hd,pa,ha,hj,hno,q⟩:=h;cases rx;obtain ⟨u,rfl,ru⟩:=rv.one;obtain ⟨z,its,n,r,hl,e⟩:=I.lstM hH;have l1:=pa.length;have l2:=r.length;have jl:j < as.length:=(aE.mp hj).1
 refine call_meets F.slot_list_remove ⟨_,e,rfl⟩ F.entry_list_remove (F.args_list_remove_2 _ _)
  (zx l its.toArray n u (fun m=>decide (as[m]?=some a)) j (by rw[aI];lia) (decide_eq_true hj) (fun m hm=>decide_eq_false (hno m hm)) (by rw[aI];lia)) ⟨e,fun m hm=>?_,?_⟩
 ·have ml:m < its.length:=by simpa using hm
  obtain ⟨w,hw,rw'⟩:=r.get (i:=m) (x:=xs[m]'(by lia)) (by simp)
  have ew:its.toArray[m]=w:=by
   rw[ag ml] at hw;simpa using hw
  have q:=k.eq (A:=X.A.in1) I rw' ru (ja pa (i:=m) (by lia) (by lia)) ha (by show X.A.units+1+k.d < cLine;lia);rw[ew,ag (show m < as.length by lia)];have e5:decide (some as[m]=some a)=decide (as[m]=a):=by simp
  rw[e5];exact q
 ·refine ⟨.non,_,I.lset (its':=its.eraseIdx j) hH e ?_ (r.eraseIdx j) ?_,rfl,q⟩
  ·show its.toArray.eraseIdxIfInBounds j=(its.eraseIdx j).toArray
   rw[List.eraseIdxIfInBounds_toArray]
  ·have:=zP xs j
   lia
section
variable {rows rows0 fs l2 R Hd:List (List Rat)} {hd:List Rat} {n P:Nat} {ps psd:List Nat}
theorem GY (wide:∀r∈fs++hd :: l2,r.length=n) {i:Nat} (hi:i < (fs++hd :: l2).length) (c:Nat) :
  b8 ((fs.map (oO P (gI P hd))++[gI P hd])++l2.map (oO P (gI P hd))) i c=if i=fs.length then 1 / hd.getD P 0*hd.getD c 0 else b8 (fs++hd :: l2) i c - b8 (fs++hd :: l2) i P*(1 / hd.getD P 0*hd.getD c 0):=by
 rw[ao,aQ] at hi;have whd:hd.length=n:=wide _ (aw.mpr (.inr (.head _)));have wu:(gI P hd).length=n:=by unfold gI;rw[aj];exact whd
 have vl:∀r,r.length=n->∀c,(oO P (gI P hd) r).getD c 0=r.getD c 0 - r.getD P 0*(1 / hd.getD P 0*hd.getD c 0):=fun r hr c=>by
  unfold oO;rw[HC (by rw[aj,wu,hr]),zT];unfold gI;rw[zT]
 have lf:(fs.map (oO P (gI P hd))).length=fs.length:=aj _
 have key:∀{X:List (List Rat)} {s:Nat} (hs:s < X.length) (_:∀r∈X,r.length=n),b8 (X.map (oO P (gI P hd))) s c=b8 X s c - b8 X s P*(1 / hd.getD P 0*hd.getD c 0):=fun {X s} hs hX=>by
  unfold b8;have e1:(X.map (oO P (gI P hd))).getD s []=oO P (gI P hd) X[s]:=by rw[aa,aJ,ag hs];rfl
  have e2:X.getD s []=X[s]:=by rw[aa,ag hs];rfl
  rw[e1,e2];exact vl _ (hX _ (bE hs)) c
 rcases eL i fs.length with z | z | z
 ·rw[if_neg (by lia),bW,yR (by lia),yR (by lia),key (by lia) fun r hr=>wide r (aw.mpr (.inl hr))]
 ·rw[if_pos z,bW,show i=(fs.map (oO P (gI P hd))).length+0 by lia,pC];show (gI P hd).getD c 0=_
  unfold gI;rw[zT]
 ·rw[if_neg (by lia)];obtain ⟨j,rfl⟩:∃j,i=fs.length+1+j:=⟨i - fs.length - 1,by lia⟩
  have e1:b8 (fs++hd :: l2) (fs.length+1+j)=b8 l2 j:=by
   have:=pC (X:=fs) (Y:=hd :: l2) (i:=j+1);rw[show fs.length+(j+1)=fs.length+1+j by lia] at this;rw[this];rfl
  have e2:b8 ((fs.map (oO P (gI P hd))++[gI P hd])++l2.map (oO P (gI P hd))) (fs.length+1+j)=b8 (l2.map (oO P (gI P hd))) j:=by
   have:=pC (X:=fs.map (oO P (gI P hd))++[gI P hd]) (Y:=l2.map (oO P (gI P hd))) (i:=j);rw[ao,lf,bc] at this;exact this
  rw[e1,e2,key (by lia) fun r hr=>wide r (aw.mpr (.inr (.tail _ hr)))]
def Fv (rows:List (List Rat)) (n S:Nat):Prop:=2*S<=3990/\∃J:Nat->List (List Rat)->List Nat->Prop,J 0 rows []/\(∀P rs ps,J P rs ps->(∀i,ps.length<=i->i < rs.length->b8 rs i P=0)->J (P+1) rs ps) /\
 (∀P fs ls ps t,J P (fs++ls) ps->fs.length=ps.length->t < ls.length->P < n->(ls.getD t []).getD P 0≠0->(∀j,j < t->b8 ls j P=0)->J (P+1) ((fs.map (oO P (gI P (ls.getD t [])) )++[gI P (ls.getD t [])])++(ls.eraseIdx t).map (oO P (gI P (ls.getD t [])))) (ps++[P])) /\
 (∀P rs ps,J P rs ps->xa rows n P rs ps)/\∀P rs ps,J P rs ps->P<=n->∀i,i < rows.length->∃D:Nat,0 < D/\D<=2^S/\∀c,Tp D (2^S) (b8 rs i c)
theorem NC.lwt {S:Nat} (h:NC rows n S):Fv rows n S:=by
 obtain ⟨a,J,j0,j1,j2,j3,j4⟩:=h;exact ⟨a,J,j0,j1,fun P fs ls ps t h1 h2 h3 h4 h5 _=>j2 P fs ls ps t h1 h2 h3 h4 h5,j3,j4⟩
theorem Fv.redJ {S:Nat} (RR:bR rows0 n Hd psd) (hx:∀i,i < rows.length->d7 psd.length (b8 Hd) (b8 rows i)) (hwr:∀xs∈rows,xs.length=n) (hS:2*S<=3990) (s1:∀i,i < psd.length->∃D:Nat,0 < D/\D<=2^S/\∀c,Tp D (2^S) (b8 Hd i c)) (s2:∀i,i < rows.length->∀k,k<=psd.length->∃D:Nat,0 < D/\D<=2^S/\∀c,Tp D (2^S) (b8 rows i c - bX k fun j=>b8 rows i (psd.getD j 0)*b8 Hd j c)):Fv (Hd++rows) n S:=by
 have lH:=RR.1;have Rf:=RR.2.2;have wA:∀xs∈Hd++rows,xs.length=n:=fun xs h=>(aw.mp h).elim (RR.2.1 xs) (hwr xs)
 refine ⟨hS,fun P rs ps=>xa (Hd++rows) n P rs ps/\∃k,k<=psd.length/\ps=psd.take k/\(∀j,j < k->psd.getD j 0 < P)/\(∀j,k<=j->j < psd.length->P<=psd.getD j 0)/\(∀i,i < psd.length->∀c,b8 rs i c=b8 Hd i c)/\∀i,i < rows.length->∀c,b8 rs (psd.length+i) c=b8 rows i c - bX k fun j=>b8 rows i (psd.getD j 0)*b8 Hd j c,?_,?_,?_,fun _ _ _ h=>h.1,?_⟩
 ·refine ⟨xa.start wA,0,aT _,rfl,(fun _ h=>absurd h (cz _)),(fun _ _ _=>aT _),fun i hi c=>by rw[yR (by lia)],fun i hi c=>?_⟩;rw[<- lH,pC];show _=_ - (0:Rat)
  grind
 ·rintro P rs ps ⟨L,k,hk,rfl,h1,h2,h3,h4⟩ hz;refine ⟨L.skip hz,k,hk,rfl,fun j hj=>vL (h1 j hj),fun j hj hj'=>?_,h3,h4⟩;have:=h2 j hj hj';rcases bV P (psd.getD j 0) with q | q
  ·exact q
  ·have e:psd.getD j 0=P:=by lia
   have len:=L.len;rw[ao] at len;have z:=hz j (by rw[dt];lia) (by lia);rw[h3 j hj',<- e,Rf.unit j hj' j hj',if_pos rfl] at z;exact absurd z (by decide)
 ·rintro P fs ls ps t ⟨L,k,hk,rfl,h1,h2,h3,h4⟩ hf ht hP hne hfst;have hfk:fs.length=k:=by rw[hf,dt];lia
  have L2:=L.lean hf ht hP hne;have len:=L.len;have wide:=L.wide;rw[ao,ao] at len
  have at0:b8 (fs++ls) (k+t) P≠0:=by
   rw[<- hfk,pC];exact hne
  have kd:k < psd.length/\psd.getD k 0=P:=by
   by_cases z:k < psd.length/\psd.getD k 0=P
   ·exact z
   ·exfalso
    have lt:∀j,k<=j->j < psd.length->P < psd.getD j 0:=fun j hj hj'=>by
     have:=h2 j hj hj';rcases bV P (psd.getD j 0) with q | q
     ·exact q
     ·have e:psd.getD j 0=P:=by lia
      rcases bV k j with y | y
      ·have a:=Rf.inc k j y hj';have b:=h2 k (ar _) (by lia)
       lia
      ·have:j=k:=by lia
       subst this;exact absurd ⟨hj',e⟩ z
    have zr:∀j,k<=j->j < psd.length->b8 Hd j P=0:=fun j hj hj'=>Rf.lead j hj' P (lt j hj hj')
    apply at0;by_cases y:k+t < psd.length
    ·rw[h3 _ y];exact zr _ (by lia) y
    ·obtain ⟨i,hi⟩:∃i,k+t=psd.length+i:=⟨k+t - psd.length,by lia⟩;have il:i < rows.length:=by lia
     rw[hi,h4 i il,Rf.coef (hx i il) P];obtain ⟨b,hb⟩:∃b,psd.length=k+b:=⟨psd.length - k,by lia⟩;rw[hb,zC,cZ (k:=b) fun j hj=>by rw[zr (k+j) (by lia) (by lia)];grind];grind
  obtain ⟨kd,eP⟩:=kd;have one:b8 (fs++ls) k P=1:=by rw[h3 k kd,<- eP,Rf.unit k kd k kd,if_pos rfl]
  have t0:t=0:=by
   rcases m3 t with z | z
   ·exact z
   ·have:=hfst 0 z;have e:=pC (X:=fs) (Y:=ls) (i:=0);rw[Nat.add_zero,hfk] at e;rw[e,this] at one;exact absurd one (by decide)
  subst t0
  obtain ⟨hd,l2,rfl⟩:∃hd l2,ls=hd :: l2:=by
   cases ls with
   | nil=>exact absurd ht (cz _)
   | cons a b=>exact ⟨a,b,rfl⟩
  have ehd:∀c,hd.getD c 0=b8 Hd k c:=fun c=>by
   rw[<- h3 k kd c];have e:=pC (X:=fs) (Y:=hd :: l2) (i:=0);rw[Nat.add_zero,hfk] at e;rw[e];rfl
  have hP1:hd.getD P 0=1:=by rw[ehd,<- h3 k kd];exact one
  refine ⟨L2,k+1,kd,?_,fun j hj=>?_,fun j hj hj'=>?_,fun i hi c=>?_,fun i hi c=>?_⟩
  ·rw[List.take_succ,ag kd];have:psd[k]=P:=by rw[<- eP,aa,ag kd];rfl
   rw[this];rfl
  ·rcases bV j k with y | y
   ·exact vL (h1 j y)
   ·have:j=k:=by lia
    subst this
    lia
  ·have:=Rf.inc k j (by lia) hj'
   lia
  ·show b8 ((fs.map (oO P (gI P hd))++[gI P hd])++l2.map (oO P (gI P hd))) i c=_
   rw[GY wide (by rw[ao];lia),hP1,ehd];by_cases y:i=fs.length
   ·rw[if_pos y,y,hfk];grind
   ·rw[if_neg y,h3 i hi,h3 i hi,<- eP,Rf.unit i hi k kd,if_neg (by lia)];grind
  ·show b8 ((fs.map (oO P (gI P hd))++[gI P hd])++l2.map (oO P (gI P hd))) (psd.length+i) c=_
   rw[GY wide (by rw[ao];lia),hP1,ehd,if_neg (by lia),h4 i hi,h4 i hi];rw[show (bX k fun j=>b8 rows i (psd.getD j 0)*b8 Hd j P)=0 from cZ fun j hj=>by rw[<- eP,Rf.unit j (by lia) k kd,if_neg (by lia)];grind];show _=b8 rows i c - (bX k (fun j=>b8 rows i (psd.getD j 0)*b8 Hd j c)+b8 rows i (psd.getD k 0)*b8 Hd k c)
   rw[eP];grind
 ·rintro P rs ps ⟨L,k,hk,rfl,h1,h2,h3,h4⟩ hP i hi;rw[ao] at hi;by_cases y:i < psd.length
  ·obtain ⟨D,a,b,c⟩:=s1 i y;exact ⟨D,a,b,fun x=>by rw[h3 i y];exact c x⟩
  ·obtain ⟨j,rfl⟩:∃j,i=psd.length+j:=⟨i - psd.length,by lia⟩;obtain ⟨D,a,b,c⟩:=s2 j (by lia) k hk;exact ⟨D,a,b,fun x=>by rw[h4 j (by lia)];exact c x⟩
theorem Fv.self {M e:Nat} (RR:bR rows0 n Hd psd) (M0:0 < M) (hM:M<=2^e) (th:∀xs∈Hd,∀x∈xs,Tp M (2^e) x) (he:2*e<=3990):Fv Hd n e:=by
 have q:Fv (Hd++[]) n e:=Fv.redJ (rows:=[]) RR (fun i hi=>absurd hi (cz _)) (fun _ h=>nomatch h) he (fun i _=>⟨M,M0,hM,fun c=>JM th i c⟩) (fun i hi=>absurd hi (cz _));rwa [jy] at q
end
def CQ (K:PySem.W.Frag):Sp:=fun vs H Q _=>∃(p:Addr) (n S:Nat) (H0:Hp) (rows:List (List Rat)),vs=[.ref p,.int n]/\bF K H0 H p rows/\rows.length<=100/\n<=100/\(∀xs∈rows,xs.length=n)/\Fv rows n S /\
 ∀r R ps H',H r=none->aF H H'->bF K H H' r R->bR rows n R ps->ps.length<=rows.length->Q (.ref r) H'
theorem GO {xs : List Rat} {n t : Nat} {r : List Nat} (h : yq xs n = t :: r) : ∀ i, i < t → xs.getD i 0 = 0 := fun i hi => by
  by_cases z : xs.getD i 0 = 0
  · exact z
  · exfalso
    have pw : (yq xs n).Pairwise (· < ·) := by unfold yq; exact List.Pairwise.filter _ List.pairwise_lt_range
    have tm : t ∈ yq xs n := by rw [h]; exact .head _
    have tn : t < n := (Dk.mp tm).1;have im : i ∈ yq xs n := Dk.mpr ⟨by lia, z⟩;rw [h] at pw im;rcases aB.mp im with e | e
    · lia
    · have := (List.pairwise_cons.mp pw).1 i e
      lia
def EK (K:PySem.W.Frag):Sp:=fun vs H Q _=>∃(p:Addr) (n w:Nat) (H0:Hp) (rows R:List (List Rat)) (ps:List Nat),vs=[.ref p,.int n]/\bF K H0 H p R/\R.length<=100/\n<=100/\bR rows n R ps/\Et R n w/\(∀xs∈R,∀x∈xs,qW x) /\
 ∀r H',H r=none->aF H H'->bF K H H' r (cA R ps n)->Q (.ref r) H'
structure MP (A lk:List (List Rat)) (e:Nat):Prop where
 n8:A.length<=8
 wm:∀xs∈A,xs.length=A.length
 wp:∀xs∈lk,xs.length=A.length
 kf:∃a c,rj A lk a c/\A.length*((A.length - 1)*(a+c)+4)<=900/\∀p,p<=A.length->(A.length - p)*(p*((A.length - 1)*(a+c)+4)+4)<=e
 e1:e<=1650
def vJ (A lk:List (List Rat)) (n t e:Nat) (Hd:List (List Rat)):Prop:=∃R ps psd M,bR (kry A lk t) n R ps/\bR (cA R ps n) n Hd psd/\psd.length+ps.length=n/\0 < M/\M<=2^e/\∀xs∈Hd,∀x∈xs,Tp M (2^e) x
section
variable {A lk R Hd:List (List Rat)} {e T n t:Nat} {ps psd:List Nat}
theorem MP.sw (h:MP A lk e) (RR:bR (kry A lk T) A.length R ps):(∃w,Et R A.length w)/\(∀xs∈R,∀x∈xs,qW x)/\∃w,Et (cA R ps A.length) A.length w/\min (cA R ps A.length).length A.length*(w+4)<=e/\∃q,0 < q/\∀xs∈cA R ps A.length,∀x∈xs,Tp q (2^w) x:=by
 obtain ⟨a,c,KF,b1,b2⟩:=h.kf;obtain ⟨q,q0,q1,q2⟩:=KF.rtp h.n8 h.wm h.wp RR;have n8:=h.n8;have le:=RR.le;have lR:=RR.1;have cnt:=v8 RR;have e1:=h.e1;have bp:=b2 ps.length le;generalize (A.length - 1)*(a+c)+4=E at b1 b2 q1 q2 bp;have pE:ps.length*E<=900:=ah (aD _ le) b1;have up:∀{m:Nat},900<=m->2^(ps.length*E)<=2^m:=fun h=>au (by decide) (by lia)
 have tn:∀xs∈cA R ps A.length,∀x∈xs,Tp q (2^(ps.length*E)) x:=fun xs hx x hx'=>by
  obtain ⟨a,_,_,rfl⟩:=v7 hx;exact MC q0 q1 q2 RR x hx'
 have bn:min (cA R ps A.length).length A.length*(ps.length*E+4)<=e:=ah (aD _ (show min (cA R ps A.length).length A.length<=A.length - ps.length by lia)) bp;refine ⟨⟨ps.length*E,q,2^(ps.length*E),q0,ah q1 (up (by decide)),bG,ar _,q2,by lia,by lia,?_⟩,fun xs hx x hx'=>uq (q2 xs hx x hx') q0 (ah q1 (up (by decide))) (up (by decide)),ps.length*E,⟨q,2^(ps.length*E),q0,ah q1 (up (by decide)),bG,ar _,tn,by lia,by lia,by lia⟩,bn,q,q0,tn⟩;have:min R.length A.length*(ps.length*E+4)<=8*904:=aK (by lia) (by lia)
 lia
theorem vJ.lwt (h:vJ A lk n t e Hd) (he:e<=1650):Fv Hd n e:=by
 obtain ⟨R,ps,psd,M,_,RN,_,M0,M1,tp⟩:=h;exact Fv.self RN M0 M1 tp (by lia)
theorem vJ.self (h:vJ A lk n t e Hd) {R':List (List Rat)} {ps':List Nat} (RR:bR Hd n R' ps'):R'=Hd:=by
 obtain ⟨R,ps,psd,M,_,RN,_⟩:=h;exact (RR.same (xv RN)).1
end
def CJ (K:PySem.W.Frag) (C:Addr):Sp:=fun vs H Q _=>∃(x:Addr) (T e:Nat) (H0:Hp) (mv pt lk:List (List Rat)),vs=[.ref x,.int T]/\T<=99/\mJ K H0 H C x mv pt lk/\qC mv pt lk/\Kg mv pt lk/\MP (cG mv mv.length) lk e /\
 ∀r Hd H',H r=none->aF H H'->bF K H H' r Hd->vJ (cG mv mv.length) lk mv.length T e Hd->Q (.ref r) H'
def MR (n w T:Nat):Prop:=T<=12/\(9 < w->T<=3)/\(3 < n->n<=5->T<=5)/\(n=3->T<=6)
structure Nx (A lk:List (List Rat)) (T e:Nat):Prop where
 un:MP A lk e
 ad:Nc A lk T
 lw:∃S,Fv (kry A lk T) A.length S
 ft:∃k j,2*e+k+j<=3930/\∀xs∈kry A lk T,su k j xs
section
variable {A lk pk:List (List Rat)} {T w e:Nat}
theorem Cp {M1 M2 Vx a1 a2 c n:Nat} (B:Bd A lk M1 M2 Vx a1 a2 c) (D:qC A lk pk) (hn:A.length<=n) (n15:n<=15) (sz:2*(n*(c*T+(a1*(T - 1)+a2)+4)+(a1*(T - 1)+a2))<=3990):(∃S,Fv (kry A lk T) A.length S)/\∀xs∈kry A lk T,su (a1*(T - 1)+a2) (c*T) xs:=by
 have f:=B.kry D T;have M0:0 < M1^(T - 1)*M2:=dq (Ag B.m1) B.m2
 have hM:M1^(T - 1)*M2<=2^(a1*(T - 1)+a2):=by
  rw[bM];exact aK (ah (lE B.b1 _) (by rw[<- vK];exact ar _)) B.b2
 refine ⟨⟨_,(Ki.lws (w:=c*T+(a1*(T - 1)+a2)) (a:=a1*(T - 1)+a2) ⟨_,2^(c*T+(a1*(T - 1)+a2)),M0,hM,bG,ar _,fun xs hx x hx'=>Tp.of (f xs hx x hx') (by rw[bM];exact bL _ hM),by lia,?_⟩ (iH rfl D.pw T)).lwt⟩,fun xs hx=>⟨_,_,M0,hM,ar _,f xs hx⟩⟩;have:min (kry A lk T).length A.length*(c*T+(a1*(T - 1)+a2)+4)<=n*(c*T+(a1*(T - 1)+a2)+4):=aD _ (by lia)
 lia
theorem xx (G:Rg A lk w) (D:qC A lk pk) (St:MR A.length w T):∃e,Nx A lk T e:=by
 obtain ⟨s1,s2,s3,s4⟩:=St;have tri:∀{n N:Nat} (E e:Nat),n<=N->(∀p,p<=N->(N - p)*(p*E+4)<=e)->∀p,p<=n->(n - p)*(p*E+4)<=e:=fun E e hn h p hp=>ah (aD _ (by lia)) (h p (by lia))
 rcases G with ⟨_,B⟩ | ⟨_,n5,B⟩ | ⟨w1,n2,M1,M2,B⟩
 ·obtain ⟨l1,l2⟩:=Cp (T:=T) (n:=8) B D D.n8 (by decide) (by lia);refine ⟨1650,⟨D.n8,D.mw,D.pw,⟨0,14,AW (M:=1) (V1:=9^3) (n0:=8) (by decide) (by decide) D.n8 (by decide) B.gm B.gp (by decide),?_,fun p hp=>?_⟩,by decide⟩,⟨_,_,_,_,_,_,B,by lia⟩,l1,⟨_,_,by lia,l2⟩⟩
  ·exact ah (aK D.n8 (show (A.length - 1)*(0+14)+4<=102 by have:=D.n8;lia)) (by decide)
  ·have:=tri 102 1650 D.n8 (by decide) p hp;exact ah (bL _ (Ai (bL _ (by have:=D.n8;lia)) _)) this
 ·obtain ⟨l1,l2⟩:(∃S,Fv (kry A lk T) A.length S)/\∀xs∈kry A lk T,su (12*(T - 1)+12) (16*T) xs:=by
   rcases (show A.length<=2\/A.length=3\/3 < A.length by lia) with h | h | h
   ·exact Cp (n:=2) B D h (by decide) (by lia)
   ·have:=s4 h;exact Cp (n:=3) B D (by lia) (by decide) (by lia)
   ·have:=s3 h n5;exact Cp (n:=5) B D n5 (by decide) (by lia)
  refine ⟨720,⟨D.n8,D.mw,D.pw,⟨12,16,AW (M:=2520) (V1:=9^3*9) (n0:=5) (by decide) (by decide) n5 (by decide) B.gm B.gp (by decide),?_,fun p hp=>?_⟩,by decide⟩,⟨_,_,_,_,_,_,B,by lia⟩,l1,⟨_,_,by lia,l2⟩⟩
  ·exact ah (aK n5 (show (A.length - 1)*(12+16)+4<=116 by lia)) (by decide)
  ·have:=tri 116 720 n5 (by decide) p hp;exact ah (bL _ (Ai (bL _ (by lia)) _)) this
 ·have t3:=s2 (by lia);obtain ⟨l1,l2⟩:=Cp (T:=T) (n:=2) B D n2 (by decide) (by lia);have fm:GF (M1*M2) (9^3*2^20) A:=fun xs hx x hx'=>(B.gm xs hx x hx').scale M2
  have fp:GF (M1*M2) (9^3*2^20) lk:=fun xs hx x hx'=>(B.gp xs hx x hx').scaleL M1
  have hM:M1*M2<=2^240:=ah (aK B.b1 B.b2) (by rw[<- bM];exact ar _);refine ⟨600,⟨D.n8,D.mw,D.pw,⟨240,32,AW (n0:=2) (dq B.m1 B.m2) hM n2 (by decide) fm fp (by decide),?_,fun p hp=>?_⟩,by decide⟩,⟨_,_,_,_,_,_,B,by lia⟩,l1,⟨_,_,by lia,l2⟩⟩
  ·exact ah (aK n2 (show (A.length - 1)*(240+32)+4<=276 by lia)) (by decide)
  ·have:=tri 276 600 n2 (by decide) p hp;exact ah (bL _ (Ai (bL _ (by lia)) _)) this
theorem Cw.symm {xs ys:List Rat} (h:Cw xs ys):Cw ys xs:=by obtain ⟨k,j,k',j',a,b,c⟩:=h;exact ⟨k',j',k,j,b,a,by lia⟩
end
def FX (K:PySem.W.Frag):Sp:=fun vs H Q _=>∃(r:Addr) (T:Nat) (H0:Hp) (mv pt lk:List (List Rat)),vs=[.ref r,.int T]/\T<=12/\iD K H0 H r mv pt lk/\qC mv pt lk/\Nc (cG mv mv.length) lk T /\
 ∀q H',H q=none->aF H H'->bF K H H' q (kry (cG mv mv.length) lk T)->Q (.ref q) H'
def CN:Sp:=fun vs H Q _=>∃(b:Addr) (n w:Nat),vs=[.ref b,.int n,.int w]/\iX H b/\n<=8/\∀(T:Nat) H',MR n w T->iX H' b->cL b H H'->Q (.int T) H'
section
variable {K:PySem.W.Frag} {g:TG} {tf:TT} {te:TE} {Q:VK} {σ₀:St} {H:Hp}
theorem DA {n:Nat} (f:Nat->List Rat) (hl:n<=1000)
  (hs:∀(i:Nat) H' NY NN,i < n->aF H H'->(∀q H2,aF H' H2->H' q=none->dC K H2 q (f i)->NY (.ref q) H2)->rz σ₀ g tf te (.int i) H' NY NN)
  (hd:∀ys H' p,H p=none->aF H H'->H' p=some (.lst ys)->ys.Nodup->Paired (cM K H H') ((List.range n).map f) ys->V.ref p∉ys->Q (.ref p) H'):sH (Cu 0 n) σ₀ g tf te Q H:=by
 refine ke (fun i ys H'=>aF H H'/\Paired (cM K H H') ((List.range i).map f) ys/\ys.Nodup/\∀y∈ys,∃q,y=V.ref q/\H' q≠none) (bC (bT (by lia))) ⟨aF.refl _,.nil,Ak,(fun _ h=>nomatch h)⟩ ?_ ?_
 ·rintro i ys H' hi hlen ⟨s,pr,nd,ne⟩;rw[tI];refine hs i H' _ _ hi s fun q H2 s2 nq R=>⟨s.trans s2,?_,?_,fun y hy=>?_⟩
  ·rw[mN,cH];exact cU (Paired.imp' (fun _ _ z=>cM.same z s2) pr) (.cons ⟨q,rfl,s.none nq,R⟩ .nil)
  ·refine cN.mpr ⟨nd,by simp,fun a ha b hb z=>?_⟩;rw[cE.mp hb] at z;obtain ⟨q',e,h⟩:=ne a ha;rw[z] at e;cases e;exact h nq
  ·rcases aw.mp hy with hy | hy
   ·obtain ⟨q',e,h⟩:=ne y hy;exact ⟨q',e,fun z=>h (s2.none z)⟩
   ·obtain ⟨_,gg,_⟩:=R;exact ⟨q,cE.mp hy,by rw[gg];exact fun z=>nomatch z⟩
 ·rintro ys H' hy ⟨s,pr,nd,ne⟩ p hp;refine hd ys _ p (s.none hp) (s.trans (aF.new hp)) aG nd (Paired.imp' (fun _ _ z=>cM.same z (aF.new hp)) pr) fun z=>?_
  obtain ⟨q,e,h⟩:=ne _ z;cases e;exact h hp
end
def CT (K:PySem.W.Frag):Sp:=fun vs H Q _=>∃b:Addr,vs=[.ref b]/\iX H b /\
 ∀t r (w:Nat) mv pt lk H',H' t=some (.tup [.ref r,.int w])->iD K H H' r mv pt lk->qC mv pt lk->Kg mv pt lk->Rg (cG mv mv.length) lk w->1<=w->w<=1000->iX H' b->cL b H H'->Q (.ref t) H'
theorem vJ.dot {A lk Hd:List (List Rat)} {n t e:Nat} (h:vJ A lk n t e Hd) (hw:∀xs∈kry A lk t,xs.length=n):∀x∈Hd,∀y∈kry A lk t,iJ x y=0:=fun x hx y hy=>by
 obtain ⟨R,ps,psd,M,RR,RN,_⟩:=h;obtain ⟨i,hi,rfl⟩:=cg hy;have wx:=RN.2.1 x hx;have wy:=hw _ hy;obtain ⟨v,hv⟩:=RR.2.2.span i hi;rw[iI (by lia),wx]
 have e1:∀c,c < n->x.getD c 0*(kry A lk t)[i].getD c 0=bX ps.length fun s=>v s*(x.getD c 0*b8 R s c):=fun c _=>by
  have:(kry A lk t)[i].getD c 0=b8 (kry A lk t) i c:=by
   unfold b8;rw[aa (l:=kry A lk t),ag hi];rfl
  rw[this,hv c,<- dM];exact bP fun s _=>by grind
 rw[bP e1,mR,cZ fun s hs=>?_];rw[dM];have hs':s < R.length:=by rw[RR.1];exact hs
 have wr:=RR.2.1 _ (bE hs');have dz:=CD RR RN x hx _ (bE hs');rw[iI (by lia),wx] at dz
 have:(bX n fun c=>x.getD c 0*b8 R s c)=0:=by
  refine Eq.trans (bP fun c _=>?_) dz;unfold b8;rw[aa (l:=R),ag hs'];rfl
 rw[this];grind
theorem vJ.cnt {A lk Hd R':List (List Rat)} {ps':List Nat} {n t e:Nat} (h:vJ A lk n t e Hd) (RR:bR (kry A lk t) n R' ps'):Hd.length+R'.length=n:=by
 obtain ⟨R,ps,psd,M,RR0,RN,c,_⟩:=h;obtain ⟨rfl,rfl⟩:=RR.same RR0;rw[RN.1,RR.1];exact c
theorem vJ.szn {A lk Hd:List (List Rat)} {n t e:Nat} (h:vJ A lk n t e Hd) (he:e<=1650):(∀xs∈Hd,xs.length=n)/\Hd.length<=n/\(∀xs∈Hd,∀x∈xs,qW x)/\∀xs∈Hd,su e e xs:=by
 obtain ⟨R,ps,psd,M,RR0,RN,c,M0,M1,tp⟩:=h;have up:2^e<=2^3995:=au (by decide) (by lia);exact ⟨RN.2.1,by rw[RN.1];lia,fun xs hx x hx'=>uq (tp xs hx x hx') M0 (ah M1 up) up,fun xs hx=>⟨M,2^e,M0,M1,ar _,fun x hx'=>(tp xs hx x hx').fr M0⟩⟩
def CK (K:PySem.W.Frag):Sp:=fun vs H Q _=>∃(td rw:Addr) (T e:Nat) (H0 H1:Hp) (A lk Hd:List (List Rat)),vs=[.ref td,.ref rw,.int A.length]/\bF K H0 H td Hd/\bF K H1 H rw (kry A lk T)/\T<=12/\lk.length<=4/\A.length<=8/\(∀xs∈lk,xs.length=A.length)/\vJ A lk A.length T e Hd/\Nx A lk T e/\∀H',aF H H'->Q (.bl true) H'
def CV (K:PySem.W.Frag) (C:Addr):Sp:=fun vs H Q _=>∃(x r:Addr) (T e:Nat) (H0 H1:Hp) (mv pt lk:List (List Rat)),vs=[.ref x,.ref r,.int T]/\T<=12/\mJ K H0 H C x mv pt lk/\iD K H1 H r mv pt lk/\qC mv pt lk/\Kg mv pt lk/\Nx (cG mv mv.length) lk T e/\∀H',aF H H'->Q (.bl true) H'
theorem uw {R Z:List (List Rat)} {ps:List Nat} {n:Nat} (hz:∀i c,b8 Z i c=0) (hl:R.length=ps.length) (hw:∀xs∈R,xs.length=n) (inc:∀i j,i < j->j < ps.length->ps.getD i 0 < ps.getD j 0) (low:∀j,j < ps.length->ps.getD j 0 < n)
  (unit:∀i,i < ps.length->∀j,j < ps.length->b8 R i (ps.getD j 0)=if i=j then 1 else 0) (lead:∀i,i < ps.length->∀c,c < ps.getD i 0->b8 R i c=0):bR (R++Z) n R ps:=by
 refine ⟨hl,hw,⟨inc,low,unit,lead,fun i hi=>?_,fun i hi=>?_⟩⟩
 ·by_cases y:i < R.length
  ·rw[yR y,<- hl];exact d7.row y
  ·obtain ⟨j,rfl⟩:∃j,i=R.length+j:=⟨i - R.length,by lia⟩;rw[pC];exact d7.zero (hz j)
 ·rw[show b8 R i=b8 (R++Z) i from (yR (by lia)).symm];exact d7.row (by rw[ao];lia)
def uk (a:Nat):List Rat:=(List.range 8).map fun j=>if j=a then 1 else 0
def BH:List (List Rat):=(List.range 8).map fun i=>uk (i+1)
def Gh (T:Nat):List (List Rat):=(List.range (8 - T)).map fun i=>uk (T+i)
theorem KG:kry (cG BH 8) [uk 0] 0=[]++[]/\kry (cG BH 8) [uk 0] 5=(List.range 5).map uk++[]/\kry (cG BH 8) [uk 0] 8=(List.range 8).map uk++[]/\kry (cG BH 8) [uk 0] 12=(List.range 8).map uk++List.replicate 4 (List.replicate 8 0):=by
 decide +kernel
theorem xP (i c:Nat):b8 [] i c=0:=rfl
theorem LX {m:Nat} (i c:Nat):b8 (List.replicate m (List.replicate 8 (0:Rat))) i c=0:=by
 unfold b8;rw[aa (l:=List.replicate m _),nG]
 split
 ·show (List.replicate 8 (0:Rat)).getD c 0=0
  rw[aa,nG]
  split <;> rfl
 ·rfl
theorem KE {e T:Nat} {Hd:List (List Rat)} (hT:T=0\/T=5\/T=8\/T=12) (h:vJ (cG BH 8) [uk 0] 8 T e Hd):Hd=Gh T:=by
 obtain ⟨R,ps,psd,M,RR,RN,_⟩:=h;obtain ⟨k0,k5,k8,k12⟩:=KG
 have fin:∀(k:Nat) (Z:List (List Rat)),kry (cG BH 8) [uk 0] T=(List.range k).map uk++Z->(∀i c,b8 Z i c=0)->(k=0\/k=5\/k=8)->Gh T=Gh k->Hd=Gh T:=fun k Z e hz hk ed=>by
  have A:bR ((List.range k).map uk++Z) 8 ((List.range k).map uk) (List.range k):=by
   rcases hk with rfl | rfl | rfl
   ·exact uw hz rfl (by decide) (fun i j _ h=>absurd h (cz _)) (by decide) (by decide) (by decide)
   ·exact uw hz rfl (by decide) (by intro i j h1 h2;have h2:j < 5:=h2;revert i;revert j;decide) (by decide) (by decide +kernel) (by decide +kernel)
   ·exact uw hz rfl (by decide) (by intro i j h1 h2;have h2:j < 8:=h2;revert i;revert j;decide) (by decide) (by decide +kernel) (by decide +kernel)
  rw[e] at RR;obtain ⟨rfl,rfl⟩:=RR.same A
  have B:∃pd,bR (cA ((List.range k).map uk) (List.range k) 8++[]) 8 (Gh k) pd:=by
   rcases hk with rfl | rfl | rfl
   ·refine ⟨List.range 8,?_⟩;rw[show cA ((List.range 0).map uk) (List.range 0) 8=Gh 0 by decide +kernel];exact uw xP rfl (by decide) (by intro i j h1 h2;have h2:j < 8:=h2;revert i;revert j;decide) (by decide) (by decide +kernel) (by decide +kernel)
   ·refine ⟨[5,6,7],?_⟩;rw[show cA ((List.range 5).map uk) (List.range 5) 8=Gh 5 by decide +kernel];exact uw xP rfl (by decide) (by intro i j h1 h2;have h2:j < 3:=h2;revert i;revert j;decide) (by decide) (by decide +kernel) (by decide +kernel)
   ·refine ⟨[],?_⟩;rw[show cA ((List.range 8).map uk) (List.range 8) 8=Gh 8 by decide +kernel];exact uw xP rfl (by decide) (fun i j _ h=>absurd h (cz _)) (by decide) (by decide) (by decide)
  obtain ⟨pd,B⟩:=B;rw[jy] at B;rw[ed];exact (RN.same B).1
 rcases hT with rfl | rfl | rfl | rfl
 ·exact fin 0 [] k0 xP (.inl rfl) rfl
 ·exact fin 5 [] k5 xP (.inr (.inl rfl)) rfl
 ·exact fin 8 [] k8 xP (.inr (.inr rfl)) rfl
 ·exact fin 8 _ k12 LX (.inr (.inr rfl)) rfl
theorem CF {a:Nat}:((List.range 8).map fun (j:Nat)=>(((if decide ((j:Int)=(a:Int))=true then 1 else 0:Int)):Rat))=uk a:=by
 unfold uk;refine dJ fun j _=>?_
 by_cases e:j=a
 ·rw[if_pos (decide_eq_true (by lia)),if_pos e];rfl
 ·rw[if_neg (by intro z;exact e (by have:=of_decide_eq_true z;lia)),if_neg e];rfl
theorem KH:((List.range 8).map fun (i:Nat)=>(List.range 8).map fun (j:Nat)=>(((if decide ((j:Int)=(i:Int)+1)=true then 1 else 0:Int)):Rat))=BH:=by
 unfold BH;exact dJ fun i _=>CF (a:=i+1)
theorem C1:qC BH [] [uk 0]:=⟨by decide,by decide,by decide,by decide,by decide,by decide⟩
theorem Gi:GF 1 1 BH/\GF 1 1 []/\GF 1 1 [uk 0]:=by
 have b:∀{x:Rat},x=0\/x=1->Fr 1 1 x:=fun h=>by
  rcases h with rfl | rfl
  ·exact Fr.zero
  ·exact Fr.one (ar _)
 have q:(∀xs∈BH,∀x∈xs,x=0\/x=1)/\∀xs∈[uk 0],∀x∈xs,x=0\/x=1:=by decide +kernel
 exact ⟨fun xs hx x hx'=>b (q.1 xs hx x hx'),(fun _ h=>nomatch h),fun xs hx x hx'=>b (q.2 xs hx x hx')⟩
theorem DR:Kg BH [] [uk 0]:=⟨1,1,by decide,bG,bG,Gi⟩
theorem Mj:∃e,MP (cG BH BH.length) [uk 0] e:=by
 have up:∀{l:List (List Rat)},GF 1 1 l->GF 1 (9^3) l:=fun h xs hx x hx'=>(h xs hx x hx').mono (by decide)
 obtain ⟨e,h⟩:=xx (T:=0) (w:=4) (.inl ⟨by decide,by decide,by decide,by decide,by decide,xp (up Gi.1),up Gi.2.2,by decide⟩) C1.turn ⟨by decide,by decide,(fun _ _=>by decide),(fun _=>by decide)⟩;exact ⟨e,h.un⟩
def CO:Sp:=fun vs H Q _=>vs=[]/\∀H',aF H H'->Q (.bl true) H'
theorem MR.mono {n w T T':Nat} (h:MR n w T) (hl:T'<=T):MR n w T':=by
 obtain ⟨a,b,c,d⟩:=h;exact ⟨by lia,fun z=>ah hl (b z),fun x y=>ah hl (c x y),fun z=>ah hl (d z)⟩
theorem Iq {A lk Hd:List (List Rat)} {n e:Nat} (h:vJ A lk n 0 e Hd):Hd=(List.range n).map fun (a:Nat)=>xQ n a:=by
 obtain ⟨R,ps,psd,M,RR,RN,_⟩:=h;obtain ⟨rfl,rfl⟩:=RR.same (AB (n:=n))
 have e1:cA [] [] n=(List.range n).map fun (a:Nat)=>xQ n a:=by
  unfold cA;have:wO [] n=List.range n:=by unfold wO;exact List.filter_eq_self.mpr fun x _=>by simp
  rw[this];exact dJ fun a _=>xB
 rw[e1] at RN
 have vu:∀i,i < n->∀c,c < n->b8 ((List.range n).map fun (a:Nat)=>xQ n a) i c=if c=i then 1 else 0:=fun i hi c hc=>by
  unfold b8;rw[aa (l:=List.map _ _),aJ,lF hi];show (xQ n i).getD c 0=_
  rw[<- xB (R:=[]) (ps:=[]),GP hc];by_cases e:c=i
  ·rw[if_pos e,if_pos e]
  ·rw[if_neg e,if_neg e];rfl
 have gr:∀j,j < n->(List.range n).getD j 0=j:=fun j hj=>by rw[aa,lF hj];rfl
 have B:bR (((List.range n).map fun (a:Nat)=>xQ n a)++[]) n ((List.range n).map fun (a:Nat)=>xQ n a) (List.range n):=by
  refine uw xP (by rw[aj]) (fun xs hx=>?_) (fun i j h1 h2=>?_) (fun j hj=>?_) (fun i hi j hj=>?_) (fun i hi c hc=>?_)
  ·obtain ⟨a,_,rfl⟩:=aA.mp hx;rw[<- xB (R:=[]) (ps:=[])];exact pS
  ·rw[cO] at h2;rw[gr i (by lia),gr j h2];exact h1
  ·rw[cO] at hj;rw[gr j hj];exact hj
  ·rw[cO] at hi hj;rw[gr j hj,vu i hi j hj];by_cases e:i=j
   ·rw[if_pos e.symm,if_pos e]
   ·rw[if_neg (fun z=>e z.symm),if_neg e]
  ·rw[cO] at hi;rw[gr i hi] at hc;rw[vu i hi c (by lia),if_neg (by lia)]
 rw[jy] at B;exact (RN.same B).1
theorem Ip {n:Nat} {a:Int}:((List.range n).map fun (j:Nat)=>(((if decide ((j:Int)=a)=true then 1 else 0:Int)):Rat))=xQ n a:=by
 unfold xQ;refine dJ fun j _=>?_
 by_cases e:(j:Int)=a
 ·rw[if_pos (decide_eq_true e),if_pos e];rfl
 ·rw[if_neg (fun z=>e (of_decide_eq_true z)),if_neg e];rfl
end L2
open L2
local macro_rules | `(tactic| walk_at "hl") => `(tactic| first | (show _ ≤ sizeLine; with_unfolding_all decide) | (with_unfolding_all exact (by decide)))
local macro_rules | `(tactic| walk_at "sq") => `(tactic| first | with_reducible assumption | with_reducible exact qX.of (by assumption) | with_reducible exact bJ.of (by assumption) | with_reducible exact qX.of aG | with_reducible exact bJ.of aG | assumption)
local macro_rules | `(tactic| walk_at "sc") => `(tactic| first | (with_reducible show (0 : Int) < _; decide) | with_reducible exact JD (by decide) (by decide) | with_reducible exact El (by decide) (by decide) | with_reducible exact cpow_of (by decide) (by decide) (by decide))
local macro_rules | `(tactic| walk_at "rd") => `(tactic| first
  | with_reducible refine KO ?_
  | with_reducible refine IQ ?_
  | with_reducible refine K8 ?_
  | with_reducible refine Gy ?_
  | ((with_reducible refine' KJ ?hx1 ?_); (case hx1 => with_unfolding_all rfl))
  | with_reducible refine Ni ?_
  | with_reducible refine Ms ?_
  | with_reducible refine Mv ?_
  | with_reducible refine Mo ?_
  | with_reducible refine Nj ?_
  | with_reducible refine K7 ?_
  | with_reducible refine KU ?_
  | with_reducible refine rd_eqS ?_
  | with_reducible refine rd_neS ?_
  | with_reducible refine rd_eqB ?_
  | with_reducible refine rd_neB ?_
  | with_reducible refine IU ?_
  | with_reducible refine C5 ?_
  | with_reducible refine K6 ?_
  | with_reducible refine IL ?_
  | with_reducible refine IS ?_
  | with_reducible refine IT ?_
  | with_reducible refine Gx ?_
  | with_reducible refine IK ?_
  | with_reducible refine Mp ?_
  | with_reducible refine KP ?_
  | with_reducible refine rd_retN ?_
  | with_reducible refine K3 ?_
  | with_reducible refine K9 ?_
  | with_reducible refine Mr ?_
  | with_reducible refine KR ?_
  | with_reducible refine Jf ?_
  | with_reducible refine rd_orV ?_
  | with_reducible refine IP ?_
  | with_reducible refine K4 ?_
  | with_reducible refine KI ?_
  | with_reducible refine Hq ?_
  | with_reducible refine MG ?_
  | with_reducible refine MH ?_
  | with_reducible refine MI ?_
  | with_reducible refine JX ?_
  | with_reducible refine KS ?_
  | with_reducible refine Jb ?_
  | with_reducible refine KL ?_
  | with_reducible refine KW ?_
  | with_reducible refine Jd ?_
  | with_reducible refine Mt ?_
  | with_reducible refine Ja ?_
  | with_reducible refine KQ ?_
  | with_reducible refine Je ?_
  | ((with_reducible refine' rd_aug ?hx1 ?_); (case hx1 => with_unfolding_all rfl))
  | with_reducible refine K2 ?_
  | with_reducible refine IX ?_
  | with_reducible refine Gz ?_
  | with_reducible refine IY ?_
  | with_reducible refine Mq ?_
  | with_reducible refine E2 ?_
  | with_reducible refine IM ?_
  | with_reducible refine K5 ?_
  | with_reducible refine Gv ?_
  | with_reducible refine IV ?_
  | with_reducible refine Gu ?_
  | with_reducible refine Gs ?_
  | ((with_reducible refine' Jc ?hx1 ?_); (case hx1 => with_unfolding_all rfl))
  | with_reducible refine IJ ?_
  | with_reducible refine Mu ?_
  | with_reducible refine rd_bm0 ?_
  | with_reducible refine rd_brk ?_
  | ((with_reducible refine' IW ?hx1 ?hx2 ?_); (case hx1 => walk_at "sq"); (case hx2 => with_unfolding_all rfl))
  | with_reducible refine rd_cont ?_
  | ((with_reducible refine' fj ?hx1 ?_); (case hx1 => walk_at "sc"))
  | ((with_reducible refine' KY ?hx1 ?hx2 ?_); (case hx1 => walk_at "sq"); (case hx2 => with_unfolding_all rfl))
  | ((with_reducible refine' b9 ?hx1 ?hx2 ?_); (case hx1 => walk_at "sq"); (case hx2 => with_unfolding_all rfl))
  | ((with_reducible refine' IZ ?hx1 ?hx2 ?_); (case hx1 => walk_at "sq"); (case hx2 => with_unfolding_all rfl))
  | ((with_reducible refine' eV ?hx1 ?hx2 ?hx3 ?_); (case hx1 => with_reducible first | assumption | exact aG); (case hx2 => with_unfolding_all rfl); (case hx3 => with_unfolding_all rfl))
  | with_reducible refine ⟨_, rfl, ?_⟩
  | with_reducible refine ⟨_, _, rfl, ?_⟩)
local macro_rules | `(tactic| walk_at "w") => `(tactic| repeat walk_at "rd")
local macro_rules | `(tactic| walk_at "d") => `(tactic| exact ⟨rfl,rfl,rfl,by decide +kernel,rfl,by decide +kernel,by decide +kernel⟩)
namespace Lw
open PySem PySem.Spec PyProof.Rows L2 Nm
set_option maxHeartbeats 4000000
def top (i:Nat):Stmt:=PySem.Challenge.pw_helmsum_k51_unseen_rows.main.body.getD i (.Pass ⟨0,0,0,0⟩)
abbrev j9:Stmt:=top 50
abbrev ji:Stmt:=top 51
abbrev je:Stmt:=top 46
abbrev jZ:Stmt:=top 9
abbrev dY:Stmt:=top 10
abbrev jh:Stmt:=top 12
abbrev oY:Stmt:=top 16
abbrev fR:Stmt:=top 47
abbrev dH:Stmt:=inClass (top 48) 0
abbrev jg:Stmt:=top 18
abbrev dG:Stmt:=top 11
abbrev eH:Stmt:=top 17
abbrev gQ:Stmt:=top 28
abbrev mX:Stmt:=top 30
abbrev gR:Stmt:=top 29
abbrev sJ:Stmt:=top 31
abbrev oX:Stmt:=top 13
abbrev mT:Stmt:=top 32
abbrev mS:Stmt:=top 19
abbrev mW:Stmt:=top 22
abbrev gP:Stmt:=top 37
abbrev fO:Stmt:=top 38
abbrev gO:Stmt:=top 39
abbrev fP:Stmt:=top 23
abbrev eI:Stmt:=inClass (top 48) 3
abbrev jY:Stmt:=top 20
abbrev eG:Stmt:=top 25
abbrev mV:Stmt:=top 26
abbrev sN:Stmt:=top 14
abbrev mU:Stmt:=top 34
abbrev fQ:Stmt:=top 27
abbrev sL:Stmt:=top 35
abbrev fN:Stmt:=top 41
abbrev gV:Stmt:=top 78
abbrev j7:Stmt:=top 52
abbrev j5:Stmt:=top 53
abbrev jo:Stmt:=top 60
abbrev jm:Stmt:=top 55
abbrev mY:Stmt:=top 62
abbrev gX:Stmt:=top 64
abbrev jr:Stmt:=top 72
abbrev fz:Stmt:=top 67
abbrev fV:Stmt:=top 57
abbrev j6:Stmt:=top 58
abbrev jq:Stmt:=top 63
abbrev gW:Stmt:=top 65
abbrev gZ:Stmt:=top 73
abbrev fX:Stmt:=top 66
abbrev fU:Stmt:=top 71
abbrev gU:Stmt:=top 76
abbrev d4:Stmt:=top 68
abbrev fW:Stmt:=top 69
abbrev fe:Stmt:=top 70
abbrev jk:Stmt:=top 56
abbrev js:Stmt:=top 54
abbrev gY:Stmt:=top 61
abbrev fb:Stmt:=top 75
abbrev j8:Stmt:=top 59
abbrev dg:Stmt:=top 77
abbrev dZ:Stmt:=top 74
abbrev hJ:Stmt:=top 79
abbrev zF:Stmt:=top 80
set_option genInjectivity false in
set_option genSizeOf false in
structure Ads where
 qB:Addr
 p7:FuncData
 ot:Addr
 nV:FuncData
 oj:Addr
 nQ:FuncData
 qj:Addr
 pY:FuncData
 ij:Addr
 h9:FuncData
 oq:Addr
 nU:FuncData
 vI:Addr
 vn:FuncData
 kN:Addr
 ky:FuncData
 gD:Addr
 gA:FuncData
 oo:Addr
 nR:FuncData
 gC:Addr
 gs:FuncData
 iV:Addr
 iQ:FuncData
 mi:Addr
 lT:FuncData
 tx:Addr
 sU:FuncData
 mo:Addr
 lU:FuncData
 xJ:Addr
 xF:FuncData
 vH:Addr
 vm:FuncData
 sZ:Addr
 sQ:FuncData
 sY:Addr
 sP:FuncData
 tw:Addr
 sT:FuncData
 mh:Addr
 lS:FuncData
 kK:Addr
 ku:FuncData
 mf:Addr
 lQ:FuncData
 kL:Addr
 kv:FuncData
 iW:Addr
 iS:FuncData
 qi:Addr
 pX:FuncData
 iU:Addr
 iP:FuncData
 tu:Addr
 sS:FuncData
 xM:Addr
 xH:FuncData
 tj:Addr
 sR:FuncData
 kM:Addr
 kx:FuncData
 xK:Addr
 xG:FuncData
 kJ:Addr
 ks:FuncData
 mD:Addr
 lX:FuncData
 qv:Addr
 p4:FuncData
 qo:Addr
 pZ:FuncData
 ox:Addr
 nY:FuncData
 ow:Addr
 nX:FuncData
 tz:Addr
 sV:FuncData
 mF:Addr
 lZ:FuncData
 oz:Addr
 n9:FuncData
 mC:Addr
 lW:FuncData
 kQ:Addr
 kB:FuncData
 qq:Addr
 p0:FuncData
 oy:Addr
 nZ:FuncData
 mE:Addr
 lY:FuncData
 mH:Addr
 md:FuncData
 kS:Addr
 kD:FuncData
 kO:Addr
 kz:FuncData
 mB:Addr
 lV:FuncData
 ip:Addr
 ib:FuncData
 kR:Addr
 kC:FuncData
 jS:Addr
 jQ:FuncData
 ou:Addr
 nW:FuncData
 oA:Addr
 oa:FuncData
 mG:Addr
 ma:FuncData
 jR:Addr
 jP:FuncData
 qA:Addr
 p6:FuncData
 eY:Addr
 eX:FuncData
 ik:Addr
 ia:FuncData
 mI:Addr
 me:FuncData
 HY:Addr
 HR:FuncData
 a_NOUGHT:Addr
 a_ONE:Addr
 t_MOST_STATES:Tok
 t_MOST_PUTS:Tok
 t_MOST_LOOKS:Tok
 a_System:Addr
structure Txt (K:W.Frag) (mg:Str->Option Value) (Z:Ads):Prop where
 wM:mg "_law_bag"=some (.ref Z.qB)
 yP:Binds K Z.p7 ["_law_script"] []
 uJ:iE K "_law_bag" "_law_bag" j9 Z.qB Z.p7
 aV:mg "_law_take"=some (.ref Z.ot)
 bu:Binds K Z.nV ["_law_bag_here","_law_many"] []
 bo:iE K "_law_take" "_law_take" ji Z.ot Z.nV
 lN:mg "want_list"=some (.ref Z.oj)
 og:Binds K Z.nQ ["thing","at","most"] []
 lA:iE K "want_list" "want_list" je Z.oj Z.nQ
 rP:mg "is_whole"=some (.ref Z.qj)
 uF:Binds K Z.pY ["thing"] []
 qH:iE K "is_whole" "is_whole" jZ Z.qj Z.pY
 gi:mg "common_divisor"=some (.ref Z.ij)
 ig:Binds K Z.h9 ["one","other"] []
 fg:iE K "common_divisor" "common_divisor" dY Z.ij Z.h9
 uX:mg "is_number"=some (.ref Z.oq)
 wU:Binds K Z.nU ["thing"] []
 sA:iE K "is_number" "is_number" jh Z.oq Z.nU
 zO:mg "is_row"=some (.ref Z.vI)
 Cq:Binds K Z.vn ["thing","many"] []
 yU:iE K "is_row" "is_row" oY Z.vI Z.vn
 jM:mg "copied_rows"=some (.ref Z.kN)
 kH:Binds K Z.ky ["things","wide"] []
 iL:iE K "copied_rows" "copied_rows" fR Z.kN Z.ky
 gB:Binds K Z.gA ["self","move","put","look"] []
 oB:iE K "__init__" "System.__init__" dH Z.gD Z.gA
 lO:mg "tops_over"=some (.ref Z.oo)
 oh:Binds K Z.nR ["row","bottom"] []
 lB:iE K "tops_over" "tops_over" jg Z.oo Z.nR
 nv:mg "common_multiple"=some (.ref Z.gC)
 oi:Binds K Z.gs ["wholes"] []
 jV:iE K "common_multiple" "common_multiple" dG Z.gC Z.gs
 h8:mg "common_bottom"=some (.ref Z.iV)
 iT:Binds K Z.iQ ["row"] []
 fK:iE K "common_bottom" "common_bottom" eH Z.iV Z.iQ
 tT:mg "first_with"=some (.ref Z.mi)
 vA:Binds K Z.lT ["lines","begin","place"] []
 qI:iE K "first_with" "first_with" gQ Z.mi Z.lT
 yx:mg "cleared"=some (.ref Z.tx)
 Ad:Binds K Z.sU ["lines","at","place","before"] []
 wB:iE K "cleared" "cleared" mX Z.tx Z.sU
 tU:mg "brought_up"=some (.ref Z.mo)
 vB:Binds K Z.lU ["lines","at","to"] []
 qJ:iE K "brought_up" "brought_up" gR Z.mo Z.lU
 BY:mg "swept"=some (.ref Z.xJ)
 En:Binds K Z.xF ["rows","wide"] []
 Bj:iE K "swept" "swept" sJ Z.xJ Z.xF
 sO:mg "lowest"=some (.ref Z.vH)
 vz:Binds K Z.vm ["top","bottom"] []
 sv:iE K "lowest" "lowest" oX Z.vH Z.vm
 pT:mg "reduced"=some (.ref Z.sZ)
 sX:Binds K Z.sQ ["rows","wide"] []
 pF:iE K "reduced" "reduced" mT Z.sZ Z.sQ
 yu:mg "row_dot"=some (.ref Z.sY)
 Aa:Binds K Z.sP ["one","other"] []
 wj:iE K "row_dot" "row_dot" mS Z.sY Z.sP
 yw:mg "grid_on"=some (.ref Z.tw)
 Ac:Binds K Z.sT ["grid","row"] []
 wq:iE K "grid_on" "grid_on" mW Z.tw Z.sT
 tS:mg "moved_rows"=some (.ref Z.mh)
 vw:Binds K Z.lS ["system","rows"] []
 qG:iE K "moved_rows" "moved_rows" gP Z.mh Z.lS
 rO:mg "reach_grown"=some (.ref Z.kK)
 t7:Binds K Z.ku ["system","steps"] []
 oP:iE K "reach_grown" "reach_grown" fO Z.kK Z.ku
 tR:mg "reach_rows"=some (.ref Z.mf)
 vv:Binds K Z.lQ ["system","steps"] []
 qF:iE K "reach_rows" "reach_rows" gO Z.mf Z.lQ
 rQ:mg "grid_turned"=some (.ref Z.kL)
 t8:Binds K Z.kv ["grid","wide"] []
 oQ:iE K "grid_turned" "grid_turned" fP Z.kL Z.kv
 o8:LK K Z.a_System "turned" Z.iW
 qV:Binds K Z.iS ["self"] []
 qZ:iE K "turned" "System.turned" eI Z.iW Z.iS
 wL:mg "unit_row"=some (.ref Z.qi)
 yO:Binds K Z.pX ["many","at"] []
 uI:iE K "unit_row" "unit_row" jY Z.qi Z.pX
 o7:mg "leading_place"=some (.ref Z.iU)
 qU:Binds K Z.iP ["row"] []
 lI:iE K "leading_place" "leading_place" eG Z.iU Z.iP
 uB:mg "leading"=some (.ref Z.tu)
 we:Binds K Z.sS ["rows"] []
 tD:iE K "leading" "leading" mV Z.tu Z.sS
 Ca:mg "minus"=some (.ref Z.xM)
 Ep:Binds K Z.xH ["one","other"] []
 Bm:iE K "minus" "minus" sN Z.xM Z.xH
 yv:mg "null_at"=some (.ref Z.tj)
 Ab:Binds K Z.sR ["rows","wide","at"] []
 wo:iE K "null_at" "null_at" mU Z.tj Z.sR
 rR:mg "free_places"=some (.ref Z.kM)
 t9:Binds K Z.kx ["rows","wide"] []
 oR:iE K "free_places" "free_places" fQ Z.kM Z.kx
 BZ:mg "nulls"=some (.ref Z.xK)
 Eo:Binds K Z.xG ["rows","wide"] []
 Bl:iE K "nulls" "nulls" sL Z.xK Z.xG
 jL:mg "unseen_rows"=some (.ref Z.kJ)
 kG:Binds K Z.ks ["system","steps"] []
 iK:iE K "unseen_rows" "unseen_rows" fN Z.kJ Z.ks
 tX:mg "_law_shift"=some (.ref Z.mD)
 vE:Binds K Z.lX [] []
 qM:iE K "_law_shift" "_law_shift" gV Z.mD Z.lX
 eJ:mg "_law_low"=some (.ref Z.qv)
 fE:Binds K Z.p4 ["_law_top","_law_bottom"] []
 eT:iE K "_law_low" "_law_low" j7 Z.qv Z.p4
 kZ:mg "_law_sum"=some (.ref Z.qo)
 nC:Binds K Z.pZ ["_law_one","_law_other"] []
 kh:iE K "_law_sum" "_law_sum" j5 Z.qo Z.pZ
 uZ:mg "_law_plus"=some (.ref Z.ox)
 wW:Binds K Z.nY ["_law_one","_law_other"] []
 sD:iE K "_law_plus" "_law_plus" jo Z.ox Z.nY
 jN:mg "_law_prod"=some (.ref Z.ow)
 lg:Binds K Z.nX ["_law_one","_law_other"] []
 jx:iE K "_law_prod" "_law_prod" jm Z.ow Z.nX
 nA:mg "_law_by"=some (.ref Z.tz)
 pA:Binds K Z.sV ["_law_factor","_law_row_here"] []
 mZ:iE K "_law_by" "_law_by" mY Z.tz Z.sV
 oK:mg "_law_mixed"=some (.ref Z.mF)
 qf:Binds K Z.lZ ["_law_bag_here","_law_move_here","_law_put","_law_look"] []
 mK:iE K "_law_mixed" "_law_mixed" gX Z.mF Z.lZ
 u6:mg "_law_line"=some (.ref Z.oz)
 wY:Binds K Z.n9 ["_law_bag_here"] []
 sF:iE K "_law_line" "_law_line" jr Z.oz Z.n9
 tW:mg "_law_sizes"=some (.ref Z.mC)
 vD:Binds K Z.lW ["_law_bag_here"] []
 qL:iE K "_law_sizes" "_law_sizes" fz Z.mC Z.lW
 rT:mg "_law_number"=some (.ref Z.kQ)
 ue:Binds K Z.kB ["_law_bag_here","_law_wide"] []
 oT:iE K "_law_number" "_law_number" fV Z.kQ Z.kB
 nN:mg "_law_row"=some (.ref Z.qq)
 qe:Binds K Z.p0 ["_law_bag_here","_law_many","_law_wide"] []
 nE:iE K "_law_row" "_law_row" j6 Z.qq Z.p0
 u0:mg "_law_move"=some (.ref Z.oy)
 wX:Binds K Z.nZ ["_law_bag_here","_law_n","_law_way","_law_first","_law_wide"] []
 sE:iE K "_law_move" "_law_move" jq Z.oy Z.nZ
 tY:mg "_law_parts"=some (.ref Z.mE)
 vF:Binds K Z.lY ["_law_bag_here","_law_n","_law_ins","_law_outs","_law_wide"] []
 qN:iE K "_law_parts" "_law_parts" gW Z.mE Z.lY
 oN:mg "_law_drawn"=some (.ref Z.mH)
 qh:Binds K Z.md ["_law_bag_here"] []
 mM:iE K "_law_drawn" "_law_drawn" gZ Z.mH Z.md
 jO:mg "_law_copied"=some (.ref Z.kS)
 kI:Binds K Z.kD ["_law_grid"] []
 iM:iE K "_law_copied" "_law_copied" fX Z.kS Z.kD
 rS:mg "_law_system"=some (.ref Z.kO)
 uc:Binds K Z.kz ["_law_parts_here"] []
 oS:iE K "_law_system" "_law_system" fU Z.kO Z.kz
 tV:mg "_law_steps"=some (.ref Z.mB)
 vC:Binds K Z.lV ["_law_bag_here","_law_n","_law_wide"] []
 qK:iE K "_law_steps" "_law_steps" gU Z.mB Z.lV
 nP:mg "_law_is_number"=some (.ref Z.ip)
 pz:Binds K Z.ib ["_law_thing"] []
 kj:iE K "_law_is_number" "_law_is_number" d4 Z.ip Z.ib
 rV:mg "_law_is_row"=some (.ref Z.kR)
 uf:Binds K Z.kC ["_law_thing","_law_many"] []
 oU:iE K "_law_is_row" "_law_is_row" fW Z.kR Z.kC
 qT:mg "_law_is_grid"=some (.ref Z.jS)
 r8:Binds K Z.jQ ["_law_thing","_law_many","_law_wide"] []
 nF:iE K "_law_is_grid" "_law_is_grid" fe Z.jS Z.jQ
 uY:mg "_law_quot"=some (.ref Z.ou)
 wV:Binds K Z.nW ["_law_one","_law_other"] []
 sC:iE K "_law_quot" "_law_quot" jk Z.ou Z.nW
 u9:mg "_law_less"=some (.ref Z.oA)
 wZ:Binds K Z.oa ["_law_one","_law_other"] []
 sG:iE K "_law_less" "_law_less" js Z.oA Z.oa
 oM:mg "_law_minus"=some (.ref Z.mG)
 qg:Binds K Z.ma ["_law_one","_law_other"] []
 mL:iE K "_law_minus" "_law_minus" gY Z.mG Z.ma
 lG:mg "_law_reduced"=some (.ref Z.jR)
 nD:Binds K Z.jP ["_law_rows","_law_wide"] []
 jW:iE K "_law_reduced" "_law_reduced" fb Z.jR Z.jP
 rW:mg "_law_dot"=some (.ref Z.qA)
 uG:Binds K Z.p6 ["_law_one","_law_other"] []
 qO:iE K "_law_dot" "_law_dot" j8 Z.qA Z.p6
 kY:mg "_law_unseen_right"=some (.ref Z.eY)
 lK:Binds K Z.eX ["_law_told","_law_rows","_law_n"] []
 iF:iE K "_law_unseen_right" "_law_unseen_right" dg Z.eY Z.eX
 nO:mg "_law_look_rows"=some (.ref Z.ik)
 ph:Binds K Z.ia ["_law_parts_here","_law_steps_here"] []
 ki:iE K "_law_look_rows" "_law_look_rows" dZ Z.ik Z.ia
 tZ:mg "_law_asked"=some (.ref Z.mI)
 vG:Binds K Z.me ["_law_system_here","_law_parts_here","_law_steps_here"] []
 qP:iE K "_law_asked" "_law_asked" hJ Z.mI Z.me
 Kl:iE K "law" "law" zF Z.HY Z.HR
 abs:mg "abs"=none
 len:mg "len"=none
 isinstance:mg "isinstance"=none
 list:mg "list"=none
 int:mg "int"=none
 bool:mg "bool"=none
 tuple:mg "tuple"=none
 all:mg "all"=none
 enumerate:mg "enumerate"=none
 range:mg "range"=none
 zip:mg "zip"=none
 sum:mg "sum"=none
 min:mg "min"=none
 mg_NOUGHT:mg "NOUGHT"=some (.ref Z.a_NOUGHT)
 sq_NOUGHT:∀H,qX K H Z.a_NOUGHT [.int 0,.int 1]
 mg_ONE:mg "ONE"=some (.ref Z.a_ONE)
 sq_ONE:∀H,qX K H Z.a_ONE [.int 1,.int 1]
 mg_MOST_STATES:mg "MOST_STATES"=some (.int 8 Z.t_MOST_STATES)
 mg_MOST_PUTS:mg "MOST_PUTS"=some (.int 4 Z.t_MOST_PUTS)
 mg_MOST_LOOKS:mg "MOST_LOOKS"=some (.int 4 Z.t_MOST_LOOKS)
 mg_System:mg "System"=some (.ref Z.a_System)
 cl_System:FC K Z.a_System
 na_move:jT K Z.a_System "move"
 na_states:jT K Z.a_System "states"
 na_put:jT K Z.a_System "put"
 na_ins:jT K Z.a_System "ins"
 na_look:jT K Z.a_System "look"
 na_outs:jT K Z.a_System "outs"
 mk_System:Mk K Z.a_System Z.gD
section
variable {P:Program} {w:World} {K:W.Frag} {mg:Str->Option Value} {base:Heap} {Z:Ads}
theorem BG:aZ ["_law_script"] ["_law_script"] (ax j9):=by walk_at "d"
theorem BV (T:Txt K mg Z):cC P w K mg base iq 1 Z.qB Z.p7 ["_law_script"] (KD K):=by
 refine T.uJ.ok BG (fun vs H Q E h=>?_) (fun cdv A outer s H vs Q E hr h=>?_)
 ·obtain ⟨a,ns,rfl,hS,hlen,k⟩:=h;rfl
 ·obtain ⟨a,ns,rfl,hS,hlen,k⟩:=h;refine ⟨_,(az (aP (eF (ae ak (ae ak (ae ak (ae (cm ["_law_cell"] [] [] (cn (BS DP (pv 0) DU (DT ak))) (fun _=>(aH (i:=0) (show List.Nodup (α:=PySem.Str) ["_law_cell"] by decide +kernel))) (fun _=>ck) (fun _=>(bH yM (by rfl) T.abs PyProof.Rows.boot_abs (ae (pv 0) ai)))) ai))))))),?_⟩;refine aO (σ:=[some (.ref a)]) rfl ?_;walk_at "w";refine ⟨a,_,rfl,hS,fun l hl=>?_⟩;have hcl:(vo (ns.map V.int) none (some 63)).length<=63:=ah (wQ _ _ _) (by simpa using hlen);refine ⟨l,rfl,⟨_,bJ.of aG⟩,?_⟩;refine d6 (K:=K) (a:=l) (xs:=vo (ns.map V.int) none (some 63)) (fun i ys H'=>H'=upd H l (.lst (vo (ns.map V.int) none (some 63)))/\∃cs:List Int,ys=cs.map V.int/\∀x∈cs,0<=x) (ah hcl (by decide)) ⟨rfl,[],rfl,fun _ z=>nomatch z⟩ (fun i ys H' _ ⟨e,_⟩=>by subst e;exact bJ.of aG) ?_ ?_
  ·rintro i x ys H' hx hi ⟨rfl,cs,rfl,hcs⟩
   obtain ⟨z,rfl⟩:∃z,x=V.int z:=by
    have hm:x∈ns.map V.int:=List.mem_of_mem_drop (cS (ay hx));obtain ⟨z,_,e⟩:=aA.mp hm;exact ⟨z,e.symm⟩
   walk_at "w";refine ⟨rfl,cs++[if z < 0 then -z else z],by simp,fun x hx=>?_⟩;rcases aw.mp hx with hx | hx
   ·exact hcs x hx
   ·have e:x=if z < 0 then -z else z:=by simpa using hx
    subst e
    split <;> lia
  ·rintro ys H' hy ⟨rfl,cs,rfl,hcs⟩ p hp;walk_at "w";refine ⟨by show 4<=sizeLine;decide,fun b hb=>?_⟩;have n1:b≠p:=fun z=>by rw[z,aG] at hb;cases hb
   have hb1:(upd H l (.lst (vo (ns.map V.int) none (some 63)))) b=none:=by rw[be n1] at hb;exact hb
   have s1:aF H (upd H l (.lst (vo (ns.map V.int) none (some 63)))):=aF.new hl;refine k b _ (s1.free hb1) ⟨p,0,1234567891,0,cs,aG,by rw[be n1.symm];exact aG,by decide,by decide,by lia,hcs⟩ ((s1.trans (aF.new hp)).trans (aF.new hb))
theorem fw:aZ ["_law_bag_here","_law_many","_law_more","_law_cell","_law_value","_law_first","_law_second"] ["_law_bag_here","_law_many"] (ax ji):=by walk_at "d"
theorem bx (T:Txt K mg Z):cC P w K mg base iq 1 Z.ot Z.nV ["_law_bag_here","_law_many"] IB:=by
 refine T.bo.ok fw (fun vs H Q E h=>?_) (fun cdv A outer s H vs Q E hr h=>?_)
 ·obtain ⟨p,n,rfl,⟨q,a,b,c,cs,hp,hq,ha,hc,hcl,hcs⟩,hn,hn2,k⟩:=h;rfl
 ·obtain ⟨p,n,rfl,⟨q,a,b,c,cs,hp,hq,ha,hc,hcl,hcs⟩,hn,hn2,k⟩:=h;have nqp:q≠p:=Fu hp hq
  refine ⟨_,(hZ (cK (bh dW (bf bO (pv 0) ak) ak (br _)) (av (bD (i:=2) fw.nd rfl (Or.inl rfl) ak)
   (hZ (cK (bh rL (bf bO (pv 0) ak) (bH bA (by rfl) T.len bg (ae (bf bO (pv 0) ak) ai)) (br _)) (av (bD (i:=3) fw.nd rfl (Or.inl rfl) (bf bO (bf bO (pv 0) ak) (bf bO (pv 0) ak)))
   (av (Jj (pv 0) ak HB ak Lq set_list)
   (av (cK (bh zM (pv 3) ak (br _)) (az (ff (pv 3) (iC (pv 0) ak set_list))) bS)
   (az (bD (i:=2) fw.nd rfl (Or.inl rfl) (bK fB (bK oI (pv 3) ak) ak)))))) bS)
   (az (ff (bK oI (bK fB (bK cI (bf bO (pv 0) ak) ak) (pv 2)) ak) (iC (pv 0) ak set_list))))) bS)
   (av (cK (bh rM (bf bO (pv 0) ak) ak (br _)) (av (bD (i:=4) fw.nd rfl (Or.inl rfl) (bK oI (bf bO (pv 0) ak) (pv 1)))
   (av (ff (bK jJ (bf bO (pv 0) ak) (pv 1)) (iC (pv 0) ak set_list))
   (az (aP (pv 4))))) bS)
   (av (bD (i:=5) fw.nd rfl (Or.inl rfl) (bK oI (bK cI (bf bO (pv 0) ak) ak) ak))
   (av (bD (i:=6) fw.nd rfl (Or.inl rfl) (bK oI (bK cI (pv 5) ak) ak))
   (av (cK (bh rM (pv 1) ak (br _)) (az (aP (bK oI (bK fB (bK cI (pv 6) ak) (pv 5)) (pv 1)))) bS)
   (az (aP (bK oI (bK jJ (pv 6) ak) (pv 1))))))))),?_⟩
  refine aO (σ:=[some (.ref p),some (.int n),none,none,none,none,none]) rfl ?_;refine ⟨fun σ' H'=>∃(x y:Option V) (a' b' c':Int),σ'=[some (.ref p),some (.int n),x,y,none,none,none]/\H' p=some (.lst [.int a',.int b',.int c',.ref q])/\0<=a'/\0<=c'/\c'<=cs.length/\cL p H H',?_,?_⟩
  ·walk_at "w";refine gG (fun h0=>?_) (fun h0=>?_)
   ·walk_at "w";refine ⟨fun σ' H'=>∃(m:Int) (y:Option V) (a' c':Int),σ'=[some (.ref p),some (.int n),some (.int m),y,none,none,none]/\H' p=some (.lst [.int a',.int b,.int c',.ref q])/\0<=a'/\0<=c'/\c'<=cs.length/\cL p H H',?_,?_⟩
    ·walk_at "w";refine ⟨_,_,rfl,.inl (bJ.of hq),?_⟩;walk_at "w";refine gG (fun h1=>?_) (fun h1=>?_)
     ·have h1':c < cs.length:=by simpa using of_decide_eq_true h1
      obtain ⟨z,hz⟩:∃z,cs[c.toNat]?=some z:=⟨_,ag (by lia)⟩;have hz0:0<=z:=hcs z (ay hz);walk_at "w";refine b9 (bJ.of hq) (v:=.int z) ?_ ?_
      ·have:=dR (xs:=cs.map V.int) (j:=c.toNat) (v:=.int z) (by rw[aJ,hz];rfl);rwa [Int.toNat_of_nonneg hc] at this
      walk_at "w";refine gG (fun h2=>?_) (fun h2=>?_)
      ·walk_at "w";exact ⟨_,_,z,c+1,rfl,aG,hz0,by lia,by lia,(cL.set hp).trans (cL.set aG)⟩
      ·walk_at "w";exact ⟨_,_,a,c+1,rfl,aG,ha,by lia,by lia,cL.set hp⟩
     ·walk_at "w";exact ⟨_,_,a,c,rfl,hp,ha,hc,hcl,cL.refl _⟩
    ·rintro σ' H' ⟨m,y,a',c',rfl,hp',ha',hc',hcl',u'⟩;walk_at "w";exact ⟨_,_,a',_,c',rfl,aG,ha',hc',hcl',u'.trans (cL.set hp')⟩
   ·walk_at "w";exact ⟨_,_,a,b,c,rfl,hp,ha,hc,hcl,cL.refl _⟩
  ·rintro σ' H' ⟨x,y,a',b',c',rfl,hp',ha',hc',hcl',u'⟩;have hq':H' q=some (.lst (cs.map V.int)):=u'.1 q _ hq nqp
   have sn:Sz 8999 n:=by
    show n.natAbs < 2^8999
    exact bw (show n.natAbs < 2^64 by lia) (au (by decide) (by decide))
   walk_at "w";refine gG (fun h0=>?_) (fun h0=>?_)
   ·walk_at "w";refine fj (show (0:Int) < n from hn) ?_;walk_at "w";refine fj (show rd _ _ from ⟨by lia,sn⟩) ?_;walk_at "w";refine k _ _ (mP _ (by lia)) (iZ _ hn) ⟨q,_,b',c',cs,aG,by rw[be nqp];exact hq',?_,hc',hcl',hcs⟩ (u'.trans (cL.set hp'));rw[cp _ (by lia)];exact Int.ediv_nonneg ha' (by lia)
   ·walk_at "w";refine gG (fun h1=>?_) (fun h1=>?_)
    ·walk_at "w";refine fj (show (0:Int) < n from hn) ?_;exact k _ _ (mP _ (by lia)) (iZ _ hn) ⟨q,a',b',c',cs,hp',hq',ha',hc',hcl',hcs⟩ u'
    ·walk_at "w";refine fj (show rd _ _ from ⟨by decide,by show (3:Nat) < 2^8999;exact bw (show 3 < 2^2 by decide) (au (by decide) (by decide))⟩) ?_;walk_at "w";refine fj (show (0:Int) < n from hn) ?_;exact k _ _ (mP _ (by lia)) (iZ _ hn) ⟨q,a',b',c',cs,hp',hq',ha',hc',hcl',hcs⟩ u'
theorem Au:aZ ["thing","at","most"] ["thing","at","most"] (ax je):=by walk_at "d"
theorem pP (T:Txt K mg Z):cC P w K mg base iq 1 Z.oj Z.nQ ["thing","at","most"] Iz:=by
 refine T.lA.ok Au (fun vs H Q E h=>?_) (fun cdv A outer s H vs Q E hr h=>?_)
 ·obtain ⟨p,xs,a,m,rfl,gx,hm,k⟩:=h;rfl
 ·obtain ⟨p,xs,a,m,rfl,gx,hm,k⟩:=h
  refine ⟨_,(av (cK (i5 (iB (uy rfl T.isinstance PyProof.Rows.boot_list T.list (pv 0)))) (az GB) bS)
   (az (cK (bh rM (bH bA (by rfl) T.len bg (ae (pv 0) ai)) (pv 2) (br _)) (az GB) bS))),?_⟩
  refine aO (σ:=[some (.ref p),some (.int a),some (.int m)]) rfl ?_;walk_at "w";refine ⟨_,_,.lst gx,rfl,?_⟩;walk_at "w";refine ⟨_,_,rfl,.inl (bJ.of gx),?_⟩;walk_at "w";rw[decide_eq_false (show ¬m < (xs.length:Int) by lia)];walk_at "w";exact k
theorem BD:aZ ["thing"] ["thing"] (ax jZ):=by walk_at "d"
theorem wI (T:Txt K mg Z):cC P w K mg base iq 1 Z.qj Z.pY ["thing"] EF:=by
 refine T.qH.ok BD (fun vs H Q E h=>?_) (fun cdv A outer s H vs Q E hr h=>?_)
 ·obtain ⟨i,rfl,k⟩:=h;rfl
 ·obtain ⟨i,rfl,k⟩:=h;refine ⟨_,(az (aP (Dd (uy rfl T.isinstance PyProof.Rows.boot_int T.int (pv 0)) (C9 (Lf (uy rfl T.isinstance PyProof.Rows.boot_bool T.bool (pv 0))))))),?_⟩;refine aO (σ:=[some (.int i)]) rfl ?_;walk_at "w";refine ⟨_,_,.int i,rfl,?_⟩;walk_at "w";refine ⟨_,_,.int i,rfl,?_⟩;walk_at "w";exact k
theorem fZ:aZ ["one","other","rest"] ["one","other"] (ax dY):=by walk_at "d"
theorem jK (T:Txt K mg Z):cC P w K mg base iq 1 Z.ij Z.h9 ["one","other"] Mf:=by
 refine T.fg.ok fZ (fun vs H Q E h=>?_) (fun cdv A outer s H vs Q E hr h=>?_)
 ·obtain ⟨a,b,rfl,k⟩:=h;rfl
 ·obtain ⟨a,b,rfl,k⟩:=h
  refine ⟨_,(av (xZ PassesOwn.never (bh wG (pv 1) ak (br _))
    (av (bD (i:=2) fZ.nd rfl (Or.inl rfl) (bK Jp (pv 0) (pv 1)))
   (av (bD (i:=0) fZ.nd rfl (Or.inl rfl) (pv 1))
   (az (bD (i:=1) fZ.nd rfl (Or.inl rfl) (pv 2))))))
   (az (aP (bH yM (by rfl) T.abs PyProof.Rows.boot_abs (ae (pv 0) ai))))),?_⟩
  refine aO (σ:=[some (.int a),some (.int b),none]) rfl ?_;walk_at "w";refine An (fun σ' H'=>∃(u v:Int) (r:Option V),σ'=[some (.int u),some (.int v),r]/\H'=H/\Int.gcd u v=Int.gcd a b) (fun σ' _=>match σ' with | [_,some (.int v),_]=>v.natAbs | _=>0) ⟨a,b,none,rfl,rfl,rfl⟩ ?_;rintro σ' H' ⟨u,v,r,rfl,rfl,hg⟩;walk_at "w";refine gG (fun h=>?_) (fun h=>?_)
  ·have hv:v≠0:=fun z=>by subst z;simp at h
   walk_at "w";refine fj (show v≠0 from hv) ?_;walk_at "w";exact ⟨⟨v,u.fmod v,_,rfl,rfl,(HD u v).trans hg⟩,Jx u v hv⟩
  ·have hv:v=0:=by
    by_cases z:v=0
    ·exact z
    ·exfalso;apply h;simp [z]
   subst hv;walk_at "w"
   have e:(if u < 0 then -u else u)=g a b:=by
    unfold g;rw[<- hg,Int.gcd_zero_right]
    split <;> lia
   rw[e];exact k
theorem Aw:aZ ["thing"] ["thing"] (ax jh):=by walk_at "d"
theorem AJ (T:Txt K mg Z):cC P w K mg base iq 2 Z.oq Z.nU ["thing"] (ES K):=by
 refine T.sA.ok Aw (fun vs H Q E h=>?_) (fun cdv A outer s H vs Q E hr h=>?_)
 ·obtain ⟨x,n,rfl,⟨p,rfl,hp⟩,hn,k⟩:=h;rfl
 ·obtain ⟨x,n,rfl,⟨p,rfl,hp⟩,hn,k⟩:=h
  refine ⟨_,(av (cK (PW.pt (o3 (i5 (iB (xy rfl T.isinstance PyProof.Rows.boot_tuple T.tuple (pv 0)))) (ka (bh wG (bH bA (by rfl) T.len bg (ae (pv 0) ai)) ak (br _))))) (az (aP m7)) bS)
   (av (cK (PW.pt (o3 (i5 (iB (cP (wI T) hr T.rP T.qH.kp T.uF (ae (bf cb (pv 0) ak) ai)))) (ka (i5 (iB (cP (wI T) hr T.rP T.qH.kp T.uF (ae (bf cb (pv 0) ak) ai))))))) (az (aP m7)) bS)
   (az (aP (Dd (fA zM (bf cb (pv 0) ak) ak (br _)) (C9 (fA dW (cP (jK T) hr T.gi T.fg.kp T.ig (ae (bf cb (pv 0) ak) (ae (bf cb (pv 0) ak) ai))) ak (br _)))))))),?_⟩
  refine aO (σ:=[some (.ref p)]) rfl ?_;obtain ⟨hb,hg,s1,s2⟩:=hn;walk_at "w";refine .inr ⟨p,_,_,rfl,hp,rfl,?_⟩;walk_at "w";refine ⟨_,_,rfl,.inr hp,?_⟩;walk_at "w"
  try refine Hq ?_
  walk_at "w";refine ⟨n.1,rfl,?_⟩;walk_at "w";refine ⟨n.2,rfl,?_⟩;walk_at "w";rw[decide_eq_true (show (1:Int)<=n.2 by lia)];walk_at "w";refine ⟨n.1,n.2,rfl,?_⟩;walk_at "w";have e:g n.1 n.2=1:=by unfold g;rw[hg];rfl
  rw[e,decide_eq_true rfl];exact k _ (aF.refl _)
theorem EY:aZ ["thing","many"] ["thing","many"] (ax oY):=by walk_at "d"
theorem E6 (T:Txt K mg Z):cC P w K mg base iq 3 Z.vI Z.vn ["thing","many"] (zE K):=by
 refine T.yU.ok EY (fun vs H Q E h=>?_) (fun cdv A outer s H vs Q E hr h=>?_)
 ·obtain ⟨p,ns,rfl,hp,hl,hn,k⟩:=h;rfl
 ·obtain ⟨p,ns,rfl,hp,hl,hn,k⟩:=h
  refine ⟨_,(av (cK (PW.pt (o3 (i5 (iB (uy rfl T.isinstance PyProof.Rows.boot_list T.list (pv 0)))) (ka (bh wG (bH bA (by rfl) T.len bg (ae (pv 0) ai)) (pv 1) (br _))))) (az (aP m7)) bS)
   (az (aP (bH (yL rfl) (by rfl) T.all PyProof.Rows.boot_all (ae (cm ["value"] [] [] (cn (pv 0)) (fun _=>(aH (i:=0) (show List.Nodup (α:=PySem.Str) ["value"] by decide +kernel))) (fun _=>ck) (fun _=>(cP (AJ T) hr T.uX T.sA.kp T.wU (ae (pv 0) ai)))) ai))))),?_⟩
  refine aO (σ:=[some (.ref p),some (.int ns.length)]) rfl ?_;obtain ⟨xs,gx,qx⟩:=id hp;have lx:=qx.length;walk_at "w";refine ⟨_,_,.lst gx,rfl,?_⟩;walk_at "w";refine ⟨_,_,rfl,.inl (bJ.of gx),?_⟩;walk_at "w";rw[show ((xs.length:Nat):Int)=(ns.length:Nat) by rw[lx],decide_eq_true rfl];walk_at "w";refine ⟨⟨_,bJ.of gx⟩,?_⟩;refine d6 (K:=K) (xs:=xs) (fun i ys H'=>aF H H'/\ys=List.replicate i (.bl true)) (bC (bT (by lia))) ⟨aF.refl _,rfl⟩ (fun i ys H' _ ⟨s,_⟩=>bJ.of (s _ _ gx)) ?_ ?_
  ·rintro i x ys H' hx hlen ⟨s,rfl⟩;obtain ⟨n,en,z⟩:=cQ qx hx;walk_at "w";exact ⟨x,n,rfl,s.num z,hn n (ay en),fun H2 s2=>⟨s.trans s2,by rw[Aj]⟩⟩
  ·rintro ys H' hy ⟨s,rfl⟩ l hl';walk_at "w";refine ⟨l,List.replicate xs.length true,rfl,bJ.of (by rw[aG];simp),?_⟩;have e4:(List.replicate xs.length true).all id=true:=by simp
   rw[e4];exact k _ (s.trans (aF.new hl'))
theorem m6:aZ ["things","wide","place","thing"] ["things","wide"] (ax fR):=by walk_at "d"
theorem ni (T:Txt K mg Z):cC P w K mg base iq 4 Z.kN Z.ky ["things","wide"] (IF K):=by
 refine T.iL.ok m6 (fun vs H Q E h=>?_) (fun cdv A outer s H vs Q E hr h=>?_)
 ·obtain ⟨p,H0,rows,w,rfl,hp,hl,hw,hn,k⟩:=h;rfl
 ·obtain ⟨p,H0,rows,w,rfl,hp,hl,hw,hn,k⟩:=h
  refine ⟨_,(av (eB PassesOwn.never rfl (DV rfl T.enumerate (ae (pv 0) ai)) (ux rfl (cy (aH (i:=2) m6.nd) (cy (aH (i:=3) m6.nd) jH)))
    (az (cK (i5 (iB (cP (E6 T) hr T.zO T.yU.kp T.Cq (ae (pv 3) (ae (pv 1) ai))))) (az GB) bS)))
   (az (aP (cm ["row"] [] [] (cn (pv 0)) (fun _=>(aH (i:=0) (show List.Nodup (α:=PySem.Str) ["row"] by decide +kernel))) (fun _=>ck) (fun _=>(dI (kF K (by rfl)) (by rfl) T.list PyProof.Rows.boot_list (ae (pv 0) ai))))))),?_⟩
  refine aO (σ:=[some (.ref p),some (.int w),none,none]) rfl ?_;obtain ⟨xs,gx,qx,_⟩:=id hp;walk_at "w";refine ⟨⟨_,bJ.of gx⟩,?_⟩;refine HG (K:=K) (l:=p) (xs:=xs) (fun i σ' H'=>aF H H'/\∃x y,σ'=[some (.ref p),some (.int w),x,y]) ⟨aF.refl _,none,none,rfl⟩ (fun i σ' H' _ ⟨s,_⟩=>bJ.of (s _ _ gx)) ?_ ?_
  ·rintro i x σ' H' t hx ⟨s,x1,y1,rfl⟩ ht;obtain ⟨qs,eq,q,rfl,_,Rq⟩:=cQ qx hx;have hm:=ay eq;have st:aF H' (upd H' t (.tup [.int i,.ref q])):=aF.new ht;have gt:(upd H' t (.tup [.int i,.ref q])) t=some (.tup [.int i,.ref q]):=aG;have s2:=s.trans st;generalize upd H' t (.tup [.int i,.ref q])=H2 at st gt s2 ⊢;have lq:(qs.map nm).length=w:=by rw[aj];exact (hn qs hm).1
   walk_at "w";refine ⟨q,_,by rw[lq],(Rq.same s2).rowK,by rw[lq];exact hw,fun n hn'=>?_,fun H3 s3=>?_⟩
   ·obtain ⟨y,hy,rfl⟩:=aA.mp hn';exact (hn qs hm).2 y hy
   walk_at "w";exact ⟨s2.trans s3,_,_,rfl⟩
  ·rintro σ' H' ⟨s,x1,y1,rfl⟩;walk_at "w";refine ⟨⟨_,bJ.of (s _ _ gx)⟩,?_⟩;refine d5 (K:=K) (F:=cM K H0) (cM K H) id (s _ _ gx) (Paired.imp' (fun _ _ z=>z.same s) qx) hl (fun a b=>a.same b) (fun a b=>a.same b) ?_ ?_
   ·rintro i ns x H2 NY NN en s2 ⟨u,rfl,_,zs,gz,qz⟩ k1;walk_at "w";refine ⟨u,zs,rfl,.inl (bJ.of gz),fun l1 hl1=>?_⟩;exact k1 _ _ (aF.new hl1) ⟨l1,rfl,s.none (s2.none hl1),zs,aG,Paired.imp' (fun _ _ z=>z.same (aF.new hl1)) qz⟩
   ·rintro ys' H2 r hr s2 g pr nx;rw[vM] at pr nx;exact k r H2 (s.none hr) (s.trans s2) ⟨ys',g,pr,lJ nx⟩
theorem uv:aZ ["self","move","put","look"] ["self","move","put","look"] (ax dH):=by walk_at "d"
theorem jc (T:Txt K mg Z):cC P w K mg base iq 5 Z.gD Z.gA ["self","move","put","look"] (ID K Z.a_System):=by
 refine T.oB.ok uv (fun vs H Q E h=>?_) (fun cdv A outer s H vs Q E hr h=>?_)
 ·obtain ⟨x,dx,p,q,r,Hb,H0,H1,H2,mv,pt,lk,rfl,nx,ndx,nex,rfl,gp,gq,gr,D,om,op,ol,k⟩:=h;rfl
 ·obtain ⟨x,dx,p,q,r,Hb,H0,H1,H2,mv,pt,lk,rfl,nx,ndx,nex,rfl,gp,gq,gr,D,om,op,ol,k⟩:=h
  refine ⟨_,(av (kr (cP (pP T) hr T.lN T.lA.kp T.og (ae (pv 1) (ae ak (ae (pO (v:=.int 8) rfl T.mg_MOST_STATES ⟨_,rfl⟩) ai)))))
   (av (vX (pv 0) (cP (ni T) hr T.jM T.iL.kp T.kH (ae (pv 1) (ae (bH bA (by rfl) T.len bg (ae (pv 1) ai)) ai))) rfl)
   (av (vX (pv 0) (bH bA (by rfl) T.len bg (ae (jI (pv 0) rfl) ai)) rfl)
   (av (kr (cP (pP T) hr T.lN T.lA.kp T.og (ae (pv 2) (ae ak (ae (pO (v:=.int 4) rfl T.mg_MOST_PUTS ⟨_,rfl⟩) ai)))))
   (av (vX (pv 0) (cP (ni T) hr T.jM T.iL.kp T.kH (ae (pv 2) (ae (jI (pv 0) rfl) ai))) rfl)
   (av (vX (pv 0) (bH bA (by rfl) T.len bg (ae (jI (pv 0) rfl) ai)) rfl)
   (av (kr (cP (pP T) hr T.lN T.lA.kp T.og (ae (pv 3) (ae ak (ae (pO (v:=.int 4) rfl T.mg_MOST_LOOKS ⟨_,rfl⟩) ai)))))
   (av (vX (pv 0) (cP (ni T) hr T.jM T.iL.kp T.kH (ae (pv 3) (ae (jI (pv 0) rfl) ai))) rfl)
   (az (vX (pv 0) (bH bA (by rfl) T.len bg (ae (jI (pv 0) rfl) ai)) rfl)))))))))),?_⟩
  refine aO (σ:=[some (.ref x),some (.ref p),some (.ref q),some (.ref r)]) rfl ?_
  have s0:aF Hb (upd (upd Hb dx (.own x)) x (.ins Z.a_System dx [])):=fun b o e=>by
   rw[be (eQ e nx),be (eQ e ndx)];exact e
  have hx:(upd (upd Hb dx (.own x)) x (.ins Z.a_System dx [])) x=some (.ins Z.a_System dx []):=aG;have back:∀{b},(upd (upd Hb dx (.own x)) x (.ins Z.a_System dx [])) b=none->Hb b=none:=fun h=>s0.none h
  generalize upd (upd Hb dx (.own x)) x (.ins Z.a_System dx [])=Ha at s0 hx back ⊢;obtain ⟨xs,gx,qx,_⟩:=id gp;obtain ⟨ys,gy,qy,_⟩:=id gq;obtain ⟨zs,gz,qz,_⟩:=id gr;have lx:=qx.length;have ly:=qy.length;have lz:=qz.length;have d1:=D.n8;have d2:=D.i4;have d3:=D.o4;walk_at "w";refine ⟨p,xs,0,8,rfl,s0 _ _ gx,by lia,?_⟩;walk_at "w";refine ⟨_,_,rfl,.inl (bJ.of (s0 _ _ gx)),?_⟩;walk_at "w";refine ⟨p,H0,mv,mv.length,by rw[lx],gp.same s0,by lia,by lia,fun ws hw=>⟨D.mw ws hw,om ws hw⟩,fun a H3 na s3 Ga=>?_⟩;have hx3:=s3 _ _ hx;walk_at "w";refine ⟨x,Z.a_System,dx,_,rfl,hx3,T.cl_System,T.na_move,(by show 0 < 1000;decide),?_⟩;have e3:Bn x H3 (upd H3 x (.ins Z.a_System dx (b6 "move" (.ref a) []))):=Bn.upd;have i3:uh H3 x:=⟨_,_,_,hx3⟩;have hx4:(upd H3 x (.ins Z.a_System dx (b6 "move" (.ref a) []))) x=some (.ins Z.a_System dx (b6 "move" (.ref a) [])):=aG;have Ga4:=Ga.exc e3 i3;have k4:aF Hb (upd H3 x (.ins Z.a_System dx (b6 "move" (.ref a) []))):=(s0.trans s3).after nx;generalize upd H3 x (.ins Z.a_System dx (b6 "move" (.ref a) []))=H4 at e3 hx4 Ga4 k4 ⊢;walk_at "w";refine ⟨x,Z.a_System,dx,_,_,rfl,hx4,T.cl_System,T.na_move,(by rw[bB,if_pos rfl]),?_⟩;obtain ⟨as,ga,qa,_⟩:=id Ga4;have la:=qa.length;walk_at "w";refine ⟨_,_,rfl,.inl (bJ.of ga),?_⟩;walk_at "w";refine ⟨x,Z.a_System,dx,_,rfl,hx4,T.cl_System,T.na_states,aW dN (by show 1 < 1000;decide),?_⟩;rw[show ((as.length:Nat):Int)=((mv.length:Nat):Int) by rw[la]];have e4:Bn x H4 (upd H4 x (.ins Z.a_System dx (b6 "states" (.int mv.length) (b6 "move" (.ref a) [])))):=Bn.upd;have i4:uh H4 x:=⟨_,_,_,hx4⟩;have hx5:(upd H4 x (.ins Z.a_System dx (b6 "states" (.int mv.length) (b6 "move" (.ref a) [])))) x=some (.ins Z.a_System dx (b6 "states" (.int mv.length) (b6 "move" (.ref a) []))):=aG;have Ga5:=Ga4.exc e4 i4;have k5:aF Hb (upd H4 x (.ins Z.a_System dx (b6 "states" (.int mv.length) (b6 "move" (.ref a) [])))):=k4.after nx;generalize upd H4 x (.ins Z.a_System dx (b6 "states" (.int mv.length) (b6 "move" (.ref a) [])))=H5 at e4 hx5 Ga5 k5 ⊢;clear e3 e4 i3 i4 hx4 Ga4 ga qa;walk_at "w";refine ⟨q,ys,1,4,rfl,k5 _ _ gy,by lia,?_⟩;walk_at "w";refine ⟨x,Z.a_System,dx,_,_,rfl,hx5,T.cl_System,T.na_states,(by rw[bB,if_pos rfl]),?_⟩;walk_at "w";refine ⟨q,H1,pt,mv.length,rfl,gq.same k5,by lia,by lia,fun ws hw=>⟨D.pw ws hw,op ws hw⟩,fun b H6 nb s6 Gb=>?_⟩;have hx6:=s6 _ _ hx5;have i6:uh H6 x:=⟨_,_,_,hx6⟩;walk_at "w";refine ⟨x,Z.a_System,dx,_,rfl,hx6,T.cl_System,T.na_put,aW dN (aW (dc dN) (by show 2 < 1000;decide)),?_⟩;have e6:Bn x H6 (upd H6 x (.ins Z.a_System dx (b6 "put" (.ref b) (b6 "states" (.int mv.length) (b6 "move" (.ref a) []))))):=Bn.upd;have hx7:(upd H6 x (.ins Z.a_System dx (b6 "put" (.ref b) (b6 "states" (.int mv.length) (b6 "move" (.ref a) []))))) x=some (.ins Z.a_System dx (b6 "put" (.ref b) (b6 "states" (.int mv.length) (b6 "move" (.ref a) [])))):=aG;have Ga7:=(Ga5.same s6).exc e6 i6;have Gb7:=(Gb.weak k5).exc e6 i6;have k7:aF Hb (upd H6 x (.ins Z.a_System dx (b6 "put" (.ref b) (b6 "states" (.int mv.length) (b6 "move" (.ref a) []))))):=(k5.trans s6).after nx;generalize upd H6 x (.ins Z.a_System dx (b6 "put" (.ref b) (b6 "states" (.int mv.length) (b6 "move" (.ref a) []))))=H7 at e6 hx7 Ga7 Gb7 k7 ⊢;obtain ⟨bs,gb,qb,_⟩:=id Gb7;have lb:=qb.length;walk_at "w";refine ⟨x,Z.a_System,dx,_,_,rfl,hx7,T.cl_System,T.na_put,(by rw[bB,if_pos rfl]),?_⟩;walk_at "w";refine ⟨_,_,rfl,.inl (bJ.of gb),?_⟩;walk_at "w";refine ⟨x,Z.a_System,dx,_,rfl,hx7,T.cl_System,T.na_ins,aW dN (aW (dc (ah dN (dc dN))) (by show 3 < 1000;decide)),?_⟩;rw[show ((bs.length:Nat):Int)=((pt.length:Nat):Int) by rw[lb]];have i7:uh H7 x:=⟨_,_,_,hx7⟩;have e7:Bn x H7 (upd H7 x (.ins Z.a_System dx (b6 "ins" (.int pt.length) (b6 "put" (.ref b) (b6 "states" (.int mv.length) (b6 "move" (.ref a) [])))))):=Bn.upd;have hx8:(upd H7 x (.ins Z.a_System dx (b6 "ins" (.int pt.length) (b6 "put" (.ref b) (b6 "states" (.int mv.length) (b6 "move" (.ref a) [])))))) x=some (.ins Z.a_System dx (b6 "ins" (.int pt.length) (b6 "put" (.ref b) (b6 "states" (.int mv.length) (b6 "move" (.ref a) []))))):=aG;have Ga8:=Ga7.exc e7 i7;have Gb8:=Gb7.exc e7 i7;have k8:aF Hb (upd H7 x (.ins Z.a_System dx (b6 "ins" (.int pt.length) (b6 "put" (.ref b) (b6 "states" (.int mv.length) (b6 "move" (.ref a) [])))))):=k7.after nx;generalize upd H7 x (.ins Z.a_System dx (b6 "ins" (.int pt.length) (b6 "put" (.ref b) (b6 "states" (.int mv.length) (b6 "move" (.ref a) [])))))=H8 at e7 hx8 Ga8 Gb8 k8 ⊢;clear e6 e7 i6 i7 hx7 Ga7 Gb7 gb qb;walk_at "w";refine ⟨r,zs,2,4,rfl,k8 _ _ gz,by lia,?_⟩;walk_at "w";refine ⟨x,Z.a_System,dx,_,_,rfl,hx8,T.cl_System,T.na_states,(by rw[bB,if_neg (by decide +kernel),bB,if_neg (by decide +kernel),bB,if_pos rfl]),?_⟩;walk_at "w";refine ⟨r,H2,lk,mv.length,rfl,gr.same k8,by lia,by lia,fun ws hw=>⟨D.lw ws hw,ol ws hw⟩,fun c H9 nc s9 Gc=>?_⟩;have hx9:=s9 _ _ hx8;have i9:uh H9 x:=⟨_,_,_,hx9⟩;walk_at "w";refine ⟨x,Z.a_System,dx,_,rfl,hx9,T.cl_System,T.na_look,aW dN (aW (dc (ah dN (dc (ah dN (dc dN))))) (by show 4 < 1000;decide)),?_⟩;have e9:Bn x H9 (upd H9 x (.ins Z.a_System dx (b6 "look" (.ref c) (b6 "ins" (.int pt.length) (b6 "put" (.ref b) (b6 "states" (.int mv.length) (b6 "move" (.ref a) []))))))):=Bn.upd;have hxA:(upd H9 x (.ins Z.a_System dx (b6 "look" (.ref c) (b6 "ins" (.int pt.length) (b6 "put" (.ref b) (b6 "states" (.int mv.length) (b6 "move" (.ref a) []))))))) x=some (.ins Z.a_System dx (b6 "look" (.ref c) (b6 "ins" (.int pt.length) (b6 "put" (.ref b) (b6 "states" (.int mv.length) (b6 "move" (.ref a) [])))))):=aG;have GaA:=(Ga8.same s9).exc e9 i9;have GbA:=(Gb8.same s9).exc e9 i9;have GcA:=(Gc.weak k8).exc e9 i9;have kA:aF Hb (upd H9 x (.ins Z.a_System dx (b6 "look" (.ref c) (b6 "ins" (.int pt.length) (b6 "put" (.ref b) (b6 "states" (.int mv.length) (b6 "move" (.ref a) []))))))):=(k8.trans s9).after nx;generalize upd H9 x (.ins Z.a_System dx (b6 "look" (.ref c) (b6 "ins" (.int pt.length) (b6 "put" (.ref b) (b6 "states" (.int mv.length) (b6 "move" (.ref a) []))))))=HA at e9 hxA GaA GbA GcA kA ⊢;obtain ⟨cs,gc,qc,_⟩:=id GcA;have lc:=qc.length;walk_at "w";refine ⟨x,Z.a_System,dx,_,_,rfl,hxA,T.cl_System,T.na_look,(by rw[bB,if_pos rfl]),?_⟩;walk_at "w";refine ⟨_,_,rfl,.inl (bJ.of gc),?_⟩;walk_at "w";refine ⟨x,Z.a_System,dx,_,rfl,hxA,T.cl_System,T.na_outs,aW dN (aW (dc (ah dN (dc (ah dN (dc (ah dN (dc dN))))))) (by show 5 < 1000;decide)),?_⟩;rw[show ((cs.length:Nat):Int)=((lk.length:Nat):Int) by rw[lc]];have iA:uh HA x:=⟨_,_,_,hxA⟩;exact k _ (kA.after nx) ⟨dx,a,b,c,aG,back na,k5.none nb,k8.none nc,(GaA.exc Bn.upd iA).weak s0,GbA.exc Bn.upd iA,GcA.exc Bn.upd iA⟩
theorem Av:aZ ["row","bottom"] ["row","bottom"] (ax jg):=by walk_at "d"
theorem uU (T:Txt K mg Z):cC P w K mg base iq 1 Z.oo Z.nR ["row","bottom"] (FU K):=by
 refine T.lB.ok Av (fun vs H Q E h=>?_) (fun cdv A outer s H vs Q E hr h=>?_)
 ·obtain ⟨p,ns,M,B,rfl,hp,hl,hz,hB,sB,q⟩:=h;rfl
 ·obtain ⟨p,ns,M,B,rfl,hp,hl,hz,hB,sB,q⟩:=h;refine ⟨_,(az (aP (cm ["value"] ["bottom"] [1] (cn (pv 0)) (fun _=>(aH (i:=0) (show List.Nodup (α:=PySem.Str) ["value","bottom"] by decide +kernel))) (fun _=>ck) (fun _=>(bK cI (bf (AY K (by rfl)) (pv 0) ak) (bK jJ (pv 1) (bf (AY K (by rfl)) (pv 0) ak))))))),?_⟩;refine aO (σ:=[some (.ref p),some (.int B)]) rfl ?_;obtain ⟨xs,gx,qx⟩:=id hp;have lx:=qx.length;walk_at "w";refine ⟨⟨_,bJ.of gx⟩,?_⟩;refine d6 (K:=K) (xs:=xs) (fun i ys H'=>H'=H/\ys=(eU (ns.take i) B).map V.int) (bC (bT (by lia))) ⟨rfl,rfl⟩ (fun i ys H' _ ⟨e,_⟩=>by subst e;exact bJ.of gx) ?_ ?_
  ·rintro i x ys H' hx hlen ⟨rfl,rfl⟩;obtain ⟨n,en,r,rfl,hr1⟩:=cQ qx hx;have nz:=hz.2.2 n (ay en);have sn:Sz 4400 n.2:=A4 hz.1 nz.2.1 hz.2.1;walk_at "w";refine fj (show rd _ _ from ⟨by lia,sn.mono (by decide)⟩) ?_;rw[cp _ (by lia)]
   have sq:Sz 4400 (B / n.2):=sB.le (by
    rw[LQ (by lia)];exact Nat.div_le_self ..)
   walk_at "w";refine fj (show fq _ _ from .inr ⟨_,_,nz.2.2,sq,by decide⟩) ?_;exact ⟨rfl,by rw[take_snoc en];simp [eU]⟩
  ·rintro ys H' hy ⟨rfl,rfl⟩ l hl';exact q l _ hl' (aF.new hl') (by rw[aG,aN (by lia)])
theorem fv:aZ ["wholes","multiple","whole"] ["wholes"] (ax dG):=by walk_at "d"
theorem uA (T:Txt K mg Z):cC P w K mg base iq 2 Z.gC Z.gs ["wholes"] (Kz K):=by
 refine T.jV.ok fv (fun vs H Q E h=>?_) (fun cdv A outer s H vs Q E hr h=>?_)
 ·obtain ⟨p,bs,M,rfl,hp,hM,sM,hb,q⟩:=h;rfl
 ·obtain ⟨p,bs,M,rfl,hp,hM,sM,hb,q⟩:=h
  refine ⟨_,(av (bD (i:=1) fv.nd rfl (Or.inl rfl) ak)
   (av (eB PassesOwn.never rfl (cn (pv 0)) (aH (i:=2) fv.nd)
    (az (bD (i:=1) fv.nd rfl (Or.inl rfl) (bK cI (pv 1) (bK jJ (pv 2) (cP (jK T) hr T.gi T.fg.kp T.ig (ae (pv 1) (ae (pv 2) ai))))))))
   (az (aP (pv 1))))),?_⟩
  refine aO (σ:=[some (.ref p),none,none]) rfl ?_;walk_at "w";refine ⟨⟨_,hp⟩,?_⟩;refine fJ (K:=K) (a:=p) (xs:=bs.map V.int) (fun i σ' H'=>H'=H/\∃x,σ'=[some (.ref p),some (.int (v9 (bs.take i) 1)),x]) ⟨rfl,none,rfl⟩ (fun i σ' H' _ ⟨e,_⟩=>by subst e;exact hp) ?_ ?_
  ·rintro i x σ' H' hx ⟨rfl,y,rfl⟩;rw[aJ] at hx
   obtain ⟨b,eb,rfl⟩:∃b,bs[i]?=some b/\x=.int b:=by
    cases e:bs[i]? with
    | none=>rw[e] at hx;cases hx
    | some b=>rw[e] at hx;cases hx;exact ⟨b,rfl,rfl⟩
   have b1:=hb b (ay eb);have sb:Sz 4400 b:=A4 hM b1.2 sM;have ht:∀c∈bs.take i,0 < c/\c∣M:=fun c hc=>hb c (cS hc)
   have msz:Sz 4400 (v9 (bs.take i) 1):=A4 hM (xD (by decide) (Int.one_dvd _) ht) sM;generalize hm:v9 (bs.take i) 1=m at msz ⊢;have gp:0 < g m b:=yG (by lia);walk_at "w";refine ⟨m,b,rfl,?_⟩;walk_at "w";refine fj (show rd _ _ from ⟨by lia,(Nu b1.1 sb).mono (by decide)⟩) ?_;rw[cp _ (by lia)];walk_at "w";refine fj (show fq _ _ from .inr ⟨_,_,msz,sb.hi (t:=m) (by lia),by decide⟩) ?_;walk_at "w";exact ⟨rfl,_,by rw[take_snoc eb,zQ,hm];rfl⟩
  ·rintro σ' H' ⟨rfl,y,rfl⟩;walk_at "w";rw[aN (by simp)];exact q
theorem vU:aZ ["row"] ["row"] (ax eH):=by walk_at "d"
theorem o5 (T:Txt K mg Z):cC P w K mg base iq 3 Z.iV Z.iQ ["row"] (KA K):=by
 refine T.fK.ok vU (fun vs H Q E h=>?_) (fun cdv A outer s H vs Q E hr h=>?_)
 ·obtain ⟨p,ns,M,rfl,hp,hl,hz,q⟩:=h;rfl
 ·obtain ⟨p,ns,M,rfl,hp,hl,hz,q⟩:=h;refine ⟨_,(az (aP (cP (uA T) hr T.nv T.jV.kp T.oi (ae (cm ["value"] [] [] (cn (pv 0)) (fun _=>(aH (i:=0) (show List.Nodup (α:=PySem.Str) ["value"] by decide +kernel))) (fun _=>ck) (fun _=>(bf (AY K (by rfl)) (pv 0) ak))) ai)))),?_⟩;refine aO (σ:=[some (.ref p)]) rfl ?_;obtain ⟨xs,gx,qx⟩:=id hp;have lx:=qx.length;walk_at "w";refine ⟨⟨_,bJ.of gx⟩,?_⟩;refine d6 (K:=K) (xs:=xs) (fun i ys H'=>H'=H/\ys=((ns.take i).map (·.2)).map V.int) (bC (bT (by lia))) ⟨rfl,rfl⟩ (fun i ys H' _ ⟨e,_⟩=>by subst e;exact bJ.of gx) ?_ ?_
  ·rintro i x ys H' hx hlen ⟨rfl,rfl⟩;obtain ⟨n,en,r,rfl,hr1⟩:=cQ qx hx;walk_at "w";exact ⟨rfl,by rw[take_snoc en];simp⟩
  ·rintro ys H' hy ⟨rfl,rfl⟩ l hl';walk_at "w";refine ⟨l,ns.map (·.2),M,rfl,bJ.of (by rw[aG,aN (by lia)]),hz.1,hz.2.1,fun b hb=>?_,?_⟩
   ·obtain ⟨n,hn,rfl⟩:=aA.mp hb;exact ⟨(hz.2.2 n hn).1,(hz.2.2 n hn).2.1⟩
   ·exact q _ (aF.new hl')
theorem tK:aZ ["lines","begin","place","at"] ["lines","begin","place"] (ax gQ):=by walk_at "d"
theorem zi (T:Txt K mg Z):cC P w K mg base iq 1 Z.mi Z.lT ["lines","begin","place"] EV:=by
 refine T.qI.ok tK (fun vs H Q E h=>?_) (fun cdv A outer s H vs Q E hr h=>?_)
 ·obtain ⟨l,p,ls,b,c,rfl,G,l1000,b1000,hc,k1,k2⟩:=h;rfl
 ·obtain ⟨l,p,ls,b,c,rfl,G,l1000,b1000,hc,k1,k2⟩:=h
  refine ⟨_,(av (eB PassesOwn.never rfl (zK rfl T.range (ae (pv 1) (ae (bH bA (by rfl) T.len bg (ae (pv 0) ai)) ai))) (aH (i:=3) tK.nd)
    (az (cK (bh wG (bf bO (bf bO (pv 0) (pv 3)) (pv 2)) ak (br _)) (az (aP (pv 3))) bS)))
   (az (aP AF))),?_⟩
  refine aO (σ:=[some (.ref p),some (.int b),some (.int c),none]) rfl ?_;obtain ⟨_,xs,gx,qx⟩:=id G;have lx:=qx.length;walk_at "w";refine ⟨_,_,rfl,.inl (bJ.of gx),?_⟩;rw[<- lx];walk_at "w";refine ⟨⟨by lia,by lia,by lia,by lia⟩,?_⟩;refine zU (lo:=(b:Int)) (n:=((ls.length:Int) - (b:Int)).toNat) (fun i σ' H'=>H'=H/\(∃y,σ'=[some (.ref p),some (.int b),some (.int c),y])/\∀s,b<=s->s < b+i->dE ls s c=0) ⟨rfl,⟨_,rfl⟩,fun s h1 h2=>absurd h2 (by lia)⟩ ?_ ?_
  ·rintro i σ' H' hi ⟨rfl,⟨y,rfl⟩,hz⟩;rw[show ((b:Int)+(i:Int))=((b+i:Nat):Int) by lia];obtain ⟨zs,v,ez,ev,mz,q,rfl,_,gq⟩:=jb qx (i:=b+i) (by lia);walk_at "w";refine b9 (bJ.of gx) (dR ev) ?_;walk_at "w";refine b9 (bJ.of gq) (Bq (hc zs mz)) ?_;walk_at "w";have ef:=Kp (c:=c) ez;by_cases e:zs.getD c 0=0
   ·rw[decide_eq_true e];walk_at "w";refine ⟨rfl,⟨_,rfl⟩,fun s h1 h2=>?_⟩;by_cases e2:s=b+i
    ·rw[e2,ef,e];rfl
    ·exact hz s h1 (by lia)
   ·rw[decide_eq_false e];walk_at "w";exact k1 (b+i) (by lia) (by lia) (by rw[ef];exact Nf.mpr e)
  ·rintro σ' H' ⟨rfl,⟨y,rfl⟩,hz⟩;walk_at "w";exact k2 fun t h1 h2=>hz t h1 (by lia)
theorem pN:aZ ["lines","at","place","before","used","by","swept"] ["lines","at","place","before"] (ax mX):=by walk_at "d"
theorem Dj (T:Txt K mg Z):cC P w K mg base iq 1 Z.tx Z.sU ["lines","at","place","before"] EW:=by
 refine T.wB.ok pN (fun vs H Q E h=>?_) (fun cdv A outer s H vs Q E hr h=>?_)
 ·obtain ⟨l,p,ls,kk,c,n,b,rfl,hl,G,l1000,hk,hw,n1000,hc,b0,sb,hs,k⟩:=h;rfl
 ·obtain ⟨l,p,ls,kk,c,n,b,rfl,hl,G,l1000,hk,hw,n1000,hc,b0,sb,hs,k⟩:=h
  refine ⟨_,(av (bD (i:=4) pN.nd rfl (Or.inr rfl) (bf bO (pv 0) (pv 1)))
   (av (bD (i:=5) pN.nd rfl (Or.inr rfl) (bf bO (pv 4) (pv 2)))
   (av (h7 6 ["line"] ["used","by","place","before"] [4,5,2,3] pN.nd rfl rfl (cn (pv 0)) (fun _=>(aH (i:=0) (show List.Nodup (α:=PySem.Str) ["line","used","by","place","before"] by decide +kernel) rfl (Or.inr rfl) (Or.inl rfl))) (fun _=>ck) (fun _=>(cm ["mine","yours"] ["by","line","place","before"] [2,0,3,4] (GC K rfl T.zip (ae (pv 0) (ae (pv 1) ai))) (fun _=>(uR K 2 (cy (aH (i:=0) (show List.Nodup (α:=PySem.Str) ["mine","yours","by","line","place","before"] by decide +kernel)) (cy (aH (i:=1) (show List.Nodup (α:=PySem.Str) ["mine","yours","by","line","place","before"] by decide +kernel)) jH)))) (fun _=>ck) (fun _=>(bK jJ (bK ng (bK cI (pv 2) (pv 0)) (bK cI (bf (fI K (by rfl)) (pv 3) (pv 4)) (pv 1))) (pv 5))))))
   (av (ff (pv 4) (iC (pv 6) (pv 1) set_list))
   (az (aP (pv 6))))))),?_⟩
  refine aO (σ:=[some (.ref p),some (.int kk),some (.int c),some (.int b),none,none,none]) rfl ?_;obtain ⟨pl,xs,gx,qx⟩:=id G;have lx:=qx.length;obtain ⟨zk,vk,ek,evk,mk,qk,rfl,qkl,gk⟩:=jb qx hk;have wk:=hw zk mk;have ek':ls.getD kk []=zk:=by rw[aa,ek];rfl
  walk_at "w";refine b9 (bJ.of gx) (dR evk) ?_;walk_at "w";refine b9 (bJ.of gk) (Bq (by lia)) ?_;walk_at "w";refine ⟨⟨_,bJ.of gx⟩,?_⟩;refine d6 (K:=K) (xs:=xs) (fun i ys H'=>aF H H'/\Paired (Eu l H') ((ls.take i).map fun zs=>List.zipWith (fun x y=>(zk.getD c 0*x - zs.getD c 0*y).fdiv b) zs zk) ys) (bC (bT (by lia))) ⟨aF.refl _,.nil⟩ (fun i ys H' _ ⟨s,_⟩=>bJ.of (s _ _ gx)) ?_ ?_
  ·rintro i v ys0 H' hx hlen ⟨s',pr⟩;obtain ⟨zs,ec,q,rfl,ql,gq⟩:=cQ qx hx;have mz:=ay ec;have wz:=hw zs mz;have gq':=s' _ _ gq;have gk':=s' _ _ gk;walk_at "w";refine ⟨⟨_,bJ.of gq'⟩,⟨_,bJ.of gk'⟩,?_⟩;refine Cj (K:=K) (xs:=zs.map V.int) (ws:=zk.map V.int) (fun j ys H2=>aF H' H2/\ys=((List.zipWith (fun x y=>(zk.getD c 0*x - zs.getD c 0*y).fdiv b) zs zk).take j).map V.int) (bC (bT (by rw[aj];lia))) (by rw[aj,aj];lia) ⟨aF.refl _,rfl⟩ (fun j ys H2 _ ⟨s2,_⟩=>⟨bJ.of (s2 _ _ gq'),bJ.of (s2 _ _ gk')⟩) ?_ ?_
   ·rintro j v1 v2 ys H2 r h1 h2 hy ⟨s2,rfl⟩ hr
    obtain ⟨x,ex,rfl⟩:∃x,zs[j]?=some x/\V.int x=v1:=by
     rw[aJ] at h1;cases e:zs[j]? with
     | none=>rw[e] at h1;cases h1
     | some x=>rw[e] at h1;exact ⟨x,rfl,bY h1⟩
    obtain ⟨y,ey,rfl⟩:∃y,zk[j]?=some y/\V.int y=v2:=by
     rw[aJ] at h2;cases e:zk[j]? with
     | none=>rw[e] at h2;cases h2
     | some x=>rw[e] at h2;exact ⟨x,rfl,bY h2⟩
    have sr:aF H2 (upd H2 r (.tup [.int x,.int y])):=aF.new hr;have gr:(upd H2 r (.tup [.int x,.int y])) r=some (.tup [.int x,.int y]):=aG;generalize upd H2 r (.tup [.int x,.int y])=H3 at sr gr ⊢;have gq3:=sr _ _ (s2 _ _ gq');have sx:=hs zs mz x (ay ex);have sy:=hs zk mk y (ay ey);have s1:=hs zk mk _ (getD_in (e:=0) (show c < zk.length by lia));have s3:=hs zs mz _ (getD_in (e:=0) (show c < zs.length by lia));walk_at "w";refine fj (show fq _ _ from .inr ⟨_,_,s1,sx,by decide⟩) ?_;walk_at "w";refine b9 (bJ.of gq3) (Bq (by lia)) ?_;walk_at "w";refine fj (show fq _ _ from .inr ⟨_,_,s3,sy,by decide⟩) ?_;walk_at "w";refine fj (show rd _ _ from ⟨b0,sb⟩) ?_;have ez:(List.zipWith (fun x y=>(zk.getD c 0*x - zs.getD c 0*y).fdiv b) zs zk)[j]?=some ((zk.getD c 0*x - zs.getD c 0*y).fdiv b):=by rw[fG,ex,ey]
    exact ⟨s2.trans sr,by rw[take_snoc ez];simp⟩
   ·rintro ys H2 hy ⟨s2,rfl⟩ r hr;have sn:aF H2 (upd H2 r (.lst (((List.zipWith (fun x y=>(zk.getD c 0*x - zs.getD c 0*y).fdiv b) zs zk).take (zs.map V.int).length).map V.int))):=aF.new hr;refine ⟨(s'.trans s2).trans sn,?_⟩;rw[take_snoc ec,cH];refine cU (Paired.imp' (fun _ _ z=>(Eu.same z s2).same sn) pr) (.cons ⟨r,rfl,ne_old (fun z=>hl (s'.none (s2.none z))) hr,?_⟩ .nil);rw[aG,aN (by rw[ir,aj];lia)]
  ·rintro ys H1 hy ⟨s1,pr⟩ r hr;have sn:aF H1 (upd H1 r (.lst ys)):=aF.new hr;have gn:(upd H1 r (.lst ys)) r=some (.lst ys):=aG;have ly:=pr.length;rw[aj,dt] at ly;generalize upd H1 r (.lst ys)=H2 at sn gn ⊢;walk_at "w";refine eV gn (fD (by lia)) rfl ?_;have s2:aF H1 (upd H2 r (.lst (ys.set kk (.ref qk)))):=sn.after hr;walk_at "w";refine k r _ (s1.none hr) (s1.trans s2) ⟨ne_old (fun z=>hl (s1.none z)) hr,_,aG,?_⟩;unfold Ck;rw[ek'];rw[aN (by lia)] at pr;exact m8 (Paired.imp' (fun _ _ z=>Eu.same z s2) pr) kk ⟨qk,rfl,qkl,(s1.trans s2) _ _ gk⟩
theorem tL:aZ ["lines","at","to","swapped"] ["lines","at","to"] (ax gR):=by walk_at "d"
theorem zj (T:Txt K mg Z):cC P w K mg base iq 1 Z.mo Z.lU ["lines","at","to"] BA:=by
 refine T.qJ.ok tL (fun vs H Q E h=>?_) (fun cdv A outer s H vs Q E hr h=>?_)
 ·obtain ⟨l,p,ls,t,kk,rfl,hl,G,l1000,ht,hk,k⟩:=h;rfl
 ·obtain ⟨l,p,ls,t,kk,rfl,hl,G,l1000,ht,hk,k⟩:=h
  refine ⟨_,(av (bD (i:=3) tL.nd rfl (Or.inl rfl) (dI vp (by rfl) T.list PyProof.Rows.boot_list (ae (pv 0) ai)))
   (av (ff (bf bO (pv 0) (pv 1)) (iC (pv 3) (pv 2) set_list))
   (av (ff (bf bO (pv 0) (pv 2)) (iC (pv 3) (pv 1) set_list))
   (az (aP (pv 3)))))),?_⟩
  refine aO (σ:=[some (.ref p),some (.int t),some (.int kk),none]) rfl ?_;obtain ⟨pl,xs,gx,qx⟩:=id G;have lx:=qx.length;obtain ⟨zt,vt,et,evt,_,Ft⟩:=jb qx ht;obtain ⟨zk,vk,ek,evk,_,Fk⟩:=jb qx hk;walk_at "w";refine ⟨p,xs,rfl,.inl (bJ.of gx),fun c hc=>?_⟩;have sc:aF H (upd H c (.lst xs)):=aF.new hc;have gc:(upd H c (.lst xs)) c=some (.lst xs):=aG;generalize upd H c (.lst xs)=Hc at sc gc ⊢;walk_at "w";refine b9 (bJ.of (sc _ _ gx)) (dR evt) ?_;walk_at "w";refine eV gc (fD (by lia)) rfl ?_;have s1:aF H (upd Hc c (.lst (xs.set kk vt))):=sc.after hc;have g1:(upd Hc c (.lst (xs.set kk vt))) c=some (.lst (xs.set kk vt)):=aG;generalize upd Hc c (.lst (xs.set kk vt))=H1 at s1 g1 ⊢;walk_at "w";refine b9 (bJ.of (s1 _ _ gx)) (dR evk) ?_;walk_at "w";refine eV g1 (fD (by rw[eO];lia)) rfl ?_;have s2:aF H (upd H1 c (.lst ((xs.set kk vt).set t vk))):=s1.after hc;walk_at "w";refine k c _ hc s2 ⟨ne_old hl hc,_,aG,?_⟩;have et':ls.getD t []=zt:=by rw[aa,et];rfl
  have ek':ls.getD kk []=zk:=by rw[aa,ek];rfl
  unfold pK;rw[et',ek'];exact m8 (m8 (Paired.imp' (fun _ _ z=>Eu.same z s2) qx) kk (Eu.same Ft s2)) t (Eu.same Fk s2)
theorem jC:aZ ["rows","wide","lines","leads","before","place","many","at"] ["rows","wide"] (ax sJ):=by walk_at "d"
theorem GJ (T:Txt K mg Z):cC P w K mg base iq 4 Z.xJ Z.xF ["rows","wide"] (EG K):=by
 refine T.Bj.ok jC (fun vs H Q E h=>?_) (fun cdv A outer s H vs Q E hr h=>?_)
 ·obtain ⟨p,n,w,H0,rows,rfl,G,r100,n100,hw,F,k⟩:=h;rfl
 ·obtain ⟨p,n,w,H0,rows,rfl,G,r100,n100,hw,F,k⟩:=h
  refine ⟨_,(av (h7 2 ["row"] [] [] jC.nd rfl rfl (cn (pv 0)) (fun _=>(aH (i:=0) (show List.Nodup (α:=PySem.Str) ["row"] by decide +kernel))) (fun _=>ck) (fun _=>(cP (uU T) hr T.lO T.lB.kp T.oh (ae (pv 0) (ae (cP (o5 T) hr T.h8 T.fK.kp T.iT (ae (pv 0) ai)) ai)))))
   (av (bD (i:=3) jC.nd rfl (Or.inl rfl) (eF ai))
   (av (bD (i:=4) jC.nd rfl (Or.inl rfl) ak)
   (av (eB PassesOwn.never rfl (bZ rfl T.range (ae (pv 1) ai)) (aH (i:=5) jC.nd)
    (av (bD (i:=6) jC.nd rfl (Or.inl rfl) (bH bA (by rfl) T.len bg (ae (pv 3) ai)))
   (av (bD (i:=7) jC.nd rfl (Or.inl rfl) (cP (zi T) hr T.tT T.qI.kp T.vA (ae (pv 2) (ae (pv 6) (ae (pv 5) ai)))))
   (az (cK (bh Jo (pv 7) AF (br _)) (av (bD (i:=2) jC.nd rfl (Or.inl rfl) (cP (Dj T) hr T.yx T.wB.kp T.Ad (ae (cP (zj T) hr T.tU T.qJ.kp T.vB (ae (pv 2) (ae (pv 7) (ae (pv 6) ai)))) (ae (pv 6) (ae (pv 5) (ae (pv 4) ai))))))
   (av (bD (i:=4) jC.nd rfl (Or.inl rfl) (bf bO (bf bO (pv 2) (pv 6)) (pv 5)))
   (az (kr (yd dn gK gJ o6 (pv 3) (ae (pv 5) ai)))))) bS)))))
   (az (aP (de (ae (BS DP (pv 2) DU (DT (bH bA (by rfl) T.len bg (ae (pv 3) ai)))) (ae (pv 3) ai))))))))),?_⟩
  refine aO (σ:=[some (.ref p),some (.int n),none,none,none,none,none,none]) rfl ?_;obtain ⟨xs,gx,qx,_⟩:=id G;obtain ⟨W,hW,W2,ent⟩:=F.ent;obtain ⟨_,_,_,_,_,_,_,_,r15,r89⟩:=id F;walk_at "w";refine ⟨⟨_,bJ.of gx⟩,?_⟩;refine d5 (K:=K) (as:=rows) (F:=cM K H0) (fun (H:Hp) (zs:List Int) (v:V)=>∃q,v=V.ref q/\H q=some (.lst (zs.map V.int))) gF gx qx (by lia) (fun a b=>a.same b) (fun ⟨q,a,b⟩ s=>⟨q,a,s _ _ b⟩) ?_ ?_
  ·rintro i qs v H' NY NN ec s' ⟨u,rfl,_,R⟩ k1;have mx:=ay ec;obtain ⟨M,hM⟩:=F.rowM mx;obtain ⟨b1,sb⟩:=hM.bot;have lq:(qs.map nm).length<=1000:=by rw[aj,hw qs mx];lia
   walk_at "w";refine ⟨u,_,M,rfl,R.rowK,lq,hM,fun H2 s2=>?_⟩;walk_at "w";exact ⟨u,_,M,_,rfl,(R.same s2).rowK,lq,hM,b1,sb,fun r H3 n3 s3 g3=>k1 _ _ (s2.trans s3) ⟨r,rfl,g3⟩⟩
  rintro ys H1 lp0 hlp s1 g1 pr1 nx1;walk_at "w";refine dj fun qp H2 s2 nq gq=>?_
  have G2:so qp H2 lp0 (rows.map gF):=⟨(fun z=>by rw[z,nq] at g1;cases g1),ys,s2 _ _ g1,Paired.imp' (fun _ _ ⟨q,a,b⟩=>⟨q,a,(fun z=>by rw[z,nq] at b;cases b),s2 _ _ b⟩) pr1⟩;have hq0:H qp=none:=s1.none nq;have s02:=s1.trans s2;have hm:(rows.map gF).length=rows.length:=aj ..;clear g1 pr1 nx1;walk_at "w";refine ⟨by lia,by lia,?_⟩;refine gN (n:=n) (fun P σ' H'=>aF H H'/\∃lp ls ps d y1 y2 y3,σ'=[some (.ref p),some (.int n),some (.ref lp),some (.ref qp),some (.int d),y1,y2,y3]/\H' qp=some (.lst (dP ps))/\so qp H' lp ls/\Ae (rows.map gF) n P ls ps d) ⟨s02,lp0,rows.map gF,[],1,_,_,_,rfl,gq,G2,Ae.start fun zs hz=>by obtain ⟨x,hx,rfl⟩:=aA.mp hz;rw[oV];exact hw x hx⟩ ?_ ?_
  ·rintro P σ' H' hP ⟨s',lp,ls,ps,d,y1,y2,y3,rfl,gq',G',I⟩;have hl:=I.len;have kP:=I.el.kP;have km:=I.el.km;have lps:(dP ps).length=ps.length:=aj ..;have hqp:H' qp≠none:=by rw[gq'];exact fun z=>nomatch z
   obtain ⟨z1,z2⟩:=I.sz (r:=min rows.length n) hW ent (by lia) (by rw[hm];exact ar _) r15;have big:(16*W)^min rows.length n < 2^8999:=aW (vY W2) (eC (by decide) (by lia));walk_at "w";refine ⟨_,_,rfl,.inl (bJ.of gq'),?_⟩;rw[lps];walk_at "w";refine ⟨qp,lp,ls,ps.length,P,rfl,G',by lia,by lia,fun zs hz=>by rw[I.wide zs hz];exact hP,fun t h1 h2 h3=>?_,fun hz=>?_⟩
   ·walk_at "w";refine ⟨rfl,_,rfl,?_⟩;rw[show decide (V.int (t:Int)=V.non)=false from decide_eq_false (fun z=>nomatch z)];walk_at "w";refine ⟨qp,lp,ls,t,ps.length,rfl,hqp,G',by lia,h2,by lia,fun l1 Ha na sa Ga=>?_⟩;walk_at "w";refine ⟨qp,l1,_,ps.length,P,n,d,rfl,fun z=>hqp (sa.none z),Ga,by rw[vQ];lia,by rw[vQ];lia,DM I.wide (by lia) h2,by lia,hP,I.d0,aW z1 big,fun zs hz z hz'=>?_,fun l2 Hb nb sb Gb=>?_⟩
    ·unfold pK at hz;have key:∀ys,ys∈ls->∀z∈ys,Sz 8999 z:=fun ys hy z hz=>aW (z2 ys hy z hz) big
     rcases cv hz with h | h
     ·rcases cv h with h | h
      ·exact key zs h z hz'
      ·rw[h] at hz';exact key _ (getD_in h2) z hz'
     ·rw[h] at hz';exact key _ (getD_in (by lia)) z hz'
    have sab:=sa.trans sb;have I2:=I.step hW ent h1 h2 h3;have hk2:ps.length < (Ck (pK ls ps.length t) ps.length P d).length:=by rw[HV,vQ];lia
    obtain ⟨n2,xs2,gx2,qx2⟩:=id Gb;obtain ⟨zk,vk,ek,evk,mk,qk,rfl,_,gk⟩:=jb qx2 hk2;have wk:=I2.wide zk mk;walk_at "w";refine b9 (bJ.of gx2) (dR evk) ?_;walk_at "w";refine b9 (bJ.of gk) (Bq (by lia)) ?_;have gqb:=sab _ _ gq';walk_at "w";refine ⟨.inl ⟨rfl,_,bJ.of gqb⟩,?_⟩;walk_at "w";refine oZ gqb (bT (by lia)) ?_;refine ⟨(s'.trans sab).after hq0,l2,_,ps++[P],_,_,_,_,rfl,?_,Gb.upd,?_⟩
    ·rw[aG];unfold dP;rw[cH];rfl
    ·have e:(Ck (pK ls ps.length t) ps.length P d).getD ps.length []=zk:=by rw[aa,ek];rfl
     rw[e] at I2;exact I2
   ·walk_at "w";refine ⟨rfl,_,rfl,?_⟩;rw[show decide (V.non=V.non)=true from decide_eq_true rfl];walk_at "w";exact ⟨s',lp,ls,ps,d,_,_,_,rfl,gq',G',I.skip hz⟩
  rintro σ' H' ⟨s',lp,ls,ps,d,y1,y2,y3,rfl,gq',G',I⟩;obtain ⟨R,hR⟩:=I.done hw F;have lps:(dP ps).length=ps.length:=aj ..;obtain ⟨nl,xs',gx',qx'⟩:=id G';walk_at "w";refine ⟨_,_,rfl,.inl (bJ.of gq'),?_⟩;rw[lps];walk_at "w";refine KN (bJ.of gx') fun sl H3 s3 n3 g3=>?_
  rw[HU] at g3;walk_at "w";refine cu fun t H4 s4 g4=>?_
  have s34:=s3.trans s4;exact k t sl qp R ps d _ H4 g4 (s34 _ _ gq') ⟨(fun z=>by rw[z,gq'] at n3;cases n3),_,s4 _ _ g3,Paired.imp' (fun _ _ z=>Eu.same z s34) (wD qx' ps.length)⟩ (s'.trans s34) hR
theorem vS:aZ ["top","bottom","divisor"] ["top","bottom"] (ax oX):=by walk_at "d"
theorem vZ (T:Txt K mg Z):cC P w K mg base iq 2 Z.vH Z.vm ["top","bottom"] ER:=by
 refine T.sv.ok vS (fun vs H Q E h=>?_) (fun cdv A outer s H vs Q E hr h=>?_)
 ·obtain ⟨t,b,rfl,hb,hs,k⟩:=h;rfl
 ·obtain ⟨t,b,rfl,hb,hs,k⟩:=h
  refine ⟨_,(av (bD (i:=2) vS.nd rfl (Or.inl rfl) (cP (jK T) hr T.gi T.fg.kp T.ig (ae (pv 0) (ae (pv 1) ai))))
   (av (cK (bh rL (pv 1) ak (br _)) (az (bD (i:=2) vS.nd rfl (Or.inl rfl) (yc uj (pv 2)))) bS)
   (az (aP (de (ae (bK jJ (pv 0) (pv 2)) (ae (bK jJ (pv 1) (pv 2)) ai))))))),?_⟩
  refine aO (σ:=[some (.int t),some (.int b),none]) rfl ?_;walk_at "w";refine ⟨t,b,rfl,?_⟩;have hg:=yG (t:=t) hb
  have hgs:Sz 8999 (g t b):=hs.le (by
   have h1:(g t b).natAbs=Int.gcd t b:=by unfold g;simp
   rw[h1];exact jz (by lia) (by have:=eN (a:=t) (b:=b);exact dX.mpr this |> fun z=>by simpa using z))
  have hgn:g (-t) (-b)=g t b:=by unfold g;rw[Int.gcd_neg,Int.neg_gcd]
  walk_at "w";refine gG (fun h=>?_) (fun h=>?_)
  ·have hb0:b < 0:=of_decide_eq_true h;walk_at "w";refine fj (show rd _ _ from ⟨by lia,hgs.neg⟩) ?_;walk_at "w";refine fj (show rd _ _ from ⟨by lia,hgs.neg⟩) ?_;walk_at "w";refine cu fun r H' s' h'=>?_
   have e1:t.fdiv (-g t b)=lo (-t) (-b):=by
    unfold Nm.lo;rw[hgn,<- cp _ (by lia),<- Int.neg_fdiv_neg (-t),Int.neg_neg]
   have e2:b.fdiv (-g t b)=hi (-t) (-b):=by
    unfold Nm.hi;rw[hgn,<- cp _ (by lia),<- Int.neg_fdiv_neg (-b),Int.neg_neg]
   exact k r H' s' (by rw[if_pos hb0,if_pos hb0,<- e1,<- e2];exact h')
  ·have hb0:¬b < 0:=fun z=>h (decide_eq_true z)
   walk_at "w";refine fj (show rd _ _ from ⟨by lia,hgs⟩) ?_;walk_at "w";refine fj (show rd _ _ from ⟨by lia,hgs⟩) ?_;walk_at "w";refine cu fun r H' s' h'=>?_
   rw[cp _ (by lia),cp _ (by lia)] at h';exact k r H' s' (by rw[if_neg hb0,if_neg hb0];exact h')
theorem xT:aZ ["rows","wide","found"] ["rows","wide"] (ax mT):=by walk_at "d"
theorem uz (T:Txt K mg Z):cC P w K mg base iq 5 Z.sZ Z.sQ ["rows","wide"] (Bx K):=by
 refine T.pF.ok xT (fun vs H Q E h=>?_) (fun cdv A outer s H vs Q E hr h=>?_)
 ·obtain ⟨p,n,w,H0,rows,rfl,G,r100,n100,hw,F,k⟩:=h;rfl
 ·obtain ⟨p,n,w,H0,rows,rfl,G,r100,n100,hw,F,k⟩:=h
  refine ⟨_,(av (bD (i:=2) xT.nd rfl (Or.inl rfl) (cP (GJ T) hr T.BY T.Bj.kp T.En (ae (pv 0) (ae (pv 1) ai))))
   (az (aP (cm ["line","lead"] [] [] (AE rfl T.zip (ae (bf cb (pv 2) ak) (ae (bf cb (pv 2) ak) ai))) (fun _=>(uR K 2 (cy (aH (i:=0) (show List.Nodup (α:=PySem.Str) ["line","lead"] by decide +kernel) rfl (Or.inr rfl) (Or.inl rfl)) (cy (aH (i:=1) (show List.Nodup (α:=PySem.Str) ["line","lead"] by decide +kernel) rfl (Or.inr rfl) (Or.inl rfl)) jH)))) (fun _=>ck) (fun _=>(cm ["top"] ["line","lead"] [0,1] (BR K (pv 0)) (fun _=>(aH (i:=0) (show List.Nodup (α:=PySem.Str) ["top","line","lead"] by decide +kernel))) (fun _=>ck) (fun _=>(cP (vZ T) hr T.sO T.sv.kp T.vz (ae (pv 0) (ae (bf (fI K (by rfl)) (pv 1) (pv 2)) ai)))))))))),?_⟩
  refine aO (σ:=[some (.ref p),some (.int n),none]) rfl ?_;obtain ⟨_,_,_,_,_,_,_,_,r15,r89⟩:=id F;walk_at "w";refine ⟨p,n,w,H0,rows,rfl,G,r100,n100,hw,F,fun t lp qp R ps d ls H1 gt gq G1 s1 S=>?_⟩;obtain ⟨lR,wR,RR⟩:=id S.rr;have hl:=S.len;obtain ⟨_,xs,gx,qx⟩:=id G1;have lx:=qx.length;have lps:(dP ps).length=ps.length:=aj ..;have d0:(d:Rat)≠0:=fun z=>S.d0 (rZ z)
  have dsz:Sz 8999 d:=aW S.dsz (eC (by decide) (by lia))
  have km:ps.length<=n:=by
   rcases bV n ps.length with z | z
   ·have inc:∀j,j < ps.length->j<=ps.getD j 0:=by
     intro j
     induction j with
     | zero=>intro _;exact aT _
     | succ j ih =>
      intro hj;have:=ih (by lia);have:=RR.inc j (j+1) (by lia) hj
      lia
    have h1:=inc (ps.length - 1) (by lia);have h2:=RR.low (ps.length - 1) (by lia)
    lia
   ·exact z
  walk_at "w";refine ⟨⟨_,bJ.of gx⟩,⟨_,bJ.of gq⟩,?_⟩;refine Cj (K:=K) (xs:=xs) (ws:=dP ps) (fun i ys H'=>aF H1 H'/\Paired (cM K H1 H') (R.take i) ys) (bC (bT (by lia))) (by lia) ⟨aF.refl _,.nil⟩ (fun i ys H' _ ⟨s,_⟩=>⟨bJ.of (s _ _ gx),bJ.of (s _ _ gq)⟩) ?_ ?_
  ·rintro i v1 v2 ys H' r h1 h2 hy ⟨s,pr⟩ hr;obtain ⟨zs,ez,q,rfl,_,gq1⟩:=cQ qx h1;have hi:i < ls.length:=(aE.mp ez).1;have mz:=ay ez;have wz:=S.wide zs mz
   obtain ⟨j,ej,rfl⟩:∃j:Nat,ps[i]?=some j/\V.int (j:Int)=v2:=by
    unfold dP at h2;rw[aJ] at h2;cases e:ps[i]? with
    | none=>rw[e] at h2;cases h2
    | some x=>rw[e] at h2;exact ⟨x,rfl,bY h2⟩
   have ej':ps.getD i 0=j:=by rw[aa,ej];rfl
   have jn:j < n:=by have:=RR.low i (by lia);rw[ej'] at this;exact this
   have sr:aF H' (upd H' r (.tup [.ref q,.int j])):=aF.new hr;have gr:(upd H' r (.tup [.ref q,.int j])) r=some (.tup [.ref q,.int j]):=aG;generalize upd H' r (.tup [.ref q,.int j])=H2 at sr gr ⊢;have s2:=s.trans sr;have iR:i < R.length:=by lia
   have eR:=ag iR;have wRi:=wR _ (bE iR)
   have ed:zs.getD j 0=d:=by
    have h:=S.val i j;rw[Kp ez] at h;have u:=RR.unit i (by lia) i (by lia);rw[if_pos rfl,ej'] at u;rw[u,Rat.mul_one] at h;exact dk.mp h
   have val:∀c,((zs.getD c 0:Int):Rat)=(d:Rat)*(R[i]).getD c 0:=fun c=>by
    have h:=S.val i c;rw[Kp ez] at h;rw[h];unfold b8;rw[aa (l:=R),eR];rfl
   walk_at "w";refine ⟨⟨_,bJ.of (s2 _ _ gq1)⟩,?_⟩;refine d6 (K:=K) (xs:=zs.map V.int) (fun c ys' H3=>aF H2 H3/\Paired (cf K H3) ((R[i]).take c) ys') (bC (bT (by rw[aj];lia))) ⟨aF.refl _,.nil⟩ (fun c ys' H3 _ ⟨s3,_⟩=>bJ.of ((s2.trans s3) _ _ gq1)) ?_ ?_
   ·rintro c x ys' H3 hx hlen ⟨s3,pr3⟩
    obtain ⟨z,ec,rfl⟩:∃z,zs[c]?=some z/\V.int z=x:=by
     rw[aJ] at hx;cases e:zs[c]? with
     | none=>rw[e] at hx;cases hx
     | some x=>rw[e] at hx;exact ⟨x,rfl,bY hx⟩
    have hc:c < zs.length:=(aE.mp ec).1;have vc:=val c;have e1:zs.getD c 0=z:=by rw[aa,ec];rfl
    rw[e1] at vc;walk_at "w";refine b9 (bJ.of ((s2.trans s3) _ _ gq1)) (Bq (by lia)) ?_;rw[ed];walk_at "w";refine ⟨z,d,rfl,S.d0,dsz,fun r4 H4 s4 g4=>?_⟩;have ec':(R[i])[c]?=some ((R[i]).getD c 0):=by rw[aa,ag (show c < (R[i]).length by lia)];rfl
    refine ⟨s3.trans s4,?_⟩;rw[take_snoc ec'];refine cU (Paired.imp' (fun _ _ z=>cf.same z s4) pr3) (.cons (cf.mk g4 ?_) .nil);rcases Int.lt_or_lt_of_ne S.d0 with hd | hd
    ·rw[if_pos hd,if_pos hd];refine pV (by lia) ?_;rw[cW,cW,vc];grind
    ·rw[if_neg (by lia),if_neg (by lia)];refine pV hd ?_;rw[vc];grind
   ·rintro ys' H3 hy' ⟨s3,pr3⟩ l4 hl4;have sn:aF H3 (upd H3 l4 (.lst ys')):=aF.new hl4;refine ⟨(s2.trans s3).trans sn,?_⟩;rw[take_snoc eR];rw[aN (by rw[aj];lia)] at pr3;exact cU (Paired.imp' (fun _ _ z=>cM.same z ((sr.trans s3).trans sn)) pr) (.cons ⟨l4,rfl,(s2.trans s3).none hl4,ys',aG,Paired.imp' (fun _ _ z=>cf.same z sn) pr3⟩ .nil)
  ·rintro ys H' hy ⟨s,pr⟩ r hr;have sn:aF H' (upd H' r (.lst ys)):=aF.new hr;rw[aN (by lia)] at pr;refine k r R ps d.natAbs _ (s1.none (s.none hr)) ((s1.trans s).trans sn) ⟨ys,aG,Paired.imp' (fun _ _ z=>(cM.weak z s1).same sn) pr,lJ (H0:=H1) (rows:=R) ⟨H',hr,pr⟩⟩ S.rr S.km ?_ S.dsz S.tp;have:=S.d0
   lia
theorem pL:aZ ["one","other","one_bottom","other_bottom","pairs"] ["one","other"] (ax mS):=by walk_at "d"
theorem Dg (T : Txt K mg Z) : cC P w K mg base iq 4 Z.sY Z.sP ["one", "other"] (DN K) := by
  have qY := o5 (P := P) (w := w) (base := base) T;have xc := uU (P := P) (w := w) (base := base) T;have HZ := vZ (P := P) (w := w) (base := base) T;refine T.wj.ok pL (fun vs H Q E h => ?_) (fun cdv A outer s H vs Q E hr h => ?_)
  · obtain ⟨p, q, xs, ys, rfl, hp, hq, hl, hz, ⟨k1, j1, k2, j2, h1, h2, hkj⟩, kk⟩ := h;rfl
  · obtain ⟨p, q, xs, ys, rfl, hp, hq, hl, hz, ⟨k1, j1, k2, j2, h1, h2, hkj⟩, kk⟩ := h
    refine ⟨_, (av (bD (i := 2) pL.nd rfl (Or.inl rfl) (cP qY hr T.h8 T.fK.kp T.iT (ae (pv 0) ai)))
      (av (bD (i := 3) pL.nd rfl (Or.inl rfl) (cP qY hr T.h8 T.fK.kp T.iT (ae (pv 1) ai)))
      (av (bD (i := 4) pL.nd rfl (Or.inl rfl) (Dc rfl T.list rfl T.zip (ae (cP xc hr T.lO T.lB.kp T.oh (ae (pv 0) (ae (pv 2) ai))) (ae (cP xc hr T.lO T.lB.kp T.oh (ae (pv 1) (ae (pv 3) ai))) ai))))
      (az (aP (cP HZ hr T.sO T.sv.kp T.vz (ae (bH (HW rfl) (by rfl) T.sum PyProof.Rows.boot_sum (ae (cm ["mine", "yours"] [] [] (cn (pv 4)) (fun _ => (uR K 2 (cy (aH (i := 0) (show List.Nodup (α := PySem.Str) ["mine", "yours"] by decide +kernel)) (cy (aH (i := 1) (show List.Nodup (α := PySem.Str) ["mine", "yours"] by decide +kernel)) jH)))) (fun _ => ck) (fun _ => (bK cI (pv 0) (pv 1)))) ai)) (ae (bK cI (pv 2) (pv 3)) ai)))))))), ?_⟩
    refine aO (σ := [some (.ref p), some (.ref q), none, none, none]) rfl ?_;obtain ⟨M, h1⟩ := h1.rowM (by lia);obtain ⟨N, h2⟩ := h2.rowM (by lia);replace hp := hp.rowK;replace hq := hq.rowK;replace hl : (ys.map nm).length = (xs.map nm).length := by simpa using hl
    replace hz : (xs.map nm).length ≤ 1000 := by simpa using hz
    obtain ⟨b1, s1⟩ := h1.bot;obtain ⟨b2, s2⟩ := h2.bot;have k2 : ∀ r H', aF H H' → H' r = some (.tup [.int (lo (HP (xs.map nm) (ys.map nm)) (gH (xs.map nm) * gH (ys.map nm))), .int (hi (HP (xs.map nm) (ys.map nm)) (gH (xs.map nm) * gH (ys.map nm)))]) → Q (.ref r) H' := fun r H' s g => kk r H' s (cf.mk g (JB b1 b2))
    clear kk;generalize xs.map nm = ns at hp hq hl hz h1 h2 b1 b2 s1 s2 k2;generalize ys.map nm = ms at hp hq hl hz h1 h2 b1 b2 s1 s2 k2;have hb : 0 < gH ns * gH ms := iO b1 b2;walk_at "w";refine ⟨p, ns, M, rfl, hp, hz, h1, fun H1 t1 => ?_⟩;walk_at "w";refine ⟨q, ms, N, rfl, hq.same t1, by lia, h2, fun H2 t2 => ?_⟩;have u2 := t1.trans t2;walk_at "w";refine ⟨p, ns, M, _, rfl, hp.same u2, hz, h1, b1, s1, fun r1 H3 n3 t3 g3 => ?_⟩;walk_at "w";refine ⟨q, ms, N, _, rfl, (hq.same u2).same t3, by lia, h2, b2, s2, fun r2 H4 n4 t4 g4 => ?_⟩;walk_at "w";refine ⟨r1, r2, _, _, rfl, bJ.of (t4 _ _ g3), bJ.of g4, by simp [eU, hl], fun L ts H5 t5 n5 g5 pr => ?_⟩;have lt := pr.length;have ll : (eU ns (gH ns)).length = ns.length := by simp [eU]
    have lm : (eU ms (gH ms)).length = ns.length := by simp [eU, hl]
    rw [yY, aj, aj, ll, lm] at lt;walk_at "w";refine ⟨⟨_, bJ.of g5⟩, ?_⟩;refine d6 (K := K) (xs := ts) (fun i ys H' => H' = H5 /\ ys = ((List.zipWith (· * ·) (eU ns (gH ns)) (eU ms (gH ms))).take i).map V.int) (bC (bT (by lia))) ⟨rfl, rfl⟩ (fun i ys H' _ ⟨e, _⟩ => by subst e; exact bJ.of g5) ?_ ?_
    · rintro i x ys H' hx hlen ⟨rfl, rfl⟩;obtain ⟨pq, epq, T, rfl, gT⟩ := cQ pr hx;obtain ⟨t, u, et, eu, rfl⟩ := Im epq;walk_at "w";refine fj (show fq _ _ from .inr ⟨_, _, Bs h1 b1 s1 (ay et), Bs h2 b2 s2 (ay eu), by decide⟩) ?_;have ez : (List.zipWith (· * ·) (eU ns (gH ns)) (eU ms (gH ms)))[i]? = some (t * u) := by rw [fG, et, eu]
      exact ⟨rfl, by rw [take_snoc ez]; simp⟩
    · rintro ys H' hy ⟨rfl, rfl⟩ l hl';walk_at "w";refine ⟨l, List.zipWith (· * ·) (eU ns (gH ns)) (eU ms (gH ms)), rfl, bJ.of (by rw [aG, aN (by rw [ir]; lia)]), ?_⟩;walk_at "w";refine fj (show fq _ _ from .inr ⟨_, _, s1, s2, by decide⟩) ?_;walk_at "w";refine ⟨_, _, rfl, by lia, (s1.mul s2).mono (by decide), fun r H6 t6 g6 => ?_⟩;rw [if_neg (by lia), if_neg (by lia)] at g6;exact k2 r H6 ((((u2.trans t3).trans t4).trans t5).trans ((aF.new hl').trans t6)) g6
theorem CZ:aZ ["grid","row"] ["grid","row"] (ax mW):=by walk_at "d"
theorem Di (T:Txt K mg Z):cC P w K mg base iq 5 Z.tw Z.sT ["grid","row"] (IE K):=by
 refine T.wq.ok CZ (fun vs H Q E h=>?_) (fun cdv A outer s H vs Q E hr h=>?_)
 ·obtain ⟨p,q,H0,rows,ys,rfl,hp,hq,hz,hl,hr1,kk⟩:=h;rfl
 ·obtain ⟨p,q,H0,rows,ys,rfl,hp,hq,hz,hl,hr1,kk⟩:=h;refine ⟨_,(az (aP (cm ["line"] ["row"] [1] (cn (pv 0)) (fun _=>(aH (i:=0) (show List.Nodup (α:=PySem.Str) ["line","row"] by decide +kernel))) (fun _=>ck) (fun _=>(cP (Dg T) hr T.yu T.wj.kp T.Aa (ae (pv 0) (ae (pv 1) ai))))))),?_⟩;refine aO (σ:=[some (.ref p),some (.ref q)]) rfl ?_;obtain ⟨xs,gx,qx,_⟩:=id hp;walk_at "w";refine ⟨⟨_,bJ.of gx⟩,?_⟩;refine d5 (K:=K) (F:=cM K H0) (cf K) (fun xs=>iJ xs ys) gx qx hz (fun a b=>a.same b) (fun a b=>a.same b) ?_ ?_
  ·rintro i ns x H' NY NN en s ⟨u,rfl,_,hu⟩ k;obtain ⟨e1,e2⟩:=hr1 ns (ay en);walk_at "w";exact ⟨u,q,ns,ys,rfl,hu,hq.same s,e1.symm,by lia,e2,fun r H2 s2 h2'=>k _ _ s2 h2'⟩
  ·rintro ys' H' r hr s g pr nx;exact kk r H' hr s ⟨ys',g,pr⟩
theorem y9:aZ ["system","rows"] ["system","rows"] (ax gP):=by walk_at "d"
theorem zh (T:Txt K mg Z):cC P w K mg base iq 6 Z.mh Z.lS ["system","rows"] (EM K Z.a_System):=by
 refine T.qG.ok y9 (fun vs H Q E h=>?_) (fun cdv A outer s H vs Q E hr h=>?_)
 ·obtain ⟨x,p,H0,H1,mv,pt,lk,R,rfl,S,D,G,l100,wR,hf,k⟩:=h;rfl
 ·obtain ⟨x,p,H0,H1,mv,pt,lk,R,rfl,S,D,G,l100,wR,hf,k⟩:=h;refine ⟨_,(az (aP (cm ["row"] ["system"] [0] (cn (pv 1)) (fun _=>(aH (i:=0) (show List.Nodup (α:=PySem.Str) ["row","system"] by decide +kernel))) (fun _=>ck) (fun _=>(cP (Di T) hr T.yw T.wq.kp T.Ac (ae (Jm K (pv 1) rfl) (ae (pv 0) ai))))))),?_⟩;refine aO (σ:=[some (.ref x),some (.ref p)]) rfl ?_;obtain ⟨dx,a',b',c',gx,_,_,_,Ga,Gb,Gc⟩:=id S;have d8:=D.n8;obtain ⟨xs,gxs,qx,_⟩:=id G;walk_at "w";refine ⟨⟨_,bJ.of gxs⟩,?_⟩;refine d5 (K:=K) (F:=cM K H1) (cM K H) (uT mv) gxs qx (by lia) (fun a b=>a.same b) (fun a b=>a.same b) ?_ ?_
  ·rintro i ns v H' NY NN en s ⟨u,rfl,_,hu⟩ k1;have mn:=ay en;walk_at "w";refine ⟨x,Z.a_System,dx,_,_,rfl,s _ _ gx,T.cl_System,T.na_move,Bw,?_⟩;walk_at "w";exact ⟨a',u,H0,mv,ns,rfl,Ga.same s,hu,by lia,by rw[wR ns mn];lia,fun xs hx=>⟨by rw[D.mw xs hx,wR ns mn],hf xs hx ns mn⟩,fun r H2 nr s2 R2=>k1 _ _ s2 ⟨r,rfl,s.none nr,R2⟩⟩
  ·rintro ys H' r hr s g pr nx;exact k r H' hr s ⟨ys,g,pr,lJ nx⟩
theorem m5:aZ ["system","steps","lists","rows"] ["system","steps"] (ax fO):=by walk_at "d"
theorem yi (T:Txt K mg Z):cC P w K mg base iq 7 Z.kK Z.ku ["system","steps"] (EU K Z.a_System):=by
 refine T.oP.ok m5 (fun vs H Q E h=>?_) (fun cdv A outer s H vs Q E hr h=>?_)
 ·obtain ⟨x,a,c,st,H0,mv,pt,lk,rfl,s1000,S,D,F,k⟩:=h;rfl
 ·obtain ⟨x,a,c,st,H0,mv,pt,lk,rfl,s1000,S,D,F,k⟩:=h
  refine ⟨_,(av (bD (i:=2) m5.nd rfl (Or.inl rfl) (eF (ae (eF ai) ai)))
   (av (xZ PassesOwn.never (bh Mz (bH bA (by rfl) T.len bg (ae (pv 2) ai)) (pv 1) (br _))
    (av (bD (i:=3) m5.nd rfl (Or.inl rfl) (cP (uz T) hr T.pT T.pF.kp T.sX (ae (bK De (jI (pv 0) rfl) (cP (zh T) hr T.tS T.qG.kp T.vw (ae (pv 0) (ae (bf bO (pv 2) (yc uj ak)) ai)))) (ae (jI (pv 0) rfl) ai))))
   (av (cK (bh dW (bH bA (by rfl) T.len bg (ae (pv 3) ai)) (bH bA (by rfl) T.len bg (ae (bf bO (pv 2) (yc uj ak)) ai)) (br _)) (az (aP (pv 2))) bS)
   (az (kr (yd dn gK gJ o6 (pv 2) (ae (pv 3) ai)))))))
   (az (aP (pv 2))))),?_⟩
  refine aO (σ:=[some (.ref x),some (.int st),none,none]) rfl ?_;obtain ⟨dx,a',b',c',gx,_,_,_,Ga,Gb,Gc⟩:=id S;have d8:=D.n8;have i4:=D.i4;have lP:=iH (mv:=mv) (pt:=pt) rfl D.pw;walk_at "w";refine dj fun q0 H1 s1 nq0 g1=>?_
  walk_at "w";refine dj fun l H2 s2 nl g2=>?_
  have s02:=s1.trans s2;have nl0:H l=none:=s1.none nl;obtain ⟨Hz,eHz⟩:∃Hz,Hz=upd H l (.lst []):=⟨_,rfl⟩;have zl:Hz l≠none:=by rw[eHz,aG];exact fun z=>nomatch z
  have zn:∀q,Hz q=none->H q=none/\q≠l:=fun q h=>by
   have ne:q≠l:=fun z=>zl (by rw[<- z];exact h)
   rw[eHz,be ne] at h;exact ⟨h,ne⟩
  have nz:∀q,H q=none->q≠l->Hz q=none:=fun q h ne=>by rw[eHz,be ne];exact h
  clear eHz;have q0l:q0≠l:=fun z=>by rw[z,nl] at g1;cases g1
  have G0:bF K Hz H2 q0 []:=⟨[],s2 _ _ g1,.nil,fun z=>nomatch z⟩;walk_at "w";refine An (fun σ' H'=>aF H H'/\∃Rs R us y,σ'=[some (.ref x),some (.int st),some (.ref l),y]/\H' l=some (.lst us)/\Paired (fun R v=>∃q,v=V.ref q/\Hz q=none/\bF K Hz H' q R) (Rs++[R]) us/\yT mv pt (Rs++[R])/\Rs.length<=st) (fun _ H'=>match H' l with | some (.lst us)=>st+1 - us.length | _=>0) ⟨s02,[],[],_,_,rfl,g2,.cons ⟨q0,rfl,nz q0 nq0 q0l,G0⟩ .nil,⟨by simp,fun t R e=>?_,fun t R R' e e'=>?_⟩,aT _⟩ ?_
  ·have ht:=(aE.mp e).1;have:t=0:=by simpa using ht
   subst this;cases e;exact ⟨[],AB⟩
  ·have ht:=(aE.mp e').1;simp at ht
  rintro σ' Ha ⟨sa,Rs,R,us,y,rfl,gu,pa,Gw,hst⟩;have lu:=pa.length;rw[ao,bc] at lu;have eR:(Rs++[R])[Rs.length]?=some R:=by rw[b7 (ar _),tF];rfl
  obtain ⟨ps,RR⟩:=Gw.rr _ _ eR;have tn:Rs.length<=mv.length:=by have:=Gw.len _ _ eR;have:=RR.le;have:=RR.1;lia
  have fin:∀(Hx:Hp) (sx:aF Ha Hx) (hh:∀s,(Rs.length=st/\s=st\/Rs.length < st/\Rs.length<=s)->∃ps,bR (kry mv pt s) mv.length R ps),Q (.ref l) Hx:=fun Hx sx hh=>by
   refine k l (Rs++[R]) Hx nl0 (sa.trans sx) ⟨us,sx _ _ gu,Paired.imp' (fun _ _ ⟨q,e1,e2,e3⟩=>⟨q,e1,(zn q e2).1,(zn q e2).2,bF.weakN (bF.same e3 sx) fun q h=>(zn q h).1⟩) pa⟩ Gw (by rw[ao,bc];lia) fun R2 e2 s hs=>?_
   rw[List.getLast?_concat] at e2;cases e2;rw[ao,bc,Nat.add_sub_cancel] at hs;exact hh s hs
  walk_at "w";refine ⟨_,_,rfl,.inl (bJ.of gu),?_⟩;walk_at "w";refine gG (fun h0=>?_) (fun h0=>?_)
  ·have h0:=of_decide_eq_true h0;refine JX ?_
   obtain ⟨zs,gS⟩:∃zs q,us=zs++[V.ref q]/\Hz q=none/\bF K Hz Ha q R:=by
    obtain ⟨v,ev,q,rfl,e2,e3⟩:∃v,us[Rs.length]?=some v/\∃q,v=V.ref q/\Hz q=none/\bF K Hz Ha q R:=by
     have ev:=ag (show Rs.length < us.length by lia);obtain ⟨R2,e2,w⟩:=cQ pa ev;rw[eR] at e2;cases e2;exact ⟨_,ev,w⟩
    refine ⟨us.take Rs.length,q,?_,e2,e3⟩;rw[<- take_snoc ev,aN (by lia)]
   obtain ⟨q,rfl,zq,Gq⟩:=gS;have gxa:=sa _ _ gx;walk_at "w";refine ⟨x,Z.a_System,dx,_,_,rfl,gxa,T.cl_System,T.na_put,DL,?_⟩;walk_at "w";refine b9 (bJ.of gu) (yQ _ _) ?_;have wR:=RR.2.1;have lR:=RR.1;have pn:=RR.le;walk_at "w";refine ⟨x,q,H0,Hz,mv,pt,lk,R,rfl,S.same sa,D,Gq,by lia,wR,F.fit d8 D.mw D.pw tn RR,fun mr Hb nmr sb Gm=>?_⟩;obtain ⟨pv,gpv,qpv,_⟩:=Gb.same (sa.trans sb);obtain ⟨mvs,gmv,qmv,_⟩:=id Gm;have lpv:=qpv.length;have lmv:=qmv.length;rw[aj] at lmv;walk_at "w";refine C6 gpv gmv (bC (bT (by lia))) fun cr Hc sc nc gc=>?_
   have sab:=sa.trans (sb.trans sc);have Gc':bF K (fun _=>none) Hc cr (pt++R.map (uT mv)):=Fm (H:=Hb) (cU (Paired.imp' (fun _ _ ⟨q,e1,e2,e3⟩=>⟨q,e1,rfl,e3⟩) qpv) (Paired.imp' (fun _ _ ⟨q,e1,e2,e3⟩=>⟨q,e1,rfl,e3⟩) qmv)) sc nc gc;walk_at "w";refine ⟨x,Z.a_System,dx,_,_,rfl,sab _ _ gx,T.cl_System,T.na_states,pJ,?_⟩;walk_at "w";refine ⟨cr,mv.length,_,_,_,rfl,Gc',by rw[ao,aj];lia,by lia,fun xs hx=>?_,F.step d8 D.mw D.pw tn RR,fun rr R' ps' M' Hd nrr sd G' RR' pm' _ _ _=>?_⟩
   ·rcases aw.mp hx with hx | hx
    ·exact D.pw xs hx
    ·obtain ⟨y,_,rfl⟩:=aA.mp hx;exact yh
   have sbd:=sb.trans (sc.trans sd);have sad:=sa.trans sbd;have K1:=vd rfl D.mw D.pw RR RR';have gud:=sbd _ _ gu;obtain ⟨rv,grv,qrv,_⟩:=id G';have lrv:=qrv.length;have lR':=RR'.1;have pn':=RR'.le;walk_at "w";refine ⟨_,_,rfl,.inl (bJ.of grv),?_⟩;walk_at "w";refine b9 (bJ.of gud) (yQ _ _) ?_;obtain ⟨ov,gov,qov,_⟩:=Gq.same sbd;have lov:=qov.length;walk_at "w";refine ⟨_,_,rfl,.inl (bJ.of gov),?_⟩;walk_at "w";refine gG (fun h1=>?_) (fun h1=>?_)
   ·have h1:=of_decide_eq_true h1;walk_at "w";refine fin Hd sbd fun s hs=>⟨ps,?_⟩
    obtain ⟨s',rfl⟩:∃s',s=Rs.length+s':=⟨s - Rs.length,by lia⟩;exact zR rfl D.mw D.pw RR RR' (by lia) s'
   ·have h1:¬((rv.length:Int)=ov.length):=fun z=>h1 (decide_eq_true z)
    have gr:=Cd rfl D.mw D.pw RR K1;have rl:rr≠l:=fun z=>by rw[z,(sb.trans sc) _ _ gu] at nrr;cases nrr
    have zc:∀q,Hc q=none->Hz q=none:=fun q h=>nz q (sab.none h) (fun z=>by rw[z,(sb.trans sc) _ _ gu] at h;cases h)
    walk_at "w";refine ⟨.inl ⟨rfl,_,bJ.of gud⟩,?_⟩;walk_at "w";refine oZ gud (bT (by lia)) ?_;refine ⟨⟨sad.after nl0,Rs++[R],R',_,_,rfl,aG,cU (Paired.imp' (fun _ _ ⟨q,e1,e2,e3⟩=>⟨q,e1,e2,bF.updL (bF.same e3 sbd) gud zl (zn q e2).2⟩) pa) (.cons ⟨rr,rfl,zc rr nrr,bF.updL (G'.weakN zc) gud zl rl⟩ .nil),Gw.snoc K1 (by lia),by rw[ao,bc];lia⟩,?_⟩;simp only[gu,aG,ao,bc] at lu h0 ⊢
    lia
  ·have h0:¬((us.length:Int)<=st):=fun z=>h0 (decide_eq_true z)
   walk_at "w"
   exact fin Ha (aF.refl _) fun s hs=>⟨ps,by
    have:s=Rs.length:=by lia
    rw[this];exact RR⟩
theorem y8:aZ ["system","steps"] ["system","steps"] (ax gO):=by walk_at "d"
theorem zg (T:Txt K mg Z):cC P w K mg base iq 8 Z.mf Z.lQ ["system","steps"] (EI K Z.a_System):=by
 refine T.qF.ok y8 (fun vs H Q E h=>?_) (fun cdv A outer s H vs Q E hr h=>?_)
 ·obtain ⟨x,a,c,st,H0,mv,pt,lk,rfl,s1000,S,D,F,k⟩:=h;rfl
 ·obtain ⟨x,a,c,st,H0,mv,pt,lk,rfl,s1000,S,D,F,k⟩:=h;refine ⟨_,(az (aP (bf bO (cP (yi T) hr T.rO T.oP.kp T.t7 (ae (pv 0) (ae (pv 1) ai))) (yc uj ak)))),?_⟩;refine aO (σ:=[some (.ref x),some (.int st)]) rfl ?_;walk_at "w";refine ⟨x,a,c,st,H0,mv,pt,lk,rfl,s1000,S,D,F,fun r Rs H1 nr s1 ⟨us,gu,pa⟩ Gw hl hh=>?_⟩;have lu:=pa.length;obtain ⟨Rs',R,rfl⟩:∃Rs' R,Rs=Rs'++[R]:=⟨Rs.dropLast,Rs.getLast Gw.ne,(List.dropLast_concat_getLast Gw.ne).symm⟩;rw[ao,bc] at lu hl;have eR:(Rs'++[R])[Rs'.length]?=some R:=by rw[b7 (ar _),tF];rfl
  obtain ⟨zs,q,rfl,zq,ql,Gq⟩:∃zs q,us=zs++[V.ref q]/\H q=none/\q≠r/\bF K H H1 q R:=by
   have ev:=ag (show Rs'.length < us.length by lia);obtain ⟨R2,e2,q,e3,e4,e5,e6⟩:=cQ pa ev;rw[eR] at e2;cases e2;rw[e3] at ev;refine ⟨us.take Rs'.length,q,?_,e4,e5,e6⟩;rw[<- take_snoc ev,aN (by lia)]
  obtain ⟨ps,RR⟩:=hh R (by rw[List.getLast?_concat]) st (by rw[ao,bc,Nat.add_sub_cancel];lia);walk_at "w";refine b9 (bJ.of gu) (yQ _ _) ?_;exact k q R ps H1 zq s1 Gq RR
theorem xU:aZ ["grid","wide"] ["grid","wide"] (ax fP):=by walk_at "d"
theorem yk (T:Txt K mg Z):cC P w K mg base iq 1 Z.kL Z.kv ["grid","wide"] (FT K):=by
 refine T.oQ.ok xU (fun vs H Q E h=>?_) (fun cdv A outer s H vs Q E hr h=>?_)
 ·obtain ⟨p,w,H0,rows,rfl,hp,hz,hw,hl,kk⟩:=h;rfl
 ·obtain ⟨p,w,H0,rows,rfl,hp,hz,hw,hl,kk⟩:=h;refine ⟨_,(az (aP (cm ["place"] ["grid"] [0] (bZ rfl T.range (ae (pv 1) ai)) (fun _=>(aH (i:=0) (show List.Nodup (α:=PySem.Str) ["place","grid"] by decide +kernel) rfl (Or.inr rfl) (Or.inl rfl))) (fun _=>ck) (fun _=>(cm ["line"] ["place"] [0] (BR K (pv 1)) (fun _=>(aH (i:=0) (show List.Nodup (α:=PySem.Str) ["line","place"] by decide +kernel))) (fun _=>ck) (fun _=>(bf (fI K (by rfl)) (pv 0) (pv 1)))))))),?_⟩;refine aO (σ:=[some (.ref p),some (.int w)]) rfl ?_;walk_at "w";refine ⟨by lia,by lia,?_⟩;refine dm (n:=w) (cM K H) (fun j=>rows.map fun xs=>xs.getD j 0) hw (fun a b=>a.same b) ?_ ?_
  ·rintro j H1 NY NN hj s1 k1;obtain ⟨xs,gx,qx,_⟩:=hp.same s1;walk_at "w";refine ⟨⟨_,bJ.of gx⟩,?_⟩;refine d5 (K:=K) (F:=cM K H0) (cf K) (fun xs=>xs.getD j 0) gx qx hz (fun a b=>a.same b) (fun a b=>a.same b) ?_ ?_
   ·rintro i ns x H2 NY2 NN2 en s2 ⟨u,rfl,_,zs,gz,qz⟩ k2;obtain ⟨v,ev,hv⟩:=Ce qz (j:=j) (by rw[hl ns (ay en)];exact hj);walk_at "w";refine b9 (bJ.of gz) ev ?_;exact k2 _ _ (aF.refl _) hv
   ·rintro ys' H2 r hr s2 g pr nx;exact k1 _ _ s2 ⟨r,rfl,s1.none hr,ys',g,pr⟩
  ·rintro ys' H1 r hr s1 g pr nx;exact kk r H1 hr s1 ⟨ys',g,pr,lJ nx⟩
theorem vV:aZ ["self"] ["self"] (ax eI):=by walk_at "d"
theorem v5 (T:Txt K mg Z):cC P w K mg base iq 7 Z.iW Z.iS ["self"] (CL K Z.a_System):=by
 refine T.qZ.ok vV (fun vs H Q E h=>?_) (fun cdv A outer s H vs Q E hr h=>?_)
 ·obtain ⟨x,H0,mv,pt,lk,rfl,S,D,F,k⟩:=h;rfl
 ·obtain ⟨x,H0,mv,pt,lk,rfl,S,D,F,k⟩:=h;refine ⟨_,(az (aP (AG T.mk_System (jc T) (hr.mono (by decide)) rfl T.mg_System T.gB .nil zL (ae (cP (yk T) hr T.rQ T.oQ.kp T.t8 (ae (jI (pv 0) rfl) (ae (jI (pv 0) rfl) ai))) (ae (jI (pv 0) rfl) (ae (jI (pv 0) rfl) ai)))))),?_⟩;refine aO (σ:=[some (.ref x)]) rfl ?_;obtain ⟨dx,a,b,c,gx,n1,n2,n3,Ga,Gb,Gc⟩:=id S;have d1:=D.n8;walk_at "w";refine ⟨x,Z.a_System,dx,_,_,rfl,gx,T.cl_System,T.na_move,Bw,?_⟩;walk_at "w";refine ⟨x,Z.a_System,dx,_,_,rfl,gx,T.cl_System,T.na_states,pJ,?_⟩;walk_at "w";refine ⟨a,mv.length,H0,mv,rfl,Ga,by lia,by lia,D.mw,fun t H1 nt s1 Gt=>?_⟩;have gx1:=s1 _ _ gx;walk_at "w";refine ⟨x,Z.a_System,dx,_,_,rfl,gx1,T.cl_System,T.na_look,FP,?_⟩;walk_at "w";refine ⟨x,Z.a_System,dx,_,_,rfl,gx1,T.cl_System,T.na_put,DL,?_⟩;walk_at "w";intro x' dx' nx ndx nex;have F':=F.turn;exact ⟨x',dx',t,c,b,H1,H,H0,H0,_,_,_,rfl,nx,ndx,nex,rfl,Gt,Gc.same s1,Gb.same s1,D.turn,F'.ok.1,F'.ok.2.1,F'.ok.2.2,fun H' s' S'=>⟨rfl,k x' H' (s1.none nx) (s1.trans s') (S'.weak s1)⟩⟩
theorem BB:aZ ["many","at"] ["many","at"] (ax jY):=by walk_at "d"
theorem BU (T:Txt K mg Z):cC P w K mg base iq 1 Z.qi Z.pX ["many","at"] (FR K):=by
 refine T.uI.ok BB (fun vs H Q E h=>?_) (fun cdv A outer s H vs Q E hr h=>?_)
 ·obtain ⟨m,a',rfl,hm,k⟩:=h;rfl
 ·obtain ⟨m,a',rfl,hm,k⟩:=h;refine ⟨_,(az (aP (cm ["place"] ["at"] [1] (bZ rfl T.range (ae (pv 0) ai)) (fun _=>(aH (i:=0) (show List.Nodup (α:=PySem.Str) ["place","at"] by decide +kernel))) (fun _=>ck) (fun _=>(GG (bh dW (pv 0) (pv 1) (br _)) (pO (v:=.ref Z.a_ONE) rfl T.mg_ONE rfl) (pO (v:=.ref Z.a_NOUGHT) rfl T.mg_NOUGHT rfl)))))),?_⟩;refine aO (σ:=[some (.int m),some (.int a')]) rfl ?_;walk_at "w";refine ⟨by lia,by lia,?_⟩;refine dm (n:=m) (cf K) (fun i=>if ((i:Nat):Int)=a' then 1 else 0) hm (fun a b=>a.same b) ?_ ?_
  ·rintro i H' NY NN hi s k1;walk_at "w";refine gG (fun h0=>?_) (fun h0=>?_)
   ·walk_at "w";exact k1 _ _ (aF.refl _) (by rw[if_pos (of_decide_eq_true h0)];exact ⟨_,rfl,T.sq_ONE _⟩)
   ·walk_at "w";exact k1 _ _ (aF.refl _) (by rw[if_neg (fun z=>h0 (decide_eq_true z))];exact ⟨_,rfl,T.sq_NOUGHT _⟩)
  ·rintro ys H' l hl s g pr nx;exact k l _ hl s ⟨ys,g,pr⟩
theorem vT:aZ ["row"] ["row"] (ax eG):=by walk_at "d"
theorem v3 (T:Txt K mg Z):cC P w K mg base iq 1 Z.iU Z.iP ["row"] (FY K):=by
 refine T.lI.ok vT (fun vs H Q E h=>?_) (fun cdv A outer s H vs Q E hr h=>?_)
 ·obtain ⟨p,xs,j,rfl,R,x1000,hj,hne,hz,k⟩:=h;rfl
 ·obtain ⟨p,xs,j,rfl,R,x1000,hj,hne,hz,k⟩:=h;refine ⟨_,(az (aP (bH (Fs rfl) (by rfl) T.min PyProof.Rows.boot_min (ae (cm ["place","value"] [] [] (DV rfl T.enumerate (ae (pv 0) ai)) (fun _=>(uR K 2 (cy (aH (i:=0) (show List.Nodup (α:=PySem.Str) ["place","value"] by decide +kernel)) (cy (aH (i:=1) (show List.Nodup (α:=PySem.Str) ["place","value"] by decide +kernel)) jH)))) (fun _=>C8 (bh (DX K (by rfl) (Cf hr)) (pv 1) (pO (v:=.ref Z.a_NOUGHT) rfl T.mg_NOUGHT rfl) (br _))) (fun _=>(pv 0))) ai)))),?_⟩;refine aO (σ:=[some (.ref p)]) rfl ?_;obtain ⟨zs,gz,qz⟩:=id R;have lz:=qz.length;walk_at "w";refine ⟨⟨_,bJ.of gz⟩,?_⟩;refine Fp (K:=K) (xs:=zs) (fun i ys H'=>aF H H'/\ys=dP (yq xs i)) (bC (bT (by lia))) ⟨aF.refl _,rfl⟩ (fun i ys H' _ ⟨s,_⟩=>bJ.of (s _ _ gz)) ?_ ?_
  ·rintro i v ys H' r hx hlen ⟨s',rfl⟩ hr;obtain ⟨y,ey,ny⟩:=cQ qz hx;have ey':xs.getD i 0=y:=by rw[aa,ey];rfl
   have sr:aF H' (upd H' r (.tup [.int i,v])):=aF.new hr;have gr:(upd H' r (.tup [.int i,v])) r=some (.tup [.int i,v]):=aG;generalize upd H' r (.tup [.int i,v])=H2 at sr gr ⊢;walk_at "w";refine ⟨_,_,Ea,y,0,by decide,(ny.same s').same sr,⟨_,rfl,T.sq_NOUGHT _⟩,?_⟩;by_cases e:y=0
   ·rw[decide_eq_true e];walk_at "w";refine ⟨s'.trans sr,?_⟩;rw[xA,ey',if_neg (by simpa using e)]
   ·rw[decide_eq_false e];walk_at "w";refine ⟨s'.trans sr,?_⟩;rw[xA,ey',if_pos e];unfold dP;rw[cH];rfl
  ·rintro ys H1 hy ⟨s1,rfl⟩ l hl;have sn:aF H1 (upd H1 l (.lst (dP (yq xs zs.length)))):=aF.new hl;have gn:(upd H1 l (.lst (dP (yq xs zs.length)))) l=some (.lst (dP (yq xs zs.length))):=aG;generalize upd H1 l (.lst (dP (yq xs zs.length)))=H2 at sn gn ⊢
   have mj:j∈yq xs zs.length:=by
    unfold yq;exact mO.mpr ⟨oE.mpr (by lia),by simpa using hne⟩
   walk_at "w";refine ⟨l,Ec (yq xs zs.length),rfl,bJ.of (by rw[<- Fb];exact gn),?_,fun M hM hle=>?_⟩
   ·unfold Ec;rw[aj];exact List.length_pos_of_mem mj
   ·obtain ⟨c,hc,rfl⟩:=aA.mp hM;have h1:=hle j (aA.mpr ⟨j,mj,rfl⟩);have h2:=(mO.mp hc).2
    have e:c=j:=by
     rcases eL c j with z | z | z
     ·exact absurd (hz c z) (of_decide_eq_true h2)
     ·exact z
     ·lia
    rw[e];exact k _ (s1.trans sn)
theorem CY:aZ ["rows"] ["rows"] (ax mV):=by walk_at "d"
theorem yj (T:Txt K mg Z):cC P w K mg base iq 2 Z.tu Z.sS ["rows"] (FZ K):=by
 refine T.tD.ok CY (fun vs H Q E h=>?_) (fun cdv A outer s H vs Q E hr h=>?_)
 ·obtain ⟨p,n,H0,R,ps,rfl,G,r100,n100,⟨rows,RR⟩,k⟩:=h;rfl
 ·obtain ⟨p,n,H0,R,ps,rfl,G,r100,n100,⟨rows,RR⟩,k⟩:=h;refine ⟨_,(az (aP (cm ["row"] [] [] (cn (pv 0)) (fun _=>(aH (i:=0) (show List.Nodup (α:=PySem.Str) ["row"] by decide +kernel))) (fun _=>ck) (fun _=>(cP (v3 T) hr T.o7 T.lI.kp T.qU (ae (pv 0) ai)))))),?_⟩;refine aO (σ:=[some (.ref p)]) rfl ?_;obtain ⟨lR,wR,rr⟩:=id RR;obtain ⟨xs,gx,qx,_⟩:=id G;have lx:=qx.length;walk_at "w";refine ⟨⟨_,bJ.of gx⟩,?_⟩;refine d6 (K:=K) (xs:=xs) (fun i ys H'=>aF H H'/\ys=dP (ps.take i)) (bC (bT (by lia))) ⟨aF.refl _,rfl⟩ (fun i ys H' _ ⟨s,_⟩=>bJ.of (s _ _ gx)) ?_ ?_
  ·rintro i v ys H' hx hlen ⟨s',rfl⟩;obtain ⟨row,er,q,rfl,_,Rr⟩:=cQ qx hx;have wr:=wR row (ay er);have hi:i < ps.length:=by have:=(aE.mp er).1;lia
   have ef:∀c,b8 R i c=row.getD c 0:=fun c=>by unfold b8;rw[aa (l:=R),er];rfl
   have ep:ps[i]?=some (ps.getD i 0):=by rw[aa,ag hi];rfl
   have lowp:=rr.low i hi;have u:=rr.unit i hi i hi;rw[if_pos rfl,ef] at u;walk_at "w";refine ⟨q,row,ps.getD i 0,rfl,Rr.same s',by lia,by lia,by rw[u];decide,fun c hc=>by rw[<- ef];exact rr.lead i hi c hc,fun H2 s2=>?_⟩;refine ⟨s'.trans s2,?_⟩;unfold dP;rw[take_snoc ep,cH];rfl
  ·rintro ys H1 hy ⟨s1,rfl⟩ r hr;refine k r _ (s1.none hr) (s1.trans (aF.new hr)) ?_;rw[aG,aN (by lia)]
theorem Gg:aZ ["one","other"] ["one","other"] (ax sN):=by walk_at "d"
theorem GN (T:Txt K mg Z):cC P w K mg base iq 3 Z.xM Z.xH ["one","other"] (rD K (fun x y=>x - y)):=by
 refine T.Bm.ok Gg (fun vs H Q E h=>?_) (fun cdv A outer s H vs Q E hr h=>?_)
 ·obtain ⟨p,q,a,b,c,d,rfl,hp,hq,hb,hd,sa,sb,sc,sd,k⟩:=xu h;rfl
 ·obtain ⟨p,q,a,b,c,d,rfl,hp,hq,hb,hd,sa,sb,sc,sd,k⟩:=xu h;refine ⟨_,(az (aP (cP (vZ T) hr T.sO T.sv.kp T.vz (ae (bK ng (bK cI (bf cb (pv 0) ak) (bf cb (pv 1) ak)) (bK cI (bf cb (pv 1) ak) (bf cb (pv 0) ak))) (ae (bK cI (bf cb (pv 0) ak) (bf cb (pv 1) ak)) ai))))),?_⟩;refine aO (σ:=[some (.ref p),some (.ref q)]) rfl ?_;have hbd:0 < b*d:=iO hb hd;have sbd:Sz 8999 (b*d):=(sb.mul sd).mono (by decide);walk_at "w";refine fj (show fq _ _ from .inr ⟨_,_,sa,sd,by decide⟩) ?_;walk_at "w";refine fj (show fq _ _ from .inr ⟨_,_,sc,sb,by decide⟩) ?_;walk_at "w";refine fj (show fq _ _ from .inr ⟨_,_,sb,sd,by decide⟩) ?_;walk_at "w";walk_at "w";refine ⟨_,_,rfl,by lia,sbd,fun r H' s' h'=>?_⟩;rw[if_neg (by lia),if_neg (by lia)] at h';exact k r H' s' h'
theorem pM:aZ ["rows","wide","at","answer","lead","row"] ["rows","wide","at"] (ax mU):=by walk_at "d"
theorem Dh (T:Txt K mg Z):cC P w K mg base iq 4 Z.tj Z.sR ["rows","wide","at"] (EL K):=by
 refine T.wo.ok pM (fun vs H Q E h=>?_) (fun cdv A outer s H vs Q E hr h=>?_)
 ·obtain ⟨p,n,a,H0,R,ps,rfl,G,r100,n100,⟨rows,RR⟩,ha,hp,hz,k⟩:=h;rfl
 ·obtain ⟨p,n,a,H0,R,ps,rfl,G,r100,n100,⟨rows,RR⟩,ha,hp,hz,k⟩:=h
  refine ⟨_,(av (bD (i:=3) pM.nd rfl (Or.inl rfl) (cP (BU T) hr T.wL T.uI.kp T.yO (ae (pv 1) (ae (pv 2) ai))))
   (av (eB PassesOwn.never rfl (AE rfl T.zip (ae (cP (yj T) hr T.uB T.tD.kp T.we (ae (pv 0) ai)) (ae (pv 0) ai))) (ux rfl (cy (aH (i:=4) pM.nd) (cy (aH (i:=5) pM.nd) jH)))
    (az (ff (cP (GN T) hr T.Ca T.Bm.kp T.Ep (ae (pO (v:=.ref Z.a_NOUGHT) rfl T.mg_NOUGHT rfl) (ae (bf bO (pv 5) (pv 2)) ai))) (iC (pv 3) (pv 4) set_list))))
   (az (aP (pv 3))))),?_⟩
  refine aO (σ:=[some (.ref p),some (.int n),some (.int a),none,none,none]) rfl ?_;obtain ⟨lR,wR,rr⟩:=id RR;walk_at "w";refine ⟨n,a,rfl,by lia,fun an H1 na s1 R1=>?_⟩;rw[<- xB (R:=R) (ps:=ps)] at R1;obtain ⟨vs0,g0,q0⟩:=id R1;walk_at "w";refine ⟨p,n,H0,R,ps,rfl,G.same s1,r100,n100,⟨rows,RR⟩,fun le H2 nl s2 g2=>?_⟩;have anl:le≠an:=fun z=>by rw[z,g0] at nl;cases nl
  obtain ⟨rs,grs,qrs,_⟩:=id G;have lrs:=qrs.length;have lps:=yt (ps:=ps);walk_at "w";refine ⟨⟨_,bJ.of g2⟩,⟨_,bJ.of ((s1.trans s2) _ _ grs)⟩,?_⟩;refine Jv (K:=K) (xs:=dP ps) (ws:=rs) (fun j σ' H'=>aF H H'/\H' le=some (.lst (dP ps))/\∃y1 y2 vs,σ'=[some (.ref p),some (.int n),some (.int a),some (.ref an),y1,y2]/\H' an=some (.lst vs)/\Paired (cf K H') (DY R ps n a j) vs) (by lia) ⟨s1.trans s2,g2,_,_,vs0,rfl,s2 _ _ g0,Paired.imp' (fun _ _ z=>cf.same z s2) q0⟩ (fun j σ' H' _ ⟨e,e2,_⟩=>⟨bJ.of e2,bJ.of (e _ _ grs)⟩) ?_ ?_
  ·rintro j v1 v2 σ' H' r h1 h2 ⟨s',gl,y1,y2,vs,rfl,ga,qa⟩ hr;obtain ⟨row,er,q,rfl,_,Rr⟩:=cQ qrs h2;have mr:=ay er;have wr:=wR row mr;obtain ⟨pj,ej,rfl⟩:=DZ h1;have hj:j < ps.length:=(aE.mp ej).1;have ejD:ps.getD j 0=pj:=by rw[aa,ej];rfl
   have pjn:pj < n:=by have:=rr.low j hj;rw[ejD] at this;exact this
   have fr:b8 R j a=row.getD a 0:=by unfold b8;rw[aa (l:=R),er];rfl
   have sr:aF H' (upd H' r (.tup [.int pj,.ref q])):=aF.new hr;have gr:(upd H' r (.tup [.int pj,.ref q])) r=some (.tup [.int pj,.ref q]):=aG;generalize upd H' r (.tup [.int pj,.ref q])=H3 at sr gr ⊢;have s03:=s'.trans sr;obtain ⟨us,gu,qu⟩:=Rr.same s03;obtain ⟨vx,ex,nx⟩:=Ce qu (j:=a) (by lia);walk_at "w";refine b9 (bJ.of gu) ex ?_;walk_at "w";refine ⟨_,_,0,row.getD a 0,rfl,⟨_,rfl,T.sq_NOUGHT _⟩,nx,FN,hz row mr _ (getD_in (by lia)),fun r4 H4 s4 n4=>?_⟩;have ga4:=(sr.trans s4) _ _ ga;have gl4:=(sr.trans s4) _ _ gl;have la:=qa.length;rw[pS] at la;walk_at "w";refine eV ga4 (fD (by lia)) rfl ?_;refine ⟨(s03.trans s4).after na,by rw[be anl];exact gl4,_,_,_,rfl,aG,?_⟩;rw[<- Js RR hj hp,ejD,fr,show -(row.getD a 0)=0 - row.getD a 0 by grind];exact m8 (Paired.imp' (fun _ _ z=>(cf.same z (sr.trans s4)).updL ga4) qa) pj (n4.updL ga4)
  ·rintro σ' H' ⟨s',gl,y1,y2,vs,rfl,ga,qa⟩;rw[lps] at qa;walk_at "w";exact k an H' na s' ⟨vs,ga,qa⟩
theorem rF:aZ ["rows","wide","leads"] ["rows","wide"] (ax fQ):=by walk_at "d"
theorem ym (T:Txt K mg Z):cC P w K mg base iq 3 Z.kM Z.kx ["rows","wide"] (Ge K):=by
 refine T.oR.ok rF (fun vs H Q E h=>?_) (fun cdv A outer s H vs Q E hr h=>?_)
 ·obtain ⟨p,n,H0,R,ps,rfl,G,r100,n100,RR,k⟩:=h;rfl
 ·obtain ⟨p,n,H0,R,ps,rfl,G,r100,n100,RR,k⟩:=h
  refine ⟨_,(av (bD (i:=2) rF.nd rfl (Or.inr rfl) (cP (yj T) hr T.uB T.tD.kp T.we (ae (pv 0) ai)))
   (az (aP (cm ["place"] ["leads"] [2] (bZ rfl T.range (ae (pv 1) ai)) (fun _=>(aH (i:=0) (show List.Nodup (α:=PySem.Str) ["place","leads"] by decide +kernel))) (fun _=>C8 (bh (ze K (by rfl)) (pv 0) (pv 1) (by with_unfolding_all rfl))) (fun _=>(pv 0)))))),?_⟩
  refine aO (σ:=[some (.ref p),some (.int n),none]) rfl ?_;walk_at "w";refine ⟨p,n,H0,R,ps,rfl,G,r100,n100,RR,fun l H1 nl s1 g1=>?_⟩;walk_at "w";refine ⟨by lia,by lia,?_⟩;refine ke (n:=n) (fun i ys H'=>aF H1 H'/\ys=dP (wO ps i)) (bC (bT (by lia))) ⟨aF.refl _,rfl⟩ ?_ ?_
  ·rintro i ys H' hi hlen ⟨s',rfl⟩;rw[tI];walk_at "w";refine ⟨l,dP ps,rfl,.inl (bJ.of (s' _ _ g1)),rfl,Fc,?_⟩;rw[Hs];by_cases e:i∈ps
   ·rw[decide_eq_true e];walk_at "w";refine ⟨s',?_⟩;rw[yH,if_neg (by simpa using e)]
   ·rw[decide_eq_false e,show (if true=true then !false else false)=true from rfl];walk_at "w";refine ⟨s',?_⟩;rw[yH,if_pos e];unfold dP;rw[cH];rfl
  ·rintro ys H2 hy ⟨s2,rfl⟩ r hr;exact k r _ (s1.none (s2.none hr)) ((s1.trans s2).trans (aF.new hr)) aG
theorem BC:aZ ["rows","wide","basis"] ["rows","wide"] (ax sL):=by walk_at "d"
theorem GK (T:Txt K mg Z):cC P w K mg base iq 6 Z.xK Z.xG ["rows","wide"] (EK K):=by
 refine T.Bl.ok BC (fun vs H Q E h=>?_) (fun cdv A outer s H vs Q E hr h=>?_)
 ·obtain ⟨p,n,w,H0,rows,R,ps,rfl,G,r100,n100,RR,F,szR,k⟩:=h;rfl
 ·obtain ⟨p,n,w,H0,rows,R,ps,rfl,G,r100,n100,RR,F,szR,k⟩:=h
  refine ⟨_,(av (bD (i:=2) BC.nd rfl (Or.inr rfl) (cP (uz T) hr T.pT T.pF.kp T.sX (ae (pv 0) (ae (pv 1) ai))))
   (az (aP (cm ["at"] ["basis","wide"] [2,1] (cn (cP (ym T) hr T.rR T.oR.kp T.t9 (ae (pv 2) (ae (pv 1) ai)))) (fun _=>(aH (i:=0) (show List.Nodup (α:=PySem.Str) ["at","basis","wide"] by decide +kernel))) (fun _=>ck) (fun _=>(cP (Dh T) hr T.yv T.wo.kp T.Ab (ae (pv 1) (ae (pv 2) (ae (pv 0) ai))))))))),?_⟩
  refine aO (σ:=[some (.ref p),some (.int n),none]) rfl ?_;walk_at "w";refine ⟨p,n,w,H0,R,rfl,G,r100,n100,RR.2.1,F,fun ba R2 ps2 M H1 nb s1 G1 RR2 pm M0 M1 tM=>?_⟩;obtain ⟨rfl,rfl⟩:=RR2.same (xv RR);have pn:=RR.le;have lR:=RR.1;have fl:=Ly (ps:=ps2) (i:=n);walk_at "w";refine ⟨ba,n,H,R2,ps2,rfl,G1,by lia,by lia,⟨rows,RR⟩,fun fr H2 nf s2 g2=>?_⟩;walk_at "w";refine ⟨⟨_,bJ.of g2⟩,?_⟩;refine d6 (K:=K) (xs:=dP (wO ps2 n)) (fun i ys H'=>aF H2 H'/\Paired (cM K H H') ((wO ps2 n).take i |>.map (Fx R2 ps2 n)) ys) (bC (bT (by rw[yt];lia))) ⟨aF.refl _,.nil⟩ (fun i ys H' _ ⟨s,_⟩=>bJ.of (s _ _ g2)) ?_ ?_
  ·rintro i v ys H' hx hlen ⟨s',pr⟩;obtain ⟨a,ea,rfl⟩:=DZ hx;obtain ⟨an,ap⟩:=A3.mp (ay ea);have s02:=(s1.trans s2).trans s';walk_at "w";refine ⟨ba,n,a,H,R2,ps2,rfl,(G1.same s2).same s',by lia,by lia,⟨rows,RR⟩,an,ap,szR,fun r H3 nr s3 R3=>?_⟩;refine ⟨s'.trans s3,?_⟩;rw[take_snoc ea,cH];exact cU (Paired.imp' (fun _ _ z=>cM.same z s3) pr) (.cons ⟨r,rfl,s02.none nr,R3⟩ .nil)
  ·rintro ys H3 hy ⟨s3,pr⟩ r hr;rw[aN (by rw[yt];exact ar _)] at pr;have sn:aF H3 (upd H3 r (.lst ys)):=aF.new hr;have s03:=(s1.trans s2).trans s3;exact k r _ (s03.none hr) (s03.trans sn) ⟨ys,aG,Paired.imp' (fun _ _ z=>cM.same z sn) pr,lJ (H0:=H) (rows:=cA R2 ps2 n) ⟨H3,hr,pr⟩⟩
theorem rE:aZ ["system","steps","told"] ["system","steps"] (ax fN):=by walk_at "d"
theorem nh (T:Txt K mg Z):cC P w K mg base iq 9 Z.kJ Z.ks ["system","steps"] (CJ K Z.a_System):=by
 refine T.iK.ok rE (fun vs H Q E h=>?_) (fun cdv A outer s H vs Q E hr h=>?_)
 ·obtain ⟨x,tt,e,H0,mv,pt,lk,rfl,hT,S,D,F,UF,k⟩:=h;rfl
 ·obtain ⟨x,tt,e,H0,mv,pt,lk,rfl,hT,S,D,F,UF,k⟩:=h
  refine ⟨_,(av (bD (i:=2) rE.nd rfl (Or.inl rfl) (cP (zg T) hr T.tR T.qF.kp T.vv (ae (GD (pv 0) T.cl_System T.o8 (v5 T) (hr.mono (by decide)) T.qV .nil zL) (ae (pv 1) ai))))
   (az (aP (cP (uz T) hr T.pT T.pF.kp T.sX (ae (cP (GK T) hr T.BZ T.Bl.kp T.Eo (ae (pv 2) (ae (jI (pv 0) rfl) ai))) (ae (jI (pv 0) rfl) ai)))))),?_⟩
  refine aO (σ:=[some (.ref x),some (.int tt),none]) rfl ?_;have d8:=D.n8;have et:(cG mv mv.length).length=mv.length:=fL;obtain ⟨a,c,KF,_,_⟩:=UF.kf;obtain ⟨dx,a',b',c',gx,_⟩:=id S;walk_at "w";refine ⟨x,dx,_,rfl,gx,CI,?_⟩;walk_at "w";refine ⟨x,H0,mv,pt,lk,rfl,S,D,F.sf,fun y H1 ny s1 S1=>?_⟩;walk_at "w";refine ⟨y,a,c,tt,H,_,lk,pt,rfl,by lia,S1,D.turn,KF,fun q R ps H2 nq s2 G2 RR=>?_⟩;have s02:=s1.trans s2;obtain ⟨⟨w1,sw⟩,szR,w2,swn,bn,q1,q10,tn⟩:=UF.sw RR;have e1:=UF.e1;rw[et] at RR sw swn bn tn;have le:=RR.le;have lR:=RR.1;have cnt:=v8 RR;walk_at "w";refine ⟨x,Z.a_System,dx,_,_,rfl,s02 _ _ gx,T.cl_System,T.na_states,pJ,?_⟩;walk_at "w";refine ⟨q,mv.length,w1,H1,_,R,ps,rfl,G2,by lia,by lia,RR,sw,szR,fun r3 H3 n3 s3 G3=>?_⟩;have s03:=s02.trans s3;walk_at "w";refine ⟨x,Z.a_System,dx,_,_,rfl,s03 _ _ gx,T.cl_System,T.na_states,pJ,?_⟩;walk_at "w";refine ⟨r3,mv.length,w2,H2,_,rfl,G3,by lia,by lia,AQ,swn,fun r4 Hd psd M4 H4 n4 s4 G4 RN _ M0 M1 tp=>?_⟩;have up:=au (show 0 < 2 by decide) bn;exact k r4 Hd H4 (s03.none n4) (s03.trans s4) (G4.weakN fun q h=>s03.none h) ⟨R,ps,psd,M4,RR,RN,Dl RR bG q10 tn RN,M0,ah M1 up,fun xs hx x hx'=>(tp xs hx x hx').mono up⟩
theorem fM:aZ ["_law_n","_law_move_here","_law_system_here","_law_steps_here","_law_due"] [] (ax gV):=by walk_at "d"
theorem zu (T:Txt K mg Z):cC P w K mg base iq 10 Z.mD Z.lX [] CO:=by
 refine T.qM.ok fM (fun vs H Q E h=>?_) (fun cdv A outer s H vs Q E hr h=>?_)
 ·obtain ⟨rfl,k⟩:=h;rfl
 ·obtain ⟨rfl,k⟩:=h
  refine ⟨_,(av (bD (i:=0) fM.nd rfl (Or.inr rfl) ak)
   (av (h7 1 ["_law_i"] ["_law_n"] [0] fM.nd rfl rfl (bZ rfl T.range (ae (pv 0) ai)) (fun _=>(aH (i:=0) (show List.Nodup (α:=PySem.Str) ["_law_i","_law_n"] by decide +kernel) rfl (Or.inr rfl) (Or.inl rfl))) (fun _=>ck) (fun _=>(cm ["_law_j"] ["_law_i"] [0] (bZ rfl T.range (ae (pv 1) ai)) (fun _=>(aH (i:=0) (show List.Nodup (α:=PySem.Str) ["_law_j","_law_i"] by decide +kernel))) (fun _=>ck) (fun _=>(de (ae (dI ie (by rfl) T.int PyProof.Rows.boot_int (ae (fA dW (pv 0) (bK fB (pv 1) ak) (br _)) ai)) (ae ak ai)))))))
   (av (bD (i:=2) fM.nd rfl (Or.inl rfl) (AG T.mk_System (jc T) (hr.mono (by decide)) rfl T.mg_System T.gB .nil zL (ae (pv 1) (ae (eF ai) (ae (eF (ae (cm ["_law_j"] [] [] (bZ rfl T.range (ae (pv 0) ai)) (fun _=>(aH (i:=0) (show List.Nodup (α:=PySem.Str) ["_law_j"] by decide +kernel))) (fun _=>ck) (fun _=>(de (ae (dI ie (by rfl) T.int PyProof.Rows.boot_int (ae (fA dW (pv 0) ak (br _)) ai)) (ae ak ai))))) ai)) ai)))))
   (av (eB PassesOwn.never rfl (cn (eF (ae ak (ae ak (ae ak (ae ak ai)))))) (aH (i:=3) fM.nd)
    (av (h7 4 ["_law_at"] ["_law_n"] [0] fM.nd rfl rfl (zK rfl T.range (ae (pv 3) (ae (pv 0) ai))) (fun _=>(aH (i:=0) (show List.Nodup (α:=PySem.Str) ["_law_at","_law_n"] by decide +kernel) rfl (Or.inr rfl) (Or.inl rfl))) (fun _=>ck) (fun _=>(cm ["_law_j"] ["_law_at"] [0] (bZ rfl T.range (ae (pv 1) ai)) (fun _=>(aH (i:=0) (show List.Nodup (α:=PySem.Str) ["_law_j","_law_at"] by decide +kernel))) (fun _=>ck) (fun _=>(de (ae (dI ie (by rfl) T.int PyProof.Rows.boot_int (ae (fA dW (pv 0) (pv 1) (br _)) ai)) (ae ak ai)))))))
   (az (cK (bh (AI (Cf hr)) (cP (nh T) hr T.jL T.iK.kp T.kG (ae (pv 2) (ae (pv 3) ai))) (pv 4) (br _)) (az (aP m7)) bS))))
   (az (aP m7)))))),?_⟩
  refine aO (σ:=[none,none,none,none,none]) rfl ?_;walk_at "w";refine ⟨by decide,by decide,?_⟩;refine dm (n:=8) (cM K H) (fun (i:Nat)=>(List.range 8).map fun (j:Nat)=>(((if decide ((j:Int)=(i:Int)+1)=true then 1 else 0:Int)):Rat)) (by decide) (fun a b=>a.same b) ?_ ?_
  ·rintro i Hb NY NN hi sa k1;walk_at "w";refine ⟨by decide,by decide,?_⟩;refine dm (n:=8) (cf K) (fun (j:Nat)=>(((if decide ((j:Int)=(i:Int)+1)=true then 1 else 0:Int)):Rat)) (by decide) (fun a b=>a.same b) ?_ ?_
   ·rintro j Hz NY2 NN2 hj sz k2;walk_at "w";refine cu fun t Hy sy gy=>?_
    exact k2 _ _ sy (cf.mk gy rfl)
   ·rintro ys Hz t ht sz g pr nx;exact k1 _ _ sz ⟨t,rfl,sa.none ht,ys,g,pr⟩
  rintro ys H1 mm hm s1 g1 pr1 nx1;rw[KH] at pr1 nx1;have Gm:bF K H H1 mm BH:=⟨ys,g1,pr1,lJ nx1⟩;clear g1 pr1 nx1;walk_at "w";refine dj fun pp H2 s2 n2 g2=>?_
  have Gp:bF K H1 H2 pp []:=⟨_,g2,.nil,fun z=>nomatch z⟩;walk_at "w";refine ⟨by decide,by decide,?_⟩;refine dm (n:=8) (cf K) (fun (j:Nat)=>(((if decide ((j:Int)=0)=true then 1 else 0:Int)):Rat)) (by decide) (fun a b=>a.same b) ?_ ?_
  ·rintro j Hz NY2 NN2 hj sz k2;walk_at "w";refine cu fun t Hy sy gy=>?_
   exact k2 _ _ sy (cf.mk gy rfl)
  rintro ys3 H3 q3 hq3 s3 g3 pr3 _;rw[show ((List.range 8).map fun (j:Nat)=>(((if decide ((j:Int)=0)=true then 1 else 0:Int)):Rat))=uk 0 from CF (a:=0)] at pr3;walk_at "w";refine dj fun ll H4 s4 n4 g4=>?_
  have Gl:bF K H2 H4 ll [uk 0]:=⟨_,g4,.cons ⟨q3,rfl,hq3,ys3,s4 _ _ g3,Paired.imp' (fun _ _ z=>z.same s4) pr3⟩ .nil,fun z=>by
   rw[cE] at z;cases z;rw[g3] at n4;cases n4⟩
  have s24:=s3.trans s4;obtain ⟨e,UF⟩:=Mj;walk_at "w";intro z dz nz ndz nez;refine ⟨z,dz,mm,pp,ll,H4,H,H1,H2,BH,[],[uk 0],rfl,nz,ndz,nez,rfl,(Gm.same s2).same s24,Gp.same s24,Gl,C1,DR.sf.ok.1,DR.sf.ok.2.1,DR.sf.ok.2.2,fun H5 s5 S5=>⟨rfl,?_⟩⟩;have s05:=((s1.trans s2).trans s24).trans s5;walk_at "w";refine dj fun ts H6 s6 n6 g6=>?_
  have s06:=s05.trans s6;walk_at "w";refine ⟨⟨_,bJ.of g6⟩,?_⟩;refine fJ (K:=K) (a:=ts) (xs:=[V.int 0,V.int 5,V.int 8,V.int 12]) (fun i σ' H'=>aF H6 H'/\∃y1 y2,σ'=[some (.int 8),some (.ref mm),some (.ref z),y1,y2]) ⟨aF.refl _,_,_,rfl⟩ (fun i σ' H' _ ⟨s,_⟩=>bJ.of (s _ _ g6)) ?_ ?_
  ·rintro i v σ' H7 hv ⟨s7,y1,y2,rfl⟩
   obtain ⟨tt,rfl,hT⟩:∃tt:Nat,v=.int tt/\(tt=0\/tt=5\/tt=8\/tt=12):=by
    have mv:=ay hv;simp only[aB,aL,or_false] at mv;rcases mv with rfl | rfl | rfl | rfl
    ·exact ⟨0,rfl,.inl rfl⟩
    ·exact ⟨5,rfl,.inr (.inl rfl)⟩
    ·exact ⟨8,rfl,.inr (.inr (.inl rfl))⟩
    ·exact ⟨12,rfl,.inr (.inr (.inr rfl))⟩
   walk_at "w";refine ⟨⟨by lia,by lia,by decide,by decide⟩,?_⟩;rw[show (8 - (tt:Int)).toNat=8 - tt by lia];refine ke (lo:=(tt:Int)) (n:=8 - tt) (fun i ys H'=>aF H7 H'/\Paired (cM K H7 H') ((List.range i).map fun i=>uk (tt+i)) ys) (bC (bT (by lia))) ⟨aF.refl _,.nil⟩ ?_ ?_
   ·rintro i ys H8 hi hlen ⟨s8,pr⟩;walk_at "w";refine ⟨by decide,by decide,?_⟩;refine dm (n:=8) (cf K) (fun (j:Nat)=>(((if decide ((j:Int)=(tt:Int)+(i:Int))=true then 1 else 0:Int)):Rat)) (by decide) (fun a b=>a.same b) ?_ ?_
    ·rintro j Hz NY2 NN2 hj sz k2;walk_at "w";refine cu fun t Hy sy gy=>?_
     exact k2 _ _ sy (cf.mk gy rfl)
    ·rintro ys9 H9 q9 hq9 s9 g9 pr9 _;rw[show ((List.range 8).map fun (j:Nat)=>(((if decide ((j:Int)=(tt:Int)+(i:Int))=true then 1 else 0:Int)):Rat))=uk (tt+i) from CF (a:=tt+i)] at pr9;refine ⟨s8.trans s9,?_⟩;rw[mN,cH];exact cU (Paired.imp' (fun _ _ z=>cM.same z s9) pr) (.cons ⟨q9,rfl,s8.none hq9,ys9,g9,pr9⟩ .nil)
   rintro ys H8 hy ⟨s8,pr⟩ du hdu;have sn:aF H8 (upd H8 du (.lst ys)):=aF.new hdu;have Gd:bF K H7 (upd H8 du (.lst ys)) du (Gh tt):=⟨ys,aG,Paired.imp' (fun _ _ z=>cM.same z sn) pr,lJ (H0:=H7) (rows:=Gh tt) ⟨H8,hdu,pr⟩⟩;generalize upd H8 du (.lst ys)=H9 at sn Gd ⊢;have s79:=s8.trans sn;walk_at "w";refine ⟨z,tt,e,H4,BH,[],[uk 0],rfl,by lia,((S5.same s6).same s7).same s79,C1,DR,UF,fun r Hd H10 nr s10 G10 U=>?_⟩;walk_at "w";refine ⟨_,_,AX,Hd,Gh tt,by decide,G10.kind,(Gd.same s10).kind,?_⟩;rw[decide_eq_true (KE hT U)];walk_at "w";exact ⟨(s7.trans s79).trans s10,_,_,rfl⟩
  ·rintro σ' H7 ⟨s7,y1,y2,rfl⟩;walk_at "w";exact k _ (s06.trans s7)
theorem nJ:aZ ["_law_top","_law_bottom","_law_one","_law_other"] ["_law_top","_law_bottom"] (ax j7):=by walk_at "d"
theorem fo (T:Txt K mg Z):cC P w K mg base iq 1 Z.qv Z.p4 ["_law_top","_law_bottom"] Ky:=by
 refine T.eT.ok nJ (fun vs H Q E h=>?_) (fun cdv A outer s H vs Q E hr h=>?_)
 ·obtain ⟨t,b,rfl,hb,hs,k⟩:=h;rfl
 ·obtain ⟨t,b,rfl,hb,hs,k⟩:=h
  refine ⟨_,(av (bD (i:=2) nJ.nd rfl (Or.inl rfl) (bH yM (by rfl) T.abs PyProof.Rows.boot_abs (ae (pv 0) ai)))
   (av (bD (i:=3) nJ.nd rfl (Or.inl rfl) (pv 1))
   (av (xZ PassesOwn.never (bh wG (pv 2) ak (br _))
    (az (GA (i:=2) (j:=3) rfl nJ.nd rfl rfl (by decide) rfl rfl (ae (bK oI (pv 3) (pv 2)) (ae (pv 2) ai)) rfl)))
   (az (aP (de (ae (bK jJ (pv 0) (pv 3)) (ae (bK jJ (pv 1) (pv 3)) ai)))))))),?_⟩
  refine aO (σ:=[some (.int t),some (.int b),none,none]) rfl ?_;walk_at "w"
  refine An (fun σ' H'=>∃(u v:Int),σ'=[some (.int t),some (.int b),some (.int u),some (.int v)]/\H'=H/\0<=u/\0 < v/\Int.gcd u v=Int.gcd t b) (fun σ' _=>match σ' with | [_,_,some (.int u),_]=>u.natAbs | _=>0) ⟨_,b,rfl,rfl,by split <;> lia,hb,by
   split
   ·rw[Int.neg_gcd]
   ·rfl⟩ ?_
  rintro σ' H' ⟨u,v,rfl,rfl,hu,hv,hg⟩;walk_at "w";refine gG (fun h=>?_) (fun h=>?_)
  ·have hu0:u≠0:=fun z=>by subst z;simp at h
   walk_at "w";refine fj (show (0:Int) < u by lia) ?_;walk_at "w";have h1:=mP v hu0;have h2:=iZ v (show 0 < u by lia);exact ⟨⟨v % u,u,rfl,rfl,h1,by lia,by rw[kX,HE,kX];exact hg⟩,by show (v % u).natAbs < u.natAbs;lia⟩
  ·have hu0:u=0:=by
    by_cases z:u=0
    ·exact z
    ·exfalso;apply h;simp [z]
   subst hu0
   have e:v=g t b:=by
    unfold g;rw[<- hg,Int.gcd_zero_left]
    lia
   have hgs:Sz 8999 v:=hs.le (by
    rw[e];have h1:(g t b).natAbs=Int.gcd t b:=by unfold g;simp
    rw[h1];exact jz (by lia) (by have:=eN (a:=t) (b:=b);exact dX.mpr this |> fun z=>by simpa using z))
   walk_at "w";refine fj (show rd _ _ from ⟨by lia,hgs⟩) ?_;walk_at "w";refine fj (show rd _ _ from ⟨by lia,hgs⟩) ?_;walk_at "w";refine cu fun r H' s' h'=>?_
   rw[cp _ (by lia),cp _ (by lia),e] at h';exact k r H' s' h'
theorem BE:aZ ["_law_one","_law_other"] ["_law_one","_law_other"] (ax j5):=by walk_at "d"
theorem nM (T:Txt K mg Z):cC P w K mg base iq 2 Z.qo Z.pZ ["_law_one","_law_other"] (rD K (fun x y=>x+y)):=by
 refine T.kh.ok BE (fun vs H Q E h=>?_) (fun cdv A outer s H vs Q E hr h=>?_)
 ·obtain ⟨p,q,a,b,c,d,rfl,hp,hq,hb,hd,sa,sb,sc,sd,k⟩:=Es h;rfl
 ·obtain ⟨p,q,a,b,c,d,rfl,hp,hq,hb,hd,sa,sb,sc,sd,k⟩:=Es h;refine ⟨_,(az (aP (cP (fo T) hr T.eJ T.eT.kp T.fE (ae (bK fB (bK cI (bf cb (pv 0) ak) (bf cb (pv 1) ak)) (bK cI (bf cb (pv 1) ak) (bf cb (pv 0) ak))) (ae (bK cI (bf cb (pv 0) ak) (bf cb (pv 1) ak)) ai))))),?_⟩;refine aO (σ:=[some (.ref p),some (.ref q)]) rfl ?_;have hbd:0 < b*d:=iO hb hd;have sbd:Sz 8999 (b*d):=(sb.mul sd).mono (by decide);walk_at "w";refine fj (show fq _ _ from .inr ⟨_,_,sa,sd,by decide⟩) ?_;walk_at "w";refine fj (show fq _ _ from .inr ⟨_,_,sc,sb,by decide⟩) ?_;walk_at "w";refine fj (show fq _ _ from .inr ⟨_,_,sb,sd,by decide⟩) ?_;walk_at "w";walk_at "w";refine ⟨_,_,rfl,hbd,sbd,k⟩
theorem Az:aZ ["_law_one","_law_other"] ["_law_one","_law_other"] (ax jo):=by walk_at "d"
theorem AL (T:Txt K mg Z):cC P w K mg base iq 3 Z.ox Z.nY ["_law_one","_law_other"] (FV K):=by
 refine T.sD.ok Az (fun vs H Q E h=>?_) (fun cdv A outer s H vs Q E hr h=>?_)
 ·obtain ⟨p,q,xs,ys,rfl,hp,hq,hl,hz,h1,h2,kk⟩:=h;rfl
 ·obtain ⟨p,q,xs,ys,rfl,hp,hq,hl,hz,h1,h2,kk⟩:=h;refine ⟨_,(az (aP (cm ["_law_k"] ["_law_one","_law_other"] [0,1] (bZ rfl T.range (ae (bH bA (by rfl) T.len bg (ae (pv 0) ai)) ai)) (fun _=>(aH (i:=0) (show List.Nodup (α:=PySem.Str) ["_law_k","_law_one","_law_other"] by decide +kernel))) (fun _=>ck) (fun _=>(cP (nM T) hr T.kZ T.kh.kp T.nC (ae (bf (fI K (by rfl)) (pv 1) (pv 0)) (ae (bf (fI K (by rfl)) (pv 2) (pv 0)) ai))))))),?_⟩;refine aO (σ:=[some (.ref p),some (.ref q)]) rfl ?_;obtain ⟨us,gu,qu⟩:=id hp;obtain ⟨ws,gw,qw⟩:=id hq;have lu:=qu.length;walk_at "w";refine ⟨_,_,rfl,.inl (bJ.of gu),?_⟩;walk_at "w";refine ⟨by lia,by lia,?_⟩;refine dm (n:=us.length) (cf K) (fun i=>xs.getD i 0+ys.getD i 0) (by lia) (fun a b=>a.same b) ?_ ?_
  ·rintro i H' NY NN hi s k1;have ix:i < xs.length:=by lia
   have iy:i < ys.length:=by lia
   obtain ⟨vx,ex,nx⟩:=Ce (Paired.imp' (fun _ _ z=>z.same s) qu) ix;obtain ⟨vy,ey,ny⟩:=Ce (Paired.imp' (fun _ _ z=>z.same s) qw) iy;walk_at "w";refine b9 (bJ.of (s _ _ gu)) ex ?_;walk_at "w";refine b9 (bJ.of (s _ _ gw)) ey ?_;walk_at "w";exact ⟨_,_,_,_,rfl,nx,ny,h1 _ (getD_mem ix),h2 _ (getD_mem iy),fun r3 H3 s3 n3=>k1 _ _ s3 n3⟩
  ·rintro ys' H' l hl' s g pr nx;exact kk l H' hl' s ⟨ys',g,by rw[EB (by lia)];rw[<- lu] at pr;exact pr⟩
theorem Ay:aZ ["_law_one","_law_other"] ["_law_one","_law_other"] (ax jm):=by walk_at "d"
theorem lL (T:Txt K mg Z):cC P w K mg base iq 2 Z.ow Z.nX ["_law_one","_law_other"] (rD K (fun x y=>x*y)):=by
 refine T.jx.ok Ay (fun vs H Q E h=>?_) (fun cdv A outer s H vs Q E hr h=>?_)
 ·obtain ⟨p,q,a,b,c,d,rfl,hp,hq,hb,hd,sa,sb,sc,sd,k⟩:=D3 h;rfl
 ·obtain ⟨p,q,a,b,c,d,rfl,hp,hq,hb,hd,sa,sb,sc,sd,k⟩:=D3 h;refine ⟨_,(az (aP (cP (fo T) hr T.eJ T.eT.kp T.fE (ae (bK cI (bf cb (pv 0) ak) (bf cb (pv 1) ak)) (ae (bK cI (bf cb (pv 0) ak) (bf cb (pv 1) ak)) ai))))),?_⟩;refine aO (σ:=[some (.ref p),some (.ref q)]) rfl ?_;have hbd:0 < b*d:=iO hb hd;have sbd:Sz 8999 (b*d):=(sb.mul sd).mono (by decide);walk_at "w";refine fj (show fq _ _ from .inr ⟨_,_,sa,sc,by decide⟩) ?_;walk_at "w";refine fj (show fq _ _ from .inr ⟨_,_,sb,sd,by decide⟩) ?_;walk_at "w";walk_at "w";refine ⟨_,_,rfl,hbd,sbd,k⟩
theorem C0:aZ ["_law_factor","_law_row_here"] ["_law_factor","_law_row_here"] (ax mY):=by walk_at "d"
theorem pQ (T:Txt K mg Z):cC P w K mg base iq 3 Z.tz Z.sV ["_law_factor","_law_row_here"] (KC K):=by
 refine T.mZ.ok C0 (fun vs H Q E h=>?_) (fun cdv A outer s H vs Q E hr h=>?_)
 ·obtain ⟨u,q,c,ys,rfl,hc,sc,hq,hz,h2,kk⟩:=h;rfl
 ·obtain ⟨u,q,c,ys,rfl,hc,sc,hq,hz,h2,kk⟩:=h;refine ⟨_,(az (aP (cm ["_law_one"] ["_law_factor"] [0] (cn (pv 1)) (fun _=>(aH (i:=0) (show List.Nodup (α:=PySem.Str) ["_law_one","_law_factor"] by decide +kernel))) (fun _=>ck) (fun _=>(cP (lL T) hr T.jN T.jx.kp T.lg (ae (pv 1) (ae (pv 0) ai))))))),?_⟩;refine aO (σ:=[some u,some (.ref q)]) rfl ?_;obtain ⟨us,gu,qu⟩:=id hq;walk_at "w";refine ⟨⟨_,bJ.of gu⟩,?_⟩;refine d5 (K:=K) (F:=cf K) (cf K) (fun y=>c*y) gu qu hz (fun a b=>a.same b) (fun a b=>a.same b) ?_ ?_
  ·rintro i y x H' NY NN en s hx k;walk_at "w";exact ⟨_,_,_,_,rfl,hc.same s,hx,sc,h2 y (ay en),fun r H2 s2 h2'=>k _ _ s2 h2'⟩
  ·rintro ys' H' r hr s g pr nx;exact kk r H' hr s ⟨ys',g,pr⟩
theorem dB:aZ ["_law_bag_here","_law_move_here","_law_put","_law_look","_law_n","_law_turn","_law_i","_law_j","_law_by_here","_law_less_here","_law_row_here"] ["_law_bag_here","_law_move_here","_law_put","_law_look"] (ax gX):=by walk_at "d"
theorem tO (T:Txt K mg Z):cC P w K mg base iq 4 Z.mF Z.lZ ["_law_bag_here","_law_move_here","_law_put","_law_look"] (EN K):=by
 refine T.mK.ok dB (fun vs H Q E h=>?_) (fun cdv A outer s H vs Q E hr h=>?_)
 ·obtain ⟨b,m,p,l,q0,n,WV,μ,A,us,ws,vs,rfl,MA,X,n8,i4,o4,M0,M1,⟨M,eM⟩,V1,hA,k⟩:=h;rfl
 ·obtain ⟨b,m,p,l,q0,n,WV,μ,A,us,ws,vs,rfl,MA,X,n8,i4,o4,M0,M1,⟨M,eM⟩,V1,hA,k⟩:=h
  refine ⟨_,(av (bD (i:=4) dB.nd rfl (Or.inl rfl) (bH bA (by rfl) T.len bg (ae (pv 1) ai)))
   (av (cK (PW.pt (o3 (bh rL (pv 4) ak (br _)) (ka (bh dW (cP (bx T) hr T.aV T.bo.kp T.bu (ae (pv 0) (ae ak ai))) ak (br _))))) (az (aP (de (ae (pv 1) (ae (pv 2) (ae (pv 3) ai)))))) bS)
   (av (eB PassesOwn.never rfl (bZ rfl T.range (ae (bK fB ak (cP (bx T) hr T.aV T.bo.kp T.bu (ae (pv 0) (ae ak ai)))) ai)) (aH (i:=5) dB.nd)
    (av (bD (i:=6) dB.nd rfl (Or.inl rfl) (cP (bx T) hr T.aV T.bo.kp T.bu (ae (pv 0) (ae (pv 4) ai))))
   (av (bD (i:=7) dB.nd rfl (Or.inl rfl) (bK oI (bK fB (bK fB (pv 6) ak) (cP (bx T) hr T.aV T.bo.kp T.bu (ae (pv 0) (ae (bK ng (pv 4) ak) ai)))) (pv 4)))
   (av (bD (i:=8) dB.nd rfl (Or.inl rfl) (de (ae (bf bO (eF (ae ak (ae (yc uj ak) (ae ak (ae (yc uj ak) ai))))) (cP (bx T) hr T.aV T.bo.kp T.bu (ae (pv 0) (ae ak ai)))) (ae ak ai))))
   (av (bD (i:=9) dB.nd rfl (Or.inl rfl) (de (ae (bK ng ak (bf cb (pv 8) ak)) (ae ak ai))))
   (av (ff (cP (AL T) hr T.uZ T.sD.kp T.wW (ae (bf bO (pv 1) (pv 6)) (ae (cP (pQ T) hr T.nA T.mZ.kp T.pA (ae (pv 8) (ae (bf bO (pv 1) (pv 7)) ai))) ai))) (iC (pv 1) (pv 6) set_list))
   (av (eB PassesOwn.never rfl (cn (bK De (pv 1) (pv 3))) (aH (i:=10) dB.nd)
    (az (ff (cP (nM T) hr T.kZ T.kh.kp T.nC (ae (bf bO (pv 10) (pv 7)) (ae (cP (lL T) hr T.jN T.jx.kp T.lg (ae (pv 9) (ae (bf bO (pv 10) (pv 6)) ai))) ai))) (iC (pv 10) (pv 7) set_list))))
   (az (eB PassesOwn.never rfl (cn (pv 2)) (aH (i:=10) dB.nd)
    (az (ff (cP (nM T) hr T.kZ T.kh.kp T.nC (ae (bf bO (pv 10) (pv 6)) (ae (cP (lL T) hr T.jN T.jx.kp T.lg (ae (pv 8) (ae (bf bO (pv 10) (pv 7)) ai))) ai))) (iC (pv 10) (pv 6) set_list))))))))))))
   (az (aP (de (ae (pv 1) (ae (pv 2) (ae (pv 3) ai))))))))),?_⟩
  refine aO (σ:=[some (.ref b),some (.ref m),some (.ref p),some (.ref l),none,none,none,none,none,none,none]) rfl ?_;have done:∀r us' H' t,t<=3->H' r=some (.tup [.ref m,.ref p,.ref l])->jU K A H' n (fun x=>Fr (μ x) (9^t*WV)) m p l b q0 us' ws vs->iu A b m H H'->Q (.ref r) H':=fun r us' H' t ht g x kp=>k r us' H' g (x.weak fun _ _ y h=>h.mono (aD _ (au (by decide) ht))) kp
  have X0:jU K A H n (fun x=>Fr (μ x) (9^0*WV)) m p l b q0 us ws vs:=X.weak fun _ _ y h=>h.mono (by simp)
  clear X k;have gu:=X0.gm;have lu:=X0.lm;walk_at "w";refine ⟨_,_,rfl,.inl (bJ.of gu),?_⟩;rw[lu];clear gu lu;have kp0:iu A b m H H:=fun _ _ h _ _ _=>h
  walk_at "w";refine gG (fun h0=>?_) (fun h0=>?_)
  ·walk_at "w";refine cu fun r H' s' g'=>?_
   exact done r us H' 0 (by decide) g' (X0.same s') (kp0.same s')
  have n2:2<=n:=by
   rcases bV n 2 with z | z
   ·exact absurd (decide_eq_true (show (n:Int) < 2 by lia)) h0
   ·exact z
  walk_at "w";refine ⟨b,2,rfl,X0.bag,by decide,by decide,fun v H1 v0 v1 B1 u1=>?_⟩;have X1:=X0.upto MA u1 B1;have kp1:=kp0.upto u1;walk_at "w";refine gG (fun h1=>?_) (fun h1=>?_)
  ·walk_at "w";refine cu fun r H' s' g'=>?_
   exact done r us H' 0 (by decide) g' (X1.same s') (kp1.same s')
  walk_at "w";refine ⟨b,3,rfl,B1,by decide,by decide,fun c H2 c0 c1 B2 u2=>?_⟩;have X2:=X1.upto MA u2 B2;have kp2:=kp1.upto u2;clear X0 X1 kp0 kp1 u1 u2 B1;walk_at "w";refine ⟨by lia,by lia,?_⟩;refine gN (n:=(1+c).toNat) (fun t σ' H'=>∃(x1 x2 x3 x4 x5 x6:Option V) (us:List V),σ'=[some (.ref b),some (.ref m),some (.ref p),some (.ref l),some (.int n),x1,x2,x3,x4,x5,x6]/\jU K A H' n (fun x=>Fr (μ x) (9^t*WV)) m p l b q0 us ws vs/\iu A b m H H') ⟨none,none,none,none,none,none,us,rfl,X2,kp2⟩ ?_ ?_
  ·rintro t σ' H' ht ⟨x1,x2,x3,x4,x5,x6,us,rfl,X,kp⟩;have t3:t<=2:=by lia
   walk_at "w";refine ⟨b,n,rfl,X.bag,by lia,by lia,fun ii Ha i0 i1 Ba ua=>?_⟩;obtain ⟨ii,rfl⟩:=bU i0;have Xa:=X.upto MA ua Ba;have kpa:=kp.upto ua;walk_at "w";refine ⟨b,_,rfl,Ba,by lia,by lia,fun d Hb d0 d1 Bb ub=>?_⟩;have Xb:=Xa.upto MA ub Bb;have kpb:=kpa.upto ub;walk_at "w";refine fj (show (0:Int) < n by lia) ?_;have j0:=mP ((ii:Int)+1+d) (show (n:Int)≠0 by lia);have j1:=iZ ((ii:Int)+1+d) (show (0:Int) < n by lia);generalize ((ii:Int)+1+d) % (n:Int)=jj at j0 j1 ⊢;obtain ⟨jj,rfl⟩:=bU j0;walk_at "w";refine dj fun l0 Hc sc nc gc=>?_
   walk_at "w";refine ⟨b,4,rfl,Bb.same sc,by decide,by decide,fun v' Hd v0' v1' Bd ud=>?_⟩;have gd:=ud.other (fun z=>Bb.at (by rw[<- z];exact nc)) gc;obtain ⟨x,ex,mx,_⟩:=pB (xs:=[V.int 1,V.int (-1),V.int 2,V.int (-2)]) v0' (by simpa using v1')
   obtain ⟨z,rfl,hz⟩:∃z:Int,x=.int z/\z.natAbs<=2:=by
    simp only[aB,aL,or_false] at mx;rcases mx with rfl | rfl | rfl | rfl
    ·exact ⟨1,rfl,by decide⟩
    ·exact ⟨-1,rfl,by decide⟩
    ·exact ⟨2,rfl,by decide⟩
    ·exact ⟨-2,rfl,by decide⟩
   have Xd:=(Xb.same sc).upto MA ud Bd;have kpd:=(kpb.same sc).upto ud;walk_at "w";refine b9 (bJ.of gd) ex ?_;walk_at "w";refine cu fun bt He se ge=>?_
   walk_at "w";refine cu fun lt Hf sf gf=>?_
   have Xf:=(Xd.same se).same sf;have kpf:=(kpd.same se).same sf;have nb:cf K Hf ((z:Int):Rat) (.ref bt):=cf.mk (sf _ _ ge) rfl;have nl:cf K Hf ((0 - z:Int):Rat) (.ref lt):=cf.mk gf rfl;clear X Xa Xb Xd kp kpa kpb kpd ua ub ud sc gc gd ex mx ge gf se sf Ba Bb Bd nc;have gu:=Xf.gm;have lu:=Xf.lm
   have ru:∀x∈us,fF K A Hf n (Fr M (9^t*WV)) x:=fun x hx=>by
    have:=Xf.row x (by simp [hx]);rwa [eM x (Xf.apart.1 x hx).1 (Xf.apart.1 x hx).2] at this
   have hM:0 < M/\M<=2^800:=by
    have hx:us[ii]'(by lia)∈us:=bE _;have:=eM _ (Xf.apart.1 _ hx).1 (Xf.apart.1 _ hx).2;rw[<- this];exact ⟨M0 _,M1 _⟩
   have e1:us[ii]?=some (us[ii]'(by lia)):=by simp
   have e2:us[jj]?=some (us[jj]'(by lia)):=by simp
   obtain ⟨q1,z1,qs1,w1,a1,g1,k1,p1,l1,c1⟩:=(ru _ (ay e1)).at;obtain ⟨q2,z2,qs2,w2,a2,g2,k2,p2,l2,c2⟩:=(ru _ (ay e2)).at;rw[w1] at e1;rw[w2] at e2;generalize eW:9^t*WV=W at *
   have W9:9*W<=2^140:=by rw[<- eW];exact Jl (by lia) V1 (by decide)
   have sz9M:∀{x:Rat} {U:Nat},U<=9*W->Fr M U x->qW x:=fun hU h=>Eg hM.1 hM.2 (ah hU W9) h
   have sz9:∀{x:Rat} {U:Nat} {v:V},U<=9*W->Fr (μ v) U x->qW x:=fun hU h=>Eg (M0 _) (M1 _) (ah hU W9) h
   walk_at "w";refine b9 (bJ.of gu) (dR e1) ?_;walk_at "w";refine b9 (bJ.of gu) (dR e2) ?_;walk_at "w";refine ⟨_,q2,_,qs2,rfl,nb,Aq (by lia),⟨z2,g2,p2⟩,by lia,fun y hy=>sz9M (by lia) (c2 y hy),fun r1 Hg n1 sg R1=>?_⟩;walk_at "w";refine ⟨q1,r1,qs1,_,rfl,⟨z1,sg _ _ g1,Paired.imp' (fun _ _ y=>y.same sg) p1⟩,R1,by rw[aj,l1,l2],by lia,fun y hy=>sz9M (by lia) (c1 y hy),fun y hy=>?_,fun r2 Hh n2' sh R2=>?_⟩
   ·obtain ⟨y',hy',rfl⟩:=aA.mp hy;exact xR hz (c2 y' hy') hM.1 hM.2 (by lia)
   have sfh:=sg.trans sh
   have new:V.ref r2∉us++vs++ws:=fun z=>by
    obtain ⟨q',_,_,e',_,g',_⟩:=((Xf.same sg).row _ z).at;cases e';rw[n2'] at g';cases g'
   have Xh:=(Xf.same sfh).weak (C':=fun x y=>(x∈ws->Fr (μ x) W y)/\Fr (μ x) (3*W) y) fun x _ y h=>⟨fun _=>h,h.mono (by lia)⟩
   have kph:=kpf.same sfh;have guh:=sfh _ _ gu;have ar2:A r2:=(kpf.same sg).new hA (Xf.same sg).bag (by rw[sg _ _ gu];simp) n2'
   have rp2:fF K A Hh n (fun y=>(V.ref r2∈ws->Fr (μ (.ref r2)) W y)/\Fr (μ (.ref r2)) (3*W) y) (.ref r2):=by
    rw[eM (.ref r2) (fun z=>new (aw.mpr (.inr z))) (fun z=>new (aw.mpr (.inl (aw.mpr (.inr z)))))];refine ⟨r2,_,rfl,ar2,R2,by rw[ir,aj];lia,fun y hy=>⟨fun z=>absurd (aw.mpr (.inr z)) new,?_⟩⟩;obtain ⟨j',hj',e⟩:=cg hy;rw[List.getElem_zipWith,pH] at e;rw[<- e];exact A1 hz (c1 _ (bE _)) (c2 _ (bE _))
   walk_at "w";refine eV guh (fD (by lia)) rfl ?_;have Xi:=Xh.set MA rp2 new ii;have kpi:=kph.upd (o:=.lst (us.set ii (.ref r2))) (q:=m) (.inr rfl);have nli:cf K (upd Hh m (.lst (us.set ii (.ref r2)))) ((0 - z:Int):Rat) (.ref lt):=(nl.same sfh).updL guh;have nbi:cf K (upd Hh m (.lst (us.set ii (.ref r2)))) ((z:Int):Rat) (.ref bt):=(nb.same sfh).updL guh;generalize upd Hh m (.lst (us.set ii (.ref r2)))=Hi at Xi kpi nli nbi ⊢;generalize us.set ii (.ref r2)=um at Xi;clear nb nl Xf kpf gu ru e1 e2 g1 p1 g2 p2 R1 R2 Xh kph guh rp2 sg sh sfh new;have gm:=Xi.gm;have lm:=Xi.lm;have gl:=Xi.gl;have nd:=Xi.nd;obtain ⟨nd1,nd2,nd3⟩:=cN.mp nd;walk_at "w";refine C6 gm gl (bC (bT (by lia))) fun cl Hj sj nj gj=>?_
   have kpj:=kpi.same sj
   have rows:∀x∈um++vs,∀q,x=V.ref q->q≠cl:=fun x hx q e y=>by
    obtain ⟨q',zs,_,e',_,g',_⟩:=(Xi.row x (aw.mpr (.inl hx))).at;rw[e] at e';cases e';rw[y,nj] at g';cases g'
   have Xj:=(Xi.same sj).weak (C':=fun x y=>(x∈ws->Fr (μ x) W y)/\(x∈(um++vs).drop 0->Fr (μ x) (3*W) y)/\Fr (μ x) (9*W) y) fun x _ y h=>⟨h.1,fun _=>h.2,h.2.mono (by lia)⟩
   have lj:cf K Hj ((0 - z:Int):Rat) (.ref lt):=nli.same sj;have bj:cf K Hj ((z:Int):Rat) (.ref bt):=nbi.same sj;clear Xi kpi nli nbi;refine ⟨_,rfl,⟨_,bJ.of gj⟩,?_⟩;refine fJ (K:=K) (a:=cl) (xs:=um++vs) (fun s σ' H'=>∃x6:Option V,σ'=[some (.ref b),some (.ref m),some (.ref p),some (.ref l),some (.int n),some (.int t),some (.int ii),some (.int jj),some (.ref bt),some (.ref lt),x6]/\jU K A H' n (fun x y=>(x∈ws->Fr (μ x) W y)/\(x∈(um++vs).drop s->Fr (μ x) (3*W) y)/\Fr (μ x) (9*W) y) m p l b q0 um ws vs/\iu A b m H H'/\H' cl=some (.lst (um++vs))/\cf K H' ((0 - z:Int):Rat) (.ref lt)/\cf K H' ((z:Int):Rat) (.ref bt)) ⟨_,rfl,Xj,kpj,gj,lj,bj⟩ (fun s σ' H' _ ⟨_,_,_,_,e,_⟩=>bJ.of e) ?_ ?_
   ·rintro s x σ' Hk hx ⟨y6,rfl,Xk,kpk,gk,lk,bk⟩;have hs:s < (um++vs).length:=(aE.mp hx).1;have mx:=ay hx
    have xd:x∈(um++vs).drop s:=by
     rw[dS hs,(aE.mp hx).2];exact .head _
    have xd2:x∉(um++vs).drop (s+1):=fun z=>by
     have:=nd1.sublist (List.drop_sublist s _);rw[dS hs,dQ,(aE.mp hx).2] at this;exact this.1 z
    have xw:x∉ws:=fun z=>nd3 x mx x z rfl
    have rx:=Xk.row x (aw.mpr (.inl mx));obtain ⟨q,zs,qs,rfl,aq,gq,lq,pq,lq2,cq⟩:=rx.at;have qcl:=rows _ mx q rfl;obtain ⟨vj,ej,nj'⟩:=Ce pq (j:=jj) (by lia);obtain ⟨vi,ei,ni'⟩:=Ce pq (j:=ii) (by lia);have cj:=(cq _ (getD_mem (xs:=qs) (i:=jj) (by lia))).2.1 xd;have ci:=(cq _ (getD_mem (xs:=qs) (i:=ii) (by lia))).2.1 xd;walk_at "w";refine b9 (bJ.of gq) ej ?_;walk_at "w";refine b9 (bJ.of gq) ei ?_;walk_at "w";refine ⟨_,_,_,_,rfl,lk,ni',Aq (by lia),sz9 (by lia) ci,fun r3 Hl sl n3=>?_⟩;walk_at "w";refine ⟨_,_,_,_,rfl,nj'.same sl,n3,sz9 (by lia) cj,xR (by lia) ci (M0 _) (M1 _) (by lia),fun r4 Hm sm n4=>?_⟩;have slm:=sl.trans sm;walk_at "w";refine eV (slm _ _ gq) (fD (by lia)) rfl ?_;refine ⟨_,rfl,?_,(kpk.same slm).upd (.inl aq),by rw[be qcl.symm];exact slm _ _ gk,(lk.same slm).updL (slm _ _ gq),(bk.same slm).updL (slm _ _ gq)⟩;refine ((Xk.same slm).weak fun x' _ y h=>⟨h.1,fun z=>h.2.1 ?_,h.2.2⟩).put MA aq (slm _ _ gq) n4 ⟨fun z=>absurd z xw,fun z=>absurd z xd2,?_⟩ jj
    ·rw[dS hs];exact .tail _ z
    ·exact (A1 (by lia) cj ci).mono (by lia)
   ·rintro σ' Hk ⟨y6,rfl,Xk,kpk,gk,lk,bk⟩;have gp:=Xk.gp;have Xk2:=Xk.weak (C':=fun x y=>(x∈ws.drop 0->Fr (μ x) W y)/\Fr (μ x) (9*W) y) fun x _ y h=>⟨fun z=>h.1 (by simpa using z),h.2.2⟩
    clear Xk;walk_at "w";refine ⟨⟨_,bJ.of gp⟩,?_⟩;refine fJ (K:=K) (a:=p) (xs:=ws) (fun s σ' H'=>∃x6:Option V,σ'=[some (.ref b),some (.ref m),some (.ref p),some (.ref l),some (.int n),some (.int t),some (.int ii),some (.int jj),some (.ref bt),some (.ref lt),x6]/\jU K A H' n (fun x y=>(x∈ws.drop s->Fr (μ x) W y)/\Fr (μ x) (9*W) y) m p l b q0 um ws vs/\iu A b m H H'/\cf K H' ((z:Int):Rat) (.ref bt)) ⟨_,rfl,Xk2,kpk,bk⟩ (fun s σ' H' _ ⟨_,_,X,_⟩=>bJ.of X.gp) ?_ ?_
    ·rintro s x σ' Hl hx ⟨w6,rfl,Xl,kpl,bl⟩;have hs:s < ws.length:=(aE.mp hx).1;have mx:=ay hx
     have xd:x∈ws.drop s:=by
      rw[dS hs,(aE.mp hx).2];exact .head _
     have xd2:x∉ws.drop (s+1):=fun z=>by
      have:=nd2.sublist (List.drop_sublist s _);rw[dS hs,dQ,(aE.mp hx).2] at this;exact this.1 z
     have rx:=Xl.row x (aw.mpr (.inr mx));obtain ⟨q,zs,qs,rfl,aq,gq,lq,pq,lq2,cq⟩:=rx.at;obtain ⟨vj,ej,nj'⟩:=Ce pq (j:=jj) (by lia);obtain ⟨vi,ei,ni'⟩:=Ce pq (j:=ii) (by lia);have cj:=(cq _ (getD_mem (xs:=qs) (i:=jj) (by lia))).1 xd;have ci:=(cq _ (getD_mem (xs:=qs) (i:=ii) (by lia))).1 xd;walk_at "w";refine b9 (bJ.of gq) ei ?_;walk_at "w";refine b9 (bJ.of gq) ej ?_;walk_at "w";refine ⟨_,_,_,_,rfl,bl,nj',Aq (by lia),sz9 (by lia) cj,fun r3 Hm sm n3=>?_⟩;walk_at "w";refine ⟨_,_,_,_,rfl,ni'.same sm,n3,sz9 (by lia) ci,xR (by lia) cj (M0 _) (M1 _) (by lia),fun r4 Hn sn n4=>?_⟩;have smn:=sm.trans sn;walk_at "w";refine eV (smn _ _ gq) (fD (by lia)) rfl ?_;refine ⟨_,rfl,?_,(kpl.same smn).upd (.inl aq),(bl.same smn).updL (smn _ _ gq)⟩;refine ((Xl.same smn).weak fun x' _ y h=>⟨fun z=>h.1 ?_,h.2⟩).put MA aq (smn _ _ gq) n4 ⟨fun z=>absurd z xd2,?_⟩ ii
     ·rw[dS hs];exact .tail _ z
     ·exact (A1 (by lia) ci cj).mono (by lia)
    ·rintro σ' Hl ⟨w6,rfl,Xl,kpl,bl⟩;refine ⟨_,_,_,_,_,_,um,rfl,Xl.weak fun _ _ y h=>h.2.mono ?_,kpl⟩;rw[<- eW,iY,cx (9^t) 9,cJ];exact ar _
  ·rintro σ' H' ⟨x1,x2,x3,x4,x5,x6,us',rfl,X,kp⟩;walk_at "w";refine cu fun r H2' s' g'=>?_
   exact done r us' H2' _ (by lia) g' (X.same s') (kp.same s')
theorem jF:aZ ["_law_bag_here","_law_n","_law_move_here","_law_put","_law_look"] ["_law_bag_here"] (ax jr):=by walk_at "d"
theorem AN (T:Txt K mg Z):cC P w K mg base iq 5 Z.oz Z.n9 ["_law_bag_here"] (IA K):=by
 refine T.sF.ok jF (fun vs H Q E h=>?_) (fun cdv A outer s H vs Q E hr h=>?_)
 ·obtain ⟨b,rfl,hB,k⟩:=h;rfl
 ·obtain ⟨b,rfl,hB,k⟩:=h
  refine ⟨_,(av (bD (i:=1) jF.nd rfl (Or.inr rfl) (bK fB ak (cP (bx T) hr T.aV T.bo.kp T.bu (ae (pv 0) (ae ak ai)))))
   (av (h7 2 ["_law_i"] ["_law_n"] [1] jF.nd rfl rfl (bZ rfl T.range (ae (pv 1) ai)) (fun _=>(aH (i:=0) (show List.Nodup (α:=PySem.Str) ["_law_i","_law_n"] by decide +kernel) rfl (Or.inr rfl) (Or.inl rfl))) (fun _=>ck) (fun _=>(cm ["_law_j"] ["_law_i"] [0] (bZ rfl T.range (ae (pv 1) ai)) (fun _=>(aH (i:=0) (show List.Nodup (α:=PySem.Str) ["_law_j","_law_i"] by decide +kernel))) (fun _=>ck) (fun _=>(de (ae (dI ie (by rfl) T.int PyProof.Rows.boot_int (ae (fA dW (pv 0) (bK fB (pv 1) ak) (br _)) ai)) (ae ak ai)))))))
   (av (bD (i:=3) jF.nd rfl (Or.inl rfl) (eF (ae (cm ["_law_j"] ["_law_n"] [1] (bZ rfl T.range (ae (pv 1) ai)) (fun _=>(aH (i:=0) (show List.Nodup (α:=PySem.Str) ["_law_j","_law_n"] by decide +kernel))) (fun _=>ck) (fun _=>(de (ae (dI ie (by rfl) T.int PyProof.Rows.boot_int (ae (fA dW (pv 0) (bK ng (pv 1) ak) (br _)) ai)) (ae ak ai))))) ai)))
   (av (bD (i:=4) jF.nd rfl (Or.inl rfl) (eF (ae (cm ["_law_j"] [] [] (bZ rfl T.range (ae (pv 1) ai)) (fun _=>(aH (i:=0) (show List.Nodup (α:=PySem.Str) ["_law_j"] by decide +kernel))) (fun _=>ck) (fun _=>(de (ae (dI ie (by rfl) T.int PyProof.Rows.boot_int (ae (fA dW (pv 0) ak (br _)) ai)) (ae ak ai))))) ai)))
   (az (aP (cP (tO T) hr T.oK T.mK.kp T.qf (ae (pv 0) (ae (pv 2) (ae (pv 3) (ae (pv 4) ai))))))))))),?_⟩
  refine aO (σ:=[some (.ref b),none,none,none,none]) rfl ?_;obtain ⟨q0,I0,xs0,gq0⟩:=hB.inner;walk_at "w";refine ⟨b,3,rfl,hB,by decide,by decide,fun t Ha t0 t1 Ba ua=>?_⟩;obtain ⟨t,rfl⟩:=bU t0;walk_at "w";obtain ⟨n,en,n6,n8⟩:∃n:Nat,(6:Int)+(t:Int)=(n:Int)/\6<=n/\n<=8:=⟨6+t,by lia,by lia,by lia⟩;rw[en];refine ⟨by lia,by lia,?_⟩;refine DA (K:=K) (n:=n) (fun (i:Nat)=>(List.range n).map fun (j:Nat)=>(((if decide ((j:Int)=(i:Int)+1)=true then 1 else 0:Int)):Rat)) (by lia) ?_ ?_
  ·rintro i Hb NY NN hi sa k1;walk_at "w";refine ⟨by lia,by lia,?_⟩;refine dm (n:=n) (cf K) (fun (j:Nat)=>(((if decide ((j:Int)=(i:Int)+1)=true then 1 else 0:Int)):Rat)) (by lia) (fun a b=>a.same b) ?_ ?_
   ·rintro j Hz NY2 NN2 hj sz k2;walk_at "w";refine cu fun t Hy sy gy=>?_
    exact k2 _ _ sy (cf.mk gy rfl)
   ·rintro ys Hz t ht sz g pr nx;exact k1 _ _ sz ht ⟨ys,g,pr⟩
  rintro ys H1 mm hm s1 g1 nd1 pr1 nx1;walk_at "w";refine ⟨by lia,by lia,?_⟩;refine dm (n:=n) (cf K) (fun (j:Nat)=>(((if decide ((j:Int)=(n:Int) - 1)=true then 1 else 0:Int)):Rat)) (by lia) (fun a b=>a.same b) ?_ ?_
  ·rintro j Hz NY2 NN2 hj sz k2;walk_at "w";refine cu fun t Hy sy gy=>?_
   exact k2 _ _ sy (cf.mk gy rfl)
  rintro ys2 H2 q2 hq2 s2 g2 pr2 nx2;walk_at "w";refine dj fun p3 H3 s3 n3 g3=>?_
  have q23:q2≠p3:=fun z=>by rw[z,n3] at g2;cases g2
  have hp3:H1 p3=none:=s2.none n3;walk_at "w";refine ⟨by lia,by lia,?_⟩;refine dm (n:=n) (cf K) (fun (j:Nat)=>(((if decide ((j:Int)=0)=true then 1 else 0:Int)):Rat)) (by lia) (fun a b=>a.same b) ?_ ?_
  ·rintro j Hz NY2 NN2 hj sz k2;walk_at "w";refine cu fun t Hy sy gy=>?_
   exact k2 _ _ sy (cf.mk gy rfl)
  rintro ys4 H4 q4 hq4 s4 g4 pr4 nx4;walk_at "w";refine dj fun p5 H5 s5 n5 g5=>?_
  have q45:q4≠p5:=fun z=>by rw[z,n5] at g4;cases g4
  have hp5:H3 p5=none:=s4.none n5;have s35:=s4.trans s5;have s23:=s2.trans s3;have s15:=s23.trans s35;have s05:=s1.trans s15;have B5:=Ba.same s05;have hu:∀{q},Ha q=none->H q=none:=fun h=>ua.none Ba h
  have hm0:H mm=none:=hu hm;have hp0:H p3=none:=hu (s1.none hp3);have hl0:H p5=none:=hu (s1.none (s23.none hp5));have mb:mm≠b:=fun z=>Ba.at (by rw[<- z];exact hm)
  have pb:p3≠b:=fun z=>hB.at (by rw[<- z];exact hp0)
  have lb:p5≠b:=fun z=>hB.at (by rw[<- z];exact hl0)
  have g13:=s23 _ _ g1;have mp:mm≠p3:=fun z=>by rw[z,hp3] at g1;cases g1
  have ml:mm≠p5:=fun z=>by rw[z,hp5] at g13;cases g13
  have pl:p3≠p5:=fun z=>by rw[z,hp5] at g3;cases g3
  have mq:mm≠q0:=fun z=>Inner.at Ba (ua.2 _ I0) (by rw[<- z];exact hm)
  have g15:=s15 _ _ g1;have g35:=s35 _ _ g3;obtain ⟨A,eA⟩:∃A:Addr->Prop,A=fun q=>H q=none/\q≠mm/\q≠p3/\q≠p5:=⟨_,rfl⟩
  have mkA:∀{q},H q=none->q≠mm->q≠p3->q≠p5->A q:=fun h1 h2 h3 h4=>by rw[eA];exact ⟨h1,h2,h3,h4⟩
  have unA:∀{q},A q->H q=none/\q≠mm/\q≠p3/\q≠p5:=fun h=>by rw[eA] at h;exact h
  have MA:Ct A mm p3 p5 b q0:=⟨fun z=>(unA z).2.1 rfl,fun z=>(unA z).2.2.1 rfl,fun z=>(unA z).2.2.2 rfl,fun z=>hB.at (unA z).1,(fun z=>by have z1:=(unA z).1;rw[gq0] at z1;cases z1),mb,pb,lb,mp,ml,mq⟩;clear eA;have f01:∀{i:Int},i=0\/i=1->Fr 1 1 (i:Rat):=fun h=>Mg h
  have R2:dC K H5 q2 _:=dC.same ⟨ys2,g2,pr2⟩ (s3.trans s35);have R4:dC K H5 q4 _:=dC.same ⟨ys4,g4,pr4⟩ s5;have g23:=s3 _ _ g2
  have ney:∀y∈ys,∃q,y=V.ref q/\H1 q≠none:=fun y hy=>by
   obtain ⟨_,_,q,e,_,_,gg,_⟩:=df pr1 hy;exact ⟨q,e,by rw[gg];exact fun z=>nomatch z⟩
  have X5:jU K A H5 n (fun _=>Fr 1 1) mm p3 p5 b q0 ys [.ref q2] [.ref q4]:=by
   refine ⟨B5,(s05.upto (p:=b)).2 _ (ua.2 _ I0),g15,g35,g5,by rw[<- pr1.length,aj,cO],fun x hx=>?_,?_⟩
   ·rcases aw.mp hx with hx | hx
    ·rcases aw.mp hx with hx | hx
     ·refine fF.same (C4 (A:=A) pr1 (fun qs hq=>?_) (fun q hq a b'=>?_) x hx) s15
      ·obtain ⟨i,_,rfl⟩:=aA.mp hq;refine ⟨by rw[aj,cO],fun y hy=>?_⟩;obtain ⟨j,_,rfl⟩:=aA.mp hy;exact f01 (by split <;> simp)
      ·have b3:H3 q≠none:=fun z=>b' (s23.none z)
       exact mkA (hu a) (fun y=>nx1 (by rw[<- y];exact hq)) (fun y=>b' (by rw[y];exact hp3)) (fun y=>b3 (by rw[y];exact hp5))
     ·rw[cE.mp hx];refine ⟨q4,_,rfl,mkA (hu (s1.none (s23.none hq4))) (fun y=>by rw[y,g13] at hq4;cases hq4) (fun y=>by rw[y,g3] at hq4;cases hq4) q45,R4,by rw[aj,cO],fun y hy=>?_⟩;obtain ⟨j,_,rfl⟩:=aA.mp hy;exact f01 (by split <;> simp)
    ·rw[cE.mp hx];refine ⟨q2,_,rfl,mkA (hu (s1.none hq2)) (fun y=>by rw[y,g1] at hq2;cases hq2) q23 (fun y=>by rw[y,hp5] at g23;cases g23),R2,by rw[aj,cO],fun y hy=>?_⟩;obtain ⟨j,_,rfl⟩:=aA.mp hy;exact f01 (by split <;> simp)
   ·refine cN.mpr ⟨cN.mpr ⟨nd1,by simp,fun a ha c hc z=>?_⟩,by simp,fun a ha c hc z=>?_⟩
    ·rw[cE.mp hc] at z;obtain ⟨q,e,h⟩:=ney a ha;rw[z] at e;cases e;exact h (s23.none hq4)
    ·rw[cE.mp hc] at z;rcases aw.mp ha with ha | ha
     ·obtain ⟨q,e,h⟩:=ney a ha;rw[z] at e;cases e;exact h hq2
     ·rw[cE.mp ha] at z;cases z;rw[g23] at hq4;cases hq4
  clear pr1 nx1 pr2 nx2 pr4 nx4 R2 R4 g1 g2 g3 g4 g13 g23;walk_at "w";refine ⟨b,mm,p3,p5,q0,n,1,fun _=>1,A,ys,[.ref q2],[.ref q4],rfl,MA,X5,n8,by simp,by simp,fun _=>Nat.zero_lt_one,fun _=>bG,⟨1,fun _ _ _=>rfl⟩,by decide,fun q hq=>?_,fun r us' H' g Y kp=>?_⟩
  ·exact mkA (hu (s05.none hq)) (fun z=>by rw[z,g15] at hq;cases hq) (fun z=>by rw[z,g35] at hq;cases hq) (fun z=>by rw[z,g5] at hq;cases hq)
  ·obtain ⟨mv,Gm,lmv,hmv⟩:=kb (H0:=H) (n:=n) (C:=Fr 1 (9^3*1)) (m:=n) ⟨us',Y.gm,Y.lm,MA.am,fun x hx=>Y.row x (by simp [hx])⟩ fun q h=>(unA h).1
   obtain ⟨pt,Gp,lpt,hpt⟩:=kb (H0:=H) (n:=n) (C:=Fr 1 (9^3*1)) (m:=1) ⟨_,Y.gp,rfl,MA.ap,fun x hx=>Y.row x (aw.mpr (.inr hx))⟩ fun q h=>(unA h).1
   obtain ⟨lk,Gl,llk,hlk⟩:=kb (H0:=H) (n:=n) (C:=Fr 1 (9^3*1)) (m:=1) ⟨_,Y.gl,rfl,MA.al,fun x hx=>Y.row x (aw.mpr (.inl (aw.mpr (.inr hx))))⟩ fun q h=>(unA h).1
   refine k r mv pt lk H' ⟨mm,p3,p5,g,hm0,hp0,hl0,Gm,Gp,Gl⟩ (by lia) ⟨by lia,by lia,by lia,fun xs hx=>by rw[(hmv xs hx).1,lmv],fun xs hx=>by rw[(hpt xs hx).1,lmv],fun xs hx=>by rw[(hlk xs hx).1,lmv]⟩ (fun xs hx=>(hmv xs hx).2) (fun xs hx=>(hpt xs hx).2) (fun xs hx=>(hlk xs hx).2) Y.bag ⟨fun c' u e n1=>kp c' u (s05 _ _ (ua.1 c' u e n1)) n1 (fun z=>by have:=(unA z).1;rw[e] at this;cases this) (fun z=>by rw[z,hm0] at e;cases e),fun q h=>by rw[<- Inner.inj I0 h];exact Y.inn⟩
theorem zy:∃x1 x2 x3 x4 x5 x6 x7 x8 x9 x10 x11 x12 x13 x14 x15 x16:Expr,x1=(Expr.Constant (Const.int 0) 0 ⟨279,16,279,17⟩)/\x2=(Expr.Constant (Const.int 1) 0 ⟨279,19,279,20⟩)/\x3=(Expr.Constant (Const.int 1) 0 ⟨279,22,279,23⟩)/\x4=(Expr.Constant (Const.int 1) 0 ⟨279,25,279,26⟩)/\x5=(Expr.Constant (Const.int 2) 0 ⟨279,28,279,29⟩)/\x6=(Expr.Constant (Const.int 2) 0 ⟨279,31,279,32⟩)/\x7=(Expr.Constant (Const.int 3) 0 ⟨279,34,279,35⟩)/\x8=(Expr.Constant (Const.int 4) 0 ⟨279,37,279,38⟩)/\x9=(Expr.Constant (Const.int 0) 0 ⟨280,17,280,18⟩)/\x10=(Expr.Constant (Const.int 1) 0 ⟨280,20,280,21⟩)/\x11=(Expr.Constant (Const.int 1) 0 ⟨280,23,280,24⟩)/\x12=(Expr.Constant (Const.int 1) 0 ⟨280,26,280,27⟩)/\x13=(Expr.Constant (Const.int 2) 0 ⟨280,29,280,30⟩)/\x14=(Expr.Constant (Const.int 2) 0 ⟨280,32,280,33⟩)/\x15=(Expr.Constant (Const.int 3) 0 ⟨280,35,280,36⟩)/\x16=(Expr.Constant (Const.int 4) 0 ⟨280,38,280,39⟩)/\aS fz=[ (Stmt.Assign (targets:=[(Expr.Name "_law_n" ⟨276,4,276,10⟩)]) (value:=(Expr.Call (func:=(Expr.Name "_law_take" ⟨276,13,276,22⟩)) (args:=[ (Expr.Name "_law_bag_here" ⟨276,23,276,36⟩),(Expr.Constant (Const.int 5) 0 ⟨276,38,276,39⟩)]) (keywords:=[]) (pos:=⟨276,13,276,40⟩))) (pos:=⟨276,4,276,40⟩)),(Stmt.If (test:=(Expr.Compare (left:=(Expr.Call (func:=(Expr.Name "_law_take" ⟨277,7,277,16⟩)) (args:=[ (Expr.Name "_law_bag_here" ⟨277,17,277,30⟩),(Expr.Constant (Const.int 8) 0 ⟨277,32,277,33⟩)]) (keywords:=[]) (pos:=⟨277,7,277,34⟩))) (ops:=[PySem.CmpOp.Eq]) (comparators:=[(Expr.Constant (Const.int 7) 0 ⟨277,38,277,39⟩)]) (pos:=⟨277,7,277,39⟩))) (body:=[ (Stmt.Assign (targets:=[(Expr.Name "_law_n" ⟨278,8,278,14⟩)]) (value:=(Expr.Constant (Const.int 5) 0 ⟨278,17,278,18⟩)) (pos:=⟨278,8,278,18⟩))]) (orelse:=[]) (pos:=⟨277,4,278,18⟩)),(Stmt.Assign (targets:=[(Expr.Name "_law_ins" ⟨279,4,279,12⟩)]) (value:=(Expr.Subscript (value:=(Expr.List (elts:=[x1,x2,x3,x4,x5,x6,x7,x8]) (pos:=⟨279,15,279,39⟩))) (slice:=(Expr.Call (func:=(Expr.Name "_law_take" ⟨279,40,279,49⟩)) (args:=[ (Expr.Name "_law_bag_here" ⟨279,50,279,63⟩),(Expr.Constant (Const.int 8) 0 ⟨279,65,279,66⟩)]) (keywords:=[]) (pos:=⟨279,40,279,67⟩))) (pos:=⟨279,15,279,68⟩))) (pos:=⟨279,4,279,68⟩)),(Stmt.Assign (targets:=[(Expr.Name "_law_outs" ⟨280,4,280,13⟩)]) (value:=(Expr.Subscript (value:=(Expr.List (elts:=[x9,x10,x11,x12,x13,x14,x15,x16]) (pos:=⟨280,16,280,40⟩))) (slice:=(Expr.Call (func:=(Expr.Name "_law_take" ⟨280,41,280,50⟩)) (args:=[ (Expr.Name "_law_bag_here" ⟨280,51,280,64⟩),(Expr.Constant (Const.int 8) 0 ⟨280,66,280,67⟩)]) (keywords:=[]) (pos:=⟨280,41,280,68⟩))) (pos:=⟨280,16,280,69⟩))) (pos:=⟨280,4,280,69⟩)),(Stmt.If (test:=(Expr.Compare (left:=(Expr.Name "_law_n" ⟨281,7,281,13⟩)) (ops:=[PySem.CmpOp.Eq]) (comparators:=[(Expr.Constant (Const.int 5) 0 ⟨281,17,281,18⟩)]) (pos:=⟨281,7,281,18⟩))) (body:=[ (Stmt.Assign (targets:=[ (Expr.Tuple (elts:=[(Expr.Name "_law_ins" ⟨282,8,282,16⟩),(Expr.Name "_law_outs" ⟨282,18,282,27⟩)]) (k:=0) (pos:=⟨282,8,282,27⟩))]) (value:=(Expr.Tuple (elts:=[ (Expr.Call (func:=(Expr.Name "min" ⟨282,31,282,34⟩)) (args:=[ (Expr.Name "_law_ins" ⟨282,35,282,43⟩),(Expr.Constant (Const.int 2) 0 ⟨282,45,282,46⟩)]) (keywords:=[]) (pos:=⟨282,31,282,47⟩)),(Expr.Call (func:=(Expr.Name "min" ⟨282,49,282,52⟩)) (args:=[ (Expr.Name "_law_outs" ⟨282,53,282,62⟩),(Expr.Constant (Const.int 2) 0 ⟨282,64,282,65⟩)]) (keywords:=[]) (pos:=⟨282,49,282,66⟩))]) (k:=0) (pos:=⟨282,30,282,67⟩))) (pos:=⟨282,8,282,67⟩))]) (orelse:=[]) (pos:=⟨281,4,282,67⟩)),(Stmt.Assign (targets:=[(Expr.Name "_law_wide" ⟨283,4,283,13⟩)]) (value:=(Expr.Subscript (value:=(Expr.List (elts:=[ (Expr.Constant (Const.int 4) 0 ⟨283,17,283,18⟩),(Expr.Constant (Const.int 4) 0 ⟨283,20,283,21⟩),(Expr.Constant (Const.int 9) 0 ⟨283,23,283,24⟩),(Expr.Constant (Const.int 1000000) 0 ⟨283,26,283,33⟩)]) (pos:=⟨283,16,283,34⟩))) (slice:=(Expr.Call (func:=(Expr.Name "_law_take" ⟨283,35,283,44⟩)) (args:=[ (Expr.Name "_law_bag_here" ⟨283,45,283,58⟩),(Expr.Constant (Const.int 4) 0 ⟨283,60,283,61⟩)]) (keywords:=[]) (pos:=⟨283,35,283,62⟩))) (pos:=⟨283,16,283,63⟩))) (pos:=⟨283,4,283,63⟩)),(Stmt.If (test:=(Expr.Compare (left:=(Expr.Name "_law_wide" ⟨284,7,284,16⟩)) (ops:=[PySem.CmpOp.Gt]) (comparators:=[(Expr.Constant (Const.int 9) 0 ⟨284,19,284,20⟩)]) (pos:=⟨284,7,284,20⟩))) (body:=[ (Stmt.Assign (targets:=[(Expr.Name "_law_n" ⟨285,8,285,14⟩)]) (value:=(Expr.Call (func:=(Expr.Name "min" ⟨285,17,285,20⟩)) (args:=[ (Expr.Name "_law_n" ⟨285,21,285,27⟩),(Expr.Constant (Const.int 2) 0 ⟨285,29,285,30⟩)]) (keywords:=[]) (pos:=⟨285,17,285,31⟩))) (pos:=⟨285,8,285,31⟩))]) (orelse:=[]) (pos:=⟨284,4,285,31⟩)),(Stmt.Return (value:=(some (Expr.Tuple (elts:=[ (Expr.Name "_law_n" ⟨286,12,286,18⟩),(Expr.Name "_law_ins" ⟨286,20,286,28⟩),(Expr.Name "_law_outs" ⟨286,30,286,39⟩),(Expr.Name "_law_wide" ⟨286,41,286,50⟩)]) (k:=0) (pos:=⟨286,11,286,51⟩)))) (pos:=⟨286,4,286,51⟩))]:=⟨_,_,_,_,_,_,_,_,_,_,_,_,_,_,_,_,rfl,rfl,rfl,rfl,rfl,rfl,rfl,rfl,rfl,rfl,rfl,rfl,rfl,rfl,rfl,rfl,by with_unfolding_all rfl⟩
theorem dU:aZ ["_law_bag_here","_law_n","_law_ins","_law_outs","_law_wide"] ["_law_bag_here"] (ax fz):=by walk_at "d"
theorem zo (T:Txt K mg Z):cC P w K mg base iq 2 Z.mC Z.lW ["_law_bag_here"] EH:=by
 refine T.qL.ok dU (fun vs H Q E h=>?_) (fun cdv A outer s H vs Q E hr h=>?_)
 ·obtain ⟨b,rfl,hB,k⟩:=h;rfl
 ·obtain ⟨b,rfl,hB,k⟩:=h;obtain ⟨x1,x2,x3,x4,x5,x6,x7,x8,x9,x10,x11,x12,x13,x14,x15,x16,hx1,hx2,hx3,hx4,hx5,hx6,hx7,hx8,hx9,hx10,hx11,hx12,hx13,hx14,hx15,hx16,hbd⟩:=zy;rw[hbd]
  refine ⟨_,(av (bD (i:=1) dU.nd rfl (Or.inl rfl) (cP (bx T) hr T.aV T.bo.kp T.bu (ae (pv 0) (ae ak ai))))
   (hZ (cK (bh dW (cP (bx T) hr T.aV T.bo.kp T.bu (ae (pv 0) (ae ak ai))) ak (br _)) (az (bD (i:=1) dU.nd rfl (Or.inl rfl) ak)) bS)
   (av (bD (i:=2) dU.nd rfl (Or.inl rfl) (bf bO (eF (dO hx1 ak (dO hx2 ak (dO hx3 ak (dO hx4 ak (dO hx5 ak (dO hx6 ak (dO hx7 ak (dO hx8 ak ai))))))))) (cP (bx T) hr T.aV T.bo.kp T.bu (ae (pv 0) (ae ak ai)))))
   (av (bD (i:=3) dU.nd rfl (Or.inl rfl) (bf bO (eF (dO hx9 ak (dO hx10 ak (dO hx11 ak (dO hx12 ak (dO hx13 ak (dO hx14 ak (dO hx15 ak (dO hx16 ak ai))))))))) (cP (bx T) hr T.aV T.bo.kp T.bu (ae (pv 0) (ae ak ai)))))
   (hZ (cK (bh dW (pv 1) ak (br _)) (az (GA (i:=2) (j:=3) rfl dU.nd rfl rfl (by decide) rfl rfl (ae (bH (sW rfl) (by rfl) T.min PyProof.Rows.boot_min (ae (pv 2) (ae ak ai))) (ae (bH (sW rfl) (by rfl) T.min PyProof.Rows.boot_min (ae (pv 3) (ae ak ai))) ai)) rfl)) bS)
   (av (bD (i:=4) dU.nd rfl (Or.inl rfl) (bf bO (eF (ae ak (ae ak (ae ak (ae ak ai))))) (cP (bx T) hr T.aV T.bo.kp T.bu (ae (pv 0) (ae ak ai)))))
   (hZ (cK (bh rM (pv 4) ak (br _)) (az (bD (i:=1) dU.nd rfl (Or.inl rfl) (bH (sW rfl) (by rfl) T.min PyProof.Rows.boot_min (ae (pv 1) (ae ak ai))))) bS)
   (az (aP (de (ae (pv 1) (ae (pv 2) (ae (pv 3) (ae (pv 4) ai)))))))))))))),?_⟩
  refine aO (σ:=[some (.ref b),none,none,none,none]) rfl ?_;walk_at "w";refine ⟨b,5,rfl,hB,by decide,by decide,fun n H1 n0 n1 B1 u1=>?_⟩;obtain ⟨n,rfl⟩:=bU n0;walk_at "w";refine ⟨fun σ' H'=>(∃n:Nat,σ'=[some (.ref b),some (.int n),none,none,none]/\n<=5)/\iX H' b/\cL b H H',?_,?_⟩
  ·walk_at "w";refine ⟨b,8,rfl,B1,by decide,by decide,fun v H2 v0 v1 B2 u2=>?_⟩;walk_at "w";refine gG (fun _=>?_) (fun _=>?_)
   ·walk_at "w";exact ⟨⟨5,rfl,by decide⟩,B2,u1.trans u2⟩
   ·walk_at "w";exact ⟨⟨n,rfl,by lia⟩,B2,u1.trans u2⟩
  clear n0 n1 u1 B1;rintro σ' H1 ⟨⟨n,rfl,n5⟩,B1,u1⟩;walk_at "w";refine dj fun l0 H2 s2 n2 g2=>?_
  walk_at "w";refine ⟨b,8,rfl,B1.same s2,by decide,by decide,fun v H3 v0 v1 B3 u3=>?_⟩;have g3:=u3.other (fun z=>B1.at (by rw[<- z];exact n2)) g2;obtain ⟨x,ex,mx,_⟩:=pB (xs:=[V.int 0,V.int 1,V.int 1,V.int 1,V.int 2,V.int 2,V.int 3,V.int 4]) v0 (by simpa using v1)
  obtain ⟨i,rfl,hi⟩:∃z:Nat,x=.int z/\z<=4:=by
   simp only[aB,aL,or_false] at mx;rcases mx with rfl | rfl | rfl | rfl | rfl | rfl | rfl | rfl
   ·exact ⟨0,rfl,by decide⟩
   ·exact ⟨1,rfl,by decide⟩
   ·exact ⟨1,rfl,by decide⟩
   ·exact ⟨1,rfl,by decide⟩
   ·exact ⟨2,rfl,by decide⟩
   ·exact ⟨2,rfl,by decide⟩
   ·exact ⟨3,rfl,by decide⟩
   ·exact ⟨4,rfl,by decide⟩
  walk_at "w";refine b9 (bJ.of g3) ex ?_;clear ex mx g3 g2;walk_at "w";refine dj fun l1 H4 s4 n4 g4=>?_
  walk_at "w";refine ⟨b,8,rfl,B3.same s4,by decide,by decide,fun t H5 t0 t1 B5 u5=>?_⟩;have g5:=u5.other (fun z=>B3.at (by rw[<- z];exact n4)) g4;obtain ⟨x,ex,mx,_⟩:=pB (xs:=[V.int 0,V.int 1,V.int 1,V.int 1,V.int 2,V.int 2,V.int 3,V.int 4]) t0 (by simpa using t1)
  obtain ⟨o,rfl,ho⟩:∃z:Nat,x=.int z/\z<=4:=by
   simp only[aB,aL,or_false] at mx;rcases mx with rfl | rfl | rfl | rfl | rfl | rfl | rfl | rfl
   ·exact ⟨0,rfl,by decide⟩
   ·exact ⟨1,rfl,by decide⟩
   ·exact ⟨1,rfl,by decide⟩
   ·exact ⟨1,rfl,by decide⟩
   ·exact ⟨2,rfl,by decide⟩
   ·exact ⟨2,rfl,by decide⟩
   ·exact ⟨3,rfl,by decide⟩
   ·exact ⟨4,rfl,by decide⟩
  walk_at "w";refine b9 (bJ.of g5) ex ?_;clear ex mx g5 g4;have u15:=(((u1.same s2).trans u3).same s4).trans u5;walk_at "w";refine ⟨fun σ' H'=>(∃i o:Nat,σ'=[some (.ref b),some (.int n),some (.int i),some (.int o),none]/\i<=4/\o<=4/\(n=5->i<=2/\o<=2))/\iX H' b/\cL b H H',?_,?_⟩
  ·walk_at "w";refine gG (fun h0=>?_) (fun h0=>?_)
   ·walk_at "w";refine ⟨⟨min i 2,min o 2,?_,by lia,by lia,fun _=>⟨by lia,by lia⟩⟩,B5,u15⟩;have e1:(if (2:Int) < (i:Int) then (2:Int) else (i:Int))=((min i 2:Nat):Int):=by split <;> lia
    have e2:(if (2:Int) < (o:Int) then (2:Int) else (o:Int))=((min o 2:Nat):Int):=by split <;> lia
    rw[<- e1,<- e2];rfl
   ·walk_at "w";exact ⟨⟨i,o,rfl,hi,ho,fun z=>absurd (decide_eq_true (show (n:Int)=5 by lia)) h0⟩,B5,u15⟩
  clear hi ho u15 B5 u5 u3 u1;rintro σ' H5 ⟨⟨i,o,rfl,hi,ho,h5⟩,B5,u5⟩;walk_at "w";refine dj fun l2 H6 s6 n6 g6=>?_
  walk_at "w";refine ⟨b,4,rfl,B5.same s6,by decide,by decide,fun v H7 v0 v1 B7 u7=>?_⟩;have g7:=u7.other (fun z=>B5.at (by rw[<- z];exact n6)) g6;obtain ⟨x,ex,mx,_⟩:=pB (xs:=[V.int 4,V.int 4,V.int 9,V.int 1000000]) v0 (by simpa using v1)
  obtain ⟨w,rfl,hw⟩:∃w:Nat,x=.int w/\(w=4\/w=9\/w=1000000):=by
   simp only[aB,aL,or_false] at mx;rcases mx with rfl | rfl | rfl | rfl
   ·exact ⟨4,rfl,.inl rfl⟩
   ·exact ⟨4,rfl,.inl rfl⟩
   ·exact ⟨9,rfl,.inr (.inl rfl)⟩
   ·exact ⟨1000000,rfl,.inr (.inr rfl)⟩
  walk_at "w";refine b9 (bJ.of g7) ex ?_;have u07:=(u5.same s6).trans u7;walk_at "w";refine ⟨fun σ' H'=>(∃n:Nat,σ'=[some (.ref b),some (.int n),some (.int i),some (.int o),some (.int w)]/\n<=5/\(w=4\/w=9\/(w=1000000/\n<=2))/\(n=5->i<=2/\o<=2))/\iX H' b/\cL b H H',?_,?_⟩
  ·walk_at "w";refine gG (fun h0=>?_) (fun h0=>?_)
   ·walk_at "w";refine ⟨⟨min n 2,?_,by lia,by lia,fun z=>by lia⟩,B7,u07⟩;have e1:(if (2:Int) < (n:Int) then (2:Int) else (n:Int))=((min n 2:Nat):Int):=by split <;> lia
    rw[<- e1];rfl
   ·walk_at "w";refine ⟨⟨n,rfl,n5,?_,h5⟩,B7,u07⟩;rcases hw with z | z | z
    ·exact .inl z
    ·exact .inr (.inl z)
    ·exact absurd (decide_eq_true (show (9:Int) < (w:Int) by lia)) h0
  ·clear h5 n5;rintro σ' H8 ⟨⟨n',rfl,n5,hwn,h5⟩,B8,u8⟩;walk_at "w";refine cu fun r H9 s9 g9=>?_
   exact k r n' i o w H9 g9 n5 hi ho hwn h5 (B8.same s9) (u8.same s9)
theorem rG:aZ ["_law_bag_here","_law_wide","_law_way"] ["_law_bag_here","_law_wide"] (ax fV):=by walk_at "d"
theorem yo (T:Txt K mg Z):cC P w K mg base iq 2 Z.kQ Z.kB ["_law_bag_here","_law_wide"] (CP K):=by
 refine T.oT.ok rG (fun vs H Q E h=>?_) (fun cdv A outer s H vs Q E hr h=>?_)
 ·obtain ⟨b,w,rfl,hB,w0,w1,k⟩:=h;rfl
 ·obtain ⟨b,w,rfl,hB,w0,w1,k⟩:=h
  refine ⟨_,(av (bD (i:=2) rG.nd rfl (Or.inl rfl) (cP (bx T) hr T.aV T.bo.kp T.bu (ae (pv 0) (ae ak ai))))
   (av (cK (bh rL (pv 2) ak (br _)) (az (aP (de (ae ak (ae ak ai))))) bS)
   (av (cK (bh rL (pv 2) ak (br _)) (az (aP (de (ae (bK ng (cP (bx T) hr T.aV T.bo.kp T.bu (ae (pv 0) (ae ak ai))) ak) (ae ak ai))))) bS)
   (av (cK (bh dW (pv 2) ak (br _)) (az (aP (cP (fo T) hr T.eJ T.eT.kp T.fE (ae (bK ng (cP (bx T) hr T.aV T.bo.kp T.bu (ae (pv 0) (ae ak ai))) ak) (ae (bK fB ak (cP (bx T) hr T.aV T.bo.kp T.bu (ae (pv 0) (ae ak ai)))) ai))))) bS)
   (az (aP (cP (fo T) hr T.eJ T.eT.kp T.fE (ae (bK ng (cP (bx T) hr T.aV T.bo.kp T.bu (ae (pv 0) (ae (bK fB (bK cI ak (pv 1)) ak) ai))) (pv 1)) (ae (bK fB ak (cP (bx T) hr T.aV T.bo.kp T.bu (ae (pv 0) (ae (pv 1) ai)))) ai))))))))),?_⟩
  refine aO (σ:=[some (.ref b),some (.int w),none]) rfl ?_;walk_at "w";refine ⟨b,8,rfl,hB,by decide,by decide,fun v H1 v0 v1 B1 u1=>?_⟩;walk_at "w";refine gG (fun h0=>?_) (fun h0=>?_)
  ·walk_at "w";refine cu fun r H2 s2 g2=>?_
   exact k r 0 _ ⟨aT _,by show 1<=_;lia⟩ (cf.mk g2 rfl) (B1.same s2) (u1.same s2)
  walk_at "w";refine gG (fun h1=>?_) (fun h1=>?_)
  ·walk_at "w";refine ⟨b,7,rfl,B1,by decide,by decide,fun a H2 a0 a1 B2 u2=>?_⟩;walk_at "w";refine cu fun r H3 s3 g3=>?_
   exact k r ((a - 3:Int):Rat) _ ⟨by show (a - 3).natAbs<=_;lia,by show 1<=_;lia⟩ (cf.mk g3 rfl) (B2.same s3) ((u1.trans u2).same s3)
  walk_at "w";refine gG (fun h2=>?_) (fun h2=>?_)
  ·walk_at "w";refine ⟨b,13,rfl,B1,by decide,by decide,fun a H2 a0 a1 B2 u2=>?_⟩;walk_at "w";refine ⟨b,6,rfl,B2,by decide,by decide,fun c H3 c0 c1 B3 u3=>?_⟩;walk_at "w";refine ⟨_,_,rfl,by lia,(FO (by lia)).mono (by decide),fun r H4 s4 g4=>?_⟩;obtain ⟨q,e,d,_⟩:=GX (t:=a - 6) (b:=1+c) (W:=max w 6) (by lia) (by lia) (by lia);exact k r q _ d (cf.mk g4 e) (B3.same s4) (((u1.trans u2).trans u3).same s4)
  walk_at "w";refine ⟨b,_,rfl,B1,by lia,by lia,fun a H2 a0 a1 B2 u2=>?_⟩;walk_at "w";refine ⟨b,_,rfl,B2,by lia,by lia,fun c H3 c0 c1 B3 u3=>?_⟩;walk_at "w";refine ⟨_,_,rfl,by lia,(FO (by lia)).mono (by decide),fun r H4 s4 g4=>?_⟩;obtain ⟨q,e,d,_⟩:=GX (t:=a - w) (b:=1+c) (W:=max w 6) (by lia) (by lia) (by lia);exact k r q _ d (cf.mk g4 e) (B3.same s4) (((u1.trans u2).trans u3).same s4)
theorem BF:aZ ["_law_bag_here","_law_many","_law_wide"] ["_law_bag_here","_law_many","_law_wide"] (ax j6):=by walk_at "d"
theorem wJ (T:Txt K mg Z):cC P w K mg base iq 3 Z.qq Z.p0 ["_law_bag_here","_law_many","_law_wide"] (Gf K):=by
 refine T.nE.ok BF (fun vs H Q E h=>?_) (fun cdv A outer s H vs Q E hr h=>?_)
 ·obtain ⟨b,m,w,rfl,hB,hm,w0,w1,k⟩:=h;rfl
 ·obtain ⟨b,m,w,rfl,hB,hm,w0,w1,k⟩:=h;refine ⟨_,(az (aP (cm ["_law_k"] ["_law_bag_here","_law_wide"] [0,2] (bZ rfl T.range (ae (pv 1) ai)) (fun _=>(aH (i:=0) (show List.Nodup (α:=PySem.Str) ["_law_k","_law_bag_here","_law_wide"] by decide +kernel))) (fun _=>ck) (fun _=>(cP (yo T) hr T.rT T.oT.kp T.ue (ae (pv 1) (ae (pv 2) ai))))))),?_⟩;refine aO (σ:=[some (.ref b),some (.int m),some (.int w)]) rfl ?_;walk_at "w";refine ⟨by lia,by lia,?_⟩;refine Fq (n:=m) (cf K) (Dr (max w 6)) hB hm (fun a u B=>a.upto u B) ?_ ?_
  ·rintro i H' NY NN hi u B k1;walk_at "w";exact ⟨b,w,rfl,B,w0,w1,fun r x H2 hx h2 B2 u2=>k1 _ x _ u2 B2 hx h2⟩
  ·rintro ys cs H' p hp u B g lc hc pr nx;exact k p cs H' hp ⟨ys,g,pr⟩ lc hc B u
theorem jE:aZ ["_law_bag_here","_law_n","_law_way","_law_first","_law_wide","_law_move_here","_law_i","_law_row_here","_law_j"] ["_law_bag_here","_law_n","_law_way","_law_first","_law_wide"] (ax jq):=by walk_at "d"
theorem AM (T : Txt K mg Z) : cC P w K mg base iq 4 Z.oy Z.nZ ["_law_bag_here", "_law_n", "_law_way", "_law_first", "_law_wide"] (FW K) := by
  have qE := wJ (P := P) (w := w) (base := base) T;have jw := bx (P := P) (w := w) (base := base) T;refine T.sE.ok jE (fun vs H Q E h => ?_) (fun cdv A outer s H vs Q E hr h => ?_)
  · obtain ⟨b, n, w, way, first, rfl, hB, n8, w0, w1, k⟩ := h;rfl
  · obtain ⟨b, n, w, way, first, rfl, hB, n8, w0, w1, k⟩ := h
    refine ⟨_, (av (bD (i := 5) jE.nd rfl (Or.inl rfl) (eF ai))
      (av (eB PassesOwn.never rfl (bZ rfl T.range (ae (pv 1) ai)) (aH (i := 6) jE.nd)
        (av (bD (i := 7) jE.nd rfl (Or.inl rfl) (cP qE hr T.nN T.nE.kp T.qe (ae (pv 0) (ae (pv 1) (ae (pv 4) ai)))))
      (av (eB PassesOwn.never rfl (bZ rfl T.range (ae (pv 1) ai)) (aH (i := 8) jE.nd)
        (hZ (cK (PW.pt (jG (bh dW (pv 2) ak (br _)) (kq (bh rM (cP jw hr T.aV T.bo.kp T.bu (ae (pv 0) (ae ak ai))) ak (br _))))) (az (ff (de (ae ak (ae ak ai))) (iC (pv 7) (pv 8) set_list))) bS)
      (hZ (cK (PW.pt (jG (bh dW (pv 2) ak (br _)) (kq (bh rL (bK fB (pv 6) ak) (pv 1) (br _))))) (az (ff (de (ae (dI ie (by rfl) T.int PyProof.Rows.boot_int (ae (fA dW (pv 8) (bK fB (pv 6) ak) (br _)) ai)) (ae ak ai))) (iC (pv 7) (pv 8) set_list))) bS)
      (hZ (cK (PW.pt (o3 (PW.pt (jG (bh dW (pv 2) ak (br _)) (jG (bh zM (pv 6) (pv 3) (br _)) (kq (bh rL (pv 8) (pv 3) (br _)))))) (ka (PW.pt (jG (bh dW (pv 2) ak (br _)) (jG (bh rL (pv 6) (pv 3) (br _)) (kq (bh zM (pv 8) (pv 3) (br _))))))))) (az (ff (de (ae ak (ae ak ai))) (iC (pv 7) (pv 8) set_list))) bS)
      (az (cK (bh dW (pv 2) ak (br _)) (az (ff (de (ae (bK cI (bf bO (eF (ae ak (ae ak (ae (yc uj ak) (ae ak ai))))) (bK oI (pv 3) ak)) (dI ie (by rfl) T.int PyProof.Rows.boot_int (ae (fA dW (pv 6) (pv 8) (br _)) ai))) (ae ak ai))) (iC (pv 7) (pv 8) set_list))) bS))))))
      (az (kr (yd dn gK gJ o6 (pv 5) (ae (pv 7) ai)))))))
      (az (aP (pv 5))))), ?_⟩
    refine aO (σ := [some (.ref b), some (.int n), some (.int way), some (.int first), some (.int w), none, none, none, none]) rfl ?_;have W1 : 1 ≤ max w 6 := by lia
    walk_at "w";refine dj fun r H1 s1 n1 g1 => ?_
    have rb : r ≠ b := fun z => hB.at (by rw [<- z]; exact n1)
    obtain ⟨q0, I0, xs0, gq0⟩ := hB.inner;have I1 : Inner H1 b q0 := (s1.upto (p := b)).2 _ I0;obtain ⟨A, eA⟩ : ∃ A : Addr → Prop, A = fun q => H q = none /\ q ≠ r := ⟨_, rfl⟩
    have nb : ¬ A b := by rw [eA]; exact fun z => hB.at z.1
    have nr : ¬ A r := by rw [eA]; exact fun z => z.2 rfl
    have nq : ¬ A q0 := by rw [eA]; exact fun z => by have z1 := z.1; rw [gq0] at z1; cases z1
    have rq : r ≠ q0 := fun z => by rw [<- z, n1] at gq0; cases gq0
    walk_at "w";refine ⟨by lia, by lia, ?_⟩;refine gN (n := n) (fun i σ' H' => ∃ (x1 x2 x3 : Option V) (us : List V), σ' = [some (.ref b), some (.int n), some (.int way), some (.int first), some (.int w), some (.ref r), x1, x2, x3] /\ H' r = some (.lst us) /\ us.length = i /\ us.Nodup /\ (∀ x ∈ us, fF K A H' n (Dr (max w 6)) x) /\ iX H' b /\ Inner H' b q0 /\ cL b H H') ⟨none, none, none, [], rfl, g1, rfl, Ak, (fun _ z => nomatch z), hB.same s1, I1, s1.upto⟩ ?_ ?_
    · rintro i σ' H' hi ⟨x1, x2, x3, us, rfl, gu, lu, nd, ru, B', I', u'⟩;walk_at "w";refine ⟨b, n, w, rfl, B', by lia, w0, w1, fun p xs Ha np Ra la da Ba ua => ?_⟩;have hp0 : H p = none := u'.none B' np
      have pn : V.ref p ∉ us := fun z => by
        obtain ⟨q', _, _, e', _, g', _⟩ := (ru _ z).at;cases e';rw [np] at g';cases g'
      have ap' : H p = none /\ p ≠ r := ⟨hp0, fun z => by rw [z, gu] at np; cases np⟩;have ap : A p := by rw [eA]; exact ap'
      have X0 : Ew K A n (Dr (max w 6)) r p b q0 us H Ha := ⟨ua.other rb gu, fun x hx => (ru x hx).upto ua B' nb, ⟨p, xs, rfl, ap, Ra, la, da⟩, Ba, ua.2 _ I', u'.trans ua⟩;clear ru Ra gu;walk_at "w";refine ⟨by lia, by lia, ?_⟩;refine gN (n := n) (fun j σ' H' => (∃ x3, σ' = [some (.ref b), some (.int n), some (.int way), some (.int first), some (.int w), some (.ref r), some (.int i), some (.ref p), x3]) /\ Ew K A n (Dr (max w 6)) r p b q0 us H H') ⟨⟨_, rfl⟩, X0⟩ ?_ ?_
      · rintro j σ' Hj hj ⟨⟨x3, rfl⟩, X⟩;walk_at "w";refine ⟨fun σ' H' => σ' = [some (.ref b), some (.int n), some (.int way), some (.int first), some (.int w), some (.ref r), some (.int i), some (.ref p), some (.int j)] /\ Ew K A n (Dr (max w 6)) r p b q0 us H H', ?_, ?_⟩
        · walk_at "w";refine gG (fun _ => ?_) (fun _ => ?_)
          · walk_at "w";refine ⟨b, 3, rfl, X.bag, by decide, by decide, fun d Hd d0 d1 Bd ud => ?_⟩;replace X := X.upto ud Bd nb rb
            repeat' (first | walk_at "rd" | refine gG (fun _ => ?_) (fun _ => ?_))
            all_goals first
              | exact ⟨rfl, X⟩
              | (refine cu fun t Hb sb gb => ?_
                 walk_at "w";obtain ⟨zs, gz, lz, Xz⟩ := (X.same sb).put ap nr nb nq hp0 (cf.mk (q := 0) gb rfl) (rY (i := 0) (aT _) W1) j;refine eV gz (fD (by lia)) rfl ?_;exact ⟨rfl, Xz⟩)
          · walk_at "w";exact ⟨rfl, X⟩
        clear X;rintro σ' Hj ⟨rfl, X⟩;refine ⟨fun σ' H' => σ' = [some (.ref b), some (.int n), some (.int way), some (.int first), some (.int w), some (.ref r), some (.int i), some (.ref p), some (.int j)] /\ Ew K A n (Dr (max w 6)) r p b q0 us H H', ?_, ?_⟩
        · repeat' (first | walk_at "rd" | refine gG (fun _ => ?_) (fun _ => ?_))
          all_goals first
            | exact ⟨rfl, X⟩
            | (refine cu fun t Hb sb gb => ?_
               walk_at "w";obtain ⟨zs, gz, lz, Xz⟩ := (X.same sb).put ap nr nb nq hp0 (cf.mk (q := ((if decide ((j : Int) = (i : Int) + 1) = true then (1 : Int) else 0 : Int) : Rat)) gb rfl) (rY (by split <;> lia) W1) j;refine eV gz (fD (by lia)) rfl ?_;exact ⟨rfl, Xz⟩)
        clear X;rintro σ' Hj ⟨rfl, X⟩;refine ⟨fun σ' H' => σ' = [some (.ref b), some (.int n), some (.int way), some (.int first), some (.int w), some (.ref r), some (.int i), some (.ref p), some (.int j)] /\ Ew K A n (Dr (max w 6)) r p b q0 us H H', ?_, ?_⟩
        · repeat' (first | walk_at "rd" | refine gG (fun _ => ?_) (fun _ => ?_))
          all_goals first
            | exact ⟨rfl, X⟩
            | (refine cu fun t Hb sb gb => ?_
               walk_at "w";obtain ⟨zs, gz, lz, Xz⟩ := (X.same sb).put ap nr nb nq hp0 (cf.mk (q := 0) gb rfl) (rY (i := 0) (aT _) W1) j;refine eV gz (fD (by lia)) rfl ?_;exact ⟨rfl, Xz⟩)
        clear X;rintro σ' Hj ⟨rfl, X⟩;walk_at "w";refine gG (fun _ => ?_) (fun _ => ?_)
        · walk_at "w";refine dj fun l0 Hc sc nc gc => ?_
          walk_at "w";obtain ⟨x, ex, mx, _⟩ := pB (xs := [V.int 2, V.int 1, V.int (-1), V.int 0]) (i := first % 4) (mP _ (by decide)) (by have := iZ first (show (0 : Int) < 4 by decide); simpa using this)
          obtain ⟨z, rfl, hz⟩ : ∃ z : Int, x = .int z /\ z.natAbs ≤ 2 := by
            simp only [aB, aL, or_false] at mx;rcases mx with rfl | rfl | rfl | rfl
            · exact ⟨2, rfl, by decide⟩
            · exact ⟨1, rfl, by decide⟩
            · exact ⟨-1, rfl, by decide⟩
            · exact ⟨0, rfl, by decide⟩
          refine b9 (bJ.of gc) ex ?_;walk_at "w";refine fj (El (by lia) (by lia)) ?_;walk_at "w";refine cu fun t Hb sb gb => ?_
          walk_at "w";obtain ⟨zs, gz, lz, Xz⟩ := ((X.same sc).same sb).put ap nr nb nq hp0 (cf.mk (q := ((z * (if decide ((i : Int) = (j : Int)) = true then (1 : Int) else 0) : Int) : Rat)) gb rfl) (rY (by split <;> lia) W1) j;refine eV gz (fD (by lia)) rfl ?_;exact ⟨⟨_, rfl⟩, Xz⟩
        · walk_at "w";exact ⟨⟨_, rfl⟩, X⟩
      · rintro σ' Hj ⟨⟨x3, rfl⟩, X⟩;walk_at "w";refine ⟨.inl ⟨rfl, _, bJ.of X.gr⟩, ?_⟩;walk_at "w";refine oZ X.gr (bT (by lia)) ?_;refine ⟨_, _, _, us ++ [.ref p], rfl, aG, by simp [lu], yr nd pn, fun x hx => ?_, X.bag.upd X.inn rb rq, X.inn.upd rb, X.up.after n1⟩;rcases aw.mp hx with hx | hx
        · exact (X.ru x hx).other X.gr nr
        · have e : x = V.ref p := by simpa using hx
          rw [e]; exact X.rp.other X.gr nr
    · rintro σ' H' ⟨x1, x2, x3, us, rfl, gu, lu, nd, ru, B', I', u'⟩;walk_at "w";exact k r us H' n1 gu lu nd (by rw [eA] at ru; exact ru) B' u'
theorem dA:aZ ["_law_bag_here","_law_n","_law_ins","_law_outs","_law_wide","_law_way","_law_first","_law_move_here","_law_put","_law_look","_law_k","_law_row_here"] ["_law_bag_here","_law_n","_law_ins","_law_outs","_law_wide"] (ax gW):=by walk_at "d"
theorem zv (T : Txt K mg Z) : cC P w K mg base iq 5 Z.mE Z.lY ["_law_bag_here", "_law_n", "_law_ins", "_law_outs", "_law_wide"] (EJ K) := by
  have jw := bx (P := P) (w := w) (base := base) T;have Cv := AM (P := P) (w := w) (base := base) T;have qE := wJ (P := P) (w := w) (base := base) T;have Bi := tO (P := P) (w := w) (base := base) T;refine T.qN.ok dA (fun vs H Q E h => ?_) (fun cdv A outer s H vs Q E hr h => ?_)
  · obtain ⟨b, n, i, o, w, c, rfl, hB, n8, i4, o4, w0, w1, hc, hc20, hcM, k⟩ := h;rfl
  · obtain ⟨b, n, i, o, w, c, rfl, hB, n8, i4, o4, w0, w1, hc, hc20, hcM, k⟩ := h
    refine ⟨_, (av (bD (i := 5) dA.nd rfl (Or.inl rfl) (cP jw hr T.aV T.bo.kp T.bu (ae (pv 0) (ae ak ai))))
      (av (bD (i := 6) dA.nd rfl (Or.inl rfl) (cP jw hr T.aV T.bo.kp T.bu (ae (pv 0) (ae (bK fB (pv 1) ak) ai))))
      (av (bD (i := 7) dA.nd rfl (Or.inl rfl) (cP Cv hr T.u0 T.sE.kp T.wX (ae (pv 0) (ae (pv 1) (ae (pv 5) (ae (pv 6) (ae (pv 4) ai)))))))
      (av (h7 8 ["_law_k"] ["_law_bag_here", "_law_n", "_law_wide"] [0, 1, 4] dA.nd rfl rfl (bZ rfl T.range (ae (pv 2) ai)) (fun _ => (aH (i := 0) (show List.Nodup (α := PySem.Str) ["_law_k", "_law_bag_here", "_law_n", "_law_wide"] by decide +kernel))) (fun _ => ck) (fun _ => (cP qE hr T.nN T.nE.kp T.qe (ae (pv 1) (ae (pv 2) (ae (pv 3) ai))))))
      (av (h7 9 ["_law_k"] ["_law_bag_here", "_law_n", "_law_wide"] [0, 1, 4] dA.nd rfl rfl (bZ rfl T.range (ae (pv 3) ai)) (fun _ => (aH (i := 0) (show List.Nodup (α := PySem.Str) ["_law_k", "_law_bag_here", "_law_n", "_law_wide"] by decide +kernel))) (fun _ => ck) (fun _ => (cP qE hr T.nN T.nE.kp T.qe (ae (pv 1) (ae (pv 2) (ae (pv 3) ai))))))
      (av (eB PassesOwn.never rfl (bZ rfl T.range (ae (pv 1) ai)) (aH (i := 10) dA.nd)
        (av (eB PassesOwn.never rfl (cn (pv 8)) (aH (i := 11) dA.nd)
        (az (cK (PW.pt (o3 (PW.pt (jG (bh dW (pv 5) ak (br _)) (kq (bh zM (pv 10) (pv 6) (br _))))) (ka (PW.pt (jG (bh dW (pv 5) ak (br _)) (jG (bh rL (bK fB (pv 10) ak) (pv 1) (br _)) (kq (bh dW (cP jw hr T.aV T.bo.kp T.bu (ae (pv 0) (ae ak ai))) ak (br _))))))))) (az (ff (de (ae ak (ae ak ai))) (iC (pv 11) (pv 10) set_list))) bS)))
      (az (eB PassesOwn.never rfl (cn (pv 9)) (aH (i := 11) dA.nd)
        (az (cK (PW.pt (o3 (PW.pt (jG (bh dW (pv 5) ak (br _)) (kq (bh zM (pv 10) (pv 6) (br _))))) (ka (PW.pt (jG (bh dW (pv 5) ak (br _)) (jG (bh rM (pv 10) ak (br _)) (kq (bh dW (cP jw hr T.aV T.bo.kp T.bu (ae (pv 0) (ae ak ai))) ak (br _))))))))) (az (ff (de (ae ak (ae ak ai))) (iC (pv 11) (pv 10) set_list))) bS))))))
      (az (aP (cP Bi hr T.oK T.mK.kp T.qf (ae (pv 0) (ae (pv 7) (ae (pv 8) (ae (pv 9) ai))))))))))))), ?_⟩
    refine aO (σ := [some (.ref b), some (.int n), some (.int i), some (.int o), some (.int w), none, none, none, none, none, none, none]) rfl ?_;have W1 : 1 ≤ max w 6 := by lia
    obtain ⟨q0, I0, xs0, gq0⟩ := hB.inner;walk_at "w";refine ⟨b, 6, rfl, hB, by decide, by decide, fun way H1 a0 a1 B1 u1 => ?_⟩;walk_at "w";refine ⟨b, _, rfl, B1, by lia, by lia, fun first H2 f0 f1 B2 u2 => ?_⟩;have u02 := u1.trans u2;walk_at "w";refine ⟨b, n, w, way, first, rfl, B2, n8, w0, w1, fun m us H3 nm0 gm lm ndm rm B3 u3 => ?_⟩;have u03 := u02.trans u3;walk_at "w";refine ⟨by lia, by lia, ?_⟩;refine zZ (n := i) (b := b) (cM K H3) (fun xs => xs.length = n /\ ∀ x ∈ xs, Dr (max w 6) x) B3 (by lia) (fun a u B => a.upto u B B3.at) (fun ⟨q, e, _, _, g, _⟩ => ⟨q, e, by rw [g]; exact fun z => nomatch z⟩) ?_ ?_
    · rintro s H' NY NN hi u B k1;walk_at "w";exact ⟨b, n, w, rfl, B, by lia, w0, w1, fun r xs H2 nr R lx dx B2 u2 => k1 _ xs _ u2 B2 ⟨lx, dx⟩ ⟨r, rfl, u.none B nr, R⟩ ⟨r, rfl, nr⟩⟩
    rintro ws puts H4 p np u4 B4 gp lp ndp hp pr4 nx4;have u04 := u03.trans u4;walk_at "w";refine ⟨by lia, by lia, ?_⟩;refine zZ (n := o) (b := b) (cM K H4) (fun xs => xs.length = n /\ ∀ x ∈ xs, Dr (max w 6) x) B4 (by lia) (fun a u B => a.upto u B B4.at) (fun ⟨q, e, _, _, g, _⟩ => ⟨q, e, by rw [g]; exact fun z => nomatch z⟩) ?_ ?_
    · rintro s H' NY NN hi u B k1;walk_at "w";exact ⟨b, n, w, rfl, B, by lia, w0, w1, fun r xs H2 nr R lx dx B2 u2 => k1 _ xs _ u2 B2 ⟨lx, dx⟩ ⟨r, rfl, u.none B nr, R⟩ ⟨r, rfl, nr⟩⟩
    rintro vs looks H5 l nl u5 B5 gl ll ndl hl pr5 nx5;have u05 := u04.trans u5;have hm0 : H m = none := u02.none B2 nm0;have hp0 : H p = none := u03.none B3 np;have hl0 : H l = none := u04.none B4 nl;have mb : m ≠ b := fun z => B2.at (by rw [<- z]; exact nm0)
    have pb : p ≠ b := fun z => B3.at (by rw [<- z]; exact np)
    have lb : l ≠ b := fun z => B4.at (by rw [<- z]; exact nl)
    have gm4 := u4.other mb gm;have gm5 := u5.other mb gm4;have gp5 := u5.other pb gp;have mp : m ≠ p := fun z => by rw [z, np] at gm; cases gm
    have ml : m ≠ l := fun z => by rw [z, nl] at gm4; cases gm4
    have pl : p ≠ l := fun z => by rw [z, nl] at gp; cases gp
    have mq : m ≠ q0 := fun z => Inner.at B2 (u02.2 _ I0) (by rw [<- z]; exact nm0)
    obtain ⟨A, eA⟩ : ∃ A : Addr → Prop, A = fun q => H q = none /\ q ≠ m /\ q ≠ p /\ q ≠ l := ⟨_, rfl⟩
    have mkA : ∀ {q}, H q = none → q ≠ m → q ≠ p → q ≠ l → A q := fun h1 h2 h3 h4 => by rw [eA]; exact ⟨h1, h2, h3, h4⟩
    have unA : ∀ {q}, A q → H q = none /\ q ≠ m /\ q ≠ p /\ q ≠ l := fun h => by rw [eA] at h; exact h
    have MA : Ct A m p l b q0 := ⟨fun z => (unA z).2.1 rfl, fun z => (unA z).2.2.1 rfl, fun z => (unA z).2.2.2 rfl, fun z => hB.at (unA z).1, (fun z => by have z1 := (unA z).1; rw [gq0] at z1; cases z1), mb, pb, lb, mp, ml, mq⟩;clear eA;have lws : ws.length = i := by rw [<- pr4.length]; exact lp
    have lvs : vs.length = o := by rw [<- pr5.length]; exact ll
    have alM : ∀ q, V.ref q ∈ us → H3 q ≠ none /\ q ≠ b /\ H4 q ≠ none := fun q hq => by
      obtain ⟨q', qs, e, ⟨a1, a2⟩, r, z⟩ := rm _ hq;cases e;have qb : q ≠ b := fun y => B2.at (by rw [<- y]; exact a1)
      obtain ⟨xq, gq, _⟩ := id r;obtain ⟨xq4, gq4, _⟩ := r.upto u4 B3 qb;exact ⟨(by rw [gq]; exact fun z => nomatch z), qb, (by rw [gq4]; exact fun z => nomatch z)⟩
    have alP : ∀ q, V.ref q ∈ ws → H3 q = none /\ H4 q ≠ none := fun q hq => by
      obtain ⟨_, _, q', e, a, _, g, _⟩ := df pr4 hq;cases e;exact ⟨a, by rw [g]; exact fun z => nomatch z⟩
    have alL : ∀ q, V.ref q ∈ vs → H4 q = none := fun q hq => by
      obtain ⟨_, _, q', e, a, _⟩ := df pr5 hq;cases e;exact a
    have isR : ∀ x, x ∈ us \/ x ∈ ws \/ x ∈ vs → ∃ q, x = V.ref q := fun x hx => by
      rcases hx with hx | hx | hx
      · obtain ⟨q, _, e, _⟩ := rm x hx; exact ⟨q, e⟩
      · obtain ⟨_, _, q, e, _⟩ := df pr4 hx; exact ⟨q, e⟩
      · obtain ⟨_, _, q, e, _⟩ := df pr5 hx; exact ⟨q, e⟩
    have nd : (us ++ vs ++ ws).Nodup := by
      refine cN.mpr ⟨cN.mpr ⟨ndm, ndl, fun x hx y hy e => ?_⟩, ndp, fun x hx y hy e => ?_⟩
      · subst e;obtain ⟨q, rfl⟩ := isR x (.inl hx);exact (alM q hx).2.2 (alL q hy)
      · subst e;obtain ⟨q, rfl⟩ := isR x (.inr (.inl hy));rcases aw.mp hx with hx | hx
        · exact (alM q hx).1 (alP q hy).1
        · exact (alP q hy).2 (alL q hx)
    have X5 : DF K A n (Dr (max w 6)) m p l b q0 us ws vs H H5 := by
      refine ⟨⟨B5, u05.2 _ I0, gm5, gp5, gl, lm, fun x hx => ?_, nd⟩, gp5, gl, fun c u e n1 _ _ => u05.1 c u e n1⟩;rcases aw.mp hx with hx | hx
      · rcases aw.mp hx with hx | hx
        · obtain ⟨q, qs, e, ⟨a1, a2⟩, r, z⟩ := rm x hx;obtain ⟨xq, gq, _⟩ := id r;have qb : q ≠ b := fun y => B2.at (by rw [<- y]; exact a1)
          have r4 := r.upto u4 B3 qb;obtain ⟨xq4, gq4, _⟩ := id r4;exact ⟨q, qs, e, mkA (u02.none B2 a1) a2 (fun y => by rw [y, np] at gq; cases gq) (fun y => by rw [y, nl] at gq4; cases gq4), r4.upto u5 B4 qb, z⟩
        · refine C4 (A := A) pr5 hl (fun q hq a b' => ?_) x hx;exact mkA (u04.none B4 a) (fun y => by rw [y, gm4] at a; cases a) (fun y => by rw [y, gp] at a; cases a) (fun y => lJ nx5 (by rw [<- y]; exact hq))
      · refine fF.upto (C4 (A := A) pr4 hp (fun q hq a b' => ?_) x hx) u5 B4 MA.ab;exact mkA (u03.none B3 a) (fun y => by rw [y, gm] at a; cases a) (fun y => lJ nx4 (by rw [<- y]; exact hq)) (fun y => b' (by rw [y]; exact nl))
    clear alM alP alL isR rm pr4 pr5 nx4 nx5 gm gm4 gm5 gp gp5 gl hp hl;walk_at "w";refine ⟨by lia, by lia, ?_⟩;refine gN (n := n) (fun kk σ' H' => (∃ x1 x2, σ' = [some (.ref b), some (.int n), some (.int i), some (.int o), some (.int w), some (.int way), some (.int first), some (.ref m), some (.ref p), some (.ref l), x1, x2]) /\ DF K A n (Dr (max w 6)) m p l b q0 us ws vs H H') ⟨⟨_, _, rfl⟩, X5⟩ ?_ ?_
    · rintro kk σ' Hj hk ⟨⟨x1, x2, rfl⟩, X⟩;walk_at "w";refine ⟨⟨_, bJ.of X.gp⟩, ?_⟩;refine fJ (K := K) (a := p) (xs := ws) (fun s σ' H' => (∃ x2, σ' = [some (.ref b), some (.int n), some (.int i), some (.int o), some (.int w), some (.int way), some (.int first), some (.ref m), some (.ref p), some (.ref l), some (.int kk), x2]) /\ DF K A n (Dr (max w 6)) m p l b q0 us ws vs H H') ⟨⟨_, rfl⟩, X⟩ (fun s σ' H' _ ⟨_, e⟩ => bJ.of e.gp) ?_ ?_
      · rintro s x σ' Hk hx ⟨⟨y2, rfl⟩, X⟩;have mx := ay hx;obtain ⟨q, _, rfl, _⟩ := X.row (.inl mx)
        repeat' (first | walk_at "rd" | refine gG (fun _ => ?_) (fun _ => ?_))
        all_goals first
          | exact ⟨⟨_, rfl⟩, X⟩
          | (refine cu fun t Hb sb gb => ?_
             walk_at "w";obtain ⟨zs, gz, lz, Xz⟩ := (X.same sb).put MA (.inl mx) (cf.mk (q := 0) gb rfl) (rY (i := 0) (aT _) W1) kk;refine eV gz (fD (by lia)) rfl ?_;exact ⟨⟨_, rfl⟩, Xz⟩)
          | (refine ⟨b, 2, rfl, X.mix.bag, by decide, by decide, fun d Hd d0 d1 Bd ud => ?_⟩
             replace X := X.upto MA ud Bd
             repeat' (first | walk_at "rd" | refine gG (fun _ => ?_) (fun _ => ?_))
             all_goals first
               | exact ⟨⟨_, rfl⟩, X⟩
               | (refine cu fun t Hb sb gb => ?_
                  walk_at "w";obtain ⟨zs, gz, lz, Xz⟩ := (X.same sb).put MA (.inl mx) (cf.mk (q := 0) gb rfl) (rY (i := 0) (aT _) W1) kk;refine eV gz (fD (by lia)) rfl ?_;exact ⟨⟨_, rfl⟩, Xz⟩))
      · rintro σ' Hk ⟨⟨y2, rfl⟩, X⟩;walk_at "w";refine ⟨⟨_, bJ.of X.gl⟩, ?_⟩;refine fJ (K := K) (a := l) (xs := vs) (fun s σ' H' => (∃ x2, σ' = [some (.ref b), some (.int n), some (.int i), some (.int o), some (.int w), some (.int way), some (.int first), some (.ref m), some (.ref p), some (.ref l), some (.int kk), x2]) /\ DF K A n (Dr (max w 6)) m p l b q0 us ws vs H H') ⟨⟨_, rfl⟩, X⟩ (fun s σ' H' _ ⟨_, e⟩ => bJ.of e.gl) ?_ ?_
        · rintro s x σ' Hk hx ⟨⟨y2, rfl⟩, X⟩;have mx := ay hx;obtain ⟨q, _, rfl, _⟩ := X.row (.inr mx)
          repeat' (first | walk_at "rd" | refine gG (fun _ => ?_) (fun _ => ?_))
          all_goals first
            | exact ⟨⟨_, rfl⟩, X⟩
            | (refine cu fun t Hb sb gb => ?_
               walk_at "w";obtain ⟨zs, gz, lz, Xz⟩ := (X.same sb).put MA (.inr mx) (cf.mk (q := 0) gb rfl) (rY (i := 0) (aT _) W1) kk;refine eV gz (fD (by lia)) rfl ?_;exact ⟨⟨_, rfl⟩, Xz⟩)
            | (refine ⟨b, 2, rfl, X.mix.bag, by decide, by decide, fun d Hd d0 d1 Bd ud => ?_⟩
               replace X := X.upto MA ud Bd
               repeat' (first | walk_at "rd" | refine gG (fun _ => ?_) (fun _ => ?_))
               all_goals first
                 | exact ⟨⟨_, rfl⟩, X⟩
                 | (refine cu fun t Hb sb gb => ?_
                    walk_at "w";obtain ⟨zs, gz, lz, Xz⟩ := (X.same sb).put MA (.inr mx) (cf.mk (q := 0) gb rfl) (rY (i := 0) (aT _) W1) kk;refine eV gz (fD (by lia)) rfl ?_;exact ⟨⟨_, rfl⟩, Xz⟩))
        · rintro σ' Hk ⟨⟨y2, rfl⟩, X⟩;exact ⟨⟨_, _, rfl⟩, X⟩
    · rintro σ' Hj ⟨⟨x1, x2, rfl⟩, X⟩
      obtain ⟨M1, M2, M3, V0, a1, a2, a3, V2, hcs, R1, R2, R3⟩ : ∃ M1 M2 M3 V0 : Nat, (0 < M1 /\ M1 ≤ 2 ^ 800) /\ (0 < M2 /\ M2 ≤ 2 ^ 800) /\ (0 < M3 /\ M3 ≤ 2 ^ 800) /\ V0 ≤ 2 ^ 20 /\ ((w ≤ 9 /\ M1 = 2520 /\ M2 = 2520 /\ M3 = 2520 /\ V0 = 9) \/ (9 < w /\ M1 ≤ 2 ^ (c * (n * n)) /\ M2 ≤ 2 ^ (c * (i * n)) /\ M3 ≤ 2 ^ (c * (o * n)) /\ V0 = 2 ^ c)) /\ (∀ x ∈ us, fF K A Hj n (Fr M1 V0) x) /\ (∀ x ∈ ws, fF K A Hj n (Fr M2 V0) x) /\ ∀ x ∈ vs, fF K A Hj n (Fr M3 V0) x := by
        by_cases w9 : w ≤ 9
        · have XM := X.mix.weak (C' := fun _ => Fr 2520 9) fun _ _ y h => LC ⟨ah h.1 (by lia), ah h.2 (by lia)⟩ (Nat.dvd_refl _)
          have z : 0 < 2520 /\ 2520 ≤ 2 ^ 800 := ⟨by decide, ah (show 2520 ≤ 2 ^ 12 by decide) (au (by decide) (by decide))⟩;exact ⟨2520, 2520, 2520, 9, z, z, z, by decide, .inl ⟨w9, rfl, rfl, rfl, rfl⟩, fun x hx => XM.row x (by simp [hx]), fun x hx => XM.row x (by simp [hx]), fun x hx => XM.row x (by simp [hx])⟩
        · obtain ⟨M1, M2, M3, a1, a2, a3, b1, b2, b3, R1, R2, R3⟩ := (X.mix.weak (C' := fun _ => Dr (2 ^ c)) fun _ _ y h => ⟨ah h.1 hc, ah h.2 hc⟩).fr3;rw [lws] at b2;rw [lvs] at b3;have up : ∀ {M k : Nat}, M ≤ 2 ^ (c * k) → k ≤ (n + i + o) * n → M ≤ 2 ^ 800 := fun h hk => ah h (au (by decide) (ah (bL _ hk) hcM))
          exact ⟨M1, M2, M3, 2 ^ c, ⟨a1, up b1 (aD _ (by lia))⟩, ⟨a2, up b2 (aD _ (by lia))⟩, ⟨a3, up b3 (aD _ (by lia))⟩, au (by decide) hc20, .inr ⟨by lia, b1, b2, b3, rfl⟩, R1, R2, R3⟩
      obtain ⟨μ, e2, e3, e1, e4⟩ := GS ws vs M1 M2 M3;obtain ⟨ap1, ap2⟩ := X.mix.apart
      have XM : jU K A Hj n (fun x => Fr (μ x) V0) m p l b q0 us ws vs := by
        refine ⟨X.mix.bag, X.mix.inn, X.mix.gm, X.mix.gp, X.mix.gl, X.mix.lm, fun x hx => ?_, X.mix.nd⟩;rcases aw.mp hx with hx | hx
        · rcases aw.mp hx with hx | hx
          · rw [e1 x (ap1 x hx).1 (ap1 x hx).2]; exact R1 x hx
          · rw [e3 x hx (ap2 x hx)]; exact R3 x hx
        · rw [e2 x hx]; exact R2 x hx
      have p1 : ∀ x, 0 < μ x := fun x => by
        rcases e4 x with e | e | e
        · rw [e]; exact a1.1
        · rw [e]; exact a2.1
        · rw [e]; exact a3.1
      have p2 : ∀ x, μ x ≤ 2 ^ 800 := fun x => by
        rcases e4 x with e | e | e
        · rw [e]; exact a1.2
        · rw [e]; exact a2.2
        · rw [e]; exact a3.2
      have gmj := X.mix.gm;walk_at "w";refine ⟨b, m, p, l, q0, n, V0, μ, A, us, ws, vs, rfl, MA, XM, n8, by lia, by lia, p1, p2, ⟨M1, e1⟩, V2, fun q hq => ?_, fun r us' H' g Y kp => ?_⟩
      · refine mkA ?_ (fun z => by rw [z, gmj] at hq; cases hq) (fun z => by rw [z, X.gp] at hq; cases hq) (fun z => by rw [z, X.gl] at hq; cases hq);cases e : H q with
        | none => rfl
        | some u =>
          have := X.kp q u e (fun z => X.mix.bag.at (by rw [<- z]; exact hq)) (fun z => by have := (unA z).1; rw [e] at this; cases this) (fun z => by rw [z, hm0] at e; cases e);rw [hq] at this; cases this
      · obtain ⟨yp1, yp2⟩ := Y.apart;obtain ⟨mv, Gm, lmv, hmv⟩ := kb (H0 := H) (n := n) (C := Fr M1 (9 ^ 3 * V0)) (m := n) ⟨us', Y.gm, Y.lm, MA.am, fun x hx => by have := Y.row x (by simp [hx]); rwa [e1 x (yp1 x hx).1 (yp1 x hx).2] at this⟩ fun q h => (unA h).1
        obtain ⟨pt, Gp, lpt, hpt⟩ := kb (H0 := H) (n := n) (C := Fr M2 (9 ^ 3 * V0)) (m := i) ⟨ws, Y.gp, lws, MA.ap, fun x hx => by have := Y.row x (by simp [hx]); rwa [e2 x hx] at this⟩ fun q h => (unA h).1
        obtain ⟨lk, Gl, llk, hlk⟩ := kb (H0 := H) (n := n) (C := Fr M3 (9 ^ 3 * V0)) (m := o) ⟨vs, Y.gl, lvs, MA.al, fun x hx => by have := Y.row x (by simp [hx]); rwa [e3 x hx (yp2 x hx)] at this⟩ fun q h => (unA h).1
        refine k r mv pt lk H' ⟨m, p, l, g, hm0, hp0, hl0, Gm, Gp, Gl⟩ lmv lpt llk ⟨by lia, by lia, by lia, fun xs hx => by rw [(hmv xs hx).1, lmv], fun xs hx => by rw [(hpt xs hx).1, lmv], fun xs hx => by rw [(hlk xs hx).1, lmv]⟩ ⟨M1, M2, M3, 9 ^ 3 * V0, a1.1, a2.1, a3.1, fun xs hx => (hmv xs hx).2, fun xs hx => (hpt xs hx).2, fun xs hx => (hlk xs hx).2, ?_⟩ Y.bag ⟨fun c' u e n1 => (X.kp.trans kp) c' u e n1 (fun z => by have := (unA z).1; rw [e] at this; cases this) (fun z => by rw [z, hm0] at e; cases e), fun q h => by rw [<- Inner.inj I0 h]; exact Y.inn⟩;rcases hcs with ⟨b1, b2, b3, b4, b5⟩ | ⟨b1, b2, b3, b4, b5⟩
        · exact .inl ⟨b1, b2, b3, b4, by rw [b5]⟩
        · exact .inr ⟨b1, b2, b3, b4, by rw [b5]⟩
theorem iG:aZ ["_law_bag_here","_law_n","_law_ins","_law_outs","_law_wide"] ["_law_bag_here"] (ax gZ):=by walk_at "d"
theorem tQ (T:Txt K mg Z):cC P w K mg base iq 6 Z.mH Z.md ["_law_bag_here"] (CT K):=by
 refine T.mM.ok iG (fun vs H Q E h=>?_) (fun cdv A outer s H vs Q E hr h=>?_)
 ·obtain ⟨b,rfl,hB,k⟩:=h;rfl
 ·obtain ⟨b,rfl,hB,k⟩:=h
  refine ⟨_,(av (cK (bh dW (cP (bx T) hr T.aV T.bo.kp T.bu (ae (pv 0) (ae ak ai))) ak (br _)) (az (aP (de (ae (cP (AN T) hr T.u6 T.sF.kp T.wY (ae (pv 0) ai)) (ae ak ai))))) bS)
   (av (ff (cP (zo T) hr T.tW T.qL.kp T.vD (ae (pv 0) ai)) (ux rfl (cy (aH (i:=1) iG.nd) (cy (aH (i:=2) iG.nd) (cy (aH (i:=3) iG.nd) (cy (aH (i:=4) iG.nd) jH))))))
   (az (aP (de (ae (cP (zv T) hr T.tY T.qN.kp T.vF (ae (pv 0) (ae (pv 1) (ae (pv 2) (ae (pv 3) (ae (pv 4) ai)))))) (ae (bH (sW rfl) (by rfl) T.min PyProof.Rows.boot_min (ae (pv 4) (ae ak ai))) ai))))))),?_⟩
  refine aO (σ:=[some (.ref b),none,none,none,none]) rfl ?_;have sf:∀{mv pt lk:List (List Rat)} {M V1:Nat},0 < M->M<=2^400->V1<=2^30->GF M V1 mv->GF M V1 pt->GF M V1 lk->Kg mv pt lk:=fun h0 h1 h2 a b c=>⟨_,_,h0,h1,ah h2 (au (by decide) (by decide)),a,b,c⟩
  have et:∀{mv:List (List Rat)},(cG mv mv.length).length=mv.length:=fL;walk_at "w";refine ⟨b,16,rfl,hB,by decide,by decide,fun v H2 v0 v1 B2 u2=>?_⟩;walk_at "w";refine gG (fun h0=>?_) (fun h0=>?_)
  ·walk_at "w";refine ⟨b,rfl,B2,fun r4 mv pt lk H4 P4 l6 D fm fp fl B4 u4=>?_⟩;have d8:=D.n8;walk_at "w";refine cu fun t H5 s5 g5=>?_
   exact k t r4 4 mv pt lk H5 g5 ((P4.weak fun q h=>u2.none B2 h).same s5) D (sf (by decide) bG (by decide) fm fp fl) (.inl ⟨by decide,by decide,by decide,by decide,by decide,xp fm,fl,ah (aD _ (show (cG mv mv.length).length+4<=12 by rw[et];lia)) (by decide)⟩) (by decide) (by decide) (B4.same s5) ((u2.trans u4).same s5)
  ·walk_at "w";refine ⟨b,rfl,B2,fun r n i o w H1 g1 n5 i4 o4 hw h5 B1 u1=>?_⟩;have u02:=u2.trans u1
   obtain ⟨c,hc,hc20,hcM⟩:∃c:Nat,max w 6<=2^c/\c<=20/\c*((n+i+o)*n)<=800/\(9 < w->c=20/\(n+i+o)*n<=20/\n<=2):=by
    have m1:(n+i+o)*n<=13*5:=aK (by lia) n5;rcases hw with rfl | rfl | ⟨rfl,n2⟩
    ·exact ⟨4,by decide,by decide,by lia,fun z=>by lia⟩
    ·exact ⟨4,by decide,by decide,by lia,fun z=>by lia⟩
    ·have m2:(n+i+o)*n<=10*2:=aK (by lia) n2;exact ⟨20,by decide,by decide,by lia,fun _=>⟨rfl,by lia,n2⟩⟩
   obtain ⟨hcM,hbig⟩:=hcM;walk_at "w";refine ⟨b,n,i,o,w,c,rfl,B1,by lia,i4,o4,by lia,by lia,hc,hc20,hcM,fun r4 mv pt lk H4 P4 lm lp ll D PG B4 u4=>?_⟩;have hmin:(if (1000:Int) < (w:Int) then (1000:Int) else (w:Int))=((min w 1000:Nat):Int):=by split <;> lia
   have SF:Kg mv pt lk:=by
    obtain ⟨M,V1,M0,fm,fp,fl,hcs⟩:=PG.n;rcases hcs with ⟨w9,rfl,rfl⟩ | ⟨w9,M1,rfl⟩
    ·exact sf (by decide) (ah (show 2520<=2^12 by decide) (au (by decide) (by decide))) (by decide) fm fp fl
    ·obtain ⟨rfl,e1,e2⟩:=hbig w9;exact sf M0 (ah M1 (au (by decide) (by lia))) (by decide) fm fp fl
   have RG:Rg (cG mv mv.length) lk (min w 1000):=by
    obtain ⟨M1,M2,M3,V1,a1,a2,a3,f1,f2,f3,hc'⟩:=PG;rcases hc' with ⟨w9,rfl,rfl,rfl,rfl⟩ | ⟨w9,b1,b2,b3,rfl⟩
    ·exact .inr (.inl ⟨by lia,by rw[et];lia,by decide,by decide,by decide,by decide,xp f1,f3,ah (aD _ (show (cG mv mv.length).length+4<=9 by rw[et];lia)) (by decide)⟩)
    ·obtain ⟨rfl,e1,e2⟩:=hbig w9;have q1:n*n<=2*2:=aK e2 e2;have q2:o*n<=4*2:=aK o4 e2;have w6:w=1000000:=by lia
     exact .inr (.inr ⟨by lia,by rw[et];lia,M1,M3,a1,a3,ah b1 (au (by decide) (by lia)),ah b3 (au (by decide) (by lia)),xp f1,f3,ah (aD _ (show (cG mv mv.length).length+4<=6 by rw[et];lia)) (by decide)⟩)
   walk_at "w";refine cu fun t H5 s5 g5=>?_
   rw[hmin] at g5;exact k t r4 (min w 1000) mv pt lk H5 g5 ((P4.weak fun q h=>u02.none B1 h).same s5) D SF RG (by lia) (by lia) (B4.same s5) ((u02.trans u4).same s5)
theorem xW:aZ ["_law_grid"] ["_law_grid"] (ax fX):=by walk_at "d"
theorem nk (T:Txt K mg Z):cC P w K mg base iq 1 Z.kS Z.kD ["_law_grid"] (CU K):=by
 refine T.iM.ok xW (fun vs H Q E h=>?_) (fun cdv A outer s H vs Q E hr h=>?_)
 ·obtain ⟨p,H0,rows,rfl,hp,hl,hm,k⟩:=h;rfl
 ·obtain ⟨p,H0,rows,rfl,hp,hl,hm,k⟩:=h;refine ⟨_,(az (aP (cm ["_law_row_here"] [] [] (cn (pv 0)) (fun _=>(aH (i:=0) (show List.Nodup (α:=PySem.Str) ["_law_row_here"] by decide +kernel))) (fun _=>ck) (fun _=>(dI (kF K (by rfl)) (by rfl) T.list PyProof.Rows.boot_list (ae (pv 0) ai)))))),?_⟩;refine aO (σ:=[some (.ref p)]) rfl ?_;obtain ⟨xs,gx,qx,_⟩:=id hp;walk_at "w";refine ⟨⟨_,bJ.of gx⟩,?_⟩;refine d5 (K:=K) (F:=cM K H0) (cM K H) id gx qx hl (fun a b=>a.same b) (fun a b=>a.same b) ?_ ?_
  ·rintro i ns x H' NY NN en s ⟨u,rfl,_,zs,gz,qz⟩ k1;walk_at "w";refine ⟨u,zs,rfl,.inl (bJ.of gz),fun l1 hl1=>?_⟩;exact k1 _ _ (aF.new hl1) ⟨l1,rfl,s.none hl1,zs,aG,Paired.imp' (fun _ _ z=>z.same (aF.new hl1)) qz⟩
  ·rintro ys' H' r hr s g pr nx;rw[vM] at pr nx;exact k r H' hr s ⟨ys',g,pr,lJ nx⟩
theorem jD:aZ ["_law_parts_here","_law_move_here","_law_put","_law_look"] ["_law_parts_here"] (ax fU):=by walk_at "d"
theorem yn (T:Txt K mg Z):cC P w K mg base iq 7 Z.kO Z.kz ["_law_parts_here"] (CM K Z.a_System):=by
 refine T.oS.ok jD (fun vs H Q E h=>?_) (fun cdv A outer s H vs Q E hr h=>?_)
 ·obtain ⟨r,H0,mv,pt,lk,rfl,PQ,D,F,k⟩:=h;rfl
 ·obtain ⟨r,H0,mv,pt,lk,rfl,PQ,D,F,k⟩:=h
  refine ⟨_,(av (ff (pv 0) (ux rfl (cy (aH (i:=1) jD.nd) (cy (aH (i:=2) jD.nd) (cy (aH (i:=3) jD.nd) jH)))))
   (az (aP (AG T.mk_System (jc T) (hr.mono (by decide)) rfl T.mg_System T.gB .nil zL (ae (cP (nk T) hr T.jO T.iM.kp T.kI (ae (pv 1) ai)) (ae (cP (nk T) hr T.jO T.iM.kp T.kI (ae (pv 2) ai)) (ae (cP (nk T) hr T.jO T.iM.kp T.kI (ae (pv 3) ai)) ai))))))),?_⟩
  refine aO (σ:=[some (.ref r),none,none,none]) rfl ?_;obtain ⟨m,p,l,g,n1,n2,n3,Gm,Gp,Gl⟩:=id PQ;have d1:=D.n8;have d2:=D.i4;have d3:=D.o4;walk_at "w";refine ⟨m,H0,mv,rfl,Gm,by lia,fun xs hx=>by rw[D.mw xs hx];lia,fun a H1 na s1 Ga=>?_⟩;walk_at "w";refine ⟨p,H0,pt,rfl,Gp.same s1,by lia,fun xs hx=>by rw[D.pw xs hx];lia,fun b H2 nb s2 Gb=>?_⟩;have s12:=s1.trans s2;walk_at "w";refine ⟨l,H0,lk,rfl,Gl.same s12,by lia,fun xs hx=>by rw[D.lw xs hx];lia,fun c H3 nc s3 Gc=>?_⟩;have s13:=s12.trans s3;walk_at "w";intro x dx nx ndx nex;exact ⟨x,dx,a,b,c,H3,H,H1,H2,mv,pt,lk,rfl,nx,ndx,nex,rfl,(Ga.same s2).same s3,Gb.same s3,Gc,D,F.ok.1,F.ok.2.1,F.ok.2.2,fun H' s' S'=>⟨rfl,k x H' (s13.none nx) (s13.trans s') (S'.weak s13)⟩⟩
theorem za:aZ ["_law_bag_here","_law_n","_law_wide"] ["_law_bag_here","_law_n","_law_wide"] (ax gU):=by walk_at "d"
theorem zm (T:Txt K mg Z):cC P w K mg base iq 2 Z.mB Z.lV ["_law_bag_here","_law_n","_law_wide"] CN:=by
 refine T.qK.ok za (fun vs H Q E h=>?_) (fun cdv A outer s H vs Q E hr h=>?_)
 ·obtain ⟨b,n,w,rfl,hB,n8,k⟩:=h;rfl
 ·obtain ⟨b,n,w,rfl,hB,n8,k⟩:=h
  refine ⟨_,(av (cK (bh rM (pv 2) ak (br _)) (az (aP (cP (bx T) hr T.aV T.bo.kp T.bu (ae (pv 0) (ae ak ai))))) bS)
   (av (cK (bh rM (pv 1) ak (br _)) (az (aP (cP (bx T) hr T.aV T.bo.kp T.bu (ae (pv 0) (ae ak ai))))) bS)
   (av (cK (bh rM (pv 1) ak (br _)) (az (aP (bf bO (eF (ae (cP (bx T) hr T.aV T.bo.kp T.bu (ae (pv 0) (ae ak ai))) (ae (pv 1) ai))) (cP (bx T) hr T.aV T.bo.kp T.bu (ae (pv 0) (ae ak ai)))))) bS)
   (av (cK (PW.pt (jG (bh rL (pv 1) ak (br _)) (kq (bh dW (cP (bx T) hr T.aV T.bo.kp T.bu (ae (pv 0) (ae ak ai))) ak (br _))))) (az (aP (cP (bx T) hr T.aV T.bo.kp T.bu (ae (pv 0) (ae ak ai))))) bS)
   (az (aP (cP (bx T) hr T.aV T.bo.kp T.bu (ae (pv 0) (ae ak ai))))))))),?_⟩
  refine aO (σ:=[some (.ref b),some (.int n),some (.int w)]) rfl ?_;walk_at "w";refine gG (fun h0=>?_) (fun h0=>?_)
  ·have h0:=of_decide_eq_true h0;walk_at "w";refine ⟨b,4,rfl,hB,by decide,by decide,fun v H1 v0 v1 B1 u1=>?_⟩;obtain ⟨v,rfl⟩:=bU v0;exact k v H1 ⟨by lia,fun _=>by lia,fun _ _=>by lia,fun _=>by lia⟩ B1 u1
  have h0:¬((9:Int) < w):=fun z=>h0 (decide_eq_true z)
  walk_at "w";refine gG (fun h1=>?_) (fun h1=>?_)
  ·have h1:=of_decide_eq_true h1;walk_at "w";refine ⟨b,13,rfl,hB,by decide,by decide,fun v H1 v0 v1 B1 u1=>?_⟩;obtain ⟨v,rfl⟩:=bU v0;exact k v H1 ⟨by lia,fun _=>by lia,fun _ _=>by lia,fun _=>by lia⟩ B1 u1
  have h1:¬((5:Int) < n):=fun z=>h1 (decide_eq_true z)
  walk_at "w";refine gG (fun h2=>?_) (fun h2=>?_)
  ·have h2:=of_decide_eq_true h2;walk_at "w";refine ⟨b,5,rfl,hB,by decide,by decide,fun v H1 v0 v1 B1 u1=>?_⟩;obtain ⟨v,rfl⟩:=bU v0;walk_at "w";refine dj fun l H2 s2 n2 g2=>?_
   walk_at "w";refine ⟨b,2,rfl,B1.same s2,by decide,by decide,fun c H3 c0 c1 B3 u3=>?_⟩;have g3:=u3.other (fun z=>B1.at (by rw[<- z];exact n2)) g2;obtain ⟨x,ex,mx,_⟩:=pB (xs:=[V.int v,V.int n]) c0 (by simpa using c1);refine b9 (bJ.of g3) ex ?_;have u03:=(u1.same s2).trans u3;simp only[aB,aL,or_false] at mx;rcases mx with rfl | rfl
   ·exact k v H3 ⟨by lia,fun _=>by lia,fun _ _=>by lia,fun _=>by lia⟩ B3 u03
   ·exact k n H3 ⟨by lia,fun _=>by lia,fun _ _=>by lia,fun _=>by lia⟩ B3 u03
  have h2:¬((3:Int) < n):=fun z=>h2 (decide_eq_true z)
  walk_at "w";refine gG (fun h3=>?_) (fun h3=>?_)
  ·have h3:=of_decide_eq_true h3;walk_at "w";refine ⟨b,4,rfl,hB,by decide,by decide,fun c H1 c0 c1 B1 u1=>?_⟩;walk_at "w";refine gG (fun h4=>?_) (fun h4=>?_)
   ·walk_at "w";refine ⟨b,13,rfl,B1,by decide,by decide,fun v H2 v0 v1 B2 u2=>?_⟩;obtain ⟨v,rfl⟩:=bU v0;exact k v H2 ⟨by lia,fun _=>by lia,fun _ _=>by lia,fun _=>by lia⟩ B2 (u1.trans u2)
   ·walk_at "w";refine ⟨b,7,rfl,B1,by decide,by decide,fun v H2 v0 v1 B2 u2=>?_⟩;obtain ⟨v,rfl⟩:=bU v0;exact k v H2 ⟨by lia,fun _=>by lia,fun _ _=>by lia,fun _=>by lia⟩ B2 (u1.trans u2)
  ·walk_at "w";refine ⟨b,7,rfl,hB,by decide,by decide,fun v H2 v0 v1 B2 u2=>?_⟩;obtain ⟨v,rfl⟩:=bU v0;exact k v H2 ⟨by lia,fun _=>by lia,fun _ _=>by lia,fun _=>by lia⟩ B2 u2
theorem nK:aZ ["_law_thing","_law_part"] ["_law_thing"] (ax d4):=by walk_at "d"
theorem uW (T:Txt K mg Z):cC P w K mg base iq 2 Z.ip Z.ib ["_law_thing"] (ET K):=by
 refine T.kj.ok nK (fun vs H Q E h=>?_) (fun cdv A outer s H vs Q E hr h=>?_)
 ·obtain ⟨x,n,rfl,⟨p,rfl,hp⟩,hn,k⟩:=h;rfl
 ·obtain ⟨x,n,rfl,⟨p,rfl,hp⟩,hn,k⟩:=h
  refine ⟨_,(av (cK (PW.pt (o3 (i5 (iB (xy rfl T.isinstance PyProof.Rows.boot_tuple T.tuple (pv 0)))) (ka (bh wG (bH bA (by rfl) T.len bg (ae (pv 0) ai)) ak (br _))))) (az (aP m7)) bS)
   (av (eB PassesOwn.never rfl (Ld (pv 0)) (aH (i:=1) nK.nd)
    (az (cK (PW.pt (o3 (i5 (iB (xy rfl T.isinstance PyProof.Rows.boot_int T.int (pv 1)))) (ka (iB (xy rfl T.isinstance PyProof.Rows.boot_bool T.bool (pv 1)))))) (az (aP m7)) bS)))
   (az (aP (Dd (fA rM (bf cb (pv 0) ak) ak (br _)) (C9 (fA (GI (Cf hr)) (cP (fo T) hr T.eJ T.eT.kp T.fE (ae (bf cb (pv 0) ak) (ae (bf cb (pv 0) ak) ai))) (pv 0) (br _)))))))),?_⟩
  refine aO (σ:=[some (.ref p),none]) rfl ?_;obtain ⟨hb,hg,_,hs⟩:=hn;walk_at "w";refine .inr ⟨p,_,_,rfl,hp,rfl,?_⟩;walk_at "w";refine ⟨_,_,rfl,.inr hp,?_⟩;walk_at "w"
  try refine Hq ?_
  walk_at "w";refine ⟨⟨_,hp⟩,?_⟩;refine Jw (K:=K) (a:=p) (xs:=[.int n.1,.int n.2]) (fun i σ' H'=>H'=H/\∃x,σ'=[some (.ref p),x]) ⟨rfl,none,rfl⟩ (fun i σ' H' _ ⟨e,_⟩=>by subst e;exact hp) ?_ ?_
  ·rintro i x σ' H' hx ⟨rfl,y,rfl⟩
   obtain ⟨z,rfl⟩:∃z,x=V.int z:=by
    have hm:x∈[V.int n.1,V.int n.2]:=ay hx;simp only[aB,aL,or_false] at hm;rcases hm with e | e
    ·exact ⟨_,e⟩
    ·exact ⟨_,e⟩
   walk_at "w";refine .inl ⟨_,_,.int z,rfl,?_⟩;walk_at "w";refine .inl ⟨_,_,.int z,rfl,?_⟩;walk_at "w";exact ⟨rfl,_,rfl⟩
  ·rintro σ' H' ⟨rfl,x,rfl⟩;walk_at "w";rw[decide_eq_true hb];walk_at "w";refine ⟨n.1,n.2,rfl,hb,hs.mono (by decide),fun r H' s1 h'=>?_⟩;obtain ⟨e1,e2⟩:=Ll hb hg;walk_at "w";refine ⟨_,_,ME,(lo n.1 n.2,hi n.1 n.2),n,by decide,⟨r,rfl,qX.of h'⟩,⟨p,rfl,s1.sqt hp⟩,?_⟩;rw[e1,e2,decide_eq_true rfl];exact k _ s1
theorem xV:aZ ["_law_thing","_law_many"] ["_law_thing","_law_many"] (ax fW):=by walk_at "d"
theorem yp (T:Txt K mg Z):cC P w K mg base iq 3 Z.kR Z.kC ["_law_thing","_law_many"] (zE K):=by
 refine T.oU.ok xV (fun vs H Q E h=>?_) (fun cdv A outer s H vs Q E hr h=>?_)
 ·obtain ⟨p,ns,rfl,hp,hl,hn,k⟩:=h;rfl
 ·obtain ⟨p,ns,rfl,hp,hl,hn,k⟩:=h
  refine ⟨_,(av (cK (PW.pt (o3 (i5 (iB (uy rfl T.isinstance PyProof.Rows.boot_list T.list (pv 0)))) (ka (bh wG (bH bA (by rfl) T.len bg (ae (pv 0) ai)) (pv 1) (br _))))) (az (aP m7)) bS)
   (az (aP (bH (yL rfl) (by rfl) T.all PyProof.Rows.boot_all (ae (cm ["_law_one"] [] [] (cn (pv 0)) (fun _=>(aH (i:=0) (show List.Nodup (α:=PySem.Str) ["_law_one"] by decide +kernel))) (fun _=>ck) (fun _=>(cP (uW T) hr T.nP T.kj.kp T.pz (ae (pv 0) ai)))) ai))))),?_⟩
  refine aO (σ:=[some (.ref p),some (.int ns.length)]) rfl ?_;obtain ⟨xs,gx,qx⟩:=id hp;have lx:=qx.length;walk_at "w";refine ⟨_,_,.lst gx,rfl,?_⟩;walk_at "w";refine ⟨_,_,rfl,.inl (bJ.of gx),?_⟩;walk_at "w";rw[show ((xs.length:Nat):Int)=(ns.length:Nat) by rw[lx],decide_eq_true rfl];walk_at "w";refine ⟨⟨_,bJ.of gx⟩,?_⟩;refine d6 (K:=K) (xs:=xs) (fun i ys H'=>aF H H'/\ys=List.replicate i (.bl true)) (bC (bT (by lia))) ⟨aF.refl _,rfl⟩ (fun i ys H' _ ⟨s,_⟩=>bJ.of (s _ _ gx)) ?_ ?_
  ·rintro i x ys H' hx hlen ⟨s,rfl⟩;obtain ⟨n,en,z⟩:=cQ qx hx;walk_at "w";exact ⟨x,n,rfl,s.num z,hn n (ay en),fun H2 s2=>⟨s.trans s2,by rw[Aj]⟩⟩
  ·rintro ys H' hy ⟨s,rfl⟩ l hl';walk_at "w";refine ⟨l,List.replicate xs.length true,rfl,bJ.of (by rw[aG];simp),?_⟩;have e4:(List.replicate xs.length true).all id=true:=by simp
   rw[e4];exact k _ (s.trans (aF.new hl'))
theorem xh:aZ ["_law_thing","_law_many","_law_wide"] ["_law_thing","_law_many","_law_wide"] (ax fe):=by walk_at "d"
theorem xi (T:Txt K mg Z):cC P w K mg base iq 4 Z.jS Z.jQ ["_law_thing","_law_many","_law_wide"] (CS K):=by
 refine T.nF.ok xh (fun vs H Q E h=>?_) (fun cdv A outer s H vs Q E hr h=>?_)
 ·obtain ⟨p,rows,m,rfl,hp,hl,hm,hn,k⟩:=h;rfl
 ·obtain ⟨p,rows,m,rfl,hp,hl,hm,hn,k⟩:=h
  refine ⟨_,(av (cK (PW.pt (o3 (i5 (iB (uy rfl T.isinstance PyProof.Rows.boot_list T.list (pv 0)))) (ka (bh wG (bH bA (by rfl) T.len bg (ae (pv 0) ai)) (pv 1) (br _))))) (az (aP m7)) bS)
   (az (aP (bH (yL rfl) (by rfl) T.all PyProof.Rows.boot_all (ae (cm ["_law_row_here"] ["_law_wide"] [2] (cn (pv 0)) (fun _=>(aH (i:=0) (show List.Nodup (α:=PySem.Str) ["_law_row_here","_law_wide"] by decide +kernel))) (fun _=>ck) (fun _=>(cP (yp T) hr T.rV T.oU.kp T.uf (ae (pv 0) (ae (pv 1) ai))))) ai))))),?_⟩
  refine aO (σ:=[some (.ref p),some (.int rows.length),some (.int m)]) rfl ?_;obtain ⟨xs,gx,qx⟩:=id hp;have lx:=qx.length;walk_at "w";refine ⟨_,_,.lst gx,rfl,?_⟩;walk_at "w";refine ⟨_,_,rfl,.inl (bJ.of gx),?_⟩;walk_at "w";rw[show ((xs.length:Nat):Int)=(rows.length:Nat) by rw[lx],decide_eq_true rfl];walk_at "w";refine ⟨⟨_,bJ.of gx⟩,?_⟩;refine d6 (K:=K) (xs:=xs) (fun i ys H'=>aF H H'/\ys=List.replicate i (.bl true)) (bC (bT (by lia))) ⟨aF.refl _,rfl⟩ (fun i ys H' _ ⟨s,_⟩=>bJ.of (s _ _ gx)) ?_ ?_
  ·rintro i x ys H' hx hlen ⟨s,rfl⟩;obtain ⟨ns,en,q,rfl,z⟩:=cQ qx hx;obtain ⟨e1,e2⟩:=hn ns (ay en);walk_at "w";exact ⟨q,ns,by rw[e1],z.same s,by lia,e2,fun H2 s2=>⟨s.trans s2,by rw[Aj]⟩⟩
  ·rintro ys H' hy ⟨s,rfl⟩ l hl';walk_at "w";refine ⟨l,List.replicate xs.length true,rfl,bJ.of (by rw[aG];simp),?_⟩;have e4:(List.replicate xs.length true).all id=true:=by simp
   rw[e4];exact k _ (s.trans (aF.new hl'))
theorem Ax:aZ ["_law_one","_law_other"] ["_law_one","_law_other"] (ax jk):=by walk_at "d"
theorem AK (T:Txt K mg Z):cC P w K mg base iq 2 Z.ou Z.nW ["_law_one","_law_other"] (By K):=by
 refine T.sC.ok Ax (fun vs H Q E h=>?_) (fun cdv A outer s H vs Q E hr h=>?_)
 ·obtain ⟨p,q,a,b,c,d,rfl,hp,hq,hb,hd,hc,sa,sb,sc,sd,k⟩:=BO h;rfl
 ·obtain ⟨p,q,a,b,c,d,rfl,hp,hq,hb,hd,hc,sa,sb,sc,sd,k⟩:=BO h
  refine ⟨_,(av (cK (bh rL (bf cb (pv 1) ak) ak (br _)) (az (aP (cP (fo T) hr T.eJ T.eT.kp T.fE (ae (bK ng ak (bK cI (bf cb (pv 0) ak) (bf cb (pv 1) ak))) (ae (bK ng ak (bK cI (bf cb (pv 0) ak) (bf cb (pv 1) ak))) ai))))) bS)
   (az (aP (cP (fo T) hr T.eJ T.eT.kp T.fE (ae (bK cI (bf cb (pv 0) ak) (bf cb (pv 1) ak)) (ae (bK cI (bf cb (pv 0) ak) (bf cb (pv 1) ak)) ai)))))),?_⟩
  refine aO (σ:=[some (.ref p),some (.ref q)]) rfl ?_;have sbc:Sz 8999 (b*c):=(sb.mul sc).mono (by decide);walk_at "w";refine gG (fun h=>?_) (fun h=>?_)
  ·have h0:c < 0:=of_decide_eq_true h;have hbc:b*c < 0:=uK hb h0;walk_at "w";refine fj (show fq _ _ from .inr ⟨_,_,sa,sd,by decide⟩) ?_;walk_at "w";refine fj (show fq _ _ from .inr ⟨_,_,sb,sc,by decide⟩) ?_;walk_at "w";refine ⟨_,_,rfl,by lia,by rw[Int.zero_sub];exact sbc.neg,fun r H' s' h'=>?_⟩;exact k r H' s' (by rw[if_pos h0,if_pos h0];exact h')
  ·have h0:¬c < 0:=fun z=>h (decide_eq_true z)
   have hbc:0 < b*c:=iO hb (by lia);walk_at "w";refine fj (show fq _ _ from .inr ⟨_,_,sa,sd,by decide⟩) ?_;walk_at "w";refine fj (show fq _ _ from .inr ⟨_,_,sb,sc,by decide⟩) ?_;walk_at "w";refine ⟨_,_,rfl,hbc,sbc,fun r H' s' h'=>?_⟩;exact k r H' s' (by rw[if_neg h0,if_neg h0];exact h')
theorem AA:aZ ["_law_one","_law_other"] ["_law_one","_law_other"] (ax js):=by walk_at "d"
theorem AO (T:Txt K mg Z):cC P w K mg base iq 2 Z.oA Z.oa ["_law_one","_law_other"] (rD K (fun x y=>x - y)):=by
 refine T.sG.ok AA (fun vs H Q E h=>?_) (fun cdv A outer s H vs Q E hr h=>?_)
 ·obtain ⟨p,q,a,b,c,d,rfl,hp,hq,hb,hd,sa,sb,sc,sd,k⟩:=xu h;rfl
 ·obtain ⟨p,q,a,b,c,d,rfl,hp,hq,hb,hd,sa,sb,sc,sd,k⟩:=xu h;refine ⟨_,(az (aP (cP (fo T) hr T.eJ T.eT.kp T.fE (ae (bK ng (bK cI (bf cb (pv 0) ak) (bf cb (pv 1) ak)) (bK cI (bf cb (pv 1) ak) (bf cb (pv 0) ak))) (ae (bK cI (bf cb (pv 0) ak) (bf cb (pv 1) ak)) ai))))),?_⟩;refine aO (σ:=[some (.ref p),some (.ref q)]) rfl ?_;have hbd:0 < b*d:=iO hb hd;have sbd:Sz 8999 (b*d):=(sb.mul sd).mono (by decide);walk_at "w";refine fj (show fq _ _ from .inr ⟨_,_,sa,sd,by decide⟩) ?_;walk_at "w";refine fj (show fq _ _ from .inr ⟨_,_,sc,sb,by decide⟩) ?_;walk_at "w";refine fj (show fq _ _ from .inr ⟨_,_,sb,sd,by decide⟩) ?_;walk_at "w";walk_at "w";refine ⟨_,_,rfl,hbd,sbd,k⟩
theorem zb:aZ ["_law_one","_law_other"] ["_law_one","_law_other"] (ax gY):=by walk_at "d"
theorem tP (T:Txt K mg Z):cC P w K mg base iq 3 Z.mG Z.ma ["_law_one","_law_other"] (EO K):=by
 refine T.mL.ok zb (fun vs H Q E h=>?_) (fun cdv A outer s H vs Q E hr h=>?_)
 ·obtain ⟨p,q,xs,ys,rfl,hp,hq,hl,hz,h1,h2,kk⟩:=h;rfl
 ·obtain ⟨p,q,xs,ys,rfl,hp,hq,hl,hz,h1,h2,kk⟩:=h;refine ⟨_,(az (aP (cm ["_law_k"] ["_law_one","_law_other"] [0,1] (bZ rfl T.range (ae (bH bA (by rfl) T.len bg (ae (pv 0) ai)) ai)) (fun _=>(aH (i:=0) (show List.Nodup (α:=PySem.Str) ["_law_k","_law_one","_law_other"] by decide +kernel))) (fun _=>ck) (fun _=>(cP (AO T) hr T.u9 T.sG.kp T.wZ (ae (bf (fI K (by rfl)) (pv 1) (pv 0)) (ae (bf (fI K (by rfl)) (pv 2) (pv 0)) ai))))))),?_⟩;refine aO (σ:=[some (.ref p),some (.ref q)]) rfl ?_;obtain ⟨us,gu,qu⟩:=id hp;obtain ⟨ws,gw,qw⟩:=id hq;have lu:=qu.length;walk_at "w";refine ⟨_,_,rfl,.inl (bJ.of gu),?_⟩;walk_at "w";refine ⟨by lia,by lia,?_⟩;refine dm (n:=us.length) (cf K) (fun i=>xs.getD i 0 - ys.getD i 0) (by lia) (fun a b=>a.same b) ?_ ?_
  ·rintro i H' NY NN hi s k1;have ix:i < xs.length:=by lia
   have iy:i < ys.length:=by lia
   obtain ⟨vx,ex,nx⟩:=Ce (Paired.imp' (fun _ _ z=>z.same s) qu) ix;obtain ⟨vy,ey,ny⟩:=Ce (Paired.imp' (fun _ _ z=>z.same s) qw) iy;walk_at "w";refine b9 (bJ.of (s _ _ gu)) ex ?_;walk_at "w";refine b9 (bJ.of (s _ _ gw)) ey ?_;walk_at "w";exact ⟨_,_,_,_,rfl,nx,ny,h1 _ (getD_mem ix),h2 _ (getD_mem iy),fun r3 H3 s3 n3=>k1 _ _ s3 n3⟩
  ·rintro ys' H' l hl' s g pr nx;exact kk l H' hl' s ⟨ys',g,by rw[CB (by lia)];rw[<- lu] at pr;exact pr⟩
theorem dh:aZ ["_law_rows","_law_wide","_law_found","_law_left","_law_at","_law_first","_law_lead"] ["_law_rows","_law_wide"] (ax fb):=by walk_at "d"
theorem qS (T:Txt K mg Z):cC P w K mg base iq 4 Z.jR Z.jP ["_law_rows","_law_wide"] (CQ K):=by
 refine T.jW.ok dh (fun vs H Q E h=>?_) (fun cdv A outer s H vs Q E hr h=>?_)
 ·obtain ⟨p,n,S,H0,rows,rfl,G,r100,n100,hw,⟨e39,J,j0,jskip,jlean,jlw,jsz⟩,k⟩:=h;rfl
 ·obtain ⟨p,n,S,H0,rows,rfl,G,r100,n100,hw,⟨e39,J,j0,jskip,jlean,jlw,jsz⟩,k⟩:=h
  refine ⟨_,(av (bD (i:=2) dh.nd rfl (Or.inl rfl) (eF ai))
   (av (h7 3 ["_law_row_here"] [] [] dh.nd rfl rfl (cn (pv 0)) (fun _=>(aH (i:=0) (show List.Nodup (α:=PySem.Str) ["_law_row_here"] by decide +kernel))) (fun _=>ck) (fun _=>(dI (kF K (by rfl)) (by rfl) T.list PyProof.Rows.boot_list (ae (pv 0) ai))))
   (av (eB PassesOwn.never rfl (bZ rfl T.range (ae (pv 1) ai)) (aH (i:=4) dh.nd rfl (Or.inr rfl) (Or.inl rfl))
    (av (h7 5 ["_law_row_here"] ["_law_at"] [4] dh.nd rfl rfl (cn (pv 3)) (fun _=>(aH (i:=0) (show List.Nodup (α:=PySem.Str) ["_law_row_here","_law_at"] by decide +kernel))) (fun _=>C8 (bh (DX K (by rfl) (Cf hr)) (bf (fI K (by rfl)) (pv 0) (pv 1)) (de (ae ak (ae ak ai))) (br _))) (fun _=>(pv 0)))
   (az (cK (bh rM (bH bA (by rfl) T.len bg (ae (pv 5) ai)) ak (br _)) (av (bD (i:=6) dh.nd rfl (Or.inr rfl) (cP (pQ T) hr T.nA T.mZ.kp T.pA (ae (cP (AK T) hr T.uY T.sC.kp T.wV (ae (de (ae ak (ae ak ai))) (ae (bf bO (bf bO (pv 5) ak) (pv 4)) ai))) (ae (bf bO (pv 5) ak) ai))))
   (av (kr (yd dn PySem.F.slot_list_remove PySem.F.type_list_remove (Fd (Cf hr)) (pv 3) (ae (bf bO (pv 5) ak) ai)))
   (av (h7 3 ["_law_row_here"] ["_law_at","_law_lead"] [4,6] dh.nd rfl rfl (cn (pv 3)) (fun _=>(aH (i:=0) (show List.Nodup (α:=PySem.Str) ["_law_row_here","_law_at","_law_lead"] by decide +kernel))) (fun _=>ck) (fun _=>(cP (tP T) hr T.oM T.mL.kp T.qg (ae (pv 0) (ae (cP (pQ T) hr T.nA T.mZ.kp T.pA (ae (bf (fI K (by rfl)) (pv 0) (pv 1)) (ae (pv 2) ai))) ai)))))
   (az (bD (i:=2) dh.nd rfl (Or.inl rfl) (bK De (cm ["_law_row_here"] ["_law_at","_law_lead"] [4,6] (cn (pv 2)) (fun _=>(aH (i:=0) (show List.Nodup (α:=PySem.Str) ["_law_row_here","_law_at","_law_lead"] by decide +kernel))) (fun _=>ck) (fun _=>(cP (tP T) hr T.oM T.mL.kp T.qg (ae (pv 0) (ae (cP (pQ T) hr T.nA T.mZ.kp T.pA (ae (bf (fI K (by rfl)) (pv 0) (pv 1)) (ae (pv 2) ai))) ai))))) (eF (ae (pv 6) ai)))))))) bS))))
   (az (aP (pv 2)))))),?_⟩
  refine aO (σ:=[some (.ref p),some (.int n),none,none,none,none,none]) rfl ?_;obtain ⟨xs,gx,qx,_⟩:=id G;have szT:∀{D:Nat} {x:Rat},0 < D->D<=2^S->Tp D (2^S) x->qW x:=fun h0 h1 t=>uq t h0 (ah h1 (au (by decide) (by lia))) (au (by decide) (by lia))
  have szP:∀{D D':Nat} {x y:Rat},0 < D->0 < D'->D<=2^S->D'<=2^S->Tp D (2^S) x->Tp D' (2^S) y->qW (x*y):=fun h0 h0' h1 h1' t t'=>uq (t.mul t') (dq h0 h0') (ah (aK h1 h1') (by rw[<- bM];exact au (by decide) (by lia))) (by rw[<- bM];exact au (by decide) (by lia))
  walk_at "w";refine dj fun fd Hz sz nf gf=>?_
  walk_at "w";refine ⟨⟨_,bJ.of (sz _ _ gx)⟩,?_⟩;refine d5 (K:=K) (F:=cM K H0) (cM K Hz) id (sz _ _ gx) (Paired.imp' (fun _ _ z=>cM.same z sz) qx) (by lia) (fun a b=>a.same b) (fun a b=>a.same b) ?_ ?_
  ·rintro i ns x H' NY NN en s ⟨u,rfl,_,zs,gz,qz⟩ k1;walk_at "w";refine ⟨u,zs,rfl,.inl (bJ.of gz),fun l1 hl1=>?_⟩;exact k1 _ _ (aF.new hl1) ⟨l1,rfl,s.none hl1,zs,aG,Paired.imp' (fun _ _ z=>z.same (aF.new hl1)) qz⟩
  rintro ys1 H1 L hL s1 g1 pr1 nx1;rw[vM] at pr1 nx1;have GL1:bF K Hz H1 L rows:=⟨ys1,g1,pr1,lJ nx1⟩;have GL1:=GL1.weak sz;have fdL:fd≠L:=fun z=>by rw[<- z,gf] at hL;cases hL
  clear g1 pr1 nx1;walk_at "w";refine ⟨by lia,by lia,?_⟩;refine gN (n:=n) (fun P σ' H'=>aF H H'/\∃lp fp ls fs ps vs y1 y2 y3,σ'=[some (.ref p),some (.int n),some (.ref fp),some (.ref lp),y1,y2,y3]/\H lp=none/\H fp=none/\fp≠lp/\bF K H H' lp ls/\H' fp=some (.lst vs)/\Paired (qD K (fun q=>(H q=none/\q≠fp)/\q≠lp) H') fs vs/\fs.length=ps.length/\J P (fs++ls) ps) ⟨sz.trans s1,L,fd,rows,[],[],[],_,_,_,rfl,sz.none hL,nf,fdL,GL1,s1 _ _ gf,.nil,rfl,j0⟩ ?_ ?_
  ·rintro P σ' H' hP ⟨s',lp,fp,ls,fs,ps,vs,y1,y2,y3,rfl,nlp,nfp,fl,GL,gv,pv,hf,JI⟩;have I:=jlw _ _ _ JI;have len:=I.len;rw[ao] at len;have wide:=I.wide;obtain ⟨us,gu,qu,nu⟩:=id GL;have lu:=qu.length;have lv:=pv.length;have ez:∀i,(ls.map fun r=>r.getD P 0).getD i 0=b8 ls i P:=fun i=>Lj
   walk_at "w";refine ⟨⟨_,bJ.of gu⟩,?_⟩;refine d6 (K:=K) (a:=lp) (xs:=us) (fun i ys H''=>aF H' H''/\ys=(yq (ls.map fun r=>r.getD P 0) i).map fun j=>us.getD j .non) (bC (bT (by lia))) ⟨aF.refl _,rfl⟩ (fun i ys H'' _ ⟨s,_⟩=>bJ.of (s _ _ gu)) ?_ ?_
   ·rintro i v ys Hb hv hlen ⟨sb,rfl⟩;obtain ⟨xt,et,qt,rfl,nqt,Rt⟩:=cQ (Paired.imp' (fun _ _ z=>cM.same z sb) qu) hv;have mt:=ay et;have wt:=wide xt (aw.mpr (.inr mt));obtain ⟨zs,gz,qz⟩:=id Rt;obtain ⟨vx,ex,nx⟩:=Ce qz (j:=P) (by lia);have fx:(ls.map fun r=>r.getD P 0).getD i 0=xt.getD P 0:=by rw[ez];unfold b8;rw[aa (l:=ls),et];rfl
    walk_at "w";refine b9 (bJ.of gz) ex ?_;walk_at "w";refine cu fun t0 Hc sc gc=>?_
    walk_at "w";refine ⟨_,_,Ea,xt.getD P 0,0,by decide,nx.same sc,cf.mk (q:=0) gc rfl,?_⟩;by_cases e:xt.getD P 0=0
    ·rw[decide_eq_true e];walk_at "w";refine ⟨sb.trans sc,?_⟩;rw[xA,fx,if_neg (by simpa using e)]
    ·rw[decide_eq_false e];walk_at "w";refine ⟨sb.trans sc,?_⟩;rw[xA,fx,if_pos e,cH,List.map_singleton,aa,hv];rfl
   rw[<- lu];rintro ys Hb hy ⟨sb,rfl⟩ hd hhd;have nzm:∀c,c∈yq (ls.map fun r=>r.getD P 0) ls.length↔c < ls.length/\b8 ls c P≠0:=fun c=>by rw[Dk,ez]
   have nzf:∀t r,yq (ls.map fun r=>r.getD P 0) ls.length=t :: r->∀i,i < t->b8 ls i P=0:=fun t r e i hi=>by rw[<- ez];exact GO e i hi
   generalize yq (ls.map fun r=>r.getD P 0) ls.length=hs at hy hhd nzm nzf;have sn:aF Hb (upd Hb hd (.lst (hs.map fun j=>us.getD j .non))):=aF.new hhd;have gh:(upd Hb hd (.lst (hs.map fun j=>us.getD j .non))) hd=some (.lst (hs.map fun j=>us.getD j .non)):=aG;generalize upd Hb hd (.lst (hs.map fun j=>us.getD j .non))=Hd at sn gh ⊢;have sbd:=sb.trans sn;walk_at "w";refine ⟨_,_,rfl,.inl (bJ.of gh),?_⟩;rw[aj];walk_at "w";cases hs with
   | nil =>
    refine Hq ?_;walk_at "w";refine ⟨s'.trans sbd,lp,fp,ls,fs,ps,vs,_,_,_,rfl,nlp,nfp,fl,GL.same sbd,sbd _ _ gv,Paired.imp' (fun _ _ z=>qD.same z sbd) pv,hf,jskip _ _ _ JI fun i h1 h2=>?_⟩;rw[ao] at h2;obtain ⟨j,rfl⟩:∃j,i=fs.length+j:=⟨i - fs.length,by lia⟩;rw[pC];by_cases z:b8 ls j P=0
    ·exact z
    ·exact absurd ((nzm j).mpr ⟨by lia,z⟩) (by simp)
   | cons t hs' =>
    rw[decide_eq_true (show (0:Int) < ((t :: hs').length:Nat) by rw[aQ];lia)];obtain ⟨tl,hne⟩:=(nzm t).mp (.head _);have tfst:=nzf t hs' rfl;have gud:=sbd _ _ gu;obtain ⟨xt,vt,et,evt,mt,qt,rfl,nqt,Rt⟩:=jb (Paired.imp' (fun _ _ z=>cM.same z sbd) qu) tl;have ext:ls.getD t []=xt:=by rw[aa,et];rfl
    have hne':xt.getD P 0≠0:=by unfold b8 at hne;rw[ext] at hne;exact hne
    have wt:=wide xt (aw.mpr (.inr mt));have qtl:qt≠lp:=fun z=>nu (by rw[<- z];exact ay evt)
    rw[fh,show us.getD t .non=.ref qt by rw[aa,evt];rfl] at gh;generalize hs'.map (fun j=>us.getD j .non)=hv at gh;have I2:=jlean _ _ _ _ _ JI hf tl hP (by rw[ext];exact hne') tfst;rw[ext] at I2
    have rowD:∀r∈fs++ls,∃D:Nat,0 < D/\D<=2^S/\∀c,Tp D (2^S) (r.getD c 0):=fun r hr=>by
     obtain ⟨i,hi,rfl⟩:=cg hr;obtain ⟨D,D0,D1,D2⟩:=jsz _ _ _ JI (by lia) i (by rw[ao] at hi;lia);refine ⟨D,D0,D1,fun c=>?_⟩;have:=D2 c;unfold b8 at this;rw[aa (l:=fs++ls),ag hi] at this;exact this
    have szr:∀r∈fs++ls,∀y∈r,qW y:=fun r hr y hy=>by
     obtain ⟨D,D0,D1,D2⟩:=rowD r hr;obtain ⟨c,hc,rfl⟩:=cg hy;have:=D2 c;rw[aa,ag hc] at this;exact szT D0 D1 this
    have mxt:xt∈fs++ls:=aw.mpr (.inr mt);have lu2:(gI P xt).length=n:=by unfold gI;rw[aj];exact wt
    obtain ⟨Du,Du0,Du1,Du2⟩:∃D:Nat,0 < D/\D<=2^S/\∀y∈gI P xt,Tp D (2^S) y:=by
     obtain ⟨D,D0,D1,D2⟩:=jsz _ _ _ I2 (by lia) ps.length (by lia);refine ⟨D,D0,D1,fun y hy=>?_⟩;obtain ⟨c,hc,rfl⟩:=cg hy;have:=D2 c;rw[bW,show ps.length=(fs.map (oO P (gI P xt))).length+0 by rw[aj];lia,pC] at this
     have e:b8 ([gI P xt]++(ls.eraseIdx t).map (oO P (gI P xt))) 0 c=(gI P xt)[c]:=by
      show (gI P xt).getD c 0=_
      rw[aa,ag hc];rfl
     rw[e] at this;exact this
    have szu:∀y∈gI P xt,qW y:=fun y hy=>szT Du0 Du1 (Du2 y hy)
    have szp:∀r∈fs++ls,∀y∈gI P xt,qW (r.getD P 0*y):=fun r hr y hy=>by
     obtain ⟨D,D0,D1,D2⟩:=rowD r hr;exact szP D0 Du0 D1 Du1 (D2 P) (Du2 y hy)
    obtain ⟨zs,gz,qz⟩:=id Rt;obtain ⟨vx,ex,nx⟩:=Ce qz (j:=P) (by lia);have szx:qW (xt.getD P 0):=szr xt mxt _ (getD_in (by lia));walk_at "w";refine cu fun tq Hf sf gf=>?_
    have ghf:=sf _ _ gh;walk_at "w";refine b9 (bJ.of ghf) (dR (j:=0) rfl) ?_;walk_at "w";refine b9 (bJ.of (sf _ _ gz)) ex ?_;walk_at "w";refine ⟨_,_,1,xt.getD P 0,rfl,cf.mk (q:=1) gf rfl,nx.same sf,Iv,szx,hne',fun qr Hg sg nq=>?_⟩;have sfg:=sf.trans sg;have ghg:=sg _ _ ghf;walk_at "w";refine b9 (bJ.of ghg) (dR (j:=0) rfl) ?_;walk_at "w";refine ⟨_,qt,1 / xt.getD P 0,xt,rfl,nq,Iw szx hne',Rt.same sfg,by lia,szr xt mxt,fun ur Hh nur sh Rur=>?_⟩;have Rur:dC K Hh ur (gI P xt):=Rur;have seh:=sfg.trans sh;have ghh:=sh _ _ ghg;have guh:=seh _ _ gud;have s0h:=(s'.trans sbd).trans seh;have nur0:H ur=none:=((s'.trans sbd).trans sfg).none nur;have url0:ur≠lp:=fun z=>by have:=sfg _ _ gud;rw[<- z,nur] at this;cases this
    walk_at "w";refine ⟨.inl ⟨rfl,_,bJ.of guh⟩,?_⟩;walk_at "w";refine b9 (bJ.of ghh) (dR (j:=0) rfl) ?_;walk_at "w";refine ⟨lp,us,.ref qt,_,_,Ho,ls,xt,t,rfl,rfl,guh,by decide,Paired.imp' (fun _ _ ⟨q,e1,_,e3⟩=>by rw[e1];exact (dC.kind (dC.same (dC.same e3 sbd) seh))) qu,(Rt.same seh).kind,et,fun i hi z=>?_,?_⟩
    ·have:=tfst i hi;unfold b8 at this;rw[aa (l:=ls),z] at this;exact hne' this
    have s0e:aF H (upd Hh lp (.lst (us.eraseIdx t))):=s0h.after nlp;obtain ⟨us',gu',pu'⟩:=((GL.same sbd).same seh).toE;have eus:us'=us:=by rw[guh] at gu';cases gu';rfl
    subst eus;have ple:Paired (qD K (fun q=>H q=none/\q≠lp) (upd Hh lp (.lst (us'.eraseIdx t)))) (ls.eraseIdx t) (us'.eraseIdx t):=uS (Paired.imp' (fun _ _ z=>qD.updL z guh (fun q h=>h.2)) pu') t;have gle:(upd Hh lp (.lst (us'.eraseIdx t))) lp=some (.lst (us'.eraseIdx t)):=aG;have gve:(upd Hh lp (.lst (us'.eraseIdx t))) fp=some (.lst vs):=by rw[be fl];exact seh _ _ (sbd _ _ gv)
    have pve:Paired (qD K (fun q=>(H q=none/\q≠fp)/\q≠lp) (upd Hh lp (.lst (us'.eraseIdx t)))) fs vs:=Paired.imp' (fun _ _ z=>qD.updL (qD.same (qD.same z sbd) seh) guh (fun q h=>h.2)) pv;have Rur:dC K (upd Hh lp (.lst (us'.eraseIdx t))) ur (gI P xt):=Rur.updL guh url0;generalize upd Hh lp (.lst (us'.eraseIdx t))=He at s0e ple gle gve pve Rur ⊢;clear pu' gu' gud guh gh ghf ghg ghh;walk_at "w";refine ⟨⟨_,bJ.of gle⟩,?_⟩;refine d5 (K:=K) (F:=qD K (fun q=>H q=none/\q≠lp)) (cM K H) (oO P (gI P xt)) gle ple (by rw[Km tl];lia) (fun a b=>a.same b) (fun a b=>a.same b) ?_ ?_
    ·rintro i ns x Hi NY NN en si ⟨q,rfl,nq0,Rq⟩ k1;have mn:ns∈fs++ls:=aw.mpr (.inr (LV (ay en)));have wn:=wide ns mn;obtain ⟨zs2,gz2,qz2⟩:=id Rq;obtain ⟨vx2,ex2,nx2⟩:=Ce qz2 (j:=P) (by lia);walk_at "w";refine b9 (bJ.of gz2) ex2 ?_;walk_at "w";refine ⟨_,ur,ns.getD P 0,gI P xt,rfl,nx2,szr ns mn _ (getD_in (by lia)),Rur.same si,by lia,szu,fun b1 Hj nb1 sj Rb=>?_⟩;walk_at "w";refine ⟨q,b1,ns,_,rfl,Rq.same sj,Rb,by rw[aj];lia,by lia,szr ns mn,fun y hy=>?_,fun r2 Hk nr2 sk Rk=>?_⟩
     ·obtain ⟨y',hy',rfl⟩:=aA.mp hy;exact szp ns mn y' hy'
     ·exact k1 _ _ (sj.trans sk) ⟨r2,rfl,s0e.none (si.none (sj.none nr2)),Rk⟩
    rintro yl Hk lp2 hlp2 sk gk prk nxk;have s0k:=s0e.trans sk;have Gk:bF K H Hk lp2 ((ls.eraseIdx t).map (oO P (gI P xt))):=⟨yl,gk,prk,lJ nxk⟩;have Ruk:=Rur.same sk;walk_at "w";refine ⟨⟨_,bJ.of (sk _ _ gve)⟩,?_⟩;refine d5 (K:=K) (F:=qD K (fun q=>(H q=none/\q≠fp)/\q≠lp)) (cM K Hk) (oO P (gI P xt)) (sk _ _ gve) (Paired.imp' (fun _ _ z=>qD.same z sk) pve) (by lia) (fun a b=>a.same b) (fun a b=>a.same b) ?_ ?_
    ·rintro i ns x Hi NY NN en si ⟨q,rfl,nq0,Rq⟩ k1;have mn:ns∈fs++ls:=aw.mpr (.inl (ay en));have wn:=wide ns mn;obtain ⟨zs2,gz2,qz2⟩:=id Rq;obtain ⟨vx2,ex2,nx2⟩:=Ce qz2 (j:=P) (by lia);walk_at "w";refine b9 (bJ.of gz2) ex2 ?_;walk_at "w";refine ⟨_,ur,ns.getD P 0,gI P xt,rfl,nx2,szr ns mn _ (getD_in (by lia)),Ruk.same si,by lia,szu,fun b1 Hj nb1 sj Rb=>?_⟩;walk_at "w";refine ⟨q,b1,ns,_,rfl,Rq.same sj,Rb,by rw[aj];lia,by lia,szr ns mn,fun y hy=>?_,fun r2 Hl nr2 sl Rl=>?_⟩
     ·obtain ⟨y',hy',rfl⟩:=aA.mp hy;exact szp ns mn y' hy'
     ·exact k1 _ _ (sj.trans sl) ⟨r2,rfl,si.none (sj.none nr2),Rl⟩
    rintro yf Hl f1 hf1 sl gl prl nxl;have lyf:=prl.length;rw[aj] at lyf;walk_at "w";refine dj fun sg1 Hm sm nm gm=>?_
    walk_at "w";refine C6 (sm _ _ gl) gm (bC (bT (by show yf.length+1<=1000;lia))) fun fp2 Hn sn2 nfn gn=>?_
    have slm:=sm.trans sn2;have s0n:=(s0k.trans sl).trans slm;have nlp2:H lp2=none:=s0e.none hlp2;have gkm:=sm _ _ (sl _ _ gk);have fl2:fp2≠lp2:=fun z=>by rw[z,gkm] at nfn;cases nfn
    have urm:=(Ruk.same sl).same sm;have urf:ur≠fp2:=fun z=>by obtain ⟨_,gg,_⟩:=urm;rw[z,nfn] at gg;cases gg
    have url:ur≠lp2:=fun z=>by obtain ⟨_,gg,_⟩:=Rur;rw[z,hlp2] at gg;cases gg
    refine ⟨s0n,lp2,fp2,_,_,ps++[P],_,_,_,_,rfl,nlp2,s0k.none (sl.none (sm.none nfn)),fl2,(Gk.same sl).same slm,gn,?_,by rw[ao,ao,aj];show fs.length+1=ps.length+1;lia,I2⟩;refine cU (Paired.imp' (fun _ _ ⟨q,e1,e2,e3⟩=>⟨q,e1,⟨⟨s0k.none e2,fun z=>?_⟩,fun z=>?_⟩,dC.same e3 slm⟩) prl) (.cons ⟨ur,rfl,⟨⟨nur0,urf⟩,url⟩,urm.same sn2⟩ .nil)
    ·obtain ⟨_,gg,_⟩:=dC.same e3 sm;rw[z,nfn] at gg;cases gg
    ·rw[z,gk] at e2;cases e2
  ·rintro σ' H' ⟨s',lp,fp,ls,fs,ps,vs,y1,y2,y3,rfl,nlp,nfp,fl,GL,gv,pv,hf,JI⟩;have I:=jlw _ _ _ JI;have D:=I.done hw;rw[List.take_left' hf] at D;obtain ⟨km,_⟩:=I.km;walk_at "w";exact k fp fs ps H' nfp s' (bF.ofE gv pv (fun q h=>h.1.1) (fun q h=>h.1.2)) D km
theorem nL:aZ ["_law_one","_law_other","_law_total","_law_k"] ["_law_one","_law_other"] (ax j8):=by walk_at "d"
theorem wK (T:Txt K mg Z):cC P w K mg base iq 3 Z.qA Z.p6 ["_law_one","_law_other"] (DN K):=by
 refine T.qO.ok nL (fun vs H Q E h=>?_) (fun cdv A outer s H vs Q E hr h=>?_)
 ·obtain ⟨p,q,xs,ys,rfl,hp,hq,hl,hz,⟨k1,j1,k2,j2,h1,h2,hkj⟩,kk⟩:=h;rfl
 ·obtain ⟨p,q,xs,ys,rfl,hp,hq,hl,hz,⟨k1,j1,k2,j2,h1,h2,hkj⟩,kk⟩:=h
  refine ⟨_,(av (bD (i:=2) nL.nd rfl (Or.inl rfl) (de (ae ak (ae ak ai))))
   (av (eB PassesOwn.never rfl (bZ rfl T.range (ae (bH bA (by rfl) T.len bg (ae (pv 0) ai)) ai)) (aH (i:=3) nL.nd)
    (az (bD (i:=2) nL.nd rfl (Or.inl rfl) (cP (nM T) hr T.kZ T.kh.kp T.nC (ae (pv 2) (ae (cP (lL T) hr T.jN T.jx.kp T.lg (ae (bf bO (pv 0) (pv 3)) (ae (bf bO (pv 1) (pv 3)) ai))) ai))))))
   (az (aP (pv 2))))),?_⟩
  refine aO (σ:=[some (.ref p),some (.ref q),none,none]) rfl ?_;obtain ⟨us,gu,qu⟩:=id hp;obtain ⟨ws,gw,qw⟩:=id hq;have lu:=qu.length;have lw:=qw.length;walk_at "w";refine cu fun r0 H0 s0 g0=>?_
  walk_at "w";refine ⟨_,_,rfl,.inl (bJ.of (s0 _ _ gu)),?_⟩;walk_at "w";refine ⟨by lia,by lia,?_⟩;refine gN (n:=us.length) (fun i σ' H'=>aF H H'/\∃(r:V) (v:Option V),σ'=[some (.ref p),some (.ref q),some r,v]/\cf K H' (iJ (xs.take i) (ys.take i)) r) ⟨s0,_,none,rfl,cf.mk g0 rfl⟩ ?_ ?_
  ·rintro i σ' H' hi ⟨s,r,v,rfl,hr⟩;have ix:i < xs.length:=by lia
   have iy:i < ys.length:=by lia
   obtain ⟨vx,ex,nx⟩:=Ce (Paired.imp' (fun _ _ z=>z.same s) qu) ix;obtain ⟨vy,ey,ny⟩:=Ce (Paired.imp' (fun _ _ z=>z.same s) qw) iy;walk_at "w";refine b9 (bJ.of (s _ _ gu)) ex ?_;walk_at "w";refine b9 (bJ.of (s _ _ gw)) ey ?_;walk_at "w";refine ⟨_,_,_,_,rfl,nx,ny,h1.szn (getD_mem ix) (by lia),h2.szn (getD_mem iy) (by lia),fun r3 H3 s3 n3=>?_⟩;walk_at "w";refine ⟨_,_,_,_,rfl,hr.same s3,n3,HM h1 h2 hz i hkj,GR (h1.one (getD_mem ix)) (h2.one (getD_mem iy)) hkj,fun r4 H4 s4 n4=>?_⟩;walk_at "w";exact ⟨(s.trans s3).trans s4,_,_,rfl,by rw[zX ix iy];exact n4⟩
  ·rintro σ' H' ⟨s,r,v,rfl,hr⟩;rw[aN (by lia),aN (by lia)] at hr;obtain ⟨t,rfl,ht⟩:=hr;walk_at "w";exact kk _ H' s ⟨t,rfl,ht⟩
theorem gL:aZ ["_law_told","_law_rows","_law_n","_law_row_here","_law_one"] ["_law_told","_law_rows","_law_n"] (ax dg):=by walk_at "d"
theorem rN (T:Txt K mg Z):cC P w K mg base iq 5 Z.eY Z.eX ["_law_told","_law_rows","_law_n"] (CK K):=by
 refine T.iF.ok gL (fun vs H Q E h=>?_) (fun cdv A outer s H vs Q E hr h=>?_)
 ·obtain ⟨td,rw,tt,e,H0,H1,A2,lk,Hd,rfl,G1,G2,t12,o4,n8,wl,U,VV,k⟩:=h;rfl
 ·obtain ⟨td,rw,tt,e,H0,H1,A2,lk,Hd,rfl,G1,G2,t12,o4,n8,wl,U,VV,k⟩:=h
  refine ⟨_,(av (cK (PW.pt (o3 (i5 (iB (cP (xi T) hr T.qT T.nF.kp T.r8 (ae (pv 0) (ae (bH bA (by rfl) T.len bg (ae (pv 0) ai)) (ae (pv 2) ai)))))) (ka (bh (AI (Cf hr)) (pv 0) (cP (qS T) hr T.lG T.jW.kp T.nD (ae (pv 0) (ae (pv 2) ai))) (br _))))) (az (aP m7)) bS)
   (av (eB PassesOwn.never rfl (cn (pv 0)) (aH (i:=3) gL.nd)
    (az (eB PassesOwn.never rfl (cn (pv 1)) (aH (i:=4) gL.nd)
    (az (cK (bh (AI (Cf hr)) (cP (wK T) hr T.rW T.qO.kp T.uG (ae (pv 3) (ae (pv 4) ai))) (de (ae ak (ae ak ai))) (br _)) (az (aP m7)) bS)))))
   (az (aP (fA dW (bK fB (bH bA (by rfl) T.len bg (ae (pv 0) ai)) (bH bA (by rfl) T.len bg (ae (cP (qS T) hr T.lG T.jW.kp T.nD (ae (pv 1) (ae (pv 2) ai))) ai))) (pv 2) (br _)))))),?_⟩
  refine aO (σ:=[some (.ref td),some (.ref rw),some (.int A2.length),none,none]) rfl ?_;obtain ⟨us,gu,qu,_⟩:=id G1;obtain ⟨ws,gw,qw,_⟩:=id G2;have lu:=qu.length;have wk:=iH (mv:=A2) rfl wl tt;have lb:tt*lk.length<=12*4:=aK t12 o4;have e1:=VV.un.e1;obtain ⟨wH,lH,szH,fH⟩:=U.szn e1;obtain ⟨S,LW⟩:=VV.lw;obtain ⟨kf,jf,hf,fk⟩:=VV.ft;walk_at "w";refine ⟨_,_,rfl,.inl (bJ.of gu),?_⟩;rw[<- lu];walk_at "w";refine ⟨td,_,A2.length,by rw[aj],G1.gridK,by rw[aj];lia,by lia,fun ns hn=>?_,fun H2 s2=>?_⟩
  ·obtain ⟨xs,hx,rfl⟩:=aA.mp hn;refine ⟨by rw[aj];exact wH xs hx,fun z hz=>?_⟩;obtain ⟨y,hy,rfl⟩:=aA.mp hz;exact Kv (szH xs hx y hy)
  walk_at "w";refine ⟨td,A2.length,e,H0,Hd,rfl,G1.same s2,by lia,by lia,wH,U.lwt e1,fun r R' ps' H3 nr s3 G3 RR _=>?_⟩;have eR:=U.self RR;have s23:=s2.trans s3;walk_at "w";refine ⟨_,_,AX,Hd,R',by decide,(G1.same s23).kind,G3.kind,?_⟩;rw[decide_eq_true eR.symm];walk_at "w";refine ⟨⟨_,bJ.of (s23 _ _ gu)⟩,?_⟩;refine fJ (K:=K) (a:=td) (xs:=us) (fun i σ' H'=>aF H H'/\∃y1 y2,σ'=[some (.ref td),some (.ref rw),some (.int A2.length),y1,y2]) ⟨s23,_,_,rfl⟩ (fun i σ' H' _ ⟨s,_⟩=>bJ.of (s _ _ gu)) ?_ ?_
  ·rintro i v σ' H4 hv ⟨s4,y1,y2,rfl⟩;obtain ⟨xs,ex,q,rfl,_,Rq⟩:=cQ qu hv;have mx:=ay ex;walk_at "w";refine ⟨⟨_,bJ.of (s4 _ _ gw)⟩,?_⟩;refine fJ (K:=K) (a:=rw) (xs:=ws) (fun j σ' H'=>aF H H'/\∃y2,σ'=[some (.ref td),some (.ref rw),some (.int A2.length),some (.ref q),y2]) ⟨s4,_,rfl⟩ (fun i σ' H' _ ⟨s,_⟩=>bJ.of (s _ _ gw)) ?_ ?_
   ·rintro j v2 σ' H5 hv2 ⟨s5,y2,rfl⟩;obtain ⟨ys,ey,q2,rfl,_,Rq2⟩:=cQ qw hv2;have my:=ay ey;walk_at "w";refine ⟨q,q2,xs,ys,rfl,dC.same Rq s5,dC.same Rq2 s5,by rw[wH xs mx,wk ys my],by rw[wH xs mx];lia,⟨e,e,kf,jf,fH xs mx,fk ys my,by lia⟩,fun d H6 s6 N6=>?_⟩;walk_at "w";refine cu fun t0 H7 s7 g7=>?_
    walk_at "w";refine ⟨_,_,Ea,iJ xs ys,0,by decide,N6.same s7,cf.mk (q:=0) g7 rfl,?_⟩;rw[decide_eq_true (U.dot wk xs mx ys my)];walk_at "w";exact ⟨(s5.trans s6).trans s7,_,rfl⟩
   ·rintro σ' H5 ⟨s5,y2,rfl⟩;exact ⟨s5,_,_,rfl⟩
  ·rintro σ' H4 ⟨s4,y1,y2,rfl⟩;walk_at "w";refine ⟨_,_,rfl,.inl (bJ.of (s4 _ _ gu)),?_⟩;rw[<- lu];walk_at "w";refine ⟨rw,A2.length,S,H1,_,rfl,G2.same s4,by rw[AV];lia,by lia,wk,LW,fun r2 R2 ps2 H5 n5 s5 G5 RR5 _=>?_⟩;obtain ⟨zs,gz,qz,_⟩:=id G5;have lz:=qz.length;walk_at "w";refine ⟨_,_,rfl,.inl (bJ.of gz),?_⟩;rw[<- lz];walk_at "w";have c:=U.cnt RR5;rw[decide_eq_true (show ((Hd.length:Int)+R2.length)=A2.length by lia)];exact k _ (s4.trans s5)
theorem cD:aZ ["_law_parts_here","_law_steps_here","_law_move_here","_law_put","_law_look","_law_n","_law_rows","_law_found","_law_t"] ["_law_parts_here","_law_steps_here"] (ax dZ):=by walk_at "d"
theorem uV (T:Txt K mg Z):cC P w K mg base iq 4 Z.ik Z.ia ["_law_parts_here","_law_steps_here"] (FX K):=by
 refine T.ki.ok cD (fun vs H Q E h=>?_) (fun cdv A outer s H vs Q E hr h=>?_)
 ·obtain ⟨r,tt,H0,mv,pt,lk,rfl,hT,PQ,D,AD,k⟩:=h;rfl
 ·obtain ⟨r,tt,H0,mv,pt,lk,rfl,hT,PQ,D,AD,k⟩:=h
  refine ⟨_,(av (ff (pv 0) (ux rfl (cy (aH (i:=2) cD.nd rfl (Or.inr rfl) (Or.inl rfl)) (cy (aH (i:=3) cD.nd) (cy (aH (i:=4) cD.nd) jH)))))
   (av (bD (i:=5) cD.nd rfl (Or.inr rfl) (bH bA (by rfl) T.len bg (ae (pv 2) ai)))
   (av (h7 6 ["_law_row_here"] [] [] cD.nd rfl rfl (cn (pv 4)) (fun _=>(aH (i:=0) (show List.Nodup (α:=PySem.Str) ["_law_row_here"] by decide +kernel))) (fun _=>ck) (fun _=>(dI (kF K (by rfl)) (by rfl) T.list PyProof.Rows.boot_list (ae (pv 0) ai))))
   (av (bD (i:=7) cD.nd rfl (Or.inl rfl) (eF ai))
   (av (eB PassesOwn.never rfl (bZ rfl T.range (ae (pv 1) ai)) (aH (i:=8) cD.nd)
    (av (kr (yd dn PySem.F.slot_list_extend PySem.F.type_list_extend Fe (pv 7) (ae (pv 6) ai)))
   (az (h7 6 ["_law_row_here"] ["_law_n","_law_move_here"] [5,2] cD.nd rfl rfl (cn (pv 6)) (fun _=>(aH (i:=0) (show List.Nodup (α:=PySem.Str) ["_law_row_here","_law_n","_law_move_here"] by decide +kernel) rfl (Or.inr rfl) (Or.inl rfl))) (fun _=>ck) (fun _=>(cm ["_law_j"] ["_law_row_here","_law_n","_law_move_here"] [0,1,2] (bZ rfl T.range (ae (pv 1) ai)) (fun _=>(aH (i:=0) (show List.Nodup (α:=PySem.Str) ["_law_j","_law_row_here","_law_n","_law_move_here"] by decide +kernel) rfl (Or.inr rfl) (Or.inl rfl))) (fun _=>ck) (fun _=>(cP (wK T) hr T.rW T.qO.kp T.uG (ae (pv 1) (ae (cm ["_law_i"] ["_law_move_here","_law_j"] [3,0] (bZ rfl T.range (ae (pv 2) ai)) (fun _=>(aH (i:=0) (show List.Nodup (α:=PySem.Str) ["_law_i","_law_move_here","_law_j"] by decide +kernel))) (fun _=>ck) (fun _=>(bf (fI K (by rfl)) (bf (fI K (by rfl)) (pv 1) (pv 0)) (pv 2)))) ai))))))))))
   (az (aP (pv 7)))))))),?_⟩
  refine aO (σ:=[some (.ref r),some (.int tt),none,none,none,none,none,none,none]) rfl ?_;have d8:=D.n8;have o4:=D.o4;have et:(cG mv mv.length).length=mv.length:=fL;obtain ⟨m,p,l,g,n1,n2,n3,Gm,Gp,Gl⟩:=id PQ;obtain ⟨um,gm,qm,_⟩:=id Gm;obtain ⟨ul,gl,ql,_⟩:=id Gl;have lum:=qm.length;have lul:=ql.length;walk_at "w";refine ⟨_,_,rfl,.inl (bJ.of gm),?_⟩;rw[<- lum];walk_at "w";refine ⟨⟨_,bJ.of gl⟩,?_⟩;refine d5 (K:=K) (F:=cM K H0) (cM K H) id gl ql (by lia) (fun a b=>a.same b) (fun a b=>a.same b) ?_ ?_
  ·rintro i ns x H' NY NN en s ⟨u,rfl,_,zs,gz,qz⟩ k1;walk_at "w";refine ⟨u,zs,rfl,.inl (bJ.of gz),fun l1 hl1=>?_⟩;exact k1 _ _ (aF.new hl1) ⟨l1,rfl,s.none hl1,zs,aG,Paired.imp' (fun _ _ z=>z.same (aF.new hl1)) qz⟩
  rintro ys1 H1 rq1 hr1 s1 g1 pr1 nx1;rw[vM] at pr1 nx1;have G1:bF K H H1 rq1 lk:=⟨ys1,g1,pr1,lJ nx1⟩;walk_at "w";refine dj fun fd H2 s2 nf gf=>?_
  have s02:=s1.trans s2;have nf0:H fd=none:=s1.none nf;obtain ⟨Hz,eHz⟩:∃Hz,Hz=upd H fd (.lst []):=⟨_,rfl⟩;have zl:Hz fd≠none:=by rw[eHz,aG];exact fun z=>nomatch z
  have zn:∀q,Hz q=none->H q=none/\q≠fd:=fun q h=>by
   have ne:q≠fd:=fun z=>zl (by rw[<- z];exact h)
   rw[eHz,be ne] at h;exact ⟨h,ne⟩
  have nz:∀q,H q=none->q≠fd->Hz q=none:=fun q h ne=>by rw[eHz,be ne];exact h
  clear eHz;have rf1:rq1≠fd:=fun z=>by rw[z,nf] at g1;cases g1
  have G2:bF K Hz H2 rq1 lk:=⟨ys1,s2 _ _ g1,Paired.imp' (fun _ _ ⟨q,a,b,c⟩=>⟨q,a,nz q b (fun z=>by obtain ⟨_,gg,_⟩:=c;rw[z,nf] at gg;cases gg),dC.same c s2⟩) pr1,lJ nx1⟩
  have powl:∀t,∀ns∈lk.map (rh (cG mv mv.length) t),ns.length=mv.length:=fun t ns hn=>by
   obtain ⟨y,hy,rfl⟩:=aA.mp hn;have:=Jk (mv:=cG mv mv.length) (st:=y) (by rw[et];exact D.lw y hy) t;rw[this,et]
  walk_at "w";refine ⟨by lia,by lia,?_⟩;refine gN (n:=tt) (fun t σ' H'=>aF H H'/\∃rq us y,σ'=[some (.ref r),some (.int tt),some (.ref m),some (.ref p),some (.ref l),some (.int mv.length),some (.ref rq),some (.ref fd),y]/\rq≠fd/\H' fd=some (.lst us)/\Paired (cM K Hz H') (kry (cG mv mv.length) lk t) us/\bF K Hz H' rq (lk.map (rh (cG mv mv.length) t))) ⟨s02,rq1,[],_,rfl,rf1,gf,.nil,by rw[show lk.map (rh (cG mv mv.length) 0)=lk from vM lk];exact G2⟩ ?_ ?_
  ·rintro t σ' H' ht ⟨s',rq,us,y,rfl,rf,gu,pu,Gq⟩;obtain ⟨zs,gz,qz,_⟩:=id Gq;have lz:=qz.length;rw[aj] at lz;have lu:=pu.length;rw[AV] at lu;have lb:t*lk.length<=12*4:=aK (by lia) o4;walk_at "w";refine ⟨.inl ⟨rfl,_,bJ.of gu⟩,?_⟩;walk_at "w";refine ⟨fd,rq,us,zs,rfl,rfl,gu,gz,bC (bT (by lia)),?_⟩;have s2':aF H (upd H' fd (.lst (us++zs))):=s'.after nf0;have g2':(upd H' fd (.lst (us++zs))) fd=some (.lst (us++zs)):=aG
   have p2':Paired (cM K Hz (upd H' fd (.lst (us++zs)))) (kry (cG mv mv.length) lk (t+1)) (us++zs):=by
    rw[<- Bf,JJ,List.flatten_append,Bf];have:[lk.map (rh (cG mv mv.length) t)].flatten=lk.map (rh (cG mv mv.length) t):=by simp
    rw[this];exact cU (Paired.imp' (fun _ _ z=>cM.updL z gu zl) pu) (Paired.imp' (fun _ _ z=>cM.updL z gu zl) qz)
   have gz2:(upd H' fd (.lst (us++zs))) rq=some (.lst zs):=by rw[be rf];exact gz
   have qz2:Paired (cM K Hz (upd H' fd (.lst (us++zs)))) (lk.map (rh (cG mv mv.length) t)) zs:=Paired.imp' (fun _ _ z=>cM.updL z gu zl) qz;generalize upd H' fd (.lst (us++zs))=H3 at s2' g2' p2' gz2 qz2 ⊢;have gm3:=s2' _ _ gm;have qm3:Paired (cM K H0 H3) mv um:=Paired.imp' (fun _ _ z=>cM.same z s2') qm;walk_at "w";refine ⟨⟨_,bJ.of gz2⟩,?_⟩;refine d5 (K:=K) (F:=cM K Hz) (cM K Hz) (uT (cG mv mv.length)) gz2 qz2 (by rw[aj];lia) (fun a b=>a.same b) (fun a b=>a.same b) ?_ ?_
   ·rintro i ns v Ha NY NN en sa ⟨u,rfl,_,Ru⟩ k1;have mn:=ay en;have wn:=powl t ns mn;walk_at "w";refine ⟨by lia,by lia,?_⟩;refine dm (n:=mv.length) (cf K) (fun j=>iJ ns (mv.map fun xs=>xs.getD j 0)) (by lia) (fun a b=>a.same b) ?_ ?_
    ·rintro j Hb NY2 NN2 hj sb k2;have sab:=sa.trans sb;walk_at "w";refine ⟨by lia,by lia,?_⟩;refine dm (n:=mv.length) (cf K) (fun i=>(mv.getD i []).getD j 0) (by lia) (fun a b=>a.same b) ?_ ?_
     ·rintro i2 Hc NY3 NN3 hi2 sc k3;have sac:=sab.trans sc;obtain ⟨xr,vr,er,evr,mr,qr,rfl,_,Rr⟩:=jb (Paired.imp' (fun _ _ z=>cM.same z sac) qm3) hi2;have wr:=D.mw xr mr;obtain ⟨ws,gw,qw⟩:=id Rr;obtain ⟨vx,ex,nx⟩:=Ce qw (j:=j) (by lia);have e:(mv.getD i2 []).getD j 0=xr.getD j 0:=by rw[aa (l:=mv),er];rfl
      walk_at "w";refine b9 (bJ.of (sac _ _ gm3)) (dR evr) ?_;walk_at "w";refine b9 (bJ.of gw) ex ?_;exact k3 _ _ (aF.refl _) (by rw[e];exact nx)
     ·rintro ys Hc cq hcq sc gc prc _
      have ecol:(List.range mv.length).map (fun i=>(mv.getD i []).getD j 0)=mv.map fun xs=>xs.getD j 0:=by
       apply kW (by rw[aj,aj,cO]);intro i h1 h2;rw[pH,pH,Cz];rw[aj] at h2;rw[aa (l:=mv),ag h2];rfl
      rw[ecol] at prc;have Rc:dC K Hc cq (mv.map fun xs=>xs.getD j 0):=⟨ys,gc,prc⟩;walk_at "w";refine ⟨u,cq,ns,_,rfl,dC.same Ru (sb.trans sc),Rc,by rw[aj,wn],by lia,?_,fun d1 Hd sd Nd=>?_⟩
      ·obtain ⟨y0,hy0,rfl⟩:=aA.mp mn;have af:=(AD.row D.turn.mw D.turn.pw y0 hy0).fit D.turn.mw (D.turn.pw y0 hy0) (show t<=tt by lia);refine (af.1 _ ?_).symm;unfold cG;exact aA.mpr ⟨j,oE.mpr hj,rfl⟩
      ·exact k2 _ _ (sc.trans sd) Nd
    ·rintro ys Hb rr hrr sb gb prb _
     have eo:(List.range mv.length).map (fun j=>iJ ns (mv.map fun xs=>xs.getD j 0))=uT (cG mv mv.length) ns:=by
      unfold uT cG;rw[tH];refine dJ fun j _=>?_
      show iJ ns _=iJ _ ns
      exact HN (by rw[aj,wn])
     rw[eo] at prb;exact k1 _ _ sb ⟨rr,rfl,nz rr (s2'.none (sa.none hrr)) (fun z=>by have:=sa _ _ g2';rw[z,this] at hrr;cases hrr),ys,gb,prb⟩
   ·rintro ys Hb rr hrr sb gb prb nxb;have e:(lk.map (rh (cG mv mv.length) t)).map (uT (cG mv mv.length))=lk.map (rh (cG mv mv.length) (t+1)):=by rw[tH];rfl
    rw[e] at prb nxb;exact ⟨s2'.trans sb,rr,_,_,rfl,fun z=>(by rw[z,g2'] at hrr;cases hrr),sb _ _ g2',Paired.imp' (fun _ _ z=>cM.same z sb) p2',ys,gb,prb,lJ nxb⟩
  ·rintro σ' H' ⟨s',rq,us,y,rfl,rf,gu,pu,Gq⟩;walk_at "w";refine k fd H' nf0 s' ⟨us,gu,Paired.imp' (fun _ _ ⟨q,a,b,c⟩=>⟨q,a,(zn q b).1,c⟩) pu,fun z=>?_⟩;obtain ⟨_,_,q,e,h,_⟩:=df pu z;cases e;exact zl h
theorem ko:aZ ["_law_system_here","_law_parts_here","_law_steps_here","_law_n","_law_told","_law_row_here"] ["_law_system_here","_law_parts_here","_law_steps_here"] (ax hJ):=by walk_at "d"
theorem zw (T:Txt K mg Z):cC P w K mg base iq 10 Z.mI Z.me ["_law_system_here","_law_parts_here","_law_steps_here"] (CV K Z.a_System):=by
 refine T.qP.ok ko (fun vs H Q E h=>?_) (fun cdv A outer s H vs Q E hr h=>?_)
 ·obtain ⟨x,r,tt,e,H0,H1,mv,pt,lk,rfl,t12,S,PQ,D,F,VV,k⟩:=h;rfl
 ·obtain ⟨x,r,tt,e,H0,H1,mv,pt,lk,rfl,t12,S,PQ,D,F,VV,k⟩:=h
  refine ⟨_,(av (bD (i:=3) ko.nd rfl (Or.inl rfl) (bH bA (by rfl) T.len bg (ae (bf cb (pv 1) ak) ai)))
   (av (bD (i:=4) ko.nd rfl (Or.inl rfl) (cP (nh T) hr T.jL T.iK.kp T.kG (ae (pv 0) (ae (pv 2) ai))))
   (av (cK (PW.pt (o3 (i5 (iB (uy rfl T.isinstance PyProof.Rows.boot_list T.list (pv 4)))) (ka (i5 (iB (cP (rN T) hr T.kY T.iF.kp T.lK (ae (pv 4) (ae (cP (uV T) hr T.nO T.ki.kp T.ph (ae (pv 1) (ae (pv 2) ai))) (ae (pv 3) ai))))))))) (az (aP m7)) bS)
   (av (eB PassesOwn.never rfl (cn (pv 4)) (aH (i:=5) ko.nd)
    (az (kr (yd dn gK gJ o6 (pv 5) (ae AF ai)))))
   (av (kr (yd dn gK gJ o6 (pv 4) (ae AF ai)))
   (az (aP m7))))))),?_⟩
  refine aO (σ:=[some (.ref x),some (.ref r),some (.int tt),none,none,none]) rfl ?_;obtain ⟨m,p,l,g,n1,n2,n3,Gm,Gp,Gl⟩:=id PQ;obtain ⟨um,gm,qm,_⟩:=id Gm;have lum:=qm.length;have et:(cG mv mv.length).length=mv.length:=fL;have d8:=D.n8;walk_at "w";refine ⟨_,_,rfl,.inl (bJ.of gm),?_⟩;rw[<- lum];walk_at "w";refine ⟨x,tt,e,H0,mv,pt,lk,rfl,by lia,S,D,F,VV.un,fun td Hd H2 ntd s2 G2 U=>?_⟩;obtain ⟨us,gu,qu,nu⟩:=id G2;have lu:=qu.length;obtain ⟨wH,lH,_,_⟩:=U.szn VV.un.e1;walk_at "w";refine KZ (.lst gu) (.inr (.inr (.inl rfl))) ?_;rw[show tyB "list" (.ref td) H2=true by unfold tyB;dsimp only;rw[gu];rfl];walk_at "w";refine ⟨r,tt,H1,mv,pt,lk,rfl,t12,PQ.same s2,D,VV.ad,fun rq H3 nrq s3 G3=>?_⟩;walk_at "w";refine ⟨td,rq,tt,e,H,H2,cG mv mv.length,lk,Hd,by rw[et],G2.same s3,G3,t12,D.o4,by rw[et];exact d8,D.turn.pw,by rw[et];exact U,VV,fun H4 s4=>?_⟩;have s24:=s3.trans s4;have s04:=s2.trans s24;walk_at "w";refine ⟨⟨_,bJ.of (s24 _ _ gu)⟩,?_⟩;refine fJ (K:=K) (a:=td) (xs:=us) (fun i σ' H'=>aF H H'/\H' td=some (.lst us)/\(∀y∈us,∃q zs,y=V.ref q/\H q=none/\q≠td/\H' q=some (.lst zs)/\zs.length<=20+i)/\∃y1,σ'=[some (.ref x),some (.ref r),some (.int tt),some (.int mv.length),some (.ref td),y1]) ⟨s04,s24 _ _ gu,fun y hy=>?_,_,rfl⟩ (fun i σ' H' _ ⟨_,g,_⟩=>bJ.of g) ?_ ?_
  ·obtain ⟨xs,mx,q,rfl,nq,zs,gz,qz⟩:=df qu hy;have:=qz.length;have:=wH xs mx;exact ⟨q,zs,rfl,nq,fun z=>nu (by rw[<- z];exact hy),s24 _ _ gz,by lia⟩
  ·rintro i v σ' H5 hv ⟨s5,g5,hq,y1,rfl⟩;have hi:i < us.length:=(aE.mp hv).1;obtain ⟨q,zs,rfl,nq,qt,gq,lz⟩:=hq v (ay hv);walk_at "w";refine ⟨.inl ⟨rfl,_,bJ.of gq⟩,?_⟩;walk_at "w";refine oZ gq (bT (by lia)) ?_;refine ⟨s5.after nq,by rw[be (Ne.symm qt)];exact g5,fun y hy=>?_,_,rfl⟩;obtain ⟨q2,zs2,rfl,nq2,qt2,gq2,lz2⟩:=hq y hy;by_cases z:q2=q
   ·exact ⟨q2,zs++[.non],rfl,nq2,qt2,by rw[z,aG],by rw[ao,bc];lia⟩
   ·exact ⟨q2,zs2,rfl,nq2,qt2,by rw[be z];exact gq2,by lia⟩
  ·rintro σ' H5 ⟨s5,g5,_,y1,rfl⟩;walk_at "w";refine ⟨.inl ⟨rfl,_,bJ.of g5⟩,?_⟩;walk_at "w";refine oZ g5 (bT (by lia)) ?_;walk_at "w";exact k _ (s5.after ntd)
theorem oG:aZ ["_law_script","_law_bag_here","_law_drawn_here","_law_systems","_law_k","_law_parts_here","_law_wide","_law_steps_here","_law_many","_law_n"] ["_law_script"] (ax zF):=by walk_at "d"
theorem Lg (T:Txt K mg Z):cC P w K mg base iq 11 Z.HY Z.HR ["_law_script"] (Ar K):=by
 refine T.Kl.ok oG (fun vs H Q E h=>?_) (fun cdv A outer s H vs Q E hr h=>?_)
 ·obtain ⟨a,ns,rfl,hS,hlen,k⟩:=h;rfl
 ·obtain ⟨a,ns,rfl,hS,hlen,k⟩:=h
  refine ⟨_,(av (bD (i:=1) oG.nd rfl (Or.inl rfl) (cP (BV T) hr T.wM T.uJ.kp T.yP (ae (pv 0) ai)))
   (hZ (cK (PW.pt (jG (bh dW (cP (bx T) hr T.aV T.bo.kp T.bu (ae (pv 1) (ae ak ai))) ak (br _)) (kq (i5 (iB (GH (zu T) (hr.mono (by decide)) rfl T.tX T.qM.kp T.vE .nil zL)))))) (az (aP m7)) bS)
   (av (bD (i:=2) oG.nd rfl (Or.inl rfl) (eF (ae (cP (tQ T) hr T.oN T.mM.kp T.qh (ae (pv 1) ai)) (ae (cP (tQ T) hr T.oN T.mM.kp T.qh (ae (pv 1) ai)) ai))))
   (av (h7 3 ["_law_parts_here","_law_wide"] [] [] oG.nd rfl rfl (cn (pv 2)) (fun _=>(uR K 2 (cy (aH (i:=0) (show List.Nodup (α:=PySem.Str) ["_law_parts_here","_law_wide"] by decide +kernel)) (cy (aH (i:=1) (show List.Nodup (α:=PySem.Str) ["_law_parts_here","_law_wide"] by decide +kernel)) jH)))) (fun _=>ck) (fun _=>(cP (yn T) hr T.rS T.oS.kp T.uc (ae (pv 0) ai))))
   (av (eB PassesOwn.never rfl (cn (eF (ae ak (ae ak (ae ak ai))))) (aH (i:=4) oG.nd)
    (av (ff (bf bO (pv 2) (pv 4)) (ux rfl (cy (aH (i:=5) oG.nd) (cy (aH (i:=6) oG.nd) jH))))
   (av (bD (i:=7) oG.nd rfl (Or.inl rfl) (cP (zm T) hr T.tV T.qK.kp T.vC (ae (pv 1) (ae (bH bA (by rfl) T.len bg (ae (bf cb (pv 5) ak) ai)) (ae (pv 6) ai)))))
   (az (eB PassesOwn.never rfl (cn (eF (ae (pv 7) (ae (cP (bx T) hr T.aV T.bo.kp T.bu (ae (pv 1) (ae (bK fB (pv 7) ak) ai))) (ae (pv 7) ai))))) (aH (i:=8) oG.nd)
    (az (cK (i5 (iB (cP (zw T) hr T.tZ T.qP.kp T.vG (ae (bf bO (pv 3) (pv 4)) (ae (pv 5) (ae (pv 8) ai)))))) (az (aP m7)) bS)))))))
   (av (bD (i:=9) oG.nd rfl (Or.inr rfl) (bH bA (by rfl) T.len bg (ae (bf cb (bf cb (bf bO (pv 2) ak) ak) ak) ai)))
   (az (aP (fA (GI (Cf hr)) (cP (nh T) hr T.jL T.iK.kp T.kG (ae (bf bO (pv 3) ak) (ae ak ai))) (cm ["_law_at"] ["_law_n"] [9] (bZ rfl T.range (ae (pv 9) ai)) (fun _=>(aH (i:=0) (show List.Nodup (α:=PySem.Str) ["_law_at","_law_n"] by decide +kernel) rfl (Or.inr rfl) (Or.inl rfl))) (fun _=>ck) (fun _=>(cm ["_law_j"] ["_law_at"] [0] (bZ rfl T.range (ae (pv 1) ai)) (fun _=>(aH (i:=0) (show List.Nodup (α:=PySem.Str) ["_law_j","_law_at"] by decide +kernel))) (fun _=>ck) (fun _=>(de (ae (dI ie (by rfl) T.int PyProof.Rows.boot_int (ae (fA dW (pv 0) (pv 1) (br _)) ai)) (ae ak ai))))))) (br _)))))))))),?_⟩
  refine aO (σ:=[some (.ref a),none,none,none,none,none,none,none,none,none]) rfl ?_;walk_at "w";refine ⟨a,ns,rfl,hS,hlen,fun b H9 hb0 B9 s9=>?_⟩;walk_at "w";refine ⟨fun σ' H'=>σ'=[some (.ref a),some (.ref b),none,none,none,none,none,none,none,none]/\iX H' b,?_,?_⟩
  ·walk_at "w";refine ⟨b,16,rfl,B9,by decide,by decide,fun v H1 v0 v1 B1 u1=>?_⟩;walk_at "w";refine gG (fun h0=>?_) (fun h0=>?_)
   ·walk_at "w";refine ⟨rfl,fun H2 s2=>?_⟩;walk_at "w";exact ⟨rfl,B1.same s2⟩
   ·walk_at "w";exact ⟨rfl,B1⟩
  rintro σ' H0 ⟨rfl,B0⟩;clear B9 s9 hb0;walk_at "w";refine ⟨b,rfl,B0,fun t1 r1 w1 mv1 pt1 lk1 H1 g1 P1 D1 F1 G1 a1 c1 B1 u1=>?_⟩;walk_at "w";refine ⟨b,rfl,B1,fun t2 r2 w2 mv2 pt2 lk2 H2 g2 P2 D2 F2 G2 a2 c2 B2 u2=>?_⟩;have g1:=u2.tup B1 g1;have P1:=P1.upto u2 B1 B0.at;have P2:=P2.weak (H1:=H0) fun q h=>u1.none B1 h
  walk_at "w";refine dj fun dl H3 s3 n3 dl3=>?_
  have g1:=s3 _ _ g1;have g2:=s3 _ _ g2;have P1:=P1.same s3;have P2:=P2.same s3;have B3:=B2.same s3;have u03:=(u1.trans u2).same s3;have dlb:dl≠b:=fun z=>B2.at (by rw[<- z];exact n3)
  walk_at "w";refine ⟨⟨_,bJ.of dl3⟩,?_⟩
  refine d5 (K:=K) (as:=[true,false]) (F:=fun H c x=>x=V.ref (if c=true then t1 else t2)/\H (if c=true then t1 else t2)=some (.tup [.ref (if c=true then r1 else r2),.int (if c=true then w1 else w2)])/\iD K H0 H (if c=true then r1 else r2) (if c=true then mv1 else mv2) (if c=true then pt1 else pt2) (if c=true then lk1 else lk2))
   (fun H' c x=>∃y,x=V.ref y/\mJ K H3 H' Z.a_System y (if c=true then mv1 else mv2) (if c=true then pt1 else pt2) (if c=true then lk1 else lk2)) id dl3 (.cons ⟨rfl,g1,P1⟩ (.cons ⟨rfl,g2,P2⟩ .nil)) (by decide) (fun h e=>⟨h.1,e _ _ h.2.1,h.2.2.same e⟩) (fun ⟨y,h1,h2⟩ e=>⟨y,h1,h2.same e⟩) ?_ ?_
  ·rintro i c x H' NY NN ec s ⟨rfl,gt,PQ⟩ k1;cases c with
   | true =>
    simp only[if_true] at gt PQ k1 ⊢;walk_at "w";exact ⟨r1,H0,mv1,pt1,lk1,rfl,PQ,D1,F1.sf,fun y H4 ny s4 S4=>k1 _ _ s4 ⟨y,rfl,S4.weak s⟩⟩
   | false =>
    simp only[fu,if_false] at gt PQ k1 ⊢;walk_at "w";exact ⟨r2,H0,mv2,pt2,lk2,rfl,PQ,D2,F2.sf,fun y H4 ny s4 S4=>k1 _ _ s4 ⟨y,rfl,S4.weak s⟩⟩
  rintro ys H4 sl nsl s4 gsl pr _
  obtain ⟨y1,y2,rfl,S1,S2⟩:∃y1 y2,ys=[V.ref y1,V.ref y2]/\mJ K H3 H4 Z.a_System y1 mv1 pt1 lk1/\mJ K H3 H4 Z.a_System y2 mv2 pt2 lk2:=by
   cases pr with
   | cons h1 t=>cases t with
    | cons h2 t' =>
     cases t';obtain ⟨y1,rfl,S1⟩:=h1;obtain ⟨y2,rfl,S2⟩:=h2;exact ⟨y1,y2,rfl,S1,S2⟩
  have slb:sl≠b:=fun z=>B3.at (by rw[<- z];exact nsl)
  walk_at "w";refine dj fun kl H6 s6 n6 g6=>?_
  have B6:=(B3.same s4).same s6;have s46:=s4.trans s6;have wk:∀q,H3 q=none->H0 q=none:=fun q h=>u03.none B3 h
  have S1:=(S1.same s6).weakN wk;have S2:=(S2.same s6).weakN wk;have P1:=P1.same s46;have P2:=P2.same s46;have dlg:=s46 _ _ dl3;have slg:=s6 _ _ gsl;have g1:=s46 _ _ g1;have g2:=s46 _ _ g2;have hn:∀q,H6 q=none->H0 q=none:=fun q h=>wk q (s46.none h)
  have klb:kl≠b:=fun z=>(B3.same s4).at (by rw[<- z];exact n6)
  walk_at "w";refine ⟨⟨_,bJ.of g6⟩,?_⟩;refine fJ (K:=K) (a:=kl) (xs:=[V.int 0,V.int 1,V.int 0]) (fun i σ' H'=>iX H' b/\cL b H6 H'/\∃x1 x2 x3 x4 x5,σ'=[some (.ref a),some (.ref b),some (.ref dl),some (.ref sl),x1,x2,x3,x4,x5,none]) ⟨B6,(aF.refl _).upto,_,_,_,_,_,rfl⟩ (fun i σ' H' _ ⟨_,u,_⟩=>bJ.of (u.other klb g6)) ?_ ?_
  ·rintro i x σ' H' hx ⟨B',u',x1,x2,x3,x4,x5,rfl⟩;have g1':=u'.tup B6 g1;have g2':=u'.tup B6 g2;have hm:=ay hx;simp only[aB,aL,or_false] at hm
   have hm':x=V.int 0\/x=V.int 1:=by
    rcases hm with e | e | e
    ·exact .inl e
    ·exact .inr e
    ·exact .inl e
   rcases hm' with rfl | rfl
   ·walk_at "w";refine b9 (bJ.of (u'.other dlb dlg)) (dR (j:=0) rfl) ?_;have P':=P1.upto u' B6 B0.at;obtain ⟨m,p,l,gt,mn,pn,ln,Gm,Gp,Gl⟩:=id P';obtain ⟨um,gm,qm,_⟩:=id Gm;have lum:=qm.length;have d8:=D1.n8;walk_at "w";refine ⟨_,_,rfl,.inl (bJ.of gm),?_⟩;rw[<- lum];walk_at "w";refine ⟨b,mv1.length,w1,rfl,B',d8,fun tt H7 St B7 u7=>?_⟩;have t12:=St.1;walk_at "w";refine ⟨b,(tt:Int)+1,rfl,B7,by lia,by lia,fun v H8 v0 v1 B8 u8=>?_⟩;obtain ⟨v,rfl⟩:=bU v0;walk_at "w";refine dj fun ml H10 s10 n10 g10=>?_
    have u610:=((u'.trans u7).trans u8).same s10;have B10:=B8.same s10;have S10:=S1.upto u610 B6 B0.at;have P10:=P1.upto u610 B6 B0.at;have sl10:=u610.other slb slg;walk_at "w";refine ⟨⟨_,bJ.of g10⟩,?_⟩;refine fJ (K:=K) (a:=ml) (xs:=[V.int tt,V.int v,V.int tt]) (fun i σ' H'=>aF H10 H'/\∃yy,σ'=[some (.ref a),some (.ref b),some (.ref dl),some (.ref sl),some (.int 0),some (.ref r1),some (.int w1),some (.int tt),yy,none]) ⟨aF.refl _,_,rfl⟩ (fun i σ' H' _ ⟨s,_⟩=>bJ.of (s _ _ g10)) ?_ ?_
    ·rintro i2 x2 σ' H11 hx2 ⟨s11,yy,rfl⟩
     obtain ⟨q2,rfl,q12⟩:∃q2:Nat,x2=.int q2/\q2<=tt:=by
      have hm:=ay hx2;simp only[aB,aL,or_false] at hm;rcases hm with e | e | e
      ·exact ⟨tt,e,ar _⟩
      ·exact ⟨v,e,by lia⟩
      ·exact ⟨tt,e,ar _⟩
     obtain ⟨ee,VV⟩:=xx (T:=q2) G1 D1.turn (by rw[fL];exact St.mono q12);walk_at "w";refine b9 (bJ.of (s11 _ _ sl10)) (dR (j:=0) rfl) ?_;walk_at "w";refine ⟨y1,r1,q2,ee,H0,H0,mv1,pt1,lk1,rfl,by lia,S10.same s11,P10.same s11,D1,F1,VV,fun H12 s12=>?_⟩;walk_at "w";exact ⟨s11.trans s12,_,rfl⟩
    ·rintro σ' H11 ⟨s11,yy,rfl⟩;exact ⟨B10.same s11,u610.same s11,_,_,_,_,_,rfl⟩
   ·walk_at "w";refine b9 (bJ.of (u'.other dlb dlg)) (dR (j:=1) rfl) ?_;have P':=P2.upto u' B6 B0.at;obtain ⟨m,p,l,gt,mn,pn,ln,Gm,Gp,Gl⟩:=id P';obtain ⟨um,gm,qm,_⟩:=id Gm;have lum:=qm.length;have d8:=D2.n8;walk_at "w";refine ⟨_,_,rfl,.inl (bJ.of gm),?_⟩;rw[<- lum];walk_at "w";refine ⟨b,mv2.length,w2,rfl,B',d8,fun tt H7 St B7 u7=>?_⟩;have t12:=St.1;walk_at "w";refine ⟨b,(tt:Int)+1,rfl,B7,by lia,by lia,fun v H8 v0 v1 B8 u8=>?_⟩;obtain ⟨v,rfl⟩:=bU v0;walk_at "w";refine dj fun ml H10 s10 n10 g10=>?_
    have u610:=((u'.trans u7).trans u8).same s10;have B10:=B8.same s10;have S10:=S2.upto u610 B6 B0.at;have P10:=P2.upto u610 B6 B0.at;have sl10:=u610.other slb slg;walk_at "w";refine ⟨⟨_,bJ.of g10⟩,?_⟩;refine fJ (K:=K) (a:=ml) (xs:=[V.int tt,V.int v,V.int tt]) (fun i σ' H'=>aF H10 H'/\∃yy,σ'=[some (.ref a),some (.ref b),some (.ref dl),some (.ref sl),some (.int 1),some (.ref r2),some (.int w2),some (.int tt),yy,none]) ⟨aF.refl _,_,rfl⟩ (fun i σ' H' _ ⟨s,_⟩=>bJ.of (s _ _ g10)) ?_ ?_
    ·rintro i2 x2 σ' H11 hx2 ⟨s11,yy,rfl⟩
     obtain ⟨q2,rfl,q12⟩:∃q2:Nat,x2=.int q2/\q2<=tt:=by
      have hm:=ay hx2;simp only[aB,aL,or_false] at hm;rcases hm with e | e | e
      ·exact ⟨tt,e,ar _⟩
      ·exact ⟨v,e,by lia⟩
      ·exact ⟨tt,e,ar _⟩
     obtain ⟨ee,VV⟩:=xx (T:=q2) G2 D2.turn (by rw[fL];exact St.mono q12);walk_at "w";refine b9 (bJ.of (s11 _ _ sl10)) (dR (j:=1) rfl) ?_;walk_at "w";refine ⟨y2,r2,q2,ee,H0,H0,mv2,pt2,lk2,rfl,by lia,S10.same s11,P10.same s11,D2,F2,VV,fun H12 s12=>?_⟩;walk_at "w";exact ⟨s11.trans s12,_,rfl⟩
    ·rintro σ' H11 ⟨s11,yy,rfl⟩;exact ⟨B10.same s11,u610.same s11,_,_,_,_,_,rfl⟩
  ·rintro σ' H' ⟨B',u',x1,x2,x3,x4,x5,rfl⟩;have g2':=u'.tup B6 g2;have P':=P2.upto u' B6 B0.at;have S':=S2.upto u' B6 B0.at;have dl':=u'.other dlb dlg;have sl':=u'.other slb slg;obtain ⟨m,p,l,gt,mn,pn,ln,Gm,Gp,Gl⟩:=id P';obtain ⟨um,gm,qm,_⟩:=id Gm;have lum:=qm.length;have d8:=D2.n8;walk_at "w";refine ⟨_,_,rfl,.inl (bJ.of gm),?_⟩;rw[<- lum];obtain ⟨ee,VV⟩:=xx (T:=0) G2 D2.turn ⟨by decide,fun _=>by decide,fun _ _=>by decide,fun _=>by decide⟩;walk_at "w";refine ⟨y2,0,ee,H0,mv2,pt2,lk2,rfl,by lia,S',D2,F2,VV.un,fun r Hd H7 nr s7 G7 U=>?_⟩;walk_at "w";refine ⟨by lia,by lia,?_⟩;refine dm (n:=mv2.length) (cM K H7) (fun (i:Nat)=>(List.range mv2.length).map fun (j:Nat)=>(((if decide ((j:Int)=(i:Int))=true then 1 else 0:Int)):Rat)) (by lia) (fun a b=>a.same b) ?_ ?_
   ·rintro i Hb NY NN hi sa k1;walk_at "w";refine ⟨by lia,by lia,?_⟩;refine dm (n:=mv2.length) (cf K) (fun (j:Nat)=>(((if decide ((j:Int)=(i:Int))=true then 1 else 0:Int)):Rat)) (by lia) (fun a b=>a.same b) ?_ ?_
    ·rintro j Hz NY2 NN2 hj sz k2;walk_at "w";refine cu fun t Hy sy gy=>?_
     exact k2 _ _ sy (cf.mk gy rfl)
    ·rintro ys Hz t ht sz g pr nx;exact k1 _ _ sz ⟨t,rfl,sa.none ht,ys,g,pr⟩
   rintro ys H8 du hdu s8 g8 pr8 nx8;have Gd:bF K H7 H8 du _:=⟨ys,g8,pr8,lJ nx8⟩;walk_at "w";refine ⟨_,_,AX,Hd,_,by decide,(G7.same s8).kind,Gd.kind,?_⟩;rw[decide_eq_true (show Hd=_ by rw[Iq U];exact (dJ fun i _=>(Ip (a:=(i:Int))).symm))];exact k _
end
theorem ln0 {P:List Value->Prop} (h:P []):∀us:List Value,us.length=0->P us
 | [],_=>h
theorem D9 {P:List Value->Prop} (h:∀x0,P [x0]):∀us:List Value,us.length=1->P us
 | [x0],_=>h x0
theorem ln2 {P:List Value->Prop} (h:∀x0 x1,P [x0,x1]):∀us:List Value,us.length=2->P us
 | [x0,x1],_=>h x0 x1
theorem Ju {P:List Value->Prop} (h:∀x0 x1 x2,P [x0,x1,x2]):∀us:List Value,us.length=3->P us
 | [x0,x1,x2],_=>h x0 x1 x2
theorem Nn {P:List Value->Prop} (h:∀x0 x1 x2 x3,P [x0,x1,x2,x3]):∀us:List Value,us.length=4->P us
 | [x0,x1,x2,x3],_=>h x0 x1 x2 x3
theorem ln5 {P:List Value->Prop} (h:∀x0 x1 x2 x3 x4,P [x0,x1,x2,x3,x4]):∀us:List Value,us.length=5->P us
 | [x0,x1,x2,x3,x4],_=>h x0 x1 x2 x3 x4
theorem all_mk {l:W.OpenLaw} {w:World} {K:W.Frag} {h:Heap} {mg:Str->Option Value} {fa:Addr}
  {f0 f1 f2 f3 f4 f5 f6 f7 f8 f9 f10 f11 f12 f13 f14 f15 f16 f17 f18 f19 f20 f21 f22 f23 f24 f25 f26 f27 f28 f29 f30 f31 f32 f33 f34 f35 f36 f37 f38 f39 f40 f41 f42 f43 f44 f45 f46 f47 f48 f49 f50 f51 f52 f53 f54 f55 f56 f57 f58 f59 f60 f61:Addr} {od0 od1 od2 od3 od4 od5 od6 od7 od8 od9 od10 od11 od12 od13 od14 od15 od16 od17 od18 od19 od20 od21 od22 od23 od24 od25 od26 od27 od28 od29 od30 od31 od32 od33 od34 od35 od36 od37 od38 od39 od40 od41 od42 od43 od44 od45 od46 od47 od48 od49 od50 od51 od52 od53 od54 od55 od56 od57 od58 od59 od60 od61 an0 an1 an2 an3 an4 an5 an6 an7 an8 an9 an10 an11 an12 an13 an14 an15 an16 an17 an18 an19 an20 an21 an22 an23 an24 an25 an26 an27 an28 an29 an30 an31 an32 an33 an34 an35 an36 an37 an38 an39 an40 an41 an42 an43 an44 an45 an46 an47 an48 an49 an50 an51 an52 an53 an54 an55 an56 an57 an58 an59 an60 an61:Option Addr} {sl0 sl1 sl2 sl3 sl4 sl5 sl6 sl7 sl8 sl9 sl10 sl11 sl12 sl13 sl14 sl15 sl16 sl17 sl18 sl19 sl20 sl21 sl22 sl23 sl24 sl25 sl26 sl27 sl28 sl29 sl30 sl31 sl32 sl33 sl34 sl35 sl36 sl37 sl38 sl39 sl40 sl41 sl42 sl43 sl44 sl45 sl46 sl47 sl48 sl49 sl50 sl51 sl52 sl53 sl54 sl55 sl56 sl57 sl58 sl59 sl60 sl61:Array (Option Value)} {oc0 oc1 oc2 oc3 oc4 oc5 oc6 oc7 oc8 oc9 oc10 oc11 oc12 oc13 oc14 oc15 oc16 oc17 oc18 oc19 oc20 oc21 oc22 oc23 oc24 oc25 oc26 oc27 oc28 oc29 oc30 oc31 oc32 oc33 oc34 oc35 oc36 oc37 oc38 oc39 oc40 oc41 oc42 oc43 oc44 oc45 oc46 oc47 oc48 oc49 oc50 oc51 oc52 oc53 oc54 oc55 oc56 oc57 oc58 oc59 oc60 oc61 kV0 kV1 kV2 kV3 kV4 kV5 kV6 kV7 kV8 kV9 kV10 kV11 kV12 kV13 kV14 kV15 kV16 kV17 kV18 kV19 kV20 kV21 kV22 kV23 kV24 kV25 kV26 kV27 kV28 kV29 kV30 kV31 kV32 kV33 kV34 kV35 kV36 kV37 kV38 kV39 kV40 kV41 kV42 kV43 kV44 kV45 kV46 kV47 kV48 kV49 kV50 kV51 kV52 kV53 kV54 kV55 kV56 kV57 kV58 kV59 kV60 kV61 dc0 dc1 dc2 dc3 dc4 dc5 dc6 dc7 dc8 dc9 dc10 dc11 dc12 dc13 dc14 dc15 dc16 dc17 dc18 dc19 dc20 dc21 dc22 dc23 dc24 dc25 dc26 dc27 dc28 dc29 dc30 dc31 dc32 dc33 dc34 dc35 dc36 dc37 dc38 dc39 dc40 dc41 dc42 dc43 dc44 dc45 dc46 dc47 dc48 dc49 dc50 dc51 dc52 dc53 dc54 dc55 dc56 dc57 dc58 dc59 dc60 dc61 pm0 pm1 pm2 pm3 pm4 pm5 pm6 pm7 pm8 pm9 pm10 pm11 pm12 pm13 pm14 pm15 pm16 pm17 pm18 pm19 pm20 pm21 pm22 pm23 pm24 pm25 pm26 pm27 pm28 pm29 pm30 pm31 pm32 pm33 pm34 pm35 pm36 pm37 pm38 pm39 pm40 pm41 pm42 pm43 pm44 pm45 pm46 pm47 pm48 pm49 pm50 pm51 pm52 pm53 pm54 pm55 pm56 pm57 pm58 pm59 pm60 pm61 cd0 cd1 cd2 cd3 cd4 cd5 cd6 cd7 cd8 cd9 cd10 cd11 cd12 cd13 cd14 cd15 cd16 cd17 cd18 cd19 cd20 cd21 cd22 cd23 cd24 cd25 cd26 cd27 cd28 cd29 cd30 cd31 cd32 cd33 cd34 cd35 cd36 cd37 cd38 cd39 cd40 cd41 cd42 cd43 cd44 cd45 cd46 cd47 cd48 cd49 cd50 cd51 cd52 cd53 cd54 cd55 cd56 cd57 cd58 cd59 cd60 cd61 ct0 ct1 ct2 ct3 ct4 ct5 ct6 ct7 ct8 ct9 ct10 ct11 ct12 ct13 ct14 ct15 ct16 ct17 ct18 ct19 ct20 ct21 ct22 ct23 ct24 ct25 ct26 ct27 ct28 ct29 ct30 ct31 ct32 ct33 ct34 ct35 ct36 ct37 ct38 ct39 ct40 ct41 ct42 ct43 ct44 ct45 ct46 ct47 ct48 ct49 ct50 ct51 ct52 ct53 ct54 ct55 ct56 ct57 ct58 ct59 ct60 ct61:Value}
  (X:K.In h) (G:h.Ns mainGlobals mg) (hfa:mg "law"=some (.ref fa))
  {C:Addr} (aC:W.nsIn K mainGlobals "System"=some (some (.ref C)))
  (a0:W.nsIn K mainGlobals "_law_bag"=some (some (.ref f0))) (l0:K.lookup f0=some ⟨oc0,od0,.func (W.fnOf "_law_bag" "_law_bag" (aY j9) (aS j9) (ax j9) .none kV0 dc0 pm0 an0 cd0 ct0),sl0⟩) (c0:W.codeIn K cd0 "_law_bag"=true) (k0:W.keepIn K (.ref f0)=true)
  (a1:W.nsIn K mainGlobals "_law_take"=some (some (.ref f1))) (l1:K.lookup f1=some ⟨oc1,od1,.func (W.fnOf "_law_take" "_law_take" (aY ji) (aS ji) (ax ji) .none kV1 dc1 pm1 an1 cd1 ct1),sl1⟩) (c1:W.codeIn K cd1 "_law_take"=true) (k1:W.keepIn K (.ref f1)=true)
  (a2:W.nsIn K mainGlobals "want_list"=some (some (.ref f2))) (l2:K.lookup f2=some ⟨oc2,od2,.func (W.fnOf "want_list" "want_list" (aY je) (aS je) (ax je) .none kV2 dc2 pm2 an2 cd2 ct2),sl2⟩) (c2:W.codeIn K cd2 "want_list"=true) (k2:W.keepIn K (.ref f2)=true)
  (a3:W.nsIn K mainGlobals "is_whole"=some (some (.ref f3))) (l3:K.lookup f3=some ⟨oc3,od3,.func (W.fnOf "is_whole" "is_whole" (aY jZ) (aS jZ) (ax jZ) .none kV3 dc3 pm3 an3 cd3 ct3),sl3⟩) (c3:W.codeIn K cd3 "is_whole"=true) (k3:W.keepIn K (.ref f3)=true)
  (a4:W.nsIn K mainGlobals "common_divisor"=some (some (.ref f4))) (l4:K.lookup f4=some ⟨oc4,od4,.func (W.fnOf "common_divisor" "common_divisor" (aY dY) (aS dY) (ax dY) .none kV4 dc4 pm4 an4 cd4 ct4),sl4⟩) (c4:W.codeIn K cd4 "common_divisor"=true) (k4:W.keepIn K (.ref f4)=true)
  (a5:W.nsIn K mainGlobals "is_number"=some (some (.ref f5))) (l5:K.lookup f5=some ⟨oc5,od5,.func (W.fnOf "is_number" "is_number" (aY jh) (aS jh) (ax jh) .none kV5 dc5 pm5 an5 cd5 ct5),sl5⟩) (c5:W.codeIn K cd5 "is_number"=true) (k5:W.keepIn K (.ref f5)=true)
  (a6:W.nsIn K mainGlobals "is_row"=some (some (.ref f6))) (l6:K.lookup f6=some ⟨oc6,od6,.func (W.fnOf "is_row" "is_row" (aY oY) (aS oY) (ax oY) .none kV6 dc6 pm6 an6 cd6 ct6),sl6⟩) (c6:W.codeIn K cd6 "is_row"=true) (k6:W.keepIn K (.ref f6)=true)
  (a7:W.nsIn K mainGlobals "copied_rows"=some (some (.ref f7))) (l7:K.lookup f7=some ⟨oc7,od7,.func (W.fnOf "copied_rows" "copied_rows" (aY fR) (aS fR) (ax fR) .none kV7 dc7 pm7 an7 cd7 ct7),sl7⟩) (c7:W.codeIn K cd7 "copied_rows"=true) (k7:W.keepIn K (.ref f7)=true)
  (a8:W.findIn K (.ref C) "__init__"=some (some (.ref f8))) (i8:W.isFn K (.ref f8)=true) (l8:K.lookup f8=some ⟨oc8,od8,.func (W.fnOf "__init__" "System.__init__" (aY dH) (aS dH) (ax dH) .none kV8 dc8 pm8 an8 cd8 ct8),sl8⟩) (c8:W.codeIn K cd8 "System.__init__"=true) (k8:W.keepIn K (.ref f8)=true)
  (a9:W.nsIn K mainGlobals "tops_over"=some (some (.ref f9))) (l9:K.lookup f9=some ⟨oc9,od9,.func (W.fnOf "tops_over" "tops_over" (aY jg) (aS jg) (ax jg) .none kV9 dc9 pm9 an9 cd9 ct9),sl9⟩) (c9:W.codeIn K cd9 "tops_over"=true) (k9:W.keepIn K (.ref f9)=true)
  (a10:W.nsIn K mainGlobals "common_multiple"=some (some (.ref f10))) (l10:K.lookup f10=some ⟨oc10,od10,.func (W.fnOf "common_multiple" "common_multiple" (aY dG) (aS dG) (ax dG) .none kV10 dc10 pm10 an10 cd10 ct10),sl10⟩) (c10:W.codeIn K cd10 "common_multiple"=true) (k10:W.keepIn K (.ref f10)=true)
  (a11:W.nsIn K mainGlobals "common_bottom"=some (some (.ref f11))) (l11:K.lookup f11=some ⟨oc11,od11,.func (W.fnOf "common_bottom" "common_bottom" (aY eH) (aS eH) (ax eH) .none kV11 dc11 pm11 an11 cd11 ct11),sl11⟩) (c11:W.codeIn K cd11 "common_bottom"=true) (k11:W.keepIn K (.ref f11)=true)
  (a12:W.nsIn K mainGlobals "first_with"=some (some (.ref f12))) (l12:K.lookup f12=some ⟨oc12,od12,.func (W.fnOf "first_with" "first_with" (aY gQ) (aS gQ) (ax gQ) .none kV12 dc12 pm12 an12 cd12 ct12),sl12⟩) (c12:W.codeIn K cd12 "first_with"=true) (k12:W.keepIn K (.ref f12)=true)
  (a13:W.nsIn K mainGlobals "cleared"=some (some (.ref f13))) (l13:K.lookup f13=some ⟨oc13,od13,.func (W.fnOf "cleared" "cleared" (aY mX) (aS mX) (ax mX) .none kV13 dc13 pm13 an13 cd13 ct13),sl13⟩) (c13:W.codeIn K cd13 "cleared"=true) (k13:W.keepIn K (.ref f13)=true)
  (a14:W.nsIn K mainGlobals "brought_up"=some (some (.ref f14))) (l14:K.lookup f14=some ⟨oc14,od14,.func (W.fnOf "brought_up" "brought_up" (aY gR) (aS gR) (ax gR) .none kV14 dc14 pm14 an14 cd14 ct14),sl14⟩) (c14:W.codeIn K cd14 "brought_up"=true) (k14:W.keepIn K (.ref f14)=true)
  (a15:W.nsIn K mainGlobals "swept"=some (some (.ref f15))) (l15:K.lookup f15=some ⟨oc15,od15,.func (W.fnOf "swept" "swept" (aY sJ) (aS sJ) (ax sJ) .none kV15 dc15 pm15 an15 cd15 ct15),sl15⟩) (c15:W.codeIn K cd15 "swept"=true) (k15:W.keepIn K (.ref f15)=true)
  (a16:W.nsIn K mainGlobals "lowest"=some (some (.ref f16))) (l16:K.lookup f16=some ⟨oc16,od16,.func (W.fnOf "lowest" "lowest" (aY oX) (aS oX) (ax oX) .none kV16 dc16 pm16 an16 cd16 ct16),sl16⟩) (c16:W.codeIn K cd16 "lowest"=true) (k16:W.keepIn K (.ref f16)=true)
  (a17:W.nsIn K mainGlobals "reduced"=some (some (.ref f17))) (l17:K.lookup f17=some ⟨oc17,od17,.func (W.fnOf "reduced" "reduced" (aY mT) (aS mT) (ax mT) .none kV17 dc17 pm17 an17 cd17 ct17),sl17⟩) (c17:W.codeIn K cd17 "reduced"=true) (k17:W.keepIn K (.ref f17)=true)
  (a18:W.nsIn K mainGlobals "row_dot"=some (some (.ref f18))) (l18:K.lookup f18=some ⟨oc18,od18,.func (W.fnOf "row_dot" "row_dot" (aY mS) (aS mS) (ax mS) .none kV18 dc18 pm18 an18 cd18 ct18),sl18⟩) (c18:W.codeIn K cd18 "row_dot"=true) (k18:W.keepIn K (.ref f18)=true)
  (a19:W.nsIn K mainGlobals "grid_on"=some (some (.ref f19))) (l19:K.lookup f19=some ⟨oc19,od19,.func (W.fnOf "grid_on" "grid_on" (aY mW) (aS mW) (ax mW) .none kV19 dc19 pm19 an19 cd19 ct19),sl19⟩) (c19:W.codeIn K cd19 "grid_on"=true) (k19:W.keepIn K (.ref f19)=true)
  (a20:W.nsIn K mainGlobals "moved_rows"=some (some (.ref f20))) (l20:K.lookup f20=some ⟨oc20,od20,.func (W.fnOf "moved_rows" "moved_rows" (aY gP) (aS gP) (ax gP) .none kV20 dc20 pm20 an20 cd20 ct20),sl20⟩) (c20:W.codeIn K cd20 "moved_rows"=true) (k20:W.keepIn K (.ref f20)=true)
  (a21:W.nsIn K mainGlobals "reach_grown"=some (some (.ref f21))) (l21:K.lookup f21=some ⟨oc21,od21,.func (W.fnOf "reach_grown" "reach_grown" (aY fO) (aS fO) (ax fO) .none kV21 dc21 pm21 an21 cd21 ct21),sl21⟩) (c21:W.codeIn K cd21 "reach_grown"=true) (k21:W.keepIn K (.ref f21)=true)
  (a22:W.nsIn K mainGlobals "reach_rows"=some (some (.ref f22))) (l22:K.lookup f22=some ⟨oc22,od22,.func (W.fnOf "reach_rows" "reach_rows" (aY gO) (aS gO) (ax gO) .none kV22 dc22 pm22 an22 cd22 ct22),sl22⟩) (c22:W.codeIn K cd22 "reach_rows"=true) (k22:W.keepIn K (.ref f22)=true)
  (a23:W.nsIn K mainGlobals "grid_turned"=some (some (.ref f23))) (l23:K.lookup f23=some ⟨oc23,od23,.func (W.fnOf "grid_turned" "grid_turned" (aY fP) (aS fP) (ax fP) .none kV23 dc23 pm23 an23 cd23 ct23),sl23⟩) (c23:W.codeIn K cd23 "grid_turned"=true) (k23:W.keepIn K (.ref f23)=true)
  (a24:W.findIn K (.ref C) "turned"=some (some (.ref f24))) (i24:W.isFn K (.ref f24)=true) (l24:K.lookup f24=some ⟨oc24,od24,.func (W.fnOf "turned" "System.turned" (aY eI) (aS eI) (ax eI) .none kV24 dc24 pm24 an24 cd24 ct24),sl24⟩) (c24:W.codeIn K cd24 "System.turned"=true) (k24:W.keepIn K (.ref f24)=true)
  (a25:W.nsIn K mainGlobals "unit_row"=some (some (.ref f25))) (l25:K.lookup f25=some ⟨oc25,od25,.func (W.fnOf "unit_row" "unit_row" (aY jY) (aS jY) (ax jY) .none kV25 dc25 pm25 an25 cd25 ct25),sl25⟩) (c25:W.codeIn K cd25 "unit_row"=true) (k25:W.keepIn K (.ref f25)=true)
  (a26:W.nsIn K mainGlobals "leading_place"=some (some (.ref f26))) (l26:K.lookup f26=some ⟨oc26,od26,.func (W.fnOf "leading_place" "leading_place" (aY eG) (aS eG) (ax eG) .none kV26 dc26 pm26 an26 cd26 ct26),sl26⟩) (c26:W.codeIn K cd26 "leading_place"=true) (k26:W.keepIn K (.ref f26)=true)
  (a27:W.nsIn K mainGlobals "leading"=some (some (.ref f27))) (l27:K.lookup f27=some ⟨oc27,od27,.func (W.fnOf "leading" "leading" (aY mV) (aS mV) (ax mV) .none kV27 dc27 pm27 an27 cd27 ct27),sl27⟩) (c27:W.codeIn K cd27 "leading"=true) (k27:W.keepIn K (.ref f27)=true)
  (a28:W.nsIn K mainGlobals "minus"=some (some (.ref f28))) (l28:K.lookup f28=some ⟨oc28,od28,.func (W.fnOf "minus" "minus" (aY sN) (aS sN) (ax sN) .none kV28 dc28 pm28 an28 cd28 ct28),sl28⟩) (c28:W.codeIn K cd28 "minus"=true) (k28:W.keepIn K (.ref f28)=true)
  (a29:W.nsIn K mainGlobals "null_at"=some (some (.ref f29))) (l29:K.lookup f29=some ⟨oc29,od29,.func (W.fnOf "null_at" "null_at" (aY mU) (aS mU) (ax mU) .none kV29 dc29 pm29 an29 cd29 ct29),sl29⟩) (c29:W.codeIn K cd29 "null_at"=true) (k29:W.keepIn K (.ref f29)=true)
  (a30:W.nsIn K mainGlobals "free_places"=some (some (.ref f30))) (l30:K.lookup f30=some ⟨oc30,od30,.func (W.fnOf "free_places" "free_places" (aY fQ) (aS fQ) (ax fQ) .none kV30 dc30 pm30 an30 cd30 ct30),sl30⟩) (c30:W.codeIn K cd30 "free_places"=true) (k30:W.keepIn K (.ref f30)=true)
  (a31:W.nsIn K mainGlobals "nulls"=some (some (.ref f31))) (l31:K.lookup f31=some ⟨oc31,od31,.func (W.fnOf "nulls" "nulls" (aY sL) (aS sL) (ax sL) .none kV31 dc31 pm31 an31 cd31 ct31),sl31⟩) (c31:W.codeIn K cd31 "nulls"=true) (k31:W.keepIn K (.ref f31)=true)
  (a32:W.nsIn K mainGlobals "unseen_rows"=some (some (.ref f32))) (l32:K.lookup f32=some ⟨oc32,od32,.func (W.fnOf "unseen_rows" "unseen_rows" (aY fN) (aS fN) (ax fN) .none kV32 dc32 pm32 an32 cd32 ct32),sl32⟩) (c32:W.codeIn K cd32 "unseen_rows"=true) (k32:W.keepIn K (.ref f32)=true)
  (a33:W.nsIn K mainGlobals "_law_shift"=some (some (.ref f33))) (l33:K.lookup f33=some ⟨oc33,od33,.func (W.fnOf "_law_shift" "_law_shift" (aY gV) (aS gV) (ax gV) .none kV33 dc33 pm33 an33 cd33 ct33),sl33⟩) (c33:W.codeIn K cd33 "_law_shift"=true) (k33:W.keepIn K (.ref f33)=true)
  (a34:W.nsIn K mainGlobals "_law_low"=some (some (.ref f34))) (l34:K.lookup f34=some ⟨oc34,od34,.func (W.fnOf "_law_low" "_law_low" (aY j7) (aS j7) (ax j7) .none kV34 dc34 pm34 an34 cd34 ct34),sl34⟩) (c34:W.codeIn K cd34 "_law_low"=true) (k34:W.keepIn K (.ref f34)=true)
  (a35:W.nsIn K mainGlobals "_law_sum"=some (some (.ref f35))) (l35:K.lookup f35=some ⟨oc35,od35,.func (W.fnOf "_law_sum" "_law_sum" (aY j5) (aS j5) (ax j5) .none kV35 dc35 pm35 an35 cd35 ct35),sl35⟩) (c35:W.codeIn K cd35 "_law_sum"=true) (k35:W.keepIn K (.ref f35)=true)
  (a36:W.nsIn K mainGlobals "_law_plus"=some (some (.ref f36))) (l36:K.lookup f36=some ⟨oc36,od36,.func (W.fnOf "_law_plus" "_law_plus" (aY jo) (aS jo) (ax jo) .none kV36 dc36 pm36 an36 cd36 ct36),sl36⟩) (c36:W.codeIn K cd36 "_law_plus"=true) (k36:W.keepIn K (.ref f36)=true)
  (a37:W.nsIn K mainGlobals "_law_prod"=some (some (.ref f37))) (l37:K.lookup f37=some ⟨oc37,od37,.func (W.fnOf "_law_prod" "_law_prod" (aY jm) (aS jm) (ax jm) .none kV37 dc37 pm37 an37 cd37 ct37),sl37⟩) (c37:W.codeIn K cd37 "_law_prod"=true) (k37:W.keepIn K (.ref f37)=true)
  (a38:W.nsIn K mainGlobals "_law_by"=some (some (.ref f38))) (l38:K.lookup f38=some ⟨oc38,od38,.func (W.fnOf "_law_by" "_law_by" (aY mY) (aS mY) (ax mY) .none kV38 dc38 pm38 an38 cd38 ct38),sl38⟩) (c38:W.codeIn K cd38 "_law_by"=true) (k38:W.keepIn K (.ref f38)=true)
  (a39:W.nsIn K mainGlobals "_law_mixed"=some (some (.ref f39))) (l39:K.lookup f39=some ⟨oc39,od39,.func (W.fnOf "_law_mixed" "_law_mixed" (aY gX) (aS gX) (ax gX) .none kV39 dc39 pm39 an39 cd39 ct39),sl39⟩) (c39:W.codeIn K cd39 "_law_mixed"=true) (k39:W.keepIn K (.ref f39)=true)
  (a40:W.nsIn K mainGlobals "_law_line"=some (some (.ref f40))) (l40:K.lookup f40=some ⟨oc40,od40,.func (W.fnOf "_law_line" "_law_line" (aY jr) (aS jr) (ax jr) .none kV40 dc40 pm40 an40 cd40 ct40),sl40⟩) (c40:W.codeIn K cd40 "_law_line"=true) (k40:W.keepIn K (.ref f40)=true)
  (a41:W.nsIn K mainGlobals "_law_sizes"=some (some (.ref f41))) (l41:K.lookup f41=some ⟨oc41,od41,.func (W.fnOf "_law_sizes" "_law_sizes" (aY fz) (aS fz) (ax fz) .none kV41 dc41 pm41 an41 cd41 ct41),sl41⟩) (c41:W.codeIn K cd41 "_law_sizes"=true) (k41:W.keepIn K (.ref f41)=true)
  (a42:W.nsIn K mainGlobals "_law_number"=some (some (.ref f42))) (l42:K.lookup f42=some ⟨oc42,od42,.func (W.fnOf "_law_number" "_law_number" (aY fV) (aS fV) (ax fV) .none kV42 dc42 pm42 an42 cd42 ct42),sl42⟩) (c42:W.codeIn K cd42 "_law_number"=true) (k42:W.keepIn K (.ref f42)=true)
  (a43:W.nsIn K mainGlobals "_law_row"=some (some (.ref f43))) (l43:K.lookup f43=some ⟨oc43,od43,.func (W.fnOf "_law_row" "_law_row" (aY j6) (aS j6) (ax j6) .none kV43 dc43 pm43 an43 cd43 ct43),sl43⟩) (c43:W.codeIn K cd43 "_law_row"=true) (k43:W.keepIn K (.ref f43)=true)
  (a44:W.nsIn K mainGlobals "_law_move"=some (some (.ref f44))) (l44:K.lookup f44=some ⟨oc44,od44,.func (W.fnOf "_law_move" "_law_move" (aY jq) (aS jq) (ax jq) .none kV44 dc44 pm44 an44 cd44 ct44),sl44⟩) (c44:W.codeIn K cd44 "_law_move"=true) (k44:W.keepIn K (.ref f44)=true)
  (a45:W.nsIn K mainGlobals "_law_parts"=some (some (.ref f45))) (l45:K.lookup f45=some ⟨oc45,od45,.func (W.fnOf "_law_parts" "_law_parts" (aY gW) (aS gW) (ax gW) .none kV45 dc45 pm45 an45 cd45 ct45),sl45⟩) (c45:W.codeIn K cd45 "_law_parts"=true) (k45:W.keepIn K (.ref f45)=true)
  (a46:W.nsIn K mainGlobals "_law_drawn"=some (some (.ref f46))) (l46:K.lookup f46=some ⟨oc46,od46,.func (W.fnOf "_law_drawn" "_law_drawn" (aY gZ) (aS gZ) (ax gZ) .none kV46 dc46 pm46 an46 cd46 ct46),sl46⟩) (c46:W.codeIn K cd46 "_law_drawn"=true) (k46:W.keepIn K (.ref f46)=true)
  (a47:W.nsIn K mainGlobals "_law_copied"=some (some (.ref f47))) (l47:K.lookup f47=some ⟨oc47,od47,.func (W.fnOf "_law_copied" "_law_copied" (aY fX) (aS fX) (ax fX) .none kV47 dc47 pm47 an47 cd47 ct47),sl47⟩) (c47:W.codeIn K cd47 "_law_copied"=true) (k47:W.keepIn K (.ref f47)=true)
  (a48:W.nsIn K mainGlobals "_law_system"=some (some (.ref f48))) (l48:K.lookup f48=some ⟨oc48,od48,.func (W.fnOf "_law_system" "_law_system" (aY fU) (aS fU) (ax fU) .none kV48 dc48 pm48 an48 cd48 ct48),sl48⟩) (c48:W.codeIn K cd48 "_law_system"=true) (k48:W.keepIn K (.ref f48)=true)
  (a49:W.nsIn K mainGlobals "_law_steps"=some (some (.ref f49))) (l49:K.lookup f49=some ⟨oc49,od49,.func (W.fnOf "_law_steps" "_law_steps" (aY gU) (aS gU) (ax gU) .none kV49 dc49 pm49 an49 cd49 ct49),sl49⟩) (c49:W.codeIn K cd49 "_law_steps"=true) (k49:W.keepIn K (.ref f49)=true)
  (a50:W.nsIn K mainGlobals "_law_is_number"=some (some (.ref f50))) (l50:K.lookup f50=some ⟨oc50,od50,.func (W.fnOf "_law_is_number" "_law_is_number" (aY d4) (aS d4) (ax d4) .none kV50 dc50 pm50 an50 cd50 ct50),sl50⟩) (c50:W.codeIn K cd50 "_law_is_number"=true) (k50:W.keepIn K (.ref f50)=true)
  (a51:W.nsIn K mainGlobals "_law_is_row"=some (some (.ref f51))) (l51:K.lookup f51=some ⟨oc51,od51,.func (W.fnOf "_law_is_row" "_law_is_row" (aY fW) (aS fW) (ax fW) .none kV51 dc51 pm51 an51 cd51 ct51),sl51⟩) (c51:W.codeIn K cd51 "_law_is_row"=true) (k51:W.keepIn K (.ref f51)=true)
  (a52:W.nsIn K mainGlobals "_law_is_grid"=some (some (.ref f52))) (l52:K.lookup f52=some ⟨oc52,od52,.func (W.fnOf "_law_is_grid" "_law_is_grid" (aY fe) (aS fe) (ax fe) .none kV52 dc52 pm52 an52 cd52 ct52),sl52⟩) (c52:W.codeIn K cd52 "_law_is_grid"=true) (k52:W.keepIn K (.ref f52)=true)
  (a53:W.nsIn K mainGlobals "_law_quot"=some (some (.ref f53))) (l53:K.lookup f53=some ⟨oc53,od53,.func (W.fnOf "_law_quot" "_law_quot" (aY jk) (aS jk) (ax jk) .none kV53 dc53 pm53 an53 cd53 ct53),sl53⟩) (c53:W.codeIn K cd53 "_law_quot"=true) (k53:W.keepIn K (.ref f53)=true)
  (a54:W.nsIn K mainGlobals "_law_less"=some (some (.ref f54))) (l54:K.lookup f54=some ⟨oc54,od54,.func (W.fnOf "_law_less" "_law_less" (aY js) (aS js) (ax js) .none kV54 dc54 pm54 an54 cd54 ct54),sl54⟩) (c54:W.codeIn K cd54 "_law_less"=true) (k54:W.keepIn K (.ref f54)=true)
  (a55:W.nsIn K mainGlobals "_law_minus"=some (some (.ref f55))) (l55:K.lookup f55=some ⟨oc55,od55,.func (W.fnOf "_law_minus" "_law_minus" (aY gY) (aS gY) (ax gY) .none kV55 dc55 pm55 an55 cd55 ct55),sl55⟩) (c55:W.codeIn K cd55 "_law_minus"=true) (k55:W.keepIn K (.ref f55)=true)
  (a56:W.nsIn K mainGlobals "_law_reduced"=some (some (.ref f56))) (l56:K.lookup f56=some ⟨oc56,od56,.func (W.fnOf "_law_reduced" "_law_reduced" (aY fb) (aS fb) (ax fb) .none kV56 dc56 pm56 an56 cd56 ct56),sl56⟩) (c56:W.codeIn K cd56 "_law_reduced"=true) (k56:W.keepIn K (.ref f56)=true)
  (a57:W.nsIn K mainGlobals "_law_dot"=some (some (.ref f57))) (l57:K.lookup f57=some ⟨oc57,od57,.func (W.fnOf "_law_dot" "_law_dot" (aY j8) (aS j8) (ax j8) .none kV57 dc57 pm57 an57 cd57 ct57),sl57⟩) (c57:W.codeIn K cd57 "_law_dot"=true) (k57:W.keepIn K (.ref f57)=true)
  (a58:W.nsIn K mainGlobals "_law_unseen_right"=some (some (.ref f58))) (l58:K.lookup f58=some ⟨oc58,od58,.func (W.fnOf "_law_unseen_right" "_law_unseen_right" (aY dg) (aS dg) (ax dg) .none kV58 dc58 pm58 an58 cd58 ct58),sl58⟩) (c58:W.codeIn K cd58 "_law_unseen_right"=true) (k58:W.keepIn K (.ref f58)=true)
  (a59:W.nsIn K mainGlobals "_law_look_rows"=some (some (.ref f59))) (l59:K.lookup f59=some ⟨oc59,od59,.func (W.fnOf "_law_look_rows" "_law_look_rows" (aY dZ) (aS dZ) (ax dZ) .none kV59 dc59 pm59 an59 cd59 ct59),sl59⟩) (c59:W.codeIn K cd59 "_law_look_rows"=true) (k59:W.keepIn K (.ref f59)=true)
  (a60:W.nsIn K mainGlobals "_law_asked"=some (some (.ref f60))) (l60:K.lookup f60=some ⟨oc60,od60,.func (W.fnOf "_law_asked" "_law_asked" (aY hJ) (aS hJ) (ax hJ) .none kV60 dc60 pm60 an60 cd60 ct60),sl60⟩) (c60:W.codeIn K cd60 "_law_asked"=true) (k60:W.keepIn K (.ref f60)=true)
  (a61:W.nsIn K mainGlobals "law"=some (some (.ref f61))) (l61:K.lookup f61=some ⟨oc61,od61,.func (W.fnOf "law" "law" (aY zF) (aS zF) (ax zF) .none kV61 dc61 pm61 an61 cd61 ct61),sl61⟩) (c61:W.codeIn K cd61 "law"=true) (k61:W.keepIn K (.ref f61)=true)
  {m0:Addr} {mo0:Option Addr} {mn0:Nat} {ms0:Array (Option Value)} {mt0_0 mt0_1:Tok} (ca0:W.nsIn K mainGlobals "NOUGHT"=some (some (.ref m0))) (cl0:K.lookup m0=some ⟨.type "tuple",mo0,.seq #[.int 0 mt0_0,.int 1 mt0_1] mn0,ms0⟩)
  {m1:Addr} {mo1:Option Addr} {mn1:Nat} {ms1:Array (Option Value)} {mt1_0 mt1_1:Tok} (ca1:W.nsIn K mainGlobals "ONE"=some (some (.ref m1))) (cl1:K.lookup m1=some ⟨.type "tuple",mo1,.seq #[.int 1 mt1_0,.int 1 mt1_1] mn1,ms1⟩)
  {it0:Tok} (ci0:W.nsIn K mainGlobals "MOST_STATES"=some (some (.int 8 it0)))
  {it1:Tok} (ci1:W.nsIn K mainGlobals "MOST_PUTS"=some (some (.int 4 it1)))
  {it2:Tok} (ci2:W.nsIn K mainGlobals "MOST_LOOKS"=some (some (.int 4 it2)))
  (pg:W.plainGet K C Str.empty=true) (hd:W.hasDictIn K C=true) (po:W.plainOver K C=true) (sa:W.findIn K (.ref C) "__setattr__"=some (some (.builtin "object.__setattr__"))) (mk:W.makesIn K C=true) (kc:W.keepIn K (.ref C)=true)
  (n_move:W.findIn K (.ref C) "move"=some none)
  (n_states:W.findIn K (.ref C) "states"=some none)
  (n_put:W.findIn K (.ref C) "put"=some none)
  (n_ins:W.findIn K (.ref C) "ins"=some none)
  (n_look:W.findIn K (.ref C) "look"=some none)
  (n_outs:W.findIn K (.ref C) "outs"=some none)
  (z_abs:W.nsIn K mainGlobals "abs"=some none)
  (z_len:W.nsIn K mainGlobals "len"=some none)
  (z_isinstance:W.nsIn K mainGlobals "isinstance"=some none)
  (z_list:W.nsIn K mainGlobals "list"=some none)
  (z_int:W.nsIn K mainGlobals "int"=some none)
  (z_bool:W.nsIn K mainGlobals "bool"=some none)
  (z_tuple:W.nsIn K mainGlobals "tuple"=some none)
  (z_all:W.nsIn K mainGlobals "all"=some none)
  (z_enumerate:W.nsIn K mainGlobals "enumerate"=some none)
  (z_range:W.nsIn K mainGlobals "range"=some none)
  (z_zip:W.nsIn K mainGlobals "zip"=some none)
  (z_sum:W.nsIn K mainGlobals "sum"=some none)
  (z_min:W.nsIn K mainGlobals "min"=some none)
  : ∃fd:FuncData,(∀(s:Shared) (v:Value),BindsTo s fd ⟨[v],[]⟩ [("_law_script",v)])/\∀base:Heap,K.In base->base.Ns mainGlobals mg->cC l.prog w K mg base iq 11 fa fd ["_law_script"] (Ar K):=by
 have e:=hfa.symm.trans (W.mg_of X G a61);cases e;have F0:=bI (st:=j9) l0 c0 k0;have F1:=bI (st:=ji) l1 c1 k1;have F2:=bI (st:=je) l2 c2 k2;have F3:=bI (st:=jZ) l3 c3 k3;have F4:=bI (st:=dY) l4 c4 k4;have F5:=bI (st:=jh) l5 c5 k5;have F6:=bI (st:=oY) l6 c6 k6;have F7:=bI (st:=fR) l7 c7 k7;have F8:=bI (st:=dH) l8 c8 k8;have F9:=bI (st:=jg) l9 c9 k9;have F10:=bI (st:=dG) l10 c10 k10;have F11:=bI (st:=eH) l11 c11 k11;have F12:=bI (st:=gQ) l12 c12 k12;have F13:=bI (st:=mX) l13 c13 k13;have F14:=bI (st:=gR) l14 c14 k14;have F15:=bI (st:=sJ) l15 c15 k15;have F16:=bI (st:=oX) l16 c16 k16;have F17:=bI (st:=mT) l17 c17 k17;have F18:=bI (st:=mS) l18 c18 k18;have F19:=bI (st:=mW) l19 c19 k19;have F20:=bI (st:=gP) l20 c20 k20;have F21:=bI (st:=fO) l21 c21 k21;have F22:=bI (st:=gO) l22 c22 k22;have F23:=bI (st:=fP) l23 c23 k23;have F24:=bI (st:=eI) l24 c24 k24;have F25:=bI (st:=jY) l25 c25 k25;have F26:=bI (st:=eG) l26 c26 k26;have F27:=bI (st:=mV) l27 c27 k27;have F28:=bI (st:=sN) l28 c28 k28;have F29:=bI (st:=mU) l29 c29 k29;have F30:=bI (st:=fQ) l30 c30 k30;have F31:=bI (st:=sL) l31 c31 k31;have F32:=bI (st:=fN) l32 c32 k32;have F33:=bI (st:=gV) l33 c33 k33;have F34:=bI (st:=j7) l34 c34 k34;have F35:=bI (st:=j5) l35 c35 k35;have F36:=bI (st:=jo) l36 c36 k36;have F37:=bI (st:=jm) l37 c37 k37;have F38:=bI (st:=mY) l38 c38 k38;have F39:=bI (st:=gX) l39 c39 k39;have F40:=bI (st:=jr) l40 c40 k40;have F41:=bI (st:=fz) l41 c41 k41;have F42:=bI (st:=fV) l42 c42 k42;have F43:=bI (st:=j6) l43 c43 k43;have F44:=bI (st:=jq) l44 c44 k44;have F45:=bI (st:=gW) l45 c45 k45;have F46:=bI (st:=gZ) l46 c46 k46;have F47:=bI (st:=fX) l47 c47 k47;have F48:=bI (st:=fU) l48 c48 k48;have F49:=bI (st:=gU) l49 c49 k49;have F50:=bI (st:=d4) l50 c50 k50;have F51:=bI (st:=fW) l51 c51 k51;have F52:=bI (st:=fe) l52 c52 k52;have F53:=bI (st:=jk) l53 c53 k53;have F54:=bI (st:=js) l54 c54 k54;have F55:=bI (st:=gY) l55 c55 k55;have F56:=bI (st:=fb) l56 c56 k56;have F57:=bI (st:=j8) l57 c57 k57;have F58:=bI (st:=dg) l58 c58 k58;have F59:=bI (st:=dZ) l59 c59 k59;have F60:=bI (st:=hJ) l60 c60 k60;have F61:=bI (st:=zF) l61 c61 k61
 have T:Txt K mg { qB:=f0,p7:=_,ot:=f1,nV:=_,oj:=f2,nQ:=_,qj:=f3,pY:=_,ij:=f4,h9:=_,oq:=f5,nU:=_,vI:=f6,vn:=_,kN:=f7,ky:=_,gD:=f8,gA:=_,oo:=f9,nR:=_,gC:=f10,gs:=_,iV:=f11,iQ:=_,mi:=f12,lT:=_,tx:=f13,sU:=_,mo:=f14,lU:=_,xJ:=f15,xF:=_,vH:=f16,vm:=_,sZ:=f17,sQ:=_,sY:=f18,sP:=_,tw:=f19,sT:=_,mh:=f20,lS:=_,kK:=f21,ku:=_,mf:=f22,lQ:=_,kL:=f23,kv:=_,iW:=f24,iS:=_,qi:=f25,pX:=_,iU:=f26,iP:=_,tu:=f27,sS:=_,xM:=f28,xH:=_,tj:=f29,sR:=_,kM:=f30,kx:=_,xK:=f31,xG:=_,kJ:=f32,ks:=_,mD:=f33,lX:=_,qv:=f34,p4:=_,qo:=f35,pZ:=_,ox:=f36,nY:=_,ow:=f37,nX:=_,tz:=f38,sV:=_,mF:=f39,lZ:=_,oz:=f40,n9:=_,mC:=f41,lW:=_,kQ:=f42,kB:=_,qq:=f43,p0:=_,oy:=f44,nZ:=_,mE:=f45,lY:=_,mH:=f46,md:=_,kS:=f47,kD:=_,kO:=f48,kz:=_,mB:=f49,lV:=_,ip:=f50,ib:=_,kR:=f51,kC:=_,jS:=f52,jQ:=_,ou:=f53,nW:=_,oA:=f54,oa:=_,mG:=f55,ma:=_,jR:=f56,jP:=_,qA:=f57,p6:=_,eY:=f58,eX:=_,ik:=f59,ia:=_,mI:=f60,me:=_,HY:=fa,HR:=_,a_NOUGHT:=m0,a_ONE:=m1,t_MOST_STATES:=it0,t_MOST_PUTS:=it1,t_MOST_LOOKS:=it2,a_System:=C }:={
  wM:=W.mg_of X G a0
  yP:=F0.binds (ps:=["_law_script"]) fun _ _ _ _ _ _=>by refine D9 ?_;intros;rfl
  uJ:=F0
  aV:=W.mg_of X G a1
  bu:=F1.binds (ps:=["_law_bag_here","_law_many"]) fun _ _ _ _ _ _=>by refine ln2 ?_;intros;rfl
  bo:=F1
  lN:=W.mg_of X G a2
  og:=F2.binds (ps:=["thing","at","most"]) fun _ _ _ _ _ _=>by refine Ju ?_;intros;rfl
  lA:=F2
  rP:=W.mg_of X G a3
  uF:=F3.binds (ps:=["thing"]) fun _ _ _ _ _ _=>by refine D9 ?_;intros;rfl
  qH:=F3
  gi:=W.mg_of X G a4
  ig:=F4.binds (ps:=["one","other"]) fun _ _ _ _ _ _=>by refine ln2 ?_;intros;rfl
  fg:=F4
  uX:=W.mg_of X G a5
  wU:=F5.binds (ps:=["thing"]) fun _ _ _ _ _ _=>by refine D9 ?_;intros;rfl
  sA:=F5
  zO:=W.mg_of X G a6
  Cq:=F6.binds (ps:=["thing","many"]) fun _ _ _ _ _ _=>by refine ln2 ?_;intros;rfl
  yU:=F6
  jM:=W.mg_of X G a7
  kH:=F7.binds (ps:=["things","wide"]) fun _ _ _ _ _ _=>by refine ln2 ?_;intros;rfl
  iL:=F7
  gB:=F8.binds (ps:=["self","move","put","look"]) fun _ _ _ _ _ _=>by refine Nn ?_;intros;rfl
  oB:=F8
  lO:=W.mg_of X G a9
  oh:=F9.binds (ps:=["row","bottom"]) fun _ _ _ _ _ _=>by refine ln2 ?_;intros;rfl
  lB:=F9
  nv:=W.mg_of X G a10
  oi:=F10.binds (ps:=["wholes"]) fun _ _ _ _ _ _=>by refine D9 ?_;intros;rfl
  jV:=F10
  h8:=W.mg_of X G a11
  iT:=F11.binds (ps:=["row"]) fun _ _ _ _ _ _=>by refine D9 ?_;intros;rfl
  fK:=F11
  tT:=W.mg_of X G a12
  vA:=F12.binds (ps:=["lines","begin","place"]) fun _ _ _ _ _ _=>by refine Ju ?_;intros;rfl
  qI:=F12
  yx:=W.mg_of X G a13
  Ad:=F13.binds (ps:=["lines","at","place","before"]) fun _ _ _ _ _ _=>by refine Nn ?_;intros;rfl
  wB:=F13
  tU:=W.mg_of X G a14
  vB:=F14.binds (ps:=["lines","at","to"]) fun _ _ _ _ _ _=>by refine Ju ?_;intros;rfl
  qJ:=F14
  BY:=W.mg_of X G a15
  En:=F15.binds (ps:=["rows","wide"]) fun _ _ _ _ _ _=>by refine ln2 ?_;intros;rfl
  Bj:=F15
  sO:=W.mg_of X G a16
  vz:=F16.binds (ps:=["top","bottom"]) fun _ _ _ _ _ _=>by refine ln2 ?_;intros;rfl
  sv:=F16
  pT:=W.mg_of X G a17
  sX:=F17.binds (ps:=["rows","wide"]) fun _ _ _ _ _ _=>by refine ln2 ?_;intros;rfl
  pF:=F17
  yu:=W.mg_of X G a18
  Aa:=F18.binds (ps:=["one","other"]) fun _ _ _ _ _ _=>by refine ln2 ?_;intros;rfl
  wj:=F18
  yw:=W.mg_of X G a19
  Ac:=F19.binds (ps:=["grid","row"]) fun _ _ _ _ _ _=>by refine ln2 ?_;intros;rfl
  wq:=F19
  tS:=W.mg_of X G a20
  vw:=F20.binds (ps:=["system","rows"]) fun _ _ _ _ _ _=>by refine ln2 ?_;intros;rfl
  qG:=F20
  rO:=W.mg_of X G a21
  t7:=F21.binds (ps:=["system","steps"]) fun _ _ _ _ _ _=>by refine ln2 ?_;intros;rfl
  oP:=F21
  tR:=W.mg_of X G a22
  vv:=F22.binds (ps:=["system","steps"]) fun _ _ _ _ _ _=>by refine ln2 ?_;intros;rfl
  qF:=F22
  rQ:=W.mg_of X G a23
  t8:=F23.binds (ps:=["grid","wide"]) fun _ _ _ _ _ _=>by refine ln2 ?_;intros;rfl
  oQ:=F23
  o8:=⟨a24,i24,k24⟩
  qV:=F24.binds (ps:=["self"]) fun _ _ _ _ _ _=>by refine D9 ?_;intros;rfl
  qZ:=F24
  wL:=W.mg_of X G a25
  yO:=F25.binds (ps:=["many","at"]) fun _ _ _ _ _ _=>by refine ln2 ?_;intros;rfl
  uI:=F25
  o7:=W.mg_of X G a26
  qU:=F26.binds (ps:=["row"]) fun _ _ _ _ _ _=>by refine D9 ?_;intros;rfl
  lI:=F26
  uB:=W.mg_of X G a27
  we:=F27.binds (ps:=["rows"]) fun _ _ _ _ _ _=>by refine D9 ?_;intros;rfl
  tD:=F27
  Ca:=W.mg_of X G a28
  Ep:=F28.binds (ps:=["one","other"]) fun _ _ _ _ _ _=>by refine ln2 ?_;intros;rfl
  Bm:=F28
  yv:=W.mg_of X G a29
  Ab:=F29.binds (ps:=["rows","wide","at"]) fun _ _ _ _ _ _=>by refine Ju ?_;intros;rfl
  wo:=F29
  rR:=W.mg_of X G a30
  t9:=F30.binds (ps:=["rows","wide"]) fun _ _ _ _ _ _=>by refine ln2 ?_;intros;rfl
  oR:=F30
  BZ:=W.mg_of X G a31
  Eo:=F31.binds (ps:=["rows","wide"]) fun _ _ _ _ _ _=>by refine ln2 ?_;intros;rfl
  Bl:=F31
  jL:=W.mg_of X G a32
  kG:=F32.binds (ps:=["system","steps"]) fun _ _ _ _ _ _=>by refine ln2 ?_;intros;rfl
  iK:=F32
  tX:=W.mg_of X G a33
  vE:=F33.binds (ps:=[]) fun _ _ _ _ _ _=>by refine ln0 ?_;intros;rfl
  qM:=F33
  eJ:=W.mg_of X G a34
  fE:=F34.binds (ps:=["_law_top","_law_bottom"]) fun _ _ _ _ _ _=>by refine ln2 ?_;intros;rfl
  eT:=F34
  kZ:=W.mg_of X G a35
  nC:=F35.binds (ps:=["_law_one","_law_other"]) fun _ _ _ _ _ _=>by refine ln2 ?_;intros;rfl
  kh:=F35
  uZ:=W.mg_of X G a36
  wW:=F36.binds (ps:=["_law_one","_law_other"]) fun _ _ _ _ _ _=>by refine ln2 ?_;intros;rfl
  sD:=F36
  jN:=W.mg_of X G a37
  lg:=F37.binds (ps:=["_law_one","_law_other"]) fun _ _ _ _ _ _=>by refine ln2 ?_;intros;rfl
  jx:=F37
  nA:=W.mg_of X G a38
  pA:=F38.binds (ps:=["_law_factor","_law_row_here"]) fun _ _ _ _ _ _=>by refine ln2 ?_;intros;rfl
  mZ:=F38
  oK:=W.mg_of X G a39
  qf:=F39.binds (ps:=["_law_bag_here","_law_move_here","_law_put","_law_look"]) fun _ _ _ _ _ _=>by refine Nn ?_;intros;rfl
  mK:=F39
  u6:=W.mg_of X G a40
  wY:=F40.binds (ps:=["_law_bag_here"]) fun _ _ _ _ _ _=>by refine D9 ?_;intros;rfl
  sF:=F40
  tW:=W.mg_of X G a41
  vD:=F41.binds (ps:=["_law_bag_here"]) fun _ _ _ _ _ _=>by refine D9 ?_;intros;rfl
  qL:=F41
  rT:=W.mg_of X G a42
  ue:=F42.binds (ps:=["_law_bag_here","_law_wide"]) fun _ _ _ _ _ _=>by refine ln2 ?_;intros;rfl
  oT:=F42
  nN:=W.mg_of X G a43
  qe:=F43.binds (ps:=["_law_bag_here","_law_many","_law_wide"]) fun _ _ _ _ _ _=>by refine Ju ?_;intros;rfl
  nE:=F43
  u0:=W.mg_of X G a44
  wX:=F44.binds (ps:=["_law_bag_here","_law_n","_law_way","_law_first","_law_wide"]) fun _ _ _ _ _ _=>by refine ln5 ?_;intros;rfl
  sE:=F44
  tY:=W.mg_of X G a45
  vF:=F45.binds (ps:=["_law_bag_here","_law_n","_law_ins","_law_outs","_law_wide"]) fun _ _ _ _ _ _=>by refine ln5 ?_;intros;rfl
  qN:=F45
  oN:=W.mg_of X G a46
  qh:=F46.binds (ps:=["_law_bag_here"]) fun _ _ _ _ _ _=>by refine D9 ?_;intros;rfl
  mM:=F46
  jO:=W.mg_of X G a47
  kI:=F47.binds (ps:=["_law_grid"]) fun _ _ _ _ _ _=>by refine D9 ?_;intros;rfl
  iM:=F47
  rS:=W.mg_of X G a48
  uc:=F48.binds (ps:=["_law_parts_here"]) fun _ _ _ _ _ _=>by refine D9 ?_;intros;rfl
  oS:=F48
  tV:=W.mg_of X G a49
  vC:=F49.binds (ps:=["_law_bag_here","_law_n","_law_wide"]) fun _ _ _ _ _ _=>by refine Ju ?_;intros;rfl
  qK:=F49
  nP:=W.mg_of X G a50
  pz:=F50.binds (ps:=["_law_thing"]) fun _ _ _ _ _ _=>by refine D9 ?_;intros;rfl
  kj:=F50
  rV:=W.mg_of X G a51
  uf:=F51.binds (ps:=["_law_thing","_law_many"]) fun _ _ _ _ _ _=>by refine ln2 ?_;intros;rfl
  oU:=F51
  qT:=W.mg_of X G a52
  r8:=F52.binds (ps:=["_law_thing","_law_many","_law_wide"]) fun _ _ _ _ _ _=>by refine Ju ?_;intros;rfl
  nF:=F52
  uY:=W.mg_of X G a53
  wV:=F53.binds (ps:=["_law_one","_law_other"]) fun _ _ _ _ _ _=>by refine ln2 ?_;intros;rfl
  sC:=F53
  u9:=W.mg_of X G a54
  wZ:=F54.binds (ps:=["_law_one","_law_other"]) fun _ _ _ _ _ _=>by refine ln2 ?_;intros;rfl
  sG:=F54
  oM:=W.mg_of X G a55
  qg:=F55.binds (ps:=["_law_one","_law_other"]) fun _ _ _ _ _ _=>by refine ln2 ?_;intros;rfl
  mL:=F55
  lG:=W.mg_of X G a56
  nD:=F56.binds (ps:=["_law_rows","_law_wide"]) fun _ _ _ _ _ _=>by refine ln2 ?_;intros;rfl
  jW:=F56
  rW:=W.mg_of X G a57
  uG:=F57.binds (ps:=["_law_one","_law_other"]) fun _ _ _ _ _ _=>by refine ln2 ?_;intros;rfl
  qO:=F57
  kY:=W.mg_of X G a58
  lK:=F58.binds (ps:=["_law_told","_law_rows","_law_n"]) fun _ _ _ _ _ _=>by refine Ju ?_;intros;rfl
  iF:=F58
  nO:=W.mg_of X G a59
  ph:=F59.binds (ps:=["_law_parts_here","_law_steps_here"]) fun _ _ _ _ _ _=>by refine ln2 ?_;intros;rfl
  ki:=F59
  tZ:=W.mg_of X G a60
  vG:=F60.binds (ps:=["_law_system_here","_law_parts_here","_law_steps_here"]) fun _ _ _ _ _ _=>by refine Ju ?_;intros;rfl
  qP:=F60
  Kl:=F61
  abs:=W.mg_none_of X G z_abs
  len:=W.mg_none_of X G z_len
  isinstance:=W.mg_none_of X G z_isinstance
  list:=W.mg_none_of X G z_list
  int:=W.mg_none_of X G z_int
  bool:=W.mg_none_of X G z_bool
  tuple:=W.mg_none_of X G z_tuple
  all:=W.mg_none_of X G z_all
  enumerate:=W.mg_none_of X G z_enumerate
  range:=W.mg_none_of X G z_range
  zip:=W.mg_none_of X G z_zip
  sum:=W.mg_none_of X G z_sum
  min:=W.mg_none_of X G z_min
  mg_NOUGHT:=W.mg_of X G ca0
  sq_NOUGHT:=fun H=>.inr ⟨_,_,_,cl0,rfl,rfl,jB rfl,.cons ⟨_,rfl⟩ (.cons ⟨_,rfl⟩ (.nil))⟩
  mg_ONE:=W.mg_of X G ca1
  sq_ONE:=fun H=>.inr ⟨_,_,_,cl1,rfl,rfl,jB rfl,.cons ⟨_,rfl⟩ (.cons ⟨_,rfl⟩ (.nil))⟩
  mg_MOST_STATES:=W.mg_of X G ci0
  mg_MOST_PUTS:=W.mg_of X G ci1
  mg_MOST_LOOKS:=W.mg_of X G ci2
  mg_System:=W.mg_of X G aC
  cl_System:=⟨pg,hd,po,sa⟩
  na_move:=n_move
  na_states:=n_states
  na_put:=n_put
  na_ins:=n_ins
  na_look:=n_look
  na_outs:=n_outs
  mk_System:=⟨mk,a8,i8,kc⟩ }
 exact ⟨_,fun s v=>.of_eq rfl,fun base _ _=>Lg T⟩
theorem walk {l:W.OpenLaw} {q:Program} {loose:List Str} {XP:(Str->Option Value)->Heap->Prop} {YP:World->Heap->Prop} {d:DefRec} {K:Params->W.Frag} (hn:l.most=some 63) (hdf:d.params.defaults=[])
  (hY:∀(w:World) (h:Heap),YP w h->(K w.params).In h)
  (F:∀(w:World) (mg:Str->Option Value) (fa:Addr) (h:Heap),(K w.params).In h->h.Ns mainGlobals mg->mg d.name=some (.ref fa) →
   ∃fd:FuncData,(∀(s:Shared) (u:Value),BindsTo s fd ⟨[u],[]⟩ [("_law_script",u)])/\∀base:Heap,(K w.params).In base->base.Ns mainGlobals mg->cC l.prog w (K w.params) mg base iq 11 fa fd ["_law_script"] (Ar (K w.params))) :
  W.WalkO q loose XP YP l.row.toRowW d [] (fun f vs=>PySem.call f vs) :=
 L2.Io (n:=63) (k:=11) (x:="_law_script") (CX:=fun _=>iq) (sp:=fun w=>Ar (K w.params)) hn (by decide) hdf ⟨rfl,by decide,by decide⟩ hY F (fun _ _ a ns hl _ hS=>⟨a,ns,rfl,hS,hl,fun _=>rfl⟩) fun _ _ _ _ _ z=>z
end Lw
namespace PySem.W.Fast
def tw4358207329118592546:=()
def tw9098366269545208385:=()
def tw1532087207902909545:=()
def tw6041842215060747181:=()
def tw4782749868716763655:=()
def tw1808940726628682428:=()
def tw10073702038772135179:=()
def tw2059836325520835711:=()
def tw1541533601648345900:=()
def tw1136841291881848538:=()
def tw15764144383358871243:=()
def tw5866566443360822281:=()
def tw620220086529803443:=()
def tw14725497098078427172:=()
def tw9485924482181492052:=()
def tw4921609758999392154:=()
def tw13271370605479744108:=()
def tw14707632204308346635:=()
def tw17971392947914066891:=()
def tw7202753489097306928:=()
def tw11967564846523928563:=()
def tw7925807771832029488:=()
def tw7278893496610755030:=()
def tw2167840716188332215:=()
def tw15685830686950644384:=()
def tw5438933309170477146:=()
def tw16091008887665187164:=()
def tw283823490411368873:=()
def tw16855669758113061742:=()
def tw13024527887648080578:=()
def tw15095121081145583532:=()
def tw74931947603819814:=()
def tw13055907652340959258:=()
def tw11583640131459487040:=()
def tw13490903800960541675:=()
def tw10392975533218730198:=()
def tw14873892378787727481:=()
def tw14414161254653441520:=()
def tw6400399793798098579:=()
def tw3473416659991894455:=()
def tw12490747866743623158:=()
def tw14710931685651630577:=()
def tw10302140186985434590:=()
def tw969852562632779438:=()
def tw10340368213495301407:=()
def tw2066501068244046191:=()
def tw6283393175433873620:=()
def tw9013346528118968507:=()
def tw13767996509136996106:=()
def tw8136612598129869984:=()
def tw209398880691463144:=()
def tw2350543478026198635:=()
def tw10514564102765622514:=()
def tw3691085557703651084:=()
def tw9418175921041339243:=()
def tw5485261983952232587:=()
def tw13833086690065123230:=()
def tw1863577109529900530:=()
def tw8167436335302526678:=()
def tw8566991382812402736:=()
def tw13373110876843445743:=()
def tw15161927069556644453:=()
def tw15995486212470689035:=()
def tw9179874292139098307:=()
def tw543541214704860223:=()
def tw3093055847974164428:=()
def tw4192402171410221288:=()
def tw15078310766602040177:=()
def tw3760917823548350295:=()
def tw18373852396794567448:=()
def tw2975990034453377942:=()
def tw11107683140336913470:=()
def tw7168071680888415251:=()
def tw12416156446638113071:=()
def tw1443899928014997703:=()
def tw933466931175164192:=()
def tw5394280109951945943:=()
def tw18132400524151550313:=()
def tw10680590855043524136:=()
def tw2752724202853634123:=()
def tw13852526998897310066:=()
def tw11844962859987696969:=()
def tw6761796464258012963:=()
def tw12419563472958755822:=()
def tw7313828387056956817:=()
def tw14905074590027508203:=()
def tw6098418357454982562:=()
def tw17929318178760875522:=()
def tw1836510081518158622:=()
def tw2125342695601052079:=()
def tw13906457927677809934:=()
def tw5751857395274655688:=()
def tw8571545161216027983:=()
def tw13906547315957239581:=()
def tw2185057070391029334:=()
def tw14876908785555978798:=()
def tw14230346274973176486:=()
def tw16827249643515294319:=()
def tw10893113741980141239:=()
def tw15301221285464117904:=()
def tw12721182779374878618:=()
def tw12520431054794007718:=()
def tw18048542449629346879:=()
def tw42898121582301815:=()
def tw10091392263494767274:=()
def tw13379589398914183750:=()
def tw13523357197193582956:=()
def tw5932657847619409815:=()
def tw10609732728992444473:=()
def tw10302181387697046438:=()
def tw12491290829141586499:=()
def tw9145219082818310596:=()
def tw6749840013154411040:=()
def tw1221109573536758258:=()
def tw9705187450514710955:=()
def tw2373138438143013589:=()
def tw2788147183443289219:=()
def tw11048705664137860871:=()
def tw17245494419073715036:=()
def tw9175676237154992369:=()
def tw933861693919957545:=()
def tw10816439101621906254:=()
def tw8182893647047868087:=()
def tw7695404411755690783:=()
def tw12071355078783353388:=()
def tw12789180370084914645:=()
def tw9433019077770292352:=()
def tw17303212495673189051:=()
def tw10445032955648794502:=()
def tw17794599677400879338:=()
def tw13369880268892723268:=()
def tw2651960795627555052:=()
def tw15802696353757400723:=()
def tw8130137225914400170:=()
def tw5762534242708413347:=()
def tw16782115379034851392:=()
def tw5070383364445040873:=()
def tw11599620264602547980:=()
def tw12118625945145340206:=()
def tw1861678133364053869:=()
def tw15332386090979566929:=()
def tw11600092244055072826:=()
def tw5632630168565441635:=()
def tw6665822191366112244:=()
def tw10994757228951700518:=()
def tw4274413568739763698:=()
def tw15052456064653793277:=()
def tw3260742043424943511:=()
def tw17856532857817904470:=()
def tw6958035667021767517:=()
def tw5334332384225913925:=()
def tw15702556079188750063:=()
def tw15039353186920029536:=()
def tw4924551755544046733:=()
def tw3188459811740698769:=()
def tw18153831092346711980:=()
def tw6947586485233517975:=()
def tw11603256255251783271:=()
def tw16586625895775309841:=()
def tw3651058254764713380:=()
def tw17552548262016392078:=()
def tw14184576178321542587:=()
def tw10054683092224407591:=()
def tw15234031788208257596:=()
def tw6667368674443478040:=()
def tw8469878283200771083:=()
def tw13303970970973226397:=()
def tw16720726533302979781:=()
def tw12304350918144736223:=()
def tw10824829917940224108:=()
def tw16635675121743210785:=()
def tw15615921336873097109:=()
def tw14629197865336407372:=()
def tw10989023579244072809:=()
def tw16236490367541393950:=()
def tw1427513193830660364:=()
def tw10608836708400592286:=()
def tw17091945776154493795:=()
def tw8384601552635135495:=()
def tw12285027044006521426:=()
def tw7874291547703360187:=()
def tw14473703162354676738:=()
def tw10726000775125962455:=()
def tw9555299444735300326:=()
def tw4121019584325338647:=()
def tw15388093011327468127:=()
def tw11405753711057558070:=()
def tw9271590707623005771:=()
def tw6765818403315610358:=()
def tw2590221320660209489:=()
def tw12595054860197600484:=()
def tw6925857013793313847:=()
def tw12048163528958861770:=()
def tw14001839735661328252:=()
def tw11427260807908634613:=()
def tw13742870680197997596:=()
def tw9735716735288411655:=()
def tw5552778091763318946:=()
def tw15336983360371267528:=()
def tw10717876685859769740:=()
def tw4115043296621284863:=()
def tw17333191439051046287:=()
def tw10587218078138607604:=()
def tw1525426486981160925:=()
def tw18418925617236923144:=()
def tw7809648951166476005:=()
def tw3839738126698067592:=()
def tw4349490938699986241:=()
def tw11188891495519515031:=()
def tw2861313883272025132:=()
def tw9006961804731408568:=()
def tw6763451601306693813:=()
def tw17795382122659822310:=()
def tw3393154272667745030:=()
def tw14980008515054582250:=()
def tw6355150193925156427:=()
def tw11077272241950014926:=()
def tw11424782435444006752:=()
def tw15304646755500236343:=()
def tw4595775063707441668:=()
def tw11167354295796082497:=()
def tw3955349543083478659:=()
def tw15277336249006108048:=()
def tw18115342799552473713:=()
def tw6448587672018081670:=()
def tw1909354128993892129:=()
def tw11771081437267586659:=()
def tw5790948906237913162:=()
def tw9319631009624409609:=()
def tw4603844301441400222:=()
def tw13309387462588758600:=()
def tw3399609279214989713:=()
def tw15720359613296765311:=()
def tw434293443401963152:=()
def tw14920732404415194114:=()
def tw5781776088822660901:=()
def tw880948763434452599:=()
def tw4886339493202936705:=()
def tw14993424672005046823:=()
def tw4779654448752860170:=()
def tw3156460387413586933:=()
def tw15719100353389488245:=()
def tw7143129962734756310:=()
def tw272715661170008207:=()
def tw8269231207270128377:=()
def tw16189048010500266303:=()
def tw935271629572238139:=()
def tw8037865091462684004:=()
def tw459280200550578494:=()
def tw5551714767663320936:=()
def tw15575672481929310744:=()
def tw1501780551416252983:=()
def tw4745415142514566196:=()
def tw16613203946071163732:=()
def tw17257203523692938315:=()
def tw12103523654743004354:=()
def tw17133398740689964479:=()
def tw10389291259518169597:=()
def tw16448941194954978241:=()
def tw16831485579511178212:=()
def tw4561628493609197646:=()
def tw17037390555925218744:=()
def tw17189631521617644469:=()
def tw7854235856956640484:=()
def tw13399927103285536502:=()
def tw6351112678638591829:=()
def tw11540446193712383403:=()
def tw6823514656808974545:=()
def tw1451875235989481105:=()
def tw6917851009447263638:=()
def tw363213525830169245:=()
def tw6425758356249446806:=()
def tw9824707410073683893:=()
def tw16395737390654218925:=()
def tw17593428177810628300:=()
def tw9547983783261692257:=()
def tw11715339088765811040:=()
def tw432340771797605261:=()
def tw170108794018523578:=()
def tw5419243698510871269:=()
def tw14552118536195197296:=()
def tw17398288150082335435:=()
def tw9864660025518792161:=()
def tw16941984029391640013:=()
def tw16652234608639699070:=()
def tw14185512672516087901:=()
def tw6189886366231133636:=()
def tw2393200339724366929:=()
def tw999689638384434318:=()
def tw14925366649577452782:=()
def tw13161017869242123804:=()
def tw4219495436466433551:=()
def tw4071451464082980002:=()
def tw4519823509388740817:=()
def tw3433540137994319881:=()
def tw15253062486554662735:=()
def tw15004026398758888127:=()
def tw3950584044233797349:=()
def tw13679056950886580060:=()
def tw16922634021782100772:=()
def tw1031391576716741905:=()
def tw80256923962926114:=()
def tw342734189492903553:=()
def tw908526271794246717:=()
def tw11510681312866430054:=()
def tw13745151001218806226:=()
def tw12133878543898964471:=()
def tw10409089885519396030:=()
def tw6343563210074632182:=()
def tw15183734422215016703:=()
def tw12872064128288495057:=()
def tw18260094147104742351:=()
def tw8608691338717089250:=()
def tw12837356495483499695:=()
def tw11003604235555555500:=()
def tw16234656009409786878:=()
def tw16226430419341546510:=()
def tw16555408258900790423:=()
def tw7475381912046236614:=()
def tw15872823820474562466:=()
def tw12948461307747331872:=()
def tw9347198059224785548:=()
def tw1152697362553895310:=()
def tw10670797364414283668:=()
def tw12398700629457565703:=()
def tw6625840548432802418:=()
def tw14811272690978056822:=()
def tw6551452134550538211:=()
def tw5568908037414644895:=()
def tw187800628742855610:=()
def tw12997164795080970162:=()
def tw2818637369917207610:=()
def tw4068121955536372307:=()
def tw13495311168502273116:=()
def tw3001254951937647571:=()
def tw131521774240627938:=()
def tw10686102463367511023:=()
def tw6021925316675768212:=()
def tw1352318395139907937:=()
def tw10416999162421238353:=()
def tw11134318092228432671:=()
def tw9206615960897326577:=()
def tw16858408805327695520:=()
def tw4548128813025151584:=()
def tw14586562996965712335:=()
def tw17322309150619958649:=()
def tw4450438028917774228:=()
def tw10715975486785707546:=()
def tw14744163509536378914:=()
def tw9422333081470131309:=()
def tw8274704411404840352:=()
def tw15374158922013236818:=()
def tw14628603887515180930:=()
def tw15305938165672353433:=()
def tw6221879240146667097:=()
def tw8707769544305389367:=()
def tw15807853776774514439:=()
def tw12243893818016811730:=()
def tw15606883140496702809:=()
def tw13500794125530517674:=()
def tw685845749247864240:=()
def tw115450337977987272:=()
def tw13290000042836349735:=()
def tw4712211162050778996:=()
def tw8612849980381940277:=()
def tw9508563284515767735:=()
def tw16498147302163872746:=()
def tw10869222241424741001:=()
def tw12860051172546019252:=()
def tw12118871028774097855:=()
def tw10814350232717353454:=()
def tw8742456803886619327:=()
def tw4221017301311779624:=()
def tw15911935412957936130:=()
def tw7110996104980811061:=()
def tw12007838401964465506:=()
def tw3823140932856705113:=()
def tw13723260570689514504:=()
def tw2438955786581508812:=()
def tw8284971513567722267:=()
def tw12833377668133137961:=()
def tw6886343220072638206:=()
def tw2418141811287907752:=()
def tw14644783156407295134:=()
def tw178000283733984940:=()
def tw8552972464637400756:=()
def tw5842748767179889367:=()
def tw13499760000868877003:=()
def tw9924372674694026385:=()
def tw17162867032298604391:=()
def tw7695312414062777779:=()
def tw16240312813292031958:=()
def tw16887651068061988114:=()
def tw13630993259454710790:=()
def tw17610139327386138694:=()
def tw17070575924053665822:=()
def tw8380274728346922265:=()
def tw7807010382312259965:=()
def tw4283021206280755900:=()
def tw15073141577045022258:=()
def tw13401840165389919800:=()
def tw2673598800556401165:=()
def tw2035785015935957971:=()
def tw7572321132141283446:=()
def tw15924848020422715238:=()
def tw9231463167139758930:=()
def tw18002040186183646917:=()
def tw7229374699586806594:=()
def tw17702445339336754805:=()
def tw14215089797407159528:=()
def tw14130430782295863216:=()
def tw14138966585893961242:=()
def tw11321029113670009864:=()
def tw16126706056474620094:=()
def tw11631295471744647765:=()
def tw17407930838860047180:=()
def tw10357848952206238205:=()
def tw7581892500875363029:=()
def tw13752960282354073512:=()
def tw5008003737836619719:=()
def tw1212439260999605125:=()
def tw7842528965046683033:=()
def tw1182336188785337197:=()
def tw4443380943517630697:=()
def tw14037649776785723769:=()
def tw12137376735691354222:=()
def tw6527022411321331035:=()
def tw1414521521604384683:=()
def tw1706853634203522811:=()
def tw15913215506799094692:=()
def tw8588756140286211861:=()
def tw15644384080391652540:=()
def tw10709927231891225754:=()
def tw11050743522116688991:=()
def tw2009117672539909071:=()
def tw10571501487338636010:=()
def tw2146689134236901402:=()
def tw18174178677525866106:=()
def tw12694236092512114224:=()
def tw18162441413165692208:=()
def tw12578820300257173578:=()
def tw4902979677473547351:=()
def tw14239202081809772114:=()
def tw2555891756733828841:=()
theorem te4358207329118592546:True:=trivial
end PySem.W.Fast
open PySem PySem.W PyProof.Rows
set_option maxRecDepth 100000 in
set_option maxHeartbeats 0 in
theorem PySem.Challenge.cw_helmsum_k51_unseen_rows_holds : PySem.Challenge.rw_helmsum_k51_unseen_rows.Holds := by
 w_on;o_law;k_head;(case hw=>w_witness2)
 k_fill
 refine Lw.walk (l:=PySem.Challenge.rw_helmsum_k51_unseen_rows) rfl rfl (fun w h Y=>PySem.W.kIn_of Y) ?F
 case F =>
  intro w mg fa h KX G hmg;refine' Lw.all_mk KX G hmg ?aC ?a0 ?l0 ?c0 ?k0 ?a1 ?l1 ?c1 ?k1 ?a2 ?l2 ?c2 ?k2 ?a3 ?l3 ?c3 ?k3 ?a4 ?l4 ?c4 ?k4 ?a5 ?l5 ?c5 ?k5 ?a6 ?l6 ?c6 ?k6 ?a7 ?l7 ?c7 ?k7 ?a8 ?i8 ?l8 ?c8 ?k8 ?a9 ?l9 ?c9 ?k9 ?a10 ?l10 ?c10 ?k10 ?a11 ?l11 ?c11 ?k11 ?a12 ?l12 ?c12 ?k12 ?a13 ?l13 ?c13 ?k13 ?a14 ?l14 ?c14 ?k14 ?a15 ?l15 ?c15 ?k15 ?a16 ?l16 ?c16 ?k16 ?a17 ?l17 ?c17 ?k17 ?a18 ?l18 ?c18 ?k18 ?a19 ?l19 ?c19 ?k19 ?a20 ?l20 ?c20 ?k20 ?a21 ?l21 ?c21 ?k21 ?a22 ?l22 ?c22 ?k22 ?a23 ?l23 ?c23 ?k23 ?a24 ?i24 ?l24 ?c24 ?k24 ?a25 ?l25 ?c25 ?k25 ?a26 ?l26 ?c26 ?k26 ?a27 ?l27 ?c27 ?k27 ?a28 ?l28 ?c28 ?k28 ?a29 ?l29 ?c29 ?k29 ?a30 ?l30 ?c30 ?k30 ?a31 ?l31 ?c31 ?k31 ?a32 ?l32 ?c32 ?k32 ?a33 ?l33 ?c33 ?k33 ?a34 ?l34 ?c34 ?k34 ?a35 ?l35 ?c35 ?k35 ?a36 ?l36 ?c36 ?k36 ?a37 ?l37 ?c37 ?k37 ?a38 ?l38 ?c38 ?k38 ?a39 ?l39 ?c39 ?k39 ?a40 ?l40 ?c40 ?k40 ?a41 ?l41 ?c41 ?k41 ?a42 ?l42 ?c42 ?k42 ?a43 ?l43 ?c43 ?k43 ?a44 ?l44 ?c44 ?k44 ?a45 ?l45 ?c45 ?k45 ?a46 ?l46 ?c46 ?k46 ?a47 ?l47 ?c47 ?k47 ?a48 ?l48 ?c48 ?k48 ?a49 ?l49 ?c49 ?k49 ?a50 ?l50 ?c50 ?k50 ?a51 ?l51 ?c51 ?k51 ?a52 ?l52 ?c52 ?k52 ?a53 ?l53 ?c53 ?k53 ?a54 ?l54 ?c54 ?k54 ?a55 ?l55 ?c55 ?k55 ?a56 ?l56 ?c56 ?k56 ?a57 ?l57 ?c57 ?k57 ?a58 ?l58 ?c58 ?k58 ?a59 ?l59 ?c59 ?k59 ?a60 ?l60 ?c60 ?k60 ?a61 ?l61 ?c61 ?k61 ?ca0 ?cl0 ?ca1 ?cl1 ?ci0 ?ci1 ?ci2 ?pg ?hd ?po ?sa ?mk ?kc ?n_move ?n_states ?n_put ?n_ins ?n_look ?n_outs ?z_abs ?z_len ?z_isinstance ?z_list ?z_int ?z_bool ?z_tuple ?z_all ?z_enumerate ?z_range ?z_zip ?z_sum ?z_min
  all_goals try k_is