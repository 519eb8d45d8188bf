import PyProof.Rows.All
import Wide.All
import OpenK.AllK
import Wide.FinOn
import Lean
import PyProof.EqAt
import PyProof.EqKinds
import PyProof.TupleCall
import PyProof.NeKinds
import PySem.Challenge.RW_helmsum_k54_whole_looks_tell
set_option Elab.async false
set_option linter.all false
set_option maxRecDepth 100000
abbrev aa:=@List.getD_eq_getElem?_getD
abbrev ag:=@List.getElem?_eq_getElem
abbrev ah:=@Nat.le_trans
abbrev ak:=@List.length_map
abbrev ao:=@Nat.pow_le_pow_right
abbrev ar:=@Nat.le_refl
abbrev aw:=@Nat.mul_le_mul_right
abbrev ax:=@List.mem_append
abbrev ay:=@List.length_append
abbrev aA:=@List.mem_of_getElem?
abbrev aD:=@Nat.mul_le_mul
abbrev aE:=@List.mem_map
abbrev aF:=@List.length_replicate
abbrev aG:=@List.getElem?_map
abbrev aH:=@List.take_of_length_le
abbrev aI:=@List.getElem?_eq_some_iff
abbrev aJ:=@List.mem_cons
abbrev aK:=@Nat.pow_add
abbrev aL:=@List.getElem_mem
abbrev aM:=@Nat.mul_le_mul_left
abbrev aN:=@List.getElem?_eq_none
abbrev aP:=@Rat.intCast_natCast
abbrev aS:=@List.size_toArray
abbrev aT:=@Rat.intCast_mul
abbrev aZ:=@List.length_cons
abbrev be:=@List.getElem?_append_right
abbrev bf:=@Bool.false_ne_true
abbrev bh:=@Nat.zero_le
abbrev bo:=@List.not_mem_nil
abbrev bp:=@PySem.boot_len
abbrev br:=@Nat.le_of_lt
abbrev bx:=@List.length_zipWith
abbrev bC:=@Nat.lt_of_le_of_lt
abbrev bE:=@Nat.mul_pos
abbrev bG:=@List.getElem?_append_left
abbrev bI:=@Nat.lt_of_lt_of_le
abbrev bO:=@Int.natAbs_natCast
abbrev bP:=@Nat.mul_assoc
abbrev bQ:=@List.length_singleton
abbrev bU:=@List.mem_singleton
abbrev bV:=@List.mem_cons_of_mem
abbrev bX:=@List.mem_append_right
abbrev bY:=@List.getElem?_zipWith
abbrev b9:=@List.getElem_of_mem
abbrev cb:=@Nat.mul_comm
abbrev ck:=@Nat.ne_of_lt
abbrev cm:=@List.length_range
abbrev cv:=@Option.some.inj
abbrev cw:=@List.append_assoc
abbrev cA:=@List.mem_of_mem_take
abbrev cH:=@Int.natAbs_mul
abbrev cI:=@Int.fdiv_eq_ediv_of_nonneg
abbrev cL:=@Int.eq_ofNat_of_zero_le
abbrev cM:=@List.mem_or_eq_of_mem_set
abbrev cO:=@List.length_take
abbrev cU:=@List.getElem?_range
abbrev cV:=@List.nil_append
abbrev cW:=@List.getElem?_replicate
abbrev df:=@Nat.succ_mul
abbrev dg:=@Nat.lt_or_ge
abbrev dh:=@Nat.le_mul_of_pos_left
abbrev di:=@List.mem_replicate
abbrev dk:=@List.mem_cons_self
abbrev dq:=@Rat.intCast_neg
abbrev dw:=@Rat.mul_comm
abbrev dz:=@List.nodup_append
abbrev dC:=@PySem.F.plainAttrs_list
abbrev dD:=@Nat.le_mul_of_pos_right
abbrev dG:=@PySem.W.kia_one
abbrev dH:=@List.map_congr_left
abbrev dJ:=@Int.mul_assoc
abbrev dM:=@Rat.intCast_inj
abbrev dN:=@Nat.pow_succ
abbrev dO:=@List.map_append
abbrev dP:=@Nat.one_le_two_pow
abbrev dW:=@Nat.succ_le_succ
abbrev dX:=@Nat.pow_lt_pow_right
abbrev dY:=@List.ext_getElem
abbrev dZ:=@Bool.and_eq_true
abbrev d9:=@Nat.lt_irrefl
abbrev eG:=@Nat.pow_le_pow_left
abbrev eJ:=@Rat.natCast_mul
abbrev eK:=@List.nodup_cons
abbrev eO:=@List.drop_eq_getElem_cons
abbrev eT:=@Int.natAbs_dvd_natAbs
abbrev e8:=@List.cons_append
abbrev fe:=@Int.gcd_dvd_left
abbrev ff:=@PySem.F.type_list_append
abbrev fh:=@PySem.F.slot_list_append
abbrev fk:=@Nat.pow_pos
abbrev fo:=@Nat.mul_add
abbrev fq:=@List.getElem_zipWith
abbrev fE:=@List.flatten_cons
abbrev fF:=@Int.gcd_dvd_right
abbrev fG:=@Nat.not_lt_zero
abbrev fH:=@List.length_set
abbrev fM:=@List.length_reverse
abbrev fP:=@Int.mul_comm
abbrev il:=@Nat.sub_self
abbrev ip:=@List.ext_getElem?
abbrev ir:=@List.map_cons
abbrev ji:=@List.replicate_succ
abbrev jk:=@List.flatten_append
abbrev jq:=@Nat.lt_succ_self
abbrev jr:=@List.mem_reverse
abbrev jI:=@Rat.mul_zero
abbrev jJ:=@Nat.eq_zero_or_pos
abbrev jK:=@Int.emod_lt_of_pos
abbrev jL:=@Bool.false_eq_true
abbrev kB:=@Nat.le_of_dvd
abbrev m8:=@Rat.zero_mul
abbrev m9:=@PySem.IsL.update
abbrev nh:=@List.mem_flatten
abbrev ni:=@List.lookup_cons
abbrev nk:=@List.getElem_map
abbrev nA:=@Int.gcd_comm
abbrev nM:=@PySem.F.plain_extend_loop
abbrev nN:=@PySem.mem_of_lookup
abbrev nY:=@List.eq_of_mem_replicate
abbrev oS:=@Nat.min_eq_left
abbrev oT:=@Int.emod_nonneg
abbrev oU:=@Bool.eq_iff_iff
abbrev pS:=@Nat.pow_mul
abbrev pT:=@Nat.one_mul
abbrev pU:=@Int.mul_pos
abbrev pV:=@Int.dvd_mul_of_dvd_left
abbrev qZ:=@Nat.lt_trichotomy
abbrev rd:=@List.mem_range
abbrev rg:=@List.map_map
abbrev rh:=@Int.natAbs_neg
abbrev sE:=@PySem.F.slot_zip_next
abbrev sF:=@Nat.dvd_mul_left
abbrev sG:=@List.all_eq_true
abbrev uq:=@List.reverse_reverse
abbrev ur:=@List.mem_append_left
abbrev uw:=@List.range_succ
abbrev ux:=@List.append_nil
abbrev v8:=@Rat.add_zero
abbrev wZ:=@Int.eq_of_mul_eq_mul_right
abbrev yr:=@Nat.le_succ
abbrev yt:=@List.reverse_cons
abbrev yu:=@List.map_id
abbrev yx:=@Nat.dvd_trans
abbrev yy:=@List.getElem?_take_of_lt
abbrev zG:=@Rat.intCast_eq_zero_iff
abbrev zH:=@Nat.min_le_right
abbrev zI:=@Nat.le_add_right
abbrev zJ:=@Int.natCast_dvd_natCast
abbrev Am:=@PySem.W.cellsFrom_some
abbrev An:=@Nat.dvd_refl
abbrev Ao:=@Nat.add_comm
abbrev Ap:=@Int.zero_add
abbrev BD:=@Rat.mul_eq_zero
abbrev BE:=@Rat.intCast_add
abbrev BF:=@List.map_const'
abbrev BG:=@List.length_zip
abbrev BI:=@Nat.mul_dvd_mul_right
abbrev BJ:=@Bool.beq_eq_decide_eq
abbrev CY:=@Nat.add_le_add_right
abbrev CZ:=@List.replicate_succ'
abbrev C0:=@List.nodup_nil
abbrev C1:=@List.forIn_nil
abbrev D8:=@PySem.W.plainGet_of
abbrev D9:=@List.filterMap_cons
abbrev E9:=@Int.natAbs_eq
abbrev Fc:=@PySem.W.callWith_K
abbrev Fd:=@List.getElem_range
abbrev Fe:=@List.append_of_mem
abbrev Ip:=@Nat.ne_of_gt
abbrev Iq:=@Nat.mul_zero
abbrev Ir:=@Nat.min_self
abbrev JI:=@List.length_drop
abbrev LL:=@Rat.mul_one
abbrev LM:=@Nat.mul_one
abbrev LN:=@Nat.add_mul
abbrev LO:=@Int.dvd_gcd
abbrev LR:=@Nat.pow_dvd_pow
abbrev LS:=@List.of_mem_zip
abbrev LU:=@List.forIn_cons
abbrev LV:=@Int.gcd_pos_of_ne_zero_right
abbrev PM:=@PySem.F.entry_extend_loop
abbrev PN:=@List.getElem?_zip_eq_some
abbrev PR:=@Int.natAbs_ediv_of_nonneg
abbrev P1:=@PySem.F.type_list_extend
abbrev P7:=@PySem.F.slot_list_extend
abbrev Qa:=@Option.isSome_iff_exists
abbrev Rn:=@PySem.F.args_zip_next_1
abbrev Rp:=@Nat.add_sub_cancel_left
namespace L2
open PySem PySem.Spec PyProof.Rows
abbrev Key:=Sum Int Str
def NP:Key->Value->Bool
 | .inl k,v=>Value.isInt k v
 | .inr x,v=>Value.isStrOf x v
def RX (w:World):Key->Int
 | .inl k=>hashInt k
 | .inr x=>hashStr w x
theorem fB:∀{k:Key} {v:Value},NP k v=true->(∃i t,k=Sum.inl i/\v=Value.int i t)\/(∃x t,k=Sum.inr x/\v=Value.str x t)
 | .inl i,v,h=>by
  obtain ⟨t,e⟩:=Value.isInt_shape (k:=i) (v:=v) h;exact .inl ⟨i,t,rfl,e⟩
 | .inr x,v,h=>by
  obtain ⟨t,e⟩:=Value.isStrOf_shape (x:=x) (v:=v) h;exact .inr ⟨x,t,rfl,e⟩
theorem Ph (a b:Int):decide ((Sum.inl a:Key)=Sum.inl b)=(a == b):=by
 by_cases e:a=b
 ·subst e;simp
 ·have h:¬(Sum.inl a:Key)=Sum.inl b:=fun q=>e (Sum.inl.inj q)
  rw[decide_eq_false h];exact (beq_eq_false_iff_ne.mpr e).symm
theorem Pe (a b:Str):decide ((Sum.inr a:Key)=Sum.inr b)=decide (a=b):=by
 by_cases e:a=b
 ·subst e;simp
 ·have h:¬(Sum.inr a:Key)=Sum.inr b:=fun q=>e (Sum.inr.inj q)
  rw[decide_eq_false h,decide_eq_false e]
theorem Pg (a:Int) (b:Str):decide ((Sum.inl a:Key)=Sum.inr b)=false:=decide_eq_false (fun q=>nomatch q)
theorem Pf (a:Str) (b:Int):decide ((Sum.inr a:Key)=Sum.inl b)=false:=decide_eq_false (fun q=>nomatch q)
def HH (prog:Program) (w:World):PySem.KeyKind prog w Key where
 is:=NP
 hash:=RX w
 inj:=fun v a b ha hb=>by
  rcases fB ha with ⟨i,t,rfl,rfl⟩ | ⟨x,t,rfl,rfl⟩
  ·rcases fB hb with ⟨j,u,rfl,e⟩ | ⟨y,u,rfl,e⟩
   ·injection e with e1 _;rw[e1]
   ·exact nomatch e
  ·rcases fB hb with ⟨j,u,rfl,e⟩ | ⟨y,u,rfl,e⟩
   ·exact nomatch e
   ·injection e with e1 _;rw[e1]
 byValue:=fun k v h=>by
  rcases fB h with ⟨i,t,rfl,rfl⟩ | ⟨x,t,rfl,rfl⟩ <;> rfl
 pyHash:=fun hv h=>by
  rcases fB hv with ⟨i,t,rfl,rfl⟩ | ⟨x,t,rfl,rfl⟩
  ·exact wpAny_pyHash_int h
  ·exact wpAny_pyHash_str h
 eqBool:=fun hu hv h=>by
  rcases fB hu with ⟨i,t,rfl,rfl⟩ | ⟨x,t,rfl,rfl⟩
  ·rcases fB hv with ⟨j,u,rfl,rfl⟩ | ⟨y,u,rfl,rfl⟩
   ·rw[Ph] at h;exact wpAny_eqBool_int h
   ·rw[Pg] at h;exact SeqAt.EqAt.int_str i t y u _ _ _ _ h
  ·rcases fB hv with ⟨j,u,rfl,rfl⟩ | ⟨y,u,rfl,rfl⟩
   ·rw[Pf] at h;exact SeqAt.EqAt.str_int x t j u _ _ _ _ h
   ·rw[Pe] at h;exact wpAny_eqBool_str h
 «strs»:=fun k x t v h=>by
  rcases fB h with ⟨i,u,rfl,e⟩ | ⟨y,u,rfl,e⟩
  ·exact nomatch e
  ·injection e with e1 _
   subst e1;cases v <;> rfl
inductive V where
  | non | bl (b : Bool) | int (i : Int) | str (x : Str) | byt (b : Array UInt8) | flt (b : UInt64) | ref (a : Addr) | ty (n : String)
  deriving DecidableEq

def RelV:V->Value->Prop
 | .non,u=>u=Value.none
 | .bl b,u=>u=Value.bool b
 | .int i,u=>∃t,u=Value.int i t
 | .str x,u=>∃t,u=Value.str x t
 | .byt b,u=>∃t,u=Value.bytes b t
 | .flt b,u=>∃t,u=Value.float b t
 | .ref a,u=>u=Value.ref a
 | .ty n,u=>u=Value.type n
abbrev cR:List V->List Value->Prop:=Paired RelV
theorem cR.length {xs:List V} {us:List Value} (r:cR xs us):xs.length=us.length:=Paired.length r
theorem cR.get:∀{xs:List V} {us:List Value} {i:Nat} {x:V},cR xs us->xs[i]?=some x->∃u,us[i]?=some u/\RelV x u
 | _,_,_,_,.nil,e=>by simp at e
 | _,_,0,_,.cons r _,e=>by simp at e;subst e;exact ⟨_,rfl,r⟩
 | _,_,i+1,x,.cons _ t,e=>by
  obtain ⟨u,h1,h2⟩:=cR.get (i:=i) (x:=x) t (by simpa using e);exact ⟨u,by simpa using h1,h2⟩
theorem cR.set {x:V} {u:Value} (r:RelV x u):∀{xs:List V} {us:List Value} (i:Nat),cR xs us->cR (xs.set i x) (us.set i u)
 | _,_,_,.nil=>.nil
 | _,_,0,.cons _ t=>.cons r t
 | _,_,i+1,.cons q t=>.cons q (cR.set r i t)
theorem cR.append:∀{xs ys:List V} {us ws:List Value},cR xs us->cR ys ws->cR (xs++ys) (us++ws)
 | _,_,_,_,.nil,s=>s
 | _,_,_,_,.cons r t,s=>.cons r (cR.append t s)
theorem cR.take:∀{xs:List V} {us:List Value} (n:Nat),cR xs us->cR (xs.take n) (us.take n)
 | _,_,0,_=>.nil
 | _,_,_+1,.nil=>.nil
 | _,_,n+1,.cons r t=>.cons r (cR.take n t)
theorem cR.drop:∀{xs:List V} {us:List Value} (n:Nat),cR xs us->cR (xs.drop n) (us.drop n)
 | _,_,0,r=>r
 | _,_,_+1,.nil=>.nil
 | _,_,n+1,.cons _ t=>cR.drop n t
def Ca:Option V->Option Value->Prop
 | some v,some u=>RelV v u
 | none,none=>True
 | _,_=>False
def KV {κ:Type}:List (κ×V)->List (κ×Value)->Prop:=Paired fun (p:κ×V) (q:κ×Value)=>p.1=q.1/\RelV p.2 q.2
def kV:Key->V
 | .inl i=>.int i
 | .inr x=>.str x
inductive HO where
 | lst (xs:List V)
 | tup (xs:List V)
 | dK (kvs:List (Key×V)) | dT (kvs:List (List Key×V))
 | set (S:Int->Bool) (n:Nat)
 | ins (C dx:Addr) (fs:List (Str×V))
 | own (x:Addr)
 | xd (fs:List (Str×V))
 | met (f x:Addr)
 | rng (lo hi:Int)
 | frz (o:Obj) (u:HO)
 | tbl (ps:Array Value)
 | ext (φ:Heap->Prop)
abbrev Hp:=Addr->Option HO
def upd (H:Hp) (a:Addr) (o:HO):Hp:=fun b=>if b=a then some o else H b
theorem aQ {H:Hp} {a:Addr} {o:HO}:upd H a o a=some o:=by unfold upd;rw[if_pos rfl]
theorem bA {H:Hp} {a b:Addr} {o:HO} (h:b≠a):upd H a o b=H b:=by unfold upd;rw[if_neg h]
theorem fJ {H:Hp} {a b:Addr} {o:HO} (h:H a=some o) (h':H b=none):a≠b:=by
 intro e;subst e;rw[h] at h';cases h'
section
variable (P:Program) (w:World)
def kv (H:Hp) (h:Heap) (a:Addr):HO->Prop
 | .lst xs=>xs.length<=sizeLine/\∃(its:List Value) (n:Nat),cR xs its/\h.get? a=some { cls:=.type "list",data:=.seq its.toArray n }
 | .tup xs=>xs.length<=sizeLine/\∃its:List Value,cR xs its/\IsTup h a its.toArray
 | .dK kvs=>kvs.length<=sizeLine/\(a == sysModules)=false/\∃vs,KV kvs vs/\h.DictOf (HH P w) a vs
 | .dT kvs=>kvs.length<=sizeLine/\(a == sysModules)=false/\∃xs:List (List Key×Addr×Value),
   Paired (fun (p:List Key×V) (q:List Key×Addr×Value)=>p.1=q.1/\H q.2.1=some (.tup (p.1.map kV))/\RelV p.2 q.2.2) kvs xs /\
   ∃o es ep,h.get? a=some o/\o.ExactDict/\o.data=.dict es ep/\es.toList=xs.map (entryOfKey (tupleKind (HH P w)))/\(xs.map (·.1)).Nodup
 | .set S n=>h.SetOf (intKind P w) a S n
 | .ins C dx fs=>H dx=some (.own a)/\fs.length<=1000/\dx≠a/\h.get? a=some (PySem.W.instObj C dx) /\
   ∃mA,h.Ns1 dx mA/\(∀f,Ca (fs.lookup f) (mA f))/\PySem.Within mA (fs.map (·.1))
 | .own _=>∃o,h.get? a=some o
 | .xd fs=>∃mA,h.Ns1 a mA/\∀f,Ca (fs.lookup f) (mA f)
 | .rng lo hi=>∃t u v,h.get? a=some { cls:=.type "range",data:=.fields #[.int lo t,.int hi u,.int 1 v] }
 | .frz o u=>h.get? a=some o/\kv H h a u
 | .tbl ps=>h.get? a=some { cls:=.none,data:=.fields ps }
 | .met f x=>h.get? a=some (PySem.W.methodObj (.ref f) (.ref x))
 | .ext φ=>φ h/\(∃o,h.get? a=some o)/\∀h1 h2:Heap,φ h1->(∀o,h1.get? a=some o->h2.get? a=some o)->φ h2
def Ak (H:Hp) (h:Heap):Prop:=∀a o,H a=some o->kv P w H h a o
end
section
variable {P:Program} {w:World} {H H':Hp} {h h':Heap} {a:Addr} {o:HO}
theorem kv.lt (x:kv P w H h a o):a < h.objs.size:=by
 cases o with
 | lst xs=>obtain ⟨_,_,_,_,e⟩:=x;exact Heap.lt_size e
 | tup xs=>obtain ⟨_,_,_,p⟩:=x;exact p.lt
 | dK kvs=>obtain ⟨_,_,_,_,o,_,_,e,_⟩:=x;exact Heap.lt_size e
 | dT kvs=>obtain ⟨_,_,_,_,o,_,_,e,_⟩:=x;exact Heap.lt_size e
 | set S n=>obtain ⟨o,_,_,_,e,_⟩:=x;exact Heap.lt_size e
 | ins C dx fs=>obtain ⟨_,_,_,e,_⟩:=x;exact Heap.lt_size e
 | own y=>obtain ⟨_,e⟩:=x;exact Heap.lt_size e
 | xd fs=>obtain ⟨_,⟨_,_,_,e,_⟩,_⟩:=x;exact Heap.lt_size e
 | rng lo hi=>obtain ⟨_,_,_,e⟩:=x;exact Heap.lt_size e
 | frz ob u=>obtain ⟨e,_⟩:=x;exact Heap.lt_size e
 | tbl ps=>exact Heap.lt_size (show h.get? a=some _ from x)
 | met f y=>exact Heap.lt_size (show h.get? a=some _ from x)
 | ext φ=>obtain ⟨_,⟨_,e⟩,_⟩:=x;exact Heap.lt_size e
theorem Paired.mapP {α β:Type} {F G:α->β->Prop}:∀{l₁:List α} {l₂:List β},Paired F l₁ l₂->(∀a b,F a b->G a b)->Paired G l₁ l₂
 | _,_,.nil,_=>.nil
 | _,_,.cons r t,f=>.cons (f _ _ r) (Paired.mapP t f)
theorem Paired.imp' {α β:Type} {F G:α->β->Prop} (f:∀a b,F a b->G a b) {l₁:List α} {l₂:List β} (r:Paired F l₁ l₂):Paired G l₁ l₂:=Paired.mapP r f
theorem kv.stay (x:kv P w H h a o) (k:∀b u,(b=a\/H b=some (.own a))->h.get? b=some u->h'.get? b=some u)
  (ho:∀b,H b=some (.own a)->H' b=some (.own a)) (ht:∀b xs,H b=some (.tup xs)->H' b=some (.tup xs)):kv P w H' h' a o:=by
 induction o with
 | lst xs=>obtain ⟨z,its,n,r,e⟩:=x;exact ⟨z,its,n,r,k _ _ (.inl rfl) e⟩
 | tup xs=>obtain ⟨z,its,r,ob,e,c⟩:=x;exact ⟨z,its,r,ob,k _ _ (.inl rfl) e,c⟩
 | dK kvs=>obtain ⟨z,y,vs,r,ob,es,ep,e,c⟩:=x;exact ⟨z,y,vs,r,ob,es,ep,k _ _ (.inl rfl) e,c⟩
 | dT kvs =>
  obtain ⟨z,y,xs,r,ob,es,ep,e,c⟩:=x;exact ⟨z,y,xs,Paired.mapP r fun p q z=>⟨z.1,ht _ _ z.2.1,z.2.2⟩,ob,es,ep,k _ _ (.inl rfl) e,c⟩
 | set S n=>obtain ⟨ob,es,ep,t,e,c⟩:=x;exact ⟨ob,es,ep,t,k _ _ (.inl rfl) e,c⟩
 | ins C dx fs =>
  obtain ⟨d,z,ne,e,mA,⟨od,es,ep,e2,c⟩,r⟩:=x;exact ⟨ho _ d,z,ne,k _ _ (.inl rfl) e,mA,⟨od,es,ep,k _ _ (.inr d) e2,c⟩,r⟩
 | own y=>obtain ⟨ob,e⟩:=x;exact ⟨ob,k _ _ (.inl rfl) e⟩
 | xd fs=>obtain ⟨mA,⟨od,es,ep,e,c⟩,r⟩:=x;exact ⟨mA,⟨od,es,ep,k _ _ (.inl rfl) e,c⟩,r⟩
 | rng lo hi=>obtain ⟨t,u,v,e⟩:=x;exact ⟨t,u,v,k _ _ (.inl rfl) e⟩
 | frz ob u ih=>obtain ⟨e,q⟩:=x;exact ⟨k _ _ (.inl rfl) e,ih q⟩
 | tbl ps =>
  have e:h.get? a=some { cls:=.none,data:=.fields ps }:=x;show h'.get? a=some { cls:=.none,data:=.fields ps }
  exact k a _ (.inl rfl) e
 | met f y =>
  have e:h.get? a=some (PySem.W.methodObj (.ref f) (.ref y)):=x;show h'.get? a=some (PySem.W.methodObj (.ref f) (.ref y))
  exact k a _ (.inl rfl) e
 | ext φ=>obtain ⟨p,⟨o,e⟩,st⟩:=x;exact ⟨st _ _ p fun o q=>k _ _ (.inl rfl) q,⟨o,k _ _ (.inl rfl) e⟩,st⟩
theorem Ak.lt (x:Ak P w H h) (e:H a=some o):a < h.objs.size:=(x a o e).lt
theorem Ak.fresh (x:Ak P w H h) (e:h.objs.size<=a):H a=none:=by
 cases q:H a with
 | none=>rfl
 | some u=>exact absurd (bI (x.lt q) e) (d9 _)
theorem Ak.kept (x:Ak P w H h) (k:∀b u,h.get? b=some u->h'.get? b=some u):Ak P w H h':=fun a o e =>
 (x a o e).stay (fun b u _ q=>k b u q) (fun _ q=>q) fun _ _ q=>q
theorem Ak.laid (x:Ak P w H h) (k:∀b u,h.get? b=some u->h'.get? b=some u) (hp:h.objs.size<=a) (new:kv P w (upd H a o) h' a o):Ak P w (upd H a o) h':=fun b u e=>by
 have hn:=x.fresh hp;by_cases hb:b=a
 ·subst hb;rw[aQ] at e;cases e;exact new
 ·rw[bA hb] at e;exact (x b u e).stay (fun c v _ q=>k c v q) (fun c q=>by rw[bA (fJ q hn)];exact q) fun c xs q=>by rw[bA (fJ q hn)];exact q
end
def Rd (H:Hp) (a:Addr) (u:HO):Prop:=H a=some u\/∃o,H a=some (.frz o u)
theorem Rd.ok {P:Program} {w:World} {H:Hp} {h:Heap} {a:Addr} {u:HO} (r:Rd H a u) (x:Ak P w H h):kv P w H h a u:=by
 rcases r with r | ⟨o,r⟩
 ·exact x a u r
 ·obtain ⟨_,q⟩:=x a _ r;exact q
def RI:Option HO->Prop
 | some (.lst _)=>True
 | some (.dK _)=>True
 | some (.dT _)=>True
 | some (.set _ _)=>True
 | some (.ins _ _ _)=>True
 | some (.ext _)=>True
 | _=>False
section
variable {P:Program} {w:World} {H:Hp} {h h':Heap} {x e:Addr} {o':HO}
theorem Ak.write (ok:Ak P w H h) (mu:RI (H x)) (he:e=x\/H e=some (.own x)) (k:∀b u,b≠e->h.get? b=some u->h'.get? b=some u) (heo:∃u,h'.get? e=some u)
  (new:kv P w (upd H x o') h' x o'):Ak P w (upd H x o') h':=fun b u q=>by
 have nown:∀c y,H c=some (.own y)->c≠x:=fun c y r z=>by subst z;rw[r] at mu;exact mu
 have ntup:∀c xs,H c=some (.tup xs)->c≠x:=fun c xs r z=>by subst z;rw[r] at mu;exact mu
 by_cases hb:b=x
 ·subst hb;rw[aQ] at q;cases q;exact new
 ·rw[bA hb] at q;by_cases hbe:b=e
  ·have q':H b=some (.own x):=by
    rcases he with z | z
    ·exact absurd (hbe.trans z) hb
    ·rw[hbe];exact z
   rw[q] at q';cases q';obtain ⟨v,hv⟩:=heo;exact ⟨v,by rw[hbe];exact hv⟩
  ·refine (ok b u q).stay (fun c v hc r=>k c v ?_ r) (fun c r=>by rw[bA (nown c b r)];exact r) fun c xs r=>by rw[bA (ntup c xs r)];exact r
   rcases hc with rfl | hc
   ·exact hbe
   ·rintro rfl;rcases he with z | z
    ·exact nown c b hc z
    ·rw[hc] at z;cases z;exact hb rfl
end
structure Un (fs ex:List Addr) (H H':Hp) (h h':Heap):Prop where
 keep:∀b o,h.get? b=some o->H b=none->b∉fs->b∉ex->h'.get? b=some o
 slot:∀b o,h.get? b=some o->H b=none->b∈fs->b∉ex->∃sl,h'.get? b=some { o with slots:=sl }
 free:∀b o,h.get? b=some o->H b=none->b∉ex->H' b=none
 there:∀b o,h.get? b=some o->b∉ex->∃o',h'.get? b=some o'
 tups:∀b xs,H b=some (.tup xs)->H' b=some (.tup xs)
 frzs:∀b o u,H b=some (.frz o u)->H' b=some (.frz o u)
 tbls:∀b ps,H b=some (.tbl ps)->∃more,H' b=some (.tbl (ps++more))
section
variable {fs fs' ex ex':List Addr} {H H1 H2:Hp} {h h1 h2 h':Heap} {a x e:Addr} {o:HO}
theorem Un.any (u:Un fs ex H H1 h h1) {b:Addr} {ob:Obj} (q:h.get? b=some ob) (n:H b=none) (hx:b∉ex):∃sl,h1.get? b=some { ob with slots:=sl }:=by
 by_cases hb:b∈fs
 ·exact u.slot b ob q n hb hx
 ·exact ⟨ob.slots,u.keep b ob q n hb hx⟩
theorem Un.kept (k:∀b u,h.get? b=some u->h'.get? b=some u):Un fs ex H H h h' :=
 ⟨fun b ob q _ _ _=>k b ob q,fun b ob q _ _ _=>⟨ob.slots,k b ob q⟩,fun _ _ _ n _=>n,fun b ob q _=>⟨ob,k b ob q⟩,fun _ _ q=>q,fun _ _ _ q=>q,fun _ ps q=>⟨#[],by rw[q];simp⟩⟩
theorem Un.refl:Un fs ex H H h h:=Un.kept fun _ _ q=>q
theorem Un.laid (k:∀b u,h.get? b=some u->h'.get? b=some u) (hp:h.objs.size<=a) (hn:H a=none):Un fs ex H (upd H a o) h h' where
 keep:=fun b u q _ _ _=>k b u q
 slot:=fun b u q _ _ _=>⟨u.slots,k b u q⟩
 free:=fun b u q n _=>by rw[bA (ck (bI (Heap.lt_size q) hp))];exact n
 there:=fun b u q _=>⟨u,k b u q⟩
 tups:=fun b xs q=>by rw[bA (fJ q hn)];exact q
 frzs:=fun b u xs q=>by rw[bA (fJ q hn)];exact q
 tbls:=fun b ps q=>⟨#[],by rw[bA (fJ q hn),q];simp⟩
theorem Un.write (mu:RI (H x)) (he:e=x\/H e=some (.own x)) (k:∀b u,b≠e->h.get? b=some u->h'.get? b=some u) (heo:∃u,h'.get? e=some u):Un fs ex H (upd H x o) h h':=by
 have hx:∀b,H b=none->b≠x:=fun b n z=>by subst z;rw[n] at mu;exact mu
 have hb:∀b,H b=none->b≠e:=fun b n z=>by
  subst z;rcases he with r | r
  ·exact hx b n r
  ·rw[n] at r;cases r
 have hm:∀b u,H b=some u->¬RI (some u)->b≠x:=fun b u q nm z=>by subst z;rw[q] at mu;exact nm mu
 refine ⟨fun b u q n _ _=>k b u (hb b n) q,fun b u q n _ _=>⟨u.slots,k b u (hb b n) q⟩,fun b u q n _=>by rw[bA (hx b n)];exact n,fun b u q _=>?_,
  fun b xs q=>by rw[bA (hm b _ q fun z=>z)];exact q,fun b u xs q=>by rw[bA (hm b _ q fun z=>z)];exact q,fun b ps q=>⟨#[],by rw[bA (hm b _ q fun z=>z),q];simp⟩⟩
 by_cases hbe:b=e
 ·subst hbe;exact heo
 ·exact ⟨u,k b u hbe q⟩
end
def Ry (h:Heap) (H:Hp):List Addr:=(List.range h.objs.size).filter fun a=>(H a).isSome
def DC (h:Heap) (H:Hp):Heap:=PySem.W.hideAll h (Ry h H)
theorem Jt (h:Heap) (H:Hp):(DC h H).objs.size=h.objs.size:=PySem.W.hideAll_size _ _
theorem La {h:Heap} {H:Hp} {b:Addr} {o:Obj} (e:h.get? b=some o) (n:H b=none):(DC h H).get? b=some o :=
 PySem.W.hideAll_get _ e fun hm=>by
  have q:(H b).isSome=true:=(List.mem_filter.mp hm).2;rw[n] at q;simp at q
theorem M7 {h:Heap} {H:Hp} {b:Addr} {o:Obj} (e:(DC h H).get? b=some o):h.get? b=some o/\H b=none:=by
 have e':h.get? b=some o:=PySem.W.of_hideAll (Ry h H) e;refine ⟨e',?_⟩;cases q:H b with
 | none=>rfl
 | some x =>
  have hm:b∈Ry h H:=List.mem_filter.mpr ⟨rd.mpr (Heap.lt_size e'),by simp [q]⟩;have z:(DC h H).get? b=none:=PySem.W.hideAll_none (Ry h H) hm;rw[z] at e;cases e
structure Mod (K:PySem.W.Frag) (mg:Str->Option Value) (base:Heap):Prop where
 kin:K.In base
 glob:base.Ns mainGlobals mg
 blt:∃mb,base.Ns builtinsNs mb/\∀x:Str,x≠"__name__"->mb x=bootBuiltins x
 nolimit:base.NoLimit
structure Cx where
 prog:Program
 w:World
 K:PySem.W.Frag
 mg:Str->Option Value
 base:Heap
 A:Around
 N:List Str
 s₀:Shared
 H₀:Hp
 env:Env
 outer:List Env
 stack:List Env
 ex:List Addr
 fn:Str->Bool
 calm:Bool
 pn:List (Addr×Obj)
 xe:Value->Shared->Prop
def JG (l:List Env):List Addr:=l.filterMap (·.frame)
abbrev Cx.fs (X:Cx):List Addr:=JG X.outer
def Sa (sc:Scope) (x:Str):Prop:=sc.names.lookup x=some .local\/sc.names.lookup x=some .cell\/sc.names.lookup x=some .free
def Loc (sc:Scope) (x:Str):Prop:=sc.names.lookup x=some .local\/sc.names.lookup x=some .cell
def Look (env:Env) (h:Heap) (m:Str->Option Value) (x:Str) (u:Value):Prop :=
 (env.kindOf x=some .local/\m x=some u)\/((env.kindOf x=some .cell\/env.kindOf x=some .free)/\∃c,env.cells.lookup x=some c/\h.IsCell c (some u))
structure Cx.Ok (X:Cx):Prop where
 mod:Mod X.K X.mg X.base
 kind:X.env.scope.kind=.function
 glob:X.env.globals=mainGlobals
 blt:X.env.builtins=builtinsNs
 above:X.s₀.heap.objs.size<=X.env.locals
 inj:∀x y c,X.env.cells.lookup x=some c->X.env.cells.lookup y=some c->x=y
 has:∀x,(X.env.kindOf x=some .cell\/X.env.kindOf x=some .free)->∃c,X.env.cells.lookup x=some c
 cab:∀x c,X.fn x=true->X.env.cells.lookup x=some c->X.s₀.heap.objs.size<=c
 hd:X.calm=true->X.A.handled=none
 frames:X.A.frames=some X.stack
 stk:X.stack=X.outer\/(X.stack=X.env :: X.outer/\X.env.frame=some X.env.locals)
 exf:∀b∈X.ex,b≠X.env.locals/\∀x c,X.env.cells.lookup x=some c->c≠b
 bs:∀b o,X.base.get? b=some o->X.s₀.heap.get? b=some o/\X.H₀ b=none
 bsz:X.base.objs.size<=X.s₀.heap.objs.size
 noex:∀b o,X.base.get? b=some o->b∉X.ex
 exfs:∀b∈X.ex,b∉X.fs
 funs:X.s₀.heap.FunFrames X.base X.outer
 frf:∀b∈X.fs,X.H₀ b=none
structure Inv (X:Cx) (pins:List (Addr×Obj)) (σ:List (Option V)) (H:Hp) (s:Shared):Prop where
 ok:X.Ok
 os:s.os=X.s₀.os
 bare:AllBare s.gens
 base:Un X.fs X.ex X.H₀ H X.s₀.heap s.heap
 loc:∃m,s.heap.Ns X.env.locals m/\∀(i:Nat) (x:Str) (v:V),X.N[i]?=some x->σ[i]?=some (some v)->Sa X.env.scope x->∃u,RelV v u/\Look X.env s.heap m x u
 cell:∀x c,X.env.cells.lookup x=some c->∃v,s.heap.IsCell c v
 free:H X.env.locals=none
 freeC:∀x c,X.env.cells.lookup x=some c->H c=none
 pin:∀p∈X.pn++pins,s.heap.get? p.1=some p.2/\H p.1=none/\p.1≠X.env.locals/\p.1∉X.fs/\∀v,p.2.data≠.cell v
 hok:Ak X.prog X.w H s.heap
 len:σ.length=X.N.length
section
variable {X:Cx} {pins:List (Addr×Obj)} {σ:List (Option V)} {H H':Hp} {s:Shared} {h':Heap}
theorem Cx.Ok.nofr (ok:X.Ok) {b:Addr} {o:Obj} (e:X.base.get? b=some o):b∉X.fs:=fun hb=>by
 have:=(ok.funs.mem hb).1;rw[e] at this;cases this
theorem Inv.bs (I:Inv X pins σ H s):∀b o,X.base.get? b=some o->s.heap.get? b=some o/\H b=none:=fun b o e =>
 ⟨I.base.keep b o (I.ok.bs b o e).1 (I.ok.bs b o e).2 (I.ok.nofr e) (I.ok.noex b o e),I.base.free b o (I.ok.bs b o e).1 (I.ok.bs b o e).2 (I.ok.noex b o e)⟩
theorem Inv.bk (I:Inv X pins σ H s):∀b o,X.base.get? b=some o->s.heap.get? b=some o:=fun b o e=>(I.bs b o e).1
theorem Inv.mod (I:Inv X pins σ H s):Mod X.K X.mg X.base:=I.ok.mod
theorem Inv.kIn (I:Inv X pins σ H s):X.K.In s.heap:=I.ok.mod.kin.keeps I.bk
theorem Inv.lt (I:Inv X pins σ H s):X.env.locals < s.heap.objs.size:=let ⟨_,hn,_⟩:=I.loc;hn.lt
theorem Inv.sz (I:Inv X pins σ H s):X.s₀.heap.objs.size<=s.heap.objs.size:=ah I.ok.above (br I.lt)
theorem Inv.nofs (I:Inv X pins σ H s) {a:Addr} (h:s.heap.objs.size<=a):a∉X.fs:=fun hb=>by
 obtain ⟨_,o,ho,_⟩:=I.ok.funs.mem hb;exact absurd (bI (Heap.lt_size ho) (ah I.sz h)) (d9 _)
theorem Inv.cne (I:Inv X pins σ H s):∀x c,X.env.cells.lookup x=some c->c≠X.env.locals:=fun x c e z=>by
 obtain ⟨v,o,ho,hd⟩:=I.cell x c e;obtain ⟨m,⟨o',es,ep,ho',hd',_⟩,_⟩:=I.loc;rw[z,ho'] at ho;cases ho;rw[hd'] at hd;cases hd
theorem Inv.funs (I:Inv X pins σ H s):s.heap.FunFrames X.base X.outer:=by
 have all:∀(l:List Env),(∀b∈JG l,b∈X.fs)->X.s₀.heap.FunFrames X.base l->s.heap.FunFrames X.base l:=by
  intro l
  induction l with
  | nil=>intro _ _;trivial
  | cons env r ih =>
   intro hs hl;obtain ⟨hk,⟨L,o,hf,hn,ho,hd⟩,hr⟩:=hl;have hL:L∈X.fs:=hs L (by unfold JG;rw[D9,hf];exact dk);obtain ⟨sl,e⟩:=I.base.slot L o ho (I.ok.frf L hL) hL fun z=>I.ok.exfs L z hL
   exact ⟨hk,⟨L,_,hf,hn,e,hd⟩,ih (fun b hb=>hs b (by unfold JG;rw[D9,hf];exact bV _ hb)) hr⟩
 exact all X.outer (fun _ hb=>hb) I.ok.funs
theorem Inv.stack (I:Inv X pins σ H s):s.heap.FunFrames X.base X.stack:=by
 rcases I.ok.stk with e | ⟨e,hf⟩
 ·rw[e];exact I.funs
 ·rw[e];obtain ⟨m,hn,_⟩:=I.loc;refine .cons (by rw[I.ok.kind];decide) hf hn ?_ I.funs;exact Heap.get?_none_of_le (ah I.ok.bsz I.ok.above)
theorem Inv.stkSub (I:Inv X pins σ H s):∀b∈JG X.stack,b∈X.env.locals :: X.fs:=fun b hb=>by
 rcases I.ok.stk with e | ⟨e,hf⟩
 ·rw[e] at hb;exact bV _ hb
 ·rw[e] at hb;unfold JG at hb;rw[D9,hf] at hb;exact hb
theorem Inv.stkFree (I:Inv X pins σ H s):∀b∈JG X.stack,H b=none:=fun b hb=>by
 rcases aJ.mp (I.stkSub b hb) with e | hb
 ·rw[e];exact I.free
 ·obtain ⟨_,o,ho,_⟩:=I.ok.funs.mem hb;exact I.base.free b o ho (I.ok.frf b hb) fun z=>I.ok.exfs b z hb
theorem Inv.step {g':Array GenState} {t':Nat} {d':Drawn} {ch:List Addr} (I:Inv X pins σ H s)
  (hch:∀b∈ch,(b∈X.ex\/X.s₀.heap.objs.size<=b)/\b≠X.env.locals/\(∀x c,X.env.cells.lookup x=some c->c≠b)/\∀p∈X.pn++pins,p.1≠b)
  (keep:∀b o,b≠X.env.locals->b∉X.fs->b∉ch->s.heap.get? b=some o->H b=none->h'.get? b=some o)
  (slot:∀b o,b≠X.env.locals->b∈X.fs->b∉ch->s.heap.get? b=some o->H b=none->∃sl,h'.get? b=some { o with slots:=sl }) (free:∀b o,b∉ch->s.heap.get? b=some o->H b=none->H' b=none)
  (there:∀b o,b∉ch->s.heap.get? b=some o->∃o',h'.get? b=some o')
  (tups:∀b xs,H b=some (.tup xs)->H' b=some (.tup xs)) (frzs:∀b o u,H b=some (.frz o u)->H' b=some (.frz o u)) (tbls:∀b ps,H b=some (.tbl ps)->∃more,H' b=some (.tbl (ps++more)))
  (ns:∀m,s.heap.Ns X.env.locals m->h'.Ns X.env.locals m) (hok:Ak X.prog X.w H' h') (hg:AllBare g') :
  Inv X pins σ H' { s with heap:=h',gens:=g',drawn:=d',toks:=t' }:=by
 have neL:∀b o,X.s₀.heap.get? b=some o->b≠X.env.locals:=fun b o e=>ck (bI (Heap.lt_size e) I.ok.above)
 have neC:∀b o,X.s₀.heap.get? b=some o->b∉X.ex->b∉ch:=fun b o e hx hb=>by
  rcases (hch b hb).1 with z | z
  ·exact hx z
  ·exact absurd (bI (Heap.lt_size e) z) (d9 _)
 have cellK:∀x c,X.env.cells.lookup x=some c->∀v,s.heap.IsCell c v->h'.IsCell c v:=fun x c e v ⟨o,ho,hd⟩=>by
  have nch:c∉ch:=fun z=>(hch c z).2.2.1 x c e rfl
  by_cases hc:c∈X.fs
  ·obtain ⟨sl,q⟩:=slot c o (I.cne x c e) hc nch ho (I.freeC x c e);exact ⟨_,q,hd⟩
  ·exact ⟨o,keep c o (I.cne x c e) hc nch ho (I.freeC x c e),hd⟩
 refine ⟨I.ok,I.os,hg,⟨fun b o e n hb hx=>?_,fun b o e n hb hx=>?_,fun b o e n hx=>?_,fun b o e hx=>?_,fun b xs e=>tups b xs (I.base.tups b xs e),fun b o xs e=>frzs b o xs (I.base.frzs b o xs e),fun b ps e=>?_⟩,?_,fun x c e=>?_,?_,fun x c e=>?_,fun p hp=>?_,hok,I.len⟩
 ·exact keep b o (neL b o e) hb (neC b o e hx) (I.base.keep b o e n hb hx) (I.base.free b o e n hx)
 ·obtain ⟨sl,e1⟩:=I.base.slot b o e n hb hx;obtain ⟨sl',e2⟩:=slot b _ (neL b o e) hb (neC b o e hx) e1 (I.base.free b o e n hx);exact ⟨sl',e2⟩
 ·obtain ⟨o',e1⟩:=I.base.there b o e hx;exact free b o' (neC b o e hx) e1 (I.base.free b o e n hx)
 ·obtain ⟨o',e1⟩:=I.base.there b o e hx;exact there b o' (neC b o e hx) e1
 ·obtain ⟨m1,e1⟩:=I.base.tbls b ps e;obtain ⟨m2,e2⟩:=tbls b _ e1;exact ⟨m1++m2,by rw[e2,Array.append_assoc]⟩
 ·obtain ⟨m,hn,hl⟩:=I.loc;refine ⟨m,ns m hn,fun i x v e1 e2 e3=>?_⟩;obtain ⟨u,r,l⟩:=hl i x v e1 e2 e3;refine ⟨u,r,?_⟩;rcases l with l | ⟨k,c,e,z⟩
  ·exact .inl l
  ·exact .inr ⟨k,c,e,cellK x c e _ z⟩
 ·obtain ⟨v,z⟩:=I.cell x c e;exact ⟨v,cellK x c e v z⟩
 ·obtain ⟨m,⟨o,_,_,ho,_⟩,_⟩:=I.loc;exact free _ o (fun z=>(hch _ z).2.1 rfl) ho I.free
 ·obtain ⟨v,o,ho,hd⟩:=I.cell x c e;exact free c o (fun z=>(hch c z).2.2.1 x c e rfl) ho (I.freeC x c e)
 ·obtain ⟨e,n,ne,nf,d⟩:=I.pin p hp;have nch:p.1∉ch:=fun z=>(hch p.1 z).2.2.2 p hp rfl
  exact ⟨keep p.1 p.2 ne nf nch e n,free p.1 p.2 nch e n,ne,nf,d⟩
theorem Inv.un {t':Nat} (I:Inv X pins σ H s) (u:Un X.fs [] H H' s.heap h') (hok:Ak X.prog X.w H' h'):Inv X pins σ H' { s with heap:=h',toks:=t' }:=by
 obtain ⟨m,⟨o,es,ep,ho,r⟩,_⟩:=id I.loc;obtain ⟨sl,hL⟩:=u.any ho I.free (by simp)
 exact I.step (g':=s.gens) (d':=s.drawn) (ch:=[]) (fun _ z=>nomatch z) (fun b o _ hb _ e n=>u.keep b o e n hb (by simp)) (fun b o _ hb _ e n=>u.slot b o e n hb (by simp)) (fun b o _ e n=>u.free b o e n (by simp)) (fun b o _ e=>u.there b o e (by simp)) u.tups u.frzs u.tbls (fun m' hm=>by
  obtain ⟨o',es',ep',ho',r'⟩:=hm;rw[ho] at ho';cases ho';exact ⟨_,es',ep',hL,r'⟩) hok I.bare
theorem Inv.call {g':Array GenState} {t':Nat} {d':Drawn} {ch:List Addr} (I:Inv X pins σ H s) (u:Un (JG X.stack) ch H H' s.heap h') (hok:Ak X.prog X.w H' h') (hg:AllBare g')
  (hch:∀b∈ch,(b∈X.ex\/X.s₀.heap.objs.size<=b)/\b≠X.env.locals/\(∀x c,X.env.cells.lookup x=some c->c≠b)/\∀p∈X.pn++pins,p.1≠b) :
  Inv X pins σ H' { s with heap:=h',gens:=g',drawn:=d',toks:=t' }:=by
 obtain ⟨m,⟨o,es,ep,ho,r⟩,_⟩:=id I.loc;obtain ⟨sl,hL⟩:=u.any ho I.free fun z=>(hch _ z).2.1 rfl
 exact I.step (ch:=ch) hch (fun b o hL hb hc e n=>u.keep b o e n (fun z=>(aJ.mp (I.stkSub b z)).elim hL hb) hc) (fun b o _ _ hc e n=>u.any e n hc) (fun b o hc e n=>u.free b o e n hc) (fun b o hc e=>u.there b o e hc) u.tups u.frzs u.tbls (fun m' hm=>by
  obtain ⟨o',es',ep',ho',r'⟩:=hm;rw[ho] at ho';cases ho';exact ⟨_,es',ep',hL,r'⟩) hok hg
theorem Inv.turned {t':Nat} {it:Addr} (I:Inv X pins σ H s) (k:∀b o,b≠it->s.heap.get? b=some o->h'.get? b=some o) (hn:H it=none) (hL:it≠X.env.locals)
  (h1:it∈X.ex\/X.s₀.heap.objs.size<=it) (h2:∀x c,X.env.cells.lookup x=some c->c≠it) (h3:∀p∈X.pn++pins,p.1≠it):Inv X pins σ H { s with heap:=h',toks:=t' }:=by
 have nit:∀b u,H b=some u->b≠it:=fun b u e z=>by rw[z,hn] at e;cases e
 refine I.step (g':=s.gens) (d':=s.drawn) (ch:=[it]) (fun b hb=>?_) (fun b o _ _ hc e _=>k b o (fun z=>hc (by simp [z])) e) (fun b o _ _ hc e _=>⟨o.slots,k b o (fun z=>hc (by simp [z])) e⟩) (fun _ _ _ _ n=>n)
  (fun b o hc e=>⟨o,k b o (fun z=>hc (by simp [z])) e⟩) (fun _ _ e=>e) (fun _ _ _ e=>e) (fun b ps e=>⟨#[],by rw[e];simp⟩) (fun m hm=>?_) (fun b u e=>?_) I.bare
 ·have e:b=it:=by simpa using hb
  subst e;exact ⟨h1,hL,h2,h3⟩
 ·obtain ⟨o,es,ep,ho,r⟩:=hm;exact ⟨o,es,ep,k _ o (Ne.symm hL) ho,r⟩
 ·refine (I.hok b u e).stay (fun c v hc q=>k c v ?_ q) (fun _ q=>q) fun _ _ q=>q
  rcases hc with z | z
  ·rw[z];exact nit b u e
  ·exact nit c _ z
theorem Inv.tok (I:Inv X pins σ H s) (t:Nat):Inv X pins σ H { s with toks:=t }:=I.un (h':=s.heap) (t':=t) Un.refl I.hok
theorem Inv.kept {t':Nat} (I:Inv X pins σ H s) (k:∀b u,s.heap.get? b=some u->h'.get? b=some u):Inv X pins σ H { s with heap:=h',toks:=t' }:=I.un (Un.kept k) (I.hok.kept k)
theorem Inv.laid {a:Addr} {o:HO} {t':Nat} (I:Inv X pins σ H s) (k:∀b u,s.heap.get? b=some u->h'.get? b=some u) (hp:s.heap.objs.size<=a) (new:kv X.prog X.w (upd H a o) h' a o) :
  Inv X pins σ (upd H a o) { s with heap:=h',toks:=t' }:=I.un (Un.laid k hp (I.hok.fresh hp)) (I.hok.laid k hp new)
theorem Inv.write {x e:Addr} {o:HO} {t':Nat} (I:Inv X pins σ H s) (mu:RI (H x)) (he:e=x\/H e=some (.own x)) (k:∀b u,b≠e->s.heap.get? b=some u->h'.get? b=some u) (heo:∃u,h'.get? e=some u)
  (new:kv X.prog X.w (upd H x o) h' x o):Inv X pins σ (upd H x o) { s with heap:=h',toks:=t' }:=I.un (Un.write mu he k heo) (I.hok.write mu he k heo new)
theorem Inv.pins_of {pins':List (Addr×Obj)} (I:Inv X pins σ H s) (h:∀p∈pins',s.heap.get? p.1=some p.2/\H p.1=none/\p.1≠X.env.locals/\p.1∉X.fs/\∀v,p.2.data≠.cell v):Inv X pins' σ H s :=
 ⟨I.ok,I.os,I.bare,I.base,I.loc,I.cell,I.free,I.freeC,fun p hp=>(ax.mp hp).elim (fun z=>I.pin p (ur _ z)) (h p),I.hok,I.len⟩
theorem EB {N:List Str} (hN:N.Nodup) {i j:Nat} {x:Str} (a:N[i]?=some x) (b:N[j]?=some x):i=j:=by
 obtain ⟨h1,e1⟩:=aI.mp a;obtain ⟨h2,e2⟩:=aI.mp b;exact (List.getElem_inj hN).mp (e1.trans e2.symm)
theorem Cf {M:Model} {A:Around} {E:Value->Shared->Prop} {i:Nat} {x:Str} {v:V} {u:Value} {Q:Unit->Shared->Prop} (I:Inv X pins σ H s) (hN:X.N.Nodup) (hi:X.N[i]?=some x) (hx:Loc X.env.scope x) (r:RelV v u)
  (h:∀s',Inv X pins (σ.set i (some v)) H s'->(∃a,Heap.SameBut a s.heap s'.heap/\(a=X.env.locals\/X.env.cells.lookup x=some a))->Q () s') (hf:X.fn x=true\/X.env.scope.names.lookup x=some .local:=by first | exact .inl rfl | exact .inr rfl | assumption):wpAny M A (storeName X.env x u) Q E s:=by
 obtain ⟨m,hn,hl⟩:=id I.loc;have hcls:(X.env.scope.kind == .class || (X.env.scope.kind == .module && X.env.locals != X.env.globals))=false:=by rw[I.ok.kind];rfl
 have hiσ:i < σ.length:=by rw[I.len];exact (aI.mp hi).1
 have cne:=I.cne
 have tracked:∀{a:Addr} {h':Heap},(∃o,s.heap.get? a=some o/\H a=none)->Heap.SameBut a s.heap h'->Ak X.prog X.w H h':=fun {a h'} ha hs b ob e=>by
  obtain ⟨_,_,hfree⟩:=ha;refine (I.hok b ob e).stay (fun c w' hc q=>(hs.2 c ?_).trans q) (fun _ q=>q) fun _ _ q=>q
  rintro rfl;rcases hc with rfl | hc
  ·rw[hfree] at e;cases e
  ·rw[hfree] at hc;cases hc
 rcases hx with hk | hk
 ·refine wpAny_storeName_local hk hn (fun h' hn' hs=>?_) hcls;obtain ⟨oL,_,_,hoL,_⟩:=id hn;refine h _ ⟨I.ok,I.os,I.bare,⟨fun b o e n hb hx=>?_,fun b o e n hb hx=>?_,I.base.free,fun b o e hx=>?_,I.base.tups,I.base.frzs,I.base.tbls⟩,⟨_,hn',fun j y v' e1 e2 e3=>?_⟩,fun y c e=>?_,I.free,I.freeC,fun p hp=>?_,tracked ⟨oL,hoL,I.free⟩ hs,by simpa using I.len⟩ ⟨_,hs,.inl rfl⟩
  ·exact (hs.2 b (ck (bI (Heap.lt_size e) I.ok.above))).trans (I.base.keep b o e n hb hx)
  ·obtain ⟨sl,e1⟩:=I.base.slot b o e n hb hx;exact ⟨sl,(hs.2 b (ck (bI (Heap.lt_size e) I.ok.above))).trans e1⟩
  ·obtain ⟨o',e1⟩:=I.base.there b o e hx;exact ⟨o',(hs.2 b (ck (bI (Heap.lt_size e) I.ok.above))).trans e1⟩
  ·by_cases hj:j=i
   ·subst hj;rw[hi] at e1;cases e1;rw[List.getElem?_set_self hiσ] at e2;cases e2;exact ⟨u,r,.inl ⟨hk,by simp⟩⟩
   ·rw[List.getElem?_set_ne (Ne.symm hj)] at e2;obtain ⟨u',r',q⟩:=hl j y v' e1 e2 e3;refine ⟨u',r',?_⟩;rcases q with ⟨k,e⟩ | ⟨k,c,e,z⟩
    ·refine .inl ⟨k,?_⟩;have:y≠x:=fun e=>hj (EB hN e1 (e ▸ hi))
     simp [this,e]
    ·exact .inr ⟨k,c,e,z.sameBut hs (cne y c e)⟩
  ·obtain ⟨w',z⟩:=I.cell y c e;exact ⟨w',z.sameBut hs (cne y c e)⟩
  ·obtain ⟨e,n,ne,nf,d⟩:=I.pin p hp;exact ⟨(hs.2 p.1 ne).trans e,n,ne,nf,d⟩
 ·have hfn:X.fn x=true:=by
   rcases hf with z | z
   ·exact z
   ·rw[z] at hk;cases hk
  obtain ⟨c,hc⟩:=I.ok.has x (.inl hk);obtain ⟨w',z⟩:=I.cell x c hc;refine wpAny_storeName_cell I.ok.kind hk hc z (fun h' hc' hs=>?_);obtain ⟨oc,hoc,hocd⟩:=id z;refine h { s with heap:=h' } ⟨I.ok,I.os,I.bare,⟨fun b o e n hb hx=>?_,fun b o e n hb hx=>?_,I.base.free,fun b o e hx=>?_,I.base.tups,I.base.frzs,I.base.tbls⟩,⟨m,hn.sameBut hs (Ne.symm (cne x c hc)),fun j y v' e1 e2 e3=>?_⟩,fun y c' e=>?_,I.free,I.freeC,fun p hp=>?_,tracked ⟨oc,hoc,I.freeC x c hc⟩ hs,by simpa using I.len⟩ ⟨c,hs,.inr hc⟩
  ·exact (hs.2 b (ck (bI (Heap.lt_size e) (I.ok.cab x c hfn hc)))).trans (I.base.keep b o e n hb hx)
  ·obtain ⟨sl,e1⟩:=I.base.slot b o e n hb hx;exact ⟨sl,(hs.2 b (ck (bI (Heap.lt_size e) (I.ok.cab x c hfn hc)))).trans e1⟩
  ·obtain ⟨o',e1⟩:=I.base.there b o e hx;exact ⟨o',(hs.2 b (ck (bI (Heap.lt_size e) (I.ok.cab x c hfn hc)))).trans e1⟩
  ·by_cases hj:j=i
   ·subst hj;rw[hi] at e1;cases e1;rw[List.getElem?_set_self hiσ] at e2;cases e2;exact ⟨u,r,.inr ⟨.inl hk,c,hc,hc'⟩⟩
   ·rw[List.getElem?_set_ne (Ne.symm hj)] at e2;obtain ⟨u',r',q⟩:=hl j y v' e1 e2 e3;refine ⟨u',r',?_⟩;rcases q with q | ⟨k,c',e,z'⟩
    ·exact .inl q
    ·refine .inr ⟨k,c',e,z'.sameBut hs ?_⟩;rintro rfl;exact hj (EB hN e1 (I.ok.inj _ _ _ e hc ▸ hi))
  ·by_cases hcc:c'=c
   ·subst hcc;exact ⟨_,hc'⟩
   ·obtain ⟨w2,z2⟩:=I.cell y c' e;exact ⟨w2,z2.sameBut hs hcc⟩
  ·obtain ⟨e,n,ne,nf,d⟩:=I.pin p hp;refine ⟨(hs.2 p.1 ?_).trans e,n,ne,nf,d⟩;intro q;rw[q,hoc] at e;have q':oc=p.2:=cv e;exact d w' (by rw[<- q'];exact hocd)
theorem xv {M:Model} {A:Around} {E:Value->Shared->Prop} {i:Nat} {x:Str} {v:V} {u:Value} {Q:Unit->Shared->Prop} (I:Inv X pins σ H s) (hN:X.N.Nodup) (hi:X.N[i]?=some x) (hx:Loc X.env.scope x) (r:RelV v u)
  (h:∀s',Inv X pins (σ.set i (some v)) H s'->Q () s') (hf:X.fn x=true\/X.env.scope.names.lookup x=some .local:=by first | exact .inl rfl | exact .inr rfl | assumption):wpAny M A (storeName X.env x u) Q E s :=
 Cf I hN hi hx r (fun s' I' _=>h s' I') hf
theorem Inv.call' {s':Shared} {ch:List Addr} (I:Inv X pins σ H s) (ho:s'.os=s.os) (u:Un (JG X.stack) ch H H' s.heap s'.heap) (hok:Ak X.prog X.w H' s'.heap) (hg:AllBare s'.gens)
  (hch:∀b∈ch,(b∈X.ex\/X.s₀.heap.objs.size<=b)/\b≠X.env.locals/\(∀x c,X.env.cells.lookup x=some c->c≠b)/\∀p∈X.pn++pins,p.1≠b):Inv X pins σ H' s':=by
 obtain ⟨h',g',d',t',o'⟩:=s';have e:o'=s.os:=ho;subst e;exact I.call (g':=g') (t':=t') (d':=d') u hok hg hch
end
abbrev XK:=Value->Option Addr->Hp->Prop
abbrev St:=List (Option V)
abbrev VK:=V->Hp->Prop
abbrev TE:=St->Hp->VK->Prop
abbrev TT:=St->Hp->(Bool->Hp->Prop)->Prop
abbrev TA:=St->Hp->(List V->Hp->Prop)->Prop
structure Ends where
 nx:St->Hp->Prop
 rt:VK
 bk:St->Hp->Prop:=fun _ _=>False
 ct:St->Hp->Prop:=fun _ _=>False
abbrev TS:=Ends->St->Hp->Prop
def EP (X:Cx) (pins:List (Addr×Obj)) (σ:St) (Q:VK) (u:Value) (s':Shared):Prop:=∃v H',Inv X pins σ H' s'/\RelV v u/\Q v H'
def TP (X:Cx) (pins:List (Addr×Obj)) (σ:St) (Q:Bool->Hp->Prop) (b:Bool) (s':Shared):Prop:=∃H',Inv X pins σ H' s'/\Q b H'
def AP (X:Cx) (pins:List (Addr×Obj)) (σ:St) (Q:List V->Hp->Prop) (us:List Value) (s':Shared):Prop:=∃vs H',Inv X pins σ H' s'/\cR vs us/\Q vs H'
def SP (X:Cx) (pins:List (Addr×Obj)) (D:Ends) (f:Flow) (s':Shared):Prop :=
 match f with
 | .next=>∃σ' H',Inv X pins σ' H' s'/\D.nx σ' H'
 | .brk=>∃σ' H',Inv X pins σ' H' s'/\D.bk σ' H'
 | .cont=>∃σ' H',Inv X pins σ' H' s'/\D.ct σ' H'
 | .ret u=>∃v σ' H',Inv X pins σ' H' s'/\RelV v u/\D.rt v H'
def PE (X:Cx) (e:Expr) (t:TE):Prop :=
 ∀(pins:List (Addr×Obj)) (s:Shared) (σ:St) (H:Hp) (Q:VK),Inv X pins σ H s->t σ H Q->wpAny (model X.prog X.w) X.A (eval e X.env) (EP X pins σ Q) X.xe s
def PT (X:Cx) (e:Expr) (t:TT):Prop :=
 ∀(pins:List (Addr×Obj)) (s:Shared) (σ:St) (H:Hp) (Q:Bool->Hp->Prop),Inv X pins σ H s->t σ H Q->wpAny (model X.prog X.w) X.A (isTrue e X.env (eval e X.env)) (TP X pins σ Q) X.xe s
def PW (X:Cx) (e:Expr) (t:TT):Prop :=
 ∀(whole:Sem Value) (pins:List (Addr×Obj)) (s:Shared) (σ:St) (H:Hp) (Q:Bool->Hp->Prop),Inv X pins σ H s->t σ H Q->wpAny (model X.prog X.w) X.A (isTrue e X.env whole) (TP X pins σ Q) X.xe s
theorem PW.pt {X:Cx} {e:Expr} {t:TT} (h:PW X e t):PT X e t:=h _
def PA (X:Cx) (es:List Expr) (t:TA):Prop :=
 ∀(pos:Pos) (pins:List (Addr×Obj)) (s:Shared) (σ:St) (H:Hp) (Q:List V->Hp->Prop),Inv X pins σ H s->t σ H Q->wpAny (model X.prog X.w) X.A (spliced (backTo pos (starEach es X.env))) (AP X pins σ Q) X.xe s
def PS (X:Cx) (st:Stmt) (t:TS):Prop :=
 ∀(pins:List (Addr×Obj)) (s:Shared) (σ:St) (H:Hp) (D:Ends),Inv X pins σ H s->t D σ H->wpAny (model X.prog X.w) X.A (exec st X.env) (SP X pins D) X.xe s
def GK (X:Cx) (st:List Stmt) (t:TS):Prop :=
 ∀(pins:List (Addr×Obj)) (s:Shared) (σ:St) (H:Hp) (D:Ends),Inv X pins σ H s->t D σ H->wpAny (model X.prog X.w) X.A (execs st X.env) (SP X pins D) X.xe s
theorem gG {α:Type} {t:Sem α} {Q Q':α->Shared->Prop} {M:Model} {A:Around} {E:Value->Shared->Prop} {s:Shared} (h:wpAny M A t Q E s) (hQ:∀a s,Q a s->Q' a s):wpAny M A t Q' E s:=wpAny_mono h hQ fun _ _ x=>x
section
variable {X:Cx}
def Oj (i:Nat):TE:=fun σ H Q=>∃v,σ[i]?=some (some v)/\Q v H
def tC (v:V):TE:=fun _ H Q=>Q v H
theorem O4 {i:Nat} {x:Str} {pos:Pos} (hN:X.N[i]?=some x) (hv:Sa X.env.scope x) (hd:(x == ("__debug__":Str))=false:=by decide) (hcd:(x == ("__classdict__":Str))=false:=by decide):PE X (.Name x pos) (Oj i):=by
 intro pins s σ H Q I h;obtain ⟨v,e,h⟩:=h;obtain ⟨m,hn,hl⟩:=I.loc;obtain ⟨u,r,l⟩:=hl i x v hN e hv;have fin:EP X pins σ Q u s:=⟨v,H,I,r,h⟩;rcases l with ⟨hk,hm⟩ | ⟨hk,c,hc,hcell⟩
 ·exact wpAny_Name (wpAny_loadName_local I.ok.kind hk hn hm fin) hd
 ·rcases hk with hk | hk
  ·exact wpAny_Name (wpAny_loadName_cell I.ok.kind hk hc hcell fin) hd
  ·exact wpAny_Name (wpAny_loadName_free I.ok.kind hk hc hcell fin hcd) hd
theorem av {i j pos}:PE X (.Constant (.int i) j pos) (tC (.int i)):=fun _ _ _ H _ I h=>wpAny_Constant_int ⟨.int i,H,I.tok _,⟨_,rfl⟩,h⟩
theorem rP {b j pos}:PE X (.Constant (.bool b) j pos) (tC (.bl b)):=fun _ _ _ H _ I h=>Constant_bool ⟨.bl b,H,I,rfl,h⟩
theorem Dp {j pos}:PE X (.Constant .none j pos) (tC .non):=fun _ _ _ H _ I h=>Constant_none ⟨.non,H,I,rfl,h⟩
theorem jt {x j pos}:PE X (.Constant (.str x) j pos) (tC (.str x)):=fun _ _ _ H _ I h=>Calls.Constant_str ⟨.str x,H,I.tok _,⟨_,rfl⟩,h⟩
def Gl (X:Cx) (x:Str):Prop:=X.env.kindOf x=some .globalImplicit
theorem Dz {E:Value->Shared->Prop} {pins:List (Addr×Obj)} {s:Shared} {σ:St} {H:Hp} {x:Str} {u:Value} {pos:Pos} {Q:Value->Shared->Prop} (I:Inv X pins σ H s) (hg:Gl X x) (hm:X.mg x=some u) (h:Q u s)
  (hd:(x == ("__debug__":Str))=false:=by decide):wpAny (model X.prog X.w) X.A (eval (.Name x pos) X.env) Q E s :=
 Calls.Name_function_global I.ok.kind hg (Calls.loadGlobal_global (by rw[I.ok.glob];exact I.mod.glob.keeps I.bk) hm h) hd
theorem md {E:Value->Shared->Prop} {pins:List (Addr×Obj)} {s:Shared} {σ:St} {H:Hp} {x:Str} {u:Value} {pos:Pos} {Q:Value->Shared->Prop} (I:Inv X pins σ H s) (hg:Gl X x) (hm:X.mg x=none) (hv:bootBuiltins x=some u) (h:Q u s)
  (hn:x≠"__name__":=by decide) (hd:(x == ("__debug__":Str))=false:=by decide):wpAny (model X.prog X.w) X.A (eval (.Name x pos) X.env) Q E s:=by
 obtain ⟨mb,h1,h2⟩:=I.mod.blt;exact Calls.Name_function_global I.ok.kind hg (Calls.loadGlobal_builtin (by rw[I.ok.glob];exact I.mod.glob.keeps I.bk) hm (by rw[I.ok.blt];exact h1.keeps I.bk) ((h2 x hn).trans hv) h) hd
theorem xF {x:Str} {v:V} {u:Value} {pos:Pos} (hg:Gl X x) (hm:X.mg x=some u) (r:RelV v u) (hd:(x == ("__debug__":Str))=false:=by decide):PE X (.Name x pos) (tC v) :=
 fun _ _ _ H _ I h=>Dz I hg hm ⟨v,H,I,r,h⟩ hd
theorem HE {x:Str} {v:V} {u:Value} {pos:Pos} (hg:Gl X x) (hm:X.mg x=none) (hv:bootBuiltins x=some u) (r:RelV v u) (hn:x≠"__name__":=by decide) (hd:(x == ("__debug__":Str))=false:=by decide):PE X (.Name x pos) (tC v) :=
 fun _ _ _ H _ I h=>md I hg hm hv ⟨v,H,I,r,h⟩ hn hd
variable {a b:Expr} {ta tb:TE} {pos:Pos}
def tB (t:TE):TT:=fun σ H Q=>t σ H fun x H1=>∃c,x=.bl c/\Q c H1
theorem jM {e : Expr} {t : TE} (h : PE X e t) (he : ∀ whole, isTrue e X.env whole = (do let v <- whole; standAt e.pos; holding [v] (truthy v)) := by intro _; rfl) : PT X e (tB t) := by
  intro pins s σ H Q I hw;refine isTrue_plain (gG (h pins s σ H _ I hw) fun v s1 ⟨x, H1, I1, r1, q1⟩ => ?_) (he _);obtain ⟨d, rfl, q⟩ := q1;cases r1;exact wpAny_truthy_bool ⟨H1, I1, q⟩

variable {tA tB':TT} {rest:List Expr}
def Qp (t u:TT):TT:=fun σ H Q=>t σ H fun c H1=>if c=true then u σ H1 Q else Q false H1
def tOr (t u:TT):TT:=fun σ H Q=>t σ H fun c H1=>if c=true then Q true H1 else u σ H1 Q
def Ql (t:TT):TT:=fun σ H Q=>t σ H fun c H1=>Q (!c) H1
theorem iV (ha:PT X a tA):PW X (.BoolOp .And [a] pos) tA:=by
 intro wh pins s σ H Q I h;refine isTrue_and (gG (ha pins s σ H Q I h) fun c s1 e=>?_);cases c with
 | true=>exact isTrue_and_nil e
 | false=>exact e
theorem nP (ha:PT X a tA):PW X (.BoolOp .Or [a] pos) tA:=by
 intro wh pins s σ H Q I h;refine isTrue_or (gG (ha pins s σ H Q I h) fun c s1 e=>?_);cases c with
 | false=>exact isTrue_or_nil e
 | true=>exact e
theorem iw (ha:PT X a tA) (hb:PW X (.BoolOp .And (b :: rest) pos) tB'):PW X (.BoolOp .And (a :: b :: rest) pos) (Qp tA tB'):=by
 intro wh pins s σ H Q I h;refine isTrue_and (gG (ha pins s σ H _ I h) fun c s1 ⟨H1,I1,q1⟩=>?_);cases c with
 | true=>exact hb wh pins s1 σ H1 Q I1 q1
 | false=>exact ⟨H1,I1,q1⟩
theorem uc (ha:PT X a tA) (hb:PW X (.BoolOp .Or (b :: rest) pos) tB'):PW X (.BoolOp .Or (a :: b :: rest) pos) (tOr tA tB'):=by
 intro wh pins s σ H Q I h;refine isTrue_or (gG (ha pins s σ H _ I h) fun c s1 ⟨H1,I1,q1⟩=>?_);cases c with
 | true=>exact ⟨H1,I1,q1⟩
 | false=>exact hb wh pins s1 σ H1 Q I1 q1
theorem kJ (ha:PT X a tA):PT X (.UnaryOp .Not a pos) (Ql tA):=by
 intro pins s σ H Q I h;exact isTrue_not (ha pins s σ H (fun c H1=>Q (!c) H1) I h)
def NG (ta tb:TE):TE:=fun σ H Q=>ta σ H fun x H1=>∃c,x=.bl c/\if c=true then tb σ H1 Q else Q (.bl false) H1
def NA (ta:TE):TE:=fun σ H Q=>ta σ H fun x H1=>∃c,x=.bl c/\Q (.bl (!c)) H1
theorem FN {op} {t:TE} (h:PE X a t):PE X (.BoolOp op [a] pos) t:=fun pins s σ H Q I hw=>BoolOp_one (h pins s σ H Q I hw)
theorem FP (ha:PE X a ta) (hb:PE X (.BoolOp .And (b :: rest) pos) tb):PE X (.BoolOp .And (a :: b :: rest) pos) (NG ta tb):=by
 intro pins s σ H Q I h;refine BoolOp_and (gG (ha pins s σ H _ I h) fun v s1 ⟨x,H1,I1,r1,q1⟩=>?_);obtain ⟨c,rfl,q1⟩:=q1;cases r1;refine wpAny_truthy_bool ?_;cases c with
 | true=>exact hb pins s1 σ H1 Q I1 q1
 | false=>exact ⟨.bl false,H1,I1,rfl,q1⟩
theorem O5 (ha:PE X a ta):PE X (.UnaryOp .Not a pos) (NA ta):=by
 intro pins s σ H Q I h;refine UnaryOp_ (gG (ha pins s σ H _ I h) fun v s1 ⟨x,H1,I1,r1,q1⟩=>?_);obtain ⟨c,rfl,q1⟩:=q1;cases r1;exact not_of (wpAny_truthy_bool ⟨.bl (!c),H1,I1,rfl,q1⟩)
def tIf (t:TT) (ta tb:TE):TE:=fun σ H Q=>t σ H fun c H1=>if c=true then ta σ H1 Q else tb σ H1 Q
theorem Kz {c:Expr} (hc:PT X c tA) (ha:PE X a ta) (hb:PE X b tb):PE X (.IfExp c a b pos) (tIf tA ta tb):=by
 intro pins s σ H Q I h;refine wpAny_IfExp (gG (hc pins s σ H _ I h) fun d s1 ⟨H1,I1,q1⟩=>?_);cases d with
 | true=>exact ha pins s1 σ H1 Q I1 q1
 | false=>exact hb pins s1 σ H1 Q I1 q1
end
def b6 (K:PySem.W.Frag) (H:Hp) (a:Addr) (xs:List V):Prop :=
 Rd H a (.lst xs) \/
  ∃(o:Obj) (its:Array Value) (n:Nat),K.lookup a=some o/\o.cls=.type "list"/\o.dict=none/\o.data=.seq its n/\its.size<=sizeLine/\cR xs its.toList
def uu (K:PySem.W.Frag) (H:Hp) (a:Addr) (xs:List V):Prop :=
 Rd H a (.tup xs) \/
  ∃(o:Obj) (its:Array Value) (n:Nat),K.lookup a=some o/\o.cls=.type "tuple"/\o.data=.seq its n/\its.size<=sizeLine/\cR xs its.toList
def R9:Value->Option V
 | .none=>some .non
 | .bool b=>some (.bl b)
 | .int i _=>some (.int i)
 | .str x _=>some (.str x)
 | .bytes b _=>some (.byt b)
 | .float b _=>some (.flt b)
 | .ref a=>some (.ref a)
 | .type n=>some (.ty n)
 | _=>none
theorem RelV.abs {x:V} {u:Value} (r:RelV x u):R9 u=some x:=by
 cases x with
 | non=>cases r;rfl
 | bl _=>cases r;rfl
 | int _=>obtain ⟨t,rfl⟩:=r;rfl
 | str _=>obtain ⟨t,rfl⟩:=r;rfl
 | byt _=>obtain ⟨t,rfl⟩:=r;rfl
 | flt _=>obtain ⟨t,rfl⟩:=r;rfl
 | ref _=>cases r;rfl
 | ty _=>cases r;rfl
theorem RelV.inj {x y:V} {u:Value} (r:RelV x u) (q:RelV y u):x=y:=cv (r.abs.symm.trans q.abs)
theorem cR.inj:∀{xs ys:List V} {us:List Value},cR xs us->cR ys us->xs=ys
 | _,_,_,.nil,.nil=>rfl
 | _,_,_,.cons r t,.cons r' t'=>by rw[r.inj r',cR.inj t t']
section
variable {X:Cx} {pins:List (Addr×Obj)} {σ:St} {H:Hp} {s:Shared} {a:Addr} {xs ys:List V}
theorem b6.of {K:PySem.W.Frag} (h:H a=some (.lst xs)):b6 K H a xs:=.inl (.inl h)
theorem uu.of {K:PySem.W.Frag} (h:H a=some (.tup xs)):uu K H a xs:=.inl (.inl h)
theorem Inv.list (I:Inv X pins σ H s) (h:b6 X.K H a xs):∃its:List Value,cR xs its/\PlainL s.heap a its.toArray/\xs.length<=sizeLine:=by
 rcases h with h | ⟨o,its,n,hk,hc,hd,hs,hz,r⟩
 ·obtain ⟨z,its,n,r,e⟩:=h.ok I.hok;exact ⟨its,r,⟨_,n,e,rfl,rfl,rfl⟩,z⟩
 ·refine ⟨its.toList,r,⟨o,n,I.kIn a o hk,hc,hd,by simpa using hs⟩,?_⟩;have e:=r.length;simp only[Array.length_toList] at e
  lia
theorem Inv.tuple (I:Inv X pins σ H s) (h:uu X.K H a xs):∃its:List Value,cR xs its/\IsTup s.heap a its.toArray/\xs.length<=sizeLine:=by
 rcases h with h | ⟨o,its,n,hk,hc,hs,hz,r⟩
 ·obtain ⟨z,its,r,p⟩:=h.ok I.hok;exact ⟨its,r,p,z⟩
 ·refine ⟨its.toList,r,⟨o,I.kIn a o hk,hc,n,by simpa using hs⟩,?_⟩;have e:=r.length;simp only[Array.length_toList] at e
  lia
theorem Inv.list_inj (I:Inv X pins σ H s) (h:b6 X.K H a xs) (h':b6 X.K H a ys):xs=ys:=by
 obtain ⟨its,r,⟨o,n,e,_,_,d⟩,_⟩:=I.list h;obtain ⟨its',r',⟨o',n',e',_,_,d'⟩,_⟩:=I.list h';rw[e] at e';cases e';rw[d] at d';injection d' with d1 _
 have:its=its':=by simpa using congrArg Array.toList d1
 subst this;exact r.inj r'
theorem Inv.tuple_inj (I:Inv X pins σ H s) (h:uu X.K H a xs) (h':uu X.K H a ys):xs=ys:=by
 obtain ⟨its,r,⟨o,e,_,n,d⟩,_⟩:=I.tuple h;obtain ⟨its',r',⟨o',e',_,n',d'⟩,_⟩:=I.tuple h';rw[e] at e';cases e';rw[d] at d';injection d' with d1 _
 have:its=its':=by simpa using congrArg Array.toList d1
 subst this;exact r.inj r'
end
abbrev Cx.wish (X:Cx) (E:Value->Shared->Prop):Cx:={ X with xe:=E }
abbrev Cx.nox (X:Cx):Cx:=X.wish fun _ _=>False
theorem Cx.Ok.wish {X:Cx} (ok:X.Ok) (E:Value->Shared->Prop):(X.wish E).Ok :=
 ⟨ok.mod,ok.kind,ok.glob,ok.blt,ok.above,ok.inj,ok.has,ok.cab,ok.hd,ok.frames,ok.stk,ok.exf,ok.bs,ok.bsz,ok.noex,ok.exfs,ok.funs,ok.frf⟩
theorem Cx.Ok.unwish {X:Cx} {E:Value->Shared->Prop} (ok:(X.wish E).Ok):X.Ok :=
 ⟨ok.mod,ok.kind,ok.glob,ok.blt,ok.above,ok.inj,ok.has,ok.cab,ok.hd,ok.frames,ok.stk,ok.exf,ok.bs,ok.bsz,ok.noex,ok.exfs,ok.funs,ok.frf⟩
section
variable {X:Cx} {pins:List (Addr×Obj)} {σ:St} {H:Hp} {s:Shared} {E:Value->Shared->Prop}
theorem Inv.wish (I:Inv X pins σ H s) (E:Value->Shared->Prop):Inv (X.wish E) pins σ H s:=⟨I.ok.wish E,I.os,I.bare,I.base,I.loc,I.cell,I.free,I.freeC,I.pin,I.hok,I.len⟩
theorem Inv.unwish (I:Inv (X.wish E) pins σ H s):Inv X pins σ H s:=⟨I.ok.unwish,I.os,I.bare,I.base,I.loc,I.cell,I.free,I.freeC,I.pin,I.hok,I.len⟩
theorem SP.unwish {D:Ends} {f:Flow} {s':Shared} (h:SP (X.wish E) pins D f s'):SP X pins D f s':=by
 cases f with
 | next=>obtain ⟨σ',H',I,q⟩:=h;exact ⟨σ',H',I.unwish,q⟩
 | brk=>obtain ⟨σ',H',I,q⟩:=h;exact ⟨σ',H',I.unwish,q⟩
 | cont=>obtain ⟨σ',H',I,q⟩:=h;exact ⟨σ',H',I.unwish,q⟩
 | ret u=>obtain ⟨v,σ',H',I,r,q⟩:=h;exact ⟨v,σ',H',I.unwish,r,q⟩
theorem GK.nox {st:List Stmt} {t:TS} (h:GK X.nox st t):GK X st t:=fun pins s σ H D I hw =>
 wpAny_mono (h pins s σ H D (I.wish _) hw) (fun _ _ q=>q.unwish) fun _ _ z=>False.elim z
end
section
variable {X:Cx} {st:Stmt} {rest:List Stmt} {t u:TS} {e:Expr} {te:TE} {pos:Pos}
def NB:TS:=fun D σ H=>D.nx σ H
def Qh (t u:TS):TS:=fun D σ H=>t { D with nx:=u D } σ H
theorem b8:GK X [] NB:=fun _ _ σ H _ I h=>wpAny_execs_nil ⟨σ,H,I,h⟩
theorem au (h1:PS X st t) (h2:GK X rest u):GK X (st :: rest) (Qh t u):=by
 intro pins s σ H D I h;refine wpAny_execs_cons (gG (h1 pins s σ H { D with nx:=u D } I h) fun f s1 q=>?_);cases f with
 | next =>
  obtain ⟨σ',H',I',q⟩:=q;exact h2 pins s1 σ' H' D I' q
 | ret v=>exact q
 | brk=>exact q
 | cont=>exact q
theorem aB (h1:PS X st t):GK X [st] t:=by
 intro pins s σ H D I h;refine wpAny_execs_cons (gG (h1 pins s σ H D I h) fun f s1 q=>?_);cases f with
 | next=>exact wpAny_execs_nil q
 | ret v=>exact q
 | brk=>exact q
 | cont=>exact q
theorem Inv.quiet {pins:List (Addr×Obj)} {σ:St} {H:Hp} {s:Shared} (I:Inv X pins σ H s):interactive X.env=false:=by simp [interactive,I.ok.kind]
def ND (te:TE):TS:=fun D σ H=>te σ H fun _ H1=>D.nx σ H1
theorem kK (he:PE X e te) (hs:swapsWith e none pos.line X.env=pure false:=by rfl):PS X (.Expr e pos) (ND te):=by
 intro pins s σ H D I h;exact wpAny_Expr_any (gG (he pins s σ H _ I h) fun v s1 ⟨x,H1,I1,r1,q1⟩=>⟨σ,H1,I1,q1⟩) I.quiet hs
def Qi (te:TE):TS:=fun D σ H=>te σ H D.rt
theorem aX (he:PE X e te):PS X (.Return (some e) pos) (Qi te):=by
 intro pins s σ H D I h;exact wpAny_Return_some (gG (he pins s σ H _ I h) fun v s1 ⟨x,H1,I1,r1,q1⟩=>⟨x,σ,H1,I1,r1,q1⟩)
def Qn (c:TT) (t u:TS):TS:=fun D σ H=>c σ H fun b H1=>if b=true then t D σ H1 else u D σ H1
theorem dn {c:Expr} {a b:List Stmt} {tc:TT} (hc:PT X c tc) (ha:GK X a t) (hb:GK X b u):PS X (.If c a b pos) (Qn tc t u):=by
 intro pins s σ H D I h;refine wpAny_If (gG (hc pins s σ H _ I h) fun d s1 ⟨H1,I1,q1⟩=>?_);cases d with
 | true=>exact ha pins s1 σ H1 D I1 q1
 | false=>exact hb pins s1 σ H1 D I1 q1
end
abbrev TG:=V->St->Hp->(St->Hp->Prop)->Prop
abbrev LP:=List V->St->Hp->(St->Hp->Prop)->Prop
def PG (X:Cx) (target:Expr) (t:TG):Prop :=
 ∀(pins:List (Addr×Obj)) (s:Shared) (σ:St) (H:Hp) (v:V) (u:Value) (Q:St->Hp->Prop),Inv X pins σ H s->RelV v u->t v σ H Q →
  wpAny (model X.prog X.w) X.A (assign target X.env u) (fun _ s'=>∃σ' H',Inv X pins σ' H' s'/\Q σ' H') X.xe s
def Q6 (X:Cx) (ts:List Expr) (t:LP):Prop :=
 ∀(pins:List (Addr×Obj)) (s:Shared) (σ:St) (H:Hp) (vs:List V) (us:List Value) (Q:St->Hp->Prop),Inv X pins σ H s->cR vs us->t vs σ H Q →
  wpAny (model X.prog X.w) X.A (assignInOrder ((assignEach ts X.env).map (·.2)) us) (fun _ s'=>∃σ' H',Inv X pins σ' H' s'/\Q σ' H') X.xe s
abbrev GD:=V->V->V->Hp->(Hp->Prop)->Prop
def PD (X:Cx) (t:GD):Prop :=
 ∀(pins:List (Addr×Obj)) (s:Shared) (σ:St) (H:Hp) (o i v:V) (ov iv u:Value) (Q:Hp->Prop),Inv X pins σ H s->RelV o ov->RelV i iv->RelV v u->t o i v H Q →
  wpAny (model X.prog X.w) X.A (setItem ov iv u) (fun _ s'=>∃H',Inv X pins σ H' s'/\Q H') X.xe s
abbrev Q5:=V->V->Hp->VK->Prop
def PIp (X:Cx) (op:Operator) (t:Q5):Prop :=
 ∀(pins:List (Addr×Obj)) (s:Shared) (σ:St) (H:Hp) (x y:V) (v u:Value) (Q:VK),Inv X pins σ H s->RelV x v->RelV y u->t x y H Q →
  wpAny (model X.prog X.w) X.A (inplaceOp op v u) (EP X pins σ Q) X.xe s
section
variable {X:Cx} {pos:Pos}
def HS (i:Nat):TG:=fun v σ H Q=>Q (σ.set i (some v)) H
theorem aR {i:Nat} {x:Str} (hN:X.N.Nodup) (hi:X.N[i]?=some x:=by exact rfl) (hx:Loc X.env.scope x:=by exact Or.inl rfl) (hf:X.fn x=true\/X.env.scope.names.lookup x=some .local:=by first | exact .inl rfl | exact .inr rfl | assumption):PG X (.Name x pos) (HS i):=by
 intro pins s σ H v u Q I r h;exact wpAny_assign_Name (xv I hN hi hx r (fun s' I'=>⟨_,H,I',h⟩) hf)
def QZ:LP:=fun vs σ H Q=>vs=[]/\Q σ H
def NW (t:TG) (u:LP):LP:=fun vs σ H Q=>∃v r,vs=v :: r/\t v σ H fun σ' H'=>u r σ' H' Q
theorem h9:Q6 X [] QZ:=by
 intro pins s σ H vs us Q I r h;obtain ⟨e,h⟩:=h;subst e;cases r;exact assignInOrder_nil ⟨σ,H,I,h⟩
theorem cx {e:Expr} {es:List Expr} {t:TG} {u:LP} (h1:PG X e t) (h2:Q6 X es u)
  (hs:(assignEach (e :: es) X.env).map (·.2)=assign e X.env :: (assignEach es X.env).map (·.2):=by rfl):Q6 X (e :: es) (NW t u):=by
 intro pins s σ H vs us Q I r h;obtain ⟨v,vr,e1,h⟩:=h;subst e1;cases r with
 | cons r rr =>
  rw[hs];refine assignInOrder_cons (gG (h1 pins s σ H _ _ _ I r h) fun _ s1 ⟨σ1,H1,I1,q1⟩=>?_);exact h2 pins s1 σ1 H1 _ _ Q I1 rr q1
def Pp (K:PySem.W.Frag) (n:Nat) (t:LP):TG:=fun v σ H Q=>∃a xs,v=.ref a/\uu K H a xs/\xs.length=n/\t xs σ H Q
theorem sL {es:List Expr} {k:Nat} {t:LP} {n:Nat} (hc:X.calm=true) (h:Q6 X es t)
  (hn:(assignEach es X.env).length=n:=by rfl) (hst:(assignEach es X.env).findIdx? (·.1)=none:=by rfl):PG X (.Tuple es k pos) (Pp X.K n t):=by
 intro pins s σ H v u Q I r hw;obtain ⟨a,xs,e1,hq,hl,hw⟩:=hw;subst e1;cases r;obtain ⟨its,rv,ht,hz⟩:=I.tuple hq;refine assign_Tuple_tuple (I.ok.hd hc) ht (by simp [hn,<- hl,rv.length]) hst fun h' hx=>?_
 have I1:Inv X pins σ H { s with heap:=h' }:=I.kept (t':=s.toks) fun b o e=>hx b o (ck (Heap.lt_size e)) e
 exact h pins _ σ H xs _ Q I1 (by simpa using rv) hw
def QY (to ti:TE) (t:GD):TG:=fun v σ H Q=>to σ H fun o H1=>ti σ H1 fun i H2=>t o i v H2 fun H3=>Q σ H3
theorem js {o i : Expr} {to ti : TE} {t : GD} (ho : PE X o to) (hi : PE X i ti) (hs : PD X t)
    (ha : ∀ v, assign (.Subscript o i pos) X.env v = (do
      let ov <- holding [v] (eval o X.env)
      let iv <- holding [v, ov] (eval i X.env)
      standAt pos
      holding [v, ov, iv] (setItem ov iv v)
      release [v, ov, iv] []) := by intro _; rfl) : PG X (.Subscript o i pos) (QY to ti t) := by
  intro pins s σ H v u Q I r h;rw [ha];refine wpAny_bind (wpAny_holding (gG (ho pins s σ H _ I h) fun ov s1 ⟨x, H1, I1, r1, q1⟩ => ?_));refine wpAny_bind (wpAny_holding (gG (hi pins s1 σ H1 _ I1 q1) fun iv s2 ⟨y, H2, I2, r2, q2⟩ => ?_));refine wpAny_bind (wpAny_standAt (wpAny_bind (wpAny_holding (gG (hs pins s2 σ H2 x y v ov iv u _ I2 r1 r2 r q2) fun _ s3 ⟨H3, I3, q3⟩ => ?_))));exact wpAny_release ⟨σ, H3, I3, q3⟩
def L4 (te:TE) (g:TG):TS:=fun D σ H=>te σ H fun x H1=>g x σ H1 D.nx
theorem fu {tg e:Expr} {te:TE} {g:TG} (he:PE X e te) (hg:PG X tg g) (hs:swapsWithSole [tg] e pos.line X.env=pure false:=by rfl) (hw:swappedStores [tg] e X.env=pure none:=by rfl)
  (h1:(assignEach [tg] X.env).map (·.2)=[assign tg X.env]:=by rfl):PS X (.Assign [tg] e pos) (L4 te g):=by
 intro pins s σ H D I h;refine wpAny_Assign_stores (gG (he pins s σ H _ I h) fun v s1 ⟨x,H1,I1,r1,q1⟩=>?_) hs hw;rw[h1];exact gG (hg pins s1 σ H1 x v _ I1 r1 q1) fun _ s2 q=>q
theorem bg {i:Nat} {x:Str} {e:Expr} {te:TE} {pos':Pos} (hN:X.N.Nodup) (hi:X.N[i]?=some x) (hx:Loc X.env.scope x) (he:PE X e te) (hs:swapsWith e (some (.Name x pos')) pos.line X.env=pure false:=by rfl) (hf:X.fn x=true\/X.env.scope.names.lookup x=some .local:=by first | exact .inl rfl | exact .inr rfl | assumption) :
  PS X (.Assign [.Name x pos'] e pos) (L4 te (HS i)):=by
 intro pins s σ H D I h;refine wpAny_Assign_Name (gG (he pins s σ H _ I h) fun v s1 ⟨y,H1,I1,r1,q1⟩=>?_) hs;exact xv I1 hN hi hx r1 (fun s2 I2=>⟨_,H1,I2,q1⟩) hf
def Qj (i j:Nat) (ta:TA):TS:=fun D σ H=>ta σ H fun vs H1=>∃v w,vs=[v,w]/\D.nx ((σ.set i (some v)).set j (some w)) H1
theorem Ku {i j : Nat} {x y : Str} {a b : Expr} {ta : TA} {px py pt : Pos} {kt k2 pt2} (hc : X.calm = true) (hN : X.N.Nodup) (hi : X.N[i]? = some x) (hj : X.N[j]? = some y) (hij : i ≠ j)
    (hx : X.env.scope.names.lookup x = some .local) (hy : X.env.scope.names.lookup y = some .local) (ha : PA X [a, b] ta)
    (hw : swappedStores [.Tuple [.Name x px, .Name y py] kt pt] (.Tuple [a, b] k2 pt2) X.env = pure (some [x, y]))
    (hs : swapsWithSole [.Tuple [.Name x px, .Name y py] kt pt] (.Tuple [a, b] k2 pt2) pos.line X.env = pure false := by rfl) :
    PS X (.Assign [.Tuple [.Name x px, .Name y py] kt pt] (.Tuple [a, b] k2 pt2) pos) (Qj i j ta) := by
  intro pins s σ H D I h;rw [exec_Assign_arm];refine wpAny_bind (wpAny_standAt ?_);rw [hs];refine wpAny_bind (wpAny_pure ?_);rw [if_neg (by decide)];refine wpAny_bind (Tuple_ (gG (ha _ pins s σ H _ I h) fun us s1 ⟨vs, H1, I1, r1, q1⟩ => ?_));obtain ⟨v, w, e1, q1⟩ := q1;subst e1
  obtain ⟨u1, u2, rfl, rv, rw'⟩ : ∃ u1 u2, us = [u1, u2] /\ RelV v u1 /\ RelV w u2 := by
    cases r1 with
    | cons p q =>
      cases q with
      | cons p' q' =>
        cases q';exact ⟨_, _, rfl, p, p'⟩
  refine wpAny_newObj_type ?_ (by show 2 ≤ sizeLine; decide);have I2 : Inv X pins σ H1 { s1 with heap := s1.heap.push { cls := .type "tuple", data := .seq [u1, u2].toArray } } := I1.kept (t' := s1.toks) fun b o e => Heap.get?_push_of_some _ e
  rw [hw];refine wpAny_bind (wpAny_pure ?_);show wpAny (model X.prog X.w) X.A (do rule "assign.swapped-stores"; let items <- unpackItems (.ref s1.heap.objs.size) 2 none; assignInOrder [fun v => bindName X.env y v, fun v => bindName X.env x v] items.reverse; pure Flow.next) _ _ _
  refine wpAny_bind (wpAny_rule (wpAny_bind (unpackItems_tuple (items := #[u1, u2]) (I.ok.hd hc) (IsTup.new s1.heap _) fun h' hx' => ?_)));have I3 := I2.kept (h' := h') (t' := s1.toks) fun b o e => hx' b o (ck (Heap.lt_size e)) e
  show wpAny _ _ (assignInOrder [fun v => bindName X.env y v, fun v => bindName X.env x v] [u2, u1] >>= fun _ => pure Flow.next) _ _ _
  refine wpAny_bind (assignInOrder_cons (wpAny_bindName (xv I3 hN hj (.inl hy) rw' (fun s2 I4 => ?_) (.inr hy))));refine assignInOrder_cons (wpAny_bindName (xv I4 hN hi (.inl hx) rv (fun s3 I5 => assignInOrder_nil (wpAny_pure ?_)) (.inr hx)));rw [List.set_comm _ _ (Ne.symm hij)] at I5;exact ⟨_, H1, I5, q1⟩
def NF (to ti te:TE) (tget:V->V->Hp->VK->Prop) (tip:Q5) (tset:GD):TS:=fun D σ H=>to σ H fun o H1=>ti σ H1 fun i H2=>tget o i H2 fun x H3=>te σ H3 fun y H4=>tip x y H4 fun z H5=>tset o i z H5 fun H6=>D.nx σ H6
def Q7 (X:Cx) (t:V->V->Hp->VK->Prop):Prop :=
 ∀(pins:List (Addr×Obj)) (s:Shared) (σ:St) (H:Hp) (o i:V) (ov iv:Value) (Q:VK),Inv X pins σ H s->RelV o ov->RelV i iv->t o i H Q →
  wpAny (model X.prog X.w) X.A (getItem ov iv) (EP X pins σ Q) X.xe s
theorem MS {o i e : Expr} {to ti te : TE} {tget : V → V → Hp → VK → Prop} {tip : Q5} {tset : GD} {op : Operator} {tpos : Pos} (ho : PE X o to) (hi : PE X i ti) (hg : Q7 X tget) (he : PE X e te) (hp : PIp X op tip) (hs : PD X tset)
    (ha : ∀ ov iv new, augStore i ov iv new = (do holding [new, ov, iv] (setItem ov iv new); release [new, ov, iv] []; pure .next) := by intros; rfl) : PS X (.AugAssign (.Subscript o i tpos) op e pos) (NF to ti te tget tip tset) := by
  intro pins s σ H D I h;refine wpAny_AugAssign_SubscriptAny (gG (ho pins s σ H _ I h) fun ov s1 ⟨x1, H1, I1, r1, q1⟩ => ?_) ha;refine gG (hi pins s1 σ H1 _ I1 q1) fun iv s2 ⟨x2, H2, I2, r2, q2⟩ => ?_
  refine gG (hg pins s2 σ H2 x1 x2 ov iv _ I2 r1 r2 q2) fun old s3 ⟨x3, H3, I3, r3, q3⟩ => ?_
  refine gG (he pins s3 σ H3 _ I3 q3) fun v s4 ⟨x4, H4, I4, r4, q4⟩ => ?_
  refine gG (hp pins s4 σ H4 x3 x4 old v _ I4 r3 r4 q4) fun new s5 ⟨x5, H5, I5, r5, q5⟩ => ?_
  exact gG (hs pins s5 σ H5 x1 x2 x5 ov iv new _ I5 r1 r2 r5 q5) fun _ s6 ⟨H6, I6, q6⟩ => ⟨σ, H6, I6, q6⟩
def ipI (f:Int->Int->Int):Q5:=fun x y H Q=>∃i j,x=.int i/\y=.int j/\Q (.int (f i j)) H
theorem Pj:PIp X .Add (ipI fun i j=>i+j):=by
 intro pins s σ H x y v u Q I r1 r2 h;obtain ⟨i,j,e1,e2,q⟩:=h;subst e1;subst e2;obtain ⟨t,rfl⟩:=r1;obtain ⟨t',rfl⟩:=r2;exact iadd_int ⟨.int _,H,I.tok _,⟨_,rfl⟩,q⟩
end
section
variable {X:Cx} {pos:Pos}
def JP (c:TT) (tb:TS):TS:=fun D σ H=>∃W:Nat->St->Hp->Prop,(∃m,W m σ H)/\∀m σ H,W m σ H →
 c σ H fun b H1=>if b=true then ∃N:St->Hp->Prop,(∀σ' H',N σ' H'->∃m',m' < m/\W m' σ' H')/\tb { D with nx:=N,ct:=N,bk:=D.nx } σ H1 else D.nx σ H1
theorem AO {c:Expr} {body:List Stmt} {tc:TT} {tb:TS} (hp:PassesOwn (model X.prog X.w) X.A X.env X.xe) (hc:PT X c tc) (hb:GK X body tb):PS X (.While c body [] pos) (JP tc tb):=by
 intro pins s σ H D I h;obtain ⟨W,⟨m0,w0⟩,turn⟩:=h;refine wpAny_While (codeAny_whileLoop (fun n s'=>∃σ' H',Inv X pins σ' H' s'/\W n σ' H') ?_ m0 ⟨σ,H,I,w0⟩);rintro n s1 ⟨σ1,H1,I1,w1⟩;refine wpAny_passesOwn hp (gG (hc pins s1 σ1 H1 _ I1 (turn n σ1 H1 w1)) fun b s2 ⟨H2,I2,q2⟩=>?_);cases b with
 | true =>
  obtain ⟨N,hN,q2⟩:=q2;rw[if_pos rfl];refine wpAny_passesOwn hp (gG (hb pins s2 σ1 H2 _ I2 q2) fun f s3 q3=>?_);cases f with
  | next =>
   obtain ⟨σ3,H3,I3,n3⟩:=q3;obtain ⟨m',hm,w3⟩:=hN σ3 H3 n3;exact ⟨m',hm,σ3,H3,I3,w3⟩
  | cont =>
   obtain ⟨σ3,H3,I3,n3⟩:=q3;obtain ⟨m',hm,w3⟩:=hN σ3 H3 n3;exact ⟨m',hm,σ3,H3,I3,w3⟩
  | brk=>exact q3
  | ret v=>exact q3
 | false =>
  rw[if_neg bf];exact wpAny_execs_nil ⟨σ1,H2,I2,q2⟩
end
structure It where
 go:Nat->Hp->Prop
 yld:Nat->Hp->V->Hp->Prop
 stop:Nat->Hp->Prop
def mh (X:Cx) (pins:List (Addr×Obj)) (H:Hp) (b:Addr):Prop :=
 H b=none/\b≠X.env.locals/\b∉X.fs/\(b∈X.ex\/X.s₀.heap.objs.size<=b)/\(∀x c,X.env.cells.lookup x=some c->c≠b)/\∀p∈X.pn++pins,p.1≠b
theorem Inv.fpOk {X:Cx} {pins:List (Addr×Obj)} {σ:St} {H H':Hp} {s:Shared} {b:Addr} (I:Inv X pins σ H s) (hb:s.heap.objs.size<=b) (hn:H' b=none):mh X pins H' b:=by
 refine ⟨hn,Ip (bI I.lt hb),I.nofs hb,.inr (ah I.sz hb),fun x c e z=>?_,fun p hp z=>?_⟩
 ·obtain ⟨v,q⟩:=I.cell x c e;exact absurd (bI q.lt (by rw[z];exact hb)) (d9 _)
 ·exact absurd (bI (Heap.lt_size (I.pin p hp).1) (by rw[z];exact hb)) (d9 _)
structure Turn (P:Program) (w:World) (K:PySem.W.Frag) (tg:Expr) (J:It) (fp:List Addr) (it:Addr) (tn:Nat->Heap->Prop):Prop where
 mem:it∈fp
 obj:∀i h,tn i h->∀b∈fp,∃o,h.get? b=some o/\∀v,o.data≠.cell v
 keep:∀i h h',tn i h->(∀b∈fp,∀o,h.get? b=some o->h'.get? b=some o)->tn i h'
 item:∀(X:Cx),X.prog=P->X.w=w->X.K=K->X.calm=true->∀(i:Nat) (pins:List (Addr×Obj)) (s:Shared) (σ:St) (H:Hp) (E:Value->Shared->Prop),Inv X pins σ H s->(∀b∈fp,mh X pins H b)->tn i s.heap->J.go i H →
  wpAny (model P w) X.A (pyNext (.ref it)) (fun r s1=>∃u,r=some u /\
   wpAny (model P w) X.A (letOwnedTupleGo tg (.ref it) u) (fun _ s2=>∃x H',Inv X pins σ H' s2/\RelV x u/\J.yld i H x H'/\tn (i+1) s2.heap/\∀b∈fp,H' b=none) E s1) E s
 done:∀(X:Cx),X.prog=P->X.w=w->X.K=K->X.calm=true->∀(i:Nat) (pins:List (Addr×Obj)) (s:Shared) (σ:St) (H:Hp) (E:Value->Shared->Prop),Inv X pins σ H s->(∀b∈fp,mh X pins H b)->tn i s.heap->J.stop i H →
  wpAny (model P w) X.A (pyNext (.ref it)) (fun r s1=>r=none/\Inv X pins σ H s1) E s
 self:∀(A:Around) (i:Nat) (s:Shared) (Q:Value->Shared->Prop) (E:Value->Shared->Prop),tn i s.heap->Q (.ref it) s->wpAny (model P w) A (pyIter (.ref it)) Q E s
abbrev TI:=St->Hp->(It->Hp->Prop)->Prop
def PIE (X:Cx) (pins:List (Addr×Obj)) (σ:St) (tg:Expr) (R:It->Hp->Prop) (itv:Value) (s2:Shared):Prop :=
 ∃(it:Addr) (fp:List Addr) (tn:Nat->Heap->Prop) (J:It) (H':Hp),itv=.ref it/\Inv X pins σ H' s2/\Turn X.prog X.w X.K tg J fp it tn/\tn 0 s2.heap/\(∀b∈fp,mh X pins H' b)/\R J H'
def PI (X:Cx) (tg iter:Expr) (wi:TI):Prop :=
 ∀(pins:List (Addr×Obj)) (s:Shared) (σ:St) (H:Hp) (R:It->Hp->Prop),Inv X pins σ H s->wi σ H R →
  wpAny (model X.prog X.w) X.A (eval iter X.env) (fun v s1=>wpAny (model X.prog X.w) X.A (pyIter v) (PIE X pins σ tg R) X.xe s1) X.xe s
theorem Lb {M : Model} {A : Around} {E : Value → Shared → Prop} {s : Shared} {tg : Expr} {it : Addr} {u : Value} {o : Obj} {n : String} {vs : Array Value} {Q : Unit → Shared → Prop} (ho : s.heap.get? it = some o) (hc : o.cls = .type n) (hd : o.data = .fields vs)
    (hn : ["enumerate", "zip", "dict_itemiterator", "dict_reverseitemiterator", "odict_iterator", "itertools.zip_longest", "itertools.pairwise"].contains n = false) (hQ : Q () s) : wpAny M A (letOwnedTupleGo tg (.ref it) u) Q E s := by
  unfold letOwnedTupleGo
  cases tg <;> first
    | exact wpAny_pure hQ
    | (cases u <;> first
        | exact wpAny_pure hQ
        | (refine wpAny_bind (wpAny_load ho ?_)
           rw [hc, hd];show wpAny M A (if (["enumerate", "zip", "dict_itemiterator", "dict_reverseitemiterator", "odict_iterator", "itertools.zip_longest", "itertools.pairwise"].contains n && vs[0]? == some (rawInt _)) = true then _ else _) Q E s
           rw [if_neg (by intro h; rw [hn, Bool.false_and] at h; cases h)];exact wpAny_pure hQ))

def Oa (K:PySem.W.Frag) (a:Addr):It :=
 ⟨fun i H=>∃xs x,b6 K H a xs/\xs[i]?=some x,fun i H x H'=>H'=H/\∀xs,b6 K H a xs->xs[i]?=some x,fun i H=>∃xs,b6 K H a xs/\xs.length<=i⟩
def PY (K:PySem.W.Frag) (a:Addr):It :=
 ⟨fun i H=>∃xs x,uu K H a xs/\xs[i]?=some x,fun i H x H'=>H'=H/\∀xs,uu K H a xs->xs[i]?=some x,fun i H=>∃xs,uu K H a xs/\xs.length<=i⟩
def E6 (lo:Int) (n:Nat):It:=⟨fun i _=>i < n,fun i H x H'=>H'=H/\x=.int (lo+i),fun i _=>n<=i⟩
theorem Iw {P:Program} {w:World} {K:PySem.W.Frag} {tg:Expr} (a it:Addr):Turn P w K tg (Oa K a) [it] it (fun i h=>h.IsListIter it a i) where
 mem:=by simp
 obj:=fun i h st b hb=>by
  have e:b=it:=by simpa using hb
  subst e;obtain ⟨o,e,c,d⟩:=st;exact ⟨o,e,fun v z=>by rw[d] at z;cases z⟩
 keep:=fun i h h' st k=>st.at fun o e=>k it (by simp) o e
 item:=by
  intro X hP hw hK hc i pins s σ H E I hf st hg;subst hP hw hK;obtain ⟨xs,x,hq,hx⟩:=hg;obtain ⟨its,rv,p,hz⟩:=I.list hq;obtain ⟨u,hu,ru⟩:=rv.get hx;obtain ⟨f0,f1,f2,f3,f4,f5⟩:=hf it (by simp);refine wpAny_pyNext_list_item st p.isList (x:=u) (by simpa using hu) fun h' st' sb=>?_
  have I1:Inv X pins σ H { s with heap:=h' }:=I.turned (t':=s.toks) (fun b o hb e=>(sb.2 b hb).trans e) f0 f1 f3 f4 f5;obtain ⟨o,e,c,d⟩:=id st';exact ⟨u,rfl,Lb (s:={ s with heap:=h' }) e c d (by decide) ⟨x,H,I1,ru,⟨rfl,fun ys hy=>by rw[I.list_inj hy hq];exact hx⟩,st',fun b hb=>(hf b hb).1⟩⟩
 done:=by
  intro X hP hw hK hc i pins s σ H E I hf st hg;subst hP hw hK;obtain ⟨xs,hq,hx⟩:=hg;obtain ⟨its,rv,p,hz⟩:=I.list hq;obtain ⟨f0,f1,f2,f3,f4,f5⟩:=hf it (by simp);have hl:=rv.length;exact wpAny_pyNext_list_end (I.ok.hd hc) st p.isList (by simp;lia) fun h' eb=>⟨rfl,I.turned (t':=s.toks) (fun b o hb e=>eb b o hb e) f0 f1 f3 f4 f5⟩
 self:=fun _ _ _ _ _ st h=>wpAny_pyIter_listiter st h
theorem Fh {P:Program} {w:World} {K:PySem.W.Frag} {tg:Expr} (a it:Addr):Turn P w K tg (PY K a) [it] it (fun i h=>h.IsTupleIter it a i) where
 mem:=by simp
 obj:=fun i h st b hb=>by
  have e:b=it:=by simpa using hb
  subst e;obtain ⟨o,e,c,d⟩:=st;exact ⟨o,e,fun v z=>by rw[d] at z;cases z⟩
 keep:=fun i h h' st k=>st.at fun o e=>k it (by simp) o e
 item:=by
  intro X hP hw hK hc i pins s σ H E I hf st hg;subst hP hw hK;obtain ⟨xs,x,hq,hx⟩:=hg;obtain ⟨its,rv,p,hz⟩:=I.tuple hq;obtain ⟨u,hu,ru⟩:=rv.get hx;obtain ⟨f0,f1,f2,f3,f4,f5⟩:=hf it (by simp);refine wpAny_pyNext_tuple_item st (show s.heap.IsTuple a its.toArray from p) (x:=u) (by simpa using hu) fun h' st' sb=>?_
  have I1:Inv X pins σ H { s with heap:=h' }:=I.turned (t':=s.toks) (fun b o hb e=>(sb.2 b hb).trans e) f0 f1 f3 f4 f5;obtain ⟨o,e,c,d⟩:=id st';exact ⟨u,rfl,Lb (s:={ s with heap:=h' }) e c d (by decide) ⟨x,H,I1,ru,⟨rfl,fun ys hy=>by rw[I.tuple_inj hy hq];exact hx⟩,st',fun b hb=>(hf b hb).1⟩⟩
 done:=by
  intro X hP hw hK hc i pins s σ H E I hf st hg;subst hP hw hK;obtain ⟨xs,hq,hx⟩:=hg;obtain ⟨its,rv,p,hz⟩:=I.tuple hq;obtain ⟨f0,f1,f2,f3,f4,f5⟩:=hf it (by simp);have hl:=rv.length;exact wpAny_pyNext_tuple_end (I.ok.hd hc) st (show s.heap.IsTuple a its.toArray from p) (by simp;lia) fun h' eb=>⟨rfl,I.turned (t':=s.toks) (fun b o hb e=>eb b o hb e) f0 f1 f3 f4 f5⟩
 self:=fun _ _ _ _ _ st h=>wpAny_pyIter_tupleiter st h
theorem Fi {P:Program} {w:World} {K:PySem.W.Frag} {tg:Expr} (it:Addr) (lo:Int) (n:Nat):Turn P w K tg (E6 lo n) [it] it (fun i h=>IsRangeIter h it (lo+(i:Nat)*1) ((n:Int) - (i:Nat)) 1) where
 mem:=by simp
 obj:=fun i h st b hb=>by
  have e:b=it:=by simpa using hb
  subst e
  exact ⟨_,st,fun v z=>by
   have z':Data.fields _=Data.cell v:=z;cases z'⟩
 keep:=fun i h h' st k=>k it (by simp) _ st
 item:=by
  intro X hP hw hK hc i pins s σ H E I hf st hg;subst hP hw hK;obtain ⟨f0,f1,f2,f3,f4,f5⟩:=hf it (by simp);have W:=Walks.range (prog:=X.prog) (w:=X.w) (I.ok.hd hc) it lo 1 n;refine W.item i s _ _ hg st fun v h' tk hv st' kk=>?_
  obtain ⟨t,rfl⟩:=hv;have I1:Inv X pins σ H { s with heap:=h',toks:=tk }:=I.turned (fun b o hb e=>kk b o (by simpa using hb) e) f0 f1 f3 f4 f5;refine ⟨_,rfl,Lb (s:={ s with heap:=h',toks:=tk }) (n:="range_iterator") st' rfl rfl (by decide) ⟨.int (lo+i),H,I1,⟨t,?_⟩,⟨rfl,rfl⟩,st',fun b hb=>(hf b hb).1⟩⟩;rw[Int.mul_one]
 done:=by
  intro X hP hw hK hc i pins s σ H E I hf st hg;subst hP hw hK;obtain ⟨f0,f1,f2,f3,f4,f5⟩:=hf it (by simp);exact wpAny_pyNext_range_end (I.ok.hd hc) st (by have:n<=i:=hg;lia) fun h' eb=>⟨rfl,I.turned (t':=s.toks) (fun b o hb e=>eb b o hb e) f0 f1 f3 f4 f5⟩
 self:=fun _ _ _ _ _ st h=>wpAny_pyIter_rangeiter st h
section
variable {X:Cx} {tg:Expr}
def K9 (K:PySem.W.Frag) (tl:TE):TI:=fun σ H R=>tl σ H fun x H1=>∃a,x=.ref a/\(∃xs,b6 K H1 a xs)/\R (Oa K a) H1
def QX (K:PySem.W.Frag) (tl:TE):TI:=fun σ H R=>tl σ H fun x H1=>∃a,x=.ref a/\(∃xs,uu K H1 a xs)/\R (PY K a) H1
theorem du {l:Expr} {tl:TE} (hl:PE X l tl):PI X tg l (K9 X.K tl):=by
 intro pins s σ H R I h;refine gG (hl pins s σ H _ I h) fun v s1 ⟨x,H1,I1,r1,q1⟩=>?_
 obtain ⟨a,e,⟨xs,hq⟩,q⟩:=q1;subst e;cases r1;obtain ⟨its,rv,p,hz⟩:=I1.list hq;refine wpAny_pyIter_list p.isList ?_;refine ⟨s1.heap.objs.size,[s1.heap.objs.size],_,_,H1,rfl,I1.kept (t':=s1.toks) fun b o e=>Heap.get?_push_of_some _ e,Iw a _,⟨_,Heap.get?_push_size _ rfl,rfl,rfl⟩,fun b hb=>?_,q⟩;have e:b=s1.heap.objs.size:=by simpa using hb
 subst e;exact I1.fpOk (ar _) (I1.hok.fresh (ar _))
theorem O3 {l:Expr} {tl:TE} (hl:PE X l tl):PI X tg l (QX X.K tl):=by
 intro pins s σ H R I h;refine gG (hl pins s σ H _ I h) fun v s1 ⟨x,H1,I1,r1,q1⟩=>?_
 obtain ⟨a,e,⟨xs,hq⟩,q⟩:=q1;subst e;cases r1;obtain ⟨its,rv,p,hz⟩:=I1.tuple hq;refine wpAny_pyIter_tuple (show s1.heap.IsTuple a its.toArray from p) ?_;refine ⟨s1.heap.objs.size,[s1.heap.objs.size],_,_,H1,rfl,I1.kept (t':=s1.toks) fun b o e=>Heap.get?_push_of_some _ e,Fh a _,⟨_,Heap.get?_push_size _ rfl,rfl,rfl⟩,fun b hb=>?_,q⟩;have e:b=s1.heap.objs.size:=by simpa using hb
 subst e;exact I1.fpOk (ar _) (I1.hok.fresh (ar _))
theorem Et {pins:List (Addr×Obj)} {σ:St} {H:Hp} {s:Shared} {R:It->Hp->Prop} {E:Value->Shared->Prop} {lo hi:Int} {t u v:Tok} {tk:Nat} (I:Inv X pins σ H s) (h1:-(2^62)<=lo) (h2:lo < 2^62) (h3:-(2^62)<=hi) (h4:hi < 2^62)
  (q:R (E6 lo (hi - lo).toNat) H):wpAny (model X.prog X.w) X.A (pyIter (.ref s.heap.objs.size)) (PIE X pins σ tg R) E { s with heap:=s.heap.push { cls:=.type "range",data:=.fields #[.int lo t,.int hi u,.int 1 v] },toks:=tk }:=by
 refine wpAny_pyIter_range (IsRange.new ..) (small_one h1 h2 h3 h4) ?_;have I1:Inv X pins σ H { s with heap:=s.heap.push { cls:=.type "range",data:=.fields #[.int lo t,.int hi u,.int 1 v] },toks:=tk }:=I.kept fun b o e=>Heap.get?_push_of_some _ e
 refine ⟨(s.heap.push { cls:=.type "range",data:=.fields #[.int lo t,.int hi u,.int 1 v] }).objs.size,[(s.heap.push { cls:=.type "range",data:=.fields #[.int lo t,.int hi u,.int 1 v] }).objs.size],_,_,H,rfl,
  I1.kept (t':=tk) fun b o e=>Heap.get?_push_of_some _ e,Fi _ lo (hi - lo).toNat,?_,fun b hb=>?_,q⟩
 ·have e1:lo+((0:Nat):Int)*1=lo:=by simp
  have e2:(((hi - lo).toNat:Nat):Int) - ((0:Nat):Int)=Builtin.Range.rangeSize lo hi 1:=by rw[rangeSize_one];split <;> lia
  show IsRangeIter _ _ (lo+((0:Nat):Int)*1) ((((hi - lo).toNat:Nat):Int) - ((0:Nat):Int)) 1
  rw[e1,e2];exact Heap.get?_push_size _ rfl
 ·have e:b=(s.heap.push { cls:=.type "range",data:=.fields #[.int lo t,.int hi u,.int 1 v] }).objs.size:=by simpa using hb
  subst e;exact I1.fpOk (ar _) (I1.hok.fresh (ar _))
def NT (ta:TA):TI:=fun σ H R=>ta σ H fun vs H1=>∃j:Int,vs=[.int j]/\-(2^62)<=j/\j < 2^62/\R (E6 0 j.toNat) H1
def NS (ta:TA):TI:=fun σ H R=>ta σ H fun vs H1=>∃i j:Int,vs=[.int i,.int j]/\(-(2^62)<=i/\i < 2^62/\-(2^62)<=j/\j < 2^62)/\R (E6 i (j - i).toNat) H1
theorem cy {a:Expr} {ta:TA} {p pos:Pos} (hg:Gl X "range") (hm:X.mg "range"=none) (ha:PA X [a] ta) (hs:starEach [a] X.env=[(false,eval a X.env)]:=by rfl):PI X tg (.Call (.Name "range" p) [a] [] pos) (NT ta):=by
 intro pins s σ H R I h;refine Call_ (md I hg hm boot_range (PyProof.Rows.callWith_type1 (gG (ha pos pins s σ H _ I h) fun us s1 ⟨vs,H1,I1,r1,q1⟩=>?_) hs rfl));obtain ⟨j,e,q1,q2,q⟩:=q1;subst e;cases r1 with
 | cons r rr =>
  cases rr;obtain ⟨t,rfl⟩:=r;exact call_range_1 (Et I1 (by lia) (by lia) q1 q2 (by simpa using q))
theorem Jd {a b:Expr} {ta:TA} {p pos:Pos} (hg:Gl X "range") (hm:X.mg "range"=none) (ha:PA X [a,b] ta) (hs:starEach [a,b] X.env=[(false,eval a X.env),(false,eval b X.env)]:=by rfl) (hs2:starEach [b] X.env=[(false,eval b X.env)]:=by rfl) :
  PI X tg (.Call (.Name "range" p) [a,b] [] pos) (NS ta):=by
 intro pins s σ H R I h;refine Call_ (md I hg hm boot_range (PyProof.Rows.callWith_type1 (gG (ha pos pins s σ H _ I h) fun us s1 ⟨vs,H1,I1,r1,q1⟩=>?_) (by rw[hs,hs2]) (by rw[hs2];rfl)));obtain ⟨i,j,e,⟨q1,q2,q3,q4⟩,q⟩:=q1;subst e;cases r1 with
 | cons r rr =>
  cases rr with
  | cons r' rr =>
   cases rr;obtain ⟨t,rfl⟩:=r;obtain ⟨t',rfl⟩:=r';exact call_range_2 (Et I1 q1 q2 q3 q4 q)
def Qo (wi:TI) (g:TG) (tb:TS):TS:=fun D σ H=>wi σ H fun J H1=>∃W:Nat->Nat->St->Hp->Prop,(∃m,W 0 m σ H1)/\∀i m σ H,W i m σ H →
 (J.stop i H/\D.nx σ H)\/(J.go i H/\∃N:St->Hp->Prop,(∀σ' H',N σ' H'->∃m',m' < m/\W (i+1) m' σ' H')/\∀x H',J.yld i H x H'->g x σ H' fun σ2 H2=>tb { D with nx:=N,ct:=N,bk:=D.nx } σ2 H2)
def AR (fp:List Addr) (h:Heap):List (Addr×Obj):=fp.filterMap fun b=>(h.get? b).map fun o=>(b,o)
theorem sR {fp:List Addr} {h:Heap} {b:Addr} {o:Obj} (hb:b∈fp) (e:h.get? b=some o):(b,o)∈AR fp h:=List.mem_filterMap.mpr ⟨b,hb,by rw[e];rfl⟩
theorem Ji {fp:List Addr} {h:Heap} {p:Addr×Obj} (hp:p∈AR fp h):p.1∈fp/\h.get? p.1=some p.2:=by
 obtain ⟨b,hb,e⟩:=List.mem_filterMap.mp hp;cases q:h.get? b with
 | none=>rw[q] at e;cases e
 | some o =>
  rw[q] at e;have e':(b,o)=p:=cv e;subst e';exact ⟨hb,q⟩
theorem Inv.pinned {pins:List (Addr×Obj)} {σ:St} {H:Hp} {s:Shared} {fp:List Addr} (I:Inv X pins σ H s) (hf:∀b∈fp,mh X pins H b) (ho:∀b∈fp,∃o,s.heap.get? b=some o/\∀v,o.data≠.cell v):Inv X (pins++AR fp s.heap) σ H s :=
 I.pins_of fun p hp=>(ax.mp hp).elim (fun z=>I.pin p (bX _ z)) fun z=>by
  obtain ⟨hb,e⟩:=Ji z;obtain ⟨f0,f1,f2,_⟩:=hf p.1 hb;obtain ⟨o,e',d⟩:=ho p.1 hb;rw[e] at e';cases e';exact ⟨e,f0,f1,f2,d⟩
theorem Inv.unpinned {pins pl:List (Addr×Obj)} {σ:St} {H:Hp} {s:Shared} (I:Inv X (pins++pl) σ H s):Inv X pins σ H s:=I.pins_of fun p hp=>I.pin p (bX _ (ur _ hp))
theorem eE {iter : Expr} {body : List Stmt} {wi : TI} {g : TG} {tb : TS} {pos : Pos} (hp : PassesOwn (model X.prog X.w) X.A X.env X.xe) (hc : X.calm = true) (hi : PI X tg iter wi) (hg : PG X tg g) (hb : GK X body tb)
    (hs : ∀ x, foldedSetIterable iter X.env x = pure x := by intro _; rfl) : PS X (.For tg iter body [] pos) (Qo wi g tb) := by
  intro pins s σ H D I h;refine wpAny_For (gG (hi pins s σ H _ I h) fun v s1 h1 => gG h1 fun itv s2 h2 => ?_) hs;obtain ⟨it, fp, tn, J, H2, e, I2, T, st2, f2, W, ⟨m0, w0⟩, turn⟩ := h2;subst e;have stat : ∀ {H' : Hp}, (∀ b ∈ fp, H' b = none) → ∀ b ∈ fp, mh X pins H' b := fun hn b hb => ⟨hn b hb, (f2 b hb).2⟩
  refine codeAny_forLoop_any (fun n s' => ∃ i σ' H', Inv X pins σ' H' s' /\ tn i s'.heap /\ (∀ b ∈ fp, H' b = none) /\ W i n σ' H') ?_ m0 ⟨0, σ, H2, I2, st2, fun b hb => (f2 b hb).1, w0⟩;rintro n s3 ⟨i, σ3, H3, I3, st3, fr3, w3⟩;rcases turn i n σ3 H3 w3 with ⟨stop, qn⟩ | ⟨go, N, hN, step⟩
  · refine wpAny_passesOwn hp (gG (T.done X rfl rfl rfl hc i pins s3 σ3 H3 X.xe I3 (stat fr3) st3 stop) fun r s4 ⟨hr, I4⟩ => ?_);subst hr;exact wpAny_execs_nil ⟨σ3, H3, I4, qn⟩
  · refine wpAny_passesOwn hp (gG (T.item X rfl rfl rfl hc i pins s3 σ3 H3 X.xe I3 (stat fr3) st3 go) fun r s4 ⟨u, hr, h4⟩ => ?_);subst hr;refine wpAny_passesOwn hp (gG h4 fun _ s5 ⟨x, H5, I5, r5, y5, st5, fr5⟩ => ?_);have I5' := I5.pinned (stat fr5) (T.obj _ _ st5);refine wpAny_passesOwn hp (gG (hg _ s5 σ3 H5 x u _ I5' r5 (step x H5 y5)) fun _ s6 ⟨σ6, H6, I6, q6⟩ => ?_);refine wpAny_passesOwn hp (gG (hb _ s6 σ6 H6 _ I6 q6) fun f s7 q7 => ?_)
    have again : ∀ {σ7 : St} {H7 : Hp}, Inv X (pins ++ AR fp s5.heap) σ7 H7 s7 → N σ7 H7 → ∃ m, m < n /\ ∃ i σ' H', Inv X pins σ' H' s7 /\ tn i s7.heap /\ (∀ b ∈ fp, H' b = none) /\ W i m σ' H' := fun {σ7 H7} I7 n7 => by
      obtain ⟨m', hm, w7⟩ := hN σ7 H7 n7;refine ⟨m', hm, i + 1, σ7, H7, I7.unpinned, T.keep _ _ _ st5 fun b hb o e => (I7.pin (b, o) (bX _ (bX _ (sR hb e)))).1, fun b hb => ?_, w7⟩;obtain ⟨o, e, d⟩ := T.obj _ _ st5 b hb;exact (I7.pin (b, o) (bX _ (bX _ (sR hb e)))).2.1
    cases f with
    | next => obtain ⟨σ7, H7, I7, n7⟩ := q7; exact again I7 n7
    | cont => obtain ⟨σ7, H7, I7, n7⟩ := q7; exact again I7 n7
    | brk => obtain ⟨σ7, H7, I7, q7⟩ := q7; exact ⟨σ7, H7, I7.unpinned, q7⟩
    | ret v => obtain ⟨x7, σ7, H7, I7, r7, q7⟩ := q7; exact ⟨x7, σ7, H7, I7.unpinned, r7, q7⟩
end
theorem kX {K:PySem.W.Frag} {a:Addr} {xs:List V} {g:TG} {tb:TS} {D:Ends} {σ:St} {H:Hp} (Pv:Nat->St->Hp->Prop) (h0:Pv 0 σ H) (hl:∀i σ H,i<=xs.length->Pv i σ H->b6 K H a xs)
  (hs:∀i x σ H,xs[i]?=some x->Pv i σ H->g x σ H fun σ2 H2=>tb { D with nx:=Pv (i+1),ct:=Pv (i+1),bk:=D.nx } σ2 H2) (hd:∀σ H,Pv xs.length σ H->D.nx σ H) :
  ∃W:Nat->Nat->St->Hp->Prop,(∃m,W 0 m σ H)/\∀i m σ H,W i m σ H →
   ((Oa K a).stop i H/\D.nx σ H)\/((Oa K a).go i H/\∃N:St->Hp->Prop,(∀σ' H',N σ' H'->∃m',m' < m/\W (i+1) m' σ' H')/\∀x H',(Oa K a).yld i H x H'->g x σ H' fun σ2 H2=>tb { D with nx:=N,ct:=N,bk:=D.nx } σ2 H2):=by
 refine ⟨fun i m σ H=>m=xs.length - i/\i<=xs.length/\Pv i σ H,⟨xs.length,by simp,bh _,h0⟩,?_⟩;rintro i m σ H ⟨rfl,hi,p⟩;have q:=hl i σ H hi p;by_cases hlt:i < xs.length
 ·refine .inr ⟨⟨xs,xs[i],q,by simp [hlt]⟩,Pv (i+1),fun σ' H' p'=>⟨xs.length - (i+1),by lia,rfl,hlt,p'⟩,fun x H' y=>?_⟩;obtain ⟨e,y⟩:=y;subst e;exact hs i x σ _ (y xs q) p
 ·have e:i=xs.length:=by lia
  subst e;exact .inl ⟨⟨xs,q,ar _⟩,hd σ H p⟩
theorem Nf {K:PySem.W.Frag} {a:Addr} {xs:List V} {g:TG} {tb:TS} {D:Ends} {σ:St} {H:Hp} (Pv:Nat->St->Hp->Prop) (h0:Pv 0 σ H) (hl:∀i σ H,i<=xs.length->Pv i σ H->uu K H a xs)
  (hs:∀i x σ H,xs[i]?=some x->Pv i σ H->g x σ H fun σ2 H2=>tb { D with nx:=Pv (i+1),ct:=Pv (i+1),bk:=D.nx } σ2 H2) (hd:∀σ H,Pv xs.length σ H->D.nx σ H) :
  ∃W:Nat->Nat->St->Hp->Prop,(∃m,W 0 m σ H)/\∀i m σ H,W i m σ H →
   ((PY K a).stop i H/\D.nx σ H)\/((PY K a).go i H/\∃N:St->Hp->Prop,(∀σ' H',N σ' H'->∃m',m' < m/\W (i+1) m' σ' H')/\∀x H',(PY K a).yld i H x H'->g x σ H' fun σ2 H2=>tb { D with nx:=N,ct:=N,bk:=D.nx } σ2 H2):=by
 refine ⟨fun i m σ H=>m=xs.length - i/\i<=xs.length/\Pv i σ H,⟨xs.length,by simp,bh _,h0⟩,?_⟩;rintro i m σ H ⟨rfl,hi,p⟩;have q:=hl i σ H hi p;by_cases hlt:i < xs.length
 ·refine .inr ⟨⟨xs,xs[i],q,by simp [hlt]⟩,Pv (i+1),fun σ' H' p'=>⟨xs.length - (i+1),by lia,rfl,hlt,p'⟩,fun x H' y=>?_⟩;obtain ⟨e,y⟩:=y;subst e;exact hs i x σ _ (y xs q) p
 ·have e:i=xs.length:=by lia
  subst e;exact .inl ⟨⟨xs,q,ar _⟩,hd σ H p⟩
theorem Cv {lo:Int} {n:Nat} {g:TG} {tb:TS} {D:Ends} {σ:St} {H:Hp} (Pv:Nat->St->Hp->Prop) (h0:Pv 0 σ H)
  (hs:∀i σ H,i < n->Pv i σ H->g (.int (lo+i)) σ H fun σ2 H2=>tb { D with nx:=Pv (i+1),ct:=Pv (i+1),bk:=D.nx } σ2 H2) (hd:∀σ H,Pv n σ H->D.nx σ H) :
  ∃W:Nat->Nat->St->Hp->Prop,(∃m,W 0 m σ H)/\∀i m σ H,W i m σ H →
   ((E6 lo n).stop i H/\D.nx σ H)\/((E6 lo n).go i H/\∃N:St->Hp->Prop,(∀σ' H',N σ' H'->∃m',m' < m/\W (i+1) m' σ' H')/\∀x H',(E6 lo n).yld i H x H'->g x σ H' fun σ2 H2=>tb { D with nx:=N,ct:=N,bk:=D.nx } σ2 H2):=by
 refine ⟨fun i m σ H=>m=n - i/\i<=n/\Pv i σ H,⟨n,by simp,bh _,h0⟩,?_⟩;rintro i m σ H ⟨rfl,hi,p⟩;by_cases hlt:i < n
 ·refine .inr ⟨hlt,Pv (i+1),fun σ' H' p'=>⟨n - (i+1),by lia,rfl,hlt,p'⟩,fun x H' y=>?_⟩;obtain ⟨e,y⟩:=y;subst e y;exact hs i σ _ hlt p
 ·have e:i=n:=by lia
  subst e;exact .inl ⟨ar _,hd σ H p⟩
abbrev R2:=V->V->Hp->VK->Prop
def Aj (X:Cx) (f:Value->Value->Sem Value) (r:R2):Prop :=
 ∀(pins:List (Addr×Obj)) (s:Shared) (σ:St) (H:Hp) (x y:V) (v u:Value) (Q:VK),Inv X pins σ H s->RelV x v->RelV y u->r x y H Q →
  wpAny (model X.prog X.w) X.A (f v u) (EP X pins σ Q) X.xe s
def Sb (X:Cx) (f:Value->Sem Value) (r:V->Hp->VK->Prop):Prop :=
 ∀(pins:List (Addr×Obj)) (s:Shared) (σ:St) (H:Hp) (x:V) (v:Value) (Q:VK),Inv X pins σ H s->RelV x v->r x H Q →
  wpAny (model X.prog X.w) X.A (f v) (EP X pins σ Q) X.xe s
def vA (X:Cx) (f:Value) (r:List V->Hp->VK->Prop):Prop :=
 ∀(pins:List (Addr×Obj)) (s:Shared) (σ:St) (H:Hp) (xs:List V) (us:List Value) (Q:VK),Inv X pins σ H s->cR xs us->r xs H Q →
  wpAny (model X.prog X.w) X.A (call f us) (EP X pins σ Q) X.xe s
def Qk (r:R2) (ta tb:TE):TE:=fun σ H Q=>ta σ H fun x H1=>tb σ H1 fun y H2=>r x y H2 Q
def RA (r:V->Hp->VK->Prop) (ta:TE):TE:=fun σ H Q=>ta σ H fun x H1=>r x H1 Q
def rI (C:Int->Int->Prop) (g:Int->Int->V):R2:=fun x y H Q=>∃i j,x=.int i/\y=.int j/\C i j/\Q (g i j) H
def MO (g:Int->Int->V):R2:=fun x y H Q=>∃i j,x=.int i/\y=.int j/\Q (g i j) H
def rU (g:Int->V):V->Hp->VK->Prop:=fun x H Q=>∃i,x=.int i/\Q (g i) H
section
variable {X:Cx} {a b c:Expr} {ta tb tc:TE} {pos:Pos}
theorem Py (ha:PE X a ta) (hb:PE X b tb) {pins:List (Addr×Obj)} {s:Shared} {σ:St} {H:Hp} {R:V->V->Hp->Prop} (I:Inv X pins σ H s)
  (h:ta σ H fun x H1=>tb σ H1 fun y H2=>R x y H2) {Q:Value->Shared->Prop} {f:Value->Value->Sem Value}
  (hf:∀v u s2 x y H2,Inv X pins σ H2 s2->RelV x v->RelV y u->R x y H2->wpAny (model X.prog X.w) X.A (f v u) Q X.xe s2) :
  wpAny (model X.prog X.w) X.A (eval a X.env) (fun v s₁=>wpAny (model X.prog X.w) X.A (eval b X.env) (fun u s₂=>wpAny (model X.prog X.w) X.A (f v u) Q X.xe s₂) X.xe s₁) X.xe s:=by
 refine gG (ha pins s σ H _ I h) fun v s1 ⟨x,H1,I1,r1,q1⟩=>?_
 refine gG (hb pins s1 σ H1 _ I1 q1) fun u s2 ⟨y,H2,I2,r2,q2⟩=>?_
 exact hf v u s2 x y H2 I2 r1 r2 q2
theorem bW {op:Operator} {r:R2} (ho:Aj X (binaryOp op) r) (ha:PE X a ta) (hb:PE X b tb):PE X (.BinOp a op b pos) (Qk r ta tb):=by
 intro pins s σ H Q I h;exact wpAny_BinOp (Py ha hb I h fun v u s2 x y H2 I2 rx ry q=>ho pins s2 σ H2 x y v u Q I2 rx ry q)
theorem zg {op:UnaryOp} {r:V->Hp->VK->Prop} (ho:Sb X (unaryOp op) r) (ha:PE X a ta):PE X (.UnaryOp op a pos) (RA r ta):=by
 intro pins s σ H Q I h;exact UnaryOp_ (gG (ha pins s σ H _ I h) fun v s1 ⟨x,H1,I1,r1,q1⟩=>ho pins s1 σ H1 x v Q I1 r1 q1)
theorem RB {f:Value->Value->Sem Value} {C:Int->Int->Prop} {g:Int->Int->Int}
  (rule:∀(i j:Int) (t u:Tok) (s:Shared) (Q:Value->Shared->Prop) (E:Value->Shared->Prop),C i j->Q (.int (g i j) s.toks) { s with toks:=s.toks+1 }->wpAny (model X.prog X.w) X.A (f (.int i t) (.int j u)) Q E s) :
  Aj X f (rI C fun i j=>.int (g i j)):=by
 intro pins s σ H x y v u Q I rx ry h;obtain ⟨i,j,rfl,rfl,hc,q⟩:=h;obtain ⟨t,rfl⟩:=rx;obtain ⟨t',rfl⟩:=ry;exact rule i j t t' s _ _ hc ⟨.int (g i j),H,I.tok _,⟨_,rfl⟩,q⟩
theorem QN {f:Value->Value->Sem Value} {g:Int->Int->Int}
  (rule:∀(i j:Int) (t u:Tok) (s:Shared) (Q:Value->Shared->Prop) (E:Value->Shared->Prop),Q (.int (g i j) s.toks) { s with toks:=s.toks+1 }->wpAny (model X.prog X.w) X.A (f (.int i t) (.int j u)) Q E s) :
  Aj X f (MO fun i j=>.int (g i j)):=by
 intro pins s σ H x y v u Q I rx ry h;obtain ⟨i,j,rfl,rfl,q⟩:=h;obtain ⟨t,rfl⟩:=rx;obtain ⟨t',rfl⟩:=ry;exact rule i j t t' s _ _ ⟨.int (g i j),H,I.tok _,⟨_,rfl⟩,q⟩
theorem MZ {f:Value->Value->Sem Value} {g:Int->Int->Bool}
  (rule:∀(i j:Int) (t u:Tok) (s:Shared) (Q:Value->Shared->Prop) (E:Value->Shared->Prop),Q (.bool (g i j)) s->wpAny (model X.prog X.w) X.A (f (.int i t) (.int j u)) Q E s) :
  Aj X f (MO fun i j=>.bl (g i j)):=by
 intro pins s σ H x y v u Q I rx ry h;obtain ⟨i,j,rfl,rfl,q⟩:=h;obtain ⟨t,rfl⟩:=rx;obtain ⟨t',rfl⟩:=ry;exact rule i j t t' s _ _ ⟨.bl (g i j),H,I,rfl,q⟩
def PL (i j:Int):Prop:=(-(2^64) < i/\i < 2^64)\/(-(2^64) < j/\j < 2^64)
theorem PL.ok {i j:Int} (h:PL i j):IntMulOk i j:=by
 rcases h with ⟨h1,h2⟩ | ⟨h1,h2⟩
 ·exact .of_left (intBits_le_64 h1 h2)
 ·exact .of_right (intBits_le_64 h1 h2)
theorem gY:Aj X (binaryOp .Add) (MO fun i j=>.int (i+j)):=QN fun _ _ _ _ _ _ _ q=>add_int q
theorem pE:Aj X (binaryOp .Sub) (MO fun i j=>.int (i - j)):=QN fun _ _ _ _ _ _ _ q=>sub_int q
theorem rj:Aj X (binaryOp .Mod) (rI (fun _ j=>0 < j) fun i j=>.int (i % j)):=RB fun i j _ _ _ _ _ hc q=>by
 have h1:(0:Int) < j:=hc;exact mod_int' (by lia) (by rw[Int.fmod_eq_emod_of_nonneg i (by lia)];exact q)
theorem MY:Aj X (binaryOp .Mod) (rI (fun _ j=>j≠0) fun i j=>.int (i.fmod j)):=RB fun _ _ _ _ _ _ _ hc q=>mod_int' hc q
theorem unI {f:Value->Sem Value} {g:Int->Int}
  (rule:∀(i:Int) (t:Tok) (s:Shared) (Q:Value->Shared->Prop) (E:Value->Shared->Prop),Q (.int (g i) s.toks) { s with toks:=s.toks+1 }->wpAny (model X.prog X.w) X.A (f (.int i t)) Q E s) :
  Sb X f (rU fun i=>.int (g i)):=by
 intro pins s σ H x v Q I rx h;obtain ⟨i,rfl,q⟩:=h;obtain ⟨t,rfl⟩:=rx;exact rule i t s _ _ ⟨.int (g i),H,I.tok _,⟨_,rfl⟩,q⟩
theorem uy:Sb X (unaryOp .USub) (rU fun i=>.int (-i)):=unI fun _ _ _ _ _ q=>neg_int q
end
def Qu:V->V->Bool
 | .non,.non=>true | .non,.int _=>true | .int _,.non=>true | .non,.bl _=>true | .bl _,.non=>true | .non,.str _=>true | .str _,.non=>true
 | .int _,.int _=>true | .bl _,.bl _=>true | .str _,.str _=>true | .byt _,.byt _=>true
 | .int _,.str _=>true | .str _,.int _=>true | .bl _,.str _=>true | .str _,.bl _=>true
 | _,_=>false
def RW:R2:=fun x y H Q=>Qu x y=true/\Q (.bl (decide (x=y))) H
def RU:R2:=fun x y H Q=>Qu x y=true/\Q (.bl (!decide (x=y))) H
theorem HZ {i j:Int}:decide (V.int i=V.int j)=(i == j):=by
 rw[oU];simp
theorem Ls {i j:Bool}:decide (V.bl i=V.bl j)=(i == j):=by
 rw[oU];simp
theorem HY {i j:Str}:decide (V.str i=V.str j)=(i == j):=by
 rw[oU];simp
theorem Ia {i j:Array UInt8}:decide (V.byt i=V.byt j)=(i.toList == j.toList):=by
 rw[oU];cases i;cases j;simp
section
variable {X:Cx} {a b c:Expr} {ta tb tc:TE} {pos:Pos}
theorem dF {pins:List (Addr×Obj)} {σ:St} {H:Hp} {s:Shared} {Q:VK} {k k':Bool} (I:Inv X pins σ H s) (q:Q (.bl k) H) (e:k=k'):EP X pins σ Q (.bool k') s:=by
 subst e;exact ⟨.bl k,H,I,rfl,q⟩
theorem eQ:Aj X (compareOp .Eq) RW:=by
 intro pins s σ H x y v u Q I rx ry h;obtain ⟨hs,q⟩:=h;cases x with
 | non =>
  cases rx;cases y with
  | non=>cases ry;exact PySem.EqNone.eq_none_none (dF I q (by simp))
  | bl j=>cases ry;exact PySem.EqNone.eq_none_bool (dF I q (by simp))
  | int j=>obtain ⟨t',rfl⟩:=ry;exact PySem.EqNone.eq_none_int (dF I q (by simp))
  | str j=>obtain ⟨t',rfl⟩:=ry;exact PySem.EqNone.eq_none_str (dF I q (by simp))
  | _=>exact absurd (show false=true from hs) bf
 | bl i =>
  cases rx;cases y with
  | non=>cases ry;exact PySem.EqNone.eq_bool_none (dF I q (by simp))
  | bl j=>cases ry;exact eq_bool (dF I q Ls)
  | str j=>obtain ⟨t',rfl⟩:=ry;exact PySem.EqMixed.eq_bool_str (dF I q (by simp))
  | _=>exact absurd (show false=true from hs) bf
 | int i =>
  obtain ⟨t,rfl⟩:=rx;cases y with
  | non=>cases ry;exact PySem.EqNone.eq_int_none (dF I q (by simp))
  | int j=>obtain ⟨t',rfl⟩:=ry;exact eq_int (dF I q HZ)
  | str j=>obtain ⟨t',rfl⟩:=ry;exact PySem.EqMixed.eq_int_str (dF I q (by simp))
  | _=>exact absurd (show false=true from hs) bf
 | str i =>
  obtain ⟨t,rfl⟩:=rx;cases y with
  | non=>cases ry;exact PySem.EqNone.eq_str_none (dF I q (by simp))
  | bl j=>cases ry;exact PySem.EqMixed.eq_str_bool (dF I q (by simp))
  | int j=>obtain ⟨t',rfl⟩:=ry;exact PySem.EqMixed.eq_str_int (dF I q (by simp))
  | str j=>obtain ⟨t',rfl⟩:=ry;exact eq_str (dF I q HY)
  | _=>exact absurd (show false=true from hs) bf
 | byt i =>
  obtain ⟨t,rfl⟩:=rx;cases y with
  | byt j=>obtain ⟨t',rfl⟩:=ry;exact PySem.W.eq_bytes (dF I q Ia)
  | _=>exact absurd (show false=true from hs) bf
 | _=>cases y <;> exact absurd (show false=true from hs) bf
theorem wC:Aj X (compareOp .NotEq) RU:=by
 intro pins s σ H x y v u Q I rx ry h;obtain ⟨hs,q⟩:=h;cases x with
 | non =>
  cases rx;cases y with
  | non=>cases ry;exact PySem.EqNone.ne_none_none (dF I q (by simp))
  | bl j=>cases ry;exact PySem.EqNone.ne_none_bool (dF I q (by simp))
  | int j=>obtain ⟨t',rfl⟩:=ry;exact PySem.EqNone.ne_none_int (dF I q (by simp))
  | str j=>obtain ⟨t',rfl⟩:=ry;exact PySem.EqNone.ne_none_str (dF I q (by simp))
  | _=>exact absurd (show false=true from hs) bf
 | bl i =>
  cases rx;cases y with
  | non=>cases ry;exact PySem.EqNone.ne_bool_none (dF I q (by simp))
  | bl j=>cases ry;exact ne_bool (dF I q (congrArg not Ls))
  | str j=>obtain ⟨t',rfl⟩:=ry;exact PySem.EqMixed.ne_bool_str (dF I q (by simp))
  | _=>exact absurd (show false=true from hs) bf
 | int i =>
  obtain ⟨t,rfl⟩:=rx;cases y with
  | non=>cases ry;exact PySem.EqNone.ne_int_none (dF I q (by simp))
  | int j=>obtain ⟨t',rfl⟩:=ry;exact ne_int (dF I q (congrArg not HZ))
  | str j=>obtain ⟨t',rfl⟩:=ry;exact PySem.EqMixed.ne_int_str (dF I q (by simp))
  | _=>exact absurd (show false=true from hs) bf
 | str i =>
  obtain ⟨t,rfl⟩:=rx;cases y with
  | non=>cases ry;exact PySem.EqNone.ne_str_none (dF I q (by simp))
  | bl j=>cases ry;exact PySem.EqMixed.ne_str_bool (dF I q (by simp))
  | int j=>obtain ⟨t',rfl⟩:=ry;exact PySem.EqMixed.ne_str_int (dF I q (by simp))
  | str j=>obtain ⟨t',rfl⟩:=ry;exact ne_str (dF I q (congrArg not HY))
  | _=>exact absurd (show false=true from hs) bf
 | byt i =>
  obtain ⟨t,rfl⟩:=rx;cases y with
  | byt j=>obtain ⟨t',rfl⟩:=ry;exact PySem.W.ne_bytes (dF I q (congrArg not Ia))
  | _=>exact absurd (show false=true from hs) bf
 | _=>cases y <;> exact absurd (show false=true from hs) bf
theorem wD:Aj X (compareOp .Lt) (MO fun i j=>.bl (decide (i < j))):=MZ fun _ _ _ _ _ _ _ q=>lt_int q
theorem QM:Aj X (compareOp .LtE) (MO fun i j=>.bl (decide (i<=j))):=MZ fun _ _ _ _ _ _ _ q=>le_int q
theorem wF:Aj X (compareOp .Gt) (MO fun i j=>.bl (decide (j < i))):=MZ fun _ _ _ _ _ _ _ q=>gt_int q
theorem Cm:Aj X (compareOp .GtE) (MO fun i j=>.bl (decide (j<=i))):=MZ fun _ _ _ _ _ _ _ q=>ge_int q
theorem HF:Aj X (compareOp .IsNot) (fun x y H Q=>y=.non/\Q (.bl (!decide (x=.non))) H):=by
 intro pins s σ H x y v u Q I rx ry h;obtain ⟨rfl,q⟩:=h;cases ry;refine isnot_none_gen (dF I q ?_)
 cases x <;> first
  | (cases rx;rfl)
  | (obtain ⟨t,rfl⟩:=rx;rfl)
theorem bJ (b:Expr) {op:CmpOp} (h:op≠.In:=by decide) (h2:op≠.NotIn:=by decide):behindInMarks op b=false:=by
 have e1:(op == CmpOp.In)=false:=by cases op <;> first | rfl | exact absurd rfl h
 have e2:(op == CmpOp.NotIn)=false:=by cases op <;> first | rfl | exact absurd rfl h2
 cases b <;> simp [behindInMarks,e1,e2]
theorem kL {op:CmpOp} {r:R2} (ho:Aj X (compareOp op) r) (ha:PE X a ta) (hb:PE X b tb) (hm:behindInMarks op b=false):PE X (.Compare a [op] [b] pos) (Qk r ta tb):=by
 intro pins s σ H Q I h;exact wpAny_Compare1 (Py ha hb I h fun v u s2 x y H2 I2 rx ry q=>ho pins s2 σ H2 x y v u Q I2 rx ry q) hm
def Ny (t:TE):TT:=fun σ H Q=>t σ H fun x H'=>∃k,x=.bl k/\Q k H'
theorem bu {op:CmpOp} {r:R2} (ho:Aj X (compareOp op) r) (ha:PE X a ta) (hb:PE X b tb) (hm:behindInMarks op b=false):PT X (.Compare a [op] [b] pos) (Ny (Qk r ta tb)):=by
 intro pins s σ H Q I h
 refine wpAny_isTrue_Compare1 (gG (ha pins s σ H _ I h) fun v s1 ⟨x,H1,I1,r1,q1⟩=>gG (hb pins s1 σ H1 _ I1 q1) fun u s2 ⟨y,H2,I2,r2,q2⟩ =>
  gG (ho pins s2 σ H2 x y v u _ I2 r1 r2 q2) fun c s3 ⟨z,H3,I3,r3,k,e,q3⟩=>?_) hm
 subst e;cases r3;exact wpAny_truthy_bool ⟨H3,I3,q3⟩
theorem Bl:(sizeLine:Nat) < 2^63:=by rw[sizeLine_eq];decide
theorem vals1 {x:V} {us:List Value} (r:cR [x] us):∃u,us=[u]/\RelV x u:=by
 cases r with
 | cons r1 r2=>cases r2;exact ⟨_,rfl,r1⟩
theorem vals2 {x y:V} {us:List Value} (r:cR [x,y] us):∃u w',us=[u,w']/\RelV x u/\RelV y w':=by
 cases r with
 | cons r1 r2 =>
  cases r2 with
  | cons r3 r4=>cases r4;exact ⟨_,_,rfl,r1,r3⟩
theorem Bv:vA X (.builtin "abs") (fun xs H Q=>∃i,xs=[.int i]/\Q (.int (if i < 0 then -i else i)) H):=by
 intro pins s σ H xs us Q I r h;obtain ⟨i,rfl,q⟩:=h;obtain ⟨u,rfl,t,rfl⟩:=vals1 r;exact call_abs_int fun u tk=>⟨.int (if i < 0 then -i else i),H,I.tok _,⟨_,rfl⟩,q⟩
theorem rW (hc:X.calm=true):vA X (.builtin "min") (fun xs H Q=>∃i j,xs=[.int i,.int j]/\Q (.int (if j < i then j else i)) H):=by
 intro pins s σ H xs us Q I r h;obtain ⟨i,j,rfl,q⟩:=h;obtain ⟨u,w',rfl,⟨t,rfl⟩,⟨t',rfl⟩⟩:=vals2 r;refine min_two_ints (I.ok.hd hc) fun h' tk k=>⟨_,H,I.kept k,?_,q⟩
 by_cases hj:j < i
 ·rw[if_pos hj,if_pos hj];exact ⟨_,rfl⟩
 ·rw[if_neg hj,if_neg hj];exact ⟨_,rfl⟩
end
structure GN (h:Heap) (x dx C:Addr) (mA:Str->Option Value):Prop where
 obj:h.get? x=some (PySem.W.instObj C dx)
 ns:h.Ns1 dx mA
 ne:dx≠x
theorem Jo {h:Heap} {dx:Addr} {mA:Str->Option Value} (n:h.Ns1 dx mA):∃od,h.get? dx=some od/\∀name,PySem.W.lookIn name od=some (mA name):=by
 obtain ⟨o,es,ep,ho,hd,hk,_,hm⟩:=n;refine ⟨o,ho,fun name=>?_⟩;have e:=hm name;unfold nsFind findBy at e;rw[<- Array.find?_toList] at e;unfold PySem.W.lookIn;rw[hd]
 dsimp only
 split
 ·rename_i y q
  rw[q] at e;exact congrArg some e
 ·rename_i q
  rw[q] at e
  have a:es.toList.any (·.refKey)=false:=by
   rw[List.any_eq_false];intro y hy;obtain ⟨z,t,hkey⟩:=hk y (Array.mem_toList_iff.mp hy);simp [DictEntry.refKey,hkey]
  have a':¬es.toList.any (·.refKey)=true:=by rw[a];exact bf
  rw[if_neg a'];exact congrArg some e
theorem GN.look {h:Heap} {x dx C:Addr} {mA:Str->Option Value} (I:GN h x dx C mA):∃od,PySem.W.InstAt h x (PySem.W.instObj C dx) C (some od)/\∀name,PySem.W.lookIn name od=some (mA name) :=
 let ⟨od,ho,hl⟩:=Jo I.ns
 ⟨od,⟨I.obj,rfl,rfl,ho⟩,hl⟩
section
variable {prog:Program} {w:World} {A:Around} {E:Value->Shared->Prop} {s:Shared} {K:PySem.W.Frag} {x dx C f:Addr} {mA:Str->Option Value} {name:Str} {v:Value}
theorem get_map {expr:Bool} {Q:Value->Shared->Prop} (X:K.In s.heap) (I:GN s.heap x dx C mA) (hg:PySem.W.plainGet K C name=true) (hh:PySem.W.hasDictIn K C=true)
  (ha:PySem.W.findIn K (.ref C) name=some none) (hv:mA name=some v) (hv':PySem.W.handedIn v=true) (h:Q v { s with toks:=s.toks+1 }) :
  wpAny (model prog w) A (getAttr (.ref x) name expr) Q E s:=by
 obtain ⟨od,J,hl⟩:=I.look;exact PySem.W.get_value X J (D8 hg).1 (PySem.W.findObj_own hh ha rfl (by rw[hl,hv])) hv' h
theorem Lc {pl:Sem Bool} {Q:Value×List Value->Shared->Prop} (X:K.In s.heap) (I:GN s.heap x dx C mA) (hg:PySem.W.plainGet K C name=true)
  (hf:PySem.W.findIn K (.ref C) name=some (some (.ref f))) (ht:PySem.W.isFn K (.ref f)=true) (hv:mA name=none) (h:Q (.ref f,[.ref x]) s) :
  wpAny (model prog w) A (getMethod (.ref x) name pl) Q E s:=by
 obtain ⟨od,J,hl⟩:=I.look;exact PySem.W.method_fn X J (D8 hg).1 (D8 hg).2 hf (beq_iff_eq.mp ht) (by show (PySem.W.lookIn name od).map (·.isSome)=some false;rw[hl,hv];rfl) h
theorem Mj {ns:List Str} {Q:Unit->Shared->Prop} (X:K.In s.heap) (I:GN s.heap x dx C mA)
  (hs:PySem.W.findIn K (.ref C) "__setattr__"=some (some (.builtin "object.__setattr__"))) (hp:PySem.W.plainOver K C=true) (ht:PySem.W.takerIn K C name=some none) (hh:PySem.W.hasDictIn K C=true)
  (hw:PySem.Within mA ns) (hsz:ns.length<=sizeLine)
  (h:∀h',GN h' x dx C (fun y=>if y=name then some v else mA y)->Heap.SameBut dx s.heap h'->Q () { s with heap:=h',toks:=s.toks+2 }) :
  wpAny (model prog w) A (setAttr (.ref x) name v) Q E s:=by
 obtain ⟨od,J,hl⟩:=I.look;refine PySem.W.set_plain X J hs (PySem.W.osa_open (s:={ s with toks:=s.toks+1 }) (r:=none) X J hp ht fun b=>?_);obtain ⟨cd,hc,hd'⟩:=PySem.W.any_some hh;have hx:s.heap.get? x=some ⟨.ref C,some dx,.plain,#[]⟩:=I.obj;refine wpAny_bind (wpAny_pure (wpAny_bind (wpAny_bind (wpAny_loadPart hx (wpAny_bind (PySem.W.Looks.here (s:={ s with toks:=s.toks+1 }) (PySem.W.looks_clsIn X hc) ?_))))));rw[hd'];refine wpAny_pure (a:=some dx) (wpAny_bind (wpAny_pure (wpAny_bind ?_)));refine wpAny_nsSet1 (s:={ s with toks:=s.toks+1 }) I.ns fun h' hn2 hs2=>?_
 obtain ⟨oD,esD,epD,hoD,hdD,hcD⟩:=hn2.count (PySem.Within.cons name v hw);refine wpAny_bind (wpAny_lookBehind hoD (by rw[hdD];exact pastItsLine_dict (ah hcD (by rw[aZ];lia))) ?_);exact wpAny_pure (h _ ⟨(hs2.2 _ (Ne.symm I.ne)).trans I.obj,hn2,I.ne⟩ hs2)
theorem KR {R:Result->Shared->Prop} {vs:List Value} {kw:List (Str×Value)} (X:K.In s.heap) (hm:PySem.W.makesIn K C=true)
  (hi:PySem.W.findIn K (.ref C) "__init__"=some (some (.ref f))) (hf:PySem.W.typeIn K (.ref f)=some (.type "function"))
  (h:codeAny (model prog w) (A.under (.builtin "type.__call__" ⟨.ref C :: vs,kw⟩)) (.call (.ref f) ⟨.ref (s.heap.objs.size+1) :: vs,kw⟩) (PySem.W.InitBack (s.heap.objs.size+1) R)
   { s with heap:=(s.heap.push PySem.W.emptyDict).push (PySem.W.instObj C s.heap.objs.size) }) :
  codeAny (model prog w) A (.call (.ref C) ⟨vs,kw⟩) R s:=by
 obtain ⟨hh,g,d,t,os⟩:=s;exact PySem.W.make_core (PySem.W.makes_of X hm) (PySem.W.looks_findIn X hi) (fun self=>PySem.W.bind_fn X self hf) (.inl rfl) h
end
def cz (f:Str) (v:V):List (Str×V)->List (Str×V)
 | []=>[(f,v)]
 | (g,x) :: r=>if g=f then (g,v) :: r else (g,x) :: cz f v r
theorem bB (f g:Str) (v:V):∀fs:List (Str×V),(cz f v fs).lookup g=if g=f then some v else fs.lookup g
 | []=>by
  show List.lookup g [(f,v)]=_
  by_cases h:g=f
  ·have hb:(g == f)=true:=beq_iff_eq.mpr h;simp only[List.lookup,hb,if_pos h]
  ·have hb:(g == f)=false:=beq_eq_false_iff_ne.mpr h;simp only[List.lookup,hb,if_neg h]
 | (k,x) :: r=>by
  have ih:=bB f g v r;rw[show cz f v ((k,x) :: r)=(if k=f then (k,v) :: r else (k,x) :: cz f v r) from rfl];by_cases hk:k=f
  ·rw[if_pos hk];by_cases h:g=k
   ·have hb:(g == k)=true:=beq_iff_eq.mpr h;simp only[List.lookup,hb,if_pos (h.trans hk)]
   ·have hb:(g == k)=false:=beq_eq_false_iff_ne.mpr h;simp only[List.lookup,hb,if_neg (fun e:g=f=>h (e.trans hk.symm))]
  ·rw[if_neg hk];by_cases h:g=k
   ·have hb:(g == k)=true:=beq_iff_eq.mpr h;simp only[List.lookup,hb,if_neg (fun e:g=f=>hk (h.symm.trans e))]
   ·have hb:(g == k)=false:=beq_eq_false_iff_ne.mpr h;simp only[List.lookup,hb];exact ih
theorem yR (f:Str) (v:V):∀fs:List (Str×V),f∈(cz f v fs).map (·.1)/\∀g,g∈fs.map (·.1)->g∈(cz f v fs).map (·.1)
 | []=>⟨by simp [cz],fun g h=>by simp at h⟩
 | (k,x) :: r=>by
  obtain ⟨i1,i2⟩:=yR f v r;rw[show cz f v ((k,x) :: r)=(if k=f then (k,v) :: r else (k,x) :: cz f v r) from rfl];by_cases hk:k=f
  ·rw[if_pos hk];subst hk;exact ⟨by simp,fun g h=>by simpa using h⟩
  ·rw[if_neg hk];refine ⟨?_,fun g h=>?_⟩
   ·rw[ir];exact bV _ i1
   ·rw[ir] at h ⊢;rcases aJ.mp h with e | e
    ·exact aJ.mpr (.inl e)
    ·exact bV _ (i2 g e)
theorem zo (f:Str) (v:V):∀fs:List (Str×V),(cz f v fs).length<=fs.length+1
 | []=>by simp [cz]
 | (k,x) :: r=>by
  have ih:=zo f v r;rw[show cz f v ((k,x) :: r)=(if k=f then (k,v) :: r else (k,x) :: cz f v r) from rfl];by_cases hk:k=f
  ·rw[if_pos hk,aZ,aZ];lia
  ·rw[if_neg hk,aZ,aZ];lia
theorem Ca.some_of {v:V} {o:Option Value} (r:Ca (some v) o):∃u,o=some u/\RelV v u:=by
 cases o with
 | none=>exact (show False from r).elim
 | some u=>exact ⟨u,rfl,r⟩
theorem Ca.none_of {o:Option Value} (r:Ca none o):o=none:=by
 cases o with
 | none=>rfl
 | some u=>exact (show False from r).elim
theorem Ju {v:V} {u:Value} (r:RelV v u):PySem.W.handedIn u=true:=by
 cases v with
 | non=>cases (show u=Value.none from r);rfl
 | bl b=>cases (show u=Value.bool b from r);rfl
 | int i=>obtain ⟨t,e⟩:=(show ∃t,u=Value.int i t from r);cases e;rfl
 | str x=>obtain ⟨t,e⟩:=(show ∃t,u=Value.str x t from r);cases e;rfl
 | byt b=>obtain ⟨t,e⟩:=(show ∃t,u=Value.bytes b t from r);cases e;rfl
 | flt b=>obtain ⟨t,e⟩:=(show ∃t,u=Value.float b t from r);cases e;rfl
 | ref a=>cases (show u=Value.ref a from r);rfl
 | ty n=>cases (show u=Value.type n from r);rfl
section
variable {P:Program} {w:World} {H H':Hp} {h h':Heap} {a C dx:Addr} {fs fs':List (Str×V)}
theorem Aa (hok:Ak P w H h) (e:H a=some (.ins C dx fs)):∃mA,GN h a dx C mA/\(∀f,Ca (fs.lookup f) (mA f))/\PySem.Within mA (fs.map (·.1))/\fs.length<=1000/\H dx=some (.own a):=by
 obtain ⟨d,z,ne,ob,mA,n,r,q⟩:=(show kv P w H h a (.ins C dx fs) from hok a _ e);exact ⟨mA,⟨ob,n,ne⟩,r,q,z,d⟩
end
structure JD (K:PySem.W.Frag) (C:Addr):Prop where
 pg:PySem.W.plainGet K C Str.empty=true
 hd:PySem.W.hasDictIn K C=true
 po:PySem.W.plainOver K C=true
 sa:PySem.W.findIn K (.ref C) "__setattr__"=some (some (.builtin "object.__setattr__"))
theorem JD.get {K:PySem.W.Frag} {C:Addr} (c:JD K C) (f:Str):PySem.W.plainGet K C f=true:=c.pg
def lG (K:PySem.W.Frag) (C:Addr) (f:Str):Prop:=PySem.W.findIn K (.ref C) f=some none
theorem lG.taker {K:PySem.W.Frag} {C:Addr} {f:Str} (n:lG K C f):PySem.W.takerIn K C f=some none:=by
 unfold PySem.W.takerIn;rw[show PySem.W.findIn K (.ref C) f=some none from n];rfl
structure LI (K:PySem.W.Frag) (C:Addr) (m:Str) (f:Addr):Prop where
 at_:PySem.W.findIn K (.ref C) m=some (some (.ref f))
 fn:PySem.W.isFn K (.ref f)=true
 kp:PySem.W.keepIn K (.ref f)=true
section
variable {X:Cx} {pins:List (Addr×Obj)} {σ:St} {H:Hp} {s:Shared} {a C dx:Addr} {fs:List (Str×V)} {f:Str} {v:V} {A:Around} {E:Value->Shared->Prop}
theorem Gu {b:Bool} {Q:Value->Shared->Prop} (I:Inv X pins σ H s) (e:H a=some (.ins C dx fs)) (c:JD X.K C) (n:lG X.K C f) (l:fs.lookup f=some v)
  (h:∀u s',Inv X pins σ H s'->RelV v u->Q u s'):wpAny (model X.prog X.w) A (getAttr (.ref a) f b) Q E s:=by
 obtain ⟨mA,O,r,_,_,_⟩:=Aa I.hok e;obtain ⟨u,hu,ru⟩:=Ca.some_of (v:=v) (o:=mA f) (by rw[<- l];exact r f);exact get_map I.kIn O (c.get f) c.hd n hu (Ju ru) (h u _ (I.tok _) ru)
theorem Bp {m:Str} {g:Addr} {pl:Sem Bool} {Q:Value×List Value->Shared->Prop} (I:Inv X pins σ H s) (e:H a=some (.ins C dx fs)) (c:JD X.K C) (k:LI X.K C m g) (l:fs.lookup m=none)
  (h:Q (.ref g,[.ref a]) s):wpAny (model X.prog X.w) A (getMethod (.ref a) m pl) Q E s:=by
 obtain ⟨mA,O,r,_,_,_⟩:=Aa I.hok e;have hn:mA m=none:=Ca.none_of (by rw[<- l];exact r m);exact Lc I.kIn O (c.get m) k.at_ k.fn hn h
theorem FC {y:V} {u:Value} {Q:Unit->Shared->Prop} (I:Inv X pins σ H s) (e:H a=some (.ins C dx fs)) (c:JD X.K C) (n:lG X.K C f) (hl:fs.length < 1000) (ry:RelV y u)
  (h:∀s',Inv X pins σ (upd H a (.ins C dx (cz f y fs))) s'->Q () s'):wpAny (model X.prog X.w) A (setAttr (.ref a) f u) Q E s:=by
 obtain ⟨mA,O,r,wi,_,ho⟩:=Aa I.hok e;have hz:(fs.map (·.1)).length<=sizeLine:=by rw[ak,sizeLine_eq];lia
 refine Mj I.kIn O c.sa c.po n.taker c.hd wi hz fun h' O' sb=>h _ ?_
 have hd:∃o,h'.get? dx=some o:=let ⟨o,_,_,e',_⟩:=O'.ns;⟨o,e'⟩
 refine I.write (x:=a) (e:=dx) (by rw[e];exact True.intro) (.inr ho) (fun b q hb z=>(sb.2 b hb).trans z) hd ?_;refine ⟨by rw[bA O.ne];exact ho,?_,O.ne,O'.obj,_,O'.ns,fun g=>?_,fun g hg=>?_⟩
 ·have:=zo f y fs;lia
 ·show Ca ((cz f y fs).lookup g) (if g=f then some u else mA g)
  rw[bB];by_cases q:g=f
  ·rw[if_pos q,if_pos q];exact ry
  ·rw[if_neg q,if_neg q];exact r g
 ·by_cases q:g=f
  ·rw[q];exact (yR f y fs).1
  ·refine (yR f y fs).2 g (wi g fun z=>hg ?_);show (if g=f then some u else mA g)=none
   rw[if_neg q];exact z
theorem Inv.made (I:Inv X pins σ H s):Inv X pins σ (upd (upd H s.heap.objs.size (.own (s.heap.objs.size+1))) (s.heap.objs.size+1) (.ins C s.heap.objs.size []))
  { s with heap:=(s.heap.push PySem.W.emptyDict).push (PySem.W.instObj C s.heap.objs.size) }:=by
 have e1:(s.heap.push PySem.W.emptyDict).get? s.heap.objs.size=some PySem.W.emptyDict:=Heap.get?_push_size s.heap rfl
 have e2:((s.heap.push PySem.W.emptyDict).push (PySem.W.instObj C s.heap.objs.size)).get? (s.heap.objs.size+1)=some (PySem.W.instObj C s.heap.objs.size):=by
  have:=Heap.get?_push_size (s.heap.push PySem.W.emptyDict) (o:=PySem.W.instObj C s.heap.objs.size) rfl;rwa [Heap.size_push] at this
 have e3:(s.heap.push PySem.W.emptyDict).Ns s.heap.objs.size (fun _=>none):=⟨PySem.W.emptyDict,#[],_,e1,rfl,(fun e he=>absurd he (by simp)),fun _=>rfl⟩;have I1:=I.laid (a:=s.heap.objs.size) (o:=.own (s.heap.objs.size+1)) (h':=s.heap.push PySem.W.emptyDict) (t':=s.toks) (fun b u q=>Heap.get?_push_of_some _ q) (ar _) ⟨_,e1⟩;refine I1.laid (a:=s.heap.objs.size+1) (o:=.ins C s.heap.objs.size []) (t':=s.toks) (fun b u q=>Heap.get?_push_of_some _ q) (Nat.le_of_eq (Heap.size_push _ _)) ?_;have ne:s.heap.objs.size≠s.heap.objs.size+1:=ck (jq _);refine ⟨by rw[bA ne,aQ],bh _,ne,e2,fun _=>none,(Heap.Ns1.of_empty e3).at fun o q=>Heap.get?_push_of_some _ q,fun _=>True.intro,fun y hy=>absurd rfl hy⟩
theorem Nv {prog:Program} {w:World} {env:Env} {e:Expr} {f:Str} {pos:Pos} {s:Shared} {Q:Value->Shared->Prop} (hb:attributeBase e f env (eval e env)=eval e env)
  (h:wpAny (model prog w) A (eval e env) (fun o s₁=>wpAny (model prog w) A (getAttr o f true) Q E s₁) E s):wpAny (model prog w) A (eval (.Attribute e f pos) env) Q E s :=
 Attribute_any_ h (by rw[arm_eval_Attribute,hb])
end
def Ol (K:PySem.W.Frag) (ta:TE) (f:Str):TE:=fun σ H Q=>ta σ H fun x H1=>∃a C dx fs v,x=.ref a/\H1 a=some (.ins C dx fs)/\JD K C/\lG K C f/\fs.lookup f=some v/\Q v H1
def Qv (K:PySem.W.Frag) (ta tv:TE) (f:Str):TS:=fun D σ H=>tv σ H fun y H1=>ta σ H1 fun x H2=>∃a C dx fs,x=.ref a/\H2 a=some (.ins C dx fs)/\JD K C/\lG K C f/\fs.length < 1000 /\
 D.nx σ (upd H2 a (.ins C dx (cz f y fs)))
section
variable {X:Cx} {o e value:Expr} {f:Str} {pos pos' tpos:Pos} {ta tv:TE}
theorem gB (he:PE X e ta) (hb:attributeBase e f X.env (eval e X.env)=eval e X.env):PE X (.Attribute e f pos) (Ol X.K ta f):=by
 intro pins s σ H Q I h;refine Nv hb (gG (he pins s σ H _ I h) fun u s1 ⟨x,H1,I1,rx,a,C,dx,fs,v,ex,ea,c,n,l,q⟩=>?_);subst ex;obtain rfl:u=Value.ref a:=rx;exact Gu I1 ea c n l fun u' s2 I2 ru=>⟨v,H1,I2,ru,q⟩
theorem yI (ha:PE X o ta) (hv:PE X value tv) (hs:swapsWith value (some (.Attribute o f pos')) pos.line X.env=pure false):PS X (.Assign [.Attribute o f pos'] value pos) (Qv X.K ta tv f):=by
 intro pins s σ H D I h;refine plainObj_wpAny_Assign_Attribute (gG (hv pins s σ H _ I h) fun u s1 ⟨y,H1,I1,ry,q⟩=>gG (ha pins s1 σ H1 _ I1 q) fun ov s2 ⟨x,H2,I2,rx,a,C,dx,fs,ex,ea,c,n,l,q2⟩=>?_) hs;subst ex;obtain rfl:ov=Value.ref a:=rx;exact FC I2 ea c n l ry fun s3 I3=>⟨σ,_,I3,q2⟩
end
section
variable {X:Cx} {pins:List (Addr×Obj)} {σ:St} {H:Hp} {s:Shared} {A:Around} {E:Value->Shared->Prop} {Q:Value->Shared->Prop} {c:Value} {b:Bool}
inductive y8 (K:PySem.W.Frag) (H:Hp):V->Value->Prop where
 | non:y8 K H .non (.type "NoneType")
 | bl (x:Bool):y8 K H (.bl x) (.type "bool")
 | int (i:Int):y8 K H (.int i) (.type "int")
 | str (x:Str):y8 K H (.str x) (.type "str")
 | flt (x:UInt64):y8 K H (.flt x) (.type "float")
 | lst {a:Addr} {xs:List V} (e:H a=some (.lst xs)):y8 K H (.ref a) (.type "list")
 | frz {a:Addr} {o:Obj} {xs:List V} (e:H a=some (.frz o (.lst xs))):y8 K H (.ref a) (.type "list")
 | tup {a:Addr} {xs:List V} (e:H a=some (.tup xs)):y8 K H (.ref a) (.type "tuple")
 | dK {a:Addr} {kvs:List (Key×V)} (e:H a=some (.dK kvs)):y8 K H (.ref a) (.type "dict")
 | dT {a:Addr} {kvs:List (List Key×V)} (e:H a=some (.dT kvs)):y8 K H (.ref a) (.type "dict")
 | ins {a C dx:Addr} {fs:List (Str×V)} (e:H a=some (.ins C dx fs)) (cl:JD K C) (ha:PySem.W.findIn K (.ref C) "__class__"=some (some (.builtin "object.__class__")))
   (hn:PySem.W.specialIn K (.builtin "object.__class__") "__get__"=some (some (.builtin "getset_descriptor.__get__"))) (htk:PySem.W.takesIn K (.builtin "object.__class__")=some true)
   (hm:PySem.W.mroIn K C (.type "object")=some true):y8 K H (.ref a) (.ref C)
theorem Cu {x:V} {u t:Value} (I:Inv X pins σ H s) (rx:RelV x u) (ty:y8 X.K H x t) (e:PySem.W.kitOne X.K t c=some b) (h:∀tk,Q (.bool b) { s with toks:=tk }) :
  wpAny (model X.prog X.w) A (call (.builtin "isinstance") [u,c]) Q E s:=by
 cases ty with
 | non=>cases (show u=Value.none from rx);exact dG PySem.W.kitx_none I.kIn True.intro e (fun z=>nomatch z) h
 | bl y=>cases (show u=Value.bool y from rx);exact dG PySem.W.kitx_bool I.kIn True.intro e (fun z=>nomatch z) h
 | int i=>obtain ⟨t,q⟩:=(show ∃t,u=Value.int i t from rx);cases q;exact dG PySem.W.kitx_int I.kIn True.intro e (fun z=>nomatch z) h
 | str y=>obtain ⟨t,q⟩:=(show ∃t,u=Value.str y t from rx);cases q;exact dG PySem.W.kitx_str I.kIn True.intro e (fun z=>nomatch z) h
 | flt y=>obtain ⟨t,q⟩:=(show ∃t,u=Value.float y t from rx);cases q;exact dG PySem.W.kitx_float I.kIn True.intro e (fun z=>nomatch z) h
 | @lst a xs ea =>
  cases (show u=Value.ref a from rx);obtain ⟨_,_,n,_,h1⟩:=(show kv X.prog X.w H s.heap a (.lst xs) from I.hok a _ ea);exact dG PySem.W.kitx_list I.kIn ⟨_,h1,rfl⟩ e (fun z=>nomatch z) h
 | @frz a ob xs ea =>
  cases (show u=Value.ref a from rx);obtain ⟨_,_,_,n,_,h1⟩:=(show kv X.prog X.w H s.heap a (.frz ob (.lst xs)) from I.hok a _ ea);exact dG PySem.W.kitx_list I.kIn ⟨_,h1,rfl⟩ e (fun z=>nomatch z) h
 | @tup a xs ea =>
  cases (show u=Value.ref a from rx);obtain ⟨_,_,_,p⟩:=(show kv X.prog X.w H s.heap a (.tup xs) from I.hok a _ ea);obtain ⟨o,h1,h2,_⟩:=p;exact dG PySem.W.kitx_tuple I.kIn ⟨o,h1,h2⟩ e (fun z=>nomatch z) h
 | @dK a kvs ea =>
  cases (show u=Value.ref a from rx);obtain ⟨_,_,vs,_,p⟩:=(show kv X.prog X.w H s.heap a (.dK kvs) from I.hok a _ ea);obtain ⟨o,es,ep,h1,h2,_⟩:=p;exact dG PySem.W.kitx_dict I.kIn ⟨o,h1,h2.1⟩ e (fun z=>nomatch z) h
 | @dT a kvs ea =>
  cases (show u=Value.ref a from rx);obtain ⟨_,_,xs,_,o,es,ep,h1,h2,_⟩:=(show kv X.prog X.w H s.heap a (.dT kvs) from I.hok a _ ea);exact dG PySem.W.kitx_dict I.kIn ⟨o,h1,h2.1⟩ e (fun z=>nomatch z) h
 | @ins a C dx fs ea cl ha hn htk hm =>
  cases (show u=Value.ref a from rx);obtain ⟨mA,O,_⟩:=Aa I.hok ea;obtain ⟨od,J,_⟩:=O.look;exact dG (PySem.W.kitx_own (cl.get _) cl.hd ha hn htk hm) I.kIn J e (fun z=>nomatch z) h
end
structure nH (k:Nat) (A:Around):Prop where
 hd:A.handled=none
 dp:A.depth+3*k+5 < recursionLimit
 un:A.units+16*k+200 < cLine
theorem nH.mono {j k:Nat} {A:Around} (r:nH k A) (h:j<=k):nH j A:=⟨r.hd,by have:=r.dp;lia,by have:=r.un;lia⟩
theorem nH.deeper {k:Nat} {A:Around} (r:nH (k+1) A) (env:Env):nH k (A.deeper env) :=
 ⟨r.hd,by have:=r.dp;show A.depth+1+3*k+5 < _;lia,by have:=r.un;show A.units+3+16*k+200 < _;lia⟩
theorem Gh {A:Around} {C:Addr} {us:List Value} {kw:List (Str×Value)}:(A.under (.builtin "type.__call__" ⟨.ref C :: us,kw⟩)).depth=A.depth+1:=by
 first | rfl | simp [Around.under,Code.weight,Code.isCreation,Code.isGuard,Code.isCaller,Code.frames,Code.isFrame,guardIds]
theorem Gg {A:Around} {C:Addr} {us:List Value} {kw:List (Str×Value)}:(A.under (.builtin "type.__call__" ⟨.ref C :: us,kw⟩)).units=A.units+1:=by
 first | rfl | simp [Around.under,Code.cUnits,Code.frames,Code.isFrame]
theorem nH.make {k:Nat} {A:Around} (r:nH (k+1) A) (C:Addr) (us:List Value) (kw:List (Str×Value)):nH k (A.under (.builtin "type.__call__" ⟨.ref C :: us,kw⟩)) :=
 ⟨r.hd,by have:=r.dp;rw[Gh];lia,by have:=r.un;rw[Gg];lia⟩
theorem nH.depth {k:Nat} {A:Around} (r:nH k A):A.depth < recursionLimit:=by have:=r.dp;lia
theorem nH.units {k:Nat} {A:Around} (r:nH k A):A.units+64 < cLine:=by have:=r.un;lia
def Fj:TA:=fun _ H Q=>Q [] H
def uA (ta:TE) (tr:TA):TA:=fun σ H Q=>ta σ H fun x H1=>tr σ H1 fun xs H2=>Q (x :: xs) H2
section
variable {X:Cx} {e:Expr} {es:List Expr} {te:TE} {t:TA} {pos:Pos}
theorem aj:PA X [] Fj:=fun _ _ _ _ H Q I h=>Calls.spliced_nil ⟨[],H,I,.nil,h⟩
theorem ae (ha:PE X e te) (hr:PA X es t) (hs:starEach (e :: es) X.env=(false,eval e X.env) :: starEach es X.env:=by rfl):PA X (e :: es) (uA te t):=by
 intro pos pins s σ H Q I h;rw[hs];show wpAny _ _ (spliced ((false,eval e X.env) :: backTo pos (starEach es X.env))) _ _ s
 refine Calls.spliced_cons (gG (ha pins s σ H _ I h) fun u s1 ⟨x,H1,I1,r1,q1⟩=>?_);exact gG (hr pos pins s1 σ H1 _ I1 q1) fun us s2 ⟨xs,H2,I2,r2,q2⟩=>⟨x :: xs,H2,I2,.cons r1 r2,q2⟩
def Qf (t:TA):TE:=fun σ H Q=>t σ H fun xs H1=>xs.length<=sizeLine/\∀p,H1 p=none->Q (.ref p) (upd H1 p (.tup xs))
def Qm (t:TA):TE:=fun σ H Q=>t σ H fun xs H1=>xs.length<=sizeLine/\∀p,H1 p=none->Q (.ref p) (upd H1 p (.lst xs))
theorem dA {x1} (h:PA X es t):PE X (.Tuple es x1 pos) (Qf t):=by
 intro pins s σ H Q I hq;refine wpAny_Tuple_spliced (gG (h pos pins s σ H _ I hq) fun us s1 ⟨xs,H1,I1,r,z,q⟩=>⟨by rw[<- r.length];exact z,?_⟩);have hf:H1 s1.heap.objs.size=none:=I1.hok.fresh (ar _);refine ⟨.ref s1.heap.objs.size,upd H1 s1.heap.objs.size (.tup xs),I1.laid (t':=s1.toks) (fun b u e=>Heap.get?_push_of_some _ e) (ar _) ?_,rfl,q _ hf⟩;exact ⟨z,us,r,⟨_,Heap.get?_push_size _ rfl,rfl,_,rfl⟩⟩
theorem fv (h:PA X es t):PE X (.List es pos) (Qm t):=by
 intro pins s σ H Q I hq;refine wpAny_List_spliced (gG (h pos pins s σ H _ I hq) fun us s1 ⟨xs,H1,I1,r,z,q⟩=>⟨by rw[<- r.length];exact z,?_⟩);have hf:H1 s1.heap.objs.size=none:=I1.hok.fresh (ar _);refine ⟨.ref s1.heap.objs.size,upd H1 s1.heap.objs.size (.lst xs),I1.laid (t':=s1.toks) (fun b u e=>Heap.get?_push_of_some _ e) (ar _) ?_,rfl,q _ hf⟩;exact ⟨z,us,0,r,Heap.get?_push_size _ rfl⟩
end
abbrev Sp:=List V->Hp->VK->XK->Prop
abbrev LQ:=List Env->Hp->Shared->XK->Value->Shared->Prop
structure GQ (P:Program) (w:World) (K:PySem.W.Frag) (mg:Str->Option Value) (base:Heap) (A:Around) (outer:List Env) (s:Shared) (H:Hp):Prop where
 frames:A.frames=some outer
 mod:Mod K mg base
 bs:∀b o,base.get? b=some o->s.heap.get? b=some o/\H b=none
 bsz:base.objs.size<=s.heap.objs.size
 funs:s.heap.FunFrames base outer
 frf:∀b∈JG outer,H b=none
 hok:Ak P w H s.heap
 bare:AllBare s.gens
def CE (outer:List Env) (P:Program) (w:World) (H:Hp) (s:Shared) (Q:VK) (u:Value) (s':Shared):Prop :=
 ∃v H',s'.os=s.os/\AllBare s'.gens/\Un (JG outer) [] H H' s.heap s'.heap/\Ak P w H' s'.heap/\RelV v u/\Q v H'
def CR (CX:LQ) (outer:List Env) (P:Program) (w:World) (H:Hp) (s:Shared) (Q:VK) (E:XK) (r:Result) (s':Shared):Prop :=
 match r with
 | .ok (.ret u)=>CE outer P w H s Q u s'
 | .ok _=>False
 | .error e=>CX outer H s E e s'
structure cN (P:Program) (w:World) (K:PySem.W.Frag) (mg:Str->Option Value) (base:Heap) (CX:LQ) (k:Nat) (f:Addr) (fd:FuncData) (ps:List Str) (sp:Sp):Prop where
 len:∀vs H Q E,sp vs H Q E->vs.length=ps.length
 run:∀(A:Around) (outer:List Env) (s:Shared) (H:Hp) (args:Args) (us:List Value) (vs:List V) (Q:VK) (E:XK),nH k A->GQ P w K mg base A outer s H->BindsTo s fd args (ps.zip us)->cR vs us->sp vs H Q E →
  codeAny (model P w) A (.call (.ref f) args) (CR CX outer P w H s Q E) s
theorem GQ.make {P:Program} {w:World} {K:PySem.W.Frag} {mg:Str->Option Value} {base:Heap} {A:Around} {outer:List Env} {s:Shared} {H:Hp} (e:GQ P w K mg base A outer s H) (C:Addr) (us:List Value) (kw:List (Str×Value)) :
  GQ P w K mg base (A.under (.builtin "type.__call__" ⟨.ref C :: us,kw⟩)) outer s H:=⟨by first | exact e.frames | (simpa [Around.under,Code.envs,Code.isFrame,pushEnvs] using e.frames),e.mod,e.bs,e.bsz,e.funs,e.frf,e.hok,e.bare⟩
section
variable {X:Cx} {pins:List (Addr×Obj)} {σ:St} {H:Hp} {s s':Shared}
theorem Inv.env0 (I:Inv X pins σ H s):GQ X.prog X.w X.K X.mg X.base X.A X.stack s H :=
 ⟨I.ok.frames,I.ok.mod,I.bs,ah I.ok.bsz I.sz,I.stack,I.stkFree,I.hok,I.bare⟩
theorem Inv.after {Q:VK} {u:Value} (I:Inv X pins σ H s) (h:CE X.stack X.prog X.w H s Q u s'):EP X pins σ Q u s':=by
 obtain ⟨v,H',os,bare,un,hok,r,q⟩:=h;obtain ⟨hh,g,d,t,os'⟩:=s';obtain rfl:os'=s.os:=os;exact ⟨v,H',I.call (h':=hh) (g':=g) (d':=d) (t':=t) (ch:=[]) un hok bare (fun b z=>absurd z (by simp)),r,q⟩
end
def JR (sp:Sp) (dvs:List V) (E:XK) (t:TA):TE:=fun σ H Q=>t σ H fun vs H1=>sp (vs++dvs) H1 Q E
def JQ (C:Addr) (m:Str) (sp:Sp) (dvs:List V) (E:XK) (ta:TE) (t:TA):TE:=fun σ H Q=>ta σ H fun x H1=>∃a dx fs,x=.ref a/\H1 a=some (.ins C dx fs)/\fs.lookup m=none /\
 t σ H1 fun vs H2=>sp (x :: (vs++dvs)) H2 Q E
def NC (C:Addr) (sp:Sp) (dvs:List V) (E:XK) (t:TA):TE:=fun σ H Q=>t σ H fun vs H1=>∀x dx,H1 x=none->H1 dx=none->dx≠x →
 sp (.ref x :: (vs++dvs)) (upd (upd H1 dx (.own x)) x (.ins C dx [])) (fun v H2=>v=.non/\Q (.ref x) H2) E
def Binds (K:PySem.W.Frag) (fd:FuncData) (ps:List Str) (ds:List Value):Prop :=
 ∀(s:Shared) (us:List Value),K.In s.heap->(us++ds).length=ps.length->BindsTo s fd ⟨us,[]⟩ (ps.zip (us++ds))
theorem Binds.all {K:PySem.W.Frag} {fd:FuncData} {ps:List Str} (h:∀us:List Value,us.length=ps.length->bindArgs fd ⟨us,[]⟩=pure (ps.zip us)):Binds K fd ps []:=fun s us _ hl=>by
 rw[ux] at hl ⊢;exact .of_eq (h us hl)
def xo (CX:LQ) (X:Cx) (E:XK):Prop:=∀(pins:List (Addr×Obj)) (σ:St) (H:Hp) (s:Shared) (e:Value) (s':Shared),Inv X pins σ H s->CX X.stack H s E e s'->X.xe e s'
section
variable {X:Cx} {CX:LQ} {k:Nat} {f C:Addr} {fd:FuncData} {ps:List Str} {sp:Sp} {dvs:List V} {ds:List Value} {E:XK} {x m:Str} {p pos apos:Pos} {e o:Expr} {es:List Expr} {ta:TE} {t:TA}
theorem FH {pins:List (Addr×Obj)} {σ:St} {H:Hp} {s:Shared} {Q:VK} {us:List Value} {vs:List V} (F:cN X.prog X.w X.K X.mg X.base CX k f fd ps sp) (hr:nH k X.A) (hb:Binds X.K fd ps ds) (hd:cR dvs ds) (hx:xo CX X E)
  (I:Inv X pins σ H s) (r:cR vs us) (h:sp (vs++dvs) H Q E):wpAny (model X.prog X.w) X.A (call (.ref f) us) (EP X pins σ Q) X.xe s:=by
 have r2:cR (vs++dvs) (us++ds):=r.append hd;have hl:(us++ds).length=ps.length:=by rw[<- r2.length];exact F.len _ _ _ _ h
 refine wpAny_call (codeAny_mono (F.run X.A X.stack s H ⟨us,[]⟩ (us++ds) (vs++dvs) Q E hr I.env0 (hb s us I.kIn hl) r2 h) fun r s' hq=>?_);cases r with
 | error e=>exact hx pins σ H s e s' I hq
 | ok fl =>
  cases fl with
  | ret u=>exact I.after hq
  | next=>exact False.elim hq
  | brk=>exact False.elim hq
  | cont=>exact False.elim hq
theorem MX (F:cN X.prog X.w X.K X.mg X.base CX k f fd ps sp) (hr:nH k X.A) (hg:Gl X x) (hm:X.mg x=some (.ref f)) (hk:PySem.W.keepIn X.K (.ref f)=true) (hb:Binds X.K fd ps ds) (hd:cR dvs ds) (hx:xo CX X E)
  (ha:PA X (e :: es) t) (hdb:(x == ("__debug__":Str))=false:=by decide) (he:starEach (e :: es) X.env=(false,eval e X.env) :: starEach es X.env:=by rfl) (hpl:(backTo pos (starEach es X.env)).any (·.1)=false:=by rfl) :
  PE X (.Call (.Name x p) (e :: es) [] pos) (JR sp dvs E t):=by
 intro pins s σ H Q I h;refine wpAny_Call_Name_kw (Dz I hg hm ?_ hdb);refine Fc (h₀:=X.base) I.ok.mod.kin hk (gG (ha pos pins s σ H _ I h) fun us s1 ⟨vs,H1,I1,r,q⟩=>⟨I1.kIn,?_⟩) he hpl;exact FH F hr hb hd hx I1 r q
theorem MW {pl : Sem Bool} (he : PE X o ta) (c : JD X.K C) (hm : LI X.K C m f) (F : cN X.prog X.w X.K X.mg X.base CX k f fd ps sp) (hr : nH k X.A) (hb : Binds X.K fd ps ds) (hd : cR dvs ds) (hx : xo CX X E) (ha : PA X (e :: es) t)
    (hst : starEach (e :: es) X.env = (false, eval e X.env) :: starEach es X.env := by rfl) (hpl : (backTo pos (starEach es X.env)).any (·.1) = false := by rfl)
    (ht : eval (.Call (.Attribute o m apos) (e :: es) [] pos) X.env = (do
      let ov <- eval o X.env
      standAt apos.atName
      let (f, first) <- holding [ov] (getMethod ov m pl)
      callWith pos f first (backTo pos (starEach (e :: es) X.env)) (backToKw pos (keywordEach [] X.env))) := by rfl) :
    PE X (.Call (.Attribute o m apos) (e :: es) [] pos) (JQ C m sp dvs E ta t) := by
  intro pins s σ H Q I h;refine PySem.W.methodCall_KW (pl := pl) (gG (he pins s σ H _ I h) fun u s1 ⟨x, H1, I1, rx, a, dx, fs, ex, ea, l, q⟩ => ?_) ht;subst ex;obtain rfl : u = Value.ref a := rx;refine Bp I1 ea c hm l ?_;refine Fc (first := [.ref a]) (h₀ := X.base) I.ok.mod.kin hm.kp (gG (ha pos pins s1 σ H1 _ I1 q) fun us s2 ⟨vs, H2, I2, r, q2⟩ => ⟨I2.kIn, ?_⟩) hst hpl;exact FH (us := .ref a :: us) (vs := .ref a :: vs) F hr hb hd hx I2 (.cons rfl r) q2
theorem Ky {pl : Sem Bool} (he : PE X o ta) (c : JD X.K C) (hm : LI X.K C m f) (F : cN X.prog X.w X.K X.mg X.base CX k f fd ps sp) (hr : nH k X.A) (hb : Binds X.K fd ps ds) (hd : cR dvs ds) (hx : xo CX X E)
    (ht : eval (.Call (.Attribute o m apos) [] [] pos) X.env = (do
      let ov <- eval o X.env
      standAt apos.atName
      let (f, first) <- holding [ov] (getMethod ov m pl)
      callWith pos f first (backTo pos (starEach [] X.env)) (backToKw pos (keywordEach [] X.env))) := by rfl) :
    PE X (.Call (.Attribute o m apos) [] [] pos) (JQ C m sp dvs E ta Fj) := by
  intro pins s σ H Q I h;refine PySem.W.methodCall_KW (pl := pl) (gG (he pins s σ H _ I h) fun u s1 ⟨x, H1, I1, rx, a, dx, fs, ex, ea, l, q⟩ => ?_) ht;subst ex;obtain rfl : u = Value.ref a := rx;refine Bp I1 ea c hm l ?_;exact PySem.W.callWith_K0 (first := [.ref a]) I1.kIn hm.kp (FH (us := [.ref a]) (vs := [.ref a]) F hr hb hd hx I1 (.cons rfl .nil) q)

structure Mk (K:PySem.W.Frag) (C f:Addr):Prop where
 makes:PySem.W.makesIn K C=true
 init:PySem.W.findIn K (.ref C) "__init__"=some (some (.ref f))
 fn:PySem.W.isFn K (.ref f)=true
 kp:PySem.W.keepIn K (.ref C)=true
theorem Kk {pins:List (Addr×Obj)} {σ:St} {H:Hp} {s:Shared} {Q:VK} {us:List Value} {vs:List V} (M:Mk X.K C f) (F:cN X.prog X.w X.K X.mg X.base CX k f fd ps sp) (hr:nH (k+1) X.A) (hb:Binds X.K fd ps ds) (hd:cR dvs ds)
  (hx:xo CX X E) (I:Inv X pins σ H s) (r:cR vs us)
  (h:∀x dx,H x=none->H dx=none->dx≠x->sp (.ref x :: (vs++dvs)) (upd (upd H dx (.own x)) x (.ins C dx [])) (fun v H2=>v=.non/\Q (.ref x) H2) E) :
  wpAny (model X.prog X.w) X.A (call (.ref C) us) (EP X pins σ Q) X.xe s:=by
 have hq:=h (s.heap.objs.size+1) s.heap.objs.size (I.hok.fresh (yr _)) (I.hok.fresh (ar _)) (ck (jq _));have I2:=Inv.made (C:=C) I;have r2:cR (V.ref (s.heap.objs.size+1) :: (vs++dvs)) (Value.ref (s.heap.objs.size+1) :: (us++ds)):=.cons rfl (r.append hd)
 have hl:(Value.ref (s.heap.objs.size+1) :: us++ds).length=ps.length:=by
  have e:=r2.length;rw[F.len _ _ _ _ hq] at e;exact e.symm
 refine wpAny_call (KR (f:=f) I.kIn M.makes M.init (beq_iff_eq.mp M.fn) (codeAny_mono (F.run _ X.stack _ _ ⟨Value.ref (s.heap.objs.size+1) :: us,[]⟩ (Value.ref (s.heap.objs.size+1) :: (us++ds)) _ _ E (hr.make C us [])
  (I2.env0.make C us []) (hb _ (Value.ref (s.heap.objs.size+1) :: us) I2.kIn hl) r2 hq) fun r s' hq'=>?_))
 cases r with
 | error e=>exact hx pins σ _ _ e s' I2 hq'
 | ok fl =>
  cases fl with
  | ret u =>
   obtain ⟨v,H',I3,rv,ev,q3⟩:=I2.after hq';subst ev;exact ⟨rv,⟨V.ref (s.heap.objs.size+1),H',I3,rfl,q3⟩⟩
  | next=>exact False.elim hq'
  | brk=>exact False.elim hq'
  | cont=>exact False.elim hq'
theorem HC (M:Mk X.K C f) (F:cN X.prog X.w X.K X.mg X.base CX k f fd ps sp) (hr:nH (k+1) X.A) (hg:Gl X x) (hm:X.mg x=some (.ref C)) (hb:Binds X.K fd ps ds) (hd:cR dvs ds) (hx:xo CX X E)
  (ha:PA X (e :: es) t) (hdb:(x == ("__debug__":Str))=false:=by decide) (he:starEach (e :: es) X.env=(false,eval e X.env) :: starEach es X.env:=by rfl) (hpl:(backTo pos (starEach es X.env)).any (·.1)=false:=by rfl) :
  PE X (.Call (.Name x p) (e :: es) [] pos) (NC C sp dvs E t):=by
 intro pins s σ H Q I h;refine wpAny_Call_Name_kw (Dz I hg hm ?_ hdb);refine Fc (h₀:=X.base) I.ok.mod.kin M.kp (gG (ha pos pins s σ H _ I h) fun us s1 ⟨vs,H1,I1,r,q⟩=>⟨I1.kIn,?_⟩) he hpl;exact Kk M F hr hb hd hx I1 r q
end
structure bc (N P:List Str) (sc:Scope):Prop where
 kind:sc.kind=.function
 co:sc.isCoroutine=false
 gen:sc.isGenerator=false
 nd:N.Nodup
 pre:N.take P.length=P
 par:∀x∈P,sc.names.lookup x=some .local\/sc.names.lookup x=some .cell
 nofree:∀y∈sc.names,y.2≠.free
theorem CJ {kindOf:Str->Option NameKind} {x:Str}:∀{binds:List (Str×Value)} {m:Str->Option Value},(∀v,(x,v)∉binds)->bindL kindOf binds m x=m x
 | [],_,_=>rfl
 | (n,v) :: r,m,h=>by
  unfold bindL;rw[CJ fun w hw=>h w (bV _ hw)]
  split
  ·have:x≠n:=by rintro rfl;exact h v dk
   simp [this]
  ·rfl
theorem CL {kindOf:Str->Option NameKind} {x:Str}:∀{binds:List (Str×Value)} {m:Str->Option Value},(∀v,(x,v)∉binds)->bindC kindOf binds m x=m x
 | [],_,_=>rfl
 | (n,v) :: r,m,h=>by
  unfold bindC;rw[CL fun w hw=>h w (bV _ hw)]
  split
  ·rfl
  ·have:x≠n:=by rintro rfl;exact h v dk
   simp [this]
theorem CK {kindOf:Str->Option NameKind} {x:Str} {v:Value}:∀{P:List Str} {vs:List Value} {i:Nat} {m:Str->Option Value},P.Nodup->P[i]?=some x->vs[i]?=some v->kindOf x=some .local →
  bindL kindOf (P.zip vs) m x=some v
 | [],_,_,_,_,h,_,_=>by simp at h
 | _ :: _,[],_,_,_,_,h,_=>by simp at h
 | p :: P,w :: vs,0,m,nd,h1,h2,hk=>by
  simp at h1 h2;subst h1;subst h2;show bindL kindOf ((p,w) :: P.zip vs) m p=_
  unfold bindL;rw[CJ fun v hv=>(eK.mp nd).1 (LS hv).1,if_pos hk];simp
 | p :: P,w :: vs,i+1,m,nd,h1,h2,hk=>by
  show bindL kindOf ((p,w) :: P.zip vs) m x=_
  unfold bindL;exact CK (i:=i) (eK.mp nd).2 (by simpa using h1) (by simpa using h2) hk
theorem CM {kindOf:Str->Option NameKind} {x:Str} {v:Value}:∀{P:List Str} {vs:List Value} {i:Nat} {m:Str->Option Value},P.Nodup->P[i]?=some x->vs[i]?=some v->kindOf x≠some .local →
  bindC kindOf (P.zip vs) m x=some v
 | [],_,_,_,_,h,_,_=>by simp at h
 | _ :: _,[],_,_,_,_,h,_=>by simp at h
 | p :: P,w :: vs,0,m,nd,h1,h2,hk=>by
  simp at h1 h2;subst h1;subst h2;show bindC kindOf ((p,w) :: P.zip vs) m p=_
  unfold bindC;rw[CL fun v hv=>(eK.mp nd).1 (LS hv).1,if_neg hk];simp
 | p :: P,w :: vs,i+1,m,nd,h1,h2,hk=>by
  show bindC kindOf ((p,w) :: P.zip vs) m x=_
  unfold bindC;exact CM (i:=i) (eK.mp nd).2 (by simpa using h1) (by simpa using h2) hk
def start (N:List Str) (vs:List V):St:=vs.map some++List.replicate (N.length - vs.length) none
def JA (CX:LQ) (P:Program) (w:World) (K:PySem.W.Frag) (mg:Str->Option Value) (base:Heap) (N:List Str) (qual:Str) (scope:Scope) (f:Addr) (cd:Value) (A:Around) (outer:List Env) (s:Shared) (H:Hp) (E:XK):Cx where
 prog:=P
 w:=w
 K:=K
 mg:=mg
 base:=base
 A:=A.deeper (envOfC qual scope s.heap.objs.size f cd)
 N:=N
 s₀:=s
 H₀:=H
 env:=envOfC qual scope s.heap.objs.size f cd
 outer:=outer
 stack:=envOfC qual scope s.heap.objs.size f cd :: outer
 ex:=[]
 calm:=true
 fn:=fun _=>true
 pn:=[]
 xe:=fun e s'=>wpAny (model P w) (A.deeper (envOfC qual scope s.heap.objs.size f cd)) (leaving (envOfC qual scope s.heap.objs.size f cd) e) (fun _ s''=>CX outer H s E e s'') (fun e' s''=>CX outer H s E e' s'') s'
theorem ES {sc:Scope} {n:Nat} {x:Str} (h:sc.names.lookup x=some .cell):∃c,(cellsFrom n sc.names []).lookup x=some c:=by
 have q:=Am sc.names n [] (.inl h);exact Qa.mp q
theorem Jr {CX:LQ} {P:Program} {w:World} {K:PySem.W.Frag} {mg:Str->Option Value} {base:Heap} {N ps:List Str} {qual:Str} {scope:Scope} {f:Addr} {cd:Value} {A:Around} {outer:List Env} {s s1:Shared} {H:Hp} {E:XK} {us:List Value} {vs:List V}
  (S:bc N ps scope) (hd:A.handled=none) (e0:GQ P w K mg base A outer s H) (hl:vs.length=ps.length) (r:cR vs us)
  (x:InCallC s s.heap.objs.size (bindL (envOfC qual scope s.heap.objs.size f cd).kindOf (ps.zip us) fun _=>none) (cellsFrom (s.heap.objs.size+1) scope.names []) (bindC (envOfC qual scope s.heap.objs.size f cd).kindOf (ps.zip us) fun _=>none) s1) :
  Inv (JA CX P w K mg base N qual scope f cd A outer s H E) [] (start N vs) H s1:=by
 have hpl:ps.length<=N.length:=by have:=congrArg List.length S.pre;rw[cO] at this;lia
 obtain ⟨h1,tk,rfl,hk⟩:=x.done;have noA:∀b:Addr,b∉(JA CX P w K mg base N qual scope f cd A outer s H E).ex:=fun b z=>absurd (show b∈([]:List Addr) from z) (by simp)
 refine ⟨⟨e0.mod,S.kind,rfl,rfl,ar _,fun y z c h1 h2=>?_,fun y hy=>?_,fun y c _ h=>?_,fun _=>hd,Around.frames_deeper e0.frames,.inr ⟨rfl,rfl⟩,fun b z=>absurd z (noA b),e0.bs,e0.bsz,fun b _ _=>noA b,fun b z=>absurd z (noA b),e0.funs,e0.frf⟩,
  rfl,e0.bare,Un.kept hk,⟨_,x.toInCall.ns,fun i y v h1 h2 h3=>?_⟩,fun y c h=>⟨_,x.cell y c h⟩,e0.hok.fresh (ar _),fun y c h=>?_,fun p hp=>absurd (show p∈([]:List (Addr×Obj)) from hp) (by simp),e0.hok.kept hk,?_⟩
 ·exact name_of_addr x.apart (nN h1) (nN h2)
 ·have hy:scope.names.lookup y=some .cell\/scope.names.lookup y=some .free:=hy;rcases hy with hy | hy
  ·exact ES hy
  ·exact absurd rfl (S.nofree _ (nN hy))
 ·exact br (x.above y c (nN h))
 ·have hi:i < vs.length:=by
   unfold start at h2;by_cases hi:i < vs.length
   ·exact hi
   ·rw[be (by simpa using hi)] at h2;rw[cW] at h2
    split at h2 <;> cases h2
  have ha:vs[i]?=some v:=by
   unfold start at h2;rw[bG (by simpa using hi),aG] at h2;cases e:vs[i]? with
   | none=>rw[e] at h2;cases h2
   | some a=>rw[e] at h2;cases h2;rfl
  obtain ⟨u,hu,rv⟩:=r.get ha
  have hp:ps[i]?=some y:=by
   rw[<- S.pre,yy (by lia)];exact h1
  have ndP:ps.Nodup:=by rw[<- S.pre];exact S.nd.sublist (List.take_sublist _ _)
  refine ⟨u,rv,?_⟩;rcases S.par y (aA hp) with k | k
  ·exact .inl ⟨k,CK ndP hp hu k⟩
  ·obtain ⟨c,e⟩:=ES (n:=s.heap.objs.size+1) k;refine .inr ⟨.inl k,c,e,?_⟩;have q:=x.cell y c e;rw[CM ndP hp hu (by show scope.names.lookup y≠_;rw[k];decide)] at q;exact q
 ·exact e0.hok.fresh (br (x.above y c (nN h)))
 ·unfold start;show _=N.length
  rw[ay,ak,aF]
  lia
theorem Q1 {CX:LQ} {P:Program} {w:World} {K:PySem.W.Frag} {mg:Str->Option Value} {base:Heap} {k:Nat} {f:Addr} {name qual:Str} {params:Arguments} {body:List Stmt} {scope:Scope} {dV kV doc pm cdv ct oc:Value} {an od:Option Addr}
  {osl:Array (Option Value)} {N ps:List Str} {sp:Sp} (lk:K.lookup f=some ⟨oc,od,.func (PySem.W.fnOf name qual params body scope dV kV doc pm an cdv ct),osl⟩) (hcd:PySem.W.codeIn K cdv qual=true) (S:bc N ps scope)
  (len:∀vs H Q E,sp vs H Q E->vs.length=ps.length)
  (hbody:∀(A:Around) (outer:List Env) (s:Shared) (H:Hp) (vs:List V) (Q:VK) (E:XK),nH k (A.deeper (envOfC qual scope s.heap.objs.size f cdv))->sp vs H Q E →
   ∃t,GK (JA CX P w K mg base N qual scope f cdv A outer s H E) body t/\t { nx:=fun _ H'=>Q .non H',rt:=Q } (start N vs) H) :
  cN P w K mg base CX (k+1) f (PySem.W.fnOf name qual params body scope dV kV doc pm an cdv ct) ps sp:=by
 refine ⟨len,fun A outer s H args us vs Q E hr e0 hb r hsp=>?_⟩;have hl:=len _ _ _ _ hsp;have KX:K.In s.heap:=e0.mod.kin.keeps fun b o e=>(e0.bs b o e).1
 have lim:s.heap.NoLimit:=e0.mod.nolimit.keeps fun b o e=>(e0.bs b o e).1
 have hkind:∀y∈ps.zip us,scope.names.lookup y.1=some .local\/(scope.names.lookup y.1=some .cell/\((cellsFrom (s.heap.objs.size+1) scope.names []).lookup y.1).isSome=true):=fun ⟨n,v⟩ hy=>by
  rcases S.par n (LS hy).1 with q | q
  ·exact .inl q
  ·exact .inr ⟨q,Am _ _ _ (.inl q)⟩
 refine codeAny_call_function hr.depth (KX _ _ lk) rfl S.co S.gen rfl (PySem.W.codeRec_of KX hcd) (hb _ _ _ _ ?_);refine wpAny_newFunctionEnv_cells S.kind hkind fun env he s1 x=>?_
 subst he;refine ⟨lim.keeps x.toInCall.keep,codeAny_func ?_⟩;obtain ⟨t,ht,hq⟩:=hbody A outer s H vs Q E (hr.deeper _) hsp;have I:Inv (JA CX P w K mg base N qual scope f cdv A outer s H E) [] (start N vs) H s1:=Jr S hr.hd e0 hl r x;refine wpAny_mono (ht [] s1 (start N vs) H _ I hq) (fun fl s' hs=>?_) fun e s' hs=>hs
 have fin:∀{σ':St} {H':Hp} {v:V} {u:Value},Inv (JA CX P w K mg base N qual scope f cdv A outer s H E) [] σ' H' s'->RelV v u->Q v H'->CE outer P w H s Q u s' :=
  fun {σ' H' v u} J rv q=>⟨v,H',J.os,J.bare,J.base,J.hok,rv,q⟩
 cases fl with
 | ret u =>
  obtain ⟨v,σ',H',J,rv,q⟩:=hs;exact fin J rv q
 | next =>
  obtain ⟨σ',H',J,q⟩:=hs;exact fin (v:=V.non) (u:=Value.none) J rfl q
 | brk =>
  obtain ⟨_,_,_,q⟩:=hs;exact False.elim q
 | cont =>
  obtain ⟨_,_,_,q⟩:=hs;exact False.elim q
section
variable {X:Cx} {x:Str} {p pos:Pos} {e:Expr} {es:List Expr} {t:TA} {id T:String} {r:List V->Hp->VK->Prop}
def RP (r:List V->Hp->VK->Prop) (t:TA):TE:=fun σ H Q=>t σ H fun vs H1=>r vs H1 Q
theorem bR (hc:vA X (.builtin id) r) (hg:Gl X x) (hm:X.mg x=none) (hv:bootBuiltins x=some (.builtin id)) (ha:PA X (e :: es) t) (hn:x≠"__name__":=by decide) (hdb:(x == ("__debug__":Str))=false:=by decide)
  (he:starEach (e :: es) X.env=(false,eval e X.env) :: starEach es X.env:=by rfl) (hpl:(backTo pos (starEach es X.env)).any (·.1)=false:=by rfl):PE X (.Call (.Name x p) (e :: es) [] pos) (RP r t):=by
 intro pins s σ H Q I h;refine wpAny_Call_Name_kw (md I hg hm hv ?_ hn hdb);exact PyProof.Rows.callWith_builtin1 (gG (ha pos pins s σ H _ I h) fun us s1 ⟨vs,H1,I1,r1,q1⟩=>hc pins s1 σ H1 vs us Q I1 r1 q1) he hpl
theorem fV (hc:vA X (.type T) r) (hg:Gl X x) (hm:X.mg x=none) (hv:bootBuiltins x=some (.type T)) (ha:PA X (e :: es) t) (hn:x≠"__name__":=by decide) (hdb:(x == ("__debug__":Str))=false:=by decide)
  (he:starEach (e :: es) X.env=(false,eval e X.env) :: starEach es X.env:=by rfl) (hpl:(backTo pos (starEach es X.env)).any (·.1)=false:=by rfl):PE X (.Call (.Name x p) (e :: es) [] pos) (RP r t):=by
 intro pins s σ H Q I h;refine wpAny_Call_Name_kw (md I hg hm hv ?_ hn hdb);exact PyProof.Rows.callWith_type1 (gG (ha pos pins s σ H _ I h) fun us s1 ⟨vs,H1,I1,r1,q1⟩=>hc pins s1 σ H1 vs us Q I1 r1 q1) he hpl
end
end L2
namespace HT
open PySem PyProof.Rows
section
open PySem.SeqAt
open PySem.AutoSeq1 (wpAny_loadPart')
open PySem.MeetsSeq PySem.MeetsSeq2 PySem.MeetsSeq3
end
section
variable {prog:Program} {w:World} {A:Around} {E:Value->Shared->Prop} {s:Shared}
def Ep (n d:Nat):Option Int->Nat
 | none=>d
 | some v=>if v < 0 then (v+(n:Int)).toNat else min v.toNat n
theorem Eo (n d:Nat):Ep n d none=d:=rfl
theorem zX (n d k:Nat):Ep n d (some (k:Int))=min k n:=by
 show (if (k:Int) < 0 then ((k:Int)+(n:Int)).toNat else min (k:Int).toNat n)=min k n
 rw[if_neg (by lia),Int.toNat_natCast]
end
end HT
namespace L2
open PySem PySem.Spec PyProof.Rows
abbrev TO:=St->Hp->(Option Int->Hp->Prop)->Prop
def PO (X:Cx) (e:Option Expr) (t:TO):Prop :=
 ∀(pins:List (Addr×Obj)) (s:Shared) (σ:St) (H:Hp) (Q:Option Int->Hp->Prop),Inv X pins σ H s->t σ H Q →
  wpAny (model X.prog X.w) X.A (evalPart e X.env) (fun u s'=>∃o H',Inv X pins σ H' s'/\IsPart u o/\Q o H') X.xe s
def GW:TO:=fun _ H Q=>Q none H
def Nz (t:TE):TO:=fun σ H Q=>t σ H fun x H1=>∃i,x=.int i/\Q (some i) H1
theorem intsAre_of {ns:List Int}:∀{us:List Value},cR (ns.map V.int) us->IntsAre us ns:=by
 induction ns with
 | nil=>intro us r;rw[List.map_nil] at r;cases r;exact .nil
 | cons n ns ih =>
  intro us r;rw[ir] at r;cases r with
  | cons r1 r2 =>
   obtain ⟨t,e⟩:=r1;subst e;exact .cons n t (ih r2)
section
variable {X:Cx} {e:Expr} {te:TE} {lo hi:Option Expr} {tl th:TO} {pos p2:Pos}
theorem HB:PO X none GW:=by
 intro pins s σ H Q I h;rw[evalPart_none];exact wpAny_pure ⟨none,H,I,.none,h⟩
theorem zZ (h:PE X e te):PO X (some e) (Nz te):=by
 intro pins s σ H Q I hw;rw[evalPart_some];refine gG (h pins s σ H _ I hw) fun u s1 ⟨x,H1,I1,r1,q1⟩=>?_
 obtain ⟨i,rfl,q⟩:=q1;obtain ⟨t,rfl⟩:=r1;exact ⟨some i,H1,I1,.int i t,q⟩
def Sf (X:Cx) (r:V->Option Int->Option Int->Hp->VK->Prop):Prop :=
 ∀(pins:List (Addr×Obj)) (s:Shared) (σ:St) (H:Hp) (x:V) (v vl vu:Value) (lo hi:Option Int) (sl:Addr) (Q:VK),Inv X pins σ H s->RelV x v->s.heap.IsSliceOf sl vl vu .none->IsPart vl lo->IsPart vu hi->r x lo hi H Q →
  ∃T id,typeLookup (.type T) "__getitem__"=pure (some (.builtin id))/\s.TypeIs v T/\wpAny (model X.prog X.w) X.A (getItem v (.ref sl)) (EP X pins σ Q) X.xe s
def tSl (r:V->Option Int->Option Int->Hp->VK->Prop) (te:TE) (tl th:TO):TE:=fun σ H Q=>te σ H fun x H1=>tl σ H1 fun l H2=>th σ H2 fun u H3=>r x l u H3 Q
theorem AU {r:V->Option Int->Option Int->Hp->VK->Prop} (hr:Sf X r) (he:PE X e te) (hl:PO X lo tl) (hu:PO X hi th):PE X (.Subscript e (.Slice lo hi none p2) pos) (tSl r te tl th):=by
 intro pins s σ H Q I h;refine Subscript_ (gG (he pins s σ H _ I h) fun v s1 ⟨x,H1,I1,r1,q1⟩=>?_);refine wpAny_Slice (gG (hl pins s1 σ H1 _ I1 q1) fun vl s2 ⟨l,H2,I2,pl,q2⟩=>gG (hu pins s2 σ H2 _ I2 q2) fun vu s3 ⟨u,H3,I3,pu,q3⟩=>?_);rw[evalPart_none];refine wpAny_pure ?_;have I4:Inv X pins σ H3 { s3 with heap:=s3.heap.push { cls:=.type "slice",data:=.fields #[vl,vu,.none] } }:=I3.kept (t':=s3.toks) fun b ob q=>Heap.get?_push_of_some _ q
 obtain ⟨T,id,hT,ht,hg⟩:=hr pins { s3 with heap:=s3.heap.push { cls:=.type "slice",data:=.fields #[vl,vu,.none] } } σ H3 x v vl vu l u s3.heap.objs.size Q I4 r1 (Heap.IsSliceOf.new ..) pl pu q3;show wpAny (model X.prog X.w) X.A (subscriptTail e (.Slice lo hi none p2) v (.ref s3.heap.objs.size)) (EP X pins σ Q) X.xe { s3 with heap:=s3.heap.push { cls:=.type "slice",data:=.fields #[vl,vu,.none] } }
 exact tail_any (ops:=[.ref s3.heap.objs.size,v]) ht hT hg (by with_unfolding_all rfl)
def we (xs:List V) (lo hi:Option Int):List V:=(xs.drop (HT.Ep xs.length 0 lo)).take (HT.Ep xs.length xs.length hi - HT.Ep xs.length 0 lo)
theorem zw (xs:List V) (lo hi:Option Int):(we xs lo hi).length<=xs.length:=by
 unfold we;rw[cO,JI]
 lia
end
def JF (n:Nat) (i:Int):Option Nat:=if 0<=i then (if i < n then some i.toNat else none) else if -(n:Int)<=i then some (i+n).toNat else none
def GB {α:Type} (xs:List α) (i:Int):Option α:=(JF xs.length i).bind fun j=>xs[j]?
theorem HQ {n:Nat} {i:Int} {j:Nat} (h:JF n i=some j):seqIndex? i n=some j/\j < n/\-(n:Int)<=i/\i < n:=by
 unfold JF at h;by_cases h0:0<=i
 ·rw[if_pos h0] at h;by_cases h1:i < n
  ·rw[if_pos h1] at h;have e:i.toNat=j:=cv h;exact ⟨by rw[seqIndex_of h0 h1,e],by lia,by lia,h1⟩
  ·rw[if_neg h1] at h;cases h
 ·rw[if_neg h0] at h;by_cases h1:-(n:Int)<=i
  ·rw[if_pos h1] at h;have e:(i+n).toNat=j:=cv h;exact ⟨by rw[seqIndex_neg (by lia) h1,e],by lia,h1,by lia⟩
  ·rw[if_neg h1] at h;cases h
theorem DT {α:Type} {xs:List α} {i:Int} {v:α} (h:GB xs i=some v):∃j,seqIndex? i xs.length=some j/\xs[j]?=some v/\j < xs.length/\-(xs.length:Int)<=i/\i < xs.length:=by
 unfold GB at h;cases e:JF xs.length i with
 | none=>rw[e] at h;cases h
 | some j =>
  rw[e] at h;obtain ⟨h1,h2,h3,h4⟩:=HQ e;exact ⟨j,h1,h,h2,h3,h4⟩
theorem fO {α:Type} {xs:List α} {j:Nat} {v:α} (h:xs[j]?=some v):GB xs (j:Int)=some v:=by
 have hj:j < xs.length:=(aI.mp h).1
 have e:JF xs.length (j:Int)=some j:=by
  unfold JF;rw[if_pos (by lia),if_pos (by lia)];simp
 unfold GB;rw[e];exact h
theorem yk {α:Type} (xs:List α) (v:α):GB (xs++[v]) (-1)=some v:=by
 have hl:(xs++[v]).length=xs.length+1:=by simp
 have e:JF (xs++[v]).length (-1)=some xs.length:=by
  unfold JF;rw[hl,if_neg (by decide),if_pos (by lia)];congr 1
  lia
 unfold GB;rw[e];show (xs++[v])[xs.length]?=some v
 simp
def Nw (b:Expr):Prop:=∀o i,subscripted b false o i=operate [o,i] (getItem o i)
def Ri (X:Cx) (r:R2):Prop :=
 ∀(value slice:Expr) (pins:List (Addr×Obj)) (s:Shared) (σ:St) (H:Hp) (x y:V) (v u:Value) (Q:VK),Inv X pins σ H s->RelV x v->RelV y u->r x y H Q →
  subscripted slice false v u=operate [v,u] (getItem v u)->wpAny (model X.prog X.w) X.A (subscriptTail value slice v u) (EP X pins σ Q) X.xe s
def MtR (X:Cx) (id:String) (r:V->List V->Hp->VK->Prop):Prop :=
 ∀(pins:List (Addr×Obj)) (s:Shared) (σ:St) (H:Hp) (x:V) (xs:List V) (v:Value) (us:List Value) (Q:VK),Inv X pins σ H s->RelV x v->cR xs us->r x xs H Q →
  wpAny (model X.prog X.w) X.A (call (.builtin id) (v :: us)) (EP X pins σ Q) X.xe s
section
variable {X:Cx} {a b:Expr} {ta tb:TE} {pos:Pos}
theorem bF {r:R2} (hr:Ri X r) (ha:PE X a ta) (hb:PE X b tb) (hs:Nw b:=by intro _ _;rfl):PE X (.Subscript a b pos) (Qk r ta tb):=by
 intro pins s σ H Q I h;exact Subscript_ (Py ha hb I h fun v u s2 x y H2 I2 rx ry q=>hr a b pins s2 σ H2 x y v u Q I2 rx ry q (hs _ _))
def O1 (K:PySem.W.Frag):R2:=fun x y H Q=>∃p xs i v,x=.ref p/\y=.int i/\b6 K H p xs/\GB xs i=some v/\Q v H
def O0 (K:PySem.W.Frag):R2:=fun x y H Q=>∃p xs i v,x=.ref p/\y=.int i/\uu K H p xs/\GB xs i=some v/\Q v H
theorem cg:Ri X (O1 X.K):=by
 intro value slice pins s σ H x y v u Q I rx ry h hs;obtain ⟨p,xs,i,z,rfl,rfl,hq,he,q⟩:=h;cases rx;obtain ⟨t,rfl⟩:=ry;obtain ⟨its,r,pl,hz⟩:=I.list hq;obtain ⟨j,h1,h2,h3,h4,h5⟩:=DT he;obtain ⟨w,ew,rw'⟩:=r.get h2;have hl:=r.length;have hn:=Bl;have fin:EP X pins σ Q w s:=⟨z,H,I,rw',q⟩;by_cases h0:0<=i
 ·have hj:i.toNat=j:=by
   rw[seqIndex_of h0 h5] at h1;exact cv h1
  exact item_listR pl.isList h0 (by lia) (by rw[hj];simpa using ew) fin hs
 ·have hj:(i+(its.toArray.size:Int)).toNat=j:=by
   rw[seqIndex_neg (by lia) h4] at h1;rw[aS,<- hl];exact cv h1
  exact subscriptTail_builtinR (x:=w) pl.isList.typeIs slot_list_getitem.lookup
   (wpAny_getItem_list_neg (Q:=fun r s'=>r=w/\EP X pins σ Q r s') pl.isList (by lia) (by rw[aS] <;> lia) (by lia) (by rw[hj];simpa using ew) ⟨rfl,fin⟩) hs
theorem cB:Ri X (O0 X.K):=by
 intro value slice pins s σ H x y v u Q I rx ry h hs;obtain ⟨p,xs,i,z,rfl,rfl,hq,he,q⟩:=h;cases rx;obtain ⟨t,rfl⟩:=ry;obtain ⟨its,r,pl,hz⟩:=I.tuple hq;obtain ⟨j,h1,h2,h3,h4,h5⟩:=DT he;obtain ⟨w,ew,rw'⟩:=r.get h2;have hl:=r.length;have hn:=Bl;have fin:EP X pins σ Q w s:=⟨z,H,I,rw',q⟩
 exact subscriptTail_builtinR (x:=w) pl.typeIs slot_tuple_getitem.lookup
  (getItem_tuple (j:=j) (Q:=fun r s'=>r=w/\EP X pins σ Q r s') pl (by lia) (by lia) (by rw[aS,<- hl];exact h1) (by simpa using ew) ⟨rfl,fin⟩) hs
theorem Ge (its:List Value) (n j:Nat) (u:Value):Obj.mapSeq (·.setIfInBounds j u) { cls:=.type "list",data:=.seq its.toArray n }={ cls:=.type "list",data:=.seq (its.set j u).toArray n }:=by
 simp [Obj.mapSeq]
theorem Inv.lst {pins:List (Addr×Obj)} {σ:St} {H:Hp} {s:Shared} {p:Addr} {xs:List V} (I:Inv X pins σ H s) (h:H p=some (.lst xs)) :
  ∃(its:List Value) (n:Nat),cR xs its/\s.heap.get? p=some { cls:=.type "list",data:=.seq its.toArray n }/\xs.length<=sizeLine:=by
 obtain ⟨z,its,n,r,e⟩:=I.hok p _ h;exact ⟨its,n,r,e,z⟩
theorem Inv.lstUpd {pins:List (Addr×Obj)} {σ:St} {H:Hp} {s:Shared} {p:Addr} {xs ys:List V} {its its':List Value} {n n':Nat} {f:Obj->Obj} (I:Inv X pins σ H s) (h:H p=some (.lst xs))
  (ho:s.heap.get? p=some { cls:=.type "list",data:=.seq its.toArray n }) (hf:f { cls:=.type "list",data:=.seq its.toArray n }={ cls:=.type "list",data:=.seq its'.toArray n' }) (r:cR ys its') (hz:ys.length<=sizeLine) (t:Nat) :
  Inv X pins σ (upd H p (.lst ys)) { s with heap:=s.heap.update p f,toks:=t }:=by
 have e:(s.heap.update p f).get? p=some { cls:=.type "list",data:=.seq its'.toArray n' }:=by
  rw[Heap.get?_update_self f ho (by rw[hf] <;> rfl),hf]
 refine I.write (x:=p) (e:=p) (by rw[h];trivial) (.inl rfl) (fun b u hb q=>(Heap.get?_update_other _ _ (Ne.symm hb)).trans q) ⟨_,e⟩ ?_;exact ⟨hz,its',n',r,e⟩
def NK:V->V->V->Hp->(Hp->Prop)->Prop:=fun o i v H Q=>∃p xs k j,o=.ref p/\i=.int k/\H p=some (.lst xs)/\JF xs.length k=some j/\Q (upd H p (.lst (xs.set j v)))
theorem set_list:PD X NK:=by
 intro pins s σ H o i v ov iv u Q I ro ri rv h;obtain ⟨p,xs,k,j,rfl,rfl,hp,hj,q⟩:=h;cases ro;obtain ⟨t,rfl⟩:=ri;obtain ⟨its,n,r,ho,hz⟩:=I.lst hp;obtain ⟨h1,h2,h3,h4⟩:=HQ hj;have hl:=r.length;have hn:=Bl
 have I':Inv X pins σ (upd H p (.lst (xs.set j v))) { s with heap:=s.heap.update p (Obj.mapSeq (·.setIfInBounds j u)) } :=
  I.lstUpd hp ho (Ge its n j u) (r.set rv j) (by rw[fH];exact hz) s.toks
 by_cases h0:0<=k
 ·have hk:k.toNat=j:=by
   rw[seqIndex_of h0 h4] at h1;exact cv h1
  exact PySem.W.ki_setAt ho h0 (by lia) (by rw[aS,<- hl];exact h4) (by rw[hk];exact ⟨_,I',q⟩)
 ·have hk:(k+(its.toArray.size:Int)).toNat=j:=by
   rw[seqIndex_neg (by lia) h3] at h1;rw[aS,<- hl];exact cv h1
  exact PySem.W.ki_setBack ho (by lia) (by rw[aS,<- hl];exact h3) (by lia) (by rw[hk];exact ⟨_,I',q⟩)
theorem Dc (lo hi:Option Int) (n:Nat):(sliceBounds lo hi none n).1=((HT.Ep n 0 lo:Nat):Int)/\(sliceBounds lo hi none n).2.1=((HT.Ep n n hi:Nat):Int)/\(sliceBounds lo hi none n).2.2=1:=by
 refine ⟨?_,?_,rfl⟩
 ·cases lo with
  | none=>simp [sliceBounds,HT.Ep]
  | some i =>
   simp only[sliceBounds,HT.Ep,Option.getD_none,show (1:Int) > 0 by decide,if_true];by_cases h:i < 0
   ·simp only[h,if_true] <;> lia
   ·simp only[h,if_false] <;> lia
 ·cases hi with
  | none=>simp [sliceBounds,HT.Ep]
  | some i =>
   simp only[sliceBounds,HT.Ep,Option.getD_none,show (1:Int) > 0 by decide,if_true];by_cases h:i < 0
   ·simp only[h,if_true] <;> lia
   ·simp only[h,if_false] <;> lia
theorem BK (its:List Value) (lo hi:Option Int):slicePick its.toArray lo hi none=((its.drop (HT.Ep its.length 0 lo)).take (HT.Ep its.length its.length hi - HT.Ep its.length 0 lo)).toArray:=by
 obtain ⟨h1,h2,h3⟩:=Dc lo hi its.toArray.size;unfold slicePick;rw[h1,h2,h3];simp only[sliceRange_one,pick_run,aS] <;> rfl
def OZ (K:PySem.W.Frag):V->Option Int->Option Int->Hp->VK->Prop:=fun x lo hi H Q=>∃a xs,x=.ref a/\b6 K H a xs/\∀p,H p=none->Q (.ref p) (upd H p (.lst (we xs lo hi)))
theorem Dd:Sf X (OZ X.K):=by
 intro pins s σ H x v vl vu lo hi sl Q I rx hs pl pu h;obtain ⟨a,xs,rfl,hx,q⟩:=h;cases rx;obtain ⟨its,r,ht,hz⟩:=I.list hx;have hlen:=r.length;refine ⟨"list",_,slot_list_getitem.lookup,ht.isList.typeIs,?_⟩;refine wpAny_getItem_list_slice ht.isList hs pl pu .none (by simp) ?_ (by rw[aS] <;> lia);rw[BK,<- hlen];refine ⟨.ref s.heap.objs.size,_,I.laid (t':=s.toks) (o:=.lst (we xs lo hi)) (fun b ob q=>Heap.get?_push_of_some _ q) (ar _) ?_,rfl,q _ (I.hok.fresh (ar _))⟩;exact ⟨ah (zw xs lo hi) hz,_,0,(r.drop (HT.Ep xs.length 0 lo)).take (HT.Ep xs.length xs.length hi - HT.Ep xs.length 0 lo),Heap.get?_push_size _ rfl⟩
def xV:V->Bool
 | .non=>true
 | .bl _=>true
 | .int _=>true
 | .str _=>true
 | _=>false
def N2:V->V->Bool
 | .non,.non=>true
 | .bl a,.bl b=>a == b
 | .bl a,.int b=>(if a then 1 else 0) == b
 | .int a,.bl b=>a == (if b then 1 else 0)
 | .int a,.int b=>a == b
 | .str a,.str b=>a == b
 | _,_=>false
theorem Pq {A:Around} {s:Shared} {y x:V} {u v:Value} (ry:RelV y u) (rx:RelV x v) (fy:xV y=true) (fx:xV x=true):SeqAt.EqAt A s u v (N2 y x):=by
 cases y with
 | non =>
  cases ry;cases x with
  | non=>cases rx;exact SeqAt.EqAt.same _
  | bl b=>cases rx;exact SeqAt.EqAt.none_bool b
  | int b=>obtain ⟨t,rfl⟩:=rx;exact SeqAt.EqAt.none_int b t
  | str b=>obtain ⟨t,rfl⟩:=rx;exact SeqAt.EqAt.none_str b t
  | _=>exact absurd (show false=true from fx) bf
 | bl a =>
  cases ry;cases x with
  | non=>cases rx;exact SeqAt.EqAt.bool_none a
  | bl b=>cases rx;exact SeqAt.EqAt.bool_bool a b
  | int b=>obtain ⟨t,rfl⟩:=rx;exact SeqAt.EqAt.bool_int a b t
  | str b=>obtain ⟨t,rfl⟩:=rx;exact SeqAt.EqAt.bool_str a b t
  | _=>exact absurd (show false=true from fx) bf
 | int a =>
  obtain ⟨t',rfl⟩:=ry;cases x with
  | non=>cases rx;exact SeqAt.EqAt.int_none a t'
  | bl b=>cases rx;exact SeqAt.EqAt.int_bool a t' b
  | int b=>obtain ⟨t,rfl⟩:=rx;exact SeqAt.EqAt.int_int a t' b t
  | str b=>obtain ⟨t,rfl⟩:=rx;exact SeqAt.EqAt.int_str a t' b t
  | _=>exact absurd (show false=true from fx) bf
 | str a =>
  obtain ⟨t',rfl⟩:=ry;cases x with
  | non=>cases rx;exact SeqAt.EqAt.str_none a t'
  | bl b=>cases rx;exact SeqAt.EqAt.str_bool a t' b
  | int b=>obtain ⟨t,rfl⟩:=rx;exact SeqAt.EqAt.str_int a t' b t
  | str b=>obtain ⟨t,rfl⟩:=rx;exact SeqAt.EqAt.str_str a t' b t
  | _=>exact absurd (show false=true from fx) bf
 | _=>exact absurd (show false=true from fy) bf
def Nh (x:V) (u:Value):Bool:=match u with
 | .none=>N2 .non x
 | .bool b=>N2 (.bl b) x
 | .int i _=>N2 (.int i) x
 | .str z _=>N2 (.str z) x
 | _=>false
theorem Lo {x y:V} {u:Value} (r:RelV y u) (f:xV y=true):Nh x u=N2 y x:=by
 cases y with
 | non=>cases r;rfl
 | bl b=>cases r;rfl
 | int i=>obtain ⟨t,rfl⟩:=r;rfl
 | str z=>obtain ⟨t,rfl⟩:=r;rfl
 | _=>exact absurd (show false=true from f) bf
theorem DV {x:V}:∀{xs:List V} {us:List Value},cR xs us->xs.all xV=true->us.any (Nh x)=xs.any fun y=>N2 y x
 | _,_,.nil,_=>rfl
 | y :: xs,u :: us,.cons r t,f=>by
  rw[List.all_cons,dZ] at f;rw[List.any_cons,List.any_cons,Lo r f.1,DV t f.2]
theorem Bg {A:Around} {s:Shared} {x:V} {v:Value} (rx:RelV x v) (fx:xV x=true):∀{xs:List V} {us:List Value},cR xs us->xs.all xV=true->∀u∈us,SeqAt.EqAt A s u v (Nh x u)
 | _,_,.nil,_=>fun u hu=>by cases hu
 | y :: xs,u :: us,.cons r t,f=>fun u' hu=>by
  rw[List.all_cons,dZ] at f;rcases aJ.mp hu with rfl | hu
  ·rw[Lo r f.1];exact Pq r rx f.1 fx
  ·exact Bg rx fx t f.2 u' hu
def RD (x:V) (xs:List V):Bool:=xs.any fun y=>N2 y x
def rIn (K:PySem.W.Frag) (neg:Bool):R2:=fun x y H Q=>∃p xs,y=.ref p/\(b6 K H p xs\/uu K H p xs)/\xV x=true/\xs.all xV=true/\Q (.bl (if neg then !RD x xs else RD x xs)) H
theorem Jf:Aj X (compareOp .In) (rIn X.K false):=by
 intro pins s σ H x y v u Q I rx ry h;obtain ⟨p,xs,rfl,hq,fx,fs,q⟩:=h;cases ry;rcases hq with hq | hq
 ·obtain ⟨its,r,pl,hz⟩:=I.list hq;refine SeqAt.in_listAt (Nh x) pl.isList (fun w hw=>Bg rx fx r fs w (by simpa using hw)) ⟨.bl _,H,I,rfl,?_⟩;rw[show its.toArray.any (Nh x)=its.any (Nh x) by simp,DV r fs];exact q
 ·obtain ⟨its,r,pl,hz⟩:=I.tuple hq;refine SeqAt.in_tupleAt (Nh x) pl (fun w hw=>Bg rx fx r fs w (by simpa using hw)) ⟨.bl _,H,I,rfl,?_⟩;rw[show its.toArray.any (Nh x)=its.any (Nh x) by simp,DV r fs];exact q
theorem bD:vA X (.builtin "len") (fun xs H Q=>∃p ys,xs=[.ref p]/\(b6 X.K H p ys\/uu X.K H p ys)/\Q (.int ys.length) H):=by
 intro pins s σ H xs us Q I r h;obtain ⟨p,ys,rfl,hq,q⟩:=h;obtain ⟨u,rfl,rx⟩:=vals1 r;cases rx;have hn:=Bl;rcases hq with hq | hq
 ·obtain ⟨its,r',pl,hz⟩:=I.list hq;have hlen:=r'.length;exact Calls.call_len_list pl.isList (by simp only[aS] <;> lia) ⟨.int ys.length,H,I.tok _,⟨s.toks+1,by rw[aS,hlen]⟩,q⟩
 ·obtain ⟨its,r',pl,hz⟩:=I.tuple hq;have hlen:=r'.length;exact len_tuple pl (by simp only[aS] <;> lia) ⟨.int ys.length,H,I.tok _,⟨s.toks+1,by rw[aS,hlen]⟩,q⟩
theorem tE:vA X (.type "list") (fun xs H Q=>∃p ys,xs=[.ref p]/\(b6 X.K H p ys\/uu X.K H p ys)/\∀l,H l=none->Q (.ref l) (upd H l (.lst ys))):=by
 intro pins s σ H xs us Q I r h;obtain ⟨p,ys,rfl,hq,q⟩:=h;obtain ⟨u,rfl,rx⟩:=vals1 r;cases rx
 have fin:∀(its:List Value),cR ys its->ys.length<=sizeLine->∀(h':Heap) (c':Nat),(∀b o',s.heap.get? b=some o'->h'.get? b=some o') →
   h'.get? s.heap.objs.size=some { cls:=.type "list",dict:=none,data:=.seq its.toArray c',slots:=#[] }->EP X pins σ Q (.ref s.heap.objs.size) { s with heap:=h' }:=fun its r' hz h' c' kp e =>
  ⟨.ref s.heap.objs.size,_,I.laid (t':=s.toks) kp (ar _) (show kv X.prog X.w _ h' _ (.lst ys) from ⟨hz,its,c',r',e⟩),rfl,q _ (I.hok.fresh (ar _))⟩
 rcases hq with hq | hq
 ·obtain ⟨its,r',pl,hz⟩:=I.list hq;have hlen:=r'.length;obtain ⟨o,ho,hc,n,hd⟩:=pl.isList;exact call_list_seq p (.inl rfl) ho hc hd (fun h' c' kp e=>fin its r' hz h' c' kp e) (by simp only[aS] <;> lia)
 ·obtain ⟨its,r',pl,hz⟩:=I.tuple hq;have hlen:=r'.length;obtain ⟨o,ho,hc,n,hd⟩:=pl;exact call_list_seq p (.inr rfl) ho hc hd (fun h' c' kp e=>fin its r' hz h' c' kp e) (by simp only[aS] <;> lia)
def RO (K:PySem.W.Frag) (T:String) (x:V) (H:Hp):Prop:=match x with
 | .str _=>T="str"
 | .int _=>T="int"
 | .ref p=>(T="list"/\∃xs,b6 K H p xs)\/(T="tuple"/\∃o,K.lookup p=some o/\o.cls=.type "tuple"/\o.dict=none) \/
   (T="dict"/\((∃kvs,H p=some (.dK kvs))\/∃kvs,H p=some (.dT kvs)))\/(T="set"/\∃S n,H p=some (.set S n))
 | _=>False
theorem Of {pins:List (Addr×Obj)} {σ:St} {H:Hp} {s:Shared} {T:String} {x:V} {v:Value} (I:Inv X pins σ H s) (r:RelV x v) (ty:RO X.K T x H) :
  s.TypeIs v T/\∀a,v=.ref a->∃ob,s.heap.get? a=some ob/\ob.dict=none:=by
 cases x with
 | str z =>
  obtain ⟨t,rfl⟩:=r;cases (show T="str" from ty);exact ⟨typeIs_str s z t,fun _ e=>nomatch e⟩
 | int i =>
  obtain ⟨t,rfl⟩:=r;cases (show T="int" from ty);exact ⟨typeIs_int s i t,fun _ e=>nomatch e⟩
 | ref p =>
  cases r;rcases ty with ⟨rfl,xs,hq⟩ | ⟨rfl,o,hk,hc,hd⟩ | ⟨rfl,hk⟩ | ⟨rfl,S,n,hk⟩
  ·obtain ⟨its,_,pl,_⟩:=I.list hq;refine ⟨pl.isList.typeIs,fun a e=>?_⟩;cases e;obtain ⟨o,n,e,c,hd,_⟩:=pl;exact ⟨o,e,hd⟩
  ·refine ⟨⟨o,I.kIn p o hk,hc⟩,fun a e=>?_⟩;cases e;exact ⟨o,I.kIn _ o hk,hd⟩
  ·have z:∃o,s.heap.get? p=some o/\o.ExactDict:=by
    rcases hk with ⟨kvs,hk⟩ | ⟨kvs,hk⟩
    ·obtain ⟨_,_,_,_,o,_,_,e,ex,_⟩:=I.hok p _ hk;exact ⟨o,e,ex⟩
    ·obtain ⟨_,_,_,_,o,_,_,e,ex,_⟩:=I.hok p _ hk;exact ⟨o,e,ex⟩
   obtain ⟨o,e,ex⟩:=z;refine ⟨⟨o,e,ex.1⟩,fun a e2=>?_⟩;cases e2;exact ⟨o,e,ex.2.1⟩
  ·obtain ⟨o,_,_,_,e,ex,_⟩:=I.hok p _ hk;refine ⟨⟨o,e,ex.1⟩,fun a e2=>?_⟩;cases e2;exact ⟨o,e,ex.2.1⟩
 | _=>exact False.elim ty
def tBM (K:PySem.W.Frag) (T:String) (r:V->List V->Hp->VK->Prop) (to:TE) (t:TA):TE:=fun σ H Q=>to σ H fun x H1=>RO K T x H1/\t σ H1 fun xs H2=>r x xs H2 Q
variable {o e:Expr} {es:List Expr} {to:TE} {t:TA} {name:Str} {apos cpos:Pos} {T id:String} {r:V->List V->Hp->VK->Prop}
theorem zh (pa:PlainAttrs T) (slot:Slot T name id) (hty:typeOf (.builtin id)=pure (.type "method_descriptor")) (hm:MtR X id r) (ho:PE X o to) (ha:PA X (e :: es) t)
  (hbase:attributeBase o name X.env (eval o X.env)=eval o X.env:=by rfl)
  (hfew:((backTo cpos (starEach (e :: es) X.env)).all (fun x=>!x.1) && (backToKw cpos (keywordEach [] X.env)).all (fun x=>x.1.isSome)
   && decide ((e :: es).length+([]:List Keyword).length+(if ([]:List Keyword).isEmpty then 0 else 1) < 30))=true:=by rfl)
  (hline:(apos.endLine == cpos.line)=true:=by rfl) (hs:starEach (e :: es) X.env=(false,eval e X.env) :: starEach es X.env:=by rfl) (hplain:(backTo cpos (starEach es X.env)).any (·.1)=false:=by rfl) :
  PE X (.Call (.Attribute o name apos) (e :: es) [] cpos) (tBM X.K T r to t):=by
 intro pins s σ H Q I h;refine wpAny_Call_method_late hbase hfew hline rfl (gG (ho pins s σ H _ I h) fun v s1 ⟨x,H1,I1,r1,ty,q1⟩=>?_);obtain ⟨h1,h2⟩:=Of I1 r1 ty;refine ⟨T,id,pa,slot,hty,h1,h2,?_⟩;have hA:=ha cpos pins s1 σ H1 _ I1 q1;rw[hs] at hA ⊢;refine Calls.callWith_builtin (by show (false || (backTo cpos (starEach es X.env)).any (·.1))=false;rw[hplain] <;> rfl) (Calls.evalArgs_plain ?_);exact gG hA fun us s2 ⟨vs,H2,I2,r2,q2⟩=>hm pins s2 σ H2 x vs v us Q I2 r1 r2 q2
end
def MtM (X:Cx) (id:String) (r:V->List V->Hp->VK->Prop):Prop :=
 ∀(pins:List (Addr×Obj)) (s:Shared) (σ:St) (H:Hp) (x:V) (xs:List V) (v:Value) (us:List Value) (Q:VK),Inv X pins σ H s->RelV x v->cR xs us->r x xs H Q →
  wpAny (model X.prog X.w) X.A (call (.builtin id) (v :: us)) (EP X pins σ Q) X.xe s
theorem cR.one:∀{x:V} {us:List Value},cR [x] us->∃u,us=[u]/\RelV x u
 | _,_,.cons r .nil=>⟨_,rfl,r⟩
theorem cR.rep {xs:List V} {us:List Value} (h:cR xs us):∀k:Nat,cR (List.replicate k xs).flatten (List.replicate k us).flatten
 | 0=>.nil
 | k+1=>by
  rw[ji,ji,fE,fE];exact cR.append h (cR.rep h k)
theorem foldl_rep (its:List Value):∀(k:Nat) (acc:List Value),
  List.foldl (fun x1 x2=>x1++x2) acc.toArray (List.replicate k its.toArray)=(acc++(List.replicate k its).flatten).toArray
 | 0,acc=>by simp
 | k+1,acc=>by
  have e:acc.toArray++its.toArray=(acc++its).toArray:=by simp
  have e2:(acc++its)++(List.replicate k its).flatten=acc++(List.replicate (k+1) its).flatten:=by
   rw[ji,fE,cw]
  rw[<- e2,<- foldl_rep its k (acc++its),<- e,ji,List.foldl_cons]
section
variable {X:Cx} {pins:List (Addr×Obj)} {σ:St} {H:Hp} {s:Shared} {l b:Addr} {xs ys zs:List V}
theorem Inv.lset {its its':List Value} {n:Nat} {f:Array Value->Array Value} {t':Nat} (I:Inv X pins σ H s) (hH:H l=some (.lst xs))
  (e:s.heap.get? l=some { cls:=.type "list",data:=.seq its.toArray n }) (hf:f its.toArray=its'.toArray) (hv:cR ys its') (hz:ys.length<=sizeLine) :
  Inv X pins σ (upd H l (.lst ys)) { s with heap:=s.heap.update l (Obj.mapSeq f),toks:=t' }:=by
 have q:=m9 e f;rw[hf] at q;refine I.write (x:=l) (e:=l) (by rw[hH];exact trivial) (.inl rfl) (fun b' u hb hu=>(Heap.get?_update_other s.heap (Obj.mapSeq f) (Ne.symm hb)).trans hu) ⟨_,q⟩ ?_;exact ⟨hz,its',_,hv,q⟩
theorem Inv.lnew {its:List Value} {t':Nat} (I:Inv X pins σ H s) (hv:cR ys its) (hz:ys.length<=sizeLine) :
  Inv X pins σ (upd H s.heap.objs.size (.lst ys)) { s with heap:=s.heap.push { cls:=.type "list",data:=.seq its.toArray },toks:=t' } :=
 I.laid (fun _ _ q=>Heap.get?_push_of_some _ q) (ar _) ⟨hz,its,0,hv,Heap.get?_push_size _ rfl⟩
theorem Inv.fresh (I:Inv X pins σ H s):H s.heap.objs.size=none:=I.hok.fresh (ar _)
theorem Inv.lstM (I:Inv X pins σ H s) (hH:H l=some (.lst xs)):xs.length<=sizeLine/\∃(its:List Value) (n:Nat),cR xs its/\xs.length=its.length/\s.heap.get? l=some { cls:=.type "list",data:=.seq its.toArray n }:=by
 obtain ⟨z,its,n,r,e⟩:=I.hok l _ hH;exact ⟨z,its,n,r,r.length,e⟩
theorem EA {n:Nat} (h:n<=sizeLine):Builtin.List.listTooLong n=false:=by
 unfold Builtin.List.listTooLong;exact decide_eq_false (by lia)
end
section
variable {X:Cx}
def Hv:V->List V->Hp->VK->Prop:=fun x vs H Q=>∃l xs y,x=.ref l/\vs=[y]/\H l=some (.lst xs)/\xs.length < sizeLine/\Q .non (upd H l (.lst (xs++[y])))
theorem o9:MtM X "list.append" Hv:=by
 intro pins s σ H x vs v us Q I rx rv h;obtain ⟨l,xs,y,rfl,rfl,hH,hz,q⟩:=h;cases rx;obtain ⟨u,rfl,ru⟩:=rv.one;obtain ⟨z,its,n,r,hl,e⟩:=I.lstM hH;refine call_meets F.slot_list_append ⟨_,e,rfl⟩ F.entry_list_append (F.args_list_append_2 _ _) (PySem.list_append l its.toArray n u (by rw[aS];lia)) ⟨e,?_⟩;refine ⟨.non,_,I.lset (its':=its++[u]) hH e (by simp) (r.append (.cons ru .nil)) ?_,rfl,q⟩;rw[ay,bQ]
 lia
def MP:V->List V->Hp->VK->Prop:=fun x vs H Q=>∃l b xs zs,x=.ref l/\vs=[.ref b]/\H l=some (.lst xs)/\H b=some (.lst zs)/\xs.length+zs.length<=sizeLine/\Q .non (upd H l (.lst (xs++zs)))
theorem Cp:MtM X "list.extend" MP:=by
 intro pins s σ H x vs v us Q I rx rv h;obtain ⟨l,b,xs,zs,rfl,rfl,hH,hB,hz,q⟩:=h;cases rx;obtain ⟨u,rfl,ru⟩:=rv.one;cases ru;obtain ⟨z,its,n,r,hl,e⟩:=I.lstM hH;obtain ⟨z2,its2,n2,r2,hl2,e2⟩:=I.lstM hB;have hsz:its.toArray.size+its2.toArray.size<=sizeLine:=by rw[aS,aS];lia
 have hlong:¬(!its.toArray.isEmpty && Builtin.List.listTooLong (its.toArray.size+its2.toArray.size))=true:=by
  rw[EA hsz,Bool.and_false];exact bf
 refine call_meets F.slot_list_extend ⟨_,e,rfl⟩ F.entry_list_extend (F.args_list_extend_2 _ _)
  (AutoSeq1.list_extend_list_list_0 l its.toArray n b its2.toArray n2 hlong (by rw[aS];lia) (by lia)) ⟨e,e2,?_⟩
 refine ⟨.non,_,I.lset (its':=its++its2) hH e (by simp) (r.append r2) ?_,rfl,q⟩;rw[ay]
 lia
def QL:R2:=fun x y H Q=>∃l b xs zs,x=.ref l/\y=.ref b/\H l=some (.lst xs)/\H b=some (.lst zs)/\xs.length+zs.length<=sizeLine/\∀p,H p=none->Q (.ref p) (upd H p (.lst (xs++zs)))
theorem uL:Aj X (binaryOp .Add) QL:=by
 intro pins s σ H x y v u Q I rx ry h;obtain ⟨l,b,xs,zs,rfl,rfl,hH,hB,hz,q⟩:=h;cases rx;cases ry;obtain ⟨z,its,n,r,hl,e⟩:=I.lstM hH;obtain ⟨z2,its2,n2,r2,hl2,e2⟩:=I.lstM hB;refine PySem.P.add_list e e2 ?_ (by rw[aS,aS];lia);have ea:its.toArray++its2.toArray=(its++its2).toArray:=by simp
 rw[ea];exact ⟨.ref _,_,I.lnew (t':=s.toks) (r.append r2) (by rw[ay];lia),rfl,q _ I.fresh⟩
def QK:R2:=fun x y H Q=>∃l k xs,x=.ref l/\y=.int k/\H l=some (.lst xs)/\-(2^63)<=k/\k < 2^63/\xs.length*k.toNat<=sizeLine /\
 ∀p,H p=none->Q (.ref p) (upd H p (.lst (List.replicate k.toNat xs).flatten))
theorem len_rep {α:Type} (xs:List α) (k:Nat):(List.replicate k xs).flatten.length=k*xs.length:=by
 induction k with
 | zero=>simp
 | succ k ih=>rw[ji,fE,ay,ih,df,Ao]
theorem O6:Aj X (binaryOp .Mult) QK:=by
 intro pins s σ H x y v u Q I rx ry h;obtain ⟨l,k,xs,rfl,rfl,hH,h1,h2,hz,q⟩:=h;cases rx;obtain ⟨t,rfl⟩:=ry;obtain ⟨z,its,n,r,hl,e⟩:=I.lstM hH;have hlen:its.toArray.size*k.toNat<=sizeLine:=by rw[aS,<- hl];exact hz
 have hcap:¬its.toArray.size*k.toNat > (2^63 - 1) / 8:=by
  have:(sizeLine:Nat)<=(2^63 - 1) / 8:=by decide
  lia
 have hfit:¬(!Builtin.List.listFitsIndex k)=true:=by
  rw[fitsIndex_both h1 h2];exact bf
 have hlong:¬Builtin.List.listTooLong (its.toArray.size*k.toNat)=true:=by
  rw[EA hlen];exact bf
 have hnew:List.foldl (fun x1 x2=>x1++x2) #[] (List.replicate (if its.toArray.isEmpty=true then 0 else k.toNat) its.toArray)=(List.replicate k.toNat its).flatten.toArray:=by
  have f0:∀m:Nat,List.foldl (fun x1 x2=>x1++x2) #[] (List.replicate m its.toArray)=(List.replicate m its).flatten.toArray:=fun m=>by
   have:=foldl_rep its m [];rw[cV] at this;exact this
  rw[f0];cases its with
  | nil=>simp
  | cons a r'=>rw[if_neg (by simp)]
 refine wpAny_binaryOp_repeat_ref (T:="list") (U:="int") (by decide) ⟨_,e,rfl⟩ (fun s'=>typeIs_int s' k t) noFill_list_mul F.fills_int_mul F.slot_int_rmul repeat_list F.slot_int_index.lookup
  (call_meets F.slot_int_rmul (typeIs_int s k t) F.entry_int_rmul (F.args_int_rmul_2 _ _) (int___rmul___int_list k t l its.toArray n)
   ⟨e,rfl,⟨_,e,rfl⟩,call_meets F.slot_list_mul ⟨_,e,rfl⟩ F.entry_list_mul (F.args_list_mul_2 _ _) (AutoListH.list___mul___list_int_3 l its.toArray n k t hfit hcap hlong) ⟨e,?_⟩⟩)
 rw[hnew];exact ⟨.ref _,_,I.lnew (t':=s.toks) (r.rep k.toNat) (by rw[len_rep,cb];exact hz),rfl,q _ I.fresh⟩
end
end L2
namespace Att
open PySem PySem.W PySem.Calls PyProof.Rows
theorem zO {P:Params} {h:Heap}:∀(ns:List Int) (vs:List Value),WellAll P h vs (ns.map WData.int)->IntsAre vs ns:=by
 intro ns
 induction ns with
 | nil =>
  intro vs w;rw[List.map_nil] at w;cases w;exact .nil
 | cons n ns ih =>
  intro vs w;rw[ir] at w;cases w with
  | cons a b =>
   cases a;exact .cons _ _ (ih _ b)
theorem IS {l:OpenLaw} {n:Nat} (hn:l.most=some n) {P:Params} {h:Heap} {args:List WData} {vals:List Value}
  (hpre:l.row.toRowW.claim.pre args=true) (hwl:WellAll P h vals args) :
  ∃a vs ns,vals=[Value.ref a]/\args=[WData.list (ns.map WData.int)]/\h.get? a=some { cls:=.type "list",data:=.seq vs.toArray }/\IntsAre vs ns/\ns.length<=n:=by
 have hsh:WShape.hasAll [] args [.list .int]=true:=(pre_splitW hpre).1;have hc:l.pre.holds [] { args:=args }=true:=(pre_splitW hpre).2;obtain ⟨d,r,rfl,h1,h2⟩:=hasAllW_cons hsh;obtain rfl:=hasAllW_nil h2;obtain ⟨xs,rfl,h3⟩:=hasW_list h1;obtain ⟨ns,rfl⟩:=items_int h3
 have hlen:ns.length<=n:=by
  unfold OpenLaw.pre at hc
  have h4:(WTm.not (.lt (.lit (.int (n:Int))) (.len (.arg 0)))).holds [] { args:=[.list (ns.map .int)] }=true:=by
   have h4:=(holds_andW hc).1;rw[hn] at h4;exact h4
  have h5:=condW_of h4 (w_not (w_lt w_lit (w_len_list (w_arg rfl))));rw[ak] at h5;refine Nat.le_of_not_lt fun q=>?_
  have q':(n:Int) < ((ns.length:Nat):Int):=by lia
  first
   | (rw[decide_eq_true q'] at h5;exact absurd h5 (by decide))
   | (simp at h5;lia)
 cases hwl with
 | cons w1 w2 =>
  cases w2;cases w1 with
  | list ho hall=>exact ⟨_,_,ns,rfl,rfl,ho,zO ns _ hall,hlen⟩
theorem Jc (l:OpenLaw) (args:List WData):l.row.toRowW.claim.post args (.bool true) args=true :=
 postW_of (r:=l.row.toRowW) (X:=(true == true))
  (show WShape.has [] (.bool true) .bool=true by first | rfl | decide | simp [WShape.has,WShape.arms,WShape.armsAll])
  (show (WTm.eq .res (.lit (.bool true))).value [] { args:=args,res:=some (.bool true),after:=args }=some (.bool (true == true)) from w_eq_bool (w_res rfl) w_lit) rfl
theorem EY {l:OpenLaw} {n:Nat} {q:Program} {loose:List Str} {XP:(Str->Option Value)->Heap->Prop} {YP:World->Heap->Prop} {d:DefRec}
  (hn:l.most=some n) (hdf:d.params.defaults=[])
  (call:∀(w:World) (s₀ s₁:Shared) (mg mb:Str->Option Value) (fa:Addr) (o:Obj) (pm cd doc:Value) (a:Addr) (vs:List Value) (ns:List Int),
   Ground q loose [] XP w s₀ mg mb s₁.heap->YP w s₁.heap →
   s₁.heap.get? fa=some o->o.data=.func (docDef d.name d.params d.body d.scope pm cd doc)->s₁.heap.CodeRec cd d.name->mg d.name=some (.ref fa) →
   s₁.heap.get? a=some { cls:=.type "list",data:=.seq vs.toArray }->IntsAre vs ns->ns.length<=n->s₁.gens=#[] →
   codeAny (model l.prog w) callerA (.call (.ref fa) ⟨[.ref a],[]⟩) (fun r s'=>r=.ok (.ret (.bool true))/\OldK s₁.heap s'.heap/\s'.os=s₁.os/\AllBare s'.gens) s₁) :
  WalkO q loose XP YP l.row.toRowW d [] (fun f vs=>PySem.call f vs):=by
 intro w s₀ s₁ mg mb G Y fa o pm cd doc dV kV ho hd hcd hD hmg hg args vals as hpre hlay hrd hwl hlo;obtain rfl:dV=.none:=Dflts.none hD hdf;obtain rfl:kV=.none:=Dflts.noKw hD;obtain ⟨a,vs,ns,rfl,rfl,hobj,hints,hlen⟩:=IS hn hpre hwl;refine enter_call (codeAny_mono (call w s₀ s₁ mg mb fa o pm cd doc a vs ns G Y ho (fd_plain hd) hcd hmg hobj hints hlen hg) fun r s' hq=>?_);obtain ⟨rfl,h2,h3,h4⟩:=hq;exact ⟨.inl ⟨.bool true,.bool true,[],rfl,fun _=>rfl,.bool true,Jc l _,fun _=>⟨List.Pairwise.nil,fun _ hm=>(nomatch hm)⟩⟩,h2,h3,h4⟩
section
variable {prog:Program} {w:World} {A:Around} {E:Value->Shared->Prop} {s:Shared} {K:Frag}
end
end Att
namespace L2
open PySem PySem.Spec PyProof.Rows
theorem Cd:∀{vs:List Value} {ns:List Int},IntsAre vs ns->cR (ns.map V.int) vs
 | _,_,.nil=>.nil
 | _,_,.cons n t h=>.cons ⟨t,rfl⟩ (Cd h)
def PH (H:Hp):Prop:=∀b,H b=none\/∃o xs,H b=some (.frz o (.lst xs))
theorem KY {P : Program} {w : World} {K : PySem.W.Frag} {mg mb : Str → Option Value} {CX : LQ} {k : Nat} {fa a : Addr} {fd : FuncData} {x : Str} {sp : Sp} {s₁ : Shared} {vs : List Value} {ns : List Int}
    (KX : K.In s₁.heap) (hns : s₁.heap.Ns mainGlobals mg) (hb : s₁.heap.Ns builtinsNs mb) (hbb : ∀ x : Str, x ≠ "__name__" → mb x = bootBuiltins x) (hlim : s₁.heap.NoLimit) (hg : s₁.gens = #[])
    (ha : s₁.heap.get? a = some { cls := .type "list", data := .seq vs.toArray }) (hi : IntsAre vs ns) (hl : ns.length ≤ sizeLine) (hr : nH k callerA)
    (F : ∀ base : Heap, K.In base → base.Ns mainGlobals mg → cN P w K mg base CX k fa fd [x] sp) (hbind : ∀ (s : Shared) (u : Value), BindsTo s fd ⟨[u], []⟩ [(x, u)])
    (hsp : ∀ H : Hp, PH H → b6 K H a (ns.map V.int) → sp [.ref a] H (fun v _ => v = .bl true) fun _ _ _ => False)
    (hCX : ∀ H e s', CX [] H s₁ (fun _ _ _ => False) e s' → False) :
    codeAny (model P w) callerA (.call (.ref fa) ⟨[.ref a], []⟩) (fun r s' => r = .ok (.ret (.bool true)) /\ OldK s₁.heap s'.heap /\ s'.os = s₁.os /\ AllBare s'.gens) s₁ := by
  have rv := Cd hi;have lenV := hi.length
  have core : ∀ H : Hp, PH H → b6 K H a (ns.map V.int) → Ak P w H s₁.heap → (∀ b, H b ≠ none → b = a) → (H a ≠ none → K.lookup a = none) →
      codeAny (model P w) callerA (.call (.ref fa) ⟨[.ref a], []⟩) (fun r s' => r = .ok (.ret (.bool true)) /\ OldK s₁.heap s'.heap /\ s'.os = s₁.os /\ AllBare s'.gens) s₁ := by
    intro H hO hS hok hA hK;have base_of : ∀ {b : Addr} {o : Obj}, s₁.heap.get? b = some o → H b = none → (DC s₁.heap H).get? b = some o := fun e n => La e n
    have noA : ∀ {b : Addr} {o : Obj} {es : Array DictEntry} {ep : Nat}, s₁.heap.get? b = some o → o.data = .dict es ep → H b = none := fun {b o es ep} e d => by
      cases q : H b with
      | none => rfl
      | some u =>
        have e' : b = a := hA b (by rw [q]; simp);subst e';rw [ha] at e; cases e;have d' : Data.seq vs.toArray _ = Data.dict es ep := d;cases d'
    have nsK : ∀ {b : Addr} {m : Str → Option Value}, s₁.heap.Ns b m → (DC s₁.heap H).Ns b m := fun {b m} ⟨o, es, ep, e, d, r⟩ => ⟨o, es, ep, base_of e (noA e d), d, r⟩
    have hKb : K.In (DC s₁.heap H) := fun b o e => base_of (KX b o e) (by
      cases q : H b with
      | none => rfl
      | some u =>
        have e' : b = a := hA b (by rw [q]; simp);subst e';rw [hK (by rw [q]; simp)] at e; cases e)
    have hM : Mod K mg (DC s₁.heap H) := ⟨hKb, nsK hns, ⟨mb, nsK hb, hbb⟩, let ⟨mc, h1, h2⟩ := hlim; ⟨mc, nsK h1, h2⟩⟩;have e0 : GQ P w K mg (DC s₁.heap H) callerA [] s₁ H := ⟨rfl, hM, fun b o e => M7 e, Nat.le_of_eq (Jt _ _), trivial, fun b hb => absurd (show b ∈ ([] : List Addr) from hb) (by simp), hok, .of_eq hg⟩;refine codeAny_mono ((F _ hKb (nsK hns)).run callerA [] s₁ H ⟨[.ref a], []⟩ [.ref a] [.ref a] _ _ hr e0 (hbind s₁ (.ref a)) (.cons rfl .nil) (hsp H hO hS)) fun r s' h => ?_
    cases r with
    | error e => exact (hCX H e s' h).elim
    | ok fl =>
      cases fl with
      | next => exact False.elim h
      | brk => exact False.elim h
      | cont => exact False.elim h
      | ret u =>
        obtain ⟨v, H', os, bare, un, hok', r', q⟩ := h;have q' : v = .bl true := q;subst q';obtain rfl : u = Value.bool true := r';refine ⟨rfl, OldK.of_keep fun b o e => ?_, os, bare⟩;cases q : H b with
        | none => exact un.keep b o e q (by intro z; exact absurd (show b ∈ ([] : List Addr) from z) (by simp)) (by simp)
        | some u =>
          rcases hO b with z | ⟨ob, xs, z⟩
          · rw [q] at z; cases z
          · have z2 := un.frzs b ob _ z;obtain ⟨e1, _⟩ := hok b _ z;obtain ⟨e2, _⟩ := hok' b _ z2;rw [e] at e1; cases e1;exact e2
  cases hk : K.lookup a with
  | some o =>
    have e := KX a o hk;rw [ha] at e;cases e;refine core (fun _ => none) (fun _ => .inl rfl) (.inr ⟨_, vs.toArray, _, hk, rfl, rfl, rfl, by rw [aS, lenV]; exact hl, by simpa using rv⟩) (fun b u z => by have z' : (none : Option HO) = some u := z; cases z') (fun b z => absurd rfl z) fun z => absurd rfl z
  | none =>
    refine core (fun b => if b = a then some (.frz { cls := .type "list", data := .seq vs.toArray } (.lst (ns.map V.int))) else none) (fun b => ?_) (.inl (.inr ⟨{ cls := .type "list", data := .seq vs.toArray }, if_pos rfl⟩)) (fun b u z => ?_) (fun b z => ?_) fun _ => hk
    · by_cases hb : b = a
      · exact .inr ⟨_, _, if_pos hb⟩
      · exact .inl (if_neg hb)
    · by_cases hb : b = a
      · have z' := (if_pos hb).symm.trans z;cases z';subst hb;exact ⟨ha, by rw [ak]; exact hl, vs, _, rv, ha⟩
      · have z' := (if_neg hb).symm.trans z;cases z'
    · by_cases hb : b = a
      · exact hb
      · exact absurd (if_neg hb) z
theorem LY {l:PySem.W.OpenLaw} {n k:Nat} {q:Program} {loose:List Str} {XP:(Str->Option Value)->Heap->Prop} {YP:World->Heap->Prop} {d:DefRec} {K:Params->PySem.W.Frag} {CX:World->LQ} {sp:World->Sp} {x:Str}
  (hn:l.most=some n) (hn2:n<=sizeLine) (hdf:d.params.defaults=[]) (hr:nH k callerA)
  (hY:∀(w:World) (h:Heap),YP w h->(K w.params).In h)
  (F:∀(w:World) (mg:Str->Option Value) (fa:Addr) (h:Heap),(K w.params).In h->h.Ns mainGlobals mg->mg d.name=some (.ref fa) →
   ∃fd:FuncData,(∀(s:Shared) (u:Value),BindsTo s fd ⟨[u],[]⟩ [(x,u)]) /\
    ∀base:Heap,(K w.params).In base->base.Ns mainGlobals mg->cN l.prog w (K w.params) mg base (CX w) k fa fd [x] (sp w))
  (hsp:∀(w:World) (H:Hp) (a:Addr) (ns:List Int),ns.length<=n->PH H->b6 (K w.params) H a (ns.map V.int)->sp w [.ref a] H (fun v _=>v=.bl true) fun _ _ _=>False)
  (hCX:∀(w:World) (H:Hp) (s:Shared) (e:Value) (s':Shared),CX w [] H s (fun _ _ _=>False) e s'->False) :
  PySem.W.WalkO q loose XP YP l.row.toRowW d [] (fun f vs=>PySem.call f vs):=by
 refine Att.EY hn hdf fun w s₀ s₁ mg mb fa o pm cd doc a vs ns G Y ho hd hcd hmg hobj hints hlen hg=>?_
 have KX:=hY w _ Y;obtain ⟨fd,hb,hF⟩:=F w mg fa _ KX G.T.g hmg;exact KY KX G.T.g G.T.b G.T.builtins G.T.nolimit hg hobj hints (ah hlen hn2) hr hF hb (fun H hO hS=>hsp w H a ns hlen hO hS) fun H e s'=>hCX w H s₁ e s'
end L2


namespace L2
open PySem PySem.Spec PyProof.Rows
def inClass (s:Stmt) (j:Nat):Stmt:=match s with
 | .ClassDef _ _ _ body _ _ _ _ _ _ _=>body.getD j (.Pass ⟨0,0,0,0⟩)
 | _=>.Pass ⟨0,0,0,0⟩
def ba (s:Stmt):Arguments:=match s with
 | .FunctionDef _ a _ _ _ _ _ _ _ _=>a
 | _=>{ posonlyargs:=[],args:=[],vararg:=none,kwonlyargs:=[],kw_defaults:=[],kwarg:=none,defaults:=[] }
def aY (s:Stmt):List Stmt:=match s with
 | .FunctionDef _ _ b _ _ _ _ _ _ _=>b
 | _=>[]
def az (s:Stmt):Scope:=match s with
 | .FunctionDef _ _ _ _ _ _ sc _ _ _=>sc
 | _=>{ kind:=.function,names:=[],isGenerator:=false,isCoroutine:=false }
abbrev gJ:LQ:=fun _ _ _ _ _ _=>False
abbrev E0:XK:=fun _ _ _=>False
theorem Ex {X:Cx}:xo gJ X E0:=fun _ _ _ _ _ _ _ h=>h.elim
theorem cS {X:Cx} {k k':Nat} {f:Addr} {fd:FuncData} {ps:List Str} {sp:Sp} {x:Str} {p pos:Pos} {e:Expr} {es:List Expr} {t:TA} (F:cN X.prog X.w X.K X.mg X.base gJ k f fd ps sp) (hr:nH k' X.A) (hm:X.mg x=some (.ref f)) (hk:PySem.W.keepIn X.K (.ref f)=true) (hb:Binds X.K fd ps []) (ha:PA X (e::es) t) (hle:k<=k':=by decide) (hg:Gl X x:=by exact rfl) (hdb:(x==("__debug__":Str))=false:=by decide) (he:starEach (e::es) X.env=(false,eval e X.env)::starEach es X.env:=by rfl) (hpl:(backTo pos (starEach es X.env)).any (·.1)=false:=by rfl):PE X (.Call (.Name x p) (e::es) [] pos) (JR sp [] E0 t):=MX F (hr.mono hle) hg hm hk hb .nil Ex ha hdb he hpl
structure hZ (K:PySem.W.Frag) (x qual:Str) (st:Stmt) (f:Addr) (fd:FuncData):Prop where
 ex:∃(oc:Value) (od:Option Addr) (kV doc pm:Value) (an:Option Addr) (cdv ct:Value) (osl:Array (Option Value)),
  fd=PySem.W.fnOf x qual (ba st) (aY st) (az st) .none kV doc pm an cdv ct/\K.lookup f=some ⟨oc,od,.func fd,osl⟩/\PySem.W.codeIn K cdv qual=true
 kp:PySem.W.keepIn K (.ref f)=true
section
variable {P:Program} {w:World} {K:PySem.W.Frag} {mg:Str->Option Value} {base:Heap}
theorem hZ.ok {x qual:Str} {st:Stmt} {f:Addr} {fd:FuncData} {N ps:List Str} {k:Nat} {sp:Sp} (F:hZ K x qual st f fd) (S:bc N ps (az st)) (len:∀vs H Q E,sp vs H Q E->vs.length=ps.length)
  (hbody:∀(cdv:Value) (A:Around) (outer:List Env) (s:Shared) (H:Hp) (vs:List V) (Q:VK) (E:XK),nH k (A.deeper (envOfC qual (az st) s.heap.objs.size f cdv))->sp vs H Q E →
   ∃t,GK (JA gJ P w K mg base N qual (az st) f cdv A outer s H E).nox (aY st) t/\t { nx:=fun _ H'=>Q .non H',rt:=Q } (start N vs) H):cN P w K mg base gJ (k+1) f fd ps sp:=by
 obtain ⟨oc,od,kV,doc,pm,an,cdv,ct,osl,rfl,lk,hcd⟩:=F.ex;refine Q1 lk hcd S len fun A outer s H vs Q E hr hsp=>?_
 obtain ⟨t,h,q⟩:=hbody cdv A outer s H vs Q E hr hsp;exact ⟨t,h.nox,q⟩
theorem hZ.binds {x qual:Str} {st:Stmt} {f:Addr} {fd:FuncData} {ps:List Str} (F:hZ K x qual st f fd)
  (h:∀(kV doc pm:Value) (an:Option Addr) (cdv ct:Value) (us:List Value),us.length=ps.length->bindArgs (PySem.W.fnOf x qual (ba st) (aY st) (az st) .none kV doc pm an cdv ct) ⟨us,[]⟩=pure (ps.zip us)):Binds K fd ps []:=by
 obtain ⟨oc,od,kV,doc,pm,an,cdv,ct,osl,rfl,lk,hcd⟩:=F.ex;exact .all (h kV doc pm an cdv ct)
theorem bN {x qual:Str} {st:Stmt} {f:Addr} {oc:Value} {od an:Option Addr} {osl:Array (Option Value)} {kV doc pm cdv ct:Value} (l:K.lookup f=some ⟨oc,od,.func (PySem.W.fnOf x qual (ba st) (aY st) (az st) .none kV doc pm an cdv ct),osl⟩)
  (c:PySem.W.codeIn K cdv qual=true) (k:PySem.W.keepIn K (.ref f)=true):hZ K x qual st f (PySem.W.fnOf x qual (ba st) (aY st) (az st) .none kV doc pm an cdv ct):=⟨⟨oc,od,kV,doc,pm,an,cdv,ct,osl,rfl,l,c⟩,k⟩
end
theorem bT {n:Nat} (h:n<=1000):n < sizeLine:=bC h (by decide)
section
variable {X:Cx}
theorem pv (i:Nat) {x:Str} {pos:Pos} (hN:X.N[i]?=some x:=by rfl) (hv:Sa X.env.scope x:=by first | exact Or.inl rfl | exact Or.inr (Or.inl rfl) | exact Or.inr (Or.inr rfl)) (hd:(x == ("__debug__":Str))=false:=by decide)
  (hcd:(x == ("__classdict__":Str))=false:=by decide):PE X (.Name x pos) (Oj i):=O4 hN hv hd hcd
end
theorem M9 {A B:Prop} (h:B):if false=true then A else B:=by
 rw[if_neg bf];exact h
theorem QU {A B:Prop} (h:A):if true=true then A else B:=by
 rw[if_pos rfl];exact h
theorem iX {c A B:Prop} [Decidable c] (h1:c->A) (h2:¬c->B):if c then A else B:=by
 by_cases h:c
 ·rw[if_pos h];exact h1 h
 ·rw[if_neg h];exact h2 h
def aO (H H':Hp):Prop:=∀b o,H b=some o->H' b=some o
theorem aO.refl (H:Hp):aO H H:=fun _ _ h=>h
theorem aO.trans {H H1 H2:Hp} (a:aO H H1) (b:aO H1 H2):aO H H2:=fun c o h=>b c o (a c o h)
theorem aO.free {H H':Hp} (e:aO H H') {l:Addr} (h:H' l=Option.none):H l=Option.none:=by
 cases q:H l with
 | none=>rfl
 | some o =>
  rw[e l o q] at h;cases h
theorem aO.seq {K:PySem.W.Frag} {H H':Hp} {a:Addr} {xs:List V} (e:aO H H') (h:b6 K H a xs):b6 K H' a xs:=by
 rcases h with (h | ⟨o,h⟩) | h
 ·exact .inl (.inl (e _ _ h))
 ·exact .inl (.inr ⟨o,e _ _ h⟩)
 ·exact .inr h
end L2
namespace Nm
theorem Lf (a b:Int):Int.gcd b (a.fmod b)=Int.gcd a b:=by
 rw[Int.fmod_def,nA a b];apply Nat.dvd_antisymm
 ·apply LO
  ·exact fe ..
  ·have h1:=fe (a:=b) (b:=a - b*a.fdiv b);have h2:=fF (a:=b) (b:=a - b*a.fdiv b);have h3:=Int.dvd_add h2 (pV (c:=a.fdiv b) h1);rwa [Int.sub_add_cancel] at h3
 ·apply LO
  ·exact fe ..
  ·exact Int.dvd_sub (fF ..) (pV (fe ..))
theorem Lg (a b:Int):Int.gcd b (a % b)=Int.gcd a b:=by
 rw[Int.emod_def,nA a b];apply Nat.dvd_antisymm
 ·apply LO
  ·exact fe ..
  ·have h1:=fe (a:=b) (b:=a - b*(a / b));have h2:=fF (a:=b) (b:=a - b*(a / b));have h3:=Int.dvd_add h2 (pV (c:=a / b) h1);rwa [Int.sub_add_cancel] at h3
 ·apply LO
  ·exact fe ..
  ·exact Int.dvd_sub (fF ..) (pV (fe ..))
theorem Ng (a b:Int) (h:b≠0):(a.fmod b).natAbs < b.natAbs:=by
 rcases Int.lt_or_gt_of_ne h with h | h
 ·have e:a.fmod b=-((-a).fmod (-b)):=by
   have:=Int.neg_fmod_neg (-a) (-b);simp only[Int.neg_neg] at this;exact this
  have h1:=Int.fmod_nonneg_of_pos (-a) (b:=-b) (by lia);have h2:=Int.fmod_lt_of_pos (-a) (b:=-b) (by lia)
  lia
 ·have h1:=Int.fmod_nonneg_of_pos a h;have h2:=Int.fmod_lt_of_pos a h
  lia
def g (t b:Int):Int:=(Int.gcd t b:Int)
def lo (t b:Int):Int:=t / g t b
def hi (t b:Int):Int:=b / g t b
theorem Bq {t b:Int} (h:b≠0):0 < g t b:=by
 unfold g;have:0 < Int.gcd t b:=LV _ h
 lia
theorem Bj (t b:Int):lo t b*g t b=t:=Int.ediv_mul_cancel (fe ..)
theorem yS (t b:Int):hi t b*g t b=b:=Int.ediv_mul_cancel (fF ..)
theorem DE {t b:Int} (h:0 < b):0 < hi t b:=by
 have h1:=Bq (t:=t) (b:=b) (by lia);have h2:=yS t b;by_cases h3:0 < hi t b
 ·exact h3
 ·have:hi t b*g t b<=0:=Int.mul_nonpos_of_nonpos_of_nonneg (by lia) (by lia)
  lia
theorem Bh {t b:Int} (h:b≠0):Int.gcd (lo t b) (hi t b)=1:=by
 have h1:=Bq (t:=t) h;have e:=Int.gcd_mul_right (lo t b) (g t b) (hi t b);rw[Bj,yS] at e;have e2:(g t b).natAbs=Int.gcd t b:=by unfold g;simp
 rw[e2] at e;have h2:0 < Int.gcd t b:=LV _ h;exact Nat.eq_of_mul_eq_mul_right h2 (by rw[<- e,pT])
theorem Bi (t b : Int) : lo t b * b = t * hi t b := by
  have h1 := Bj t b;have h2 := yS t b
  calc lo t b * b = lo t b * (hi t b * g t b) := by rw [h2]
    _ = (lo t b * g t b) * hi t b := by rw [fP (hi t b), <- dJ]
    _ = t * hi t b := by rw [h1]
theorem sV {a b c:Int} (h:Int.gcd a b=1) (hd:a∣b*c):a∣c:=by
 have h1:a.natAbs∣b.natAbs*c.natAbs:=by rw[<- cH];exact eT.mpr hd
 have h2:Nat.Coprime a.natAbs b.natAbs:=h;exact eT.mp (h2.dvd_of_dvd_mul_left h1)
theorem uniq {a b c d:Int} (hb:0 < b) (hd:0 < d) (h1:Int.gcd a b=1) (h2:Int.gcd c d=1) (e:a*d=c*b):a=c/\b=d:=by
 have e1:b∣d:=by
  have:b∣a*d:=⟨c,by rw[e,fP]⟩;exact sV (by rw[nA];exact h1) this
 have e2:d∣b:=by
  have:d∣c*b:=⟨a,by rw[<- e,fP]⟩;exact sV (by rw[nA];exact h2) this
 have e3:b=d:=Int.dvd_antisymm (by lia) (by lia) e1 e2;subst e3;exact ⟨wZ (by lia) e,rfl⟩
theorem Pc {t b c d : Int} (hb : 0 < b) (hd : 0 < d) (h2 : Int.gcd c d = 1) (e : t * d = c * b) : lo t b = c /\ hi t b = d := by
  refine uniq (DE hb) hd (Bh (by lia)) h2 ?_;have h := Bi t b;have hb' : b ≠ 0 := by lia
  apply wZ hb'
  calc lo t b * d * b = lo t b * b * d := by rw [dJ, fP d b, <- dJ]
    _ = t * hi t b * d := by rw [h]
    _ = t * d * hi t b := by rw [dJ, fP (hi t b), <- dJ]
    _ = c * b * hi t b := by rw [e]
    _ = c * hi t b * b := by rw [dJ, fP b, <- dJ]
theorem Pd {a b:Int} (hb:0 < b) (h:Int.gcd a b=1):lo a b=a/\hi a b=b:=Pc hb hb h rfl
theorem rk {a b:Int} (h:b≠0):a.natAbs<=(a*b).natAbs:=by
 rw[cH];exact dD _ (Int.natAbs_pos.mpr h)
theorem lo_le {t b:Int} (h:b≠0):(lo t b).natAbs<=t.natAbs:=by
 have:=rk (a:=lo t b) (b:=g t b) (by have:=Bq (t:=t) h;lia);rwa [Bj] at this
theorem NV {t b:Int} (h:b≠0):(hi t b).natAbs<=b.natAbs:=by
 have:=rk (a:=hi t b) (b:=g t b) (by have:=Bq (t:=t) h;lia);rwa [yS] at this
def Sz (k:Nat) (x:Int):Prop:=x.natAbs < 2^k
theorem Sz.mono {j k:Nat} {x:Int} (h:Sz j x) (l:j<=k):Sz k x:=bI h (ao (by decide) l)
theorem Sz.mul {j k:Nat} {x y:Int} (h1:Sz j x) (h2:Sz k y):Sz (j+k) (x*y):=by
 unfold Sz at *
 rw[cH,aK];exact Nat.mul_lt_mul'' h1 h2
theorem Sz.neg {k:Nat} {x:Int} (h:Sz k x):Sz k (-x):=by unfold Sz at *;rw[rh];exact h
theorem Sz.le {k:Nat} {x y:Int} (h:Sz k y) (l:x.natAbs<=y.natAbs):Sz k x:=bC l h
theorem Sz.hi {k:Nat} {t b:Int} (h:Sz k b) (hb:b≠0):Sz k (hi t b):=h.le (NV hb)
end Nm
namespace L2
open PySem PySem.Spec PyProof.Rows
structure Bk (env:Env) (scope:Scope) (own capN:List Str):Prop where
 kind:scope.kind=.function
 locs:∀y∈scope.names,y.2=.local->scope.names.lookup y.1=some .local
 ownk:∀x∈own,scope.names.lookup x=some .local\/scope.names.lookup x=some .cell
 cells:∀y∈scope.names,y.2=.cell->y.1∈own/\y.1∉capN
 frees:∀y∈scope.names,y.2=.free->y.1∈capN/\y.1∉own
 capf:∀x∈capN,scope.names.lookup x=some .free
 caps:∀x∈capN,env.kindOf x=some .cell\/env.kindOf x=some .free
def RE (scope:Scope) (own capN:List Str):Bool :=
 decide (scope.kind=.function) && scope.names.all (fun y=>decide (y.2=.local->scope.names.lookup y.1=some .local) && decide (y.2=.cell->y.1∈own/\y.1∉capN) && decide (y.2=.free->y.1∈capN/\y.1∉own)) &&
 own.all (fun x=>decide (scope.names.lookup x=some .local\/scope.names.lookup x=some .cell)) && capN.all fun x=>decide (scope.names.lookup x=some .free)
def CI (env:Env):List Str->Bool
 | []=>true
 | x :: r=>(match env.kindOf x with | some .cell=>true | some .free=>true | _=>false) && CI env r
theorem ET {env:Env}:∀{capN:List Str},CI env capN=true->∀x∈capN,env.kindOf x=some .cell\/env.kindOf x=some .free
 | [],_,_,h=>nomatch h
 | y :: r,h,x,hx=>by
  unfold CI at h;rw[dZ] at h;rcases aJ.mp hx with e | hx
  ·subst e;have h1:=h.1
   split at h1
   ·rename_i e;exact .inl e
   ·rename_i e;exact .inr e
   ·cases h1
  ·exact ET h.2 x hx
theorem Bk.of {env:Env} {scope:Scope} {own capN:List Str} (h1:RE scope own capN=true) (h2:CI env capN=true):Bk env scope own capN:=by
 unfold RE at h1;rw[dZ,dZ,dZ,sG,sG,sG] at h1;obtain ⟨⟨⟨a1,a2⟩,a3⟩,a4⟩:=h1
 have a2':∀y∈scope.names,(y.2=.local->scope.names.lookup y.1=some .local)/\(y.2=.cell->y.1∈own/\y.1∉capN)/\(y.2=.free->y.1∈capN/\y.1∉own):=fun y hy=>by
  have q:=a2 y hy;rw[dZ,dZ] at q;exact ⟨of_decide_eq_true q.1.1,of_decide_eq_true q.1.2,of_decide_eq_true q.2⟩
 exact ⟨of_decide_eq_true a1,fun y hy=>(a2' y hy).1,fun x hx=>of_decide_eq_true (a3 x hx),fun y hy=>(a2' y hy).2.1,fun y hy=>(a2' y hy).2.2,fun x hx=>of_decide_eq_true (a4 x hx),ET h2⟩
def d7 (env:Env):List (Str×NameKind)->List (Str×Addr)->List (Str×Addr)
 | [],acc=>acc
 | (n,k) :: r,acc=>if k == .free then d7 env r ((n,(env.cells.lookup n).getD 0) :: acc) else d7 env r acc
theorem ja (env:Env):∀(names:List (Str×NameKind)) (acc:List (Str×Addr)),d7 env names acc=d7 env names []++acc
 | [],_=>rfl
 | (n,k) :: r,acc=>by
  unfold d7
  split
  ·rw[ja env r (_ :: acc),ja env r [_],cw];rfl
  ·exact ja env r acc
theorem tz (env:Env):∀(names:List (Str×NameKind)) {x:Str} {c:Addr},(x,c)∈d7 env names []->(x,NameKind.free)∈names/\c=(env.cells.lookup x).getD 0
 | [],_,_,h=>nomatch h
 | (n,k) :: r,x,c,h=>by
  unfold d7 at h
  split at h
  ·rename_i hk
   have ek:k=.free:=by simpa using hk
   subst ek;rw[ja] at h;rcases ax.mp h with h | h
   ·have q:=tz env r h;exact ⟨bV _ q.1,q.2⟩
   ·have e:(x,c)=(n,(env.cells.lookup n).getD 0):=by simpa using h
    cases e;exact ⟨dk,rfl⟩
  ·have q:=tz env r h;exact ⟨bV _ q.1,q.2⟩
theorem jN {α:Type}:∀{l:List (Str×α)} {x:Str} {c:α},(x,c)∈l->∃d,l.lookup x=some d
 | (k,v) :: r,x,c,h=>by
  rw[ni];cases hb:x == k with
  | true=>exact ⟨v,rfl⟩
  | false =>
   rcases aJ.mp h with e | h
   ·cases e;simp at hb
   ·exact jN h
theorem tD (env:Env):∀(names:List (Str×NameKind)) {x:Str},(x,NameKind.free)∈names->∃c,(x,c)∈d7 env names []
 | (n,k) :: r,x,h=>by
  unfold d7;rcases aJ.mp h with e | h
  ·cases e;rw[if_pos (by decide),ja];exact ⟨_,bX _ dk⟩
  ·obtain ⟨c,q⟩:=tD env r h
   split
   ·rw[ja];exact ⟨c,ur _ q⟩
   ·exact ⟨c,q⟩
theorem Bt {scope : Scope} {env : Env} (h : ∀ y ∈ scope.names, y.2 = .free → ∃ c, env.cells.lookup y.1 = some c) : closureFor scope env = pure (d7 env scope.names []) := by
  have gen : ∀ (names : List (Str × NameKind)) (acc : List (Str × Addr)) (f : Str × NameKind → List (Str × Addr) → Sem (ForInStep (List (Str × Addr)))),
      (∀ name kind cells, f (name, kind) cells = if kind == .free then (do let a <- cellOf env name; pure (.yield ((name, a) :: cells))) else pure (.yield cells)) →
      (∀ y ∈ names, y.2 = .free → ∃ c, env.cells.lookup y.1 = some c) → forIn names acc f = pure (d7 env names acc) := by
    intro names
    induction names with
    | nil => intro acc f hf _; rw [C1]; rfl
    | cons y r ih =>
      intro acc f hf hh;obtain ⟨n, k⟩ := y;rw [LU, hf];unfold d7;by_cases hk : (k == NameKind.free) = true
      · obtain ⟨c, hc⟩ := hh (n, k) dk (by simpa using hk);have hc' : env.cells.lookup n = some c := hc;have e : cellOf env n = pure c := by unfold cellOf; rw [hc']
        rw [if_pos hk, if_pos hk, e, hc'];simp only [pure_bind, Option.getD_some];exact ih _ f hf fun y hy => hh y (bV _ hy)
      · rw [if_neg hk, if_neg hk];simp only [pure_bind];exact ih _ f hf fun y hy => hh y (bV _ hy)
  simp only [closureFor];rw [gen scope.names [] _ (fun name kind cells => by cases hkc : kind == NameKind.free <;> simp [hkc]) h];rfl

theorem fK:∀(names:List (Str×NameKind)) (n:Nat) (acc:List (Str×Addr)),cellsFrom n names acc=cellsFrom n names []++acc
 | [],_,_=>rfl
 | (x,k) :: r,n,acc=>by
  unfold cellsFrom
  split
  ·rw[fK r (n+1) (_ :: acc),fK r (n+1) [_],cw];rfl
  ·exact fK r n acc
theorem mO:∀(names:List (Str×NameKind)) (n:Nat) {x:Str} {c:Addr},(x,c)∈cellsFrom n names []->(x,NameKind.cell)∈names
 | [],_,_,_,h=>nomatch h
 | (y,k) :: r,n,x,c,h=>by
  unfold cellsFrom at h
  split at h
  ·rename_i hk
   have ek:k=.cell:=by simpa using hk
   subst ek;rw[fK] at h;rcases ax.mp h with h | h
   ·exact bV _ (mO r _ h)
   ·have e:(x,c)=(y,n):=by simpa using h
    cases e;exact dk
  ·exact bV _ (mO r _ h)
def yX (env:Env) (scope:Scope) (C:Addr):Env :=
 { scope:=relabel scope env,locals:=C,globals:=env.globals,cells:=cellsFrom (C+1) scope.names (d7 env scope.names []),qual:=env.qual,func:=none,code:=env.code,frame:=env.frame,builtins:=env.builtins }
theorem EC {M:Model} {A:Around} {E:Value->Shared->Prop} {s:Shared} {scope:Scope} {g:Addr} {cl:List (Str×Addr)} {qual:Str} {env:Env} {Q:Env->Shared->Prop}
  (h:Q (newEnv scope s.heap.objs.size g (cellsFrom (s.heap.objs.size+1) scope.names cl) qual none .none (some env) builtinsNs) { s with heap:=pushCells (s.heap.push { cls:=.type "dict",data:=.dict #[] }) scope.names }) :
  wpAny M A (newFunctionEnv scope g cl [] qual none .none (some env)) Q E s:=by
 simp only[newFunctionEnv,Option.isSome_some,if_true];refine wpAny_bind (wpAny_alloc ?_);refine wpAny_bind (wpAny_layCells _ (fun name kind cells=>by cases hkc:kind == NameKind.cell <;> simp [hkc]) _ _ _ _ ?_);rw[show ({ s with heap:=s.heap.push { cls:=.type "dict",data:=.dict #[] } }:Shared).heap.objs.size=s.heap.objs.size+1 from Heap.size_push ..];rw[C1];exact wpAny_bind (wpAny_pure (wpAny_pure h))
theorem xD {scope:Scope} {env:Env} {x:Str}:∀{k:NameKind},(relabel scope env).names.lookup x=some k->∃k0,scope.names.lookup x=some k0/\(k=k0\/(k0=.free/\k=.cell)):=by
 unfold relabel;show ∀{k:NameKind},(scope.names.map fun (n,k)=>if (k == NameKind.free && env.scope.kind == .function && env.kindOf n == some .cell) then (n,NameKind.cell) else (n,k)).lookup x=some k->_
 induction scope.names with
 | nil=>intro k h;cases h
 | cons y r ih =>
  intro k h;obtain ⟨n,k1⟩:=y;rw[ir,ni] at h;rw[ni];by_cases hc:(k1 == NameKind.free && env.scope.kind == .function && env.kindOf n == some .cell)=true
  ·simp only[hc,if_true] at h;cases hb:x == n with
   | true =>
    simp only[hb] at h
    have e1:k1=.free:=by
     rw[dZ,dZ] at hc;simpa using hc.1.1
    cases h;exact ⟨k1,rfl,.inr ⟨e1,rfl⟩⟩
   | false=>simp only[hb] at h;exact ih h
  ·have hc':(k1 == NameKind.free && env.scope.kind == .function && env.kindOf n == some .cell)=false:=by simpa using hc
   simp only[hc',jL,if_false] at h;cases hb:x == n with
   | true=>simp only[hb] at h;cases h;exact ⟨_,rfl,.inl rfl⟩
   | false=>simp only[hb] at h;exact ih h
theorem Es {scope:Scope} {env:Env} {x:Str}:scope.names.lookup x=some .free->(relabel scope env).names.lookup x=some .cell\/(relabel scope env).names.lookup x=some .free:=by
 unfold relabel;show _->(scope.names.map fun (n,k)=>if (k == NameKind.free && env.scope.kind == .function && env.kindOf n == some .cell) then (n,NameKind.cell) else (n,k)).lookup x=some .cell\/(scope.names.map fun (n,k)=>if (k == NameKind.free && env.scope.kind == .function && env.kindOf n == some .cell) then (n,NameKind.cell) else (n,k)).lookup x=some .free
 induction scope.names with
 | nil=>intro h;cases h
 | cons y r ih =>
  intro h;obtain ⟨n,k1⟩:=y;rw[ni] at h;rw[ir];by_cases hc:(k1 == NameKind.free && env.scope.kind == .function && env.kindOf n == some .cell)=true
  ·simp only[hc,if_true,ni];cases hb:x == n with
   | true=>exact .inl rfl
   | false=>rw[hb] at h;exact ih h
  ·have hc':(k1 == NameKind.free && env.scope.kind == .function && env.kindOf n == some .cell)=false:=by simpa using hc
   simp only[hc',jL,if_false,ni];cases hb:x == n with
   | true=>rw[hb] at h;cases h;exact .inr rfl
   | false=>rw[hb] at h;exact ih h
structure Bz where
 s:Shared
 H:Hp
 fp:List Addr
 C:Addr
def zQ (X:Cx) (own capN:List Str) (scope:Scope) (Z:Bz):Cx where
 prog:=X.prog
 w:=X.w
 K:=X.K
 mg:=X.mg
 base:=X.base
 A:=X.A
 N:=own++capN
 s₀:=Z.s
 H₀:=Z.H
 env:=yX X.env scope Z.C
 outer:=X.stack
 stack:=X.stack
 ex:=Z.fp
 fn:=fun x=>own.contains x
 calm:=true
 pn:=[]
 xe:=fun _ _=>False
section
variable {X:Cx} {pins:List (Addr×Obj)} {σ:St} {own capN:List Str} {scope:Scope} {Z:Bz}
theorem kr (B:Bk X.env scope own capN) (I:Inv X pins σ Z.H Z.s) {x:Str} {c:Addr} (h:(yX X.env scope Z.C).cells.lookup x=some c) :
  (x∈own/\(x,c)∈cellsFrom (Z.C+1) scope.names [])\/(x∈capN/\x∉own/\X.env.cells.lookup x=some c):=by
 have h':(cellsFrom (Z.C+1) scope.names (d7 X.env scope.names [])).lookup x=some c:=h;rw[fK] at h';rcases ax.mp (mem_of_lookup h') with m | m
 ·exact .inl ⟨(B.cells _ (mO _ _ m) rfl).1,m⟩
 ·obtain ⟨m1,e⟩:=tz _ _ m;obtain ⟨q1,q2⟩:=B.frees _ m1 rfl;obtain ⟨d,hd⟩:=I.ok.has x (B.caps x q1);rw[hd] at e;exact .inr ⟨q1,q2,by rw[hd,e];rfl⟩
theorem Nu (B:Bk X.env scope own capN) (I:Inv X pins σ Z.H Z.s) {x:Str} {c:Addr} (hx:x∈capN) (h:X.env.cells.lookup x=some c):(yX X.env scope Z.C).cells.lookup x=some c:=by
 have hm:(x,NameKind.free)∈scope.names:=mem_of_lookup (B.capf x hx);obtain ⟨c1,m1⟩:=tD X.env scope.names hm
 have hs:∃d,(yX X.env scope Z.C).cells.lookup x=some d:=by
  show ∃d,(cellsFrom (Z.C+1) scope.names (d7 X.env scope.names [])).lookup x=some d
  rw[fK];exact jN (bX _ m1)
 obtain ⟨d,hd⟩:=hs;rcases kr B I hd with ⟨q,m⟩ | ⟨_,_,q⟩
 ·exact absurd hx (B.cells _ (mO _ _ m) rfl).2
 ·rw[h] at q;cases q;exact hd
theorem Je (h:Heap) (C:Addr) (hC:h.objs.size=C+1) (names:List (Str×NameKind)):CellsOk (pushCells h names) (C+1) (cellsFrom (C+1) names []):=by
 have q:=cellsFrom_ok names h (C+1) [] ⟨fun _ _ hm=>(nomatch hm),List.Pairwise.nil⟩ (by rw[hC];exact ar _);rwa [hC] at q
theorem DR (I:Inv X pins σ Z.H Z.s) {x:Str} {c:Addr} (h:X.env.cells.lookup x=some c):@LT.lt Nat instLTNat c Z.s.heap.objs.size:=by
 obtain ⟨v,q⟩:=I.cell x c h;exact q.lt
theorem Px {h1:Heap} (I:Inv X pins σ Z.H Z.s) (hc:X.calm=true) (B:Bk X.env scope own capN) (hC:Z.s.heap.objs.size<=Z.C) (hcl:CellsOk h1 (Z.C+1) (cellsFrom (Z.C+1) scope.names []))
  (hf:∀b∈Z.fp,mh X pins Z.H b/\@LT.lt Nat instLTNat b Z.s.heap.objs.size):(zQ X own capN scope Z).Ok:=by
 refine ⟨I.ok.mod,B.kind,I.ok.glob,I.ok.blt,hC,fun x y c h1 h2=>?_,fun x hx=>?_,fun x c hx h=>?_,fun _=>I.ok.hd hc,I.ok.frames,.inl rfl,fun b hb=>⟨?_,fun x c h=>?_⟩,I.bs,ah I.ok.bsz I.sz,fun b o e hb=>?_,fun b hb hz=>?_,I.stack,I.stkFree⟩
 ·rcases kr B I h1 with ⟨q1,m1⟩ | ⟨q1,n1,m1⟩ <;> rcases kr B I h2 with ⟨q2,m2⟩ | ⟨q2,n2,m2⟩
  ·exact name_of_addr hcl.apart m1 m2
  ·have l1:=(hcl.empty _ _ m1).2;have l2:=DR I m2
   lia
  ·have l1:=(hcl.empty _ _ m2).2;have l2:=DR I m1
   lia
  ·exact I.ok.inj x y c m1 m2
 ·have hx':(relabel scope X.env).names.lookup x=some .cell\/(relabel scope X.env).names.lookup x=some .free:=hx
  have hk:scope.names.lookup x=some .cell\/scope.names.lookup x=some .free:=by
   rcases hx' with h | h
   ·obtain ⟨k0,e,q | ⟨q,_⟩⟩:=xD h
    ·exact .inl (by rw[e,<- q])
    ·exact .inr (by rw[e,q])
   ·obtain ⟨k0,e,q | ⟨_,q⟩⟩:=xD h
    ·exact .inr (by rw[e,<- q])
    ·cases q
  show ∃c,(cellsFrom (Z.C+1) scope.names (d7 X.env scope.names [])).lookup x=some c
  rcases hk with h | h
  ·exact Qa.mp (Am scope.names (Z.C+1) _ (.inl h))
  ·obtain ⟨c,m⟩:=tD X.env scope.names (mem_of_lookup h);rw[fK];exact jN (bX _ m)
 ·have ho:x∈own:=by have hx':own.contains x=true:=hx;simpa using hx'
  rcases kr B I h with ⟨_,m⟩ | ⟨_,n,_⟩
  ·have:=(hcl.empty _ _ m).2;have hC':Z.s.heap.objs.size<=Z.C:=hC;show Z.s.heap.objs.size<=c
   lia
  ·exact absurd ho n
 ·intro e;have e':@Eq Nat b Z.C:=e;have:=(hf b hb).2
  lia
 ·have l:=(hf b hb).2;rcases kr B I h with ⟨_,m⟩ | ⟨_,_,m⟩
  ·intro e;have e':@Eq Nat c b:=e;have:=(hcl.empty _ _ m).2
   lia
  ·exact (hf b hb).1.2.2.2.2.1 x c m
 ·obtain ⟨_,_,_,f3,_⟩:=(hf b hb).1;rcases f3 with f3 | f3
  ·exact I.ok.noex b o e f3
  ·exact absurd (bI (Heap.lt_size e) (ah I.ok.bsz f3)) (d9 _)
 ·obtain ⟨_,f1,f2,_⟩:=(hf b hb).1;rcases aJ.mp (I.stkSub b hz) with e | e
  ·exact f1 e
  ·exact f2 e
def JE (k:Nat) (cap:List Nat) (σ:St):St:=List.replicate k none++cap.map fun j=>(σ[j]?).join
def zF (X:Cx) (capN:List Str) (cap:List Nat):Prop:=cap.map (fun j=>X.N[j]?)=capN.map some
theorem zF.get {cap:List Nat} (h:zF X capN cap) {i:Nat} {x:Str} (e:capN[i]?=some x):∃j,cap[i]?=some j/\X.N[j]?=some x:=by
 have q:=congrArg (fun l=>l[i]?) h;simp only[aG,e,Option.map_some] at q;cases hc:cap[i]? with
 | none=>rw[hc] at q;cases q
 | some j=>rw[hc] at q;exact ⟨j,rfl,by simpa using q⟩
theorem EU {cap:List Nat} {h':Heap} {m:Str->Option Value} (I:Inv X pins σ Z.H Z.s) (B:Bk X.env scope own capN) (hcap:zF X capN cap)
  (kc:∀x c,X.env.cells.lookup x=some c->∀v,Z.s.heap.IsCell c v->h'.IsCell c v) {i:Nat} {x:Str} {v:V} (e1:(own++capN)[i]?=some x) (e2:(JE own.length cap σ)[i]?=some (some v)) :
  ∃u,RelV v u/\Look (yX X.env scope Z.C) h' m x u:=by
 have hi:own.length<=i:=by
  by_cases hi:own.length<=i
  ·exact hi
  ·exfalso
   unfold JE at e2;rw[bG (by simpa using hi),cW] at e2
   split at e2 <;> cases e2
 rw[be hi] at e1;unfold JE at e2;rw[be (by simpa using hi),aF,aG] at e2;obtain ⟨j,hj,hN⟩:=hcap.get e1;rw[hj] at e2;have e3:(σ[j]?).join=some v:=by simpa using e2
 have e4:σ[j]?=some (some v):=by
  cases q:σ[j]? with
  | none=>rw[q] at e3;cases e3
  | some o=>rw[q] at e3;simp at e3;rw[e3]
 have hx:x∈capN:=aA e1;have hk:=B.caps x hx;obtain ⟨m0,_,hl⟩:=I.loc;obtain ⟨u,r,l⟩:=hl j x v hN e4 (.inr hk);refine ⟨u,r,.inr ⟨Es (B.capf x hx),?_⟩⟩;rcases l with ⟨hk2,_⟩ | ⟨_,c,hc,z⟩
 ·rcases hk with hk | hk
  ·rw[hk] at hk2;cases hk2
  ·rw[hk] at hk2;cases hk2
 ·exact ⟨c,Nu B I hx hc,kc x c hc _ z⟩
theorem Q0 (I:Inv X pins σ Z.H Z.s) {b:Addr} (h:b∈JG X.stack):@LT.lt Nat instLTNat b Z.s.heap.objs.size:=by
 obtain ⟨_,o,ho,_⟩:=I.stack.mem h;exact Heap.lt_size ho
theorem Nr {cap:List Nat} {h1:Heap} {D:Addr} {oD:Obj} {t1:Nat} (I:Inv X pins σ Z.H Z.s) (hc:X.calm=true) (B:Bk X.env scope own capN) (hcap:zF X capN cap) (hC:Z.s.heap.objs.size<=Z.C)
  (hcl:CellsOk h1 (Z.C+1) (cellsFrom (Z.C+1) scope.names [])) (hf:∀b∈Z.fp,mh X pins Z.H b/\@LT.lt Nat instLTNat b Z.s.heap.objs.size)
  (hk:∀b o,Z.s.heap.get? b=some o->h1.get? b=some o) (hn:h1.Ns Z.C fun _=>none) (hD:Z.s.heap.objs.size<=D) (hDC:D≠Z.C) (hoD:h1.get? D=some oD) (hdD:∀v,oD.data≠.cell v) :
  Inv (zQ X own capN scope Z) [(D,oD)] (JE own.length cap σ) Z.H { Z.s with heap:=h1,toks:=t1 }:=by
 refine ⟨Px I hc B hC hcl hf,rfl,I.bare,Un.kept hk,⟨_,hn,fun i x v e1 e2 _=>EU I B hcap (fun x c _ v z=>z.keeps hk) e1 e2⟩,fun x c h=>?_,I.hok.fresh hC,fun x c h=>?_,fun p hp=>?_,I.hok.kept hk,?_⟩
 ·rcases kr B I h with ⟨_,m⟩ | ⟨_,_,m⟩
  ·exact ⟨none,(hcl.empty _ _ m).1⟩
  ·obtain ⟨v,q⟩:=I.cell x c m;exact ⟨v,q.keeps hk⟩
 ·rcases kr B I h with ⟨_,m⟩ | ⟨_,_,m⟩
  ·exact I.hok.fresh (by have:=(hcl.empty _ _ m).2;lia)
  ·exact I.freeC x c m
 ·have e:p=(D,oD):=by simpa [zQ] using hp
  subst e;exact ⟨hoD,I.hok.fresh hD,hDC,fun z=>d9 _ (bI (Q0 I z) hD),hdD⟩
 ·show (JE own.length cap σ).length=(own++capN).length
  have:=congrArg List.length hcap;simp only[ak] at this;unfold JE;simp [this]
theorem LB {cap:List Nat} {pins':List (Addr×Obj)} {σ':St} {H':Hp} {s':Shared} (I:Inv X pins σ Z.H Z.s) (B:Bk X.env scope own capN) (hcap:zF X capN cap) (hf:∀b∈Z.fp,mh X pins Z.H b/\@LT.lt Nat instLTNat b Z.s.heap.objs.size)
  (J:Inv (zQ X own capN scope Z) pins' σ' H' s'):Inv (zQ X own capN scope Z) pins' (JE own.length cap σ) H' s':=by
 refine ⟨J.ok,J.os,J.bare,J.base,?_,J.cell,J.free,J.freeC,J.pin,J.hok,?_⟩
 ·obtain ⟨m,hn,_⟩:=J.loc;refine ⟨m,hn,fun i x v e1 e2 _=>EU I B hcap (fun x c hx v z=>?_) e1 e2⟩;obtain ⟨o,ho,hd⟩:=z;obtain ⟨sl,e⟩:=J.base.any ho (I.freeC x c hx) fun z=>(hf c z).1.2.2.2.2.1 x c hx rfl
  exact ⟨_,e,hd⟩
 ·show (JE own.length cap σ).length=(own++capN).length
  have:=congrArg List.length hcap;simp only[ak] at this;unfold JE;simp [this]
theorem Nt {σ':St} {H':Hp} {s':Shared} {D:Addr} {its:List Value} {n:Nat} {ys:List V} (I:Inv X pins σ Z.H Z.s) (hf:∀b∈Z.fp,mh X pins Z.H b/\@LT.lt Nat instLTNat b Z.s.heap.objs.size) (hD:Z.s.heap.objs.size<=D)
  (J:Inv (zQ X own capN scope Z) [(D,{ cls:=.type "list",data:=.seq its.toArray n })] σ' H' s') (r:cR ys its) (hz:ys.length<=sizeLine) :
  Inv X pins σ (upd H' D (.lst ys)) s':=by
 have pD:=J.pin (D,{ cls:=.type "list",data:=.seq its.toArray n }) (by simp);have ne:∀{b:Addr} {o:Obj},Z.s.heap.get? b=some o->b≠D:=fun e z=>by subst z;exact d9 _ (bI (Heap.lt_size e) hD)
 have nt:∀{b:Addr} {u:HO},H' b=some u->b≠D:=fun e z=>by rw[z,pD.2.1] at e;cases e
 refine I.call' (ch:=Z.fp) J.os ⟨J.base.keep,J.base.slot,fun b o e h hx=>?_,J.base.there,fun b xs e=>?_,fun b o u e=>?_,fun b ps e=>?_⟩ (fun b u e=>?_) J.bare fun b hb=>?_
 ·rw[bA (ne e)];exact J.base.free b o e h hx
 ·have q:=J.base.tups b xs e;rw[bA (nt q)];exact q
 ·have q:=J.base.frzs b o u e;rw[bA (nt q)];exact q
 ·obtain ⟨more,q⟩:=J.base.tbls b ps e;exact ⟨more,by rw[bA (nt q)];exact q⟩
 ·by_cases hb:b=D
  ·subst hb;rw[aQ] at e;cases e;exact ⟨hz,its,n,r,pD.1⟩
  ·rw[bA hb] at e;exact (J.hok b u e).stay (fun c v _ q=>q) (fun c q=>by rw[bA (nt q)];exact q) fun c xs q=>by rw[bA (nt q)];exact q
 ·obtain ⟨_,f1,_,f3,f4,f5⟩:=(hf b hb).1;exact ⟨f3,f1,f4,f5⟩
end
theorem Oi {α:Type} {t:Sem α} {Q Q':α->Shared->Prop} {M:Model} {A:Around} {E:Value->Shared->Prop} {s:Shared} (h:wpAny M A t Q (fun _ _=>False) s) (hQ:∀a s,Q a s->Q' a s):wpAny M A t Q' E s :=
 wpAny_mono h hQ fun _ _ z=>False.elim z
theorem DP {prog : Program} {w : World} {A : Around} {R : Result → Shared → Prop} {s : Shared} {elt target iter : Expr} {ifs : List Expr} {scope : Scope} {pos : Pos} {it acc : Value} {env : Env} (I : Nat → Shared → Prop)
    (turn : ∀ (E : Value → Shared → Prop) n s, I n s → wpAny (model prog w) A (pyNext it) (fun r s₁ => match r with
      | none => R (.ok .next) s₁
      | some v => wpAny (model prog w) A (letOwnedTupleGo target it v) (fun _ s₂ => wpAny (model prog w) A (assign target env v) (fun _ s₃ =>
          wpAny (model prog w) A (forIn ifs true fun c r => if r = true then do let ok <- isTrue c env (eval c env); pure (ForInStep.yield ok) else pure (ForInStep.yield r)) (fun ok s₄ =>
            if ok = true then wpAny (model prog w) A (eval elt env) (fun x s₅ => wpAny (model prog w) A (call (.builtin "list.append") [acc, x]) (fun _ s₆ => ∃ m, m < n /\ I m s₆) E s₅) E s₄
            else ∃ m, m < n /\ I m s₄) E s₃) E s₂) E s₁) E s)
    (n : Nat) (h : I n s) : codeAny (model prog w) A (.compLoop (.ListComp elt [⟨target, iter, ifs, 0⟩] scope pos) 0 it acc env) R s := by
  refine codeAny_loop rfl I (fun n s hI => ?_) n h;show wpAny _ A ((compTurn (.ListComp elt [⟨target, iter, ifs, 0⟩] scope pos) 0 it acc env).onRaise (fun x => do noteFrame x env; theTreesLotGoes x)) _ _ s
  refine wpAny_noted ?_;rw [compTurn_list];refine wpAny_bind (wpAny_standAt (wpAny_bind (wpAny_mono (turn _ n s hI) (fun r s₁ h₁ => ?_) fun _ _ h' => h')));cases r with
  | none => exact wpAny_pure h₁
  | some v =>
    refine wpAny_bind (wpAny_mono h₁ (fun _ s₂ h₂ => wpAny_bind (wpAny_mono h₂ (fun _ s₃ h₃ => wpAny_bind (wpAny_mono h₃ (fun ok s₄ h₄ => ?_) fun _ _ h' => h')) fun _ _ h' => h')) fun _ _ h' => h');cases ok with
    | false => exact wpAny_pure ⟨rfl, h₄⟩
    | true =>
      exact wpAny_bind (wpAny_bind (wpAny_mono h₄ (fun x s₅ h₅ => wpAny_bind (wpAny_mono h₅ (fun _ s₆ h₆ => wpAny_pure (wpAny_pure ⟨rfl, h₆⟩)) fun _ _ h' => h')) fun _ _ h' => h'))

def PF (X : Cx) (ifs : List Expr) (t : TT) : Prop :=
  ∀ (pins : List (Addr × Obj)) (s : Shared) (σ : St) (H : Hp) (Q : Bool → Hp → Prop), Inv X pins σ H s → t σ H Q →
    wpAny (model X.prog X.w) X.A (forIn ifs true fun c r => if r = true then do let ok <- isTrue c X.env (eval c X.env); pure (ForInStep.yield ok) else pure (ForInStep.yield r)) (TP X pins σ Q) X.xe s
def Qd:TT:=fun _ H Q=>Q true H
theorem cQ {X:Cx}:PF X [] Qd:=fun _ _ _ H _ I h=>wpAny_tests_nil ⟨H,I,h⟩
def wg (σ₀:St) (g:TG) (tf:TT) (te:TE) (x:V) (H:Hp) (NY:V->Hp->Prop) (NN:Hp->Prop):Prop :=
 g x σ₀ H fun σ2 H2=>tf σ2 H2 fun b H3=>if b=true then te σ2 H3 NY else NN H3
def wY (J:It) (σ₀:St) (g:TG) (tf:TT) (te:TE) (Q:VK) (H1:Hp):Prop :=
 ∃W:Nat->Nat->List V->Hp->Prop,(∃m,W 0 m [] H1)/\∀i m ys H,W i m ys H →
  (J.stop i H/\ys.length<=sizeLine/\∀p,H p=none->Q (.ref p) (upd H p (.lst ys))) \/
  (J.go i H/\ys.length < sizeLine/\∃(NY:V->Hp->Prop) (NN:Hp->Prop),(∀y H',NY y H'->∃m',m' < m/\W (i+1) m' (ys++[y]) H')/\(∀H',NN H'->∃m',m' < m/\W (i+1) m' ys H') /\
   ∀x H',J.yld i H x H'->wg σ₀ g tf te x H' NY NN)
def Ee (wi:TI) (k:Nat) (cap:List Nat) (g:TG) (tf:TT) (te:TE):TE:=fun σ H Q=>wi σ H fun J H1=>wY J (JE k cap σ) g tf te Q H1
abbrev lobj (its:List Value) (n:Nat):Obj:={ cls:=.type "list",data:=.seq its.toArray n }
section
variable {X:Cx} {own capN:List Str} {cap:List Nat} {scope:Scope} {elt tg iter:Expr} {ifs:List Expr} {pos:Pos} {wi:TI} {g:TG} {tf:TT} {te:TE}
theorem CG {use:Option (Value->Sem Unit)} {Qe:Value->Shared->Prop} {fpos:Pos} (hc:X.calm=true) (B:Bk X.env scope own capN) (hcap:zF X capN cap)
  (hi:PI X tg iter wi) (hg:∀Z,PG (zQ X own capN scope Z) tg g) (hf:∀Z,PF (zQ X own capN scope Z) ifs tf) (he:∀Z,PE (zQ X own capN scope Z) elt te)
  (hs:∀x,foldedSetIterable iter X.env x=pure x) {pins:List (Addr×Obj)} {s:Shared} {σ:St} {H:Hp} {Q:VK} (I:Inv X pins σ H s) (h:Ee wi own.length cap g tf te σ H Q)
  (fin:∀(D C:Addr) (s':Shared) (H':Hp),Inv X pins σ H' s'->mh X pins H' C->(∃m,s'.heap.Ns C m)->Q (.ref D) H'->compPost (model X.prog X.w) X.A X.xe use Qe (.ref D) C (.ok .next) s') :
  wpAny (model X.prog X.w) X.A (comprehension (.ListComp elt [⟨tg,iter,ifs,0⟩] scope pos) scope X.env fpos (newList []) false (eval iter X.env) use) Qe X.xe s:=by
 refine wpAny_comprehension_free (use:=use) rfl hs (Bt fun y hy hk=>I.ok.has y.1 (B.caps _ (B.frees y hy hk).1)) B.kind B.locs ?_;refine gG (hi pins s σ H _ I h) fun v s1 h1=>gG h1 fun itv s2 h2=>?_
 obtain ⟨it,fp,tn,J,H2,e,I2,T,st2,f2,W,⟨m0,w0⟩,turn⟩:=h2;subst e;have hfp:∀b∈fp,mh X pins H2 b/\@LT.lt Nat instLTNat b s2.heap.objs.size:=fun b hb=>⟨f2 b hb,let ⟨_,e,_⟩:=T.obj _ _ st2 b hb;Heap.lt_size e⟩
 refine wpAny_newObj_type (EC ?_) (bh _);have es:(s2.heap.push { cls:=.type "list",data:=.seq ([]:List Value).toArray }).objs.size=s2.heap.objs.size+1:=Heap.size_push ..
 show codeAny _ _ (.compStart _ 0 (.ref it) (.ref s2.heap.objs.size) { newEnv scope (s2.heap.push { cls:=.type "list",data:=.seq ([]:List Value).toArray }).objs.size X.env.globals (cellsFrom ((s2.heap.push { cls:=.type "list",data:=.seq ([]:List Value).toArray }).objs.size+1) scope.names (d7 X.env scope.names [])) X.env.qual none .none (some X.env) builtinsNs with scope:=relabel scope X.env })
  (compPost (model X.prog X.w) X.A X.xe use Qe (.ref s2.heap.objs.size) (s2.heap.push { cls:=.type "list",data:=.seq ([]:List Value).toArray }).objs.size)
  { s2 with heap:=pushCells ((s2.heap.push { cls:=.type "list",data:=.seq ([]:List Value).toArray }).push { cls:=.type "dict",data:=.dict #[] }) scope.names }
 have hk1:∀b o,(s2.heap.push { cls:=.type "list",data:=.seq ([]:List Value).toArray }).get? b=some o->(pushCells ((s2.heap.push { cls:=.type "list",data:=.seq ([]:List Value).toArray }).push { cls:=.type "dict",data:=.dict #[] }) scope.names).get? b=some o :=
  fun b o e=>pushCells_keeps _ _ _ _ (Heap.get?_push_of_some _ e)
 have hk:∀b o,s2.heap.get? b=some o->(pushCells ((s2.heap.push { cls:=.type "list",data:=.seq ([]:List Value).toArray }).push { cls:=.type "dict",data:=.dict #[] }) scope.names).get? b=some o:=fun b o e=>hk1 b o (Heap.get?_push_of_some _ e)
 have hoD:=hk1 s2.heap.objs.size _ (Heap.get?_push_size s2.heap (o:={ cls:=.type "list",data:=.seq ([]:List Value).toArray }) rfl);have hn:=(Heap.Ns.new (s2.heap.push { cls:=.type "list",data:=.seq ([]:List Value).toArray }) (.type "dict")).keeps (pushCells_keeps scope.names _);have hcl:=Je ((s2.heap.push { cls:=.type "list",data:=.seq ([]:List Value).toArray }).push { cls:=.type "dict",data:=.dict #[] }) (s2.heap.objs.size+1) (by rw[Heap.size_push,es]) scope.names;rw[es] at hn ⊢;generalize pushCells ((s2.heap.push { cls:=.type "list",data:=.seq ([]:List Value).toArray }).push { cls:=.type "dict",data:=.dict #[] }) scope.names=h3 at hk hoD hn hcl ⊢;have Z:Bz:=⟨s2,H2,fp,s2.heap.objs.size+1⟩
 have I3:Inv (zQ X own capN scope ⟨s2,H2,fp,s2.heap.objs.size+1⟩) [(s2.heap.objs.size,lobj [] 0)] (JE own.length cap σ) H2 { s2 with heap:=h3 } :=
  Nr (Z:=⟨s2,H2,fp,s2.heap.objs.size+1⟩) (t1:=s2.toks) I2 hc B hcap (yr _) hcl hfp hk hn (ar _) (ck (jq _)) hoD (fun v z=>nomatch z)
 have st3:tn 0 h3:=T.keep _ _ _ st2 fun b _ o e=>hk b o e
 have loop:codeAny (model X.prog X.w) X.A (.compLoop (.ListComp elt [⟨tg,iter,ifs,0⟩] scope pos) 0 (.ref it) (.ref s2.heap.objs.size) (yX X.env scope (s2.heap.objs.size+1))) (compPost (model X.prog X.w) X.A X.xe use Qe (.ref s2.heap.objs.size) (s2.heap.objs.size+1)) { s2 with heap:=h3 }:=by
  refine DP (fun m s'=>∃i ys σ' H' its n,Inv (zQ X own capN scope ⟨s2,H2,fp,s2.heap.objs.size+1⟩) [(s2.heap.objs.size,lobj its n)] σ' H' s'/\tn i s'.heap/\(∀b∈fp,H' b=none)/\cR ys its/\W i m ys H') ?_ m0
   ⟨0,[],_,H2,[],0,I3,st3,fun b hb=>(f2 b hb).1,.nil,w0⟩
  rintro E n s4 ⟨i,ys,σ4,H4,its,k,I4,st4,fr4,rv,w4⟩
  have fpo:∀{pp:List (Addr×Obj)} {H':Hp},(∀p∈pp,p.1=s2.heap.objs.size)->(∀b∈fp,H' b=none)->∀b∈fp,mh (zQ X own capN scope ⟨s2,H2,fp,s2.heap.objs.size+1⟩) pp H' b:=fun {pp H'} hpp hn b hb=>by
   obtain ⟨e1,e2⟩:=I4.ok.exf b hb;refine ⟨hn b hb,e1,I4.ok.exfs b hb,.inl hb,e2,fun p hp=>?_⟩;have hp':p∈pp:=by simpa [zQ] using hp
   have l:=(hfp b hb).2;rw[hpp p hp'];exact fun z=>d9 _ (by rw[<- z] at l;exact l)
  have pinD:∀{its:List Value} {n:Nat},∀p∈[(s2.heap.objs.size,lobj its n)],p.1=s2.heap.objs.size:=fun p hp=>by simp at hp;rw[hp]
  rcases turn i n ys H4 w4 with ⟨stop,hz,q⟩ | ⟨go,hlt,NY,NN,hNY,hNN,step⟩
  ·refine gG (T.done (zQ X own capN scope ⟨s2,H2,fp,s2.heap.objs.size+1⟩) rfl rfl rfl rfl i _ s4 σ4 H4 E I4 (fpo pinD fr4) st4 stop) fun r s5 ⟨hr,I5⟩=>?_
   subst hr;have pD:=I5.pin (s2.heap.objs.size,lobj its k) (by simp);have I6:=Nt (Z:=⟨s2,H2,fp,s2.heap.objs.size+1⟩) I2 hfp (ar _) I5 rv hz
   have hC:upd H4 s2.heap.objs.size (.lst ys) (s2.heap.objs.size+1)=none:=by
    rw[bA (Ip (jq _))];exact I5.free
   obtain ⟨m,hm,_⟩:=I5.loc;exact fin _ _ s5 _ I6 (I2.fpOk (yr _) hC) ⟨m,hm⟩ (q _ pD.2.1)
  ·refine gG (T.item (zQ X own capN scope ⟨s2,H2,fp,s2.heap.objs.size+1⟩) rfl rfl rfl rfl i _ s4 σ4 H4 E I4 (fpo pinD fr4) st4 go) fun r s5 ⟨u,hr,h5⟩=>?_
   subst hr;refine gG h5 fun _ s6 ⟨x,H6,I6,r6,y6,st6,fr6⟩=>?_
   have I6':=(LB (Z:=⟨s2,H2,fp,s2.heap.objs.size+1⟩) I2 B hcap hfp I6).pinned (fpo pinD fr6) (T.obj _ _ st6)
   have back:∀{σ7:St} {H7:Hp} {s7:Shared},Inv (zQ X own capN scope ⟨s2,H2,fp,s2.heap.objs.size+1⟩) ([(s2.heap.objs.size,lobj its k)]++AR fp s6.heap) σ7 H7 s7 →
     Inv (zQ X own capN scope ⟨s2,H2,fp,s2.heap.objs.size+1⟩) [(s2.heap.objs.size,lobj its k)] σ7 H7 s7/\tn (i+1) s7.heap/\∀b∈fp,H7 b=none:=fun {σ7 H7 s7} I7=>by
    refine ⟨I7.unpinned,T.keep _ _ _ st6 fun b hb o e=>(I7.pin (b,o) (bX _ (bX _ (sR hb e)))).1,fun b hb=>?_⟩;obtain ⟨o,e,d⟩:=T.obj _ _ st6 b hb;exact (I7.pin (b,o) (bX _ (bX _ (sR hb e)))).2.1
   refine Oi (hg _ _ s6 _ H6 x u _ I6' r6 (step x H6 y6)) fun _ s7 ⟨σ7,H7,I7,q7⟩=>?_
   refine Oi (hf _ _ s7 σ7 H7 _ I7 q7) fun ok s8 ⟨H8,I8,q8⟩=>?_
   cases ok with
   | false =>
    rw[if_neg bf] at q8 ⊢;obtain ⟨m',hm,w8⟩:=hNN H8 q8;obtain ⟨J1,J2,J3⟩:=back I8;exact ⟨m',hm,i+1,ys,σ7,H8,its,k,J1,J2,J3,rv,w8⟩
   | true =>
    rw[if_pos rfl] at q8 ⊢;refine Oi (he _ _ s8 σ7 H8 _ I8 q8) fun z s9 ⟨y,H9,I9,r9,q9⟩=>?_
    obtain ⟨J1,J2,J3⟩:=back I9;obtain ⟨m',hm,w9⟩:=hNY y H9 q9;have pD:=J1.pin (s2.heap.objs.size,lobj its k) (by simp);have hl:=rv.length;refine call_meets F.slot_list_append ⟨_,pD.1,rfl⟩ F.entry_list_append (F.args_list_append_2 _ _) (PySem.list_append s2.heap.objs.size its.toArray k z (by rw[aS];lia)) ⟨pD.1,?_⟩;have e9:=m9 pD.1 (fun a=>a.push z);have e9':(its.toArray.push z)=(its++[z]).toArray:=by simp
    rw[e9'] at e9;obtain ⟨n',e9⟩:∃n',(s9.heap.update s2.heap.objs.size (Obj.mapSeq fun a=>a.push z)).get? s2.heap.objs.size=some (lobj (its++[z]) n'):=⟨_,e9⟩
    have J4:Inv (zQ X own capN scope ⟨s2,H2,fp,s2.heap.objs.size+1⟩) [] σ7 H9 { s9 with heap:=s9.heap.update s2.heap.objs.size (Obj.mapSeq fun a=>a.push z),toks:=s9.toks } :=
     (J1.pins_of (pins':=[]) fun p hp=>nomatch hp).turned (fun b o hb e=>(Heap.get?_update_other s9.heap _ (Ne.symm hb)).trans e) pD.2.1 pD.2.2.1 (.inr (ar _)) (fun x c hx z=>by
      rcases kr (Z:=⟨s2,H2,fp,s2.heap.objs.size+1⟩) B I2 hx with ⟨_,m⟩ | ⟨_,_,m⟩
      ·have:=(hcl.empty _ _ m).2;have z':@Eq Nat c s2.heap.objs.size:=z
       lia
      ·have:=DR (Z:=⟨s2,H2,fp,s2.heap.objs.size+1⟩) I2 m;rw[z] at this;exact d9 _ this) fun p hp=>by simp [zQ] at hp
    have nfp:∀b∈fp,b≠s2.heap.objs.size:=fun b hb z=>by have:=(hfp b hb).2;rw[z] at this;exact d9 _ this
    refine ⟨m',hm,i+1,ys++[y],σ7,H9,its++[z],n',J4.pins_of fun p hp=>?_,T.keep _ _ _ J2 fun b hb o e=>(Heap.get?_update_other s9.heap _ (Ne.symm (nfp b hb))).trans e,J3,rv.append (.cons r9 .nil),w9⟩;have ep:p=(s2.heap.objs.size,lobj (its++[z]) n'):=by simpa using hp
    rw[ep];exact ⟨e9,pD.2.1,pD.2.2.1,pD.2.2.2.1,fun v z=>nomatch z⟩
 exact codeAny_compStart_list loop (T.self _ _ _ _ _ st3 loop)
theorem cP (own capN:List Str) (cap:List Nat) (hi:PI X tg iter wi) (hg:∀Z,PG (zQ X own capN scope Z) tg g) (hf:∀Z,PF (zQ X own capN scope Z) ifs tf) (he:∀Z,PE (zQ X own capN scope Z) elt te)
  (h1:RE scope own capN=true:=by decide +kernel) (h2:CI X.env capN=true:=by rfl) (hcap:zF X capN cap:=by rfl) (hc:X.calm=true:=by rfl) (hs:∀x,foldedSetIterable iter X.env x=pure x:=by intro _;rfl) :
  PE X (.ListComp elt [⟨tg,iter,ifs,0⟩] scope pos) (Ee wi own.length cap g tf te):=by
 intro pins s σ H Q I h;rw[eval_ListComp];refine CG (use:=none) hc (Bk.of h1 h2) hcap hi hg hf he hs I h fun D C s' H' I' fC hm q=>?_
 obtain ⟨m,hm⟩:=hm;refine ⟨m,hm,fun h' hs'=>?_⟩;obtain ⟨f0,f1,f2,f3,f4,f5⟩:=fC;exact ⟨.ref D,H',I'.turned (t':=s'.toks) (fun b o hb e=>(hs'.2 b hb).trans e) f0 f1 f3 f4 f5,rfl,q⟩
theorem p0 (i:Nat) (own capN:List Str) (cap:List Nat) {x:Str} {pos' spos:Pos} (hN:X.N.Nodup) (hi':X.N[i]?=some x) (hx:X.env.scope.names.lookup x=some .local) (hi:PI X tg iter wi) (hg:∀Z,PG (zQ X own capN scope Z) tg g) (hf:∀Z,PF (zQ X own capN scope Z) ifs tf) (he:∀Z,PE (zQ X own capN scope Z) elt te)
  (h1:RE scope own capN=true:=by decide +kernel) (h2:CI X.env capN=true:=by rfl) (hcap:zF X capN cap:=by rfl) (hc:X.calm=true:=by rfl) (hs:∀x,foldedSetIterable iter X.env x=pure x:=by intro _;rfl)
  (hsw:swapsWith (.ListComp elt [⟨tg,iter,ifs,0⟩] scope pos) (some (.Name x pos')) spos.line X.env=pure true:=by rfl) :
  PS X (.Assign [.Name x pos'] (.ListComp elt [⟨tg,iter,ifs,0⟩] scope pos) spos) (L4 (Ee wi own.length cap g tf te) (HS i)):=by
 intro pins s σ H D I h;rw[exec_Assign_Name_used _ _ _ _ hsw];refine wpAny_bind (wpAny_standAt (wpAny_bind ?_));rw[arm_evalThenUse_ListComp];refine wpAny_bind (CG (Q:=fun v H1=>D.nx (σ.set i (some v)) H1) (use:=some _) hc (Bk.of h1 h2) hcap hi hg hf he hs I h fun L C s' H' I' fC hm q=>?_);obtain ⟨m,hm⟩:=hm;obtain ⟨f0,f1,f2,f3,f4,f5⟩:=fC;refine wpAny_assign_Name (Cf I' hN hi' (.inl hx) (v:=.ref L) rfl (fun s'' I'' ⟨a,sb,ha⟩=>?_) (.inr hx))
 have hCa:C≠a:=by
  rcases ha with e | e
  ·rw[e];exact f1
  ·exact (f4 x a e).symm
 refine ⟨m,hm.at' fun o e=>(sb.2 C hCa).trans e,fun h' hs'=>?_⟩;have I3:=I''.turned (h':=h') (t':=s''.toks) (fun b o hb e=>(hs'.2 b hb).trans e) f0 f1 f3 f4 f5;exact wpAny_pure (wpAny_pure ⟨_,H',I3,q⟩)
end
section
variable {K:PySem.W.Frag} {a:Addr} {xs:List V} {g:TG} {tf:TT} {te:TE} {Q:VK} {σ₀:St} {H:Hp}
theorem gW (Pv:Nat->List V->Hp->Prop) (hz:xs.length<=sizeLine) (h0:Pv 0 [] H) (hl:∀i ys H,i<=xs.length->Pv i ys H->b6 K H a xs)
  (hs:∀i x ys H,xs[i]?=some x->ys.length<=i->Pv i ys H->wg σ₀ g tf te x H (fun y H'=>Pv (i+1) (ys++[y]) H') (fun H'=>Pv (i+1) ys H'))
  (hd:∀ys H,ys.length<=xs.length->Pv xs.length ys H->∀p,H p=none->Q (.ref p) (upd H p (.lst ys))):wY (Oa K a) σ₀ g tf te Q H:=by
 refine ⟨fun i m ys H=>m=xs.length - i/\i<=xs.length/\ys.length<=i/\Pv i ys H,⟨xs.length,by simp,bh _,bh _,h0⟩,?_⟩;rintro i m ys H ⟨rfl,hi,hy,p⟩;have q:=hl i ys H hi p;by_cases hlt:i < xs.length
 ·refine .inr ⟨⟨xs,xs[i],q,by simp [hlt]⟩,by lia,fun y H'=>Pv (i+1) (ys++[y]) H',fun H'=>Pv (i+1) ys H',fun y H' p'=>⟨xs.length - (i+1),by lia,rfl,hlt,by rw[ay,bQ];lia,p'⟩,fun H' p'=>⟨xs.length - (i+1),by lia,rfl,hlt,by lia,p'⟩,fun x H' y=>?_⟩;obtain ⟨e,y⟩:=y;subst e;exact hs i x ys _ (y xs q) hy p
 ·have e:i=xs.length:=by lia
  subst e;exact .inl ⟨⟨xs,q,ar _⟩,by lia,hd ys H hy p⟩
theorem tx {lo:Int} {n:Nat} (Pv:Nat->List V->Hp->Prop) (hz:n<=sizeLine) (h0:Pv 0 [] H)
  (hs:∀i ys H,i < n->ys.length<=i->Pv i ys H->wg σ₀ g tf te (.int (lo+i)) H (fun y H'=>Pv (i+1) (ys++[y]) H') (fun H'=>Pv (i+1) ys H'))
  (hd:∀ys H,ys.length<=n->Pv n ys H->∀p,H p=none->Q (.ref p) (upd H p (.lst ys))):wY (E6 lo n) σ₀ g tf te Q H:=by
 refine ⟨fun i m ys H=>m=n - i/\i<=n/\ys.length<=i/\Pv i ys H,⟨n,by simp,bh _,bh _,h0⟩,?_⟩;rintro i m ys H ⟨rfl,hi,hy,p⟩;by_cases hlt:i < n
 ·refine .inr ⟨hlt,by lia,fun y H'=>Pv (i+1) (ys++[y]) H',fun H'=>Pv (i+1) ys H',fun y H' p'=>⟨n - (i+1),by lia,rfl,hlt,by rw[ay,bQ];lia,p'⟩,fun H' p'=>⟨n - (i+1),by lia,rfl,hlt,by lia,p'⟩,fun x H' y=>?_⟩;obtain ⟨e,y⟩:=y;subst e y;exact hs i ys _ hlt hy p
 ·have e:i=n:=by lia
  subst e;exact .inl ⟨ar _,by lia,hd ys H hy p⟩
end
open Nm
def jm (i j:Int):Prop:=PL i j\/∃m n,Sz m i/\Sz n j/\m+n<=1000000
def uo (i j:Int):Prop:=j≠0/\Sz 8999 j
theorem Bw {k:Nat} {i:Int} (h:Sz k i):Builtin.Int.intBits i<=k:=by
 unfold Builtin.Int.intBits;by_cases e:i=0
 ·subst e;simp
 ·have e':(i == 0)=false:=by simpa using e
  rw[e'];have hn:i.natAbs≠0:=by lia
  have:=(Nat.log2_lt hn).mpr h;simp only[jL,if_false]
  lia
theorem jm.ok {i j:Int} (h:jm i j):IntMulOk i j:=by
 rcases h with h | ⟨m,n,h1,h2,h3⟩
 ·exact h.ok
 ·have e:(2:Nat)^20=1048576:=by decide
  exact .of_bits (by have:=Bw h1;lia) (by have:=Bw h2;lia)
section
variable {X:Cx} {a b:Expr} {ta tb:TE} {pos:Pos}
theorem dE:Aj X (binaryOp .Mult) (rI jm fun i j=>.int (i*j)):=RB fun _ _ _ _ _ _ _ hc q=>mul_int q hc.ok
theorem kM:Aj X (binaryOp .FloorDiv) (rI uo fun i j=>.int (i.fdiv j)):=RB fun i j _ _ _ _ _ hc q=>by
 refine floordiv_int hc.1 q (.inl (PyProof.noPylong_of_log2 ?_));have hn:j.natAbs≠0:=by have:=hc.1;lia
 have:=(Nat.log2_lt hn).mpr hc.2
 lia
def Qg (t u:TS):TS:=fun D σ H=>∃N:St->Hp->Prop,t { D with nx:=N } σ H/\∀σ' H',N σ' H'->u D σ' H'
theorem ke {st:Stmt} {rest:List Stmt} {t u:TS} (h1:PS X st t) (h2:GK X rest u):GK X (st :: rest) (Qg t u):=by
 intro pins s σ H D I h;obtain ⟨N,h,k⟩:=h;refine wpAny_execs_cons (gG (h1 pins s σ H { D with nx:=N } I h) fun f s1 q=>?_);cases f with
 | next =>
  obtain ⟨σ',H',I',q⟩:=q;exact h2 pins s1 σ' H' D I' (k _ _ q)
 | ret v=>exact q
 | brk=>exact q
 | cont=>exact q
def NL (K:PySem.W.Frag):V->V->Hp->VK->Prop:=fun o i H Q=>∃p xs k v,o=.ref p/\i=.int k/\b6 K H p xs/\GB xs k=some v/\Q v H
theorem Ld:Q7 X (NL X.K):=by
 intro pins s σ H o i ov iv Q I ro ri h;obtain ⟨p,xs,k,z,rfl,rfl,hq,he,q⟩:=h;cases ro;obtain ⟨t,rfl⟩:=ri;obtain ⟨its,r,pl,hz⟩:=I.list hq;obtain ⟨j,h1,h2,h3,h4,h5⟩:=DT he;obtain ⟨w,ew,rw'⟩:=r.get h2;have hl:=r.length;have hn:=Bl;have fin:EP X pins σ Q w s:=⟨z,H,I,rw',q⟩;by_cases h0:0<=k
 ·have hj:k.toNat=j:=by
   rw[seqIndex_of h0 h5] at h1;exact cv h1
  exact wpAny_getItem_list pl.isList h0 (by lia) (by rw[hj];simpa using ew) fin
 ·have hj:(k+(its.toArray.size:Int)).toNat=j:=by
   rw[seqIndex_neg (by lia) h4] at h1;rw[aS,<- hl];exact cv h1
  exact wpAny_getItem_list_neg pl.isList (by lia) (by rw[aS] <;> lia) (by lia) (by rw[hj];simpa using ew) fin
def IY (K:PySem.W.Frag) (T:String):V->Hp->VK->Prop:=fun x H Q=>∃t b,y8 K H x t/\PySem.W.kitOne K t (.type T)=some b/\Q (.bl b) H
theorem yN {c:Str} {T:String} {p p2:Pos} (hg:Gl X "isinstance") (hm:X.mg "isinstance"=none) (hb:bootBuiltins c=some (.type T)) (hmc:X.mg c=none) (ha:PE X a ta) (hgc:Gl X c:=by rfl) (hn:c≠"__name__":=by decide)
  (hd:(c == ("__debug__":Str))=false:=by decide) (he:starEach [a,.Name c p2] X.env=[(false,eval a X.env),(false,eval (.Name c p2) X.env)]:=by rfl)
  (hpl:(backTo pos (starEach [.Name c p2] X.env)).any (·.1)=false:=by rfl) (he2:starEach [.Name c p2] X.env=[(false,eval (.Name c p2) X.env)]:=by rfl):PE X (.Call (.Name "isinstance" p) [a,.Name c p2] [] pos) (RA (IY X.K T) ta):=by
 intro pins s σ H Q I h;refine wpAny_Call_Name_kw (md I hg hm PyProof.Rows.boot_isinstance ?_);have hA:PA X [a,.Name c p2] (uA ta (uA (tC (.ty T)) Fj)):=ae ha (ae (HE hgc hmc hb rfl hn hd) aj he2) (by rw[he,he2])
 have hq:uA ta (uA (tC (.ty T)) Fj) σ H (fun vs H1=>∃x,vs=[x,.ty T]/\IY X.K T x H1 Q):=by
  show ta σ H fun x H1=>∃x',[x,V.ty T]=[x',V.ty T]/\IY X.K T x' H1 Q
  have e:(fun x H1=>∃x',[x,V.ty T]=[x',V.ty T]/\IY X.K T x' H1 Q)=fun x H1=>IY X.K T x H1 Q:=by
   funext x H1;apply propext;constructor
   ·rintro ⟨x',e,q⟩;cases e;exact q
   ·intro q;exact ⟨x,rfl,q⟩
  rw[e];exact h
 refine PyProof.Rows.callWith_builtin1 (gG (hA pos pins s σ H _ I hq) fun us s1 ⟨vs,H1,I1,r1,x,e,q1⟩=>?_) (by rw[he,he2]) hpl;subst e;obtain ⟨u,w',rfl,ru,rt⟩:=vals2 r1;cases rt;obtain ⟨t,bb,ty,ek,q⟩:=q1;exact Cu I1 ru ty ek fun tk=>⟨.bl bb,H1,I1.tok tk,rfl,q⟩
end
structure Kind (α:Type) [DecidableEq α] where
 R:PySem.W.Frag->Hp->V->α->Prop
 d:Nat
 inj:∀{X:Cx} {pins:List (Addr×Obj)} {σ:St} {H:Hp} {s:Shared} {x:V} {a b:α},Inv X pins σ H s->R X.K H x a->R X.K H x b->a=b
 rc:∀{X:Cx} {pins:List (Addr×Obj)} {σ:St} {H:Hp} {s:Shared} {x y:V} {v u:Value} {a b:α} {A:Around},Inv X pins σ H s->RelV x v->RelV y u->R X.K H x a->R X.K H y b->A.units+d < cLine->SeqAt.RcAt A s v u (decide (a=b))
 ne:∀{X:Cx} {pins:List (Addr×Obj)} {σ:St} {H:Hp} {s:Shared} {x y:V} {v u:Value} {a b:α} {A:Around},Inv X pins σ H s->RelV x v->RelV y u->R X.K H x a->R X.K H y b->A.units+d < cLine->SeqAt.RcNeAt A s v u (!decide (a=b))
 eq:∀{X:Cx} {pins:List (Addr×Obj)} {σ:St} {H:Hp} {s:Shared} {x y:V} {v u:Value} {a b:α} {A:Around},Inv X pins σ H s->RelV x v->RelV y u->R X.K H x a->R X.K H y b->A.units+d < cLine->SeqAt.EqAt A s v u (decide (a=b))
def RZ:Kind Int where
 R:=fun _ _ x i=>x=.int i
 d:=0
 inj:=fun _ h1 h2=>by rw[h1] at h2;cases h2;rfl
 rc:=fun {X pins σ H s x y v u a b A} I rx ry h1 h2 _=>by
  subst h1 h2;obtain ⟨t,rfl⟩:=rx;obtain ⟨t',rfl⟩:=ry;have q:=SeqAt.RcAt.int_int (A:=A) (s:=s) a t b t';rwa [BJ] at q
 ne:=fun {X pins σ H s x y v u a b A} I rx ry h1 h2 _=>by
  subst h1 h2;obtain ⟨t,rfl⟩:=rx;obtain ⟨t',rfl⟩:=ry;have q:=SeqAt.RcNeAt.int_int (A:=A) (s:=s) a t b t';rwa [BJ] at q
 eq:=fun {X pins σ H s x y v u a b A} I rx ry h1 h2 _=>by
  subst h1 h2;obtain ⟨t,rfl⟩:=rx;obtain ⟨t',rfl⟩:=ry;have q:=SeqAt.EqAt.int_int (A:=A) (s:=s) a t b t';rwa [BJ] at q
theorem ma {α β:Type} {F:α->β->Prop}:∀{l1:List α} {l2:List β} {i:Nat} (_:Paired F l1 l2) (h1:i < l1.length) (h2:i < l2.length),F l1[i] l2[i]
 | _,_,_,.nil,h1,_=>absurd h1 (fG _)
 | _,_,0,.cons r _,_,_=>r
 | _,_,i+1,.cons _ t,h1,h2=>ma (i:=i) t (Nat.lt_of_succ_lt_succ h1) (Nat.lt_of_succ_lt_succ h2)
theorem pC {α β:Type} {F:α->β->Prop} (hF:∀a b x,F a x->F b x->a=b):∀{l1 l2:List α} {l:List β},Paired F l1 l->Paired F l2 l->l1=l2
 | _,_,_,.nil,.nil=>rfl
 | _,_,_,.cons r t,.cons r' t'=>by rw[hF _ _ _ r r',pC hF t t']
theorem xX {α:Type} [DecidableEq α] (as bs:List α) (h:as.length=bs.length):(List.range as.length).all (fun j=>decide (as[j]?=bs[j]?))=decide (as=bs):=by
 rw[oU,sG,decide_eq_true_iff];constructor
 ·intro q;apply ip;intro i;by_cases hi:i < as.length
  ·exact of_decide_eq_true (q i (rd.mpr hi))
  ·rw[aN (by lia),aN (by lia)]
 ·rintro rfl i _;simp
section
variable {α:Type} [DecidableEq α] (k:Kind α)
theorem Kind.items {X:Cx} {pins:List (Addr×Obj)} {σ:St} {H:Hp} {s:Shared} {A:Around} (I:Inv X pins σ H s) (hA:A.units+k.d < cLine) {xs ys:List V} {us ws:List Value} {as bs:List α}
  (rx:cR xs us) (ry:cR ys ws) (ha:Paired (fun a x=>k.R X.K H x a) as xs) (hb:Paired (fun a x=>k.R X.K H x a) bs ys) :
  ∀j (h1:j < us.toArray.size) (h2:j < ws.toArray.size),SeqAt.EqAt A s us.toArray[j] ws.toArray[j] (decide (as[j]?=bs[j]?)):=fun j h1 h2=>by
 have l1:j < us.length:=by simpa using h1
 have l2:j < ws.length:=by simpa using h2
 have e1:=rx.length;have e2:=ry.length;have e3:=ha.length;have e4:=hb.length;obtain ⟨u,hu,ru⟩:=rx.get (i:=j) (x:=xs[j]'(by lia)) (by simp);obtain ⟨w,hw,rw'⟩:=ry.get (i:=j) (x:=ys[j]'(by lia)) (by simp);have q:=k.eq (A:=A) I ru rw' (ma ha (by lia) (by lia)) (ma hb (by lia) (by lia)) hA
 have eu:us.toArray[j]=u:=by
  have:=hu;rw[ag l1] at this;simpa using this
 have ew:ws.toArray[j]=w:=by
  have:=hw;rw[ag l2] at this;simpa using this
 rw[eu,ew,ag (show j < as.length by lia),ag (show j < bs.length by lia)];have e5:decide (some as[j]=some bs[j])=decide (as[j]=bs[j]):=by simp
 rw[e5];exact q
theorem C6 {α:Type} [DecidableEq α] (as bs:List α) {n m:Nat} (h1:as.length=n) (h2:bs.length=m):((List.range (min n m)).all (fun j=>decide (as[j]?=bs[j]?)) && n == m)=decide (as=bs):=by
 subst h1 h2;by_cases e:as.length=bs.length
 ·rw[show min as.length bs.length=as.length by lia,xX as bs e];simp [e]
 ·have h1:(as.length == bs.length)=false:=by simpa using e
  rw[h1,Bool.and_false];exact (decide_eq_false fun z=>e (by rw[z])).symm
def RY:Kind (List α) where
 R:=fun K H x as=>∃p xs,x=.ref p/\uu K H p xs/\Paired (fun a x=>k.R K H x a) as xs
 d:=k.d+1
 inj:=fun {X pins σ H s x a b} I h1 h2=>by
  obtain ⟨p,xs,rfl,hp,pa⟩:=h1;obtain ⟨q,ys,e,hq,pb⟩:=h2;cases e;have e:=I.tuple_inj hp hq;subst e;exact pC (F:=fun a x=>k.R X.K H x a) (fun a b x=>k.inj I) pa pb
 rc:=fun {X pins σ H s x y v u a b A} I rx ry h1 h2 hA=>by
  obtain ⟨p,xs,rfl,hp,pa⟩:=h1;obtain ⟨q,ys,rfl,hq,pb⟩:=h2;cases rx;cases ry;obtain ⟨us,r1,t1,_⟩:=I.tuple hp;obtain ⟨ws,r2,t2,_⟩:=I.tuple hq;have z:=SeqAt.RcAt.tuples (A:=A) (e:=fun j=>decide (a[j]?=b[j]?)) (show s.heap.IsTuple p us.toArray from t1) (show s.heap.IsTuple q ws.toArray from t2) (by lia) (k.items (A:=A.in1) I (by show A.units+1+k.d < cLine;lia) r1 r2 pa pb);rwa [C6 a b (by rw[pa.length,r1.length];simp) (by rw[pb.length,r2.length];simp)] at z
 ne:=fun {X pins σ H s x y v u a b A} I rx ry h1 h2 hA=>by
  obtain ⟨p,xs,rfl,hp,pa⟩:=h1;obtain ⟨q,ys,rfl,hq,pb⟩:=h2;cases rx;cases ry;obtain ⟨us,r1,t1,_⟩:=I.tuple hp;obtain ⟨ws,r2,t2,_⟩:=I.tuple hq;have z:=SeqAt.RcNeAt.tuples (A:=A) (e:=fun j=>decide (a[j]?=b[j]?)) (show s.heap.IsTuple p us.toArray from t1) (show s.heap.IsTuple q ws.toArray from t2) (by lia) (k.items (A:=A.in1) I (by show A.units+1+k.d < cLine;lia) r1 r2 pa pb);rwa [C6 a b (by rw[pa.length,r1.length];simp) (by rw[pb.length,r2.length];simp)] at z
 eq:=fun {X pins σ H s x y v u a b A} I rx ry h1 h2 hA=>by
  obtain ⟨p,xs,rfl,hp,pa⟩:=h1;obtain ⟨q,ys,rfl,hq,pb⟩:=h2;cases rx;cases ry;by_cases e:p=q
  ·subst e;have e:=I.tuple_inj hp hq;subst e;rw[pC (F:=fun a x=>k.R X.K H x a) (fun a b x=>k.inj I) pa pb,decide_eq_true rfl];exact SeqAt.EqAt.same _
  ·obtain ⟨us,r1,t1,_⟩:=I.tuple hp;obtain ⟨ws,r2,t2,_⟩:=I.tuple hq;have z:=SeqAt.RcAt.tuples (A:=A) (e:=fun j=>decide (a[j]?=b[j]?)) (show s.heap.IsTuple p us.toArray from t1) (show s.heap.IsTuple q ws.toArray from t2) (by lia) (k.items (A:=A.in1) I (by show A.units+1+k.d < cLine;lia) r1 r2 pa pb);rw[C6 a b (by rw[pa.length,r1.length];simp) (by rw[pb.length,r2.length];simp)] at z;exact .of_refs e z
theorem Gi {X:Cx} {pins:List (Addr×Obj)} {σ:St} {H:Hp} {s:Shared} {p q:Addr} {xs ys:List V} {a b:List α} {A:Around} (I:Inv X pins σ H s) (hp:b6 X.K H p xs) (hq:b6 X.K H q ys)
  (pa:Paired (fun a x=>k.R X.K H x a) a xs) (pb:Paired (fun a x=>k.R X.K H x a) b ys) (hA:A.units+(k.d+1) < cLine) :
  SeqAt.RcAt A s (.ref p) (.ref q) (decide (a=b))/\SeqAt.RcNeAt A s (.ref p) (.ref q) (!decide (a=b)):=by
 obtain ⟨us,r1,t1,_⟩:=I.list hp;obtain ⟨ws,r2,t2,_⟩:=I.list hq;have l1:=r1.length;have l2:=r2.length;have l3:=pa.length;have l4:=pb.length;by_cases e:us.length=ws.length
 ·have it:=k.items (A:=A.in1) I (by show A.units+1+k.d < cLine;lia) r1 r2 pa pb;have z:=SeqAt.RcAt.lists (A:=A) (e:=fun j=>decide (a[j]?=b[j]?)) t1.isList t2.isList (by simpa using e) (by lia) it;have z2:=SeqAt.RcNeAt.lists (A:=A) (e:=fun j=>decide (a[j]?=b[j]?)) t1.isList t2.isList (by simpa using e) (by lia) it;have e1:us.toArray.size=a.length:=by rw[aS];lia
  rw[e1,xX a b (by lia)] at z z2;exact ⟨z,z2⟩
 ·have hne:¬a=b:=fun z=>e (by have:=congrArg List.length z;lia)
  rw[decide_eq_false hne];exact ⟨SeqAt.RcAt.lists_lengths t1.isList t2.isList (by simpa using e) (by lia),SeqAt.RcNeAt.lists_lengths t1.isList t2.isList (by simpa using e) (by lia)⟩
def QT:Kind (List α) where
 R:=fun K H x as=>∃p xs,x=.ref p/\b6 K H p xs/\Paired (fun a x=>k.R K H x a) as xs
 d:=k.d+1
 inj:=fun {X pins σ H s x a b} I h1 h2=>by
  obtain ⟨p,xs,rfl,hp,pa⟩:=h1;obtain ⟨q,ys,e,hq,pb⟩:=h2;cases e;have e:=I.list_inj hp hq;subst e;exact pC (F:=fun a x=>k.R X.K H x a) (fun a b x=>k.inj I) pa pb
 rc:=fun {X pins σ H s x y v u a b A} I rx ry h1 h2 hA=>by
  obtain ⟨p,xs,rfl,hp,pa⟩:=h1;obtain ⟨q,ys,rfl,hq,pb⟩:=h2;cases rx;cases ry;exact (Gi k I hp hq pa pb hA).1
 ne:=fun {X pins σ H s x y v u a b A} I rx ry h1 h2 hA=>by
  obtain ⟨p,xs,rfl,hp,pa⟩:=h1;obtain ⟨q,ys,rfl,hq,pb⟩:=h2;cases rx;cases ry;exact (Gi k I hp hq pa pb hA).2
 eq:=fun {X pins σ H s x y v u a b A} I rx ry h1 h2 hA=>by
  obtain ⟨p,xs,rfl,hp,pa⟩:=h1;obtain ⟨q,ys,rfl,hq,pb⟩:=h2;cases rx;cases ry;by_cases e:p=q
  ·subst e;have e:=I.list_inj hp hq;subst e;rw[pC (F:=fun a x=>k.R X.K H x a) (fun a b x=>k.inj I) pa pb,decide_eq_true rfl];exact SeqAt.EqAt.same _
  ·exact .of_refs e (Gi k I hp hq pa pb hA).1
def Kind.via {β:Type} [DecidableEq β] (f:β->α) (fi:∀a b,f a=f b->a=b) (R':PySem.W.Frag->Hp->V->β->Prop) (im:∀{K H x b},R' K H x b->k.R K H x (f b)):Kind β where
 R:=R'
 d:=k.d
 inj:=fun I h1 h2=>fi _ _ (k.inj I (im h1) (im h2))
 rc:=fun {X pins σ H s x y v u a b A} I rx ry h1 h2 hA=>by
  have z:=k.rc (A:=A) I rx ry (im h1) (im h2) hA;rwa [decide_eq_decide.mpr (show f a=f b↔a=b from ⟨fi a b,fun e=>by rw[e]⟩)] at z
 ne:=fun {X pins σ H s x y v u a b A} I rx ry h1 h2 hA=>by
  have z:=k.ne (A:=A) I rx ry (im h1) (im h2) hA;rwa [decide_eq_decide.mpr (show f a=f b↔a=b from ⟨fi a b,fun e=>by rw[e]⟩)] at z
 eq:=fun {X pins σ H s x y v u a b A} I rx ry h1 h2 hA=>by
  have z:=k.eq (A:=A) I rx ry (im h1) (im h2) hA;rwa [decide_eq_decide.mpr (show f a=f b↔a=b from ⟨fi a b,fun e=>by rw[e]⟩)] at z
end
def E4 (K:PySem.W.Frag) (H:Hp) (x:V) (n:Int×Int):Prop:=∃p,x=.ref p/\uu K H p [.int n.1,.int n.2]
def QR:Kind (Int×Int):=(RY RZ).via (fun n=>[n.1,n.2]) (fun a b e=>by cases a;cases b;simp at e;rw[e.1,e.2]) E4 fun ⟨p,e,h⟩=>⟨p,_,e,h,.cons rfl (.cons rfl .nil)⟩
def RV (K:PySem.W.Frag):R2:=fun x y H Q=>∃(α:Type) (_:DecidableEq α) (k:Kind α) (a b:α),k.d<=50/\k.R K H x a/\k.R K H y b/\Q (.bl (decide (a=b))) H
def RT (K:PySem.W.Frag):R2:=fun x y H Q=>∃(α:Type) (_:DecidableEq α) (k:Kind α) (a b:α),k.d<=50/\k.R K H x a/\k.R K H y b/\Q (.bl (!decide (a=b))) H
theorem FQ {X:Cx} (hu:X.A.units+50 < cLine):Aj X (compareOp .Eq) (RV X.K):=by
 intro pins s σ H x y v u Q I rx ry h;obtain ⟨α,_,k,a,b,hd,ha,hb,q⟩:=h;exact k.rc (A:=X.A) I rx ry ha hb (by lia) _ _ _ _ ⟨.bl (decide (a=b)),H,I,rfl,q⟩
theorem O7 {X:Cx} (hu:X.A.units+50 < cLine):Aj X (compareOp .NotEq) (RT X.K):=by
 intro pins s σ H x y v u Q I rx ry h;obtain ⟨α,_,k,a,b,hd,ha,hb,q⟩:=h;exact k.ne (A:=X.A) I rx ry ha hb (by lia) _ _ _ _ ⟨.bl (!decide (a=b)),H,I,rfl,q⟩
theorem Na {A:Around} {k:Nat} (hr:nH k A):A.units+50 < cLine:=by have:=hr.units;lia
def Inner (H:Hp) (p q:Addr):Prop:=∃a b c:Int,H p=some (.lst [.int a,.int b,.int c,.ref q])
def dc (p:Addr) (H H':Hp):Prop:=(∀b o,H b=some o->b≠p->H' b=some o)/\∀q,Inner H p q->Inner H' p q
theorem dc.refl {p:Addr} (H:Hp):dc p H H:=⟨fun _ _ h _=>h,fun _ h=>h⟩
theorem dc.trans {p:Addr} {H H1 H2:Hp} (a:dc p H H1) (b:dc p H1 H2):dc p H H2:=⟨fun c o h n=>b.1 c o (a.1 c o h n) n,fun q h=>b.2 q (a.2 q h)⟩
theorem Inner.inj {H:Hp} {p q q':Addr} (h:Inner H p q) (h':Inner H p q'):q=q':=by
 obtain ⟨a,b,c,e⟩:=h;obtain ⟨a',b',c',e'⟩:=h';rw[e] at e';have:=HO.lst.inj (cv e');simp at this;exact this.2.2.2
theorem dc.set {p q:Addr} {H:Hp} {a b c a' b' c':Int} (h:H p=some (.lst [.int a,.int b,.int c,.ref q])):dc p H (upd H p (.lst [.int a',.int b',.int c',.ref q])) :=
 ⟨fun b u h n=>by rw[bA n];exact h,fun q' h'=>by
  rw[(Inner.inj ⟨a,b,c,h⟩ h').symm];exact ⟨a',b',c',aQ⟩⟩
theorem aO.upto {p:Addr} {H H':Hp} (h:aO H H'):dc p H H':=⟨fun b o e _=>h b o e,fun q ⟨a,b,c,e⟩=>⟨a,b,c,h _ _ e⟩⟩
theorem aO.new {H:Hp} {p:Addr} {o:HO} (h:H p=Option.none):aO H (upd H p o):=fun b u e=>by rw[bA (fJ e h)];exact e
theorem aO.sqt {K:PySem.W.Frag} {H H':Hp} {a:Addr} {xs:List V} (e:aO H H') (h:uu K H a xs):uu K H' a xs:=by
 rcases h with (h | ⟨o,h⟩) | h
 ·exact .inl (.inl (e _ _ h))
 ·exact .inl (.inr ⟨o,e _ _ h⟩)
 ·exact .inr h
theorem aO.num {K:PySem.W.Frag} {H H':Hp} {x:V} {n:Int×Int} (e:aO H H') (h:E4 K H x n):E4 K H' x n:=by obtain ⟨p,q,r⟩:=h;exact ⟨p,q,e.sqt r⟩
section
variable {σ:St} {H:Hp} {D:Ends}
theorem aU {t:TS} {σ0 σ:St} {D:Ends} {H:Hp} (e:σ0=σ) (h:t D σ H):t D σ0 H:=by rw[e];exact h
theorem OG {t u:TS} (h:t { D with nx:=u D } σ H):Qh t u D σ H:=h
theorem Mw (h:D.nx σ H):NB D σ H:=h
theorem OX {te:TE} {g:TG} (h:te σ H fun x H1=>g x σ H1 D.nx):L4 te g D σ H:=h
theorem Ks {i:Nat} {v:V} {Q:St->Hp->Prop} (h:Q (σ.set i (some v)) H):HS i v σ H Q:=h
theorem OH {te:TE} (h:te σ H D.rt):Qi te D σ H:=h
theorem OR {c:TT} {t u:TS} (h:c σ H fun b H1=>if b=true then t D σ H1 else u D σ H1):Qn c t u D σ H:=h
theorem MG {te:TE} (h:te σ H fun _ H1=>D.nx σ H1):ND te D σ H:=h
theorem OJ {i j:Nat} {ta:TA} (h:ta σ H fun vs H1=>∃v w,vs=[v,w]/\D.nx ((σ.set i (some v)).set j (some w)) H1):Qj i j ta D σ H:=h
theorem MK {to ti te:TE} {tget:V->V->Hp->VK->Prop} {tip:Q5} {tset:GD}
  (h:to σ H fun o H1=>ti σ H1 fun i H2=>tget o i H2 fun x H3=>te σ H3 fun y H4=>tip x y H4 fun z H5=>tset o i z H5 fun H6=>D.nx σ H6):NF to ti te tget tip tset D σ H:=h
theorem OQ {f:Int->Int->Int} {i j:Int} {Q:VK} (h:Q (.int (f i j)) H):ipI f (.int i) (.int j) H Q:=⟨i,j,rfl,rfl,h⟩
theorem OT {wi:TI} {g:TG} {tb:TS} (h:wi σ H fun J H1=>∃W:Nat->Nat->St->Hp->Prop,(∃m,W 0 m σ H1)/\∀i m σ H,W i m σ H →
  (J.stop i H/\D.nx σ H)\/(J.go i H/\∃N:St->Hp->Prop,(∀σ' H',N σ' H'->∃m',m' < m/\W (i+1) m' σ' H')/\∀x H',J.yld i H x H'->g x σ H' fun σ2 H2=>tb { D with nx:=N,ct:=N,bk:=D.nx } σ2 H2)):Qo wi g tb D σ H:=h
variable {Q:VK} {QA:List V->Hp->Prop} {QB:Bool->Hp->Prop}
theorem OD {i:Nat} {v:V} (e:σ[i]?=some (some v)) (h:Q v H):Oj i σ H Q:=⟨v,e,h⟩
theorem RQ {v:V} (h:Q v H):tC v σ H Q:=h
theorem QF {r:R2} {ta tb:TE} (h:ta σ H fun x H1=>tb σ H1 fun y H2=>r x y H2 Q):Qk r ta tb σ H Q:=h
theorem Qz {r:V->Hp->VK->Prop} {ta:TE} (h:ta σ H fun x H1=>r x H1 Q):RA r ta σ H Q:=h
theorem QJ {g:Int->Int->V} {i j:Int} (h:Q (g i j) H):MO g (.int i) (.int j) H Q:=⟨i,j,rfl,rfl,h⟩
theorem gH {C:Int->Int->Prop} {g:Int->Int->V} {i j:Int} (hc:C i j) (h:Q (g i j) H):rI C g (.int i) (.int j) H Q:=⟨i,j,rfl,rfl,hc,h⟩
theorem RS {g:Int->V} {i:Int} (h:Q (g i) H):rU g (.int i) H Q:=⟨i,rfl,h⟩
theorem OW {i j:Int} (h:Q (.bl (decide (i=j))) H):RW (.int i) (.int j) H Q:=⟨rfl,by
 have e:decide (V.int i=V.int j)=decide (i=j):=by simp
 rw[e];exact h⟩
theorem ON {i j:Int} (h:Q (.bl (!decide (i=j))) H):RU (.int i) (.int j) H Q:=⟨rfl,by
 have e:decide (V.int i=V.int j)=decide (i=j):=by simp
 rw[e];exact h⟩
theorem OV {i j:Str} (h:Q (.bl (decide (i=j))) H):RW (.str i) (.str j) H Q:=⟨rfl,by
 have e:decide (V.str i=V.str j)=decide (i=j):=by simp
 rw[e];exact h⟩
theorem OM {i j:Str} (h:Q (.bl (!decide (i=j))) H):RU (.str i) (.str j) H Q:=⟨rfl,by
 have e:decide (V.str i=V.str j)=decide (i=j):=by simp
 rw[e];exact h⟩
theorem Ms {t:TE} (h:t σ H fun x H'=>∃k,x=.bl k/\QB k H'):Ny t σ H QB:=h
theorem QC {t:TE} (h:t σ H fun x H'=>∃k,x=.bl k/\QB k H'):tB t σ H QB:=h
theorem OY {t u:TT} (h:t σ H fun c H1=>if c=true then u σ H1 QB else QB false H1):Qp t u σ H QB:=h
theorem QE {t u:TT} (h:t σ H fun c H1=>if c=true then QB true H1 else u σ H1 QB):tOr t u σ H QB:=h
theorem OK {t:TT} (h:t σ H fun c H1=>QB (!c) H1):Ql t σ H QB:=h
theorem ML {t u:TE} (h:t σ H fun x H1=>∃c,x=.bl c/\if c=true then u σ H1 Q else Q (.bl false) H1):NG t u σ H Q:=h
theorem Mv {t:TE} (h:t σ H fun x H1=>∃c,x=.bl c/\Q (.bl (!c)) H1):NA t σ H Q:=h
theorem OS {c:TT} {ta tb:TE} (h:c σ H fun b H1=>if b=true then ta σ H1 Q else tb σ H1 Q):tIf c ta tb σ H Q:=h
theorem OC (h:QB true H):Qd σ H QB:=h
theorem OL (h:QA [] H):Fj σ H QA:=h
theorem MH {ta:TE} {tr:TA} (h:ta σ H fun x H1=>tr σ H1 fun xs H2=>QA (x :: xs) H2):uA ta tr σ H QA:=h
theorem MJ {sp:Sp} {E:XK} {t:TA} (h:t σ H fun vs H1=>sp vs H1 Q E):JR sp [] E t σ H Q:=by
 have e:(fun vs H1=>sp (vs++[]) H1 Q E)=fun vs H1=>sp vs H1 Q E:=by funext vs H1;rw[ux]
 show t σ H fun vs H1=>sp (vs++[]) H1 Q E
 rw[e];exact h
theorem QG {r:List V->Hp->VK->Prop} {t:TA} (h:t σ H fun vs H1=>r vs H1 Q):RP r t σ H Q:=h
theorem OP {K:PySem.W.Frag} {p:Addr} {xs:List V} {i:Int} {v:V} (hx:uu K H p xs) (e:GB xs i=some v) (h:Q v H):O0 K (.ref p) (.int i) H Q:=⟨p,xs,i,v,rfl,rfl,hx,e,h⟩
theorem cG {K:PySem.W.Frag} {p:Addr} {xs:List V} {i:Int} (hx:b6 K H p xs) {v:V} (e:GB xs i=some v) (h:Q v H):O1 K (.ref p) (.int i) H Q:=⟨p,xs,i,v,rfl,rfl,hx,e,h⟩
theorem MF {K:PySem.W.Frag} {p:Addr} {xs:List V} {i:Int} (hx:b6 K H p xs) {v:V} (e:GB xs i=some v) (h:Q v H):NL K (.ref p) (.int i) H Q:=⟨p,xs,i,v,rfl,rfl,hx,e,h⟩
theorem fN {QH:Hp->Prop} {p:Addr} {xs:List V} {i:Int} {v:V} {j:Nat} {ys:List V} (hx:H p=some (.lst xs)) (e:JF xs.length i=some j) (ey:xs.set j v=ys) (h:QH (upd H p (.lst ys))):NK (.ref p) (.int i) v H QH:=⟨p,xs,i,j,rfl,rfl,hx,e,by rw[ey];exact h⟩
theorem MD {to ti:TE} {t:GD} {v:V} {QS:St->Hp->Prop} (h:to σ H fun o H1=>ti σ H1 fun i H2=>t o i v H2 fun H3=>QS σ H3):QY to ti t v σ H QS:=h
theorem Kt {t:TG} {u:LP} {v:V} {r:List V} {QS:St->Hp->Prop} (h:t v σ H fun σ' H'=>u r σ' H' QS):NW t u (v :: r) σ H QS:=⟨v,r,rfl,h⟩
theorem ME {QS:St->Hp->Prop} (h:QS σ H):QZ [] σ H QS:=⟨rfl,h⟩
theorem MC {K:PySem.W.Frag} {n:Nat} {t:LP} {a:Addr} {xs:List V} {QS:St->Hp->Prop} (hx:uu K H a xs) (hl:xs.length=n) (h:t xs σ H QS):Pp K n t (.ref a) σ H QS:=⟨a,xs,rfl,hx,hl,h⟩
theorem QD {r:V->Option Int->Option Int->Hp->VK->Prop} {te:TE} {tl th:TO} (h:te σ H fun x H1=>tl σ H1 fun l H2=>th σ H2 fun u H3=>r x l u H3 Q):tSl r te tl th σ H Q:=h
theorem IX {QO:Option Int->Hp->Prop} (h:QO none H):GW σ H QO:=h
theorem Mu {t:TE} {QO:Option Int->Hp->Prop} (h:t σ H fun x H1=>∃i,x=.int i/\QO (some i) H1):Nz t σ H QO:=h
variable {R:It->Hp->Prop} {K:PySem.W.Frag}
theorem Kq {tl:TE} (h:tl σ H fun x H1=>∃a,x=.ref a/\(∃xs,b6 K H1 a xs)/\R (Oa K a) H1):K9 K tl σ H R:=h
theorem MB {tl:TE} (h:tl σ H fun x H1=>∃a,x=.ref a/\(∃xs,uu K H1 a xs)/\R (PY K a) H1):QX K tl σ H R:=h
theorem Kp {ta:TA} (h:ta σ H fun vs H1=>∃j:Int,vs=[.int j]/\-(2^62)<=j/\j < 2^62/\R (E6 0 j.toNat) H1):NT ta σ H R:=h
theorem Ko {ta:TA} (h:ta σ H fun vs H1=>∃i j:Int,vs=[.int i,.int j]/\(-(2^62)<=i/\i < 2^62/\-(2^62)<=j/\j < 2^62)/\R (E6 i (j - i).toNat) H1):NS ta σ H R:=h
theorem MI {wi:TI} {k:Nat} {cap:List Nat} {g:TG} {tf:TT} {te:TE} {σ₀:St} (e:JE k cap σ=σ₀) (h:wi σ H fun J H1=>wY J σ₀ g tf te Q H1):Ee wi k cap g tf te σ H Q:=by
 unfold Ee;rw[e];exact h
theorem Mr {g:TG} {tf:TT} {te:TE} {x:V} {NY:V->Hp->Prop} {NN:Hp->Prop} (h:g x σ H fun σ2 H2=>tf σ2 H2 fun b H3=>if b=true then te σ2 H3 NY else NN H3):wg σ g tf te x H NY NN:=h
theorem QI {T:String} {r:V->List V->Hp->VK->Prop} {to:TE} {t:TA} (h:to σ H fun x H1=>RO K T x H1/\t σ H1 fun xs H2=>r x xs H2 Q):tBM K T r to t σ H Q:=h
def Q9 (Q:VK) (xs:List V) (H:Hp):Prop:=xs.length<=sizeLine/\∀p,H p=none->Q (.ref p) (upd H p (.tup xs))
def Rh (Q:VK) (xs:List V) (H:Hp):Prop:=xs.length<=sizeLine/\∀p,H p=none->Q (.ref p) (upd H p (.lst xs))
theorem OE {t:TA} (h:t σ H (Q9 Q)):Qf t σ H Q:=h
theorem OO {t:TA} (h:t σ H (Rh Q)):Qm t σ H Q:=h
theorem kC {n:Nat} (h:Nat.ble n 1000=true):n<=sizeLine:=br (bT (Nat.le_of_ble_eq_true h))
theorem cE {xs:List V} (h:∀p H',aO H H'->H' p=some (.tup xs)->Q (.ref p) H') (hl:Nat.ble xs.length 1000=true:=by rfl):Q9 Q xs H :=
 ⟨kC hl,fun p hp=>h p _ (aO.new hp) aQ⟩
theorem d6 {xs:List V} (h:∀p H',aO H H'->H p=none->H' p=some (.lst xs)->Q (.ref p) H') (hl:Nat.ble xs.length 1000=true:=by rfl):Rh Q xs H :=
 ⟨kC hl,fun p hp=>h p _ (aO.new hp) hp aQ⟩
theorem QV {A B:Prop} (h:B):if (!true)=true then A else B:=M9 h
theorem QW {A B:Prop} (h:A):if (!false)=true then A else B:=QU h
def WB (tb:TS) (D:Ends) (Pv:St->Hp->Prop) (μ:St->Hp->Nat) (n:Nat) (σ:St) (H:Hp):Prop:=∃N:St->Hp->Prop,(∀σ' H',N σ' H'->∃m',m' < n/\(m'=μ σ' H'/\Pv σ' H'))/\tb { D with nx:=N,ct:=N,bk:=D.nx } σ H
theorem NJ {tb:TS} {Pv:St->Hp->Prop} {μ:St->Hp->Nat} {n:Nat} (h:tb { D with nx:=fun σ' H'=>Pv σ' H'/\μ σ' H' < n,ct:=fun σ' H'=>Pv σ' H'/\μ σ' H' < n,bk:=D.nx } σ H):WB tb D Pv μ n σ H :=
 ⟨_,fun σ' H' ⟨p,l⟩=>⟨_,l,rfl,p⟩,h⟩
theorem C5 {c:TT} {tb:TS} (Pv:St->Hp->Prop) (μ:St->Hp->Nat) (h0:Pv σ H) (hs:∀σ H,Pv σ H->c σ H fun b H1=>if b=true then WB tb D Pv μ (μ σ H) σ H1 else D.nx σ H1):JP c tb D σ H:=by
 refine ⟨fun m σ H=>m=μ σ H/\Pv σ H,⟨_,rfl,h0⟩,?_⟩;rintro m σ H ⟨rfl,p⟩;exact hs σ H p
end
def jo (H:Hp) (p:Addr):Prop:=∃(q:Addr) (a b c:Int) (cs:List Int),H p=some (.lst [.int a,.int b,.int c,.ref q])/\H q=some (.lst (cs.map V.int))/\0<=a/\0<=c/\c<=(cs.length:Int)/\∀x∈cs,(0:Int)<=x
theorem JB {H:Hp} {p q:Addr} {a b c:Int} {cs:List Int} (hp:H p=some (.lst [.int a,.int b,.int c,.ref q])) (hq:H q=some (.lst (cs.map V.int))):q≠p:=fun e=>by
 rw[e,hp] at hq;have h:=HO.lst.inj (cv hq);cases cs with
 | nil=>cases h
 | cons x1 cs=>cases cs with
  | nil=>cases h
  | cons x2 cs=>cases cs with
   | nil=>cases h
   | cons x3 cs=>cases cs with
    | nil=>cases h
    | cons x4 cs=>simp at h
theorem jo.same {H H':Hp} {p:Addr} (h:jo H p) (e:aO H H'):jo H' p:=by obtain ⟨q,a,b,c,cs,h1,h2,r⟩:=h;exact ⟨q,a,b,c,cs,e _ _ h1,e _ _ h2,r⟩
theorem dc.tup {H H':Hp} {p r:Addr} {xs:List V} (u:dc p H H') (B:jo H p) (h:H r=some (.tup xs)):H' r=some (.tup xs):=by
 obtain ⟨q,a,b,c,cs,h1,_⟩:=B;exact u.1 r _ h fun e=>by rw[e,h1] at h;cases h
theorem dc.other {H H':Hp} {p r:Addr} {o:HO} (u:dc p H H') (n:r≠p) (h:H r=some o):H' r=some o:=u.1 r _ h n
theorem jo.inner {H:Hp} {p:Addr} (h:jo H p):∃q,Inner H p q/\∃xs,H q=some (.lst xs):=by obtain ⟨q,a,b,c,cs,h1,h2,_⟩:=h;exact ⟨q,⟨a,b,c,h1⟩,_,h2⟩
theorem jo.upd {H:Hp} {p q r:Addr} {o:HO} (h:jo H p) (hi:Inner H p q) (n1:r≠p) (n2:r≠q):jo (L2.upd H r o) p:=by
 obtain ⟨q',a,b,c,cs,h1,h2,z⟩:=h;have e:q'=q:=Inner.inj ⟨a,b,c,h1⟩ hi;subst e;exact ⟨q',a,b,c,cs,by rw[bA n1.symm];exact h1,by rw[bA n2.symm];exact h2,z⟩
theorem Inner.upd {H:Hp} {p q r:Addr} {o:HO} (hi:Inner H p q) (n1:r≠p):Inner (L2.upd H r o) p q:=by obtain ⟨a,b,c,h⟩:=hi;exact ⟨a,b,c,by rw[bA n1.symm];exact h⟩
def L8:Sp:=fun vs H Q _=>∃p n,vs=[.ref p,.int n]/\jo H p/\0 < n/\n < 2^64/\∀v H',0<=v->v < n->jo H' p->dc p H H'->Q (.int v) H'
def Ow (K:PySem.W.Frag):Sp:=fun vs H Q _=>∃(a:Addr) (ns:List Int),vs=[.ref a]/\b6 K H a (ns.map V.int)/\ns.length<=63/\∀p H',H p=none->jo H' p->aO H H'->Q (.ref p) H'
def C9 (K:PySem.W.Frag):Sp:=fun vs H Q _=>∃(a:Addr) (ns:List Int),vs=[.ref a]/\b6 K H a (ns.map V.int)/\ns.length<=63/\∀H',Q (.bl true) H'
def Oq:Sp:=fun vs H Q _=>∃t b,vs=[.int t,.int b]/\0 < b/\Sz 8999 b/\∀r H',aO H H'->H' r=some (.tup [.int (lo t b),.int (hi t b)])->Q (.ref r) H'
def Qr:Sp:=fun vs H Q _=>∃a b,vs=[.int a,.int b]/\Q (.int (g a b)) H
def II:Sp:=fun vs H Q _=>∃t b,vs=[.int t,.int b]/\b≠0/\Sz 8999 b/\∀r H',aO H H'->H' r=some (.tup [.int (lo (if b < 0 then -t else t) (if b < 0 then -b else b)),.int (hi (if b < 0 then -t else t) (if b < 0 then -b else b))])->Q (.ref r) H'
def NZ (a b c d:Int):Int:=a*d+c*b
def Ln (a b c d:Int):Int:=a*d - c*b
def Lm (a _b c _d:Int):Int:=a*c
def Hs (K:PySem.W.Frag) (f:Int->Int->Int->Int->Int):Sp:=fun vs H Q _=>∃p q a b c d,vs=[.ref p,.ref q]/\uu K H p [.int a,.int b]/\uu K H q [.int c,.int d]/\0 < b/\0 < d/\Sz 4000 a/\Sz 4000 b/\Sz 4000 c/\Sz 4000 d /\
 ∀r H',aO H H'->H' r=some (.tup [.int (lo (f a b c d) (b*d)),.int (hi (f a b c d) (b*d))])->Q (.ref r) H'
theorem cu {α β:Type} {F:α->β->Prop}:∀{l1 l1':List α} {l2 l2':List β},Paired F l1 l2->Paired F l1' l2'->Paired F (l1++l1') (l2++l2')
 | _,_,_,_,.nil,h=>h
 | _,_,_,_,.cons r t,h=>.cons r (cu t h)
theorem dB {h:Heap} {a b:Addr} {o u:Obj} (ha:h.get? a=some o) (hb:h.get? b=some u) (hc:o.cls≠u.cls):a≠b:=fun e=>by
 subst e;rw[ha] at hb;cases hb;exact hc rfl
theorem pd {a b:String} (h:a≠b):Value.type a≠Value.type b:=fun e=>h (by injection e)
theorem Cc {h:Heap} {z TI TO i1 i2 l1 l2:Addr} {f0 a b:Value} {k1 k2:Nat} {xs ys:Array Value} (hz:IsZip h z TI TO f0) (hTI:IsPair h TI (.ref i1) (.ref i2)) (hTO:IsPair h TO a b)
  (h1:h.IsListIter i1 l1 k1) (h2:h.IsListIter i2 l2 k2) (hl1:h.IsList l1 xs) (hl2:h.IsList l2 ys) (hT:TI≠TO) (hi:i1≠i2):ZipApart z TI TO i1 i2 l1 l2:=by
 obtain ⟨o1,g1,c1,_⟩:=h1;obtain ⟨o2,g2,c2,_⟩:=h2;obtain ⟨p1,q1,d1,_⟩:=hl1;obtain ⟨p2,q2,d2,_⟩:=hl2;refine ⟨dB hTI hz ?_,dB hTO hz ?_,dB g1 hz ?_,dB g2 hz ?_,hT,dB hTI g1 ?_,dB hTI g2 ?_,dB hTO g1 ?_,dB hTO g2 ?_,hi,dB q1 hz ?_,dB q1 hTO ?_,dB q1 g1 ?_,dB q1 g2 ?_,dB q2 hz ?_,dB q2 hTO ?_,dB q2 g1 ?_,dB q2 g2 ?_⟩
 all_goals first
  | (rw[d1];first | (rw[c1];exact pd (by decide)) | (rw[c2];exact pd (by decide)) | exact pd (by decide))
  | (rw[d2];first | (rw[c1];exact pd (by decide)) | (rw[c2];exact pd (by decide)) | exact pd (by decide))
  | (rw[c1];exact pd (by decide))
  | (rw[c2];exact pd (by decide))
  | exact pd (by decide)
def PJ (K : PySem.W.Frag) (l1 l2 : Addr) : It :=
  ⟨fun i H => ∃ xs ys x y, b6 K H l1 xs /\ b6 K H l2 ys /\ xs[i]? = some x /\ ys[i]? = some y,
   fun i H v H' => ∃ p x y, v = .ref p /\ H p = none /\ H' = upd H p (.tup [x, y]) /\ (∀ xs, b6 K H l1 xs → xs[i]? = some x) /\ ∀ ys, b6 K H l2 ys → ys[i]? = some y,
   fun i H => ∃ xs ys, b6 K H l1 xs /\ b6 K H l2 ys /\ (xs.length ≤ i \/ ys.length ≤ i)⟩
def tnZ (z TI TO i1 i2 l1 l2:Addr) (i:Nat) (h:Heap):Prop:=IsZip h z TI TO .none/\IsPair h TI (.ref i1) (.ref i2)/\(∃a b,IsPair h TO a b)/\h.IsListIter i1 l1 i/\h.IsListIter i2 l2 i
theorem JO {P:Program} {w:World} {K:PySem.W.Frag} {elts:List Expr} {kk:Nat} {tpos:Pos} (z TI TO i1 i2 l1 l2:Addr) (hT:TI≠TO) (hi:i1≠i2):Turn P w K (.Tuple elts kk tpos) (PJ K l1 l2) [z,TI,TO,i1,i2] z (tnZ z TI TO i1 i2 l1 l2) where
 mem:=by simp
 obj:=fun i h st b hb=>by
  obtain ⟨hz,hTI,⟨a,c,hTO⟩,⟨o1,g1,c1,d1⟩,⟨o2,g2,c2,d2⟩⟩:=st;simp only[aJ,bo,or_false] at hb;rcases hb with rfl | rfl | rfl | rfl | rfl
  ·exact ⟨_,hz,fun v q=>nomatch q⟩
  ·exact ⟨_,hTI,fun v q=>nomatch q⟩
  ·exact ⟨_,hTO,fun v q=>nomatch q⟩
  ·exact ⟨o1,g1,fun v q=>by rw[d1] at q;cases q⟩
  ·exact ⟨o2,g2,fun v q=>by rw[d2] at q;cases q⟩
 keep:=fun i h h' st k=>by
  obtain ⟨hz,hTI,⟨a,c,hTO⟩,h1,h2⟩:=st;exact ⟨k z (by simp) _ hz,k TI (by simp) _ hTI,⟨a,c,k TO (by simp) _ hTO⟩,h1.at fun o e=>k i1 (by simp) o e,h2.at fun o e=>k i2 (by simp) o e⟩
 item:=by
  intro X hP hw hK hc i pins s σ H E I hf st hg;subst hP hw hK;obtain ⟨hz,hTI,⟨a,c,hTO⟩,h1,h2⟩:=st;obtain ⟨xs,ys,x,y,qx,qy,ex,ey⟩:=hg;obtain ⟨us,rx,px,_⟩:=I.list qx;obtain ⟨ws,ry,py,_⟩:=I.list qy;obtain ⟨u,eu,ru⟩:=rx.get ex;obtain ⟨v,ev,rv⟩:=ry.get ey;have D:=Cc hz hTI hTO h1 h2 px.isList py.isList hT hi;refine wpAny_pyNext_zip_item D hz hTI hTO h1 h2 px.isList py.isList (x:=u) (y:=v) (by simpa using eu) (by simpa using ev) fun h' a1 a2 a3 a4 a5 a6 hk=>?_
  refine ⟨_,rfl,wpAny_letOwnedTupleGo_zip a1 fun h'' hz'' hs=>?_⟩;have hT0:H s.heap.objs.size=none:=I.hok.fresh (ar _);have zne:s.heap.objs.size≠z:=Ip (Heap.lt_size hz)
  have up:∀b o,b∉[z,TO,i1,i2]->s.heap.get? b=some o->h''.get? b=some o:=fun b o hb e=>by
   simp only[aJ,bo,or_false,not_or] at hb;exact (hs.2 b hb.1).trans (hk b o hb.1 hb.2.1 hb.2.2.1 hb.2.2.2 e)
  have fx:∀b∈[z,TO,i1,i2],mh X pins H b:=fun b hb=>hf b (by
   simp only[aJ,bo,or_false] at hb ⊢;rcases hb with rfl | rfl | rfl | rfl <;> simp)
  have nx:∀b o,H b=some o->b∉[z,TO,i1,i2]:=fun b o e hb=>by
   have:=(fx b hb).1;rw[this] at e;cases e
  have nT:∀{b:Addr} {o:HO},H b=some o->b≠s.heap.objs.size:=fun e q=>by rw[q,hT0] at e;cases e
  have tup:h''.get? s.heap.objs.size=some { cls:=.type "tuple",data:=.seq #[u,v] }:=(hs.2 _ zne).trans a5
  have I2:Inv X pins σ (upd H s.heap.objs.size (.tup [x,y])) { s with heap:=h'' }:=by
   refine I.step (g':=s.gens) (d':=s.drawn) (t':=s.toks) (ch:=[z,TO,i1,i2]) (fun b hb=>?_) (fun b o _ _ hb e _=>up b o hb e) (fun b o _ _ hb e _=>⟨o.slots,up b o hb e⟩) (fun b o hb e n=>?_)
    (fun b o hb e=>⟨o,up b o hb e⟩) (fun b q e=>by rw[bA (nT e)];exact e) (fun b o q e=>by rw[bA (nT e)];exact e) (fun b q e=>⟨#[],by rw[bA (nT e),e];simp⟩) (fun m hm=>?_) (fun b o e=>?_) I.bare
   ·obtain ⟨_,f1,_,f3,f4,f5⟩:=fx b hb;exact ⟨f3,f1,f4,f5⟩
   ·rw[bA (ck (Heap.lt_size e))];exact n
   ·obtain ⟨o,es,ep,ho,r⟩:=hm;exact ⟨o,es,ep,up _ o (fun z=>(fx _ z).2.1 rfl) ho,r⟩
   ·by_cases hb:b=s.heap.objs.size
    ·subst hb;rw[aQ] at e;cases e;exact ⟨kC rfl,[u,v],.cons ru (.cons rv .nil),⟨_,tup,rfl,_,rfl⟩⟩
    ·rw[bA hb] at e;refine (I.hok b o e).stay (fun c v' hc q=>up c v' ?_ q) (fun c q=>by rw[bA (nT q)];exact q) fun c xs q=>by rw[bA (nT q)];exact q
     rcases hc with rfl | hc
     ·exact nx _ _ e
     ·exact nx _ _ hc
  refine ⟨.ref s.heap.objs.size,_,I2,rfl,⟨_,x,y,rfl,hT0,rfl,fun xs' q=>by rw[I.list_inj q qx];exact ex,fun ys' q=>by rw[I.list_inj q qy];exact ey⟩,?_,fun b hb=>?_⟩
  ·refine ⟨hz'',(hs.2 _ D.TIz).trans (hk _ _ D.TIz D.TITO D.TIi1 D.TIi2 hTI),⟨_,_,(hs.2 _ D.TOz).trans a2⟩,a3.at fun o e=>(hs.2 _ D.i1z).trans e,a4.at fun o e=>(hs.2 _ D.i2z).trans e⟩
  ·obtain ⟨o,e,_⟩:∃o,s.heap.get? b=some o/\True:=by
    obtain ⟨o1,g1,_⟩:=h1;obtain ⟨o2,g2,_⟩:=h2;simp only[aJ,bo,or_false] at hb;rcases hb with rfl | rfl | rfl | rfl | rfl
    ·exact ⟨_,hz,trivial⟩
    ·exact ⟨_,hTI,trivial⟩
    ·exact ⟨_,hTO,trivial⟩
    ·exact ⟨_,g1,trivial⟩
    ·exact ⟨_,g2,trivial⟩
   rw[bA (ck (Heap.lt_size e))];exact (hf b hb).1
 done:=by
  intro X hP hw hK hc i pins s σ H E I hf st hg;subst hP hw hK;obtain ⟨hz,hTI,⟨a,c,hTO⟩,h1,h2⟩:=st;obtain ⟨xs,ys,qx,qy,hend⟩:=hg;obtain ⟨us,rx,px,_⟩:=I.list qx;obtain ⟨ws,ry,py,_⟩:=I.list qy;have lx:=rx.length;have ly:=ry.length;have D:=Cc hz hTI hTO h1 h2 px.isList py.isList hT hi
  refine wpAny_pyNext_zip_end (I.ok.hd hc) D hz hTI hTO h1 h2 px.isList py.isList (by
   rcases hend with q | q
   ·exact .inl (by simp;lia)
   ·exact .inr (by simp;lia)) fun h' hk=>⟨rfl,?_⟩
  have up:∀b o,b∉[z,TO,i1,i2]->s.heap.get? b=some o->h'.get? b=some o:=fun b o hb e=>by
   simp only[aJ,bo,or_false,not_or] at hb;exact hk b o hb.1 hb.2.1 hb.2.2.1 hb.2.2.2 e
  have fx:∀b∈[z,TO,i1,i2],mh X pins H b:=fun b hb=>hf b (by
   simp only[aJ,bo,or_false] at hb ⊢;rcases hb with rfl | rfl | rfl | rfl <;> simp)
  have nx:∀b o,H b=some o->b∉[z,TO,i1,i2]:=fun b o e hb=>by
   have:=(fx b hb).1;rw[this] at e;cases e
  refine I.step (g':=s.gens) (d':=s.drawn) (t':=s.toks) (ch:=[z,TO,i1,i2]) (fun b hb=>?_) (fun b o _ _ hb e _=>up b o hb e) (fun b o _ _ hb e _=>⟨o.slots,up b o hb e⟩) (fun b o hb e n=>n)
   (fun b o hb e=>⟨o,up b o hb e⟩) (fun b q e=>e) (fun b o q e=>e) (fun b q e=>⟨#[],by rw[e];simp⟩) (fun m hm=>?_) (fun b o e=>?_) I.bare
  ·obtain ⟨_,f1,_,f3,f4,f5⟩:=fx b hb;exact ⟨f3,f1,f4,f5⟩
  ·obtain ⟨o,es,ep,ho,r⟩:=hm;exact ⟨o,es,ep,up _ o (fun z=>(fx _ z).2.1 rfl) ho,r⟩
  ·refine (I.hok b o e).stay (fun c v' hc q=>up c v' ?_ q) (fun c q=>q) fun c xs q=>q
   rcases hc with rfl | hc
   ·exact nx _ _ e
   ·exact nx _ _ hc
 self:=fun _ _ _ _ _ st h=>wpAny_pyIter_zip st.1 h
section
variable {X:Cx}
def Pk (K:PySem.W.Frag) (ta:TA):TI:=fun σ H R=>ta σ H fun vs H1=>∃l1 l2,vs=[.ref l1,.ref l2]/\(∃xs,b6 K H1 l1 xs)/\(∃ys,b6 K H1 l2 ys)/\R (PJ K l1 l2) H1
theorem vE {a b:Expr} {ta:TA} {p pos tpos:Pos} {elts:List Expr} {kk:Nat} (hg:Gl X "zip") (hm:X.mg "zip"=none) (ha:PA X [a,b] ta) (hs:starEach [a,b] X.env=[(false,eval a X.env),(false,eval b X.env)]:=by rfl) (hs2:starEach [b] X.env=[(false,eval b X.env)]:=by rfl) :
  PI X (.Tuple elts kk tpos) (.Call (.Name "zip" p) [a,b] [] pos) (Pk X.K ta):=by
 intro pins s σ H R I h;refine Call_ (md I hg hm boot_zip (PyProof.Rows.callWith_type1 (gG (ha pos pins s σ H _ I h) fun us s1 ⟨vs,H1,I1,r1,q1⟩=>?_) (by rw[hs,hs2]) (by rw[hs2];rfl)));obtain ⟨l1,l2,e,⟨xs,qx⟩,⟨ys,qy⟩,q⟩:=q1;subst e;obtain ⟨u,v,rfl,ru,rv⟩:=vals2 r1;cases ru;cases rv;obtain ⟨us,rx,px,_⟩:=I1.list qx;obtain ⟨ws,ry,py,_⟩:=I1.list qy;refine call_zip_2 px.isList py.isList fun h' a1 a2 a3 a4 a5 a6 hk=>wpAny_pyIter_zip a1 ?_
 have I2:Inv X pins σ H1 { s1 with heap:=h' }:=I1.kept (t':=s1.toks) hk;refine ⟨_,[s1.heap.objs.size+4,s1.heap.objs.size+2,s1.heap.objs.size+3,s1.heap.objs.size,s1.heap.objs.size+1],_,_,H1,rfl,I2,JO (s1.heap.objs.size+4) (s1.heap.objs.size+2) (s1.heap.objs.size+3) s1.heap.objs.size (s1.heap.objs.size+1) l1 l2 (ck (jq _)) (ck (jq _)),⟨a1,a2,⟨_,_,a3⟩,a4,a5⟩,fun b hb=>?_,q⟩
 have hb':s1.heap.objs.size<=b:=by
  simp only[aJ,bo,or_false] at hb;rcases hb with rfl | rfl | rfl | rfl | rfl <;> first | exact zI _ _ | exact ar _
 exact I1.fpOk hb' (I1.hok.fresh hb')
theorem Bu (hc:X.calm=true):vA X (.builtin "all") (fun xs H Q=>∃(p:Addr) (bs:List Bool),xs=[.ref p]/\b6 X.K H p (bs.map V.bl)/\Q (.bl (bs.all id)) H):=by
 intro pins s σ H xs us Q I r h;obtain ⟨p,bs,rfl,hp,q⟩:=h;obtain ⟨u,rfl,ru⟩:=vals1 r;cases ru;obtain ⟨vs,rv,pl,hz⟩:=I.list hp
 have hb:PyProof.Rows.LSm.BoolsAre vs bs:=by
  clear q hp pl hz
  induction bs generalizing vs with
  | nil=>cases rv;exact .nil
  | cons b bs ih =>
   rw[ir] at rv;cases rv with
   | cons r1 r2=>cases r1;exact .cons b (ih _ r2)
 have hlt:p < s.heap.objs.size:=by obtain ⟨_,e,_⟩:=pl.isList;exact Heap.lt_size e
 refine call_all_walk (wpAny_pyIter_list pl.isList ?_)
 refine ⟨s.heap.objs.size,[s.heap.objs.size,p],[s.heap.objs.size],vs.toArray.size,_,_,fun i=>(bs[i]?).getD true,rfl,Walks.list (A:=X.A.in1) (I.ok.hd hc) _ p (ck hlt) vs.toArray,
  ⟨⟨_,Heap.get?_push_size _ rfl,rfl,rfl⟩,pl.isList.push _⟩,fun i v s' Q' E' hP hQ=>?_,fun h' tk hk=>?_⟩
 ·obtain ⟨b,e,rfl⟩:=hb.get i v (by simpa using hP);simp only[e,Option.getD_some] at hQ;exact wpAny_truthy_bool hQ
 ·have e:((List.range vs.toArray.size).all fun i=>(bs[i]?).getD true)=bs.all id:=by
   rw[aS,hb.length];exact PyProof.Rows.LSm.range_all bs
  rw[e];exact ⟨.bl _,H,I.kept (t':=tk) (PyProof.Rows.LSm.kept_iter hk),rfl,q⟩
theorem LA (hc:X.calm=true):vA X (.builtin "sum") (fun xs H Q=>∃(p:Addr) (ns:List Int),xs=[.ref p]/\b6 X.K H p (ns.map V.int)/\Q (.int ns.sum) H):=by
 intro pins s σ H xs us Q I r h;obtain ⟨p,ns,rfl,hp,q⟩:=h;obtain ⟨u,rfl,ru⟩:=vals1 r;cases ru;obtain ⟨vs,rv,pl,_⟩:=I.list hp;have hi:IntsAre vs ns:=intsAre_of rv;obtain ⟨xs,hx⟩:=hi.allInts.items;have hl':s.heap.IsList p (intItems xs):=hx ▸ pl.isList;refine sum_intListG (I.ok.hd hc) hl' fun h' tk t' hk=>?_
 have e1:ns=xs.toList.map (·.1):=by
  rw[<- nums_intItems,<- hx];exact (show numsOf vs.toArray.toList=ns from hi.numsOf).symm
 have e2:preSum (numAt xs) xs.size=ns.sum:=by
  rw[preSum_eq,aH (by simp),e1]
 rw[e2];exact ⟨.int _,H,I.kept (t':=tk) hk,⟨_,rfl⟩,q⟩
end
section
variable {K:PySem.W.Frag} {l1 l2:Addr} {xs ws:List V} {g:TG} {tf:TT} {te:TE} {Q:VK} {σ₀:St} {H:Hp}
theorem uY (Pv:Nat->List V->Hp->Prop) (hz:xs.length<=sizeLine) (hw:ws.length=xs.length) (h0:Pv 0 [] H) (hl:∀i ys H,i<=xs.length->Pv i ys H->b6 K H l1 xs/\b6 K H l2 ws)
  (hs:∀i x y ys H p,xs[i]?=some x->ws[i]?=some y->ys.length<=i->Pv i ys H->H p=none->wg σ₀ g tf te (.ref p) (upd H p (.tup [x,y])) (fun y H'=>Pv (i+1) (ys++[y]) H') (fun H'=>Pv (i+1) ys H'))
  (hd:∀ys H,ys.length<=xs.length->Pv xs.length ys H->∀p,H p=none->Q (.ref p) (upd H p (.lst ys))):wY (PJ K l1 l2) σ₀ g tf te Q H:=by
 refine ⟨fun i m ys H=>m=xs.length - i/\i<=xs.length/\ys.length<=i/\Pv i ys H,⟨xs.length,by simp,bh _,bh _,h0⟩,?_⟩;rintro i m ys H ⟨rfl,hi,hy,p⟩;obtain ⟨q1,q2⟩:=hl i ys H hi p;by_cases hlt:i < xs.length
 ·refine .inr ⟨⟨xs,ws,xs[i],ws[i]'(by lia),q1,q2,by simp [hlt],by simp⟩,by lia,fun y H'=>Pv (i+1) (ys++[y]) H',fun H'=>Pv (i+1) ys H',fun y H' p'=>⟨xs.length - (i+1),by lia,rfl,hlt,by rw[ay,bQ];lia,p'⟩,fun H' p'=>⟨xs.length - (i+1),by lia,rfl,hlt,by lia,p'⟩,fun x H' y=>?_⟩;obtain ⟨r,x',y',rfl,hr,rfl,e1,e2⟩:=y;exact hs i x' y' ys _ r (e1 xs q1) (e2 ws q2) hy p hr
 ·have e:i=xs.length:=by lia
  subst e;exact .inl ⟨⟨xs,ws,q1,q2,.inl (ar _)⟩,by lia,hd ys H hy p⟩
theorem Nc {tb:TS} {D:Ends} {σ:St} (Pv:Nat->St->Hp->Prop) (hw:ws.length=xs.length) (h0:Pv 0 σ H) (hl:∀i σ H,i<=xs.length->Pv i σ H->b6 K H l1 xs/\b6 K H l2 ws)
  (hs:∀i x y σ H p,xs[i]?=some x->ws[i]?=some y->Pv i σ H->H p=none->g (.ref p) σ (upd H p (.tup [x,y])) fun σ2 H2=>tb { D with nx:=Pv (i+1),ct:=Pv (i+1),bk:=D.nx } σ2 H2) (hd:∀σ H,Pv xs.length σ H->D.nx σ H) :
  ∃W:Nat->Nat->St->Hp->Prop,(∃m,W 0 m σ H)/\∀i m σ H,W i m σ H →
   ((PJ K l1 l2).stop i H/\D.nx σ H)\/((PJ K l1 l2).go i H/\∃N:St->Hp->Prop,(∀σ' H',N σ' H'->∃m',m' < m/\W (i+1) m' σ' H')/\∀x H',(PJ K l1 l2).yld i H x H'->g x σ H' fun σ2 H2=>tb { D with nx:=N,ct:=N,bk:=D.nx } σ2 H2):=by
 refine ⟨fun i m σ H=>m=xs.length - i/\i<=xs.length/\Pv i σ H,⟨xs.length,by simp,bh _,h0⟩,?_⟩;rintro i m σ H ⟨rfl,hi,p⟩;obtain ⟨q1,q2⟩:=hl i σ H hi p;by_cases hlt:i < xs.length
 ·refine .inr ⟨⟨xs,ws,xs[i],ws[i]'(by lia),q1,q2,by simp [hlt],by simp⟩,Pv (i+1),fun σ' H' p'=>⟨xs.length - (i+1),by lia,rfl,hlt,p'⟩,fun x H' y=>?_⟩;obtain ⟨r,x',y',rfl,hr,rfl,e1,e2⟩:=y;exact hs i x' y' σ _ r (e1 xs q1) (e2 ws q2) p hr
 ·have e:i=xs.length:=by lia
  subst e;exact .inl ⟨⟨xs,ws,q1,q2,.inl (ar _)⟩,hd σ H p⟩
end
section
variable {X:Cx}
theorem vF (K:PySem.W.Frag) (n:Nat) {es:List Expr} {k:Nat} {pos:Pos} {t:LP} (h:Q6 X es t) (hK:X.K=K:=by rfl) (hc:X.calm=true:=by rfl)
  (hn:(assignEach es X.env).length=n:=by rfl) (hst:(assignEach es X.env).findIdx? (·.1)=none:=by rfl):PG X (.Tuple es k pos) (Pp K n t):=by subst hK;exact sL hc h hn hst
theorem z9 (K:PySem.W.Frag) (hK:X.K=K):Ri X (O0 K):=by subst hK;exact cB
theorem kW (K:PySem.W.Frag) (hK:X.K=K):Ri X (O1 K):=by subst hK;exact cg
theorem Ew (K:PySem.W.Frag) {tg l:Expr} {tl:TE} (hl:PE X l tl) (hK:X.K=K:=by rfl):PI X tg l (K9 K tl):=by subst hK;exact du hl
theorem Kh (K:PySem.W.Frag) (hK:X.K=K):Sf X (OZ K):=by subst hK;exact Dd
end
theorem eI {X:Cx} {e e':Expr} {es:List Expr} {te:TE} {t:TA} (h:e=e') (ha:PE X e' te) (hr:PA X es t) (hs:∀l,starEach (e' :: l) X.env=(false,eval e' X.env) :: starEach l X.env:=by intro _;rfl):PA X (e :: es) (uA te t):=by subst h;exact ae ha hr (hs _)
section
variable {σ:St} {H:Hp} {D:Ends} {Q:VK}
theorem o8 {l:Addr} {xs:List V} {y:V} (hl:H l=some (.lst xs)) (hz:xs.length < sizeLine) (h:Q .non (upd H l (.lst (xs++[y])))):Hv (.ref l) [y] H Q:=⟨l,xs,y,rfl,rfl,hl,hz,h⟩
theorem Mz {K:PySem.W.Frag} {ta:TA} {R:It->Hp->Prop} (h:ta σ H fun vs H1=>∃l1 l2,vs=[.ref l1,.ref l2]/\(∃xs,b6 K H1 l1 xs)/\(∃ys,b6 K H1 l2 ys)/\R (PJ K l1 l2) H1):Pk K ta σ H R:=h
theorem uH {l b:Addr} {xs zs:List V} (h1:H l=some (.lst xs)) (h2:H b=some (.lst zs)) (hz:xs.length+zs.length<=sizeLine) (h:∀p H',aO H H'->H p=none->H' p=some (.lst (xs++zs))->Q (.ref p) H'):QL (.ref l) (.ref b) H Q :=
 ⟨l,b,xs,zs,rfl,rfl,h1,h2,hz,fun p hp=>h p _ (aO.new hp) hp aQ⟩
theorem OF {K:PySem.W.Frag} {a:Addr} {xs:List V} {lo hi:Option Int} (h1:b6 K H a xs) (h:∀p H',aO H H'->H p=none->H' p=some (.lst (we xs lo hi))->Q (.ref p) H'):OZ K (.ref a) lo hi H Q :=
 ⟨a,xs,rfl,h1,fun p hp=>h p _ (aO.new hp) hp aQ⟩
theorem sA {α:Type} {xs:List α} {i:Int} (h0:0<=i) (h1:i < xs.length):∃v,GB xs i=some v/\v∈xs/\xs[i.toNat]?=some v:=by
 have hj:i.toNat < xs.length:=by lia
 refine ⟨xs[i.toNat],?_,aL hj,by simp [hj]⟩;have:=fO (xs:=xs) (j:=i.toNat) (v:=xs[i.toNat]) (by simp [hj]);rwa [Int.toNat_of_nonneg h0] at this
end
inductive Kn (H:Hp):V->Prop where
 | non:Kn H .non
 | bl (b:Bool):Kn H (.bl b)
 | int (i:Int):Kn H (.int i)
 | str (x:Str):Kn H (.str x)
 | lst {a:Addr} {xs:List V} (e:H a=some (.lst xs)):Kn H (.ref a)
 | tup {a:Addr} {xs:List V} (e:H a=some (.tup xs)):Kn H (.ref a)
 | dic {a:Addr} {kvs:List (Key×V)} (e:H a=some (.dK kvs)):Kn H (.ref a)
theorem dS {α β:Type} {F:α->β->Prop}:∀{l1:List α} {l2:List β} {y:β},Paired F l1 l2->y∈l2->∃x∈l1,F x y
 | _,_,_,.nil,h=>nomatch h
 | _,_,_,.cons r t,h=>by
  rcases aJ.mp h with rfl | h
  ·exact ⟨_,dk,r⟩
  ·obtain ⟨x,hx,q⟩:=dS t h;exact ⟨x,bV _ hx,q⟩
theorem cJ {α β:Type} {F:α->β->Prop} {l1:List α} {l2:List β} {i:Nat} {y:β} (h:Paired F l1 l2) (e:l2[i]?=some y):∃x,l1[i]?=some x/\F x y:=by
 have hl:=h.length;have hi:i < l2.length:=(aI.mp e).1;refine ⟨l1[i]'(by lia),by simp,?_⟩;have:=ma h (i:=i) (by lia) hi;have e2:l2[i]=y:=(aI.mp e).2;rwa [e2] at this
def zD (n:Int×Int):Prop:=0 < n.2/\Int.gcd n.1 n.2=1/\Sz 8000 n.1/\Sz 8000 n.2
theorem take_snoc {α:Type} {l:List α} {i:Nat} {v:α} (h:l[i]?=some v):l.take (i+1)=l.take i++[v]:=by rw[List.take_add_one,h];rfl
theorem aO.after {H H':Hp} {r:Addr} {o:HO} (s:aO H H') (h:H r=Option.none):aO H (upd H' r o):=fun b u e=>by rw[bA (fJ e h)];exact s b u e
theorem dc.after {H H':Hp} {b r:Addr} {o:HO} (s:dc b H H') (h:H r=Option.none):dc b H (upd H' r o):=⟨fun c u e n=>by rw[bA (fJ e h)];exact s.1 c u e n,fun q hi=>(s.2 q hi).upd fun z=>by obtain ⟨_,_,_,e⟩:=hi;rw[<- z,h] at e;cases e⟩
theorem dc.same {H H' H'':Hp} {b:Addr} (s:dc b H H') (e:aO H' H''):dc b H H'':=s.trans e.upto
theorem Ii {α:Type} {Pr:α->Prop} {l:List α} {a:α} (h:∀n∈l,Pr n) (ha:Pr a):∀n∈l++[a],Pr n:=fun n hn=>by
 rcases ax.mp hn with hn | hn
 ·exact h n hn
 ·have e:n=a:=by simpa using hn
  rw[e];exact ha
abbrev BA (h:Heap) (z TI TO:Addr) (f0 f1:Value):Prop:=h.get? z=some { cls:=.type "zip",dict:=none,data:=.fields #[f0,f1,.bool false,.ref TI,.ref TO],slots:=#[] }
section
variable {prog:Program} {w:World} {A:Around} {E:Value->Shared->Prop} {s:Shared}
theorem GC {a:Addr} {o:Obj} {Q:Option Obj->Shared->Prop} (e:s.heap.get? a=some o) (h:Q (some o) s):wpAny (model prog w) A (loadIfAlive a) Q E s:=by
 intro Γ p hp;show Sem.wp _ _ (.loadIfAlive a .pure) _ _ _ _
 simp only[Sem.wp_loadIfAlive,e];exact wpAny_pure h Γ p hp
theorem AZ {z TI TO T:Addr} {b1:Bool} {o:Obj} {Q:Bool->Shared->Prop} (zr:BA s.heap z TI TO (rawInt T) (.bool b1)) (al:s.heap.get? T=some o)
  (h:∀h',BA h' z TI TO (rawInt T) (.bool true)->Heap.SameBut z s.heap h'->Q false { s with heap:=h' }):wpAny (model prog w) A (Builtin.SmallTypes.ownedTupleIsFree (.ref z)) Q E s:=by
 unfold Builtin.SmallTypes.ownedTupleIsFree;refine wpAny_bind (wpAny_field zr rfl (x:=rawInt T) rfl ?_);refine wpAny_bind (GC (a:=T) al ?_);refine wpAny_bind (wpAny_field zr rfl (x:=.bool b1) rfl ?_);cases b1 with
 | true=>exact wpAny_pure (h _ zr (.refl ..))
 | false=>exact wpAny_bind (wpAny_setField_rec zr (by simp) fun h' zr' sb=>wpAny_pure (h h' zr' sb))
theorem Jn {z TI TO T i1 i2 l1 l2:Addr} {k1 k2:Nat} {us ws:Array Value} {u v:Value} {b1:Bool} {o:Obj} {Q:Value->Shared->Prop} (D:ZipApart z TI TO i1 i2 l1 l2) (zr:BA s.heap z TI TO (rawInt T) (.bool b1)) (al:s.heap.get? T=some o)
  (pt:IsPair s.heap TI (.ref i1) (.ref i2)) (j1:s.heap.IsListIter i1 l1 k1) (j2:s.heap.IsListIter i2 l2 k2) (m1:s.heap.IsList l1 us) (m2:s.heap.IsList l2 ws) (eu:us[k1]?=some u) (ev:ws[k2]?=some v)
  (hQ:∀h',BA h' z TI TO (rawInt T) (.bool true)->h'.IsListIter i1 l1 (k1+1)->h'.IsListIter i2 l2 (k2+1)->IsPair h' s.heap.objs.size u v->(∀c o,c≠z->c≠i1->c≠i2->s.heap.get? c=some o->h'.get? c=some o)->Q (.ref s.heap.objs.size) { s with heap:=h' }) :
  wpAny (model prog w) A (Builtin.«zip.__next__» ⟨[.ref z],[]⟩) (fun fin s'=>∃v,fin=.done (.ret v)/\Q v s') E s:=by
 change wpAny _ _ (field (Value.ref z) 2 >>= _) _ _ s
 refine wpAny_bind (wpAny_field zr rfl (x:=.bool false) rfl ?_)
 change wpAny _ _ (field (Value.ref z) 3 >>= _) _ _ s
 refine wpAny_bind (wpAny_field zr rfl (x:=.ref TI) rfl (wpAny_bind (wpAny_seqItems pt rfl ?_)))
 change wpAny _ _ (Builtin.SmallTypes.ownedTupleIsFree (Value.ref z) >>= _) _ _ s
 refine wpAny_bind (AZ zr al fun g1 zr1 sb1=>?_);simp only[jL,if_false];refine wpAny_bind ?_;rw[<- Array.forIn_toList];simp only[LU,C1];have j1':=j1.extBut sb1.extBut D.i1z;have m1':=m1.extBut sb1.extBut D.l1z;refine wpAny_bind (wpAny_bind (wpAny_holding ?_))
 change wpAny _ _ (Builtin.SmallTypes.nextOf (Value.ref i1) >>= _) _ _ _
 refine wpAny_bind (wpAny_nextOf_list_item j1' m1' eu fun g2 j1a sb2=>wpAny_pure ?_);refine wpAny_pure ?_;have j2':=(j2.extBut sb1.extBut D.i2z).extBut sb2.extBut D.i12.symm;have m2':=(m2.extBut sb1.extBut D.l2z).extBut sb2.extBut D.l2i1;refine wpAny_bind (wpAny_bind (wpAny_holding ?_))
 change wpAny _ _ (Builtin.SmallTypes.nextOf (Value.ref i2) >>= _) _ _ _
 refine wpAny_bind (wpAny_nextOf_list_item j2' m2' ev fun g3 j2a sb3=>wpAny_pure ?_);refine wpAny_pure (wpAny_pure ?_);refine wpAny_bind (wpAny_newTuple (hsz:=kC rfl) ?_);have sz:g3.objs.size=s.heap.objs.size:=by rw[sb3.1,sb2.1,sb1.1]
 have up:∀c o,c≠z->c≠i1->c≠i2->s.heap.get? c=some o->g3.get? c=some o:=fun c o c1 c2 c3 e=>sb3.extBut _ _ c3 (sb2.extBut _ _ c2 (sb1.extBut _ _ c1 e))
 have zr3:BA g3 z TI TO (rawInt T) (.bool true):=sb3.extBut _ _ D.i2z.symm (sb2.extBut _ _ D.i1z.symm zr1);refine wpAny_pure ⟨_,rfl,?_⟩
 change Q (.ref g3.objs.size) { s with heap:=g3.push { cls:=.type "tuple",data:=.seq #[u,v] } }
 have last:=hQ (g3.push { cls:=.type "tuple",data:=.seq #[u,v] }) (Heap.get?_push_of_some _ zr3) ((j1a.extBut sb3.extBut D.i12).at fun o e=>Heap.get?_push_of_some _ e) (j2a.at fun o e=>Heap.get?_push_of_some _ e)
  (by rw[<- sz];exact Heap.get?_push_size _ rfl) fun c o c1 c2 c3 e=>Heap.get?_push_of_some _ (up c o c1 c2 c3 e)
 rw[sz];exact last
theorem KO {z TI TO T i1 i2 l1 l2:Addr} {k1:Nat} {us:Array Value} {b1:Bool} {o:Obj} {Q:PySem.Fin->Shared->Prop} (hh:A.handled=none) (D:ZipApart z TI TO i1 i2 l1 l2) (zr:BA s.heap z TI TO (rawInt T) (.bool b1)) (al:s.heap.get? T=some o)
  (pt:IsPair s.heap TI (.ref i1) (.ref i2)) (j1:s.heap.IsListIter i1 l1 k1) (m1:s.heap.IsList l1 us) (eu:us[k1]?=none)
  (hE:∀h' e,(∀c o,c≠z->c≠i1->c≠i2->s.heap.get? c=some o->h'.get? c=some o)->(∃o,h'.get? e=some o/\o.cls=.type "StopIteration")->E (.ref e) { s with heap:=h' }) :
  wpAny (model prog w) A (Builtin.«zip.__next__» ⟨[.ref z],[]⟩) Q E s:=by
 change wpAny _ _ (field (Value.ref z) 2 >>= _) _ _ s
 refine wpAny_bind (wpAny_field zr rfl (x:=.bool false) rfl ?_)
 change wpAny _ _ (field (Value.ref z) 3 >>= _) _ _ s
 refine wpAny_bind (wpAny_field zr rfl (x:=.ref TI) rfl (wpAny_bind (wpAny_seqItems pt rfl ?_)))
 change wpAny _ _ (Builtin.SmallTypes.ownedTupleIsFree (Value.ref z) >>= _) _ _ s
 refine wpAny_bind (AZ zr al fun g1 zr1 sb1=>?_);simp only[jL,if_false];refine wpAny_bind ?_;rw[<- Array.forIn_toList];simp only[LU,C1];refine wpAny_bind (wpAny_bind (wpAny_holding ?_))
 change wpAny _ _ (Builtin.SmallTypes.nextOf (Value.ref i1) >>= _) _ _ _
 exact wpAny_bind (wpAny_nextOf_list_end hh (j1.extBut sb1.extBut D.i1z) (m1.extBut sb1.extBut D.l1z) eu fun g2 e xb he=>hE g2 e (fun c o c1 c2 _ q=>xb _ _ c2 (sb1.extBut _ _ c1 q)) he)
theorem Jk {z TI TO T i1 i2 l1 l2:Addr} {k1 k2:Nat} {us ws:Array Value} {u v:Value} {b1:Bool} {o:Obj} {Q:Option Value->Shared->Prop} (D:ZipApart z TI TO i1 i2 l1 l2) (zr:BA s.heap z TI TO (rawInt T) (.bool b1)) (al:s.heap.get? T=some o)
  (pt:IsPair s.heap TI (.ref i1) (.ref i2)) (j1:s.heap.IsListIter i1 l1 k1) (j2:s.heap.IsListIter i2 l2 k2) (m1:s.heap.IsList l1 us) (m2:s.heap.IsList l2 ws) (eu:us[k1]?=some u) (ev:ws[k2]?=some v)
  (hQ:∀h',BA h' z TI TO (rawInt T) (.bool true)->h'.IsListIter i1 l1 (k1+1)->h'.IsListIter i2 l2 (k2+1)->IsPair h' s.heap.objs.size u v->(∀c o,c≠z->c≠i1->c≠i2->s.heap.get? c=some o->h'.get? c=some o)->Q (some (.ref s.heap.objs.size)) { s with heap:=h' }) :
  wpAny (model prog w) A (pyNext (.ref z)) Q E s:=by
 have ty:s.TypeIs (.ref z) "zip":=⟨_,zr,rfl⟩;unfold pyNext;refine wpAny_bind (wpAny_attempt (wpAny_callSpecial?_slot (name:=Str.ofString "__next__") ty sE (wpAny_call_entry sE ty PySem.F.entry_zip_next ?_ (Rn _))));exact Jn D zr al pt j1 j2 m1 m2 eu ev fun h' a1 a2 a3 a4 a5=>wpAny_pure (hQ h' a1 a2 a3 a4 a5)
theorem Jj {z TI TO T i1 i2 l1 l2:Addr} {k1:Nat} {us:Array Value} {b1:Bool} {o:Obj} {Q:Option Value->Shared->Prop} (hh:A.handled=none) (D:ZipApart z TI TO i1 i2 l1 l2) (zr:BA s.heap z TI TO (rawInt T) (.bool b1)) (al:s.heap.get? T=some o)
  (pt:IsPair s.heap TI (.ref i1) (.ref i2)) (j1:s.heap.IsListIter i1 l1 k1) (m1:s.heap.IsList l1 us) (eu:us[k1]?=none)
  (hQ:∀h',(∀c o,c≠z->c≠i1->c≠i2->s.heap.get? c=some o->h'.get? c=some o)->Q none { s with heap:=h' }):wpAny (model prog w) A (pyNext (.ref z)) Q E s:=by
 have ty:s.TypeIs (.ref z) "zip":=⟨_,zr,rfl⟩;unfold pyNext;refine wpAny_bind (wpAny_attempt (wpAny_callSpecial?_slot (name:=Str.ofString "__next__") ty sE (wpAny_call_entry sE ty PySem.F.entry_zip_next ?_ (Rn _))));refine KO hh D zr al pt j1 m1 eu fun h' e kk ⟨oe,he,hc⟩=>?_
 exact wpAny_bind (wpAny_isInstance (T:="StopIteration") (b:=true) ⟨oe,he,hc⟩ isSubtype_stop (wpAny_pure (hQ _ kk)))
end
section
variable {X:Cx} {pins:List (Addr×Obj)} {σ:St} {H:Hp} {s:Shared}
theorem Inv.moved {h':Heap} {ch:List Addr} {g':Array GenState} {d':Drawn} {t':Nat} (I:Inv X pins σ H s) (fx:∀b∈ch,mh X pins H b) (up:∀b o,b∉ch->s.heap.get? b=some o->h'.get? b=some o) (hg:AllBare g') :
  Inv X pins σ H { s with heap:=h',gens:=g',drawn:=d',toks:=t' }:=by
 have nx:∀b o,H b=some o->b∉ch:=fun b o e hb=>by have:=(fx b hb).1;rw[this] at e;cases e
 refine I.step (ch:=ch) (fun b hb=>?_) (fun b o _ _ hb e _=>up b o hb e) (fun b o _ _ hb e _=>⟨o.slots,up b o hb e⟩) (fun b o hb e n=>n) (fun b o hb e=>⟨o,up b o hb e⟩) (fun b q e=>e) (fun b o q e=>e) (fun b q e=>⟨#[],by rw[e];simp⟩) (fun m hm=>?_) (fun b o e=>?_) hg
 ·obtain ⟨_,f1,_,f3,f4,f5⟩:=fx b hb;exact ⟨f3,f1,f4,f5⟩
 ·obtain ⟨o,es,ep,ho,r⟩:=hm;exact ⟨o,es,ep,up _ o (fun z=>(fx _ z).2.1 rfl) ho,r⟩
 ·refine (I.hok b o e).stay (fun c v' hc q=>up c v' ?_ q) (fun c q=>q) fun c xs q=>q
  rcases hc with rfl | hc
  ·exact nx _ _ e
  ·exact nx _ _ hc
theorem Inv.track {p:Addr} {o:HO} (I:Inv X pins σ H s) (fp:mh X pins H p) (new:kv X.prog X.w (upd H p o) s.heap p o):Inv X pins σ (upd H p o) s:=by
 have nt:∀{b:Addr} {u:HO},H b=some u->b≠p:=fun e z=>by rw[z,fp.1] at e;cases e
 refine I.step (h':=s.heap) (g':=s.gens) (d':=s.drawn) (t':=s.toks) (ch:=[p]) (fun b hb=>?_) (fun b o _ _ _ e _=>e) (fun b o _ _ _ e _=>⟨o.slots,e⟩) (fun b o hb e n=>?_) (fun b o _ e=>⟨o,e⟩) (fun b q e=>by rw[bA (nt e)];exact e) (fun b o q e=>by rw[bA (nt e)];exact e)
  (fun b q e=>⟨#[],by rw[bA (nt e),e];simp⟩) (fun m hm=>hm) (fun b u e=>?_) I.bare
 ·have e:b=p:=by simpa using hb
  subst e;obtain ⟨_,f1,_,f3,f4,f5⟩:=fp;exact ⟨f3,f1,f4,f5⟩
 ·rw[bA fun z=>hb (by simp [z])];exact n
 ·by_cases hb:b=p
  ·subst hb;rw[aQ] at e;cases e;exact new
  ·rw[bA hb] at e;exact (I.hok b u e).stay (fun c v _ q=>q) (fun c q=>by rw[bA (nt q)];exact q) fun c xs q=>by rw[bA (nt q)];exact q
end
def N4 (H:Hp) (p:V×V) (x:V):Prop:=∃T,x=.ref T/\H T=some (.tup [p.1,p.2])
theorem N4.same {H H':Hp} {p:V×V} {x:V} (h:N4 H p x) (e:aO H H'):N4 H' p x:=by obtain ⟨T,q,g⟩:=h;exact ⟨T,q,e _ _ g⟩
def Zst (h:Heap) (z TI TO:Addr) (base:Nat):Prop:=(∃a b,IsPair h TO a b)/\(IsZip h z TI TO .none\/∃(T:Addr) (b1:Bool) (o:Obj),BA h z TI TO (rawInt T) (.bool b1)/\h.get? T=some o/\@LE.le Nat instLENat base T)
theorem C3 {h:Heap} {z TI TO i1 i2 l1 l2:Addr} {f0 f1 a b:Value} {k1 k2:Nat} {xs ys:Array Value} (hz:BA h z TI TO f0 f1) (hTI:IsPair h TI (.ref i1) (.ref i2)) (hTO:IsPair h TO a b) (h1:h.IsListIter i1 l1 k1) (h2:h.IsListIter i2 l2 k2) (hl1:h.IsList l1 xs) (hl2:h.IsList l2 ys) (hT:TI≠TO) (hi:i1≠i2):ZipApart z TI TO i1 i2 l1 l2:=by
 obtain ⟨o1,g1,c1,_⟩:=h1;obtain ⟨o2,g2,c2,_⟩:=h2;obtain ⟨p1,q1,d1,_⟩:=hl1;obtain ⟨p2,q2,d2,_⟩:=hl2;have zt:Value.type "zip"≠.type "tuple":=pd (by decide);have it:Value.type "list_iterator"≠.type "tuple":=pd (by decide);have iz:Value.type "list_iterator"≠.type "zip":=pd (by decide);have lz:Value.type "list"≠.type "zip":=pd (by decide);have lt:Value.type "list"≠.type "tuple":=pd (by decide);have li:Value.type "list"≠.type "list_iterator":=pd (by decide)
 exact ⟨dB hTI hz zt.symm,dB hTO hz zt.symm,dB g1 hz (by rw[c1];exact iz),dB g2 hz (by rw[c2];exact iz),hT,dB hTI g1 (by rw[c1];exact it.symm),dB hTI g2 (by rw[c2];exact it.symm),dB hTO g1 (by rw[c1];exact it.symm),dB hTO g2 (by rw[c2];exact it.symm),hi,
  dB q1 hz (by rw[d1];exact lz),dB q1 hTO (by rw[d1];exact lt),dB q1 g1 (by rw[d1,c1];exact li),dB q1 g2 (by rw[d1,c2];exact li),dB q2 hz (by rw[d2];exact lz),dB q2 hTO (by rw[d2];exact lt),dB q2 g1 (by rw[d2,c1];exact li),dB q2 g2 (by rw[d2,c2];exact li)⟩
section
variable {X:Cx} {pins:List (Addr×Obj)} {σ:St}
theorem mh.heap {H H':Hp} {b:Addr} (f:mh X pins H b) (e:H' b=none):mh X pins H' b:=⟨e,f.2⟩
structure DZ where
 z:Addr
 TI:Addr
 TO:Addr
 i1:Addr
 i2:Addr
 S:Addr
 base:Nat
def DZ.all (a:DZ):List Addr:=[a.z,a.TI,a.TO,a.i1,a.i2,a.S]
structure DZ.Ok (a:DZ):Prop where
 tt:a.TI≠a.TO
 ii:a.i1≠a.i2
 Sz:a.S≠a.z
 STI:a.S≠a.TI
 STO:a.S≠a.TO
 Si1:a.S≠a.i1
 Si2:a.S≠a.i2
 lt:∀b∈a.all,@LT.lt Nat instLTNat b a.base
structure Nx (X:Cx) (pins:List (Addr×Obj)) (σ:St) (H1:Hp) (a:DZ) (l1 l2:Addr) (i:Nat) (H:Hp) (s:Shared):Prop where
 inv:Inv X pins σ H s
 same:aO H1 H
 fps:∀b∈a.all,mh X pins H b
 sz:a.base<=s.heap.objs.size
 zst:Zst s.heap a.z a.TI a.TO a.base
 pt:IsPair s.heap a.TI (.ref a.i1) (.ref a.i2)
 j1:s.heap.IsListIter a.i1 l1 i
 j2:s.heap.IsListIter a.i2 l2 i
variable {a:DZ} {l1 l2:Addr} {H1 H:Hp} {s:Shared} {i:Nat} {xs ys:List V}
theorem Nx.push {h':Heap} (L:Nx X pins σ H1 a l1 l2 i H s) (O:a.Ok) (k:∀b o,b≠a.S->s.heap.get? b=some o->h'.get? b=some o) (hz:h'.objs.size=s.heap.objs.size):Nx X pins σ H1 a l1 l2 i H { s with heap:=h' }:=by
 refine ⟨L.inv.moved (g':=s.gens) (d':=s.drawn) (t':=s.toks) (ch:=[a.S]) (fun b hb=>?_) (fun b o hb e=>k b o (fun z=>hb (by simp [z])) e) L.inv.bare,L.same,L.fps,by show a.base<=h'.objs.size;rw[hz];exact L.sz,?_,k _ _ O.STI.symm L.pt,L.j1.at fun o e=>k _ o O.Si1.symm e,L.j2.at fun o e=>k _ o O.Si2.symm e⟩
 ·have e:b=a.S:=by simpa using hb
  rw[e];exact L.fps _ (by simp [DZ.all])
 ·obtain ⟨⟨c,d,z0⟩,z4⟩:=L.zst;refine ⟨⟨c,d,k _ _ O.STO.symm z0⟩,?_⟩;rcases z4 with z1 | ⟨T,b1,o,z1,z2,z3⟩
  ·exact .inl (k _ _ O.Sz.symm z1)
  ·refine .inr ⟨T,b1,o,k _ _ O.Sz.symm z1,k _ _ (fun e=>?_) z2,z3⟩;have:=O.lt a.S (by simp [DZ.all]);rw[<- e] at this;exact absurd this (Nat.not_lt.mpr z3)
theorem JK {A':Around} {E:Value->Shared->Prop} {Q:Option Value->Shared->Prop} (O:a.Ok) (q1:b6 X.K H1 l1 xs) (q2:b6 X.K H1 l2 ys) {x y:V} (ex:xs[i]?=some x) (ey:ys[i]?=some y) (L:Nx X pins σ H1 a l1 l2 i H s)
  (hQ:∀s',Nx X pins σ H1 a l1 l2 (i+1) (upd H s.heap.objs.size (.tup [x,y])) s'->(∀c o,c∉[a.z,a.TO,a.i1,a.i2]->s.heap.get? c=some o->s'.heap.get? c=some o)->H s.heap.objs.size=none->Q (some (.ref s.heap.objs.size)) s'):wpAny (model X.prog X.w) A' (pyNext (.ref a.z)) Q E s:=by
 obtain ⟨I,sm,fps,sz,zst,pt,j1,j2⟩:=id L;obtain ⟨us,ru,pu,_⟩:=I.list (sm.seq q1);obtain ⟨ws,rw',pw,_⟩:=I.list (sm.seq q2);obtain ⟨u,eu,r1⟩:=ru.get ex;obtain ⟨v,ev,r2⟩:=rw'.get ey;have fx:∀b∈[a.z,a.TO,a.i1,a.i2],mh X pins H b:=fun b hb=>fps b (by simp only[DZ.all,aJ,bo,or_false] at hb ⊢;rcases hb with e | e | e | e <;> simp [e])
 have hT0:H s.heap.objs.size=none:=I.hok.fresh (ar _);have fT:mh X pins H s.heap.objs.size:=I.fpOk (ar _) hT0;have lt:∀b∈a.all,b≠s.heap.objs.size:=fun b hb e=>by have:=O.lt b hb;rw[e] at this;exact absurd this (Nat.not_lt.mpr sz)
 have fin:∀h',(∀c o,c∉[a.z,a.TO,a.i1,a.i2]->s.heap.get? c=some o->h'.get? c=some o)->IsPair h' s.heap.objs.size u v->IsPair h' a.TI (.ref a.i1) (.ref a.i2)->h'.IsListIter a.i1 l1 (i+1)->h'.IsListIter a.i2 l2 (i+1)->Zst h' a.z a.TI a.TO a.base →
   Q (some (.ref s.heap.objs.size)) { s with heap:=h' }:=fun h' up pr pt' j1' j2' zst'=>by
  have I2:Inv X pins σ H { s with heap:=h' }:=I.moved (g':=s.gens) (d':=s.drawn) (t':=s.toks) fx up I.bare;have I3:Inv X pins σ (upd H s.heap.objs.size (.tup [x,y])) { s with heap:=h' }:=I2.track fT ⟨kC rfl,[u,v],.cons r1 (.cons r2 .nil),⟨_,pr,rfl,_,rfl⟩⟩;refine hQ _ ⟨I3,sm.trans (aO.new hT0),fun b hb=>(fps b hb).heap (by rw[bA (lt b hb)];exact (fps b hb).1),?_,zst',pt',j1',j2'⟩ up hT0;exact ah sz (br (Heap.lt_size pr))
 obtain ⟨⟨c,d,z0⟩,z4⟩:=zst;rcases z4 with z1 | ⟨T,b1,o,z1,z2,z3⟩
 ·have D:=C3 z1 pt z0 j1 j2 pu.isList pw.isList O.tt O.ii;refine wpAny_pyNext_zip_item D z1 pt z0 j1 j2 pu.isList pw.isList (x:=u) (y:=v) (by simpa using eu) (by simpa using ev) fun h' a1 a2 a3 a4 a5 a6 hk=>?_
  have up:∀c o,c∉[a.z,a.TO,a.i1,a.i2]->s.heap.get? c=some o->h'.get? c=some o:=fun c o hc e=>by
   simp only[aJ,bo,or_false,not_or] at hc;exact hk c o hc.1 hc.2.1 hc.2.2.1 hc.2.2.2 e
  exact fin h' up a5 (hk _ _ D.TIz D.TITO D.TIi1 D.TIi2 pt) a3 a4 ⟨⟨_,_,a2⟩,.inr ⟨s.heap.objs.size,false,_,a1,a5,sz⟩⟩
 ·have D:=C3 z1 pt z0 j1 j2 pu.isList pw.isList O.tt O.ii;refine Jk D z1 z2 pt j1 j2 pu.isList pw.isList (u:=u) (v:=v) (by simpa using eu) (by simpa using ev) fun h' a1 a3 a4 a5 hk=>?_
  have up:∀c o,c∉[a.z,a.TO,a.i1,a.i2]->s.heap.get? c=some o->h'.get? c=some o:=fun c o hc e=>by
   simp only[aJ,bo,or_false,not_or] at hc;exact hk c o hc.1 hc.2.2.1 hc.2.2.2 e
  have Tn:∀b∈a.all,T≠b:=fun b hb e=>by have:=O.lt b hb;rw[<- e] at this;exact absurd this (Nat.not_lt.mpr z3)
  exact fin h' up a5 (hk _ _ D.TIz D.TIi1 D.TIi2 pt) a3 a4 ⟨⟨_,_,hk _ _ D.TOz D.TOi1 D.TOi2 z0⟩,.inr ⟨T,true,o,a1,hk _ _ (Tn _ (by simp [DZ.all])) (Tn _ (by simp [DZ.all])) (Tn _ (by simp [DZ.all])) z2,z3⟩⟩
theorem JJ {A':Around} {E:Value->Shared->Prop} {Q:Option Value->Shared->Prop} (hh:A'.handled=none) (O:a.Ok) (q1:b6 X.K H1 l1 xs) (q2:b6 X.K H1 l2 ys) (hi:xs.length<=i) (L:Nx X pins σ H1 a l1 l2 i H s)
  (hQ:∀s',Inv X pins σ H s'->(∀c o,c∉[a.z,a.TO,a.i1,a.i2]->s.heap.get? c=some o->s'.heap.get? c=some o)->Q none s'):wpAny (model X.prog X.w) A' (pyNext (.ref a.z)) Q E s:=by
 obtain ⟨I,sm,fps,sz,zst,pt,j1,j2⟩:=id L;obtain ⟨us,ru,pu,_⟩:=I.list (sm.seq q1);obtain ⟨ws,rw',pw,_⟩:=I.list (sm.seq q2);have lx:=ru.length;have none1:us.toArray[i]?=none:=by simp;lia
 have fx:∀b∈[a.z,a.TO,a.i1,a.i2],mh X pins H b:=fun b hb=>fps b (by simp only[DZ.all,aJ,bo,or_false] at hb ⊢;rcases hb with e | e | e | e <;> simp [e])
 have fin:∀h',(∀c o,c∉[a.z,a.TO,a.i1,a.i2]->s.heap.get? c=some o->h'.get? c=some o)->Q none { s with heap:=h' }:=fun h' up=>hQ _ (I.moved (g':=s.gens) (d':=s.drawn) (t':=s.toks) fx up I.bare) up
 obtain ⟨⟨c,d,z0⟩,z4⟩:=zst;rcases z4 with z1 | ⟨T,b1,o,z1,z2,z3⟩
 ·have D:=C3 z1 pt z0 j1 j2 pu.isList pw.isList O.tt O.ii;refine wpAny_pyNext_zip_end hh D z1 pt z0 j1 j2 pu.isList pw.isList (.inl none1) fun h' hk=>fin h' fun c o hc e=>?_
  simp only[aJ,bo,or_false,not_or] at hc;exact hk c o hc.1 hc.2.1 hc.2.2.1 hc.2.2.2 e
 ·have D:=C3 z1 pt z0 j1 j2 pu.isList pw.isList O.tt O.ii;refine Jj hh D z1 z2 pt j1 pu.isList none1 fun h' hk=>fin h' fun c o hc e=>?_
  simp only[aJ,bo,or_false,not_or] at hc;exact hk c o hc.1 hc.2.2.1 hc.2.2.2 e
theorem JM {A':Around} {R:Result->Shared->Prop} (hh:A'.handled=none) (O:a.Ok) (hz:xs.length<=sizeLine) (hl:ys.length=xs.length) (q1:b6 X.K H1 l1 xs) (q2:b6 X.K H1 l2 ys)
  (fin:∀s' H' ts acc c,Inv X pins σ H' s'->aO H1 H'->mh X pins H' a.S->s'.heap.get? a.S=some (lobj acc c)->cR ts acc->Paired (N4 H') (xs.zip ys) ts->R (.ok (.ret .none)) s') :
  ∀(k i:Nat) (s:Shared) (H:Hp) (ts:List V) (acc:List Value) (c:Nat),xs.length - i=k->i<=xs.length->Nx X pins σ H1 a l1 l2 i H s->s.heap.get? a.S=some (lobj acc c)->cR ts acc->Paired (N4 H) ((xs.zip ys).take i) ts →
   codeAny (model X.prog X.w) A' (.builtin "list.extend.loop" ⟨[.ref a.S,.ref a.z,.none],[]⟩) R s:=by
 have Sn:a.S∉[a.z,a.TO,a.i1,a.i2]:=fun h=>by
  simp only[aJ,bo,or_false] at h;rcases h with e | e | e | e
  ·exact O.Sz e
  ·exact O.STO e
  ·exact O.Si1 e
  ·exact O.Si2 e
 intro k
 induction k with
 | zero =>
  intro i s H ts acc c hk hi L gS rv prs;have e:i=xs.length:=by lia
  refine codeAny_builtin PM ?_;rw[Around.under_plainId nM _]
  change wpAny _ A'.in1 (pyNext (Value.ref a.z) >>= _) _ _ s
  refine wpAny_bind (JJ hh O q1 q2 (by lia) L fun s' I' up=>wpAny_pure (fin s' H ts acc c I' L.same (L.fps _ (by simp [DZ.all])) (up _ _ Sn gS) rv ?_));rwa [aH (by rw[BG];lia)] at prs
 | succ k ih =>
  intro i s H ts acc c hk hi L gS rv prs;have hlt:i < xs.length:=by lia
  have lt:=prs.length;have la:=rv.length;refine codeAny_builtin PM ?_;rw[Around.under_plainId nM _]
  change wpAny _ A'.in1 (pyNext (Value.ref a.z) >>= _) _ _ s
  refine wpAny_bind (JK O q1 q2 (x:=xs[i]) (y:=ys[i]'(by lia)) (by simp [hlt]) (by simp) L fun s' L' up hT=>?_);have gS':=up _ _ Sn gS
  change wpAny _ A'.in1 (updateSeq a.S (·.push (Value.ref s.heap.objs.size)) >>= _) _ _ s'
  have small:acc.length<=sizeLine:=by
   rw[cO,BG] at lt
   lia
  refine wpAny_bind (wpAny_updateSeq gS' rfl (wpAny_pure ⟨plainId_quiet nM _,?_⟩) (by rw[aS];exact small) (by
   show (acc.toArray.push (Value.ref s.heap.objs.size)).size<=sizeLine+1
   rw[Array.size_push,aS]
   lia))
  have gS2:=m9 gS' (fun b=>b.push (Value.ref s.heap.objs.size));have e2:(acc.toArray.push (Value.ref s.heap.objs.size))=(acc++[Value.ref s.heap.objs.size]).toArray:=by simp
  rw[e2] at gS2;refine ih (i+1) _ (upd H s.heap.objs.size (.tup [xs[i],ys[i]'(by lia)])) (ts++[.ref s.heap.objs.size]) (acc++[.ref s.heap.objs.size]) _ (by lia) hlt (L'.push O (fun b o hb e=>(Heap.get?_update_other _ _ (Ne.symm hb)).trans e) (Heap.size_update ..)) gS2 (rv.append (show cR [V.ref s.heap.objs.size] [Value.ref s.heap.objs.size] from .cons rfl .nil)) ?_;have zp:(xs.zip ys)[i]?=some (xs[i],ys[i]'(by lia)):=by simp [PN,hlt]
  rw[take_snoc zp];exact (Paired.imp' (fun _ _ z=>z.same (aO.new hT)) prs).snoc ⟨_,rfl,aQ⟩
theorem Fg:typeLookup (.type "zip") "__len__"=pure Option.none:=by rw[typeLookup_type,builtinLookup_eq_fast];kernel_rfl
theorem Ea:typeLookup (.type "zip") "__length_hint__"=pure Option.none:=by rw[typeLookup_type,builtinLookup_eq_fast];kernel_rfl
theorem JL {A' : Around} {R : Result → Shared → Prop} (hh : A'.handled = none) (O : a.Ok) (hz : xs.length ≤ sizeLine) (hl : ys.length = xs.length) (q1 : b6 X.K H1 l1 xs) (q2 : b6 X.K H1 l2 ys) (L : Nx X pins σ H1 a l1 l2 0 H s) (gS : s.heap.get? a.S = some (lobj [] 0)) (z0 : IsZip s.heap a.z a.TI a.TO .none)
    (fin : ∀ s' H' ts acc c, Inv X pins σ H' s' → aO H1 H' → mh X pins H' a.S → s'.heap.get? a.S = some (lobj acc c) → cR ts acc → Paired (N4 H') (xs.zip ys) ts → R (.ok (.ret .none)) s') :
    wpAny (model X.prog X.w) A'.in1 (Builtin.«list.__init__» ⟨[.ref a.S, .ref a.z], []⟩) (fun fl s' => match fl with | .done f => R (.ok f) s' | .again c' => c'.quiet = true /\ codeAny (model X.prog X.w) A' c' R s') (fun e s' => R (.error e) s') s := by
  change wpAny _ A'.in1 (do let old <- Builtin.List.listItems (Value.ref a.S); Builtin.List.listUpdate (Value.ref a.S) (fun _ => #[]); letGo old.toList.reverse; Builtin.List.listExtendWith (Value.ref a.S) (Value.ref a.z) Value.none) _ _ s
  refine wpAny_bind ?_;unfold Builtin.List.listItems;refine wpAny_bind (wpAny_seqItems gS rfl (wpAny_pure ?_))
  change wpAny _ A'.in1 (updateSeq a.S (fun _ => #[]) >>= fun _ => letGo (#[] : Array Value).toList.reverse >>= fun _ => Builtin.List.listExtendWith (Value.ref a.S) (Value.ref a.z) Value.none) _ _ s
  refine wpAny_bind (wpAny_updateSeq gS rfl ?_);have g1 := m9 gS (fun _ => (#[] : Array Value));obtain ⟨n1, g1⟩ : ∃ n1, (s.heap.update a.S (Obj.mapSeq fun _ => (#[] : Array Value))).get? a.S = some (lobj [] n1) := ⟨_, g1⟩;have L1 := L.push (h' := s.heap.update a.S (Obj.mapSeq fun _ => (#[] : Array Value))) O (fun b o hb e => (Heap.get?_update_other _ _ (Ne.symm hb)).trans e) (Heap.size_update ..);have z1 : IsZip (s.heap.update a.S (Obj.mapSeq fun _ => (#[] : Array Value))) a.z a.TI a.TO .none := (Heap.get?_update_other _ _ O.Sz).trans z0;refine wpAny_bind (wpAny_letGo ?_);unfold Builtin.List.listExtendWith;have ty : Shared.TypeIs { s with heap := s.heap.update a.S (Obj.mapSeq fun _ => (#[] : Array Value)) } (.ref a.z) "zip" := ⟨_, z1, rfl⟩;refine wpAny_bind (wpAny_typeOf ty ?_);have h1 : Builtin.List.listSameRef (.ref a.S) (.ref a.z) = false := by simp [Builtin.List.listSameRef, O.Sz]
  have h2 : (Value.type "zip" == Value.type "list") = false := by decide
  have h3 : (Value.type "zip" == Value.type "tuple") = false := by decide
  simp only [h1, h2, h3, Bool.or_false, jL, if_false];refine wpAny_bind (wpAny_pyIter_zip z1 (wpAny_bind (wpAny_holding ?_)));unfold Builtin.List.listLengthHint;refine wpAny_bind (wpAny_specialOf ty Fg ?_)
  change wpAny _ A'.in1 (specialOf (Value.ref a.z) (Str.ofString "__length_hint__") >>= _) _ _ _
  refine wpAny_bind (wpAny_specialOf ty Ea (wpAny_pure ?_))
  change wpAny _ A'.in1 (rule "list.extend.makes-room" >>= fun _ => Builtin.List.listTouch (Value.ref a.S) >>= fun _ => again (.builtin "list.extend.loop" ⟨[Value.ref a.S, Value.ref a.z, Value.none], []⟩)) _ _ _
  refine wpAny_bind (wpAny_rule (wpAny_bind ?_))
  change wpAny _ A'.in1 (updateSeq a.S (·.push Value.none) >>= fun _ => updateSeq a.S (·.pop)) _ _ _
  refine wpAny_bind (wpAny_updateSeq g1 rfl ?_);have g2 := m9 g1 (fun b => b.push Value.none);obtain ⟨n2, g2⟩ : ∃ n2, ((s.heap.update a.S (Obj.mapSeq fun _ => (#[] : Array Value))).update a.S (Obj.mapSeq fun b => b.push Value.none)).get? a.S = some (lobj [Value.none] n2) := ⟨_, g2⟩;have L2 := L1.push (h' := (s.heap.update a.S (Obj.mapSeq fun _ => (#[] : Array Value))).update a.S (Obj.mapSeq fun b => b.push Value.none)) O (fun b o hb e => (Heap.get?_update_other _ _ (Ne.symm hb)).trans e) (Heap.size_update ..);refine wpAny_updateSeq g2 rfl ?_ (kC rfl);have g3 := m9 g2 (fun b => b.pop);have L3 := L2.push (h' := ((s.heap.update a.S (Obj.mapSeq fun _ => (#[] : Array Value))).update a.S (Obj.mapSeq fun b => b.push Value.none)).update a.S (Obj.mapSeq fun b => b.pop)) O (fun b o hb e => (Heap.get?_update_other _ _ (Ne.symm hb)).trans e) (Heap.size_update ..);exact wpAny_pure ⟨plainId_quiet nM _, JM hh O hz hl q1 q2 fin _ 0 _ H [] [] _ rfl (bh _) L3 g3 .nil .nil⟩
end
section
variable {X:Cx}
theorem Od (n:Nat):DZ.Ok ⟨n+4,n+2,n+3,n,n+1,n+5,n+5+1⟩:=by
 have ne:∀p q:Nat,p≠q->@Ne Addr p q:=fun _ _ h=>h
 refine ⟨ne (n+2) (n+3) (by lia),ne n (n+1) (by lia),ne (n+5) (n+4) (by lia),ne (n+5) (n+2) (by lia),ne (n+5) (n+3) (by lia),ne (n+5) n (by lia),ne (n+5) (n+1) (by lia),fun b hb=>?_⟩;have hb':b∈[n+4,n+2,n+3,n,n+1,n+5]:=hb;show @LT.lt Nat instLTNat b (n+5+1)
 simp only[aJ,bo,or_false] at hb';rcases hb' with e | e | e | e | e | e <;> (rw[e];exact bI (jq _) (by lia))
def Ed (K:PySem.W.Frag) (ta:TA):TE:=fun σ H Q=>ta σ H fun vs H1=>∃(l1 l2:Addr) (xs ys:List V),vs=[.ref l1,.ref l2]/\b6 K H1 l1 xs/\b6 K H1 l2 ys/\ys.length=xs.length /\
 ∀L ts H',aO H1 H'->H1 L=none->H' L=some (.lst ts)->Paired (N4 H') (xs.zip ys) ts->Q (.ref L) H'
theorem FO {e1 e2:Expr} {ta:TA} {p p2 pos pos2:Pos} (hg:Gl X "list") (hm:X.mg "list"=none) (hg2:Gl X "zip") (hm2:X.mg "zip"=none) (ha:PA X [e1,e2] ta) (hc:X.calm=true:=by rfl)
  (hs:starEach [e1,e2] X.env=[(false,eval e1 X.env),(false,eval e2 X.env)]:=by rfl) (hs2:starEach [e2] X.env=[(false,eval e2 X.env)]:=by rfl)
  (hs3:starEach [Expr.Call (.Name "zip" p2) [e1,e2] [] pos2] X.env=[(false,eval (.Call (.Name "zip" p2) [e1,e2] [] pos2) X.env)]:=by rfl) :
  PE X (.Call (.Name "list" p) [.Call (.Name "zip" p2) [e1,e2] [] pos2] [] pos) (Ed X.K ta):=by
 intro pins s σ H Q I h;refine wpAny_Call_Name_kw (md I hg hm boot_list ?_);refine PyProof.Rows.callWith_type1 ?_ (by rw[hs3];rfl) rfl;rw[hs3];show wpAny _ _ (spliced ((false,eval (.Call (.Name "zip" p2) [e1,e2] [] pos2) X.env) :: [])) _ _ s
 refine Calls.spliced_cons ?_;refine Call_ (md I hg2 hm2 boot_zip (PyProof.Rows.callWith_type1 (gG (ha pos2 pins s σ H _ I h) fun us s1 ⟨vs,H1,I1,r1,q1⟩=>?_) (by rw[hs,hs2]) (by rw[hs2];rfl)));obtain ⟨l1,l2,xs,ys,e,qx,qy,hl,q⟩:=q1;subst e;obtain ⟨u,v,rfl,ru,rv⟩:=vals2 r1;cases ru;cases rv;obtain ⟨us,rx,px,hz⟩:=I1.list qx;obtain ⟨ws,ry,py,_⟩:=I1.list qy;refine call_zip_2 px.isList py.isList fun h' a1 a2 a3 a4 a5 a6 hk=>?_
 refine Calls.spliced_nil ?_;have I2:Inv X pins σ H1 { s1 with heap:=h' }:=I1.kept (t':=s1.toks) hk;have up:∀b o,h'.get? b=some o->(h'.push { cls:=.type "list",data:=.seq #[] }).get? b=some o:=fun b o e=>Heap.get?_push_of_some _ e
 have O:DZ.Ok ⟨s1.heap.objs.size+4,s1.heap.objs.size+2,s1.heap.objs.size+3,s1.heap.objs.size,s1.heap.objs.size+1,h'.objs.size,h'.objs.size+1⟩:=by
  rw[a6];exact Od s1.heap.objs.size
 have old:∀b∈(DZ.mk (s1.heap.objs.size+4) (s1.heap.objs.size+2) (s1.heap.objs.size+3) s1.heap.objs.size (s1.heap.objs.size+1) h'.objs.size (h'.objs.size+1)).all,s1.heap.objs.size<=b:=fun b hb=>by
  rw[a6] at hb;simp only[DZ.all,aJ,bo,or_false] at hb;rcases hb with rfl | rfl | rfl | rfl | rfl | rfl <;> first | exact zI _ _ | exact ar _
 have gS:(h'.push { cls:=.type "list",data:=.seq #[] }).get? h'.objs.size=some (lobj [] 0):=Heap.get?_push_size _ rfl;refine callType_codes (Q₁:=fun ob t=>ob=.ref h'.objs.size/\t={ s1 with heap:=h'.push { cls:=.type "list",data:=.seq #[] } }) PySem.F.called_list (PySem.F.typeCall_list_1 _) PySem.F.entry_list_init (code_list_new _ ⟨rfl,rfl⟩) fun ob t ht=>?_
 obtain ⟨rfl,rfl⟩:=ht;refine ⟨⟨_,gS,rfl⟩,PySem.F.args_list_init_2 _ _,?_⟩
 have L:Nx X pins σ H1 ⟨s1.heap.objs.size+4,s1.heap.objs.size+2,s1.heap.objs.size+3,s1.heap.objs.size,s1.heap.objs.size+1,h'.objs.size,h'.objs.size+1⟩ l1 l2 0 H1 { s1 with heap:=h'.push { cls:=.type "list",data:=.seq #[] } } :=
  ⟨I2.kept (t':=s1.toks) up,aO.refl _,fun b hb=>I1.fpOk (old b hb) (I1.hok.fresh (old b hb)),by rw[Heap.size_push];exact ar _,⟨⟨_,_,up _ _ a3⟩,.inl (up _ _ a1)⟩,up _ _ a2,a4.at fun o e=>up _ o e,a5.at fun o e=>up _ o e⟩
 refine JL (A':=X.A.in1) (I.ok.hd hc) O hz hl qx qy L gS (up _ _ a1) fun s' H' ts acc c I' sm fS gS' vs' prs=>⟨rfl,?_⟩
 have nS:H1 h'.objs.size=none:=I1.hok.fresh (old _ (by simp [DZ.all]));have lt:=prs.length;rw[BG] at lt;exact ⟨.ref h'.objs.size,_,I'.track (o:=.lst ts) fS ⟨by lia,acc,c,vs',gS'⟩,rfl,q _ ts _ (sm.trans (aO.new fS.1)) nS aQ (Paired.imp' (fun _ _ z=>z.same (aO.new fS.1)) prs)⟩
end
end L2
namespace Nm
def yQ:List Int->Int->Int
 | [],m=>m
 | b :: r,m=>yQ r (m*(b / g m b))
theorem xS {m b:Int} (hm:0 < m) (hb:0 < b):0 < m*(b / g m b):=pU hm (DE (t:=m) hb)
theorem DA {m b : Int} : b ∣ m * (b / g m b) := by
  have h1 := Bj m b;refine ⟨lo m b, ?_⟩;have h2 : b / g m b * g m b = b := yS m b
  calc m * (b / g m b) = lo m b * g m b * (b / g m b) := by rw [h1]
    _ = lo m b * (b / g m b * g m b) := by rw [dJ, fP (g m b)]
    _ = b * lo m b := by rw [h2, fP]
theorem Bm:∀{bs:List Int} {m:Int},0 < m->(∀b∈bs,0 < b)->0 < yQ bs m
 | [],_,hm,_=>hm
 | b :: r,m,hm,h=>Bm (bs:=r) (xS hm (h b dk)) fun c hc=>h c (bV _ hc)
theorem EH:∀{bs:List Int} {m:Int},m∣yQ bs m
 | [],_=>Int.dvd_refl _
 | b :: r,m=>Int.dvd_trans (Int.dvd_mul_right m _) (EH (bs:=r))
theorem EG:∀{bs:List Int} {m b:Int},b∈bs->b∣yQ bs m
 | c :: r,m,b,h=>by
  rcases aJ.mp h with rfl | h
  ·exact Int.dvd_trans DA (EH (bs:=r))
  ·exact EG (bs:=r) h
end Nm
namespace L2
open PySem PySem.Spec PyProof.Rows Nm
def D3 (K:PySem.W.Frag) (H:Hp) (p:Addr) (ns:List (Int×Int)):Prop:=∃xs,H p=some (.lst xs)/\Paired (fun n x=>E4 K H x n) ns xs
theorem D3.same {K:PySem.W.Frag} {H H':Hp} {p:Addr} {ns:List (Int×Int)} (h:D3 K H p ns) (e:aO H H'):D3 K H' p ns:=by obtain ⟨xs,g,q⟩:=h;exact ⟨xs,e _ _ g,Paired.imp' (fun _ _ z=>e.num z) q⟩
def Eu (K:PySem.W.Frag) (T:String):V->Hp->VK->Prop:=fun x H Q=>IY K T x H Q\/∃a xs b,x=.ref a/\uu K H a xs/\PySem.W.kitOne K (.type "tuple") (.type T)=some b/\Q (.bl b) H
theorem Ct:∀{bs:List Int} {m b:Int},yQ (bs++[b]) m=yQ bs m*(b / g (yQ bs m) b)
 | [],_,_=>rfl
 | c :: r,m,b=>Ct (bs:=r)
def fL (ns:List (Int×Int)) (B:Int):List Int:=ns.map fun n=>n.1*(B / n.2)
def iq (ns:List (Int×Int)):Int:=yQ (ns.map (·.2)) 1
def Lr (ns ms:List (Int×Int)):Int:=(List.zipWith (·*·) (fL ns (iq ns)) (fL ms (iq ms))).sum
theorem rZ {ns:List (Int×Int)} {n:Int×Int} (h:n∈ns):n.2∣iq ns:=EG (aE.mpr ⟨n,h,rfl⟩)
theorem FK {σ:St} {H:Hp} {Q:VK} {K:PySem.W.Frag} {ta:TA} (h:ta σ H fun vs H1=>∃(l1 l2:Addr) (xs ys:List V),vs=[.ref l1,.ref l2]/\b6 K H1 l1 xs/\b6 K H1 l2 ys/\ys.length=xs.length /\
 ∀L ts H',aO H1 H'->H1 L=none->H' L=some (.lst ts)->Paired (N4 H') (xs.zip ys) ts->Q (.ref L) H'):Ed K ta σ H Q:=h
theorem R0 {m b:Int} (hb:0 < b) {k:Nat} (h:Sz k b):Sz k (g m b):=h.le (by
 have h1:(g m b).natAbs=Int.gcd m b:=by unfold g;simp
 rw[h1];exact kB (by lia) (by have:=fF (a:=m) (b:=b);exact eT.mpr this |> fun z=>by simpa using z))
theorem LW {ts us:List Int} {i:Nat} {pq:V×V} (h:((ts.map V.int).zip (us.map V.int))[i]?=some pq):∃t u,ts[i]?=some t/\us[i]?=some u/\pq=(.int t,.int u):=by
 rw[PN,aG,aG] at h;obtain ⟨h1,h2⟩:=h;cases e1:ts[i]? with
 | none=>rw[e1] at h1;cases h1
 | some t =>
  cases e2:us[i]? with
  | none=>rw[e2] at h2;cases h2
  | some u =>
   rw[e1] at h1;rw[e2] at h2;refine ⟨t,u,rfl,rfl,?_⟩;cases pq;simp at h1 h2;rw[h1,h2]
def IL (K:PySem.W.Frag):Sp:=fun vs H Q _=>∃x n,vs=[x]/\E4 K H x n/\zD n/\∀H',aO H H'->Q (.bl true) H'
def Ci (K:PySem.W.Frag):Sp:=fun vs H Q _=>∃(p:Addr) (ns:List (Int×Int)),vs=[.ref p,.int ns.length]/\D3 K H p ns/\ns.length<=1000/\(∀n∈ns,zD n)/\∀H',aO H H'->Q (.bl true) H'
theorem z7 {X:Cx} {a:Expr} {ta:TE} {pos:Pos} {c:Str} {T:String} {p p2:Pos} (hg:Gl X "isinstance") (hm:X.mg "isinstance"=none) (hb:bootBuiltins c=some (.type T)) (hmc:X.mg c=none) (ha:PE X a ta) (hgc:Gl X c:=by rfl) (hn:c≠"__name__":=by decide)
  (hd:(c == ("__debug__":Str))=false:=by decide) (he:starEach [a,.Name c p2] X.env=[(false,eval a X.env),(false,eval (.Name c p2) X.env)]:=by rfl)
  (hpl:(backTo pos (starEach [.Name c p2] X.env)).any (·.1)=false:=by rfl) (he2:starEach [.Name c p2] X.env=[(false,eval (.Name c p2) X.env)]:=by rfl):PE X (.Call (.Name "isinstance" p) [a,.Name c p2] [] pos) (RA (Eu X.K T) ta):=by
 intro pins s σ H Q I h;refine wpAny_Call_Name_kw (md I hg hm PyProof.Rows.boot_isinstance ?_);have hA:PA X [a,.Name c p2] (uA ta (uA (tC (.ty T)) Fj)):=ae ha (ae (HE hgc hmc hb rfl hn hd) aj he2) (by rw[he,he2])
 have hq:uA ta (uA (tC (.ty T)) Fj) σ H (fun vs H1=>∃x,vs=[x,.ty T]/\Eu X.K T x H1 Q):=by
  show ta σ H fun x H1=>∃x',[x,V.ty T]=[x',V.ty T]/\Eu X.K T x' H1 Q
  have e:(fun x H1=>∃x',[x,V.ty T]=[x',V.ty T]/\Eu X.K T x' H1 Q)=fun x H1=>Eu X.K T x H1 Q:=by
   funext x H1;apply propext;constructor
   ·rintro ⟨x',e,q⟩;cases e;exact q
   ·intro q;exact ⟨x,rfl,q⟩
  rw[e];exact h
 refine PyProof.Rows.callWith_builtin1 (gG (hA pos pins s σ H _ I hq) fun us s1 ⟨vs,H1,I1,r1,x,e,q1⟩=>?_) (by rw[he,he2]) hpl;subst e;obtain ⟨u,w',rfl,ru,rt⟩:=vals2 r1;cases rt;rcases q1 with ⟨t,bb,ty,ek,q⟩ | ⟨ad,xs,bb,rfl,hs,ek,q⟩
 ·exact Cu I1 ru ty ek fun tk=>⟨.bl bb,H1,I1.tok tk,rfl,q⟩
 ·cases ru;obtain ⟨its,_,⟨o,g1,g2,_⟩,_⟩:=I1.tuple hs;exact dG PySem.W.kitx_tuple I1.kIn ⟨o,g1,g2⟩ ek (fun z=>nomatch z) fun tk=>⟨.bl bb,H1,I1.tok tk,rfl,q⟩
theorem OI {H:Hp} {Q:VK} {l:Addr} {k:Nat} {x:V} (h:H l=some (.lst [x])) (hk:k<=1000) (q:∀p H',aO H H'->H p=none->H' p=some (.lst (List.replicate k x))->Q (.ref p) H'):QK (.ref l) (.int k) H Q :=
 ⟨l,k,[x],rfl,rfl,h,by lia,by lia,br (bT (by simp;lia)),fun p hp=>q p _ (aO.new hp) hp (by rw[aQ];simp)⟩
theorem Pw {xs:List V} {k:Nat} (h:k<=xs.length):we xs none (some (k:Int))=xs.take k:=by
 unfold we;rw[HT.Eo,HT.zX,oS h];simp
theorem AY {α β:Type} {F:α->β->Prop} {x:α} {y:β} (h:F x y):∀m:Nat,Paired F (List.replicate m x) (List.replicate m y)
 | 0=>.nil
 | m+1=>.cons h (AY h m)
theorem gC {n a:Nat} (h:a < n):JF n (a:Int)=some a:=by
 unfold JF;rw[if_pos (by lia),if_pos (by lia),Int.toNat_natCast]
theorem Lx {xs:List V} {k:Nat}:we xs none (some (k:Int))=xs.take k:=by
 by_cases h:k<=xs.length
 ·exact Pw h
 ·unfold we;rw[HT.Eo,HT.zX,Nat.min_eq_right (by lia),aH (by simp),aH (by lia)];rfl
theorem uJ {α β:Type} {F:α->β->Prop}:∀{l1:List α} {l2:List β} (_:Paired F l1 l2) (k:Nat),Paired F (l1.take k) (l2.take k)
 | _,_,.nil,k=>by simp;exact .nil
 | _,_,.cons h r,0=>.nil
 | _,_,.cons h r,k+1=>.cons h (uJ r k)
def MM (K:PySem.W.Frag):List V->Hp->VK->Prop:=fun xs H Q=>∃p ys,xs=[.ref p]/\(b6 K H p ys\/uu K H p ys)/\∀l,H l=none->Q (.ref l) (upd H l (.lst ys))
theorem mP {X:Cx} (K:PySem.W.Frag) (hK:X.K=K):vA X (.type "list") (MM K):=by subst hK;exact tE
theorem aO.none {H H':Hp} {l:Addr} (s:aO H H') (h:H' l=Option.none):H l=Option.none:=by
 cases e:H l with
 | none=>rfl
 | some o=>have:=s _ _ e;rw[h] at this;cases this
def Ob (K:PySem.W.Frag) (H:Hp) (p:Addr) (rows:List (List (Int×Int))):Prop:=∃xs,H p=some (.lst xs)/\Paired (fun ns x=>∃q,x=V.ref q/\D3 K H q ns) rows xs
theorem JT {b:Int} (h:b.natAbs<=1000000):Sz 20 b:=bC h (by decide)
theorem dc.none {H H':Hp} {b l:Addr} (u:dc b H H') (B:jo H' b) (h:H' l=Option.none):H l=Option.none:=by
 cases e:H l with
 | none=>rfl
 | some o =>
  by_cases z:l=b
  ·obtain ⟨_,_,_,_,_,e2,_⟩:=B;rw[<- z,h] at e2;cases e2
  ·have:=u.1 l o e z;rw[h] at this;cases this
def Fw (K:PySem.W.Frag):Sp:=fun vs H Q _=>∃(p:Addr) (rows:List (List (Int×Int))) (m:Nat),vs=[.ref p,.int rows.length,.int m]/\Ob K H p rows/\rows.length<=1000/\m<=1000/\(∀ns∈rows,ns.length=m/\∀n∈ns,zD n)/\∀H',aO H H'->Q (.bl true) H'
end L2
namespace Nm
def nm (q:Rat):Int×Int:=(q.num,(q.den:Int))
theorem kQ (q:Rat):0 < (nm q).2:=by have:=q.den_pos;show 0 < (q.den:Int);lia
theorem Dx (q:Rat):Int.gcd (nm q).1 (nm q).2=1:=q.reduced
theorem Pa {p q:Rat} (h:nm p=nm q):p=q:=by
 have h1:p.num=q.num:=congrArg Prod.fst h;have h2:(p.den:Int)=q.den:=congrArg Prod.snd h;exact Rat.ext h1 (by lia)
theorem sO (q : Rat) : (q.num : Rat) = q * (q.den : Rat) := by
  have h := Rat.num_divInt_den q;rw [Rat.divInt_eq_div] at h
  have hd : ((q.den : Int) : Rat) ≠ 0 := by
    intro z;have z := zG.mp z;have := q.den_pos
    lia
  have e : ((q.den : Int) : Rat) = (q.den : Rat) := aP _
  calc (q.num : Rat) = (q.num : Rat) / ((q.den : Int) : Rat) * ((q.den : Int) : Rat) := (Rat.div_mul_cancel hd).symm
    _ = q * (q.den : Rat) := by rw [h, e]
theorem QP {a b:Int} {q:Rat} (hb:0 < b) (hg:Int.gcd a b=1) (e:q*(b:Rat)=(a:Rat)):(a,b)=nm q:=by
 have h1:a*(q.den:Int)=q.num*b:=by
  apply dM.mp;rw[aT,aT,<- e,sO,aP];grind
 obtain ⟨e1,e2⟩:=uniq hb (kQ q) hg (Dx q) h1;exact Prod.ext e1 e2
theorem sS {t b:Int} {q:Rat} (hb:0 < b) (e:q*(b:Rat)=(t:Rat)):(lo t b,hi t b)=nm q:=by
 refine QP (DE hb) (Bh (by lia)) ?_;have h:=Bi t b;have hb':(b:Rat)≠0:=fun z=>by have:=zG.mp z;lia
 have h2:((lo t b:Int):Rat)*(b:Rat)=(t:Rat)*((hi t b:Int):Rat):=by rw[<- aT,h,aT]
 rw[<- e] at h2;have h3:(q*((hi t b:Int):Rat) - ((lo t b:Int):Rat))*(b:Rat)=0:=by grind
 rcases BD.mp h3 with h4 | h4
 ·grind
 ·exact absurd h4 hb'
def Fr (M V:Nat) (q:Rat):Prop:=∃z:Int,q*(M:Rat)=(z:Rat)/\z.natAbs<=V*M
theorem Fr.mono {M V V':Nat} {q:Rat} (h:Fr M V q) (l:V<=V'):Fr M V' q:=by obtain ⟨z,e,b⟩:=h;exact ⟨z,e,ah b (aw _ l)⟩
theorem Fr.scale {M V:Nat} {q:Rat} (h:Fr M V q) (k:Nat):Fr (M*k) V q:=by
 obtain ⟨z,e,b⟩:=h;refine ⟨z*k,?_,?_⟩
 ·rw[eJ,aT,<- e,aP,Rat.mul_assoc]
 ·rw[cH,bO,<- bP];exact aw _ b
theorem Fr.scaleL {M V:Nat} {q:Rat} (h:Fr M V q) (k:Nat):Fr (k*M) V q:=by rw[cb];exact h.scale k
theorem Fr.dvd {M N V:Nat} {q:Rat} (h:Fr M V q) (d:M∣N):Fr N V q:=by obtain ⟨k,rfl⟩:=d;exact h.scale k
theorem Fr.add {M V W:Nat} {p q:Rat} (h:Fr M V p) (h':Fr M W q):Fr M (V+W) (p+q):=by
 obtain ⟨z,e,b⟩:=h;obtain ⟨z',e',b'⟩:=h';refine ⟨z+z',by rw[BE,<- e,<- e',Rat.add_mul],?_⟩;rw[LN];have:=Int.natAbs_add_le z z'
 lia
theorem Fr.neg {M V:Nat} {q:Rat} (h:Fr M V q):Fr M V (-q):=by
 obtain ⟨z,e,b⟩:=h;exact ⟨-z,by rw[dq,<- e,Rat.neg_mul],by rw[rh];exact b⟩
theorem Fr.sub {M V W:Nat} {p q:Rat} (h:Fr M V p) (h':Fr M W q):Fr M (V+W) (p - q):=by rw[Rat.sub_eq_add_neg];exact h.add h'.neg
theorem Fr.mul {M N V W : Nat} {p q : Rat} (h : Fr M V p) (h' : Fr N W q) : Fr (M * N) (V * W) (p * q) := by
  obtain ⟨z, e, b⟩ := h;obtain ⟨z', e', b'⟩ := h';refine ⟨z * z', ?_, ?_⟩
  · rw [eJ, aT, <- e, <- e']; grind
  · rw [cH]
    calc z.natAbs * z'.natAbs ≤ (V * M) * (W * N) := aD b b'
      _ = V * W * (M * N) := by rw [bP, Nat.mul_left_comm M, <- bP]
theorem Fr.zero {M V:Nat}:Fr M V 0:=⟨0,by simp,by simp⟩
theorem Fr.int {M V:Nat} {i:Int} (h:i.natAbs<=V):Fr M V (i:Rat):=⟨i*M,by rw[aT,aP],by rw[cH,bO];exact aw _ h⟩
theorem Fr.one {M V:Nat} (h:1<=V):Fr M V 1:=Fr.int (i:=1) h
theorem Fr.den {M V:Nat} {q:Rat} (h:Fr M V q):(q.den:Int)∣(M:Int):=by
 obtain ⟨z,e,b⟩:=h
 have h1:q.num*(M:Int)=z*(q.den:Int):=by
  apply dM.mp;rw[aT,aT,<- e,sO,aP,aP];grind
 have h2:(q.den:Int)∣q.num*(M:Int):=⟨z,by rw[h1,fP]⟩;exact sV (by rw[nA];exact Dx q) h2
theorem Fr.den_le {M V:Nat} {q:Rat} (h:Fr M V q) (hM:0 < M):q.den<=M:=kB hM (zJ.mp h.den)
theorem Fr.num_le {M V:Nat} {q:Rat} (h:Fr M V q) (hM:0 < M):q.num.natAbs<=V*M:=by
 have hd:=h.den;obtain ⟨z,e,b⟩:=h;obtain ⟨k,hk⟩:=zJ.mp hd;have hk0:k≠0:=fun z=>by rw[z,Iq] at hk;lia
 have h1:z=q.num*(k:Int):=by
  apply dM.mp;rw[aT,<- e,sO,aP,hk,eJ];grind
 rw[h1] at b;exact ah (rk (by lia)) b
theorem Fr.own (q:Rat) {V:Nat} (h:q.num.natAbs<=V):Fr q.den V q:=⟨q.num,(sO q).symm,ah h (dD _ q.den_pos)⟩
theorem Fr.sz {M V k j:Nat} {q:Rat} (h:Fr M V q) (hM:0 < M) (h1:M<=2^k) (h2:V<=2^j):Sz (j+k+1) (nm q).1/\Sz (k+1) (nm q).2:=by
 constructor
 ·show q.num.natAbs < 2^(j+k+1)
  have h3:=h.num_le hM;have h4:V*M<=2^j*2^k:=aD h2 h1;rw[dN,aK];have:=Nat.two_pow_pos (j+k);rw[aK] at this
  lia
 ·show (q.den:Int).natAbs < 2^(k+1)
  have h3:=h.den_le hM;rw[bO,dN];have:=Nat.two_pow_pos k
  lia
theorem Fr.sum {M V:Nat}:∀{l:List Rat},(∀x∈l,Fr M V x)->Fr M (l.length*V) l.sum
 | [],_=>by simp;exact Fr.zero
 | x :: r,h=>by
  rw[List.sum_cons,aZ,df,Ao];exact (h x (.head _)).add (Fr.sum fun y hy=>h y (.tail _ hy))
def b7 (xs ys:List Rat):Rat:=(List.zipWith (·*·) xs ys).sum
theorem Fr.dot {M N V W : Nat} {xs ys : List Rat} (h : ∀ x ∈ xs, Fr M V x) (h' : ∀ y ∈ ys, Fr N W y) : Fr (M * N) (xs.length * (V * W)) (b7 xs ys) := by
  have q := Fr.sum (M := M * N) (V := V * W) (l := List.zipWith (· * ·) xs ys) fun z hz => by
    obtain ⟨i, hi, e⟩ := b9 hz;rw [fq] at e;rw [<- e];exact (h _ (aL _)).mul (h' _ (aL _))
  exact q.mono (aw _ (by rw [bx]; lia))
theorem Jy (xs ys:List Rat):b7 xs ys=b7 ys xs:=by
 unfold b7;rw[List.zipWith_comm];congr 2;funext a b;exact dw ..
theorem z8 : ∀ {bs : List Int} {m M : Int}, 0 < m → m ∣ M → (∀ b ∈ bs, 0 < b /\ b ∣ M) → yQ bs m ∣ M
  | [], _, _, _, h, _ => h
  | b :: r, m, M, hm, h, hb => by
    have b1 := hb b dk;refine z8 (bs := r) (xS hm b1.1) ?_ fun c hc => hb c (bV _ hc)
    have gp : 0 < g m b := Bq (by lia);have e1 := Bj m b;have e2 := yS m b;obtain ⟨u, hu⟩ := h;obtain ⟨v, hv⟩ := b1.2
    have h3 : lo m b * u = hi m b * v := by
      apply wZ (show g m b ≠ 0 by lia)
      calc lo m b * u * g m b = lo m b * g m b * u := by rw [dJ, fP u, <- dJ]
        _ = m * u := by rw [e1]
        _ = M := hu.symm
        _ = b * v := hv
        _ = hi m b * g m b * v := by rw [e2]
        _ = hi m b * v * g m b := by rw [dJ, fP (g m b), <- dJ]
    have h4 : hi m b ∣ lo m b * u := ⟨v, h3⟩;have h5 : hi m b ∣ u := sV (by rw [nA]; exact Bh (by lia)) h4;obtain ⟨w, hw⟩ := h5;refine ⟨w, ?_⟩;show M = m * hi m b * w
    rw [hu, hw, dJ]
theorem DG {a b:Int} {k:Nat} (hb:0 < b) (d:a∣b) (h:Sz k b):Sz k a:=h.le (kB (by lia) (eT.mpr d))
end Nm
namespace Nm
def Dr (W:Nat) (x:Rat):Prop:=x.num.natAbs<=W/\x.den<=W
def xE:List Nat->Nat
 | []=>1
 | a :: r=>a*xE r
theorem yJ:∀{l:List Nat},(∀a∈l,0 < a)->0 < xE l
 | [],_=>Nat.one_pos
 | a :: r,h=>bE (h a (.head _)) (yJ fun b hb=>h b (.tail _ hb))
theorem yK:∀{l:List Nat} {a:Nat},a∈l->a∣xE l
 | b :: r,a,h=>by
  rcases aJ.mp h with rfl | h
  ·exact Nat.dvd_mul_right ..
  ·exact yx (yK h) (sF ..)
theorem AQ {k:Nat}:∀{l:List Nat},(∀a∈l,a<=2^k)->xE l<=2^(k*l.length)
 | [],_=>by simp [xE]
 | a :: r,h=>by
  rw[aZ,Nat.mul_succ,aK,cb (2^(k*r.length))];exact aD (h a (.head _)) (AQ fun b hb=>h b (.tail _ hb))
def GF (M V:Nat) (rows:List (List Rat)):Prop:=∀xs∈rows,∀x∈xs,Fr M V x
def PK (c n i:Nat) (rows:List (List Rat)):Prop:=∃M,0 < M/\M<=2^(i*(c*n+2))/\GF M (2^(20+2*i)) rows
theorem Pl {c n:Nat}:PK c n 0 []:=⟨1,by decide,by simp,fun _ h=>nomatch h⟩
theorem Pn (c n i:Nat):(i+1)*(c*n+2)=i*(c*n+2)+(c*n+2):=df ..
theorem Nb {c n i:Nat} {rows:List (List Rat)} {xs:List Rat} (h:PK c n i rows) (hl:xs.length=n) (hd:∀x∈xs,Dr (2^c) x) (hc:c<=20):PK c n (i+1) (rows++[xs]):=by
 obtain ⟨M,h0,h1,h2⟩:=h
 have dp:0 < xE (xs.map (·.den)):=yJ fun a ha=>by
  obtain ⟨x,_,rfl⟩:=aE.mp ha;exact x.den_pos
 have dl:xE (xs.map (·.den))<=2^(c*n):=by
  have:=AQ (k:=c) (l:=xs.map (·.den)) fun a ha=>by
   obtain ⟨x,hx,rfl⟩:=aE.mp ha;exact (hd x hx).2
  rwa [ak,hl] at this
 refine ⟨M*xE (xs.map (·.den)),bE h0 dp,?_,fun ys hy x hx=>?_⟩
 ·rw[Pn,aK];exact aD h1 (ah dl (ao (by decide) (by lia)))
 ·rcases ax.mp hy with hy | hy
  ·exact ((h2 ys hy x hx).scale _).mono (ao (by decide) (by lia))
  ·have e:ys=xs:=by simpa using hy
   subst e;have f:Fr x.den (2^c) x:=Fr.own x (hd x hx).1;have g:=(f.dvd (yK (aE.mpr ⟨x,hx,rfl⟩))).scaleL M;exact g.mono (ao (by decide) (by lia))
def aW (rows:List (List Rat)) (w:Nat):List (List Rat):=(List.range w).map fun j=>rows.map fun xs=>xs.getD j 0
theorem bZ {rows:List (List Rat)} {w:Nat}:(aW rows w).length=w:=by simp [aW]
theorem jU {rows:List (List Rat)} {w:Nat}:∀ys∈aW rows w,ys.length=rows.length:=fun ys hy=>by
 obtain ⟨j,_,rfl⟩:=aE.mp hy;exact ak ..
theorem getD_map {α:Type} {l:List α} {f:α->Rat} {i:Nat} (h:i < l.length):(l.map f).getD i 0=f l[i]:=by
 rw[aa,aG,ag h];rfl
theorem Iv {rows:List (List Rat)} {w:Nat} (h:∀xs∈rows,xs.length=w):aW (aW rows w) rows.length=rows:=by
 apply dY
 ·exact bZ
 ·intro i h1 h2;have e:(aW (aW rows w) rows.length)[i]=(aW rows w).map fun xs=>xs.getD i 0:=by simp [aW]
  rw[e];have hw:=h rows[i] (aL h2);apply dY
  ·rw[ak,bZ,hw]
  ·intro j h3 h4;rw[nk];have e2:(aW rows w)[j]'(by rw[bZ];lia)=rows.map fun xs=>xs.getD j 0:=by simp [aW]
   rw[e2,getD_map h2,aa,ag h4];rfl
end Nm
namespace L2
open PySem PySem.Spec PyProof.Rows Nm
theorem dc.sqt {K:PySem.W.Frag} {H H':Hp} {b a:Addr} {xs:List V} (u:dc b H H') (B:jo H b) (h:uu K H a xs):uu K H' a xs:=by
 rcases h with (h | ⟨o,h⟩) | h
 ·exact .inl (.inl (u.tup B h))
 ·exact .inl (.inr ⟨o,u.other (fun z=>by obtain ⟨_,_,_,_,_,e,_⟩:=B;rw[z,e] at h;cases h) h⟩)
 ·exact .inr h
theorem JX {K:PySem.W.Frag} {H:Hp} {a l:Addr} {xs ys:List V} {o:HO} (h:uu K H a xs) (hl:H l=some (.lst ys)):uu K (upd H l o) a xs:=by
 rcases h with (h | ⟨o,h⟩) | h
 ·exact .inl (.inl (by rw[bA fun z=>by rw[z,hl] at h;cases h];exact h))
 ·exact .inl (.inr ⟨o,by rw[bA fun z=>by rw[z,hl] at h;cases h];exact h⟩)
 ·exact .inr h
def cF (K:PySem.W.Frag) (H:Hp) (q:Rat) (x:V):Prop:=E4 K H x (nm q)
section
variable {K:PySem.W.Frag} {H H':Hp} {q:Rat} {x:V} {b l p:Addr} {qs:List Rat}
theorem cF.same (h:cF K H q x) (e:aO H H'):cF K H' q x:=e.num h
theorem cF.upto (h:cF K H q x) (u:dc b H H') (B:jo H b):cF K H' q x:=by obtain ⟨p,e,s⟩:=h;exact ⟨p,e,u.sqt B s⟩
theorem cF.updL {ys:List V} {o:HO} (h:cF K H q x) (hl:H l=some (.lst ys)):cF K (upd H l o) q x:=by obtain ⟨p,e,s⟩:=h;exact ⟨p,e,JX s hl⟩
theorem cF.mk {r:Addr} {a c:Int} (h:H r=some (.tup [.int a,.int c])) (e:(a,c)=nm q):cF K H q (.ref r):=⟨r,rfl,by rw[<- e];exact uu.of h⟩
def cK (K:PySem.W.Frag) (H:Hp) (p:Addr) (qs:List Rat):Prop:=∃xs,H p=some (.lst xs)/\Paired (cF K H) qs xs
theorem cK.same (h:cK K H p qs) (e:aO H H'):cK K H' p qs:=by obtain ⟨xs,g,r⟩:=h;exact ⟨xs,e _ _ g,Paired.imp' (fun _ _ z=>z.same e) r⟩
theorem cK.upto (h:cK K H p qs) (u:dc b H H') (B:jo H b) (n:p≠b):cK K H' p qs:=by obtain ⟨xs,g,r⟩:=h;exact ⟨xs,u.other n g,Paired.imp' (fun _ _ z=>z.upto u B) r⟩
theorem cK.updL {ys:List V} {o:HO} (h:cK K H p qs) (hl:H l=some (.lst ys)) (n:p≠l):cK K (upd H l o) p qs:=by obtain ⟨xs,g,r⟩:=h;exact ⟨xs,by rw[bA n];exact g,Paired.imp' (fun _ _ z=>z.updL hl) r⟩
theorem uK {α β γ:Type} {F:α->β->Prop} {f:γ->α}:∀{l:List γ} {l2:List β},Paired (fun c x=>F (f c) x) l l2->Paired F (l.map f) l2
 | _,_,.nil=>.nil
 | _,_,.cons r t=>.cons r (uK t)
theorem cK.rowK (h:cK K H p qs):D3 K H p (qs.map nm):=by obtain ⟨xs,g,r⟩:=h;exact ⟨xs,g,uK (F:=fun n x=>E4 K H x n) r⟩
def cZ (K:PySem.W.Frag) (H0 H:Hp) (qs:List Rat) (x:V):Prop:=∃q,x=V.ref q/\H0 q=none/\cK K H q qs
def bS (K:PySem.W.Frag) (H0 H:Hp) (p:Addr) (rows:List (List Rat)):Prop:=∃xs,H p=some (.lst xs)/\Paired (cZ K H0 H) rows xs/\V.ref p∉xs
theorem nV {H0:Hp} {K:PySem.W.Frag} {p:Addr} {rows:List (List Rat)} {ys:List V} (h:∃H2,H2 p=none/\Paired (cZ K H0 H2) rows ys):V.ref p∉ys:=fun hm=>by
 obtain ⟨H2,e,pr⟩:=h;obtain ⟨qs,_,q,z,_,xs,g,_⟩:=dS pr hm;cases z;rw[e] at g;cases g
variable {H0:Hp} {rows:List (List Rat)}
theorem cZ.same (h:cZ K H0 H qs x) (e:aO H H'):cZ K H0 H' qs x:=by obtain ⟨q,a,b,c⟩:=h;exact ⟨q,a,b,c.same e⟩
theorem cZ.upto (h:cZ K H0 H qs x) (u:dc b H H') (B:jo H b) (nb:H0 b≠none):cZ K H0 H' qs x:=by obtain ⟨q,a,c,d⟩:=h;exact ⟨q,a,c,d.upto u B fun z=>nb (by rw[<- z];exact c)⟩
theorem cZ.weak (h:cZ K H0 H qs x) {H1:Hp} (e:aO H1 H0):cZ K H1 H qs x:=by obtain ⟨q,a,b,c⟩:=h;exact ⟨q,a,e.none b,c⟩
theorem bS.same (h:bS K H0 H p rows) (e:aO H H'):bS K H0 H' p rows:=by obtain ⟨xs,g,r,n⟩:=h;exact ⟨xs,e _ _ g,Paired.imp' (fun _ _ z=>z.same e) r,n⟩
theorem bS.upto (h:bS K H0 H p rows) (u:dc b H H') (B:jo H b) (n:p≠b) (nb:H0 b≠none):bS K H0 H' p rows:=by obtain ⟨xs,g,r,nn⟩:=h;exact ⟨xs,u.other n g,Paired.imp' (fun _ _ z=>z.upto u B nb) r,nn⟩
theorem bS.weak (h:bS K H0 H p rows) {H1:Hp} (e:aO H1 H0):bS K H1 H p rows:=by obtain ⟨xs,g,r,n⟩:=h;exact ⟨xs,g,Paired.imp' (fun _ _ z=>z.weak e) r,n⟩
theorem bS.gridK (h:bS K H0 H p rows):Ob K H p (rows.map (List.map nm)):=by obtain ⟨xs,g,r,_⟩:=h;exact ⟨xs,g,uK (F:=fun ns x=>∃q,x=V.ref q/\D3 K H q ns) (Paired.imp' (fun _ _ ⟨q,a,_,c⟩=>⟨q,a,c.rowK⟩) r)⟩
end
def K5:Kind Rat:=QR.via nm (fun _ _ e=>Pa e) (fun K H x q=>cF K H q x) id
def NQ:Kind (List Rat):=QT K5
def K6:Kind (List (List Rat)):=QT NQ
theorem cK.kind {K:PySem.W.Frag} {H:Hp} {p:Addr} {qs:List Rat} (h:cK K H p qs):NQ.R K H (.ref p) qs:=by obtain ⟨xs,g,q⟩:=h;exact ⟨p,xs,rfl,b6.of g,q⟩
theorem bS.kind {K:PySem.W.Frag} {H0 H:Hp} {p:Addr} {rows:List (List Rat)} (h:bS K H0 H p rows):K6.R K H (.ref p) rows:=by obtain ⟨xs,g,q,_⟩:=h;exact ⟨p,xs,rfl,b6.of g,Paired.imp' (fun _ _ ⟨q,a,_,c⟩=>by rw[a];exact c.kind) q⟩
def pQ (x:Rat):Prop:=Sz 4000 (nm x).1/\Sz 4000 (nm x).2
def Fits (l:List Rat):Prop:=∃M V:Nat,0 < M/\M<=2^900/\V<=2^900/\∀x∈l,Fr M V x
theorem Fits.szn {l:List Rat} (h:Fits l) {x:Rat} (hx:x∈l):pQ x:=by
 obtain ⟨M,V,h0,h1,h2,h3⟩:=h;obtain ⟨a,b⟩:=(h3 x hx).sz h0 h1 h2;exact ⟨a.mono (by decide),b.mono (by decide)⟩
theorem Fits.ok {l:List Rat} (h:Fits l) {x:Rat} (hx:x∈l):zD (nm x):=⟨kQ x,Dx x,(h.szn hx).1.mono (by decide),(h.szn hx).2.mono (by decide)⟩
theorem Gv {M V:Nat} {x:Rat} (h0:0 < M) (h1:M<=2^1800) (h2:V<=2^1810) (h:Fr M V x):pQ x:=by
 obtain ⟨a,b⟩:=h.sz h0 h1 h2;exact ⟨a.mono (by decide),b.mono (by decide)⟩
theorem JS {x:Rat} (h:pQ x):zD (nm x):=⟨kQ x,Dx x,h.1.mono (by decide),h.2.mono (by decide)⟩
def uC (K:PySem.W.Frag) (f:Rat->Rat->Rat):Sp:=fun vs H Q _=>∃(u v:V) (x y:Rat),vs=[u,v]/\cF K H x u/\cF K H y v/\pQ x/\pQ y/\∀r H',aO H H'->cF K H' (f x y) (.ref r)->Q (.ref r) H'
section
variable {K:PySem.W.Frag} {vs:List V} {H:Hp} {Q:VK} {E:XK}
theorem FR {f:Rat->Rat->Rat} {F:Int->Int->Int->Int->Int} (hf:∀x y:Rat,(f x y)*(((nm x).2*(nm y).2:Int):Rat)=((F (nm x).1 (nm x).2 (nm y).1 (nm y).2:Int):Rat)) (h:uC K f vs H Q E):Hs K F vs H Q E:=by
 obtain ⟨u,v,x,y,rfl,⟨p,rfl,hp⟩,⟨q,rfl,hq⟩,⟨s1,s2⟩,⟨s3,s4⟩,k⟩:=h;refine ⟨p,q,_,_,_,_,rfl,hp,hq,kQ x,kQ y,s1,s2,s3,s4,fun r H' s g=>k r H' s (cF.mk g ?_)⟩;exact sS (pU (kQ x) (kQ y)) (hf x y)
theorem xj (x:Rat):(((nm x).1:Int):Rat)=x*(((nm x).2:Int):Rat):=by
 show (x.num:Rat)=x*(((x.den:Nat):Int):Rat)
 rw[sO,aP]
theorem Ij (h:uC K (fun x y=>x+y) vs H Q E):Hs K NZ vs H Q E:=FR (fun x y=>by
 unfold NZ;rw[BE,aT,aT,aT,xj,xj];grind) h
theorem zV (h:uC K (fun x y=>x - y) vs H Q E):Hs K Ln vs H Q E:=FR (fun x y=>by
 unfold Ln;rw[Rat.intCast_sub,aT,aT,aT,xj,xj];grind) h
theorem HG (h:uC K (fun x y=>x*y) vs H Q E):Hs K Lm vs H Q E:=FR (fun x y=>by
 unfold Lm;rw[aT,aT,xj,xj];grind) h
end
def GH (M:Int) (ns:List (Int×Int)):Prop:=0 < M/\Sz 4400 M/\∀n∈ns,0 < n.2/\n.2∣M/\Sz 4400 n.1
theorem GH.bot {M:Int} {ns:List (Int×Int)} (h:GH M ns):0 < iq ns/\Sz 4400 (iq ns):=by
 have hb:∀b∈ns.map (·.2),0 < b/\b∣M:=fun b hb=>by
  obtain ⟨n,hn,rfl⟩:=aE.mp hb;exact ⟨(h.2.2 n hn).1,(h.2.2 n hn).2.1⟩
 exact ⟨Bm (by decide) fun b q=>(hb b q).1,DG h.1 (z8 (by decide) (Int.one_dvd _) hb) h.2.1⟩
def Ot (K:PySem.W.Frag):Sp:=fun vs H Q _=>∃(p:Addr) (bs:List Int) (M:Int),vs=[.ref p]/\b6 K H p (bs.map V.int)/\0 < M/\Sz 4400 M/\(∀b∈bs,0 < b/\b∣M)/\Q (.int (yQ bs 1)) H
def Ou (K:PySem.W.Frag):Sp:=fun vs H Q _=>∃(p:Addr) (ns:List (Int×Int)) (M:Int),vs=[.ref p]/\D3 K H p ns/\ns.length<=1000/\GH M ns/\∀H',aO H H'->Q (.int (iq ns)) H'
def JZ (K:PySem.W.Frag):Sp:=fun vs H Q _=>∃(p:Addr) (ns:List (Int×Int)) (M:Int) (B:Int),vs=[.ref p,.int B]/\D3 K H p ns/\ns.length<=1000/\GH M ns/\0 < B/\Sz 4400 B /\
 ∀r H',H r=none->aO H H'->H' r=some (.lst ((fL ns B).map V.int))->Q (.ref r) H'
theorem Ec {M:Int} {ns:List (Int×Int)} {B t:Int} (h:GH M ns) (hB:0 < B) (sB:Sz 4400 B) (ht:t∈fL ns B):Sz 8800 t:=by
 obtain ⟨n,hn,rfl⟩:=aE.mp ht;have hp:=h.2.2 n hn
 have sq:Sz 4400 (B / n.2):=sB.le (by
  rw[PR (by lia)];exact Nat.div_le_self ..)
 exact (hp.2.2.mul sq).mono (by lia)
theorem uz {x:Rat} {B:Int} (h:(nm x).2∣B):(((nm x).1*(B / (nm x).2):Int):Rat)=x*(B:Rat):=by
 obtain ⟨k,rfl⟩:=h;have hp:=kQ x;rw[Int.mul_ediv_cancel_left _ (by lia),aT,aT,xj];grind
theorem EN {B C : Int} : ∀ {xs ys : List Rat}, (∀ x ∈ xs, (nm x).2 ∣ B) → (∀ y ∈ ys, (nm y).2 ∣ C) → (((List.zipWith (· * ·) (fL (xs.map nm) B) (fL (ys.map nm) C)).sum : Int) : Rat) = b7 xs ys * ((B : Rat) * (C : Rat))
  | [], ys, _, _ => by simp [fL, b7]
  | x :: xs, [], _, _ => by simp [fL, b7]
  | x :: xs, y :: ys, h1, h2 => by
    have ih := EN (B := B) (C := C) (xs := xs) (ys := ys) (fun z hz => h1 z (.tail _ hz)) (fun z hz => h2 z (.tail _ hz));have e1 := uz (h1 x (.head _));have e2 := uz (h2 y (.head _));have e3 : (List.zipWith (· * ·) (fL ((x :: xs).map nm) B) (fL ((y :: ys).map nm) C)).sum = ((nm x).1 * (B / (nm x).2)) * ((nm y).1 * (C / (nm y).2)) + (List.zipWith (· * ·) (fL (xs.map nm) B) (fL (ys.map nm) C)).sum := rfl;have e4 : b7 (x :: xs) (y :: ys) = x * y + b7 xs ys := rfl;rw [e3, e4, BE, aT, ih, e1, e2];grind
theorem Nk {xs ys:List Rat} (h1:0 < iq (xs.map nm)) (h2:0 < iq (ys.map nm)):(lo (Lr (xs.map nm) (ys.map nm)) (iq (xs.map nm)*iq (ys.map nm)),hi (Lr (xs.map nm) (ys.map nm)) (iq (xs.map nm)*iq (ys.map nm)))=nm (b7 xs ys):=by
 refine sS (pU h1 h2) ?_;unfold Lr;rw[EN (fun x hx=>rZ (aE.mpr ⟨x,hx,rfl⟩)) (fun x hx=>rZ (aE.mpr ⟨x,hx,rfl⟩)),aT]
def JY (K:PySem.W.Frag):Sp:=fun vs H Q _=>∃(p:Addr) (w:Nat) (H0:Hp) (rows:List (List Rat)),vs=[.ref p,.int w]/\bS K H0 H p rows/\rows.length<=1000/\w<=1000/\(∀xs∈rows,xs.length=w) /\
 ∀r H',H r=none->aO H H'->bS K H H' r (aW rows w)->Q (.ref r) H'
def Fv (K:PySem.W.Frag):Sp:=fun vs H Q _=>∃(b:Addr) (w:Nat),vs=[.ref b,.int w]/\jo H b/\1<=w/\w<=1000000/\∀r x H',Dr (max w 6) x->cF K H' x (.ref r)->jo H' b->dc b H H'->Q (.ref r) H'
def Kd (K:PySem.W.Frag):Sp:=fun vs H Q _=>∃(b:Addr) (m w:Nat),vs=[.ref b,.int m,.int w]/\jo H b/\m<=1000/\1<=w/\w<=1000000 /\
 ∀r xs H',H r=none->cK K H' r xs->xs.length=m->(∀x∈xs,Dr (max w 6) x)->jo H' b->dc b H H'->Q (.ref r) H'
def J5 (K:PySem.W.Frag):Sp:=fun vs H Q _=>∃(p q:Addr) (xs ys:List Rat),vs=[.ref p,.ref q]/\cK K H p xs/\cK K H q ys/\ys.length=xs.length/\xs.length<=1000/\(∀x∈xs,pQ x)/\(∀y∈ys,pQ y) /\
 ∀r H',H r=none->aO H H'->cK K H' r (List.zipWith (fun x y=>x+y) xs ys)->Q (.ref r) H'
def Ov (K:PySem.W.Frag):Sp:=fun vs H Q _=>∃(u:V) (q:Addr) (c:Rat) (ys:List Rat),vs=[u,.ref q]/\cF K H c u/\pQ c/\cK K H q ys/\ys.length<=1000/\(∀y∈ys,pQ y) /\
 ∀r H',H r=none->aO H H'->cK K H' r (ys.map fun y=>c*y)->Q (.ref r) H'
def Fz (K:PySem.W.Frag):Sp:=fun vs H Q _=>∃(p:Addr) (H0:Hp) (rows:List (List Rat)),vs=[.ref p]/\bS K H0 H p rows/\rows.length<=1000/\(∀xs∈rows,xs.length<=1000)/\∀r H',H r=none->aO H H'->bS K H H' r rows->Q (.ref r) H'
section
variable {K:PySem.W.Frag} {a:Addr} {xs:List V} {g:TG} {tf:TT} {te:TE} {Q:VK} {σ₀:St} {H:Hp} {α β:Type}
theorem gV {as:List α} {F:Hp->α->V->Prop} (G:Hp->β->V->Prop) (f:α->β) (hx:H a=some (.lst xs)) (pf:Paired (F H) as xs) (hl:as.length<=1000)
  (hF:∀{H H' c x},F H c x->aO H H'->F H' c x) (hG:∀{H H' c x},G H c x->aO H H'->G H' c x)
  (hs:∀(i:Nat) c x H' NY NN,as[i]?=some c->aO H H'->F H' c x->(∀y H2,aO H' H2->G H2 (f c) y->NY y H2)->wg σ₀ g tf te x H' NY NN)
  (hd:∀ys H' p,H p=none->aO H H'->H' p=some (.lst ys)->Paired (G H') (as.map f) ys->(∃H2,H2 p=none/\Paired (G H2) (as.map f) ys)->Q (.ref p) H'):wY (Oa K a) σ₀ g tf te Q H:=by
 have lx:=pf.length;refine gW (K:=K) (xs:=xs) (fun i ys H'=>aO H H'/\Paired (G H') ((as.take i).map f) ys) (br (bT (by lia))) ⟨aO.refl _,.nil⟩ (fun i ys H' _ ⟨s,_⟩=>b6.of (s _ _ hx)) ?_ ?_
 ·rintro i x ys H' hx' hlen ⟨s,pr⟩;obtain ⟨c,ec,hc⟩:=cJ pf hx';refine hs i c x H' _ _ ec s (hF hc s) fun y H2 s2 gy=>⟨s.trans s2,?_⟩
  rw[take_snoc ec,dO];exact cu (Paired.imp' (fun _ _ z=>hG z s2) pr) (.cons gy .nil)
 ·rintro ys H' hy ⟨s,pr⟩ p hp;rw[aH (by lia)] at pr;exact hd ys _ p (s.none hp) (s.trans (aO.new hp)) aQ (Paired.imp' (fun _ _ z=>hG z (aO.new hp)) pr) ⟨H',hp,pr⟩
theorem fW {n:Nat} (G:Hp->β->V->Prop) (f:Nat->β) (hl:n<=1000) (hG:∀{H H' c x},G H c x->aO H H'->G H' c x)
  (hs:∀(i:Nat) H' NY NN,i < n->aO H H'->(∀y H2,aO H' H2->G H2 (f i) y->NY y H2)->wg σ₀ g tf te (.int i) H' NY NN)
  (hd:∀ys H' p,H p=none->aO H H'->H' p=some (.lst ys)->Paired (G H') ((List.range n).map f) ys->(∃H2,H2 p=none/\Paired (G H2) ((List.range n).map f) ys)->Q (.ref p) H'):wY (E6 0 n) σ₀ g tf te Q H:=by
 refine tx (fun i ys H'=>aO H H'/\Paired (G H') ((List.range i).map f) ys) (br (bT (by lia))) ⟨aO.refl _,.nil⟩ ?_ ?_
 ·rintro i ys H' hi hlen ⟨s,pr⟩;rw[Ap];refine hs i H' _ _ hi s fun y H2 s2 gy=>⟨s.trans s2,?_⟩
  rw[uw,dO];exact cu (Paired.imp' (fun _ _ z=>hG z s2) pr) (.cons gy .nil)
 ·rintro ys H' hy ⟨s,pr⟩ p hp;exact hd ys _ p (s.none hp) (s.trans (aO.new hp)) aQ (Paired.imp' (fun _ _ z=>hG z (aO.new hp)) pr) ⟨H',hp,pr⟩
theorem yW {n:Nat} {b:Addr} (G:Hp->β->V->Prop) (C:β->Prop) (hB:jo H b) (hl:n<=1000) (hG:∀{H' H'' c x},G H' c x->dc b H' H''->jo H' b->G H'' c x)
  (hs:∀(i:Nat) H' NY NN,i < n->dc b H H'->jo H' b->(∀y c H2,dc b H' H2->jo H2 b->C c->G H2 c y->NY y H2)->wg σ₀ g tf te (.int i) H' NY NN)
  (hd:∀ys cs H' p,H p=none->dc b H H'->jo H' b->H' p=some (.lst ys)->cs.length=n->(∀c∈cs,C c)->Paired (G H') cs ys->(∃H2,H2 p=none/\Paired (G H2) cs ys)->Q (.ref p) H'):wY (E6 0 n) σ₀ g tf te Q H:=by
 refine tx (fun i ys H'=>dc b H H'/\jo H' b/\∃cs,cs.length=i/\(∀c∈cs,C c)/\Paired (G H') cs ys) (br (bT (by lia))) ⟨(aO.refl _).upto,hB,[],rfl,(fun _ z=>nomatch z),.nil⟩ ?_ ?_
 ·rintro i ys H' hi hlen ⟨u,B,cs,lc,hc,pr⟩;rw[Ap];refine hs i H' _ _ hi u B fun y c H2 u2 B2 cc gy=>⟨u.trans u2,B2,cs++[c],by simp [lc],Ii hc cc,cu (Paired.imp' (fun _ _ z=>hG z u2 B) pr) (.cons gy .nil)⟩
 ·rintro ys H' hy ⟨u,B,cs,lc,hc,pr⟩ p hp;have s:aO H' (upd H' p (.lst ys)):=aO.new hp;exact hd ys cs _ p (u.none B hp) (u.same s) (B.same s) aQ lc hc (Paired.imp' (fun _ _ z=>hG z s.upto B) pr) ⟨H',hp,pr⟩
end
section
variable {X:Cx}
theorem dU {n:Nat} {g:TG} {tb:TS} {D:Ends} {σ:St} {H:Hp} (Pv:Nat->St->Hp->Prop) (h0:Pv 0 σ H)
  (hs:∀(i:Nat) σ H,i < n->Pv i σ H->g (.int i) σ H fun σ2 H2=>tb { D with nx:=Pv (i+1),ct:=Pv (i+1),bk:=D.nx } σ2 H2) (hd:∀σ H,Pv n σ H->D.nx σ H) :
  ∃W:Nat->Nat->St->Hp->Prop,(∃m,W 0 m σ H)/\∀i m σ H,W i m σ H →
   ((E6 0 n).stop i H/\D.nx σ H)\/((E6 0 n).go i H/\∃N:St->Hp->Prop,(∀σ' H',N σ' H'->∃m',m' < m/\W (i+1) m' σ' H')/\∀x H',(E6 0 n).yld i H x H'->g x σ H' fun σ2 H2=>tb { D with nx:=N,ct:=N,bk:=D.nx } σ2 H2) :=
 Cv (lo:=0) Pv h0 (fun i σ H hi p=>by rw[Ap];exact hs i σ H hi p) hd
theorem rX:vA X (.type "int") (fun xs H Q=>∃b:Bool,xs=[.bl b]/\Q (.int (if b=true then 1 else 0)) H):=by
 intro pins s σ H xs us Q I r h;obtain ⟨b,rfl,q⟩:=h;obtain ⟨u,rfl,ru⟩:=vals1 r;cases ru;exact call_int_bool ⟨.int _,H,I.tok _,⟨_,rfl⟩,q⟩
theorem BY (K:PySem.W.Frag) (hK:X.K=K):vA X (.builtin "len") (fun xs H Q=>∃p ys,xs=[.ref p]/\(b6 K H p ys\/uu K H p ys)/\Q (.int ys.length) H):=by subst hK;exact bD
theorem Kv {st:Stmt}:PS X st (fun _ _ _=>False):=fun _ _ _ _ _ _ h=>h.elim
end
theorem KW {t b:Int} {W:Nat} (hb:0 < b) (h1:t.natAbs<=W) (h2:b.natAbs<=W):∃q:Rat,(lo t b,hi t b)=nm q/\Dr W q/\q*(b:Rat)=(t:Rat):=by
 have hb':(b:Rat)≠0:=fun z=>by have:=zG.mp z;lia
 have e:(t:Rat) / (b:Rat)*(b:Rat)=t:=Rat.div_mul_cancel hb';have h:=sS hb e;refine ⟨_,h,⟨?_,?_⟩,e⟩
 ·have:=congrArg Prod.fst h;have z:=lo_le (t:=t) (b:=b) (by lia);show ((nm ((t:Rat) / (b:Rat))).1).natAbs<=W
  rw[<- this];exact ah z h1
 ·have:=congrArg Prod.snd h;have z:=NV (t:=t) (b:=b) (by lia);have hd:(((t:Rat) / (b:Rat)).den:Int)=hi t b:=this.symm;have hp:=DE (t:=t) hb
  lia
theorem Jq {K:PySem.W.Frag} {H:Hp} {qs:List Rat} {xs:List V} (h:Paired (cF K H) qs xs) {j:Nat} (hj:j < qs.length):∃v,GB xs (j:Int)=some v/\cF K H (qs.getD j 0) v:=by
 have hl:=h.length;refine ⟨xs[j]'(by lia),fO (by simp),?_⟩;have:=ma h (i:=j) hj (by lia);rwa [aa,ag hj]
theorem CA {xs ys:List Rat} {i:Nat} (h1:i < xs.length) (h2:i < ys.length):b7 (xs.take (i+1)) (ys.take (i+1))=b7 (xs.take i) (ys.take i)+xs.getD i 0*ys.getD i 0:=by
 have e1:xs[i]?=some (xs.getD i 0):=by rw[aa,ag h1];rfl
 have e2:ys[i]?=some (ys.getD i 0):=by rw[aa,ag h2];rfl
 unfold b7;rw[take_snoc e1,take_snoc e2,List.zipWith_append (by simp;lia),List.sum_append];simp [v8]
theorem getD_mem {xs:List Rat} {i:Nat} (h:i < xs.length):xs.getD i 0∈xs:=by
 rw[aa,ag h];exact aL h
theorem Cb {xs ys:List Rat} (h:ys.length=xs.length):List.zipWith (fun x y=>x+y) xs ys=(List.range xs.length).map fun i=>xs.getD i 0+ys.getD i 0:=by
 apply ip;intro i;rw[bY,aG];by_cases hi:i < xs.length
 ·rw[cU hi,ag hi,ag (show i < ys.length by lia)];simp [aa,ag hi,ag (show i < ys.length by lia)]
 ·rw[aN (show (List.range xs.length).length<=i by simp;lia),aN (show xs.length<=i by lia)];rfl
theorem cZ.updL {K:PySem.W.Frag} {H0 H:Hp} {qs:List Rat} {x:V} {l:Addr} {ys:List V} {o:HO} (h:cZ K H0 H qs x) (hl:H l=some (.lst ys)) (nl:H0 l≠none):cZ K H0 (upd H l o) qs x:=by obtain ⟨q,a,b,c⟩:=h;exact ⟨q,a,b,c.updL hl fun z=>nl (by rw[<- z];exact b)⟩
theorem jo.at {H:Hp} {b:Addr} (B:jo H b):H b≠none:=by obtain ⟨_,_,_,_,_,e,_⟩:=B;rw[e];simp
theorem Inner.at {H:Hp} {b q:Addr} (B:jo H b) (i:Inner H b q):H q≠none:=by
 obtain ⟨q',i',xs,e⟩:=B.inner;rw[<- Inner.inj i' i,e];simp
theorem fI {α β:Type} {F:α->β->Prop} {l1:List α} {l2:List β} {i:Nat} (h:Paired F l1 l2) (hi:i < l1.length):∃x y,l1[i]?=some x/\l2[i]?=some y/\x∈l1/\F x y:=by
 have hl:=h.length;exact ⟨l1[i],l2[i]'(by lia),by simp,by simp,aL _,ma h hi (by lia)⟩
theorem DQ {i j:Int} (h1:-(2^64) < i) (h2:i < 2^64):jm i j:=.inl (.inl ⟨h1,h2⟩)
theorem Ic {i j:Int} (h1:-(2^64) < j) (h2:j < 2^64):jm i j:=.inl (.inr ⟨h1,h2⟩)
def PZ (K : PySem.W.Frag) (l : Addr) : It :=
  ⟨fun i H => ∃ xs x, b6 K H l xs /\ xs[i]? = some x,
   fun i H v H' => ∃ p x, v = .ref p /\ H p = none /\ H' = upd H p (.tup [.int i, x]) /\ ∀ xs, b6 K H l xs → xs[i]? = some x,
   fun i H => ∃ xs, b6 K H l xs /\ xs.length ≤ i⟩
def tnE (e it l:Addr) (i:Nat) (h:Heap):Prop:=(∃old,IsEnum h e it i old)/\h.IsListIter it l i
theorem Iy {P:Program} {w:World} {K:PySem.W.Frag} {elts:List Expr} {kk:Nat} {tpos:Pos} (e it l:Addr) (hei:e≠it):Turn P w K (.Tuple elts kk tpos) (PZ K l) [e,it] e (tnE e it l) where
 mem:=by simp
 obj:=fun i h st b hb=>by
  obtain ⟨⟨old,he⟩,⟨o1,g1,c1,d1⟩⟩:=st;simp only[aJ,bo,or_false] at hb;rcases hb with rfl | rfl
  ·exact ⟨_,he,fun v q=>nomatch q⟩
  ·exact ⟨o1,g1,fun v q=>by rw[d1] at q;cases q⟩
 keep:=fun i h h' st k=>by
  obtain ⟨⟨old,he⟩,h1⟩:=st;exact ⟨⟨old,k e (by simp) _ he⟩,h1.at fun o q=>k it (by simp) o q⟩
 item:=by
  intro X hP hw hK hc i pins s σ H E I hf st hg;subst hP hw hK;obtain ⟨⟨old,he⟩,h1⟩:=st;obtain ⟨xs,x,qx,ex⟩:=hg;obtain ⟨us,rx,px,_⟩:=I.list qx;obtain ⟨u,eu,ru⟩:=rx.get ex;refine wpAny_pyNext_enum_item he h1 px.isList (x:=u) (by simpa using eu) hei fun h' a1 a2 a3 a4 hk=>?_
  refine ⟨_,rfl,wpAny_letOwnedTupleGo_enum a1 fun h'' he'' hs=>?_⟩;have hT0:H s.heap.objs.size=none:=I.hok.fresh (ar _);have ene:s.heap.objs.size≠e:=Ip (Heap.lt_size he)
  have up:∀b o,b∉[e,it]->s.heap.get? b=some o->h''.get? b=some o:=fun b o hb q=>by
   simp only[aJ,bo,or_false,not_or] at hb;exact (hs.2 b hb.1).trans (hk b o hb.1 hb.2 q)
  have tup:h''.get? s.heap.objs.size=some { cls:=.type "tuple",data:=.seq #[.int i s.toks,u] }:=(hs.2 _ ene).trans a3;have I1:Inv X pins σ H { s with heap:=h'',toks:=s.toks+1 }:=I.moved (g':=s.gens) (d':=s.drawn) (t':=s.toks+1) (ch:=[e,it]) hf up I.bare;have fT:mh X pins H s.heap.objs.size:=I.fpOk (ar _) hT0;have I2:=I1.track (o:=.tup [.int i,x]) fT ⟨kC rfl,[.int i s.toks,u],.cons ⟨_,rfl⟩ (.cons ru .nil),⟨_,tup,rfl,_,rfl⟩⟩;refine ⟨.ref s.heap.objs.size,_,I2,rfl,⟨_,x,rfl,hT0,rfl,fun xs' q=>by rw[I.list_inj q qx];exact ex⟩,?_,fun b hb=>?_⟩
  ·exact ⟨⟨_,by simpa using he''⟩,a2.at fun o q=>(hs.2 _ hei.symm).trans q⟩
  ·rw[bA]
   ·exact (hf b hb).1
   ·obtain ⟨o1,g1,_⟩:=h1;simp only[aJ,bo,or_false] at hb;rcases hb with rfl | rfl
    ·exact ene.symm
    ·exact ck (Heap.lt_size g1)
 done:=by
  intro X hP hw hK hc i pins s σ H E I hf st hg;subst hP hw hK;obtain ⟨⟨old,he⟩,h1⟩:=st;obtain ⟨xs,qx,hend⟩:=hg;obtain ⟨us,rx,px,_⟩:=I.list qx;have lx:=rx.length;refine wpAny_pyNext_enum_end (I.ok.hd hc) he h1 px.isList (by simp;lia) fun h' hk=>⟨rfl,?_⟩
  exact I.moved (g':=s.gens) (d':=s.drawn) (t':=s.toks) (ch:=[e,it]) hf (fun b o hb q=>hk b o (fun z=>hb (by simp [z])) q) I.bare
 self:=fun _ _ _ _ _ st h=>let ⟨⟨_,he⟩,_⟩:=st;wpAny_pyIter_enum he h
section
variable {X:Cx}
def NU (K:PySem.W.Frag) (ta:TA):TI:=fun σ H R=>ta σ H fun vs H1=>∃l,vs=[.ref l]/\(∃xs,b6 K H1 l xs)/\R (PZ K l) H1
theorem MV {a:Expr} {ta:TA} {p pos tpos:Pos} {elts:List Expr} {kk:Nat} (hg:Gl X "enumerate") (hm:X.mg "enumerate"=none) (ha:PA X [a] ta) (hs:starEach [a] X.env=[(false,eval a X.env)]:=by rfl) :
  PI X (.Tuple elts kk tpos) (.Call (.Name "enumerate" p) [a] [] pos) (NU X.K ta):=by
 intro pins s σ H R I h;refine Call_ (md I hg hm boot_enumerate (PyProof.Rows.callWith_type1 (gG (ha pos pins s σ H _ I h) fun us s1 ⟨vs,H1,I1,r1,q1⟩=>?_) (by rw[hs];rfl) rfl));obtain ⟨l,e,⟨xs,qx⟩,q⟩:=q1;subst e;obtain ⟨u,rfl,ru⟩:=vals1 r1;cases ru;obtain ⟨us,rx,px,_⟩:=I1.list qx;refine call_enumerate_list px.isList fun h' a1 a2 a3 hk=>wpAny_pyIter_enum a1 ?_
 have I2:Inv X pins σ H1 { s1 with heap:=h' }:=I1.kept (t':=s1.toks) hk;refine ⟨_,[s1.heap.objs.size+1,s1.heap.objs.size],_,_,H1,rfl,I2,Iy (s1.heap.objs.size+1) s1.heap.objs.size l (Nat.succ_ne_self _),⟨⟨_,a1⟩,a2⟩,fun b hb=>?_,q⟩
 have hb':s1.heap.objs.size<=b:=by
  simp only[aJ,bo,or_false] at hb;rcases hb with rfl | rfl <;> first | exact yr _ | exact ar _
 exact I1.fpOk hb' (I1.hok.fresh hb')
end
theorem Kr {K:PySem.W.Frag} {ta:TA} {R:It->Hp->Prop} {σ:St} {H:Hp} (h:ta σ H fun vs H1=>∃l,vs=[.ref l]/\(∃xs,b6 K H1 l xs)/\R (PZ K l) H1):NU K ta σ H R:=h
theorem Lk {K:PySem.W.Frag} {l:Addr} {xs:List V} {g:TG} {tb:TS} {D:Ends} {σ:St} {H:Hp} (Pv:Nat->St->Hp->Prop) (h0:Pv 0 σ H) (hl:∀i σ H,i<=xs.length->Pv i σ H->b6 K H l xs)
  (hs:∀i x σ H p,xs[i]?=some x->Pv i σ H->H p=none->g (.ref p) σ (upd H p (.tup [.int i,x])) fun σ2 H2=>tb { D with nx:=Pv (i+1),ct:=Pv (i+1),bk:=D.nx } σ2 H2) (hd:∀σ H,Pv xs.length σ H->D.nx σ H) :
  ∃W:Nat->Nat->St->Hp->Prop,(∃m,W 0 m σ H)/\∀i m σ H,W i m σ H →
   ((PZ K l).stop i H/\D.nx σ H)\/((PZ K l).go i H/\∃N:St->Hp->Prop,(∀σ' H',N σ' H'->∃m',m' < m/\W (i+1) m' σ' H')/\∀x H',(PZ K l).yld i H x H'->g x σ H' fun σ2 H2=>tb { D with nx:=N,ct:=N,bk:=D.nx } σ2 H2):=by
 refine ⟨fun i m σ H=>m=xs.length - i/\i<=xs.length/\Pv i σ H,⟨xs.length,by simp,bh _,h0⟩,?_⟩;rintro i m σ H ⟨rfl,hi,p⟩;have q1:=hl i σ H hi p;by_cases hlt:i < xs.length
 ·refine .inr ⟨⟨xs,xs[i],q1,by simp [hlt]⟩,Pv (i+1),fun σ' H' p'=>⟨xs.length - (i+1),by lia,rfl,hlt,p'⟩,fun x H' y=>?_⟩;obtain ⟨r,x',rfl,hr,rfl,e1⟩:=y;exact hs i x' σ _ r (e1 xs q1) p hr
 ·have e:i=xs.length:=by lia
  subst e;exact .inl ⟨⟨xs,q1,ar _⟩,hd σ H p⟩
section
variable {X:Cx}
theorem HD (K:PySem.W.Frag) {e:Expr} {f:Str} {pos:Pos} {ta:TE} (he:PE X e ta) (hb:attributeBase e f X.env (eval e X.env)=eval e X.env) (hK:X.K=K:=by rfl):PE X (.Attribute e f pos) (Ol K ta f):=by subst hK;exact gB he hb
end
theorem OU {K:PySem.W.Frag} {ta:TE} {f:Str} {σ:St} {H:Hp} {Q:VK} (h:ta σ H fun x H1=>∃a C dx fs v,x=.ref a/\H1 a=some (.ins C dx fs)/\JD K C/\lG K C f/\fs.lookup f=some v/\Q v H1):Ol K ta f σ H Q:=h
theorem Mt {K:PySem.W.Frag} {ta tv:TE} {f:Str} {D:Ends} {σ:St} {H:Hp} (h:tv σ H fun y H1=>ta σ H1 fun x H2=>∃a C dx fs,x=.ref a/\H2 a=some (.ins C dx fs)/\JD K C/\lG K C f/\fs.length < 1000 /\
 D.nx σ (upd H2 a (.ins C dx (cz f y fs)))):Qv K ta tv f D σ H:=h
theorem Mx {C:Addr} {m:Str} {sp:Sp} {E:XK} {ta:TE} {t:TA} {σ:St} {H:Hp} {Q:VK} (h:ta σ H fun x H1=>∃a dx fs,x=.ref a/\H1 a=some (.ins C dx fs)/\fs.lookup m=none /\
 t σ H1 fun vs H2=>sp (x :: vs) H2 Q E):JQ C m sp [] E ta t σ H Q:=by
 have e:(fun (x:V) H1=>∃a dx fs,x=.ref a/\H1 a=some (.ins C dx fs)/\fs.lookup m=none/\t σ H1 fun vs H2=>sp (x :: (vs++[])) H2 Q E)=fun x H1=>∃a dx fs,x=.ref a/\H1 a=some (.ins C dx fs)/\fs.lookup m=none/\t σ H1 fun vs H2=>sp (x :: vs) H2 Q E:=by
  funext x H1;simp only[ux]
 show ta σ H (fun (x:V) H1=>∃a dx fs,x=.ref a/\H1 a=some (.ins C dx fs)/\fs.lookup m=none/\t σ H1 fun vs H2=>sp (x :: (vs++[])) H2 Q E)
 rw[e];exact h
theorem My {C:Addr} {sp:Sp} {E:XK} {t:TA} {σ:St} {H:Hp} {Q:VK} (h:t σ H fun vs H1=>∀x dx,H1 x=none->H1 dx=none->dx≠x →
 sp (.ref x :: vs) (upd (upd H1 dx (.own x)) x (.ins C dx [])) (fun v H2=>v=.non/\Q (.ref x) H2) E):NC C sp [] E t σ H Q:=by
 have e:(fun vs (H1:Hp)=>∀x dx,H1 x=none->H1 dx=none->dx≠x->sp (.ref x :: (vs++[])) (upd (upd H1 dx (.own x)) x (.ins C dx [])) (fun v H2=>v=.non/\Q (.ref x) H2) E)=fun vs H1=>∀x dx,H1 x=none->H1 dx=none->dx≠x->sp (.ref x :: vs) (upd (upd H1 dx (.own x)) x (.ins C dx [])) (fun v H2=>v=.non/\Q (.ref x) H2) E:=by
  funext vs H1;simp only[ux]
 show t σ H (fun vs (H1:Hp)=>∀x dx,H1 x=none->H1 dx=none->dx≠x->sp (.ref x :: (vs++[])) (upd (upd H1 dx (.own x)) x (.ins C dx [])) (fun v H2=>v=.non/\Q (.ref x) H2) E)
 rw[e];exact h
def D7 (x:Addr) (H H':Hp):Prop:=∀b o,H b=some o->b≠x->H' b=some o
theorem D7.upd {x:Addr} {H:Hp} {o:HO}:D7 x H (L2.upd H x o):=fun b u h n=>by rw[bA n];exact h
def wX (H:Hp) (x:Addr):Prop:=∃C dx fs,H x=some (.ins C dx fs)
section
variable {K:PySem.W.Frag} {H H' H0:Hp} {q:Rat} {v:V} {x p:Addr} {qs:List Rat} {rows:List (List Rat)}
theorem cF.exc (h:cF K H q v) (e:D7 x H H') (hx:wX H x):cF K H' q v:=by
 obtain ⟨C,dx,fs,hx⟩:=hx;obtain ⟨r,er,s⟩:=h;refine ⟨r,er,?_⟩;rcases s with (h | ⟨o,h⟩) | h
 ·exact .inl (.inl (e _ _ h fun z=>by rw[z,hx] at h;cases h))
 ·exact .inl (.inr ⟨o,e _ _ h fun z=>by rw[z,hx] at h;cases h⟩)
 ·exact .inr h
theorem cK.exc (h:cK K H p qs) (e:D7 x H H') (hx:wX H x):cK K H' p qs:=by
 obtain ⟨xs,g,r⟩:=h;have hx':=hx;obtain ⟨C,dx,fs,hx⟩:=hx;exact ⟨xs,e _ _ g (fun z=>by rw[z,hx] at g;cases g),Paired.imp' (fun _ _ z=>z.exc e hx') r⟩
theorem cZ.exc (h:cZ K H0 H qs v) (e:D7 x H H') (hx:wX H x):cZ K H0 H' qs v:=by obtain ⟨q,a,b,c⟩:=h;exact ⟨q,a,b,c.exc e hx⟩
theorem bS.exc (h:bS K H0 H p rows) (e:D7 x H H') (hx:wX H x):bS K H0 H' p rows:=by
 obtain ⟨xs,g,r,n⟩:=h;have hx':=hx;obtain ⟨C,dx,fs,hx⟩:=hx;exact ⟨xs,e _ _ g (fun z=>by rw[z,hx] at g;cases g),Paired.imp' (fun _ _ z=>z.exc e hx') r,n⟩
end
def ph (a b c:Addr) (n i o:Nat):List (Str×V):=cz "outs" (.int o) (cz "look" (.ref c) (cz "ins" (.int i) (cz "put" (.ref b) (cz "states" (.int n) (cz "move" (.ref a) [])))))
section
variable {a b c:Addr} {n i o:Nat}
theorem JV:(ph a b c n i o).lookup ("look":Str)=some (.ref c):=by
 unfold ph;rw[bB,if_neg (by decide +kernel),bB,if_pos rfl]
theorem GX:(ph a b c n i o).lookup ("ins":Str)=some (.int i):=by
 unfold ph;rw[bB,if_neg (by decide +kernel),bB,if_neg (by decide +kernel),bB,if_pos rfl]
theorem zU:(ph a b c n i o).lookup ("put":Str)=some (.ref b):=by
 unfold ph;rw[bB,if_neg (by decide +kernel),bB,if_neg (by decide +kernel),bB,if_neg (by decide +kernel),bB,if_pos rfl]
theorem pe:(ph a b c n i o).lookup ("states":Str)=some (.int n):=by
 unfold ph;rw[bB,if_neg (by decide +kernel),bB,if_neg (by decide +kernel),bB,if_neg (by decide +kernel),bB,if_neg (by decide +kernel),bB,if_pos rfl]
theorem Ay:(ph a b c n i o).lookup ("move":Str)=some (.ref a):=by
 unfold ph;rw[bB,if_neg (by decide +kernel),bB,if_neg (by decide +kernel),bB,if_neg (by decide +kernel),bB,if_neg (by decide +kernel),bB,if_neg (by decide +kernel),bB,if_pos rfl]
theorem JU {m:Str} (h1:¬m="outs") (h2:¬m="look") (h3:¬m="ins") (h4:¬m="put") (h5:¬m="states") (h6:¬m="move"):(ph a b c n i o).lookup m=none:=by
 unfold ph;rw[bB,if_neg h1,bB,if_neg h2,bB,if_neg h3,bB,if_neg h4,bB,if_neg h5,bB,if_neg h6];rfl
theorem Iz:(ph a b c n i o).lookup ("moved":Str)=none:=JU (by decide +kernel) (by decide +kernel) (by decide +kernel) (by decide +kernel) (by decide +kernel) (by decide +kernel)
theorem Fm:(ph a b c n i o).lookup ("turned":Str)=none:=JU (by decide +kernel) (by decide +kernel) (by decide +kernel) (by decide +kernel) (by decide +kernel) (by decide +kernel)
end
theorem eH {k:Str} {v:V}:∀{l:List (Str×V)},(cz k v l).length<=l.length+1
 | []=>ar _
 | (x,y) :: r=>by
  unfold cz
  split
  ·simp
  ·have:=eH (k:=k) (v:=v) (l:=r);simp only[aZ]
   lia
structure fD (mv pt lk:List (List Rat)):Prop where
 n8:mv.length<=8
 i4:pt.length<=4
 o4:lk.length<=4
 mw:∀xs∈mv,xs.length=mv.length
 pw:∀xs∈pt,xs.length=mv.length
 lw:∀xs∈lk,xs.length=mv.length
def wW (mv pt lk:List (List Rat)):Prop:=∃M V:Nat,0 < M/\M<=2^800/\V<=2^400/\GF M V mv/\GF M V pt/\GF M V lk
def pW (K:PySem.W.Frag) (H0 H:Hp) (C p:Addr) (mv pt lk:List (List Rat)):Prop:=∃dx a b c,H p=some (.ins C dx (ph a b c mv.length pt.length lk.length))/\H0 a=none/\H0 b=none/\H0 c=none/\bS K H0 H a mv/\bS K H0 H b pt/\bS K H0 H c lk
section
variable {K:PySem.W.Frag} {H H' H0 H1:Hp} {C p b:Addr} {mv pt lk:List (List Rat)}
theorem pW.same (h:pW K H0 H C p mv pt lk) (e:aO H H'):pW K H0 H' C p mv pt lk:=by obtain ⟨dx,a,b,c,g,n1,n2,n3,g1,g2,g3⟩:=h;exact ⟨dx,a,b,c,e _ _ g,n1,n2,n3,g1.same e,g2.same e,g3.same e⟩
theorem pW.upto (h:pW K H0 H C p mv pt lk) (u:dc b H H') (B:jo H b) (nb:H0 b≠none):pW K H0 H' C p mv pt lk:=by
 obtain ⟨dx,a,b',c,g,n1,n2,n3,g1,g2,g3⟩:=h;refine ⟨dx,a,b',c,u.other (fun z=>by obtain ⟨_,_,_,_,_,e,_⟩:=B;rw[z,e] at g;cases g) g,n1,n2,n3,g1.upto u B (fun z=>nb (by rw[<- z];exact n1)) nb,g2.upto u B (fun z=>nb (by rw[<- z];exact n2)) nb,g3.upto u B (fun z=>nb (by rw[<- z];exact n3)) nb⟩
theorem pW.weak (h:pW K H0 H C p mv pt lk) (e:aO H1 H0):pW K H1 H C p mv pt lk:=by obtain ⟨dx,a,b,c,g,n1,n2,n3,g1,g2,g3⟩:=h;exact ⟨dx,a,b,c,g,e.none n1,e.none n2,e.none n3,g1.weak e,g2.weak e,g3.weak e⟩
theorem wW.fits (h:wW mv pt lk) {l:List Rat} (hl:∀x∈l,(∃xs∈mv,x∈xs)\/(∃xs∈pt,x∈xs)\/(∃xs∈lk,x∈xs)\/x=0):Fits l:=by
 obtain ⟨M,V,h0,h1,h2,h3,h4,h5⟩:=h;refine ⟨M,V,h0,ah h1 (ao (by decide) (by decide)),ah h2 (ao (by decide) (by decide)),fun x hx=>?_⟩;rcases hl x hx with ⟨xs,a,b⟩ | ⟨xs,a,b⟩ | ⟨xs,a,b⟩ | rfl
 ·exact h3 xs a x b
 ·exact h4 xs a x b
 ·exact h5 xs a x b
 ·exact Fr.zero
theorem wW.turn (h:wW mv pt lk):wW (aW mv mv.length) lk pt:=by
 obtain ⟨M,V,h0,h1,h2,h3,h4,h5⟩:=h;refine ⟨M,V,h0,h1,h2,fun ys hy y hy'=>?_,h5,h4⟩;obtain ⟨j,_,rfl⟩:=aE.mp hy;obtain ⟨xs,hx,rfl⟩:=aE.mp hy';by_cases hj:j < xs.length
 ·rw[aa,ag hj];exact h3 xs hx _ (aL hj)
 ·rw[aa,aN (by lia)];exact Fr.zero
theorem fD.turn (h:fD mv pt lk):fD (aW mv mv.length) lk pt:=⟨by rw[bZ];exact h.n8,h.o4,h.i4,fun xs hx=>by rw[jU xs hx,bZ],fun xs hx=>by rw[bZ];exact h.lw xs hx,fun xs hx=>by rw[bZ];exact h.pw xs hx⟩
end
def IA:Sp:=fun vs H Q _=>∃i:Int,vs=[.int i]/\Q (.bl true) H
def IK (K:PySem.W.Frag):Sp:=fun vs H Q _=>∃x n,vs=[x]/\E4 K H x n/\zD n/\∀H',aO H H'->Q (.bl true) H'
def L6:Sp:=fun vs H Q _=>∃(p:Addr) (xs:List V) (a m:Int),vs=[.ref p,.int a,.int m]/\H p=some (.lst xs)/\(xs.length:Int)<=m/\Q .non H
def Md (K:PySem.W.Frag):Sp:=fun vs H Q _=>∃(p:Addr) (H0:Hp) (rows:List (List Rat)) (w:Nat),vs=[.ref p,.int w]/\bS K H0 H p rows/\rows.length<=1000/\w<=1000/\(∀xs∈rows,xs.length=w/\∀x∈xs,zD (nm x))/\∀r H',H r=none->aO H H'->bS K H H' r rows->Q (.ref r) H'
def P0 (rows:List (List Rat)):Prop:=∀xs∈rows,∀x∈xs,zD (nm x)
def L9 (K:PySem.W.Frag) (C:Addr):Sp:=fun vs H Q _=>∃(x dx p q r:Addr) (Hb H0 H1 H2:Hp) (mv pt lk:List (List Rat)),vs=[.ref x,.ref p,.ref q,.ref r]/\Hb x=none/\Hb dx=none/\dx≠x/\H=upd (upd Hb dx (.own x)) x (.ins C dx []) /\
 bS K H0 Hb p mv/\bS K H1 Hb q pt/\bS K H2 Hb r lk/\fD mv pt lk/\P0 mv/\P0 pt/\P0 lk/\∀H',aO Hb H'->pW K Hb H' C x mv pt lk->Q .non H'
def gZ (mv pt:List (List Rat)) (st pu:List Rat):List Rat:=List.zipWith (fun line col=>b7 (line++col) (st++pu)) mv (aW pt mv.length)
def Fp (K:PySem.W.Frag) (C:Addr):Sp:=fun vs H Q _=>∃(x:Addr) (H0:Hp) (mv pt lk:List (List Rat)),vs=[.ref x]/\pW K H0 H C x mv pt lk/\fD mv pt lk/\wW mv pt lk /\
 ∀r H',H r=none->aO H H'->pW K H H' C r (aW mv mv.length) lk pt->Q (.ref r) H'
theorem wW.ok {mv pt lk:List (List Rat)} (h:wW mv pt lk):P0 mv/\P0 pt/\P0 lk :=
 ⟨fun xs hx x hx'=>(h.fits (l:=xs) fun y hy=>.inl ⟨xs,hx,hy⟩).ok hx',fun xs hx x hx'=>(h.fits (l:=xs) fun y hy=>.inr (.inl ⟨xs,hx,hy⟩)).ok hx',fun xs hx x hx'=>(h.fits (l:=xs) fun y hy=>.inr (.inr (.inl ⟨xs,hx,hy⟩))).ok hx'⟩
def gF (K:PySem.W.Frag) (A:Addr->Prop) (H:Hp) (n:Nat) (C:Rat->Prop) (x:V):Prop:=∃q qs,x=V.ref q/\A q/\cK K H q qs/\qs.length=n/\∀y∈qs,C y
section
variable {K:PySem.W.Frag} {A A':Addr->Prop} {H H' H0:Hp} {n:Nat} {C C':Rat->Prop} {x v:V} {q b l p:Addr} {xs zs:List V} {y:Rat} {o:HO}
theorem gF.same (h:gF K A H n C x) (e:aO H H'):gF K A H' n C x:=by obtain ⟨q,qs,a,c,r,z⟩:=h;exact ⟨q,qs,a,c,r.same e,z⟩
theorem gF.upto (h:gF K A H n C x) (u:dc b H H') (B:jo H b) (nb:¬A b):gF K A H' n C x:=by obtain ⟨q,qs,a,c,r,z⟩:=h;exact ⟨q,qs,a,c,r.upto u B (fun e=>nb (by rw[<- e];exact c)),z⟩
theorem gF.other (h:gF K A H n C x) (hl:H l=some (.lst zs)) (nl:¬A l):gF K A (upd H l o) n C x:=by obtain ⟨q,qs,a,c,r,z⟩:=h;exact ⟨q,qs,a,c,r.updL hl (fun e=>nl (by rw[<- e];exact c)),z⟩
theorem gF.weak (h:gF K A H n C x) (w:∀q,A q->A' q) (wc:∀y,C y->C' y):gF K A' H n C' x:=by obtain ⟨q,qs,a,c,r,l,z⟩:=h;exact ⟨q,qs,a,w q c,r,l,fun y hy=>wc y (z y hy)⟩
theorem AX {α β:Type} {F:α->β->Prop} {a:α} {b:β} (h:F a b):∀{l1:List α} {l2:List β} (j:Nat),Paired F l1 l2->Paired F (l1.set j a) (l2.set j b)
 | _,_,_,.nil=>.nil
 | _,_,0,.cons _ t=>.cons h t
 | _,_,j+1,.cons r t=>.cons r (AX h j t)
theorem gF.put (h:gF K A H n C x) (hq:H q=some (.lst zs)) (hv:cF K H y v) (hc:C y) (j:Nat):gF K A (upd H q (.lst (zs.set j v))) n C x:=by
 obtain ⟨q1,qs,rfl,a,⟨zs1,g1,pr⟩,l1,c1⟩:=h;by_cases e:q1=q
 ·subst e;rw[hq] at g1;cases g1;refine ⟨q1,qs.set j y,rfl,a,⟨_,aQ,AX (hv.updL hq) j (Paired.imp' (fun _ _ z=>z.updL hq) pr)⟩,by rw[fH];exact l1,fun z hz=>?_⟩;rcases cM hz with hz | rfl
  ·exact c1 z hz
  ·exact hc
 ·exact ⟨q1,qs,rfl,a,⟨zs1,by rw[bA e];exact g1,Paired.imp' (fun _ _ z=>z.updL hq) pr⟩,l1,c1⟩
theorem gF.at (h:gF K A H n C x):∃q zs qs,x=V.ref q/\A q/\H q=some (.lst zs)/\zs.length=n/\Paired (cF K H) qs zs/\qs.length=n/\∀y∈qs,C y:=by obtain ⟨q,qs,a,c,⟨zs,g,pr⟩,l,z⟩:=h;exact ⟨q,zs,qs,a,c,g,by rw[<- pr.length];exact l,pr,l,z⟩
end
theorem uX {W:Nat} {i:Int} (h:i.natAbs<=W) (hW:1<=W):Dr W (i:Rat):=⟨h,hW⟩
def Rk (K:PySem.W.Frag) (A:Addr->Prop) (H:Hp) (n:Nat) (C:Rat->Prop) (p:Addr) (m:Nat):Prop:=∃us,H p=some (.lst us)/\us.length=m/\¬A p/\∀x∈us,gF K A H n C x
structure E5 (A:Addr->Prop) (m p l b q0:Addr):Prop where
 am:¬A m
 ap:¬A p
 al:¬A l
 ab:¬A b
 aq:¬A q0
 mb:m≠b
 pb:p≠b
 lb:l≠b
 mp:m≠p
 ml:m≠l
 mq:m≠q0
theorem HU {M:Nat} {z:Int} (h:z.natAbs<=2):Fr 1 2 (z:Rat):=Fr.int h
theorem DF {M W:Nat} {a c:Rat} {z:Int} (hz:z.natAbs<=2) (ha:Fr M W a) (hc:Fr M W c):Fr M (3*W) (a+(z:Rat)*c):=by
 have h:=(HU (M:=M) hz).mul hc;rw[pT] at h;exact (ha.add h).mono (by lia)
theorem C7 {z:Int} (h:z.natAbs<=1000):pQ (z:Rat):=Gv (M:=1) (V:=1000) (by decide) (dP) (ah (show 1000<=2^10 by decide) (ao (by decide) (by decide))) (Fr.int h)
theorem Ax {M W:Nat} {c:Rat} {z:Int} (hz:z.natAbs<=2) (hc:Fr M W c) (h0:0 < M) (h1:M<=2^800) (hW:W<=2^140):pQ ((z:Rat)*c):=by
 have h:=(HU (M:=M) hz).mul hc;rw[pT] at h;refine Gv h0 (ah h1 (ao (by decide) (by decide))) (ah (aM 2 hW) ?_) h;rw[show 2*2^140=2^141 by rw[dN,cb]];exact ao (by decide) (by decide)
def jl (A:Addr->Prop) (b m:Addr) (H H':Hp):Prop:=∀c u,H c=some u->c≠b->¬A c->c≠m->H' c=some u
theorem jl.same {A:Addr->Prop} {b m:Addr} {H H1 H2:Hp} (h:jl A b m H H1) (s:aO H1 H2):jl A b m H H2:=fun c u e n1 n2 n3=>s _ _ (h c u e n1 n2 n3)
theorem jl.upto {A:Addr->Prop} {b m:Addr} {H H1 H2:Hp} (h:jl A b m H H1) (s:dc b H1 H2):jl A b m H H2:=fun c u e n1 n2 n3=>s.1 _ _ (h c u e n1 n2 n3) n1
theorem jl.upd {A:Addr->Prop} {b m q:Addr} {H H1:Hp} {o:HO} (h:jl A b m H H1) (hq:A q\/q=m):jl A b m H (L2.upd H1 q o):=fun c u e n1 n2 n3=>by
 rw[bA]
 ·exact h c u e n1 n2 n3
 ·rintro rfl;rcases hq with hq | hq
  ·exact n2 hq
  ·exact n3 hq
theorem jl.new {A:Addr->Prop} {b m r:Addr} {H H1:Hp} (h:jl A b m H H1) (hA:∀q,H q=none->A q) (B:jo H1 b) (hm:H1 m≠none) (hr:H1 r=none):A r:=by
 by_cases z:A r
 ·exact z
 ·cases e:H r with
  | none=>exact hA r e
  | some u =>
   have:=h r u e (fun y=>B.at (by rw[<- y];exact hr)) z (fun y=>hm (by rw[<- y];exact hr));rw[hr] at this;cases this
structure Io (K:PySem.W.Frag) (A:Addr->Prop) (n:Nat) (C:Rat->Prop) (r p b q0:Addr) (us:List V) (H0 H:Hp):Prop where
 gr:H r=some (.lst us)
 ru:∀x∈us,gF K A H n C x
 rp:gF K A H n C (.ref p)
 bag:jo H b
 inn:Inner H b q0
 up:dc b H0 H
section
variable {K:PySem.W.Frag} {A:Addr->Prop} {n:Nat} {C:Rat->Prop} {r p b q0:Addr} {us:List V} {H0 H H':Hp} {y:Rat} {v:V}
theorem Io.same (h:Io K A n C r p b q0 us H0 H) (e:aO H H'):Io K A n C r p b q0 us H0 H':=⟨e _ _ h.gr,fun x hx=>(h.ru x hx).same e,h.rp.same e,h.bag.same e,(e.upto (p:=b)).2 _ h.inn,h.up.same e⟩
theorem Io.upto (h:Io K A n C r p b q0 us H0 H) (u:dc b H H') (B:jo H' b) (nb:¬A b) (rb:r≠b):Io K A n C r p b q0 us H0 H':=⟨u.other rb h.gr,fun x hx=>(h.ru x hx).upto u h.bag nb,h.rp.upto u h.bag nb,B,u.2 _ h.inn,h.up.trans u⟩
theorem Io.put (h:Io K A n C r p b q0 us H0 H) (ap:A p) (nr:¬A r) (nb:¬A b) (nq:¬A q0) (hp:H0 p=none) (hv:cF K H y v) (hc:C y) (j:Nat):∃zs,H p=some (.lst zs)/\zs.length=n/\Io K A n C r p b q0 us H0 (upd H p (.lst (zs.set j v))):=by
 obtain ⟨q,zs,qs,e,a,g,l,_⟩:=h.rp.at;cases e;have ne:∀{z},¬A z->z≠p:=fun h e=>h (by rw[e];exact ap)
 exact ⟨zs,g,l,by rw[bA (ne nr)];exact h.gr,fun x hx=>(h.ru x hx).put g hv hc j,h.rp.put g hv hc j,h.bag.upd h.inn (ne nb).symm (ne nq).symm,h.inn.upd (ne nb).symm,h.up.after hp⟩
end
theorem AK {K:PySem.W.Frag} {A:Addr->Prop} {H:Hp} {n:Nat} {C:Rat->Prop} {us:List V} (h:∀x∈us,gF K A H n C x):∃rows:List (List Rat),Paired (fun qs x=>∃q,x=V.ref q/\A q/\cK K H q qs) rows us/\rows.length=us.length/\∀qs∈rows,qs.length=n/\∀y∈qs,C y:=by
 induction us with
 | nil=>exact ⟨[],.nil,rfl,fun _ z=>nomatch z⟩
 | cons u us ih =>
  obtain ⟨rows,pr,l,hr⟩:=ih fun x hx=>h x (.tail _ hx)
  obtain ⟨q,qs,e,a,r,l1,c⟩:=h u (.head _);refine ⟨qs :: rows,.cons ⟨q,e,a,r⟩ pr,by simp [l],fun zs hz=>?_⟩;rcases aJ.mp hz with rfl | hz
  ·exact ⟨l1,c⟩
  ·exact hr zs hz
theorem FI {K:PySem.W.Frag} {A:Addr->Prop} {H:Hp} {n:Nat} {C:Rat->Prop} {us:List V} {rows:List (List Rat)} (pr:Paired (fun qs x=>∃q,x=V.ref q/\A q/\cK K H q qs) rows us) (h:∀qs∈rows,qs.length=n/\∀y∈qs,C y):∀x∈us,gF K A H n C x:=fun x hx=>by
 obtain ⟨qs,hq,q,e,a,r⟩:=dS pr hx;exact ⟨q,qs,e,a,r,(h qs hq).1,(h qs hq).2⟩
theorem Cw {n:Nat}:∀{rows:List (List Rat)},(∀xs∈rows,xs.length=n)->rows.flatten.length=rows.length*n
 | [],_=>by simp
 | xs :: rows,h=>by
  rw[fE,ay,h xs (.head _),Cw fun ys hy=>h ys (.tail _ hy),aZ,df,Ao]
theorem Mp {c n:Nat} {rows:List (List Rat)} (h:∀qs∈rows,qs.length=n/\∀y∈qs,Dr (2^c) y):∃M:Nat,0 < M/\M<=2^(c*(rows.length*n))/\∀qs∈rows,∀y∈qs,Fr M (2^c) y:=by
 have fl:rows.flatten.length=rows.length*n:=Cw fun ys hy=>(h ys hy).1
 have hm:∀a∈rows.flatten.map (·.den),0 < a/\a<=2^c:=fun a ha=>by
  obtain ⟨y,hy,rfl⟩:=aE.mp ha;obtain ⟨qs,hq,hy⟩:=nh.mp hy;exact ⟨y.den_pos,((h qs hq).2 y hy).2⟩
 refine ⟨xE (rows.flatten.map (·.den)),yJ fun a ha=>(hm a ha).1,?_,fun qs hq y hy=>?_⟩
 ·have:=AQ (k:=c) (l:=rows.flatten.map (·.den)) fun a ha=>(hm a ha).2
  rwa [ak,fl] at this
 ·exact (Fr.own y ((h qs hq).2 y hy).1).dvd (yK (aE.mpr ⟨y,nh.mpr ⟨qs,hq,hy⟩,rfl⟩))
theorem me {K:PySem.W.Frag} {A:Addr->Prop} {H H0:Hp} {n m:Nat} {C:Rat->Prop} {p:Addr} (h:Rk K A H n C p m) (w:∀q,A q->H0 q=none):∃rows,bS K H0 H p rows/\rows.length=m/\∀qs∈rows,qs.length=n/\∀y∈qs,C y:=by
 obtain ⟨us,g,l,a,r⟩:=h;obtain ⟨rows,pr,lr,hr⟩:=AK r;refine ⟨rows,⟨us,g,Paired.imp' (fun _ _ ⟨q,e,aq,rq⟩=>⟨q,e,w q aq,rq⟩) pr,fun hm=>?_⟩,by rw[lr,l],hr⟩;obtain ⟨q,_,e,aq,_⟩:=r _ hm;cases e;exact a aq
theorem jl.trans {A:Addr->Prop} {b m:Addr} {H H1 H2:Hp} (h:jl A b m H H1) (h':jl A b m H1 H2):jl A b m H H2:=fun c u e n1 n2 n3=>h' c u (h c u e n1 n2 n3) n1 n2 n3
theorem FJ {K:PySem.W.Frag} {A:Addr->Prop} {H0 H:Hp} {n:Nat} {C:Rat->Prop} {us:List V} {rows:List (List Rat)} (pr:Paired (cZ K H0 H) rows us) (h:∀qs∈rows,qs.length=n/\∀y∈qs,C y) (w:∀q,V.ref q∈us->H0 q=none->H q≠none->A q):∀x∈us,gF K A H n C x:=fun x hx=>by
 obtain ⟨qs,hq,q,e,a,r⟩:=dS pr hx;subst e;exact ⟨q,qs,rfl,w q hx a (by obtain ⟨_,g,_⟩:=r;rw[g];simp),r,(h qs hq).1,(h qs hq).2⟩
def ID:Sp:=fun vs H Q _=>∃b,vs=[.ref b]/\jo H b/\∀r (n i o w:Nat) H',H' r=some (.tup [.int n,.int i,.int o,.int w])->n<=5->i<=4->o<=4->(w=4\/w=9\/(w=1000000/\n<=2))->(n=5->i<=2/\o<=2)->jo H' b->dc b H H'->Q (.ref r) H'
def hJ (K:PySem.W.Frag) (H0 H:Hp) (r:Addr) (mv pt lk:List (List Rat)):Prop:=∃m p l,H r=some (.tup [.ref m,.ref p,.ref l])/\H0 m=none/\H0 p=none/\H0 l=none/\bS K H0 H m mv/\bS K H0 H p pt/\bS K H0 H l lk
section
variable {K:PySem.W.Frag} {H H' H0 H1:Hp} {r b:Addr} {mv pt lk:List (List Rat)}
theorem hJ.same (h:hJ K H0 H r mv pt lk) (e:aO H H'):hJ K H0 H' r mv pt lk:=by obtain ⟨m,p,l,g,n1,n2,n3,g1,g2,g3⟩:=h;exact ⟨m,p,l,e _ _ g,n1,n2,n3,g1.same e,g2.same e,g3.same e⟩
theorem hJ.upto (h:hJ K H0 H r mv pt lk) (u:dc b H H') (B:jo H b) (nb:H0 b≠none):hJ K H0 H' r mv pt lk:=by
 obtain ⟨m,p,l,g,n1,n2,n3,g1,g2,g3⟩:=h;exact ⟨m,p,l,u.tup B g,n1,n2,n3,g1.upto u B (fun z=>nb (by rw[<- z];exact n1)) nb,g2.upto u B (fun z=>nb (by rw[<- z];exact n2)) nb,g3.upto u B (fun z=>nb (by rw[<- z];exact n3)) nb⟩
theorem hJ.weak (h:hJ K H0 H r mv pt lk) (e:∀q,H0 q=none->H1 q=none):hJ K H1 H r mv pt lk:=by
 obtain ⟨m,p,l,g,n1,n2,n3,⟨x1,y1,z1,w1⟩,⟨x2,y2,z2,w2⟩,⟨x3,y3,z3,w3⟩⟩:=h;exact ⟨m,p,l,g,e _ n1,e _ n2,e _ n3,⟨x1,y1,Paired.imp' (fun _ _ ⟨q,a,b,c⟩=>⟨q,a,e _ b,c⟩) z1,w1⟩,⟨x2,y2,Paired.imp' (fun _ _ ⟨q,a,b,c⟩=>⟨q,a,e _ b,c⟩) z2,w2⟩,⟨x3,y3,Paired.imp' (fun _ _ ⟨q,a,b,c⟩=>⟨q,a,e _ b,c⟩) z3,w3⟩⟩
end
def Fq (K:PySem.W.Frag) (C:Addr):Sp:=fun vs H Q _=>∃(r:Addr) (H0:Hp) (mv pt lk:List (List Rat)),vs=[.ref r]/\hJ K H0 H r mv pt lk/\fD mv pt lk/\wW mv pt lk/\∀x H',H x=none->aO H H'->pW K H H' C x mv pt lk->Q (.ref x) H'
def nextK (mv pt:List (List Rat)) (st pu:List Rat) (k:Nat):List Rat:=List.zipWith (fun line col=>b7 (line++col.take k) (st++pu.take k)) mv (aW pt mv.length)
theorem ki {mv pt:List (List Rat)} {st pu:List Rat} {k:Nat}:(nextK mv pt st pu k).length=mv.length:=by unfold nextK;rw[bx,bZ];lia
theorem vH {mv pt:List (List Rat)} {st pu:List Rat} {k:Nat} (h1:pt.length<=k) (h2:pu.length<=k):nextK mv pt st pu k=gZ mv pt st pu:=by
 unfold nextK gZ;apply ip;intro i;rw[bY,bY];cases e1:mv[i]? with
 | none=>rfl
 | some line =>
  cases e2:(aW pt mv.length)[i]? with
  | none=>rfl
  | some col =>
   have:=jU col (aA e2);show some _=some _
   rw[aH (by lia),aH h2]
theorem GV {rows:List (List Rat)} {w i:Nat} (h:i < w):(aW rows w)[i]?=some (rows.map fun xs=>xs.getD i 0):=by
 unfold aW;rw[aG,cU h];rfl
theorem FZ {mv pt:List (List Rat)} {st pu:List Rat}:nextK mv pt st pu 0=mv.map fun xs=>b7 xs st:=by
 unfold nextK;apply ip;intro i;rw[bY,aG];by_cases hi:i < mv.length
 ·rw[GV hi,ag hi];simp
 ·rw[aN (by lia)];rfl
theorem A6 {mv pt:List (List Rat)} {st pu:List Rat} {k i:Nat} (hi:i < mv.length):(nextK mv pt st pu k).getD i 0=b7 (mv[i]++(pt.map fun xs=>xs.getD i 0).take k) (st++pu.take k):=by
 rw[aa];unfold nextK;rw[bY,ag hi,GV hi];rfl
theorem rT {as bs xs ys:List Rat} (h:as.length=xs.length):b7 (as++bs) (xs++ys)=b7 as xs+b7 bs ys:=by
 unfold b7;rw[List.zipWith_append h,List.sum_append]
theorem Gd {mv pt:List (List Rat)} {st pu:List Rat} {k:Nat} (hm:∀xs∈mv,xs.length=st.length) (h1:k < pt.length) (h2:k < pu.length) (hw:(pt[k]).length=mv.length) :
  List.zipWith (fun x y=>x+y) (nextK mv pt st pu k) ((pt[k]).map fun y=>pu[k]*y)=nextK mv pt st pu (k+1):=by
 have l1:((pt[k]).map fun y=>pu[k]*y).length=mv.length:=by rw[ak,hw]
 rw[Cb (by rw[l1,ki])];apply ip;intro i;rw[aG,ki];by_cases hi:i < mv.length
 ·have e0:(nextK mv pt st pu (k+1))[i]?=some ((nextK mv pt st pu (k+1)).getD i 0):=by
   rw[aa,ag (by rw[ki];exact hi)];rfl
  rw[cU hi,e0,A6 hi];have ll:=hm mv[i] (aL hi);have ec:(pt.map fun xs=>xs.getD i 0)[k]?=some ((pt[k]).getD i 0):=by rw[aG,ag h1];rfl
  have ep:pu[k]?=some pu[k]:=ag h2
  have e3:((pt[k]).map fun y=>pu[k]*y).getD i 0=pu[k]*(pt[k]).getD i 0:=by
   rw[getD_map (by rw[hw];exact hi),aa,ag (by rw[hw];exact hi)];rfl
  show some ((nextK mv pt st pu k).getD i 0+((pt[k]).map fun y=>pu[k]*y).getD i 0)=some _
  rw[A6 hi,e3,take_snoc ec,take_snoc ep,rT ll,rT ll,rT (by rw[cO,cO,ak];lia)];have:b7 [(pt[k]).getD i 0] [pu[k]]=(pt[k]).getD i 0*pu[k]:=by simp [b7,v8]
  rw[this];congr 1;grind
 ·rw[aN (by simpa using hi),aN (by rw[ki];lia)];rfl
theorem Jm {mv pt:List (List Rat)} {st pu:List Rat}:(gZ mv pt st pu).length=mv.length:=by unfold gZ;rw[bx,bZ];lia
def lN (k j:Nat) (l:List Rat):Prop:=∃M V:Nat,0 < M/\M<=2^k/\V<=2^j/\∀x∈l,Fr M V x
section
variable {k j k' j':Nat} {l xs ys:List Rat} {x y:Rat}
theorem lN.szn (h:lN k j l) (hx:x∈l) (hk:k+j<=3950:=by decide):pQ x:=by
 obtain ⟨M,V,h0,h1,h2,h3⟩:=h;obtain ⟨a,b⟩:=(h3 x hx).sz h0 h1 h2;exact ⟨a.mono (by lia),b.mono (by lia)⟩
theorem lN.rowM (h:lN k j l) (hk:k+j<=4200:=by decide):∃M,GH M (l.map nm):=by
 obtain ⟨M,V,h0,h1,h2,h3⟩:=h;refine ⟨M,by lia,?_,fun n hn=>?_⟩
 ·show ((M:Nat):Int).natAbs < 2^4400
  rw[bO];exact bC h1 (dX (by decide) (by lia))
 ·obtain ⟨x,hx,rfl⟩:=aE.mp hn;obtain ⟨a,_⟩:=(h3 x hx).sz h0 h1 h2;exact ⟨kQ x,(h3 x hx).den,a.mono (by lia)⟩
theorem lN.one (h:lN k j l) (hx:x∈l):lN k j [x]:=by
 obtain ⟨M,V,h0,h1,h2,h3⟩:=h;exact ⟨M,V,h0,h1,h2,fun y hy=>by rw[bU.mp hy];exact h3 x hx⟩
theorem EK (h:lN k j xs) (h':lN k' j' ys) (hl:xs.length<=1000) (i:Nat) (hk:(k+k')+(j+j')<=3930:=by decide):pQ (b7 (xs.take i) (ys.take i)):=by
 obtain ⟨M,V,h0,h1,h2,h3⟩:=h;obtain ⟨N,W,k0,k1,k2,k3⟩:=h'
 have e:1000*(V*W)<=2^(10+(j+j')):=by
  rw[aK 2 10];exact aD (by decide) (ah (aD h2 k2) (by rw[<- aK];exact ar _))
 obtain ⟨a,b⟩:=((Fr.dot (fun x hx=>h3 x (cA hx)) (fun y hy=>k3 y (cA hy))).mono (aw _ (show (xs.take i).length<=1000 by rw[cO];lia))).sz (bE h0 k0) (ah (aD h1 k1) (by rw[<- aK];exact ar _)) e;exact ⟨a.mono (by lia),b.mono (by lia)⟩
theorem Cz (h:lN k j xs) (h':lN k' j' ys) (hl:xs.length<=1000) (hk:(k+k')+(j+j')<=3930:=by decide):pQ (b7 xs ys):=by
 have:=EK h h' hl (xs.length+ys.length) hk;rwa [aH (by lia),aH (by lia)] at this
theorem KJ (hx:lN k j [x]) (hy:lN k' j' [y]) (hk:(k+k')+(j+j')<=3930:=by decide):pQ (x*y):=by
 obtain ⟨M,V,h0,h1,h2,h3⟩:=hx;obtain ⟨N,W,k0,k1,k2,k3⟩:=hy;obtain ⟨a,b⟩:=((h3 x (.head _)).mul (k3 y (.head _))).sz (bE h0 k0) (ah (aD h1 k1) (by rw[<- aK];exact ar _)) (ah (aD h2 k2) (by rw[<- aK];exact ar _));exact ⟨a.mono (by lia),b.mono (by lia)⟩
def tQ (xs ys:List Rat):Prop:=∃k j k' j':Nat,lN k j xs/\lN k' j' ys/\(k+k')+(j+j')<=3930
theorem tQ.sys (h:lN 400 120 xs) (h':lN 1500 1800 ys):tQ xs ys:=⟨_,_,_,_,h,h',by decide⟩
end
def GG (mv pt lk:List (List Rat)):Prop:=∃M V:Nat,0 < M/\M<=2^400/\V<=2^120/\GF M V mv/\GF M V pt/\GF M V lk
section
variable {mv pt lk:List (List Rat)}
theorem GG.fits (h:GG mv pt lk) {l:List Rat} (hl:∀x∈l,(∃xs∈mv,x∈xs)\/(∃xs∈pt,x∈xs)\/(∃xs∈lk,x∈xs)\/x=0):lN 400 120 l:=by
 obtain ⟨M,V,h0,h1,h2,g1,g2,g3⟩:=h;refine ⟨M,V,h0,h1,h2,fun x hx=>?_⟩;rcases hl x hx with ⟨xs,a,b⟩ | ⟨xs,a,b⟩ | ⟨xs,a,b⟩ | rfl
 ·exact g1 xs a x b
 ·exact g2 xs a x b
 ·exact g3 xs a x b
 ·exact Fr.zero
theorem GG.sf (h:GG mv pt lk):wW mv pt lk:=by obtain ⟨M,V,a,b,c,d⟩:=h;exact ⟨M,V,a,ah b (ao (by decide) (by decide)),ah c (ao (by decide) (by decide)),d⟩
end
def Hq (K:PySem.W.Frag):Sp:=fun vs H Q _=>∃(p q:Addr) (xs ys:List Rat),vs=[.ref p,.ref q]/\cK K H p xs/\cK K H q ys/\ys.length=xs.length/\xs.length<=1000/\tQ xs ys /\
 ∀r H',aO H H'->cF K H' (b7 xs ys) (.ref r)->Q (.ref r) H'
def Ho (K:PySem.W.Frag):Sp:=fun vs H Q _=>∃(p q:Addr) (H0:Hp) (rows:List (List Rat)) (ys:List Rat),vs=[.ref p,.ref q]/\bS K H0 H p rows/\cK K H q ys/\rows.length<=1000/\ys.length<=1000/\(∀xs∈rows,xs.length=ys.length/\tQ xs ys) /\
 ∀r H',H r=none->aO H H'->cK K H' r (rows.map fun xs=>b7 xs ys)->Q (.ref r) H'
def IG (K:PySem.W.Frag) (C:Addr):Sp:=fun vs H Q _=>∃(x p q:Addr) (H0:Hp) (mv pt lk:List (List Rat)) (st pu:List Rat),vs=[.ref x,.ref p,.ref q]/\pW K H0 H C x mv pt lk/\fD mv pt lk/\GG mv pt lk/\cK K H p st/\cK K H q pu/\st.length=mv.length/\pu.length=pt.length/\lN 1500 1800 (st++pu) /\
 ∀r H',H r=none->aO H H'->cK K H' r (gZ mv pt st pu)->Q (.ref r) H'
def rJ (mv pt:List (List Rat)) (st:List Rat) (pus:List (List Rat)) (k:Nat):List Rat:=(pus.take k).foldl (gZ mv pt) st
def qG (mv pt:List (List Rat)) (st:List Rat) (pus:List (List Rat)):List (List Rat):=(List.range (pus.length+1)).map (rJ mv pt st pus)
section
variable {mv pt lk pus:List (List Rat)} {st:List Rat} {k:Nat}
theorem uB {pu:List Rat} (h:pus[k]?=some pu):rJ mv pt st pus (k+1)=gZ mv pt (rJ mv pt st pus k) pu:=by
 unfold rJ;rw[take_snoc h,List.foldl_append];rfl
theorem nZ (h:st.length=mv.length):∀{k:Nat},k<=pus.length->(rJ mv pt st pus k).length=mv.length
 | 0,_=>h
 | k+1,hk=>by rw[uB (ag (show k < pus.length by lia)),Jm]
theorem xm:(qG mv pt st pus).length=pus.length+1:=by unfold qG;rw[ak,cm]
theorem vQ (h:k<=pus.length):(qG mv pt st pus)[k]?=some (rJ mv pt st pus k):=by
 unfold qG;rw[aG,cU (by lia)];rfl
def E8 (mv pt:List (List Rat)) (st:List Rat) (pus:List (List Rat)):Prop:=∀k,k<=pus.length->∃N W:Nat,0 < N/\N<=2^1500/\W<=2^1800/\(∀x∈rJ mv pt st pus k,Fr N W x)/\∀xs∈pus,∀x∈xs,Fr N W x
theorem E8.both (h:E8 mv pt st pus) (hk:k<=pus.length) {pu:List Rat} (hp:pu∈pus):lN 1500 1800 (rJ mv pt st pus k++pu):=by
 obtain ⟨N,W,a,b,c,d,e⟩:=h k hk;exact ⟨N,W,a,b,c,fun x hx=>(ax.mp hx).elim (d x) (e pu hp x)⟩
theorem E8.state (h:E8 mv pt st pus) (hk:k<=pus.length):lN 1500 1800 (rJ mv pt st pus k):=by
 obtain ⟨N,W,a,b,c,d,e⟩:=h k hk;exact ⟨N,W,a,b,c,d⟩
theorem zT {M W:Nat} {rows:List (List Rat)} {w:Nat} (h:GF M W rows):GF M W (aW rows w):=fun ys hy y hy'=>by
 obtain ⟨j,_,rfl⟩:=aE.mp hy;obtain ⟨xs,hx,rfl⟩:=aE.mp hy';rw[aa];cases e:xs[j]? with
 | none=>exact Fr.zero
 | some z=>exact h xs hx z (aA e)
end
def y9 (K:PySem.W.Frag) (H:Hp) (l:Addr) (H':Hp) (xs:List Rat) (x:V):Prop:=∃q,x=.ref q/\H q=none/\q≠l/\cK K H' q xs
section
variable {K:PySem.W.Frag} {H H' H2:Hp} {l:Addr} {xs:List Rat} {x:V}
theorem y9.same (h:y9 K H l H' xs x) (e:aO H' H2):y9 K H l H2 xs x:=by obtain ⟨q,a,b,c,d⟩:=h;exact ⟨q,a,b,c,d.same e⟩
theorem y9.upd {ys:List V} {o:HO} (h:y9 K H l H' xs x) (hl:H' l=some (.lst ys)):y9 K H l (upd H' l o) xs x:=by obtain ⟨q,a,b,c,d⟩:=h;exact ⟨q,a,b,c,d.updL hl c⟩
theorem y9.rowF (h:y9 K H l H' xs x):cZ K H H' xs x:=by obtain ⟨q,a,b,_,d⟩:=h;exact ⟨q,a,b,d⟩
theorem IU {o:HO} (e:aO H H') (n:H l=none):aO H (upd H' l o):=fun b u h=>by
 rw[bA (fun z=>by rw[z,n] at h;cases h)];exact e b u h
theorem AL:∀{rows:List (List Rat)} {ys:List V},Paired (y9 K H l H') rows ys->V.ref l∉ys
 | _,_,.nil=>by simp
 | _,_,.cons ⟨q,a,_,c,_⟩ r=>by
  intro hm;rcases aJ.mp hm with e | hm
  ·rw[a] at e;cases e;exact c rfl
  ·exact AL r hm
end
def Fy (K:PySem.W.Frag) (C:Addr):Sp:=fun vs H Q _=>∃(x s p:Addr) (H0 H1:Hp) (mv pt lk pus:List (List Rat)) (st:List Rat),vs=[.ref x,.ref s,.ref p]/\pW K H0 H C x mv pt lk/\fD mv pt lk/\GG mv pt lk/\cK K H s st/\st.length=mv.length/\bS K H1 H p pus/\pus.length<=100/\(∀xs∈pus,xs.length=pt.length)/\E8 mv pt st pus /\
 ∀r H',H r=none->aO H H'->bS K H H' r (qG mv pt st pus)->Q (.ref r) H'
theorem Cy {c:Nat} {l:List Rat} (h:∀x∈l,Dr (2^c) x) (hc:c<=20):∃B:Nat,0 < B/\B<=2^(c*l.length+2)/\∀x∈l,Fr B (2^22) x:=by
 obtain ⟨M,h0,h1,h2⟩:=Nb (c:=c) (n:=l.length) (i:=0) (rows:=[]) Pl rfl h hc;refine ⟨M,h0,?_,h2 l (by simp)⟩;rw[Nat.zero_add,pT] at h1;exact h1
theorem uV {i:Nat}:∀{pus:List (List Rat)},(∀xs∈pus,xs.length=i)->pus.flatten.length=pus.length*i
 | [],_=>by simp
 | x :: r,h=>by
  rw[fE,ay,h x (.head _),uV (fun xs hx=>h xs (.tail _ hx)),aZ,df]
  lia
theorem Qt {i:Int} (h:i=0\/i=1):Fr 1 1 (i:Rat):=Fr.int (by rcases h with rfl | rfl <;> decide)
theorem wB {α β:Type} {F:α->β->Prop}:∀{l1:List α} {l2:List β} (_:Paired F l1 l2) (k:Nat),Paired F (l1.drop k) (l2.drop k)
 | _,_,h,0=>h
 | _,_,.nil,_+1=>.nil
 | _,_,.cons _ r,k+1=>wB r k
theorem Nn {xs:List V} {t n:Nat} (h:t+n<=xs.length):we xs (some (t:Int)) (some ((t:Int)+(n:Int)))=(xs.drop t).take n:=by
 unfold we;rw[show ((t:Int)+(n:Int))=((t+n:Nat):Int) by lia,HT.zX,HT.zX,oS (show t<=xs.length by lia),oS h,Rp]
end L2
namespace L2
abbrev iI:=Nat->Rat
def BH (F:List iI->Rat) (r:Nat):List iI->List iI->Rat->Rat
 | _,[],_=>0
 | pre,v :: post,s=>s*v r*F (pre++post)+BH F r (pre++[v]) post (-s)
def ko:List Nat->List iI->Rat
 | [],[]=>1
 | [],_ :: _=>0
 | r :: rs,vs=>BH (fun ws=>ko rs ws) r [] vs 1
theorem DI {a b:List iI} {x:iI}:ko [] (a++x :: b)=0:=by
 cases a <;> rfl
theorem Dy {F:List iI->Rat} {r:Nat} {f g h:iI} {x y:Rat} (hF:∀a b,F (a++h :: b)=x*F (a++f :: b)+y*F (a++g :: b)):∀(b p q:List iI) (s:Rat),BH F r (p++h :: q) b s=x*BH F r (p++f :: q) b s+y*BH F r (p++g :: q) b s
 | [],p,q,s=>by simp only[BH,jI,v8]
 | v :: b,p,q,s=>by
  have i1:=hF p (q++b);have i2:=Dy (r:=r) hF b p (q++[v]) (-s);simp only[BH,cw,e8] at i1 i2 ⊢;rw[i1,i2];grind
theorem HK {F:List iI->Rat} {r:Nat} {f g h:iI} {x y:Rat} (hF:∀a b,F (a++h :: b)=x*F (a++f :: b)+y*F (a++g :: b)) (hr:h r=x*f r+y*g r):∀(a pre b:List iI) (s:Rat),BH F r pre (a++h :: b) s=x*BH F r pre (a++f :: b) s+y*BH F r pre (a++g :: b) s
 | [],pre,b,s=>by
  have i2:=Dy (r:=r) hF b pre [] (-s);simp only[BH,cV] at i2 ⊢;rw[i2,hr];grind
 | v :: a,pre,b,s=>by
  have i1:=hF (pre++a) b;have i2:=HK hF hr a (pre++[v]) b (-s);simp only[BH,cw,e8] at i1 i2 ⊢;rw[i1,i2];grind
theorem uW {f g h:iI} {x y:Rat}:∀{rs:List Nat},(∀r∈rs,h r=x*f r+y*g r)->∀a b,ko rs (a++h :: b)=x*ko rs (a++f :: b)+y*ko rs (a++g :: b)
 | [],_,a,b=>by rw[DI,DI,DI];grind
 | r :: rs,hr,a,b=>HK (fun a b=>uW (fun r' h'=>hr r' (.tail _ h')) a b) (hr r (.head _)) a [] b 1
theorem Lq {f h:iI} {rs:List Nat} (hr:∀r∈rs,h r=f r) (a b:List iI):ko rs (a++h :: b)=ko rs (a++f :: b):=by
 rw[uW (f:=f) (g:=f) (x:=1) (y:=0) (fun r h'=>by rw[hr r h'];grind) a b];grind
theorem HX {h:iI} {rs:List Nat} (hr:∀r∈rs,h r=0) (a b:List iI):ko rs (a++h :: b)=0:=by
 rw[uW (f:=h) (g:=h) (x:=0) (y:=0) (fun r h'=>by rw[hr r h'];grind) a b];grind
theorem HL {F:List iI->Rat} {r:Nat} {x:iI} (hF:∀a b,F (a++x :: x :: b)=0):∀(b p q:List iI) (s:Rat),BH F r (p++x :: x :: q) b s=0
 | [],p,q,s=>rfl
 | v :: b,p,q,s=>by
  have i1:=hF p (q++b);have i2:=HL (r:=r) hF b p (q++[v]) (-s);simp only[BH,cw,e8] at i1 i2 ⊢;rw[i1,i2];grind
theorem HM {F:List iI->Rat} {r:Nat} {x:iI} (hF:∀a b,F (a++x :: x :: b)=0):∀(a pre b:List iI) (s:Rat),BH F r pre (a++x :: x :: b) s=0
 | [],pre,b,s=>by
  have i2:=HL (r:=r) hF b pre [] (- -s);simp only[BH,cV,cw,e8] at i2 ⊢;rw[i2];grind
 | v :: a,pre,b,s=>by
  have i1:=hF (pre++a) b;have i2:=HM (r:=r) hF a (pre++[v]) b (-s);simp only[BH,cw,e8] at i1 i2 ⊢;rw[i1,i2];grind
theorem Bs {x:iI}:∀{rs:List Nat} (a b:List iI),ko rs (a++x :: x :: b)=0
 | [],a,b=>DI
 | r :: rs,a,b=>HM (fun a b=>Bs a b) a [] b 1
theorem Ni {x y:iI} {rs:List Nat} (a b:List iI):ko rs (a++x :: y :: b)=- ko rs (a++y :: x :: b):=by
 have hr:∀r∈rs,(fun r=>1*x r+1*y r) r=1*x r+1*y r:=fun _ _=>rfl
 have h0:=Bs (x:=fun r=>1*x r+1*y r) (rs:=rs) a b;have h1:=uW hr a ((fun r=>1*x r+1*y r) :: b);have h2:=uW hr (a++[x]) b;have h3:=uW hr (a++[y]) b;have h4:=Bs (x:=x) (rs:=rs) a b;have h5:=Bs (x:=y) (rs:=rs) a b;simp only[cw,e8,cV] at h0 h1 h2 h3 h4 h5;rw[h1,h2,h3,h4,h5] at h0;grind
theorem DK {x:iI} {rs:List Nat}:∀(b a c:List iI),ko rs (a++x :: (b++x :: c))=0
 | [],a,c=>Bs a c
 | y :: b,a,c=>by
  have:=DK (x:=x) (rs:=rs) b (a++[y]) c;simp only[cw,e8,cV] at this;rw[e8,Ni,this];rfl
def bM:Nat->(Nat->Rat)->Rat
 | 0,_=>0
 | k+1,f=>bM k f+f k
theorem aV {f g:Nat->Rat}:∀{k:Nat},(∀j,j < k->f j=g j)->bM k f=bM k g
 | 0,_=>rfl
 | k+1,h=>by
  show bM k f+f k=bM k g+g k
  rw[aV fun j hj=>h j (by lia),h k (by lia)]
theorem rH {f g:Nat->Rat}:∀{k:Nat},bM k (fun j=>f j+g j)=bM k f+bM k g
 | 0=>by show (0:Rat)=0+0;grind
 | k+1=>by
  show bM k (fun j=>f j+g j)+_=(bM k f+f k)+(bM k g+g k)
  rw[rH];grind
theorem dm {f:Nat->Rat} {c:Rat}:∀{k:Nat},bM k (fun j=>c*f j)=c*bM k f
 | 0=>by show (0:Rat)=c*0;grind
 | k+1=>by
  show bM k (fun j=>c*f j)+_=c*(bM k f+f k)
  rw[dm];grind
theorem dI {f:Nat->Rat}:∀{k:Nat},(∀j,j < k->f j=0)->bM k f=0
 | 0,_=>rfl
 | k+1,h=>by
  show bM k f+f k=0
  rw[dI fun j hj=>h j (by lia),h k (by lia)];grind
theorem jv {f:Nat->Rat} {i:Nat}:∀{k:Nat},i < k->(∀j,j < k->j≠i->f j=0)->bM k f=f i
 | k+1,hi,h=>by
  show bM k f+f k=f i
  by_cases e:i=k
  ·subst e;rw[dI fun j hj=>h j (by lia) (by lia)];grind
  ·rw[jv (by lia) fun j hj=>h j (by lia),h k (by lia) (fun z=>e z.symm)];grind
theorem iJ {f:Nat->Nat->Rat} {m:Nat}:∀{k:Nat},bM k (fun i=>bM m (f i))=bM m (fun j=>bM k fun i=>f i j)
 | 0=>(dI fun _ _=>rfl).symm
 | k+1=>by
  show bM k (fun i=>bM m (f i))+bM m (f k)=bM m (fun j=>bM k (fun i=>f i j)+f k j)
  rw[iJ,rH]
theorem DH {rs:List Nat} {W:iI} {v:Nat->iI} {c:Nat->Rat} (a b:List iI):∀{k:Nat} {W:iI},(∀r∈rs,W r=bM k fun j=>c j*v j r)->ko rs (a++W :: b)=bM k fun j=>c j*ko rs (a++v j :: b)
 | 0,W,h=>HX h a b
 | k+1,W,h=>by
  rw[uW (f:=fun r=>bM k fun j=>c j*v j r) (g:=v k) (x:=1) (y:=c k) (fun r hr=>by rw[h r hr];show bM k _+_=_;grind) a b,DH a b (k:=k) (W:=fun r=>bM k fun j=>c j*v j r) fun r _=>rfl];show _=bM k _+_
  grind
end L2
namespace L2
open Nm
def oa (f:Nat->Nat):Nat->List Nat
 | 0=>[]
 | k+1=>f k :: oa f k
def ju (v:Nat->iI):Nat->List iI
 | 0=>[]
 | k+1=>v k :: ju v k
def Fb (v:Nat->iI) (i:Nat):Nat->List iI
 | 0=>[]
 | k+1=>if k<=i then [] else v k :: Fb v i k
theorem uG {f:Nat->Nat}:∀{k:Nat},(oa f k).length=k
 | 0=>rfl
 | k+1=>by show (oa f k).length+1=_;rw[uG]
theorem cw_len {v:Nat->iI}:∀{k:Nat},(ju v k).length=k
 | 0=>rfl
 | k+1=>by show (ju v k).length+1=_;rw[cw_len]
theorem nO {f:Nat->Nat} {r:Nat}:∀{k:Nat},r∈oa f k->∃t,t < k/\r=f t
 | k+1,h=>by
  rcases aJ.mp h with h | h
  ·exact ⟨k,by lia,h⟩
  ·obtain ⟨t,a,b⟩:=nO h;exact ⟨t,by lia,b⟩
theorem AM {f g:Nat->Nat}:∀{k:Nat},(∀j,j < k->f j=g j)->oa f k=oa g k
 | 0,_=>rfl
 | k+1,h=>by
  show f k :: oa f k=g k :: oa g k
  rw[h k (by lia),AM fun j hj=>h j (by lia)]
theorem cw_congr {f g:Nat->iI}:∀{k:Nat},(∀j,j < k->f j=g j)->ju f k=ju g k
 | 0,_=>rfl
 | k+1,h=>by
  show f k :: ju f k=g k :: ju g k
  rw[h k (by lia),cw_congr fun j hj=>h j (by lia)]
theorem cw_mem {v:Nat->iI} {j:Nat}:∀{k:Nat},j < k->v j∈ju v k
 | k+1,h=>by
  by_cases e:j=k
  ·subst e;exact .head _
  ·exact .tail _ (cw_mem (by lia))
theorem cw_in {v:Nat->iI} {x:iI}:∀{k:Nat},x∈ju v k->∃t,t < k/\x=v t
 | k+1,h=>by
  rcases aJ.mp h with h | h
  ·exact ⟨k,by lia,h⟩
  ·obtain ⟨t,a,b⟩:=cw_in h;exact ⟨t,by lia,b⟩
theorem Lv {v:Nat->iI} {i j:Nat} (h1:i < j):∀{k:Nat},j < k->v j∈Fb v i k
 | k+1,h=>by
  show v j∈if k<=i then [] else v k :: Fb v i k
  rw[if_neg (by lia)];by_cases e:j=k
  ·subst e;exact .head _
  ·exact .tail _ (Lv h1 (by lia))
theorem CC {v:Nat->iI} {i:Nat} {x:iI}:∀{k:Nat},x∈Fb v i k->∃t,t < k/\x=v t
 | k+1,h=>by
  have h:x∈if k<=i then [] else v k :: Fb v i k:=h
  split at h
  ·cases h
  ·rcases aJ.mp h with h | h
   ·exact ⟨k,by lia,h⟩
   ·obtain ⟨t,a,b⟩:=CC h;exact ⟨t,by lia,b⟩
theorem cw_split {v:Nat->iI} {i:Nat}:∀{k:Nat},i < k->ju v k=Fb v i k++v i :: ju v i
 | k+1,h=>by
  show v k :: ju v k=(if k<=i then [] else v k :: Fb v i k)++_
  by_cases e:i=k
  ·subst e;rw[if_pos (ar _)];rfl
  ·rw[if_neg (by lia),cw_split (k:=k) (i:=i) (by lia)];rfl
theorem yV {rs:List Nat} {v:Nat->iI} {c:Nat->Rat} {W:iI} {k i:Nat} (hi:i < k) (hW:∀r∈rs,W r=bM k fun j=>c j*v j r):ko rs (Fb v i k++W :: ju v i)=c i*ko rs (ju v k):=by
 rw[DH (v:=v) (c:=c) (W:=W) _ _ hW,jv hi fun j hj ne=>?_,cw_split hi];rcases dg j i with h | h
 ·obtain ⟨s,t,e⟩:=Fe (cw_mem (v:=v) h);rw[e,DK];grind
 ·obtain ⟨s,t,e⟩:=Fe (Lv (v:=v) (show i < j by lia) hj);have:=DK (x:=v j) (rs:=rs) t s (ju v i);rw[e,cw,e8,this];grind
theorem Pu {rs:List Nat} {v:Nat->iI} {c:Nat->Rat} {W:iI} {k:Nat} (hW:∀r∈rs,W r=bM k fun j=>c j*v j r):ko rs (W :: ju v k)=0:=by
 have:=DH (v:=v) (c:=c) (W:=W) [] (ju v k) hW;rw[cV] at this;rw[this];refine dI fun j hj=>?_
 obtain ⟨s,t,e⟩:=Fe (cw_mem (v:=v) hj);have:=DK (x:=v j) (rs:=rs) s [] t;rw[cV] at this;rw[e,cV,this];grind
theorem Jw {rs:List Nat} {v:Nat->iI} {c:Nat->Rat} {W:iI} {k i:Nat} {s:Rat} (hi:i∉rs) (h1:W i=bM k (fun j=>c j*v j i)+s) (hW:∀r∈rs,W r=bM k fun j=>c j*v j r):ko (i :: rs) (W :: ju v k)=s*ko rs (ju v k):=by
 have e:=uW (rs:=i :: rs) (h:=W) (f:=fun r=>bM k fun j=>c j*v j r) (g:=fun r=>if r=i then 1 else 0) (x:=1) (y:=s) (fun r hr=>by
  rcases aJ.mp hr with rfl | hr
  ·rw[h1,if_pos rfl];grind
  ·rw[hW r hr,if_neg (fun z=>hi (by rw[<- z];exact hr))];grind) [] (ju v k)
 rw[cV,cV,cV,Pu (c:=c) fun r _=>rfl] at e
 have e2:ko (i :: rs) ((fun r=>if r=i then (1:Rat) else 0) :: ju v k)=ko rs (ju v k):=by
  show 1*(if i=i then (1:Rat) else 0)*ko rs ([]++ju v k)+BH (fun ws=>ko rs ws) i ([]++[fun r=>if r=i then (1:Rat) else 0]) (ju v k) (-1)=_
  have hF:∀a b,(fun ws=>ko rs ws) (a++(fun r=>if r=i then (1:Rat) else 0) :: b)=0*(fun ws=>ko rs ws) (a++(fun r=>if r=i then (1:Rat) else 0) :: b)+0*(fun ws=>ko rs ws) (a++(fun r=>if r=i then (1:Rat) else 0) :: b):=fun a b=>by
   have:=HX (h:=fun r=>if r=i then (1:Rat) else 0) (rs:=rs) (fun r hr=>if_neg fun z=>hi (by rw[<- z];exact hr)) a b
   dsimp only
   rw[this];grind
  have:=Dy (r:=i) hF (ju v k) [] [] (-1);rw[this,if_pos rfl,cV];grind
 rw[e2] at e;rw[e];grind
theorem KU {F:List iI->Rat} {r B W:Nat}:∀{post pre:List iI} {s:Rat},(∀ws,(∀w∈ws,w∈pre++post)->ws.length+1=(pre++post).length->Fr 1 B (F ws))->(∀w∈post,Fr 1 W (w r))->Fr 1 1 s->Fr 1 (post.length*(W*B)) (BH F r pre post s)
 | [],pre,s,_,_,_=>by show Fr 1 _ 0;exact Fr.zero
 | v :: post,pre,s,hF,hw,hs=>by
  have t1:Fr 1 (W*B) (s*v r*F (pre++post)):=by
   have:=(hs.mul (hw v (.head _))).mul (hF (pre++post) (fun w h=>by
    rcases ax.mp h with h | h
    ·exact ur _ h
    ·exact bX _ (.tail _ h)) (by simp only[ay,aZ];lia))
   simpa using this
  have t2:=KU (F:=F) (r:=r) (B:=B) (W:=W) (post:=post) (pre:=pre++[v]) (s:=-s) (fun ws h h'=>hF ws (fun w hw=>by simpa using h w hw) (by simpa using h')) (fun w h=>hw w (.tail _ h)) (by simpa using hs.neg);exact (t1.add t2).mono (by rw[aZ,df];lia)
theorem zv {W N:Nat}:∀{rs:List Nat} {vs:List iI},vs.length<=N->(∀v∈vs,∀r∈rs,Fr 1 W (v r))->Fr 1 ((N*W)^rs.length) (ko rs vs)
 | [],[],_,_=>by show Fr 1 1 1;exact (Fr.int (i:=1) (by decide))
 | [],_ :: _,_,_=>by show Fr 1 _ 0;exact Fr.zero
 | r :: rs,vs,hl,h=>by
  have:=KU (F:=fun ws=>ko rs ws) (r:=r) (B:=(N*W)^rs.length) (W:=W) (post:=vs) (pre:=[]) (s:=1) (fun ws h1 h2=>zv (by rw[cV] at h2;lia) fun v hv r' hr'=>h v (by simpa using h1 v hv) r' (.tail _ hr')) (fun w hw=>h w hw r (.head _)) (Fr.int (i:=1) (by decide));refine this.mono ?_;rw[aZ,dN,cb ((N*W)^rs.length),bP N];exact aw _ hl
structure yw (a:Nat->Nat->Rat) (m k:Nat) (pm p:Nat->Nat) (l:Nat->Nat->Rat) (d:Rat):Prop where
 inj:∀i j,i < m->j < m->pm i=pm j->i=j
 rng:∀i,i < m->pm i < m
 km:k<=m
 d0:d≠0
 det:d=ko (oa pm k) (ju (fun j r=>a r (p j)) k)
 eqs:∀i,i < m->∀c,d*a (pm i) c=bM k (fun j=>a (pm i) (p j)*l j c)+if i < k then 0 else l i c
 unit:∀i,i < m->∀j,j < k->l i (p j)=if i=j then d else 0
section
variable {a l:Nat->Nat->Rat} {m k:Nat} {pm p:Nat->Nat} {d:Rat}
theorem yw.start (h:∀i,i < m->pm i=i):yw a m 0 pm p a 1 where
 inj i j hi hj e:=by rw[h i hi,h j hj] at e;exact e
 rng i hi:=by rw[h i hi];exact hi
 km:=bh _
 d0:=by decide
 det:=rfl
 eqs i hi c:=by
  rw[h i hi,if_neg (by lia)];show 1*a i c=0+a i c
  grind
 unit i _ j hj:=absurd hj (by lia)
theorem yw.coef (B:yw a m k pm p l d) {i c:Nat} (hi:i < m):a (pm i) c=bM k (fun j=>(l j c / d)*a (pm i) (p j))+if i < k then 0 else l i c / d:=by
 have h:=B.eqs i hi c;have d0:=B.d0
 have e:bM k (fun j=>(l j c / d)*a (pm i) (p j))=(1 / d)*bM k (fun j=>a (pm i) (p j)*l j c):=by
  rw[<- dm];exact aV fun j _=>by grind
 rw[e]
 split at h
 ·rw[if_pos (by assumption)];grind
 ·rw[if_neg (by assumption)];grind
theorem yw.old (B:yw a m k pm p l d) {i c:Nat} (hi:i < k):l i c=ko (oa pm k) (Fb (fun j r=>a r (p j)) i k++(fun r=>a r c) :: ju (fun j r=>a r (p j)) i):=by
 have km:=B.km;have d0:=B.d0;rw[yV (v:=fun j r=>a r (p j)) (c:=fun j=>l j c / d) hi fun r hr=>?_,<- B.det]
 ·grind
 ·obtain ⟨t,ht,rfl⟩:=nO hr;have:=B.coef (i:=t) (c:=c) (by lia);rw[if_pos ht] at this;rw[this];grind
theorem yw.new (B:yw a m k pm p l d) {i c:Nat} (h1:k<=i) (hi:i < m):l i c=ko (pm i :: oa pm k) ((fun r=>a r c) :: ju (fun j r=>a r (p j)) k):=by
 have km:=B.km;have d0:=B.d0
 have hn:pm i∉oa pm k:=fun hm=>by
  obtain ⟨t,ht,e⟩:=nO hm;have:=B.inj i t hi (by lia) e
  lia
 have e1:a (pm i) c=bM k (fun j=>(l j c / d)*a (pm i) (p j))+l i c / d:=by
  have:=B.coef (i:=i) (c:=c) hi;rwa [if_neg (by lia)] at this
 have e2:∀r∈oa pm k,a r c=bM k (fun j=>(l j c / d)*a r (p j)):=fun r hr=>by
  obtain ⟨t,ht,rfl⟩:=nO hr;have:=B.coef (i:=t) (c:=c) (by lia);rw[if_pos ht] at this;rw[this];grind
 rw[Jw (v:=fun j r=>a r (p j)) (c:=fun j=>l j c / d) (W:=fun r=>a r c) (s:=l i c / d) hn e1 e2,<- B.det];grind
theorem yw.fr {W N:Nat} (B:yw a m k pm p l d) (hN:k < N) (hW:1<=W) (ha:∀i,i < m->∀c,Fr 1 W (a i c)) {i c:Nat} (hi:i < m):Fr 1 ((N*W)^(k+1)) (l i c):=by
 have km:=B.km;have mono:∀t,t<=k+1->(N*W)^t<=(N*W)^(k+1):=fun t ht=>ao (bE (by lia) hW) ht
 have ha':∀r∈oa pm k,∀c,Fr 1 W (a r c):=fun r hr c=>by
  obtain ⟨t,ht,rfl⟩:=nO hr;exact ha _ (B.rng t (by lia)) c
 by_cases h:i < k
 ·rw[B.old h];refine (zv (W:=W) (N:=N) ?_ ?_).mono (mono _ (by rw[uG];lia))
  ·have:=congrArg List.length (cw_split (v:=fun j r=>a r (p j)) h);rw[ay,aZ,cw_len] at this;rw[ay,aZ]
   lia
  ·intro v hv r hr;rcases ax.mp hv with hv | hv
   ·obtain ⟨t,_,rfl⟩:=CC hv;exact ha' r hr _
   ·rcases aJ.mp hv with rfl | hv
    ·exact ha' r hr _
    ·obtain ⟨t,_,rfl⟩:=cw_in hv;exact ha' r hr _
 ·rw[B.new (by lia) hi];refine (zv (W:=W) (N:=N) ?_ ?_).mono (mono _ (by rw[aZ,uG];lia))
  ·rw[aZ,cw_len]
   lia
  ·intro v hv r hr
   have hr':∀c,Fr 1 W (a r c):=fun c=>by
    rcases aJ.mp hr with rfl | hr
    ·exact ha _ (B.rng i hi) c
    ·exact ha' r hr c
   rcases aJ.mp hv with rfl | hv
   ·exact hr' _
   ·obtain ⟨t,_,rfl⟩:=cw_in hv;exact hr' _
theorem yw.dfr {W N:Nat} (B:yw a m k pm p l d) (hN:k<=N) (ha:∀i,i < m->∀c,Fr 1 W (a i c)):Fr 1 ((N*W)^k) d:=by
 have km:=B.km;rw[B.det]
 have:=zv (W:=W) (N:=N) (rs:=oa pm k) (vs:=ju (fun j r=>a r (p j)) k) (by rw[cw_len];exact hN) fun v hv r hr=>by
  obtain ⟨t,ht,rfl⟩:=nO hr;obtain ⟨t',_,rfl⟩:=cw_in hv;exact ha _ (B.rng t (by lia)) _
 rwa [uG] at this
def lO (k t i:Nat):Nat:=if i=k then t else if i=t then k else i
theorem wo {k t m i:Nat} (hk:k < m) (ht:t < m) (hi:i < m):lO k t i < m:=by
 unfold lO
 split
 ·exact ht
 ·split
  ·exact hk
  ·exact hi
theorem Om {k t i j:Nat} (h:lO k t i=lO k t j):i=j:=by
 unfold lO at h
 split at h <;> split at h <;> (try split at h) <;> (try split at h) <;> lia
theorem w5 {k t i:Nat} (h:k<=t) (hi:i < k):lO k t i=i:=by
 unfold lO;rw[if_neg (by lia),if_neg (by lia)]
theorem xu {k t i:Nat} (h:k<=t) (hi:k<=i):k<=lO k t i:=by
 unfold lO
 split
 ·exact h
 ·split <;> lia
theorem yw.swap (B:yw a m k pm p l d) {t:Nat} (h:k<=t) (ht:t < m):yw a m k (fun i=>pm (lO k t i)) p (fun i=>l (lO k t i)) d where
 inj i j hi hj e:=Om (B.inj _ _ (wo (by lia) ht hi) (wo (by lia) ht hj) e)
 rng i hi:=B.rng _ (wo (by lia) ht hi)
 km:=B.km
 d0:=B.d0
 det:=by rw[B.det,AM (f:=pm) (g:=fun i=>pm (lO k t i)) fun j hj=>by rw[w5 h hj]]
 eqs i hi c:=by
  have e:=B.eqs (lO k t i) (wo (by lia) ht hi) c;have e1:bM k (fun j=>a (pm (lO k t i)) (p j)*l (lO k t j) c)=bM k (fun j=>a (pm (lO k t i)) (p j)*l j c):=aV fun j hj=>by rw[w5 h hj]
  rw[e1];by_cases hk:i < k
  ·rw[w5 h hk] at e ⊢;exact e
  ·rw[if_neg hk];rw[if_neg (by have:=xu h (show k<=i by lia);lia)] at e;exact e
 unit i hi j hj:=by
  rw[B.unit _ (wo (by lia) ht hi) j hj];by_cases hk:i < k
  ·rw[w5 h hk]
  ·have:=xu h (show k<=i by lia);rw[if_neg (by lia),if_neg (by lia)]
theorem yw.step (B:yw a m k pm p l d) {c0:Nat} (hk:k < m) (h0:l k c0≠0):yw a m (k+1) pm (fun j=>if j=k then c0 else p j) (fun i c=>if i=k then l k c else (l k c0*l i c - l i c0*l k c) / d) (l k c0) where
 inj:=B.inj
 rng:=B.rng
 km:=hk
 d0:=h0
 det:=by
  rw[B.new (ar _) hk];show _=ko (pm k :: oa pm k) ((fun r=>a r (if k=k then c0 else p k)) :: ju _ k)
  rw[if_pos rfl];congr 2;exact cw_congr fun j hj=>by rw[if_neg (show j≠k by lia)]
 eqs i hi c:=by
  have d0:=B.d0;have e1:=B.eqs i hi c;have e2:=B.eqs i hi c0;show l k c0*a (pm i) c=(bM k _+_)+_
  have s1:bM k (fun j=>a (pm i) (if j=k then c0 else p j)*(if j=k then l k c else (l k c0*l j c - l j c0*l k c) / d))=(l k c0 / d)*bM k (fun j=>a (pm i) (p j)*l j c)+(- l k c / d)*bM k (fun j=>a (pm i) (p j)*l j c0):=by
   rw[<- dm,<- dm,<- rH];refine aV fun j hj=>?_
   rw[if_neg (show j≠k by lia),if_neg (show j≠k by lia)];grind
  rw[s1];simp only[if_true];generalize bM k (fun j=>a (pm i) (p j)*l j c)=S1 at e1 ⊢;generalize bM k (fun j=>a (pm i) (p j)*l j c0)=S2 at e2 ⊢;rcases qZ i k with h | h | h
  ·rw[if_pos h] at e1 e2;rw[if_pos (by lia)];grind
  ·subst h;rw[if_neg (by lia)] at e1 e2;rw[if_pos (by lia)];grind
  ·rw[if_neg (by lia)] at e1 e2;rw[if_neg (by lia),if_neg (by lia)];grind
 unit i hi j hj:=by
  have d0:=B.d0;by_cases e:j=k
  ·subst e;simp only[if_true];by_cases ei:i=j
   ·rw[if_pos ei,if_pos ei]
   ·rw[if_neg ei,if_neg ei];grind
  ·have hj':j < k:=by lia
   rw[if_neg e];by_cases ei:i=k
   ·rw[if_pos ei,B.unit k hk j hj',if_neg (by lia),if_neg (by lia)]
   ·rw[if_neg ei,B.unit i hi j hj',B.unit k hk j hj',if_neg (show k≠j by lia)]
    split
    ·grind
    ·grind
end
def fj (m:Nat) (a:Nat->Nat->Rat) (x:Nat->Rat):Prop:=∃w:Nat->Rat,∀c,x c=bM m fun t=>w t*a t c
section
variable {m m' k n:Nat} {a b:Nat->Nat->Rat} {x y:Nat->Rat}
theorem fj.row {i:Nat} (hi:i < m):fj m a (a i):=⟨fun t=>if t=i then 1 else 0,fun c=>by
 rw[jv hi fun j _ ne=>by dsimp only;rw[if_neg ne];grind]
 dsimp only
 rw[if_pos rfl];grind⟩
theorem fj.lin (α β:Rat) (hx:fj m a x) (hy:fj m a y):fj m a fun c=>α*x c+β*y c:=by
 obtain ⟨w,hw⟩:=hx;obtain ⟨v,hv⟩:=hy;refine ⟨fun t=>α*w t+β*v t,fun c=>?_⟩
 dsimp only
 rw[hw c,hv c,<- dm,<- dm,<- rH];exact aV fun j _=>by grind
theorem fj.congr (h:∀c,x c=y c) (hx:fj m a x):fj m a y:=by obtain ⟨w,hw⟩:=hx;exact ⟨w,fun c=>by rw[<- h c];exact hw c⟩
theorem fj.trans (h:∀t,t < m'->fj m a (b t)) (hx:fj m' b x):fj m a x:=by
 obtain ⟨v,hv⟩:=hx
 have h2:∀t,∃w:Nat->Rat,t < m'->∀c,b t c=bM m fun s=>w s*a s c:=fun t=>by
  by_cases ht:t < m'
  ·obtain ⟨w,hw⟩:=h t ht;exact ⟨w,fun _=>hw⟩
  ·exact ⟨fun _=>0,fun z=>absurd z ht⟩
 have hc:=Classical.axiomOfChoice h2;obtain ⟨w,hw⟩:=hc;refine ⟨fun s=>bM m' fun t=>v t*w t s,fun c=>?_⟩;rw[hv c];have e1:bM m' (fun t=>v t*b t c)=bM m' (fun t=>bM m fun s=>v t*(w t s*a s c)):=aV fun t ht=>by rw[hw t ht c,<- dm]
 rw[e1,iJ];refine aV fun s _=>?_
 have:bM m' (fun t=>v t*w t s)*a s c=a s c*bM m' (fun t=>v t*w t s):=dw ..;rw[this,<- dm];exact aV fun t _=>by grind
theorem fj.zero (h:∀c,x c=0):fj m a x:=⟨fun _=>0,fun c=>by rw[h c,dI fun _ _=>by grind]⟩
end
structure E3 (m n:Nat) (a:Nat->Nat->Rat) (k:Nat) (p:Nat->Nat) (R:Nat->Nat->Rat):Prop where
 inc:∀i j,i < j->j < k->p i < p j
 low:∀j,j < k->p j < n
 unit:∀i,i < k->∀j,j < k->R i (p j)=if i=j then 1 else 0
 lead:∀i,i < k->∀c,c < p i->R i c=0
 span:∀i,i < m->fj k R (a i)
 back:∀i,i < k->fj m a (R i)
section
variable {m m' k k' n:Nat} {a a' R R':Nat->Nat->Rat} {p p':Nat->Nat} {x:Nat->Rat}
theorem E3.coef (h:E3 m n a k p R) (hx:fj k R x) (c:Nat):x c=bM k fun j=>x (p j)*R j c:=by
 obtain ⟨w,hw⟩:=hx;rw[hw c];refine aV fun j hj=>?_
 rw[hw (p j),jv hj fun t ht ne=>by rw[h.unit t ht j hj,if_neg ne];grind,h.unit j hj j hj,if_pos rfl];grind
theorem E3.lead_in (h:E3 m n a k p R) (hx:fj k R x) {c:Nat} (h1:x c≠0) (h0:∀c',c' < c->x c'=0):∃j,j < k/\p j=c:=by
 refine Classical.byContradiction fun hn=>h1 ?_
 rw[h.coef hx c];refine dI fun j hj=>?_
 rcases qZ (p j) c with z | z | z
 ·rw[h0 _ z];grind
 ·exact absurd ⟨j,hj,z⟩ hn
 ·rw[h.lead j hj c z];grind
theorem inc_le (h1:∀i j,i < j->j < k->p i < p j) (h2:∀i j,i < j->j < k'->p' i < p' j) (hs:∀j,j < k'->∃i,i < k/\p i=p' j):∀{j:Nat},j < k'->∀{i:Nat},i < k->p i=p' j->j<=i
 | 0,_,_,_,_=>bh _
 | j+1,hj,i,hi,e=>by
  obtain ⟨i0,hi0,e0⟩:=hs j (by lia);have:=inc_le h1 h2 hs (j:=j) (by lia) hi0 e0;have lt:=h2 j (j+1) (by lia) hj;rcases qZ i0 i with z | z | z
  ·lia
  ·subst z;lia
  ·have:=h1 i i0 z hi0;lia
theorem K7 (h1:∀i j,i < j->j < k->p i < p j) {i j:Nat} (h:i<=j) (hj:j < k):p i<=p j:=by
 rcases dg i j with z | z
 ·exact br (h1 i j z hj)
 ·have:i=j:=by lia
  rw[this];exact ar _
theorem HR (h1:∀i j,i < j->j < k->p i < p j) (h2:∀i j,i < j->j < k'->p' i < p' j) (hs:∀j,j < k'->∃i,i < k/\p i=p' j):k'<=k/\∀j,j < k'->p j<=p' j:=by
 refine ⟨?_,fun j hj=>?_⟩
 ·rcases jJ k' with z | z
  ·lia
  ·obtain ⟨i,hi,e⟩:=hs (k' - 1) (by lia);have:=inc_le h1 h2 hs (j:=k' - 1) (by lia) hi e
   lia
 ·obtain ⟨i,hi,e⟩:=hs j hj;rw[<- e];exact K7 h1 (inc_le h1 h2 hs hj hi e) hi
theorem E3.uniq (h:E3 m n a k p R) (h':E3 m' n a' k' p' R') (s1:∀i,i < m->fj m' a' (a i)) (s2:∀i,i < m'->fj m a (a' i)):k=k'/\(∀j,j < k->p j=p' j)/\∀i,i < k->∀c,R i c=R' i c:=by
 have x1:∀i,i < k->fj k' R' (R i):=fun i hi=>fj.trans (fun t ht=>h'.span t ht) (fj.trans s1 (h.back i hi))
 have x2:∀i,i < k'->fj k R (R' i):=fun i hi=>fj.trans (fun t ht=>h.span t ht) (fj.trans s2 (h'.back i hi))
 have y1:∀j,j < k->∃i,i < k'/\p' i=p j:=fun j hj=>h'.lead_in (x1 j hj) (by rw[h.unit j hj j hj,if_pos rfl];decide) (h.lead j hj)
 have y2:∀j,j < k'->∃i,i < k/\p i=p' j:=fun j hj=>h.lead_in (x2 j hj) (by rw[h'.unit j hj j hj,if_pos rfl];decide) (h'.lead j hj)
 obtain ⟨z1,w1⟩:=HR h'.inc h.inc y1;obtain ⟨z2,w2⟩:=HR h.inc h'.inc y2;have ek:k=k':=Nat.le_antisymm z1 z2;subst ek;have ep:∀j,j < k->p j=p' j:=fun j hj=>Nat.le_antisymm (w2 j hj) (w1 j hj)
 refine ⟨rfl,ep,fun i hi c=>?_⟩;rw[h.coef (x2 i hi) c,jv hi fun j hj ne=>by rw[ep j hj,h'.unit i hi j hj,if_neg (fun z=>ne z.symm)];grind,ep i hi,h'.unit i hi i hi,if_pos rfl];grind
end
structure my (a:Nat->Nat->Rat) (m k P:Nat) (p:Nat->Nat) (l:Nat->Nat->Rat) (d:Rat):Prop where
 km:k<=m
 d0:d≠0
 unit:∀i,i < m->∀j,j < k->l i (p j)=if i=j then d else 0
 inc:∀i j,i < j->j < k->p i < p j
 low:∀j,j < k->p j < P
 zero:∀i,k<=i->i < m->∀c,c < P->l i c=0
 lead:∀j,j < k->∀c,c < p j->l j c=0
 there:∀i,i < m->fj m l (a i)
 back:∀i,i < m->fj m a (l i)
section
variable {m k n P:Nat} {a l l':Nat->Nat->Rat} {p:Nat->Nat} {d d':Rat}
theorem my.start:my a m 0 0 p a 1 where
 km:=bh _
 d0:=by decide
 unit _ _ j hj:=absurd hj (by lia)
 inc _ j _ hj:=absurd hj (by lia)
 low j hj:=absurd hj (by lia)
 zero _ _ _ c hc:=absurd hc (by lia)
 lead j hj:=absurd hj (by lia)
 there i hi:=fj.row hi
 back i hi:=fj.row hi
theorem my.skip (E:my a m k P p l d) (h:∀i,k<=i->i < m->l i P=0):my a m k (P+1) p l d :=
 ⟨E.km,E.d0,E.unit,E.inc,fun j hj=>Nat.lt_succ_of_lt (E.low j hj),fun i h1 h2 c hc=>by
  by_cases e:c=P
  ·rw[e];exact h i h1 h2
  ·exact E.zero i h1 h2 c (by lia),E.lead,E.there,E.back⟩
theorem Qq {k t i:Nat}:lO k t (lO k t i)=i:=by
 unfold lO
 split
 ·split <;> (try split) <;> lia
 ·split
  ·rw[if_pos rfl];lia
  ·rfl
theorem my.swap (E:my a m k P p l d) {t:Nat} (h:k<=t) (ht:t < m):my a m k P p (fun i=>l (lO k t i)) d where
 km:=E.km
 d0:=E.d0
 unit i hi j hj:=by
  rw[E.unit _ (wo (by lia) ht hi) j hj];by_cases hk:i < k
  ·rw[w5 h hk]
  ·have:=xu h (show k<=i by lia);rw[if_neg (by lia),if_neg (by lia)]
 inc:=E.inc
 low:=E.low
 zero i h1 h2 c hc:=E.zero _ (xu h h1) (wo (by lia) ht h2) c hc
 lead j hj c hc:=by rw[w5 h hj];exact E.lead j hj c hc
 there i hi:=fj.trans (fun s hs=>fj.congr (fun c=>by rw[Qq]) (fj.row (a:=fun i=>l (lO k t i)) (i:=lO k t s) (wo (by lia) ht hs))) (E.there i hi)
 back i hi:=E.back _ (wo (by lia) ht hi)
theorem my.step (E : my a m k P p l d) (hk : k < m) (h0 : d' ≠ 0) (unit' : ∀ i, i < m → ∀ j, j < k + 1 → l' i (if j = k then P else p j) = if i = j then d' else 0)
    (hl : ∀ i, i < m → ∃ β γ : Rat, β ≠ 0 /\ (i = k → γ = 0) /\ ∀ c, l' i c = β * l i c + γ * l k c) : my a m (k + 1) (P + 1) (fun j => if j = k then P else p j) l' d' where
  km := hk
  d0 := h0
  unit := unit'
  inc i j hij hj := by
    by_cases e : j = k
    · rw [if_pos e, if_neg (by lia)];exact E.low i (by lia)
    · rw [if_neg e, if_neg (by lia)];exact E.inc i j hij (by lia)
  low j hj := by
    by_cases e : j = k
    · rw [if_pos e]; lia
    · rw [if_neg e];exact Nat.lt_succ_of_lt (E.low j (by lia))
  zero i h1 h2 c hc := by
    by_cases e : c = P
    · have := unit' i h2 k (by lia);rw [if_pos rfl, if_neg (by lia)] at this;rw [e]; exact this
    · obtain ⟨β, γ, _, _, q⟩ := hl i h2;rw [q c, E.zero i (by lia) h2 c (by lia), E.zero k (ar _) hk c (by lia)];grind
  lead j hj c hc := by
    have km := E.km;obtain ⟨β, γ, _, _, q⟩ := hl j (by lia);by_cases e : j = k
    · rw [if_pos e] at hc;rw [q c, e, E.zero k (ar _) hk c hc];grind
    · rw [if_neg e] at hc;have := E.low j (by lia);rw [q c, E.lead j (by lia) c hc, E.zero k (ar _) hk c (by lia)];grind
  there i hi := by
    refine fj.trans (fun s hs => ?_) (E.there i hi);obtain ⟨β, γ, b0, _, q⟩ := hl s hs;obtain ⟨βk, γk, bk0, gk, qk⟩ := hl k hk;have g0 := gk rfl;refine fj.congr (fun c => ?_) (fj.lin (1 / β) (-(γ / β) / βk) (fj.row (a := l') hs) (fj.row (a := l') hk));rw [q c, qk c, g0];grind
  back i hi := by
    obtain ⟨β, γ, _, _, q⟩ := hl i hi;exact fj.congr (fun c => (q c).symm) (fj.lin β γ (E.back i hi) (E.back k hk))
theorem my.done (E:my a m k n p l d) (ha:∀i,i < m->∀c,n<=c->a i c=0):E3 m n a k p (fun i c=>l i c / d) where
 inc:=E.inc
 low:=E.low
 unit i hi j hj:=by
  have d0:=E.d0;have km:=E.km;rw[E.unit i (by lia) j hj]
  split
  ·grind
  ·grind
 lead i hi c hc:=by
  rw[E.lead i hi c hc];grind
 span i hi:=by
  have d0:=E.d0;refine fj.trans (fun s hs=>?_) (E.there i hi);by_cases z:s < k
  ·refine fj.congr (fun c=>?_) (fj.lin d 0 (fj.row (a:=fun i c=>l i c / d) z) (fj.row (a:=fun i c=>l i c / d) z));grind
  ·refine fj.zero fun c=>?_
   by_cases hc:c < n
   ·exact E.zero s (by lia) hs c hc
   ·obtain ⟨w,hw⟩:=E.back s hs;rw[hw c,dI fun t ht=>by rw[ha t ht c (by lia)];grind]
 back i hi:=by
  have km:=E.km;have d0:=E.d0;refine fj.congr (fun c=>?_) (fj.lin (1 / d) 0 (E.back i (by lia)) (E.back i (by lia)));grind
end
def eF (ls:List (List Int)) (i c:Nat):Rat:=(((ls.getD i []).getD c 0:Int):Rat)
def cD (rows:List (List Rat)) (i c:Nat):Rat:=(rows.getD i []).getD c 0
def sH (ls:List (List Int)) (k t:Nat):List (List Int):=(ls.set k (ls.getD t [])).set t (ls.getD k [])
def ER (ls:List (List Int)) (k c:Nat) (b:Int):List (List Int):=(ls.map fun zs=>List.zipWith (fun x y=>((ls.getD k []).getD c 0*x - zs.getD c 0*y).fdiv b) zs (ls.getD k [])).set k (ls.getD k [])
section
variable {ls ls0:List (List Int)} {k t n P c:Nat} {b d:Int} {ps:List Nat}
theorem uU {α:Type} {l:List α} {i j:Nat} {x e:α} (hi:i < l.length):(l.set i x).getD j e=if j=i then x else l.getD j e:=by
 rw[aa,aa,List.getElem?_set];by_cases h:j=i
 ·subst h;rw[if_pos rfl,if_pos hi,if_pos rfl];rfl
 ·rw[if_neg (fun z=>h z.symm),if_neg h]
theorem yz:(sH ls k t).length=ls.length:=by unfold sH;rw[fH,fH]
theorem Lz:(ER ls k c b).length=ls.length:=by unfold ER;rw[fH,ak]
theorem getD_in {α:Type} {l:List α} {i:Nat} {e:α} (h:i < l.length):l.getD i e∈l:=by
 rw[aa,ag h];exact aL h
theorem GY (w:∀zs∈ls,zs.length=n) (hk:k < ls.length) (ht:t < ls.length):∀zs∈sH ls k t,zs.length=n:=fun zs hz=>by
 unfold sH at hz;rcases cM hz with h | h
 ·rcases cM h with h | h
  ·exact w zs h
  ·rw[h];exact w _ (getD_in ht)
 ·rw[h];exact w _ (getD_in hk)
theorem Ie (w:∀zs∈ls,zs.length=n) (hk:k < ls.length):∀zs∈ER ls k c b,zs.length=n:=fun zs hz=>by
 unfold ER at hz;rcases cM hz with h | h
 ·obtain ⟨y,hy,rfl⟩:=aE.mp h;rw[bx,w y hy,w _ (getD_in hk)]
  lia
 ·rw[h];exact w _ (getD_in hk)
theorem xU (hk:k < ls.length) (ht:t < ls.length) (i c:Nat):eF (sH ls k t) i c=eF ls (lO k t i) c:=by
 unfold eF sH lO;rw[uU (by rw[fH];exact ht),uU hk];by_cases h1:i=t
 ·rw[if_pos h1];by_cases h2:i=k
  ·rw[if_pos h2,<- h1,<- h2]
  ·rw[if_neg h2,if_pos h1]
 ·rw[if_neg h1];by_cases h2:i=k
  ·rw[if_pos h2,if_pos h2]
  ·rw[if_neg h2,if_neg h2,if_neg h1]
theorem Br (w:∀zs∈ls,zs.length=n) {i c:Nat} (hc:n<=c):eF ls i c=0:=by
 unfold eF;by_cases h:i < ls.length
 ·have:=w _ (getD_in (e:=[]) h);rw[aa (l:=ls.getD i []),aN (by lia)];rfl
 ·rw[aa (l:=ls),aN (by lia)];rfl
theorem rV {x:Int} (h:(x:Rat)=0):x=0:=by
 have:(x:Rat)=((0:Int):Rat):=h;exact dM.mp this
theorem Gy {x b:Int} {q:Rat} (hb:b≠0) (hq:∃z:Int,q=(z:Rat)) (e:(x:Rat)=(b:Rat)*q):((x.fdiv b:Int):Rat)=q:=by
 obtain ⟨z,rfl⟩:=hq;rw[<- aT] at e;have:=dM.mp e;rw[this,Int.mul_fdiv_cancel_left _ hb]
theorem sU {W:Nat} {q:Rat} (h:Fr 1 W q):∃z:Int,q=(z:Rat):=by
 obtain ⟨z,e,_⟩:=h;exact ⟨z,by rw[<- e];simp⟩
theorem sT {W:Nat} {z:Int} (h:Fr 1 W (z:Rat)):z.natAbs<=W:=by
 obtain ⟨y,e,b⟩:=h;have:(z:Rat)=(y:Rat):=by rw[<- e];simp
 rw[dM.mp this];simpa using b
theorem Ll (w:∀zs∈ls,zs.length=n) (hk:k < ls.length) (hb:b≠0) {i:Nat} (hi:i < ls.length) (hz:∀c,∃z:Int,(eF ls k P*eF ls i c - eF ls i P*eF ls k c) / (b:Rat)=(z:Rat)) (c:Nat) :
  eF (ER ls k P b) i c=if i=k then eF ls k c else (eF ls k P*eF ls i c - eF ls i P*eF ls k c) / (b:Rat):=by
 by_cases e:i=k
 ·rw[if_pos e];unfold eF ER;rw[uU (by rw[ak];exact hk),if_pos e]
 ·rw[if_neg e];by_cases hc:c < n
  ·have hb':(b:Rat)≠0:=fun z=>hb (rV z)
   have lk:=w _ (getD_in (e:=[]) hk);have li:=w _ (getD_in (e:=[]) hi)
   have e1:eF (ER ls k P b) i c=(((((ls.getD k []).getD P 0*(ls.getD i []).getD c 0 - (ls.getD i []).getD P 0*(ls.getD k []).getD c 0).fdiv b:Int)):Rat):=by
    unfold ER;rw[eF,uU (by rw[ak];exact hk),if_neg e];rw[aa (l:=List.map _ ls),aG,ag hi];show ((((List.zipWith _ ls[i] (ls.getD k [])).getD c 0:Int)):Rat)=_
    have ei:ls.getD i []=ls[i]:=by rw[aa,ag hi];rfl
    rw[<- ei];rw[aa (l:=List.zipWith _ _ _),bY,aa (l:=ls.getD i []) (i:=c),aa (l:=ls.getD k []) (i:=c),ag (show c < (ls.getD i []).length by lia),ag (show c < (ls.getD k []).length by lia)];rfl
   rw[e1];refine Gy hb (hz c) ?_;rw[Rat.intCast_sub,aT,aT];show _=(b:Rat)*((eF ls k P*eF ls i c - eF ls i P*eF ls k c) / (b:Rat))
   show eF ls k P*eF ls i c - eF ls i P*eF ls k c=_
   grind
  ·rw[Br (Ie w hk) (show n<=c by lia),Br w (i:=i) (show n<=c by lia),Br w (i:=k) (show n<=c by lia)];grind
end
section
variable {m k n P:Nat} {a l l2:Nat->Nat->Rat} {pm p p2:Nat->Nat} {d:Rat}
theorem yw.congr (B:yw a m k pm p l d) (hp:∀j,j < k->p2 j=p j) (hl:∀i,i < m->∀c,l2 i c=l i c):yw a m k pm p2 l2 d where
 inj:=B.inj
 rng:=B.rng
 km:=B.km
 d0:=B.d0
 det:=by rw[B.det,cw_congr (f:=fun j r=>a r (p j)) (g:=fun j r=>a r (p2 j)) fun j hj=>by rw[hp j hj]]
 eqs i hi c:=by
  have km:=B.km;rw[B.eqs i hi c,hl i hi c];congr 1;exact aV fun j hj=>by rw[hp j hj,hl j (by lia) c]
 unit i hi j hj:=by rw[hp j hj,hl i hi];exact B.unit i hi j hj
theorem fj.rows {x:Nat->Rat} (h:∀i,i < m->∀c,l2 i c=l i c) (hx:fj m l x):fj m l2 x:=by obtain ⟨w,hw⟩:=hx;exact ⟨w,fun c=>by rw[hw c];exact aV fun t ht=>by rw[h t ht c]⟩
theorem my.congr (E:my a m k P p l d) (hp:∀j,j < k->p2 j=p j) (hl:∀i,i < m->∀c,l2 i c=l i c):my a m k P p2 l2 d where
 km:=E.km
 d0:=E.d0
 unit i hi j hj:=by rw[hp j hj,hl i hi];exact E.unit i hi j hj
 inc i j hij hj:=by rw[hp i (by lia),hp j hj];exact E.inc i j hij hj
 low j hj:=by rw[hp j hj];exact E.low j hj
 zero i h1 h2 c hc:=by rw[hl i h2];exact E.zero i h1 h2 c hc
 lead j hj c hc:=by
  have km:=E.km;rw[hp j hj] at hc;rw[hl j (by lia)];exact E.lead j hj c hc
 there i hi:=(E.there i hi).rows hl
 back i hi:=(E.back i hi).congr fun c=>(hl i hi c).symm
theorem my.kP (E:my a m k P p l d):k<=P:=by
 have:∀j,j < k->j<=p j:=by
  intro j
  induction j with
  | zero=>intro _;exact bh _
  | succ j ih =>
   intro hj;have:=ih (by lia);have:=E.inc j (j+1) (by lia) hj
   lia
 rcases jJ k with z | z
 ·lia
 ·have h1:=this (k - 1) (by lia);have h2:=E.low (k - 1) (by lia)
  lia
end
structure CV (ls0:List (List Int)) (n P:Nat) (ls:List (List Int)) (ps:List Nat) (d:Int):Prop where
 len:ls.length=ls0.length
 wide:∀zs∈ls,zs.length=n
 bar:∃pm,yw (eF ls0) ls0.length ps.length pm (fun j=>ps.getD j 0) (eF ls) d
 el:my (eF ls0) ls0.length ps.length P (fun j=>ps.getD j 0) (eF ls) d
section
variable {ls0 ls:List (List Int)} {n P:Nat} {ps:List Nat} {d:Int}
theorem CV.start (w:∀zs∈ls0,zs.length=n):CV ls0 n 0 ls0 [] 1:=⟨rfl,w,⟨fun i=>i,yw.start fun _ _=>rfl⟩,my.start⟩
theorem CV.d0 (h:CV ls0 n P ls ps d):d≠0:=fun z=>h.el.d0 (by rw[z];rfl)
theorem CV.skip (h:CV ls0 n P ls ps d) (hz:∀i,ps.length<=i->i < ls.length->eF ls i P=0):CV ls0 n (P+1) ls ps d:=⟨h.len,h.wide,h.bar,h.el.skip fun i h1 h2=>hz i h1 (by rw[h.len];exact h2)⟩
theorem getD_snoc {l:List Nat} {x j:Nat} (hj:j < l.length+1):(l++[x]).getD j 0=if j=l.length then x else l.getD j 0:=by
 rw[aa,aa];by_cases e:j=l.length
 ·rw[if_pos e,e,be (ar _),il];rfl
 ·rw[if_neg e,bG (by lia)]
theorem CV.int {W:Nat} (h:CV ls0 n P ls ps d) (hW:1<=W) (h0:∀i,i < ls0.length->∀c,Fr 1 W (eF ls0 i c)) {t:Nat} (ht:ps.length<=t) (ht2:t < ls.length) (hne:eF ls t P≠0) :
  ∀i,i < ls.length->i≠ps.length->∀c,∃z:Int,(eF (sH ls ps.length t) ps.length P*eF (sH ls ps.length t) i c - eF (sH ls ps.length t) i P*eF (sH ls ps.length t) ps.length c) / (d:Rat)=(z:Rat):=fun i hi ne c=>by
 obtain ⟨pm,B⟩:=h.bar;have hl:=h.len;have hk:ps.length < ls.length:=by lia
 have B1:=(B.swap ht (by lia)).congr (p2:=fun j=>ps.getD j 0) (l2:=eF (sH ls ps.length t)) (fun _ _=>rfl) (fun i _ c=>xU hk ht2 i c)
 have h1:eF (sH ls ps.length t) ps.length P≠0:=by
  rw[xU hk ht2];unfold lO;rw[if_pos rfl];exact hne
 have B2:=B1.step (c0:=P) (by lia) h1;have:=B2.fr (W:=W) (N:=ps.length+2) (by lia) hW h0 (i:=i) (c:=c) (by lia);rw[if_neg ne] at this;exact sU this
theorem CV.step {W:Nat} (h:CV ls0 n P ls ps d) (hW:1<=W) (h0:∀i,i < ls0.length->∀c,Fr 1 W (eF ls0 i c)) {t:Nat} (ht:ps.length<=t) (ht2:t < ls.length) (hne:eF ls t P≠0) :
  CV ls0 n (P+1) (ER (sH ls ps.length t) ps.length P d) (ps++[P]) (((ER (sH ls ps.length t) ps.length P d).getD ps.length []).getD P 0):=by
 obtain ⟨pm,B⟩:=h.bar;have hl:=h.len;have hk:ps.length < ls.length:=by lia
 have hz:=h.int hW h0 ht ht2 hne;have w1:=GY h.wide hk ht2;have k1:ps.length < (sH ls ps.length t).length:=by rw[yz];exact hk
 have B1:=(B.swap ht (by lia)).congr (p2:=fun j=>ps.getD j 0) (l2:=eF (sH ls ps.length t)) (fun _ _=>rfl) (fun i _ c=>xU hk ht2 i c);have E1:=(h.el.swap ht (by lia)).congr (p2:=fun j=>ps.getD j 0) (l2:=eF (sH ls ps.length t)) (fun _ _=>rfl) (fun i _ c=>xU hk ht2 i c)
 have h1:eF (sH ls ps.length t) ps.length P≠0:=by
  rw[xU hk ht2];unfold lO;rw[if_pos rfl];exact hne
 have B2:=B1.step (c0:=P) (by lia) h1
 have fc:∀i,i < ls0.length->∀c,eF (ER (sH ls ps.length t) ps.length P d) i c=if i=ps.length then eF (sH ls ps.length t) ps.length c else (eF (sH ls ps.length t) ps.length P*eF (sH ls ps.length t) i c - eF (sH ls ps.length t) i P*eF (sH ls ps.length t) ps.length c) / (d:Rat):=fun i hi c=>by
  by_cases e:i=ps.length
  ·rw[if_pos e];unfold eF ER;rw[uU (by rw[ak];exact k1),if_pos e]
  ·have:=Ll w1 k1 h.d0 (i:=i) (by rw[yz];lia) (hz i (by lia) e) c;rw[this]
 have ed:(((((ER (sH ls ps.length t) ps.length P d).getD ps.length []).getD P 0:Int)):Rat)=eF (sH ls ps.length t) ps.length P:=by
  have:=fc ps.length (by lia) P;rw[if_pos rfl] at this;exact this
 have lp:(ps++[P]).length=ps.length+1:=by rw[ay];rfl
 have hp:∀j,j < ps.length+1->(ps++[P]).getD j 0=if j=ps.length then P else ps.getD j 0:=fun j hj=>getD_snoc hj
 refine ⟨by rw[Lz,yz];exact hl,Ie w1 k1,⟨fun i=>pm (lO ps.length t i),?_⟩,?_⟩
 ·rw[ed,lp];exact B2.congr hp fc
 ·rw[ed,lp];refine my.congr (E1.step (d':=eF (sH ls ps.length t) ps.length P) (l':=fun i c=>if i=ps.length then eF (sH ls ps.length t) ps.length c else (eF (sH ls ps.length t) ps.length P*eF (sH ls ps.length t) i c - eF (sH ls ps.length t) i P*eF (sH ls ps.length t) ps.length c) / (d:Rat)) (by lia) h1 B2.unit fun i hi=>?_) hp fc;have d0:=h.el.d0;by_cases e:i=ps.length
  ·refine ⟨1,0,by decide,fun _=>rfl,fun c=>?_⟩;rw[if_pos e,e];grind
  ·refine ⟨eF (sH ls ps.length t) ps.length P / (d:Rat),-(eF (sH ls ps.length t) i P) / (d:Rat),?_,fun z=>absurd z e,fun c=>?_⟩
   ·intro z;apply h1;grind
   ·rw[if_neg e];grind
theorem CV.sz {W r:Nat} (h:CV ls0 n P ls ps d) (hW:1<=W) (h0:∀i,i < ls0.length->∀c,Fr 1 W (eF ls0 i c)) (hP:P<=n) (hr:min ls0.length n<=r) (r15:r<=15):(d.natAbs<=(16*W)^r)/\∀zs∈ls,∀z∈zs,z.natAbs<=(16*W)^r:=by
 obtain ⟨pm,B⟩:=h.bar;have kP:=h.el.kP;have km:=B.km;have hl:=h.len;have mono:∀{s t:Nat},s<=t->(16*W)^s<=(16*W)^t:=fun hs=>ao (bE (by decide) hW) hs
 refine ⟨ah (sT (B.dfr (W:=W) (N:=16) (by lia) h0)) (mono (by lia)),fun zs hz z hz'=>?_⟩;obtain ⟨i,hi,rfl⟩:=b9 hz;obtain ⟨c,hc,rfl⟩:=b9 hz';have hw:=h.wide _ (aL hi)
 have ez:eF ls i c=(((ls[i])[c]:Int):Rat):=by
  unfold eF;rw[aa (l:=ls),ag hi];show ((ls[i].getD c 0:Int):Rat)=_
  rw[aa,ag hc];rfl
 by_cases hk:i < ps.length
 ·have:Fr 1 ((16*W)^ps.length) (eF ls i c):=by
   have hd:=B.d0;rw[B.old hk]
   have:=zv (W:=W) (N:=16) (rs:=oa pm ps.length) (vs:=Fb (fun j r=>eF ls0 r (ps.getD j 0)) i ps.length++(fun r=>eF ls0 r c) :: ju (fun j r=>eF ls0 r (ps.getD j 0)) i) (by
    have:=congrArg List.length (cw_split (v:=fun j r=>eF ls0 r (ps.getD j 0)) hk);rw[ay,aZ,cw_len] at this;rw[ay,aZ]
    lia) (by
    intro v hv r hr
    have hr':∀c,Fr 1 W (eF ls0 r c):=fun c=>by
     obtain ⟨t,ht,rfl⟩:=nO hr;exact h0 _ (B.rng t (by lia)) c
    rcases ax.mp hv with hv | hv
    ·obtain ⟨t,_,rfl⟩:=CC hv;exact hr' _
    ·rcases aJ.mp hv with rfl | hv
     ·exact hr' _
     ·obtain ⟨t,_,rfl⟩:=cw_in hv;exact hr' _)
   rwa [uG] at this
  rw[ez] at this;exact ah (sT this) (mono (by lia))
 ·by_cases hn:ps.length < n
  ·have:=B.fr (W:=W) (N:=16) (by lia) hW h0 (i:=i) (c:=c) (by lia);rw[ez] at this;exact ah (sT this) (mono (by lia))
  ·have:=h.el.zero i (by lia) (by lia) c (by lia);rw[ez] at this;rw[rV this];exact bh _
end
def Tp (M W:Nat) (q:Rat):Prop:=∃z:Int,q*(M:Rat)=(z:Rat)/\z.natAbs<=W
theorem Tp.of {M V W:Nat} {q:Rat} (h:Fr M V q) (hW:V*M<=W):Tp M W q:=by obtain ⟨z,a,b⟩:=h;exact ⟨z,a,ah b hW⟩
theorem Tp.mono {M W W':Nat} {q:Rat} (h:Tp M W q) (hW:W<=W'):Tp M W' q:=by obtain ⟨z,a,b⟩:=h;exact ⟨z,a,ah b hW⟩
theorem Tp.fr {M W:Nat} {q:Rat} (h:Tp M W q) (h0:0 < M):Fr M W q:=by obtain ⟨z,a,b⟩:=h;exact ⟨z,a,ah b (dD _ h0)⟩
def EZ (rows:List (List Rat)) (n w:Nat):Prop:=∃M W:Nat,0 < M/\M<=2^4300/\1<=W/\W<=2^w/\(∀xs∈rows,∀x∈xs,Tp M W x)/\w<=4300/\min rows.length n<=15/\min rows.length n*(w+4)<=8900
def iu (xs:List Rat):List Int:=fL (xs.map nm) (iq (xs.map nm))
theorem xt {xs:List Rat}:(iu xs).length=xs.length:=by unfold iu fL;rw[ak,ak]
theorem rY {xs:List Rat}:0 < iq (xs.map nm):=Bm (by decide) fun b hb=>by
 obtain ⟨n,hn,rfl⟩:=aE.mp hb;obtain ⟨x,_,rfl⟩:=aE.mp hn;exact kQ x
theorem LZ {xs:List Rat} {c:Nat}:(((iu xs).getD c 0:Int):Rat)=xs.getD c 0*((iq (xs.map nm):Int):Rat):=by
 unfold iu fL;rw[aa,aa,aG,aG];cases e:xs[c]? with
 | none=>show ((0:Int):Rat)=0*_;rw[m8];rfl
 | some x=>exact uz (rZ (aE.mpr ⟨x,aA e,rfl⟩))
section
variable {rows:List (List Rat)} {n w i c:Nat} {xs:List Rat}
theorem Ar (hi:i < rows.length):eF (rows.map iu) i c=((iq ((rows.getD i []).map nm):Int):Rat)*cD rows i c:=by
 unfold eF cD
 have e:(rows.map iu).getD i []=iu (rows.getD i []):=by
  rw[aa,aa,aG,ag hi];rfl
 rw[e,LZ,dw]
theorem Gx (hw:∀xs∈rows,xs.length=n) (hc:n<=c):cD rows i c=0:=by
 unfold cD;by_cases h:i < rows.length
 ·have:=hw _ (getD_in (e:=[]) h);rw[aa (l:=rows.getD i []),aN (by lia)];rfl
 ·rw[aa (l:=rows),aN (by lia)];rfl
theorem GS (i:Nat) (hi:i < rows.length):fj rows.length (eF (rows.map iu)) (cD rows i):=by
 have h0:((iq ((rows.getD i []).map nm):Int):Rat)≠0:=fun z=>by
  have:=rY (xs:=rows.getD i []);have:=rV z
  lia
 refine fj.congr (fun c=>?_) (fj.lin (1 / ((iq ((rows.getD i []).map nm):Int):Rat)) 0 (fj.row (a:=eF (rows.map iu)) hi) (fj.row (a:=eF (rows.map iu)) hi));rw[Ar hi];grind
theorem GR (i:Nat) (hi:i < rows.length):fj rows.length (cD rows) (eF (rows.map iu) i):=by
 refine fj.congr (fun c=>?_) (fj.lin ((iq ((rows.getD i []).map nm):Int):Rat) 0 (fj.row (a:=cD rows) hi) (fj.row (a:=cD rows) hi));rw[Ar hi];grind
theorem Av {M W:Nat} {x:Rat} (h:Tp M W x):(nm x).2∣(M:Int):=by
 obtain ⟨z,e,b⟩:=h
 exact Fr.den (V:=z.natAbs) (M:=M) ⟨z,e,by
  rcases jJ M with h | h
  ·subst h;have:(z:Rat)=0:=by rw[<- e];simp
   rw[rV this];simp
  ·exact dD _ h⟩
theorem Au {M W:Nat} {x:Rat} (h:Tp M W x) (h0:0 < M) {B:Int} (hB:0 < B) (d1:(nm x).2∣B) (d2:B∣(M:Int)):∃t:Int,x*(B:Rat)=(t:Rat)/\t.natAbs<=W:=by
 obtain ⟨z,e,b⟩:=h;obtain ⟨s,es⟩:=d2;refine ⟨(nm x).1*(B / (nm x).2),(uz d1).symm,?_⟩
 have s0:0 < s:=by
  rcases Int.lt_trichotomy s 0 with h | h | h
  ·have:=Int.mul_neg_of_pos_of_neg hB h
   lia
  ·rw[h] at es;lia
  ·exact h
 have e2:(((nm x).1*(B / (nm x).2)*s:Int):Rat)=(z:Rat):=by
  rw[aT,uz d1,<- e,<- aP,es,aT];grind
 have e3:=dM.mp e2;have:((nm x).1*(B / (nm x).2)).natAbs*s.natAbs=z.natAbs:=by rw[<- cH,e3]
 have h1:1<=s.natAbs:=by lia
 have:=dD ((nm x).1*(B / (nm x).2)).natAbs h1
 lia
theorem Af {M W:Nat} (h0:0 < M) (h:∀x∈xs,Tp M W x):iq (xs.map nm)∣(M:Int):=z8 (by decide) (Int.one_dvd _) fun b hb=>by
 obtain ⟨n,hn,rfl⟩:=aE.mp hb;obtain ⟨x,hx,rfl⟩:=aE.mp hn;exact ⟨kQ x,Av (h x hx)⟩
theorem EZ.rowM (F:EZ rows n w) (hx:xs∈rows):∃M,GH M (xs.map nm):=by
 obtain ⟨M,W,h0,h1,hW,h2,h3,h4,_⟩:=F;refine ⟨M,by lia,?_,fun y hy=>?_⟩
 ·show ((M:Nat):Int).natAbs < 2^4400
  rw[bO];exact bC h1 (dX (by decide) (by decide))
 ·obtain ⟨x,hx',rfl⟩:=aE.mp hy;have t:=h3 xs hx x hx';refine ⟨kQ x,Av t,?_⟩;obtain ⟨s,e,b⟩:=Au t h0 (kQ x) (Int.dvd_refl _) (Av t);have e2:(((nm x).1:Int):Rat)=(s:Rat):=by rw[<- e];exact sO x
  rw[dM.mp e2];exact bC (ah b h2) (dX (by decide) (by lia))
theorem EZ.ent (F:EZ rows n w):∃W:Nat,1<=W/\W<=2^w/\∀i,i < (rows.map iu).length->∀c,Fr 1 W (eF (rows.map iu) i c):=by
 obtain ⟨M,W,h0,h1,hW,h2,h3,h4,_⟩:=F;refine ⟨W,hW,h2,fun i hi c=>?_⟩;rw[ak] at hi;have hx:=getD_in (e:=[]) hi;rw[Ar hi];unfold cD;generalize rows.getD i []=xs at hx ⊢;by_cases hc:c < xs.length
 ·have t:=h3 xs hx _ (getD_in (e:=0) hc);obtain ⟨s,e,b⟩:=Au t h0 (rY (xs:=xs)) (rZ (aE.mpr ⟨_,getD_in (e:=0) hc,rfl⟩)) (Af h0 (h3 xs hx));rw[dw,e];exact Fr.int b
 ·rw[aa,aN (by lia)];show Fr 1 W (_*0)
  rw[jI];exact Fr.zero
end
def cC (rows:List (List Rat)) (n:Nat) (R:List (List Rat)) (ps:List Nat):Prop:=R.length=ps.length/\(∀xs∈R,xs.length=n)/\E3 rows.length n (cD rows) ps.length (fun j=>ps.getD j 0) (cD R)
structure Sd (rows:List (List Rat)) (n w:Nat) (R:List (List Rat)) (ps:List Nat) (d:Int) (ls:List (List Int)):Prop where
 rr:cC rows n R ps
 d0:d≠0
 len:ls.length=ps.length
 wide:∀zs∈ls,zs.length=n
 val:∀i c,eF ls i c=(d:Rat)*cD R i c
 dsz:d.natAbs<=2^(min rows.length n*(w+4))
 zsz:∀zs∈ls,∀z∈zs,z.natAbs<=2^(min rows.length n*(w+4))
 tp:∀xs∈R,∀x∈xs,Tp d.natAbs (2^(min rows.length n*(w+4))) x
 km:ps.length<=rows.length
theorem E3.congrR {m n k:Nat} {a R R2:Nat->Nat->Rat} {p:Nat->Nat} (h:E3 m n a k p R) (hr:∀i,i < k->∀c,R2 i c=R i c):E3 m n a k p R2 :=
 ⟨h.inc,h.low,fun i hi j hj=>by rw[hr i hi];exact h.unit i hi j hj,fun i hi c hc=>by rw[hr i hi];exact h.lead i hi c hc,fun i hi=>(h.span i hi).rows hr,fun i hi=>(h.back i hi).congr fun c=>(hr i hi c).symm⟩
theorem E3.other {m m' n k:Nat} {a a' R:Nat->Nat->Rat} {p:Nat->Nat} (h:E3 m n a k p R) (s1:∀i,i < m->fj m' a' (a i)) (s2:∀i,i < m'->fj m a (a' i)):E3 m' n a' k p R :=
 ⟨h.inc,h.low,h.unit,h.lead,fun i hi=>fj.trans h.span (s2 i hi),fun i hi=>fj.trans s1 (h.back i hi)⟩
theorem yM {W w r : Nat} (h : W ≤ 2 ^ w) : (16 * W) ^ r ≤ 2 ^ (r * (w + 4)) := by
  calc (16 * W) ^ r ≤ (2 ^ (w + 4)) ^ r := eG (by rw [aK]; lia) _
    _ = 2 ^ (r * (w + 4)) := by rw [<- pS, cb]
theorem CV.done {rows:List (List Rat)} {n w:Nat} {ls:List (List Int)} {ps:List Nat} {d:Int} (h:CV (rows.map iu) n n ls ps d) (hw:∀xs∈rows,xs.length=n) (F:EZ rows n w) :
  ∃R,Sd rows n w R ps d (ls.take ps.length):=by
 obtain ⟨W,hW,W2,ent⟩:=F.ent;obtain ⟨_,_,_,_,_,_,_,_,r15,_⟩:=F;have hl:=h.len;have d0:=h.d0;have d0':(d:Rat)≠0:=fun z=>d0 (rV z)
 have km:=h.el.km;have hm:(rows.map iu).length=rows.length:=ak ..;obtain ⟨s1,s2⟩:=h.sz (r:=min rows.length n) hW ent (ar _) (by rw[hm];exact ar _) r15;have s2':∀zs∈ls,∀z∈zs,z.natAbs<=2^(min rows.length n*(w+4)):=fun zs hz z hz'=>ah (s2 zs hz z hz') (yM W2)
 have er:∀i c,cD ((ls.take ps.length).map fun zs=>zs.map fun (z:Int)=>(z:Rat) / (d:Rat)) i c=eF (ls.take ps.length) i c / (d:Rat):=fun i c=>by
  unfold cD eF;rw[aa (l:=List.map _ _),aG,aa (l:=List.take _ _)];cases e:(ls.take ps.length)[i]? with
  | none=>show (0:Rat)=((0:Int):Rat) / _;grind
  | some zs =>
   show (zs.map fun (z:Int)=>(z:Rat) / (d:Rat)).getD c 0=((zs.getD c 0:Int):Rat) / (d:Rat)
   rw[aa,aa,aG];cases e2:zs[c]? with
   | none=>show (0:Rat)=((0:Int):Rat) / _;grind
   | some z=>rfl
 have et:∀i,i < ps.length->∀c,eF (ls.take ps.length) i c=eF ls i c:=fun i hi c=>by
  unfold eF;rw[aa (l:=List.take _ _),yy hi,<- aa]
 have RR:=(h.el.done fun i hi c hc=>Br (n:=n) (fun zs hz=>by
  obtain ⟨xs,hx,rfl⟩:=aE.mp hz;rw[xt];exact hw xs hx) hc).congrR (R2:=cD ((ls.take ps.length).map fun zs=>zs.map fun (z:Int)=>(z:Rat) / (d:Rat))) fun i hi c=>by rw[er,et i hi]
 rw[hm] at RR;refine ⟨(ls.take ps.length).map fun zs=>zs.map fun (z:Int)=>(z:Rat) / (d:Rat),⟨by rw[ak,cO];lia,fun xs hx=>?_,RR.other GR GS⟩,d0,by rw[cO];lia,fun zs hz=>h.wide zs (cA hz),fun i c=>?_,ah s1 (yM W2),fun zs hz=>s2' zs (cA hz),fun xs hx x hx'=>?_,by lia⟩
 ·obtain ⟨zs,hz,rfl⟩:=aE.mp hx;rw[ak];exact h.wide zs (cA hz)
 ·rw[er];grind
 ·obtain ⟨zs,hz,rfl⟩:=aE.mp hx;obtain ⟨z,hz',rfl⟩:=aE.mp hx';have b:=s2' zs (cA hz) z hz';rcases E9 d with e | e
  ·refine ⟨z,?_,b⟩;have:((d.natAbs:Nat):Rat)=(d:Rat):=by rw[<- aP,<- e]
   rw[this];grind
  ·refine ⟨-z,?_,by rw[rh];exact b⟩;have:((d.natAbs:Nat):Rat)=-(d:Rat):=by rw[<- aP,<- dq];congr 1;lia
   rw[this,dq];grind
theorem Lj {R R':List (List Rat)} {n:Nat} (hl:R.length=R'.length) (w1:∀xs∈R,xs.length=n) (w2:∀xs∈R',xs.length=n) (h:∀i,i < R.length->∀c,cD R i c=cD R' i c):R=R':=by
 apply dY hl;intro i h1 h2;apply dY (by rw[w1 _ (aL h1),w2 _ (aL h2)]);intro c h3 h4;have:=h i h1 c;unfold cD at this;rw[aa (l:=R),aa (l:=R'),ag h1,ag h2] at this;have this:(R[i]).getD c 0=(R'[i]).getD c 0:=this;rw[aa,aa,ag h3,ag h4] at this;exact this
theorem cC.uniq {rows rows' R R':List (List Rat)} {n:Nat} {ps ps':List Nat} (h:cC rows n R ps) (h':cC rows' n R' ps') (s1:∀i,i < rows.length->fj rows'.length (cD rows') (cD rows i)) (s2:∀i,i < rows'.length->fj rows.length (cD rows) (cD rows' i)):R=R'/\ps=ps':=by
 obtain ⟨l1,w1,r1⟩:=h;obtain ⟨l2,w2,r2⟩:=h';obtain ⟨ek,ep,eR⟩:=r1.uniq r2 s1 s2;refine ⟨Lj (by lia) w1 w2 fun i hi c=>eR i (by lia) c,?_⟩;apply dY ek;intro j h1 h2;have:=ep j h1;rw[aa,aa,ag h1,ag h2] at this;exact this
theorem cC.same {rows R R':List (List Rat)} {n:Nat} {ps ps':List Nat} (h:cC rows n R ps) (h':cC rows n R' ps'):R=R'/\ps=ps':=h.uniq h' (fun _ hi=>fj.row hi) (fun _ hi=>fj.row hi)
open PySem PySem.Spec PyProof.Rows
def Il (l:Addr) (H:Hp) (zs:List Int) (v:V):Prop:=∃q,v=V.ref q/\q≠l/\H q=some (.lst (zs.map V.int))
def vh (l:Addr) (H:Hp) (p:Addr) (ls:List (List Int)):Prop:=p≠l/\∃xs,H p=some (.lst xs)/\Paired (Il l H) ls xs
theorem Il.same {l:Addr} {H H':Hp} {zs:List Int} {v:V} (h:Il l H zs v) (e:aO H H'):Il l H' zs v:=by obtain ⟨q,a,n,b⟩:=h;exact ⟨q,a,n,e _ _ b⟩
theorem Il.upd {l:Addr} {H:Hp} {zs:List Int} {v:V} {o:HO} (h:Il l H zs v):Il l (upd H l o) zs v:=by obtain ⟨q,a,n,b⟩:=h;exact ⟨q,a,n,by rw[bA n];exact b⟩
theorem vh.upd {l:Addr} {H:Hp} {p:Addr} {ls:List (List Int)} {o:HO} (h:vh l H p ls):vh l (upd H l o) p ls:=by obtain ⟨n,xs,a,b⟩:=h;exact ⟨n,xs,by rw[bA n];exact a,Paired.imp' (fun _ _ z=>z.upd) b⟩
theorem ne_old {H:Hp} {l r:Addr} (h:H l≠none) (n:H r=none):r≠l:=fun z=>h (by rw[<- z];exact n)
theorem pB {α β:Type} {F:α->β->Prop}:∀{l1:List α} {l2:List β} (_:Paired F l1 l2) (i:Nat) {x:α} {y:β},F x y->Paired F (l1.set i x) (l2.set i y)
 | _,_,.nil,_,_,_,_=>.nil
 | _,_,.cons _ r,0,_,_,h=>.cons h r
 | _,_,.cons a r,i+1,_,_,h=>.cons a (pB r i h)
theorem JN {ls:List (List Int)} {i c:Nat} {zs:List Int} (h:ls[i]?=some zs):eF ls i c=((zs.getD c 0:Int):Rat):=by
 unfold eF;rw[aa (l:=ls),h];rfl
theorem RN {z:Int}:((z:Int):Rat)≠0↔z≠0:=⟨fun h e=>h (by rw[e];rfl),fun h e=>h (rV e)⟩
theorem Aq {zs:List Int} {c:Nat} (h:c < zs.length):GB (zs.map V.int) (c:Int)=some (V.int (zs.getD c 0)):=fO (by rw[aG,aa,ag h];rfl)
def IP:Sp:=fun vs H Q _=>∃(l p:Addr) (ls:List (List Int)) (b c:Nat),vs=[.ref p,.int b,.int c]/\vh l H p ls/\ls.length<=1000/\b<=1000/\(∀zs∈ls,c < zs.length)/\(∀t:Nat,b<=t->t < ls.length->eF ls t c≠0->Q (.int t) H)/\((∀t,b<=t->t < ls.length->eF ls t c=0)->Q .non H)
def Ei:Sp:=fun vs H Q _=>∃(l p:Addr) (ls:List (List Int)) (t k:Nat),vs=[.ref p,.int t,.int k]/\H l≠none/\vh l H p ls/\ls.length<=1000/\t < ls.length/\k < ls.length/\∀r H',H r=none->aO H H'->vh l H' r (sH ls k t)->Q (.ref r) H'
def IQ:Sp:=fun vs H Q _=>∃(l p:Addr) (ls:List (List Int)) (k c n:Nat) (b:Int),vs=[.ref p,.int k,.int c,.int b]/\H l≠none/\vh l H p ls/\ls.length<=1000/\k < ls.length/\(∀zs∈ls,zs.length=n)/\n<=1000/\c < n/\b≠0/\Sz 8999 b/\(∀zs∈ls,∀z∈zs,Sz 8999 z)/\∀r H',H r=none->aO H H'->vh l H' r (ER ls k c b)->Q (.ref r) H'
theorem Kx (K:PySem.W.Frag) {X:Cx} {a b:Expr} {ta:TA} {p pos tpos:Pos} {elts:List Expr} {kk:Nat} (hg:Gl X "zip") (hm:X.mg "zip"=none) (ha:PA X [a,b] ta) (hK:X.K=K:=by rfl) (hs:starEach [a,b] X.env=[(false,eval a X.env),(false,eval b X.env)]:=by rfl) (hs2:starEach [b] X.env=[(false,eval b X.env)]:=by rfl) :
  PI X (.Tuple elts kk tpos) (.Call (.Name "zip" p) [a,b] [] pos) (Pk K ta):=by subst hK;exact vE hg hm ha hs hs2
def nE (ps:List Nat):List V:=ps.map fun (j:Nat)=>V.int (j:Int)
def IB (K:PySem.W.Frag):Sp:=fun vs H Q _=>∃(p:Addr) (n w:Nat) (H0:Hp) (rows:List (List Rat)),vs=[.ref p,.int n]/\bS K H0 H p rows/\rows.length<=100/\n<=100/\(∀xs∈rows,xs.length=n)/\EZ rows n w /\
 ∀t lp qp R ps d ls H',H' t=some (.tup [.ref lp,.ref qp])->H' qp=some (.lst (nE ps))->vh qp H' lp ls->aO H H'->Sd rows n w R ps d ls->Q (.ref t) H'
def Eg (K:PySem.W.Frag):Sp:=fun vs H Q _=>∃(p:Addr) (n w:Nat) (H0:Hp) (rows:List (List Rat)),vs=[.ref p,.int n]/\bS K H0 H p rows/\rows.length<=100/\n<=100/\(∀xs∈rows,xs.length=n)/\EZ rows n w /\
 ∀r R ps M H',H r=none->aO H H'->bS K H H' r R->cC rows n R ps->ps.length<=rows.length->0 < M->M<=2^(min rows.length n*(w+4))->(∀xs∈R,∀x∈xs,Tp M (2^(min rows.length n*(w+4))) x)->Q (.ref r) H'
def uZ (rows:List (List Rat)) (i:Nat):Rat:=((iq ((rows.getD i []).map nm):Int):Rat)
theorem Ae {rows:List (List Rat)} {i:Nat}:uZ rows i≠0:=fun z=>by
 have:=rY (xs:=rows.getD i []);have:=rV z
 lia
structure CW (rows:List (List Rat)) (n P:Nat) (rs:List (List Rat)) (ps:List Nat):Prop where
 len:rs.length=rows.length
 wide:∀xs∈rs,xs.length=n
 ex:∃pm l d,yw (eF (rows.map iu)) rows.length ps.length pm (fun j=>ps.getD j 0) l d/\my (eF (rows.map iu)) rows.length ps.length P (fun j=>ps.getD j 0) l d/\∀i,i < rows.length->∀c,cD rs i c=l i c / (d*if i < ps.length then 1 else uZ rows (pm i))
section
variable {rows rs rs':List (List Rat)} {n P w a:Nat} {ps:List Nat}
theorem KS {d:Rat} {k i j:Nat} (h:d≠0):d*(if i < k then 1 else uZ rows j)≠0:=by
 have:=Ae (rows:=rows) (i:=j)
 split <;> grind
theorem CW.start (hw:∀xs∈rows,xs.length=n):CW rows n 0 rows []:=⟨rfl,hw,fun i=>i,eF (rows.map iu),1,yw.start fun _ _=>rfl,my.start,fun i hi c=>by
 rw[Ar hi,if_neg (by show ¬i < 0;lia)];have:=Ae (rows:=rows) (i:=i);show cD rows i c=uZ rows i*cD rows i c / (1*uZ rows i)
 grind⟩
theorem CW.skip (h:CW rows n P rs ps) (hz:∀i,ps.length<=i->i < rs.length->cD rs i P=0):CW rows n (P+1) rs ps:=by
 obtain ⟨len,wide,pm,l,d,B,E,v⟩:=h;refine ⟨len,wide,pm,l,d,B,E.skip fun i h1 h2=>?_,v⟩;have:=v i h2 P;rw[hz i h1 (by lia)] at this;have ne:=KS (rows:=rows) (i:=i) (j:=pm i) (k:=ps.length) B.d0;generalize d*(if i < ps.length then 1 else uZ rows (pm i))=D at this ne;grind
theorem CW.step (h:CW rows n P rs ps) {t:Nat} (ht:ps.length<=t) (ht2:t < rs.length) (hne:cD rs t P≠0) (l':rs'.length=rows.length) (w':∀xs∈rs',xs.length=n)
  (hv:∀i,i < rows.length->∀c,cD rs' i c=if i=ps.length then 1 / cD rs t P*cD rs t c else cD rs (lO ps.length t i) c - cD rs (lO ps.length t i) P*(1 / cD rs t P*cD rs t c)):CW rows n (P+1) rs' (ps++[P]):=by
 obtain ⟨len,wide,pm,l,d,B,E,v⟩:=h;have hk:ps.length < rows.length:=by lia
 have B1:=B.swap ht (by lia);have E1:=E.swap ht (by lia);have d0:=B.d0
 have v1:∀i,i < rows.length->∀c,cD rs (lO ps.length t i) c=l (lO ps.length t i) c / (d*if i < ps.length then 1 else uZ rows (pm (lO ps.length t i))):=fun i hi c=>by
  rw[v _ (wo hk (by lia) hi) c];by_cases z:i < ps.length
  ·rw[w5 ht z,if_pos z]
  ·rw[if_neg z,if_neg (by have:=xu ht (show ps.length<=i by lia);lia)]
 have sk:lO ps.length t ps.length=t:=by unfold lO;rw[if_pos rfl]
 have vt:∀c,cD rs t c=l (lO ps.length t ps.length) c / (d*uZ rows (pm (lO ps.length t ps.length))):=fun c=>by
  have:=v1 ps.length hk c;rw[if_neg (by lia),sk] at this;rw[sk];exact this
 have bt:=Ae (rows:=rows) (i:=pm (lO ps.length t ps.length));have h1:l (lO ps.length t ps.length) P≠0:=fun z=>hne (by rw[vt P,z];grind)
 have B2:=B1.step (c0:=P) hk h1;have lp:(ps++[P]).length=ps.length+1:=by rw[ay];rfl
 have hp:∀j,j < ps.length+1->(ps++[P]).getD j 0=if j=ps.length then P else ps.getD j 0:=fun j hj=>getD_snoc hj
 refine ⟨l',w',fun i=>pm (lO ps.length t i),_,_,by rw[lp];exact B2.congr (l2:=fun i c=>if i=ps.length then l (lO ps.length t ps.length) c else (l (lO ps.length t ps.length) P*l (lO ps.length t i) c - l (lO ps.length t i) P*l (lO ps.length t ps.length) c) / d) hp (fun _ _ _=>rfl),?_,fun i hi c=>?_⟩
 ·rw[lp];refine my.congr (E1.step (d':=l (lO ps.length t ps.length) P) (l':=fun i c=>if i=ps.length then l (lO ps.length t ps.length) c else (l (lO ps.length t ps.length) P*l (lO ps.length t i) c - l (lO ps.length t i) P*l (lO ps.length t ps.length) c) / d) hk h1 B2.unit fun i hi=>?_) hp (fun _ _ _=>rfl);by_cases e:i=ps.length
  ·refine ⟨1,0,by decide,fun _=>rfl,fun c=>?_⟩;rw[if_pos e,e];grind
  ·refine ⟨l (lO ps.length t ps.length) P / d,-(l (lO ps.length t i) P) / d,?_,fun z=>absurd z e,fun c=>?_⟩
   ·intro z;apply h1;grind
   ·rw[if_neg e];grind
 ·rw[hv i hi c,lp,vt c,vt P];by_cases e:i=ps.length
  ·rw[if_pos e,if_pos e,if_pos (by lia)];grind
  ·rw[if_neg e,if_neg e,v1 i hi c,v1 i hi P];have ne:=KS (rows:=rows) (i:=i) (j:=pm (lO ps.length t i)) (k:=ps.length) d0;by_cases z:i < ps.length
   ·rw[if_pos z,if_pos (by lia)];grind
   ·have bi:=Ae (rows:=rows) (i:=pm (lO ps.length t i));rw[if_neg z,if_neg (by lia)];grind
def N5 (rows:List (List Rat)) (n w a:Nat):Prop:=∃M W:Nat,0 < M/\M<=2^a/\1<=W/\W<=2^w/\(∀xs∈rows,∀x∈xs,Tp M W x)/\min rows.length n<=15/\2*(min rows.length n*(w+4)+a)<=3990
theorem N5.ent (F:N5 rows n w a):∃W:Nat,1<=W/\W<=2^w/\∀i,i < rows.length->∀c,Fr 1 W (eF (rows.map iu) i c):=by
 obtain ⟨M,W,h0,h1,hW,h2,h3,_⟩:=F;refine ⟨W,hW,h2,fun i hi c=>?_⟩;have hx:=getD_in (e:=[]) hi;rw[Ar hi];unfold cD;generalize rows.getD i []=xs at hx ⊢;by_cases hc:c < xs.length
 ·have t:=h3 xs hx _ (getD_in (e:=0) hc);obtain ⟨s,e,b⟩:=Au t h0 (rY (xs:=xs)) (rZ (aE.mpr ⟨_,getD_in (e:=0) hc,rfl⟩)) (Af h0 (h3 xs hx));rw[dw,e];exact Fr.int b
 ·rw[aa,aN (by lia)];show Fr 1 W (_*0)
  rw[jI];exact Fr.zero
theorem N5.bot (F:N5 rows n w a) {i:Nat} (hi:i < rows.length):∃b:Nat,0 < b/\b<=2^a/\uZ rows i=(b:Rat):=by
 obtain ⟨M,W,h0,h1,hW,h2,h3,_⟩:=F;have hx:=getD_in (e:=[]) hi;have p:=rY (xs:=rows.getD i []);have dv:=Af h0 (h3 _ hx);refine ⟨(iq ((rows.getD i []).map nm)).natAbs,by lia,ah (kB h0 ?_) h1,?_⟩
 ·have:=eT.mpr dv;rwa [bO] at this
 ·unfold uZ;rw[<- aP];congr 1
  lia
theorem Oh {l D:Rat} {z y:Int} {W:Nat} (hl:l=(z:Rat)) (hD:D=(y:Rat)) (h0:D≠0) (hz:z.natAbs<=W):Tp y.natAbs W (l / D):=by
 rcases E9 y with e | e
 ·refine ⟨z,?_,hz⟩;have:((y.natAbs:Nat):Rat)=D:=by rw[<- aP,<- e,hD]
  rw[this,hl];grind
 ·refine ⟨-z,?_,by rw[rh];exact hz⟩;have:((y.natAbs:Nat):Rat)=-D:=by rw[<- aP,hD,<- dq];congr 1;lia
  rw[this,hl,dq];grind
theorem CW.sz (h:CW rows n P rs ps) (F:N5 rows n w a) (hP:P<=n) {i:Nat} (hi:i < rows.length):∃D:Nat,0 < D/\D<=2^(min rows.length n*(w+4)+a)/\∀c,Tp D (2^(min rows.length n*(w+4))) (cD rs i c):=by
 obtain ⟨len,wide,pm,l,d,B,E,v⟩:=h;obtain ⟨W,hW,W2,ent⟩:=F.ent;obtain ⟨_,_,_,_,_,_,_,r15,_⟩:=id F;have kP:=E.kP;have km:=B.km;have mono:∀{s t:Nat},s<=t->(16*W)^s<=(16*W)^t:=fun hs=>ao (bE (by decide) hW) hs
 obtain ⟨y,ey⟩:=sU (B.dfr (W:=W) (N:=16) (by lia) ent);have hy:=B.dfr (W:=W) (N:=16) (by lia) ent;rw[ey] at hy;have yb:y.natAbs<=2^(min rows.length n*(w+4)):=ah (sT hy) (ah (mono (show ps.length<=min rows.length n by lia)) (yM W2));have y0:y≠0:=fun z=>B.d0 (by rw[ey,z];rfl)
 have lb:∀c,∃z:Int,l i c=(z:Rat)/\z.natAbs<=2^(min rows.length n*(w+4)):=fun c=>by
  by_cases hk:i < ps.length
  ·have f:Fr 1 ((16*W)^ps.length) (l i c):=by
    rw[B.old hk]
    have:=zv (W:=W) (N:=16) (rs:=oa pm ps.length) (vs:=Fb (fun j r=>eF (rows.map iu) r (ps.getD j 0)) i ps.length++(fun r=>eF (rows.map iu) r c) :: ju (fun j r=>eF (rows.map iu) r (ps.getD j 0)) i) (by
     have:=congrArg List.length (cw_split (v:=fun j r=>eF (rows.map iu) r (ps.getD j 0)) hk);rw[ay,aZ,cw_len] at this;rw[ay,aZ]
     lia) (by
     intro v hv r hr
     have hr':∀c,Fr 1 W (eF (rows.map iu) r c):=fun c=>by
      obtain ⟨t,ht,rfl⟩:=nO hr;exact ent _ (B.rng t (by lia)) c
     rcases ax.mp hv with hv | hv
     ·obtain ⟨t,_,rfl⟩:=CC hv;exact hr' _
     ·rcases aJ.mp hv with rfl | hv
      ·exact hr' _
      ·obtain ⟨t,_,rfl⟩:=cw_in hv;exact hr' _)
    rwa [uG] at this
   obtain ⟨z,ez⟩:=sU f;rw[ez] at f;exact ⟨z,ez,ah (sT f) (ah (mono (by lia)) (yM W2))⟩
  ·by_cases hn:ps.length < n
   ·have f:=B.fr (W:=W) (N:=16) (by lia) hW ent (i:=i) (c:=c) hi;obtain ⟨z,ez⟩:=sU f;rw[ez] at f;exact ⟨z,ez,ah (sT f) (ah (mono (by lia)) (yM W2))⟩
   ·refine ⟨0,?_,bh _⟩;by_cases hc:c < n
    ·rw[E.zero i (by lia) hi c (by lia)];rfl
    ·have:=v i hi c;rw[Gx wide (by lia)] at this;have ne:=KS (rows:=rows) (i:=i) (j:=pm i) (k:=ps.length) B.d0;generalize d*(if i < ps.length then 1 else uZ rows (pm i))=D at this ne;show l i c=0
     grind
 obtain ⟨b,b0,b1,eb⟩:∃b:Nat,0 < b/\b<=2^a/\(if i < ps.length then 1 else uZ rows (pm i))=(b:Rat):=by
  by_cases hk:i < ps.length
  ·exact ⟨1,by decide,dP,by rw[if_pos hk];rfl⟩
  ·obtain ⟨b,x1,x2,x3⟩:=F.bot (B.rng i hi);exact ⟨b,x1,x2,by rw[if_neg hk,x3]⟩
 have eD:d*(b:Rat)=((y*b:Int):Rat):=by rw[aT,ey,aP]
 refine ⟨(y*b).natAbs,?_,?_,fun c=>?_⟩
 ·rw[cH,bO];exact bE (by lia) b0
 ·rw[cH,bO,aK];exact aD yb b1
 ·obtain ⟨z,ez,bz⟩:=lb c;rw[v i hi c,eb];refine Oh ez eD (fun q=>?_) bz;rw[eD] at q;have:=rV q;rcases Int.mul_eq_zero.mp this with q | q
  ·exact y0 q
  ·lia
end
theorem Fl {M W:Nat} {x:Rat} (h:Tp M W x) (h0:0 < M) (h1:M<=2^3995) (h2:W<=2^3995):pQ x:=by
 refine ⟨?_,?_⟩
 ·obtain ⟨s,e,b⟩:=Au h h0 (kQ x) (Int.dvd_refl _) (Av h);have e2:(((nm x).1:Int):Rat)=(s:Rat):=by rw[<- e];exact sO x
  rw[dM.mp e2];exact bC (ah b h2) (dX (by decide) (by decide))
 ·have:=kB h0 (zJ.mp (Av h));show ((x.den:Nat):Int).natAbs < _
  rw[bO];exact bC (ah this h1) (dX (by decide) (by decide))
theorem Tp.mul {M W M' W':Nat} {x y:Rat} (h:Tp M W x) (h':Tp M' W' y):Tp (M*M') (W*W') (x*y):=by
 obtain ⟨z,e,b⟩:=h;obtain ⟨z',e',b'⟩:=h';refine ⟨z*z',?_,by rw[cH];exact aD b b'⟩;rw[aT,<- e,<- e',eJ];grind
def Cg (K:PySem.W.Frag):Sp:=fun vs H Q _=>∃(p q:Addr) (xs ys:List Rat),vs=[.ref p,.ref q]/\cK K H p xs/\cK K H q ys/\ys.length=xs.length/\xs.length<=1000/\(∀x∈xs,pQ x)/\(∀y∈ys,pQ y) /\
 ∀r H',H r=none->aO H H'->cK K H' r (List.zipWith (fun x y=>x - y) xs ys)->Q (.ref r) H'
theorem Po {xs ys:List Rat} {c:Nat} (h:xs.length=ys.length):(List.zipWith (fun x y=>x - y) xs ys).getD c 0=xs.getD c 0 - ys.getD c 0:=by
 rw[aa,aa,aa,bY];by_cases hc:c < xs.length
 ·rw[ag hc,ag (show c < ys.length by lia)];rfl
 ·rw[aN (by lia),aN (by lia)];show (0:Rat)=0 - 0
  grind
theorem Le {xs:List Rat} {c:Nat} {q:Rat}:(xs.map fun y=>q*y).getD c 0=q*xs.getD c 0:=by
 rw[aa,aa,aG];cases xs[c]? with
 | none=>show (0:Rat)=q*0;grind
 | some x=>rfl
theorem Ff {xs ys:List Rat} (h:ys.length=xs.length):List.zipWith (fun x y=>x - y) xs ys=(List.range xs.length).map fun i=>xs.getD i 0 - ys.getD i 0:=by
 apply ip;intro i;rw[bY,aG];by_cases hi:i < xs.length
 ·rw[cU hi,ag hi,ag (show i < ys.length by lia)];simp [aa,ag hi,ag (show i < ys.length by lia)]
 ·rw[aN (show (List.range xs.length).length<=i by simp;lia),aN (show xs.length<=i by lia)];rfl
theorem yT {K:PySem.W.Frag} {H0 H H':Hp} {q:Addr} {rows:List (List Rat)} {vs:List V} (pr:Paired (cZ K H0 H) rows vs) (s:aO H H') (n:H q=none) (g:H' q=some (.lst vs)):bS K H0 H' q rows :=
 ⟨vs,g,Paired.imp' (fun _ _ z=>z.same s) pr,fun z=>by
  obtain ⟨_,_,q',e,_,_,g',_⟩:=dS pr z;cases e;rw[n] at g';cases g'⟩
theorem cC.le {rows R:List (List Rat)} {n:Nat} {ps:List Nat} (h:cC rows n R ps):ps.length<=n:=by
 obtain ⟨_,_,rr⟩:=h;rcases dg n ps.length with z | z
 ·have inc:∀j,j < ps.length->j<=ps.getD j 0:=by
   intro j
   induction j with
   | zero=>intro _;exact bh _
   | succ j ih =>
    intro hj;have:=ih (by lia);have:=rr.inc j (j+1) (by lia) hj
    lia
  have h1:=inc (ps.length - 1) (by lia);have h2:=rr.low (ps.length - 1) (by lia)
  lia
 ·exact z
theorem Tp.zero {M W:Nat}:Tp M W 0:=⟨0,by simp,by simp⟩
theorem Tp.add {M W W':Nat} {x y:Rat} (h:Tp M W x) (h':Tp M W' y):Tp M (W+W') (x+y):=by
 obtain ⟨z,e,b⟩:=h;obtain ⟨z',e',b'⟩:=h';refine ⟨z+z',?_,ah (Int.natAbs_add_le _ _) (Nat.add_le_add b b')⟩;rw[BE,<- e,<- e'];grind
theorem Tp.sum {M W:Nat} {f:Nat->Rat}:∀{k:Nat},(∀j,j < k->Tp M W (f j))->Tp M (k*W) (bM k f)
 | 0,_=>Tp.zero
 | k+1,h=>by
  have:=(Tp.sum (k:=k) fun j hj=>h j (by lia)).add (h k (by lia));exact this.mono (by rw[df];exact ar _)
theorem mB {M W:Nat} {xs:List Rat} (h:∀x∈xs,Tp M W x) (c:Nat):Tp M W (xs.getD c 0):=by
 by_cases hc:c < xs.length
 ·exact h _ (getD_in hc)
 ·rw[aa,aN (by lia)];exact Tp.zero
theorem Qc {M W:Nat} {R:List (List Rat)} (h:∀xs∈R,∀x∈xs,Tp M W x) (i c:Nat):Tp M W (cD R i c):=by
 unfold cD;by_cases hi:i < R.length
 ·exact mB (h _ (getD_in hi)) c
 ·rw[aa (l:=R),aN (by lia)];exact Tp.zero
theorem xf {α β:Type} {F:α->β->Prop}:∀{l1:List α} {l2:List β},Paired F l1 l2->Paired F l1.reverse l2.reverse
 | _,_,.nil=>.nil
 | _,_,.cons a r=>by rw[yt,yt];exact cu (xf r) (.cons a .nil)
theorem K8 {j:Nat} {ps:List Nat}:RD (.int (j:Int)) (nE ps)=decide (j∈ps):=by
 unfold RD nE;rw[List.any_map,oU,List.any_eq_true,decide_eq_true_iff];constructor
 ·rintro ⟨x,hx,e⟩;have e:((x:Int) == (j:Int))=true:=e;have:(x:Int)=j:=by simpa using e
  have:x=j:=by lia
  rw[<- this];exact hx
 ·intro h;exact ⟨j,h,by show ((j:Int) == (j:Int))=true;simp⟩
theorem Jl {ps:List Nat}:(nE ps).all xV=true:=by
 unfold nE;rw[List.all_map];exact sG.mpr fun _ _=>rfl
theorem KI {ps:List Nat}:(nE ps).length=ps.length:=ak ..
theorem M8 {ps:List Nat} {i:Nat} {v:V} (h:(nE ps)[i]?=some v):∃j,ps[i]?=some j/\v=V.int (j:Int):=by
 unfold nE at h;rw[aG] at h;cases e:ps[i]? with
 | none=>rw[e] at h;cases h
 | some x=>rw[e] at h;exact ⟨x,rfl,(cv h).symm⟩
section
variable {R rows:List (List Rat)} {ps:List Nat} {n a j:Nat}
theorem cT:∀{xs ys:List Rat},xs.length=ys.length->b7 xs ys=bM xs.length fun c=>xs.getD c 0*ys.getD c 0:=by
 intro xs ys h
 have key:∀k,k<=xs.length->b7 (xs.take k) (ys.take k)=bM k fun c=>xs.getD c 0*ys.getD c 0:=by
  intro k
  induction k with
  | zero=>intro _;rfl
  | succ k ih =>
   intro hk;rw[CA (by lia) (by lia),ih (by lia)];rfl
 have:=key xs.length (ar _);rwa [aH (ar _),aH (by lia)] at this
end
theorem Nl {q:Rat} (h:q.den<=9):q.den∣2520:=by
 have:=q.den_pos;generalize q.den=d at h this;have:d=1\/d=2\/d=3\/d=4\/d=5\/d=6\/d=7\/d=8\/d=9:=by lia
 rcases this with rfl | rfl | rfl | rfl | rfl | rfl | rfl | rfl | rfl <;> decide
theorem DL {q:Rat} {M:Nat} (h:Dr 9 q) (hM:2520∣M):Fr M 9 q:=(Fr.own q h.1).dvd (yx (Nl h.2) hM)
def cY (rows:List (List Rat)) (due:List Rat):List (List Rat):=List.zipWith (fun row d=>row++[d]) rows due
def xy (R:List (List Rat)) (ps:List Nat) (n j:Nat):List Rat:=(List.range n).map fun c=>bM j fun i=>if ps.getD i 0=c then cD R i n else 0
def fY (R:List (List Rat)) (ps:List Nat) (n:Nat):List Rat:=xy R ps n ps.length
section
variable {rows R:List (List Rat)} {due xs:List Rat} {ps:List Nat} {n j:Nat}
theorem rA (h:due.length=rows.length):(cY rows due).length=rows.length:=by unfold cY;rw[bx];lia
theorem xT (h:∀xs∈rows,xs.length=n):∀xs∈cY rows due,xs.length=n+1:=fun xs hx=>by
 unfold cY at hx;obtain ⟨i,hi,rfl⟩:=b9 hx;rw[fq,ay,h _ (aL _)];rfl
theorem NR {i:Nat} {row:List Rat} {d:Rat} (h1:rows[i]?=some row) (h2:due[i]?=some d):(cY rows due)[i]?=some (row++[d]):=by
 unfold cY;rw[bY,h1,h2]
theorem zu (hd:due.length=rows.length) (hw:∀xs∈rows,xs.length=n) {i:Nat} (hi:i < rows.length):(∀c,c < n->cD (cY rows due) i c=cD rows i c)/\cD (cY rows due) i n=due.getD i 0:=by
 have e1:=ag hi;have e2:=ag (show i < due.length by lia);have ej:=NR e1 e2;have wi:=hw _ (aL hi);refine ⟨fun c hc=>?_,?_⟩
 ·unfold cD;rw[aa (l:=cY rows due),ej,aa (l:=rows),e1];show (rows[i]++[due[i]]).getD c 0=(rows[i]).getD c 0
  rw[aa,aa,bG (by lia)]
 ·unfold cD;rw[aa (l:=cY rows due),ej,aa (l:=due),e2];show (rows[i]++[due[i]]).getD n 0=due[i]
  rw[aa,be (by lia),wi,il];rfl
theorem lQ:(xy R ps n j).length=n:=by unfold xy;rw[ak,cm]
theorem Kg {c:Nat} (h:c < n):(xy R ps n j).getD c 0=bM j fun i=>if ps.getD i 0=c then cD R i n else 0:=by
 unfold xy;rw[aa,aG,cU h];rfl
theorem Mg:xy R ps n 0=List.replicate n 0:=by
 unfold xy;show (List.range n).map (fun _=>(0:Rat))=_
 rw[BF,cm]
theorem Mh {J:List (List Rat)} (RR:cC J (n+1) R ps) (hj:j < ps.length):(xy R ps n j).set (ps.getD j 0) (cD R j n)=xy R ps n (j+1):=by
 obtain ⟨_,_,rr⟩:=RR;apply dY (by rw[fH,lQ,lQ]);intro c h1 h2;rw[lQ] at h2;have e1:(xy R ps n j)[c]'(by rw[lQ];exact h2)=bM j fun i=>if ps.getD i 0=c then cD R i n else 0:=by simp only[xy,nk,Fd]
 have e2:(xy R ps n (j+1))[c]'(by rw[lQ];exact h2)=bM j (fun i=>if ps.getD i 0=c then cD R i n else 0)+if ps.getD j 0=c then cD R j n else 0:=by simp only[xy,nk,Fd];rfl
 rw[List.getElem_set,e2];by_cases q:ps.getD j 0=c
 ·rw[if_pos q,if_pos q,dI fun i hi=>?_,Rat.zero_add];rw[if_neg];intro z;have:=rr.inc i j hi hj
  lia
 ·rw[if_neg q,if_neg q,e1,v8]
theorem Mi {c:Nat} (hp:c∉ps):(fY R ps n).getD c 0=0:=by
 by_cases hc:c < n
 ·unfold fY;rw[Kg hc,dI fun i hi=>?_];rw[if_neg (fun z=>hp (by rw[<- z];exact getD_in hi))]
 ·rw[aa,aN (by unfold fY;rw[lQ];lia)];rfl
theorem FA (hd:due.length=rows.length) (hw:∀xs∈rows,xs.length=n) (RR:cC (cY rows due) (n+1) R ps) (hn:n∉ps) {i:Nat} {row:List Rat} (hr:rows[i]?=some row):b7 row (fY R ps n)=due.getD i 0:=by
 obtain ⟨_,_,rr⟩:=RR;have hi:=(aI.mp hr).1;have wr:=hw row (aA hr);have ef:∀c,cD rows i c=row.getD c 0:=fun c=>by unfold cD;rw[aa (l:=rows),hr];rfl
 obtain ⟨f1,f2⟩:=zu hd hw hi
 have low:∀j,j < ps.length->ps.getD j 0 < n:=fun j hj=>by
  have:=rr.low j hj;have:ps.getD j 0≠n:=fun z=>hn (by rw[<- z];exact getD_in hj)
  lia
 have co:=rr.coef (rr.span i (by rw[rA hd];exact hi)) n;rw[f2] at co;rw[co,cT (by unfold fY;rw[lQ,wr]),wr]
 have e1:bM n (fun c=>row.getD c 0*(fY R ps n).getD c 0)=bM n (fun c=>bM ps.length fun j=>if ps.getD j 0=c then row.getD (ps.getD j 0) 0*cD R j n else 0):=by
  refine aV fun c hc=>?_
  unfold fY;rw[Kg hc,<- dm];refine aV fun j _=>?_
  split
  ·rename_i q;rw[q]
  ·grind
 rw[e1,<- iJ];refine aV fun j hj=>?_
 rw[jv (i:=ps.getD j 0) (low j hj) fun c _ ne=>if_neg fun z=>ne z.symm,if_pos rfl,f1 _ (low j hj),ef]
theorem Ej (hd:due.length=rows.length) (hw:∀xs∈rows,xs.length=n) (RR:cC (cY rows due) (n+1) R ps) (hn:n∈ps):∃w:Nat->Rat,(∀c,c < n->bM rows.length (fun i=>w i*cD rows i c)=0)/\bM rows.length (fun i=>w i*due.getD i 0)=1:=by
 obtain ⟨_,_,rr⟩:=RR;obtain ⟨j,hj,ej⟩:=b9 hn;have ejD:ps.getD j 0=n:=by rw[aa,ag hj];exact ej
 obtain ⟨w,hw'⟩:=rr.back j hj;rw[rA hd] at hw';refine ⟨w,fun c hc=>?_,?_⟩
 ·have z:=rr.lead j hj c (by rw[ejD];exact hc);rw[hw' c] at z;rw[<- z];exact aV fun i hi=>by rw[(zu hd hw hi).1 c hc]
 ·have u:=rr.unit j hj j hj;rw[if_pos rfl,ejD,hw' n] at u;rw[<- u];exact aV fun i hi=>by rw[(zu hd hw hi).2]
theorem Oy (hd:due.length=rows.length) (hw:∀xs∈rows,xs.length=n) (RR:cC (cY rows due) (n+1) R ps) {x:Nat->Rat} (hx:∀i,i < rows.length->bM n (fun c=>cD rows i c*x c)=due.getD i 0):n∉ps:=fun hn=>by
 obtain ⟨w,h1,h2⟩:=Ej hd hw RR hn
 have e1:bM rows.length (fun i=>w i*due.getD i 0)=bM rows.length (fun i=>bM n fun c=>x c*(w i*cD rows i c)):=aV fun i hi=>by
  rw[<- hx i hi,<- dm];exact aV fun c _=>by grind
 have e2:bM n (fun c=>bM rows.length fun i=>x c*(w i*cD rows i c))=0:=dI fun c hc=>by
  rw[dm,h1 c hc];grind
 rw[e1,iJ,e2] at h2;exact absurd h2 (by decide)
theorem Qs {M W:Nat} (h0:0 < M) (tp:∀xs∈R,∀x∈xs,Tp M W x) {J:List (List Rat)} (RR:cC J (n+1) R ps):∀x∈fY R ps n,Tp M W x:=fun x hx=>by
 obtain ⟨_,_,rr⟩:=RR;obtain ⟨c,hc,rfl⟩:=aE.mp hx;by_cases hp:∃j,j < ps.length/\ps.getD j 0=c
 ·obtain ⟨j,hj,e⟩:=hp;rw[jv hj fun i hi ne=>if_neg fun z=>?_,if_pos e]
  ·exact Qc tp j n
  ·rcases qZ i j with q | q | q
   ·have:=rr.inc i j q hj;lia
   ·exact ne q
   ·have:=rr.inc j i q hi;lia
 ·rw[dI fun j hj=>if_neg fun z=>hp ⟨j,hj,z⟩];exact Tp.zero
end
def Fu (K:PySem.W.Frag):Sp:=fun vs H Q _=>∃(p q:Addr) (n w:Nat) (H0:Hp) (rows:List (List Rat)) (due:List Rat),vs=[.ref p,.int n,.ref q]/\bS K H0 H p rows/\cK K H q due/\due.length=rows.length/\rows.length<=99/\n<=99/\(∀xs∈rows,xs.length=n)/\EZ (cY rows due) (n+1) w /\
 (∀x R ps M H',cC (cY rows due) (n+1) R ps->n∉ps->H x=none->aO H H'->cK K H' x (fY R ps n)->0 < M->M<=2^(min rows.length (n+1)*(w+4))->(∀y∈fY R ps n,Tp M (2^(min rows.length (n+1)*(w+4))) y)->Q (.ref x) H') /\
 (∀R ps H',cC (cY rows due) (n+1) R ps->n∈ps->aO H H'->Q .non H')
def JW (rows:List (List Rat)) (n:Nat) (due:List Rat):List (List Rat):=cY (aW rows n++[due]) (List.replicate n 0++[1])
def IC (K:PySem.W.Frag):Sp:=fun vs H Q _=>∃(p q:Addr) (n w w':Nat) (H0:Hp) (rows:List (List Rat)) (due:List Rat),vs=[.ref p,.int n,.ref q]/\bS K H0 H p rows/\cK K H q due/\due.length=rows.length/\rows.length<=90/\n<=90/\(∀xs∈rows,xs.length=n)/\EZ (cY rows due) (n+1) w/\EZ (JW rows n due) (rows.length+1) w' /\
 (∀t x R ps M H',cC (cY rows due) (n+1) R ps->n∉ps->H' t=some (.tup [.str (Str.ofString "yes"),.ref x])->H x=none->aO H H'->cK K H' x (fY R ps n)->0 < M->M<=2^(min rows.length (n+1)*(w+4))->(∀y∈fY R ps n,Tp M (2^(min rows.length (n+1)*(w+4))) y)->Q (.ref t) H') /\
 (∀t x R ps R' ps' M H',cC (cY rows due) (n+1) R ps->n∈ps->cC (JW rows n due) (rows.length+1) R' ps'->rows.length∉ps'->H' t=some (.tup [.str (Str.ofString "no"),.ref x])->H x=none->aO H H'->cK K H' x (fY R' ps' rows.length)->0 < M->M<=2^(min (n+1) (rows.length+1)*(w'+4))->(∀y∈fY R' ps' rows.length,Tp M (2^(min (n+1) (rows.length+1)*(w'+4))) y)->Q (.ref t) H')
theorem Ja {rows R R':List (List Rat)} {due:List Rat} {ps ps':List Nat} {n:Nat} (hd:due.length=rows.length) (hw:∀xs∈rows,xs.length=n) (RR:cC (cY rows due) (n+1) R ps) (hn:n∈ps) (RR':cC (JW rows n due) (rows.length+1) R' ps'):rows.length∉ps':=by
 obtain ⟨w,h1,h2⟩:=Ej hd hw RR hn;have l1:(aW rows n++[due]).length=n+1:=by rw[ay,bZ];rfl
 have w1:∀xs∈aW rows n++[due],xs.length=rows.length:=fun xs hx=>by
  rcases ax.mp hx with hx | hx
  ·exact jU xs hx
  ·rw[bU.mp hx];exact hd
 refine Oy (x:=w) (by rw[l1,ay,aF];rfl) w1 RR' fun i hi=>?_
 rw[l1] at hi;by_cases e:i < n
 ·have e1:∀c,cD (aW rows n++[due]) i c=cD rows c i:=fun c=>by
   unfold cD;rw[aa (l:=aW rows n++[due]),bG (by rw[bZ];exact e)];unfold aW;rw[aG,cU e];show (rows.map fun xs=>xs.getD i 0).getD c 0=_
   rw[aa,aG,aa (l:=rows)];cases rows[c]? with
   | none=>rfl
   | some y=>rfl
  have e2:(List.replicate n (0:Rat)++[1]).getD i 0=0:=by
   rw[aa,bG (by rw[aF];exact e),cW,if_pos e];rfl
  rw[e2,<- h1 i e];exact aV fun c _=>by rw[e1];grind
 ·have ei:i=n:=by lia
  subst ei
  have e1:∀c,cD (aW rows i++[due]) i c=due.getD c 0:=fun c=>by
   unfold cD;rw[aa (l:=aW rows i++[due]),be (by rw[bZ];exact ar _),bZ,il];rfl
  have e2:(List.replicate i (0:Rat)++[1]).getD i 0=1:=by
   rw[aa,be (by rw[aF];exact ar _),aF,il];rfl
  rw[e2,<- h2];exact aV fun c _=>by rw[e1];grind
theorem KQ {n:Nat}:((List.range n).map fun _=>(0:Rat))=List.replicate n 0:=by rw[BF,cm]
def Oo (K:PySem.W.Frag):Sp:=fun vs H Q _=>∃m:Nat,vs=[.int m]/\m<=100/\∀r H',H r=none->aO H H'->cK K H' r (List.replicate m 0)->Q (.ref r) H'
def Ef (K:PySem.W.Frag):Sp:=fun vs H Q _=>∃(p q:Addr) (n w w':Nat) (H0:Hp) (rows:List (List Rat)) (row:List Rat),vs=[.ref p,.int n,.ref q]/\bS K H0 H p rows/\cK K H q row/\row.length=n/\rows.length<=90/\n<=90/\(∀xs∈rows,xs.length=n)/\EZ (cY (aW rows n) row) (rows.length+1) w/\EZ (cY (rows++[row]) (List.replicate rows.length 0++[1])) (n+1) w' /\
 (∀t x R ps M H',cC (cY (aW rows n) row) (rows.length+1) R ps->rows.length∉ps->H' t=some (.tup [.str (Str.ofString "in"),.ref x])->H x=none->aO H H'->cK K H' x (fY R ps rows.length)->0 < M->M<=2^(min n (rows.length+1)*(w+4))->(∀y∈fY R ps rows.length,Tp M (2^(min n (rows.length+1)*(w+4))) y)->Q (.ref t) H') /\
 (∀t x R ps R' ps' M H',cC (cY (aW rows n) row) (rows.length+1) R ps->rows.length∈ps->cC (cY (rows++[row]) (List.replicate rows.length 0++[1])) (n+1) R' ps'->n∉ps'->H' t=some (.tup [.str (Str.ofString "out"),.ref x])->H x=none->aO H H'->cK K H' x (fY R' ps' n)->0 < M->M<=2^(min (rows.length+1) (n+1)*(w'+4))->(∀y∈fY R' ps' n,Tp M (2^(min (rows.length+1) (n+1)*(w'+4))) y)->Q (.ref t) H')
def Rv (rows:List (List Rat)) (ws:List Rat) (n j:Nat):List Rat:=(List.range n).map fun c=>bM j fun i=>ws.getD i 0*cD rows i c
def GU (rows:List (List Rat)) (ws:List Rat) (n:Nat):List Rat:=Rv rows ws n ws.length
section
variable {rows:List (List Rat)} {ws xs row:List Rat} {n j:Nat}
theorem C4:(Rv rows ws n j).length=n:=by unfold Rv;rw[ak,cm]
theorem zS {c:Nat} (hc:c < n):(GU rows ws n).getD c 0=bM ws.length fun i=>ws.getD i 0*cD rows i c:=by
 unfold GU Rv;rw[aa,aG,cU hc];rfl
theorem EM (h:xs.length=ws.length):b7 xs ws=b7 ws xs:=by
 rw[cT h,cT h.symm,h];exact aV fun c _=>dw ..
theorem As {c:Nat} (hc:c < n):(aW rows n)[c]?=some (rows.map fun xs=>xs.getD c 0):=by
 unfold aW;rw[aG,cU hc];rfl
theorem Pb {c i:Nat}:(rows.map fun xs=>xs.getD c 0).getD i 0=cD rows i c:=by
 unfold cD;rw[aa,aG,aa (l:=rows)];cases rows[i]? with
 | none=>rfl
 | some y=>rfl
theorem Iu {R:List (List Rat)} {ps:List Nat} (hl:row.length=n) (RR:cC (cY (aW rows n) row) (rows.length+1) R ps) (hn:rows.length∉ps):GU rows (fY R ps rows.length) n=row:=by
 have ls:(fY R ps rows.length).length=rows.length:=lQ;apply dY (by unfold GU;rw[C4,hl]);intro c h1 h2;have hc:c < n:=by lia
 have d:=FA (rows:=aW rows n) (by rw[bZ,hl]) (fun xs hx=>jU xs hx) RR hn (As hc);have e:=zS (rows:=rows) (ws:=fY R ps rows.length) hc;have e1:(GU rows (fY R ps rows.length) n).getD c 0=(GU rows (fY R ps rows.length) n)[c]:=by rw[aa,ag h1];rfl
 have e2:row.getD c 0=row[c]:=by rw[aa,ag h2];rfl
 rw[<- e1,<- e2,e,<- d,cT (by rw[ak,ls]),ak,ls];exact aV fun i _=>by rw[Pb];grind
theorem IZ {R:List (List Rat)} {ps:List Nat} (hw:∀xs∈rows,xs.length=n) (hl:row.length=n) (RR:cC (cY (rows++[row]) (List.replicate rows.length 0++[1])) (n+1) R ps) (hn:n∉ps):b7 (fY R ps n) row=1/\∀xs∈rows,b7 xs (fY R ps n)=0:=by
 have l1:(List.replicate rows.length (0:Rat)++[1]).length=(rows++[row]).length:=by rw[ay,ay,aF];rfl
 have w1:∀xs∈rows++[row],xs.length=n:=fun xs hx=>by
  rcases ax.mp hx with hx | hx
  ·exact hw xs hx
  ·rw[bU.mp hx];exact hl
 have ls:(fY R ps n).length=n:=lQ;refine ⟨?_,fun xs hx=>?_⟩
 ·have:=FA l1 w1 RR hn (i:=rows.length) (row:=row) (by rw[be (ar _),il];rfl);rw[EM (by rw[ls,hl]),this,aa,be (by rw[aF];exact ar _),aF,il];rfl
 ·obtain ⟨i,hi,rfl⟩:=b9 hx;have:=FA l1 w1 RR hn (i:=i) (row:=rows[i]) (by rw[bG hi,ag hi]);rw[this,aa,bG (by rw[aF];exact hi),cW,if_pos hi];rfl
end
theorem Fr.up {M V M' V':Nat} {x:Rat} (h:Fr M V x) (hd:M∣M') (hv:V<=V'):Fr M' V' x:=(h.dvd hd).mono hv
section
variable {rows R:List (List Rat)} {due:List Rat} {ps:List Nat} {n:Nat}
theorem Nj {xs ys:List Rat} {M V D B:Nat} (h:ys.length=xs.length) (hx:∀x∈xs,Fr M V x) (hy:∀y∈ys,Fr D B y):Fr (M*D) (xs.length*(V*B)) (b7 xs ys):=by
 rw[cT h.symm]
 have key:∀j,j<=xs.length->Fr (M*D) (j*(V*B)) (bM j fun c=>xs.getD c 0*ys.getD c 0):=by
  intro j
  induction j with
  | zero=>intro _;exact Fr.zero
  | succ j ih =>
   intro hj;exact ((ih (by lia)).add ((hx _ (getD_in (by lia))).mul (hy _ (getD_in (by lia))))).mono (Nat.le_of_eq (df j (V*B)).symm)
 exact key _ (ar _)
end
theorem zi {α β:Type} {F G:α->β->Prop}:∀{l1:List α} {l2:List β},(∀a b,b∈l2->F a b->G a b)->Paired F l1 l2->Paired G l1 l2
 | _,_,_,.nil=>.nil
 | _,_,h,.cons a r=>.cons (h _ _ (by simp) a) (zi (fun x y hy=>h x y (by simp [hy])) r)
section
variable {rows rows' R R':List (List Rat)} {n w W:Nat} {ps ps':List Nat}
theorem Ce (hw:∀xs∈rows,xs.length=n) (hW:1<=W) (ent:∀i,i < (rows.map iu).length->∀c,Fr 1 W (eF (rows.map iu) i c)):∀P,P<=n->∃ls ps d,CV (rows.map iu) n P ls ps d:=by
 intro P
 induction P with
 | zero=>intro _;exact ⟨_,_,_,CV.start fun zs hz=>by obtain ⟨x,hx,rfl⟩:=aE.mp hz;rw[xt];exact hw x hx⟩
 | succ P ih =>
  intro hP;obtain ⟨ls,ps,d,I⟩:=ih (by lia);by_cases e:∃t,ps.length<=t/\t < ls.length/\eF ls t P≠0
  ·obtain ⟨t,h1,h2,h3⟩:=e;exact ⟨_,_,_,I.step hW ent h1 h2 h3⟩
  ·exact ⟨_,_,_,I.skip fun i h1 h2=>by
    by_cases z:eF ls i P=0
    ·exact z
    ·exact absurd ⟨i,h1,h2,z⟩ e⟩
theorem IW (hw:∀xs∈rows,xs.length=n) (F:EZ rows n w):∃R ps d ls,Sd rows n w R ps d ls:=by
 obtain ⟨W,hW,W2,ent⟩:=F.ent;obtain ⟨ls,ps,d,I⟩:=Ce hw hW ent n (ar _);obtain ⟨R,S⟩:=I.done hw F;exact ⟨R,ps,d,_,S⟩
theorem Qx (hw:∀xs∈rows,xs.length=n) (F:EZ rows n w) (RR:cC rows n R ps):ps.length<=rows.length/\∃M,0 < M/\M<=2^(min rows.length n*(w+4))/\∀xs∈R,∀x∈xs,Tp M (2^(min rows.length n*(w+4))) x:=by
 obtain ⟨R2,ps2,d,ls,S⟩:=IW hw F;obtain ⟨rfl,rfl⟩:=S.rr.same RR;exact ⟨S.km,d.natAbs,Int.natAbs_pos.mpr S.d0,S.dsz,S.tp⟩
theorem Js {k:Nat} {p q:Nat->Nat} (hp:∀i j,i < j->j < k->p i < p j) (hq:∀i j,i < j->j < k->q i < q j) (hs:∀i,i < k->∃j,j < k/\q j=p i):∀i,i < k->p i=q i:=by
 have hqm:∀i j,i<=j->j < k->q i<=q j:=fun i j h hj=>by
  rcases dg i j with z | z
  ·exact br (hq i j z hj)
  ·have:i=j:=by lia
   rw[this];exact ar _
 have hqi:∀i j,i < k->j < k->q i < q j->i < j:=fun i j hi hj h=>by
  rcases dg i j with z | z
  ·exact z
  ·have:=hqm j i z hi
   lia
 have key:∀i,i < k->∀j,j < k->q j=p i->i<=j:=by
  intro i
  induction i with
  | zero=>intro _ j _ _;exact bh _
  | succ i ih =>
   intro hi j hj e;obtain ⟨j',hj',e'⟩:=hs i (by lia);have h1:=ih (by lia) j' hj' e';have h2:=hp i (i+1) (by lia) hi;have:=hqi j' j hj' hj (by lia)
   lia
 have key2:∀t i,i+t+1=k->∀j,j < k->q j=p i->j<=i:=by
  intro t
  induction t with
  | zero=>intro i e j hj _;lia
  | succ t ih =>
   intro i e j hj ej;obtain ⟨j',hj',e'⟩:=hs (i+1) (by lia);have h1:=ih (i+1) (by lia) j' hj' e';have h2:=hp i (i+1) (by lia) (by lia);have:=hqi j j' hj hj' (by lia)
   lia
 intro i hi;obtain ⟨j,hj,e⟩:=hs i hi;have h1:=key i hi j hj e;have h2:=key2 (k - 1 - i) i (by lia) j hj e;have:j=i:=by lia
 rw[<- e,this]
theorem IV (h:cC rows n R ps) (h':cC rows' n R' ps') (hl:ps.length=ps'.length) (hs:∀i,i < ps.length->fj ps'.length (cD R') (cD R i)):R=R'/\ps=ps':=by
 obtain ⟨l1,w1,r1⟩:=h;obtain ⟨l2,w2,r2⟩:=h'
 have ep:∀i,i < ps.length->ps.getD i 0=ps'.getD i 0:=Js r1.inc (by rw[hl];exact r2.inc) fun i hi=>by
  have u:=r1.unit i hi i hi;rw[if_pos rfl] at u;obtain ⟨j,hj,e⟩:=r2.lead_in (hs i hi) (c:=ps.getD i 0) (by rw[u];decide) (fun c hc=>r1.lead i hi c hc);exact ⟨j,by lia,e⟩
 have eps:ps=ps':=by
  apply dY hl;intro i a b;have:=ep i a;rw[aa,aa,ag a,ag b] at this;exact this
 refine ⟨Lj (n:=n) (by lia) w1 w2 fun i hi c=>?_,eps⟩;rw[l1] at hi;rw[r2.coef (hs i hi) c,<- hl,jv hi fun j hj hj'=>?_]
 ·rw[<- ep i hi];have u:=r1.unit i hi i hi;rw[if_pos rfl] at u;rw[u];grind
 ·rw[<- ep j hj];have u:=r1.unit i hi j hj;rw[if_neg (Ne.symm hj')] at u;rw[u];grind
end
def nB (mv:List (List Rat)) (x:List Rat):List Rat:=mv.map fun xs=>b7 xs x
def kry (mv pt:List (List Rat)):Nat->List (List Rat)
 | 0=>[]
 | t+1=>pt++(kry mv pt t).map (nB mv)
section
variable {mv pt R R' S X Y:List (List Rat)} {n t m i c:Nat} {ps ps':List Nat} {a:Nat->Nat->Rat}
theorem nQ {x:List Rat}:(nB mv x).length=mv.length:=ak ..
theorem KC (lm:mv.length=n) (wm:∀xs∈mv,xs.length=n) (wR:∀xs∈R,xs.length=n) (hi:i < R.length) (c:Nat):cD (R.map (nB mv)) i c=bM n fun j=>cD mv c j*cD R i j:=by
 have wi:=wR _ (aL hi);have e1:(R.map (nB mv)).getD i []=nB mv R[i]:=by rw[aa,aG,ag hi];rfl
 have e2:R.getD i []=R[i]:=by rw[aa,ag hi];rfl
 by_cases hc:c < n
 ·have wc:=wm _ (aL (show c < mv.length by lia));have e3:mv.getD c []=mv[c]'(by lia):=by rw[aa,ag (by lia)];rfl
  have e4:(nB mv R[i]).getD c 0=b7 (mv[c]'(by lia)) R[i]:=by
   unfold nB;rw[aa,aG,ag (by lia)];rfl
  unfold cD;rw[e1,e2,e3,e4,cT (by lia),wc]
 ·have e3:mv.getD c []=[]:=by rw[aa,aN (by lia)];rfl
  unfold cD
  rw[e1,e3,aa,aN (by rw[nQ];lia),dI fun j _=>by
   show ([]:List Rat).getD j 0*_=0
   rw[aa];show (0:Rat)*_=0
   grind]
  rfl
theorem Fo (lm:mv.length=n) (wm:∀xs∈mv,xs.length=n) (wR:∀xs∈R,xs.length=n) (wS:∀xs∈S,xs.length=n) (hi:i < R.length) (h:fj S.length (cD S) (cD R i)):fj (S.map (nB mv)).length (cD (S.map (nB mv))) (cD (R.map (nB mv)) i):=by
 obtain ⟨w,hw⟩:=h;refine ⟨w,fun c=>?_⟩;rw[KC lm wm wR hi,ak]
 have e1:bM n (fun j=>cD mv c j*cD R i j)=bM n (fun j=>bM S.length fun s=>w s*(cD mv c j*cD S s j)):=aV fun j _=>by
  rw[hw j,<- dm];exact aV fun s _=>by grind
 rw[e1,iJ];exact aV fun s hs=>by rw[dm,KC lm wm wS hs]
theorem DU (h:i < X.length):cD (X++Y) i=cD X i:=by
 funext c;unfold cD;rw[aa (l:=X++Y),bG h,<- aa]
theorem zR:cD (X++Y) (X.length+i)=cD Y i:=by
 funext c;unfold cD;rw[aa (l:=X++Y),be (by lia),show X.length+i - X.length=i by lia,<- aa]
theorem C8 (h1:∀i,i < X.length->fj m a (cD X i)) (h2:∀i,i < Y.length->fj m a (cD Y i)):∀i,i < (X++Y).length->fj m a (cD (X++Y) i):=fun i hi=>by
 rw[ay] at hi;by_cases h:i < X.length
 ·rw[DU h];exact h1 i h
 ·obtain ⟨j,rfl⟩:∃j,i=X.length+j:=⟨i - X.length,by lia⟩;rw[zR];exact h2 j (by lia)
theorem AA (h:i < X.length):fj (X++Y).length (cD (X++Y)) (cD X i):=by
 have:=fj.row (a:=cD (X++Y)) (m:=(X++Y).length) (i:=i) (by rw[ay];lia);rwa [DU h] at this
theorem yB {x:Nat->Rat} (h:fj Y.length (cD Y) x):fj (X++Y).length (cD (X++Y)) x:=fj.trans (fun s hs=>by
 have:=fj.row (a:=cD (X++Y)) (m:=(X++Y).length) (i:=X.length+s) (by rw[ay];lia);rwa [zR] at this) h
theorem fA (lm:mv.length=n) (wp:∀xs∈pt,xs.length=n):∀t,∀xs∈kry mv pt t,xs.length=n:=by
 intro t
 induction t with
 | zero=>intro xs hx;cases hx
 | succ t ih =>
  intro xs hx;rcases ax.mp hx with hx | hx
  ·exact wp xs hx
  ·obtain ⟨y,_,rfl⟩:=aE.mp hx;rw[nQ,lm]
theorem Bo (lm:mv.length=n) (wm:∀xs∈mv,xs.length=n) (wp:∀xs∈pt,xs.length=n) (RR:cC (kry mv pt t) n R ps) (RR':cC (pt++R.map (nB mv)) n R' ps'):cC (kry mv pt (t+1)) n R' ps':=by
 have wk:=fA (mv:=mv) lm wp t;refine ⟨RR'.1,RR'.2.1,RR'.2.2.other ?_ ?_⟩
 ·refine C8 (fun i hi=>AA hi) fun i hi=>yB ?_
  rw[ak] at hi;exact Fo lm wm RR.2.1 wk hi (RR.2.2.back i (by rw[<- RR.1];exact hi))
 ·refine C8 (fun i hi=>AA hi) fun i hi=>yB ?_
  rw[ak] at hi;have:=RR.2.2.span i hi;rw[<- RR.1] at this;exact Fo lm wm wk RR.2.1 hi this
theorem K2 (lm:mv.length=n) (wm:∀xs∈mv,xs.length=n) (wp:∀xs∈pt,xs.length=n):∀t i,i < (kry mv pt t).length->fj (kry mv pt (t+1)).length (cD (kry mv pt (t+1))) (cD (kry mv pt t) i):=by
 intro t
 induction t with
 | zero=>intro i hi;cases hi
 | succ t ih =>
  refine C8 (fun i hi=>AA hi) fun i hi=>yB ?_
  rw[ak] at hi;exact Fo lm wm (fA lm wp t) (fA lm wp (t+1)) hi (ih i hi)
theorem Bn (lm:mv.length=n) (wm:∀xs∈mv,xs.length=n) (wp:∀xs∈pt,xs.length=n) (RR:cC (kry mv pt t) n R ps) (RR':cC (kry mv pt (t+1)) n R' ps'):∀i,i < ps.length->fj ps'.length (cD R') (cD R i):=fun i hi =>
 fj.trans (fun s hs=>RR'.2.2.span s hs) (fj.trans (K2 lm wm wp t) (RR.2.2.back i hi))
theorem Jp (lm:mv.length=n) (wm:∀xs∈mv,xs.length=n) (wp:∀xs∈pt,xs.length=n) (RR:cC (kry mv pt t) n R ps) (RR':cC (pt++R.map (nB mv)) n R' ps') (hl:ps'.length=ps.length):∀s,cC (kry mv pt (t+s)) n R ps:=by
 have K1:=Bo lm wm wp RR RR';obtain ⟨e1,e2⟩:=IV RR K1 hl.symm (Bn lm wm wp RR K1);subst e1 e2;intro s
 induction s with
 | zero=>exact RR
 | succ s ih=>exact Bo lm wm wp ih RR'
theorem K3 (lm:mv.length=n) (wm:∀xs∈mv,xs.length=n) (wp:∀xs∈pt,xs.length=n) (RR:cC (kry mv pt t) n R ps) (RR':cC (kry mv pt (t+1)) n R' ps'):ps.length<=ps'.length:=by
 have h:=Bn lm wm wp RR RR'
 have hs:∀i,i < ps.length->∃j,j < ps'.length/\ps'.getD j 0=ps.getD i 0:=fun i hi=>by
  have u:=RR.2.2.unit i hi i hi;rw[if_pos rfl] at u;exact RR'.2.2.lead_in (h i hi) (c:=ps.getD i 0) (by rw[u];decide) (fun c hc=>RR.2.2.lead i hi c hc)
 rcases dg ps'.length ps.length with z | z
 ·exfalso
  have key:∀i,i < ps.length->∀j,j < ps'.length->ps'.getD j 0=ps.getD i 0->i<=j:=by
   intro i
   induction i with
   | zero=>intro _ j _ _;exact bh _
   | succ i ih =>
    intro hi j hj e;obtain ⟨j',hj',e'⟩:=hs i (by lia);have h1:=ih (by lia) j' hj' e';have h2:=RR.2.2.inc i (i+1) (by lia) hi;rcases dg j' j with y | y
    ·lia
    ·rcases dg j j' with x | x
     ·have:=RR'.2.2.inc j j' x hj'
      lia
     ·have:j=j':=by lia
      rw[this] at e
      lia
  obtain ⟨j,hj,e⟩:=hs (ps.length - 1) (by lia);have:=key (ps.length - 1) (by lia) j hj e
  lia
 ·exact z
theorem K4 {M V c:Nat} (lm:mv.length=n) (wm:∀xs∈mv,xs.length=n) (wp:∀xs∈pt,xs.length=n) (hc:(n+1)*V<=2^c) (fm:GF M V mv) (fp:GF M V pt):∀t,∀xs∈kry mv pt t,∀x∈xs,Fr (M^t) (2^(c*t)) x:=by
 intro t
 induction t with
 | zero=>intro xs hx;cases hx
 | succ t ih =>
  intro xs hx x hx';have hV:V<=2^c:=ah (dh _ (by lia)) hc;rcases ax.mp hx with hx | hx
  ·refine Fr.up (fp xs hx x hx') (by rw[dN];exact sF _ _) (ah hV (ao (by decide) (dD _ (by lia))))
  ·obtain ⟨y,hy,rfl⟩:=aE.mp hx;unfold nB at hx';obtain ⟨r,hr,rfl⟩:=aE.mp hx';have wr:=wm r hr;have wy:=fA (mv:=mv) lm wp t y hy;have f:=Nj (by lia) (fm r hr) (ih y hy);rw[dN,cb (M^t)];refine f.mono ?_;rw[fo,LM,aK,cb (2^(c*t)),<- bP,wr];exact aw _ (ah (aw _ (by lia)) hc)
def uv (mv pt:List (List Rat)) (a c:Nat):Prop:=∃M V:Nat,0 < M/\M<=2^a/\(mv.length+1)*V<=2^c/\GF M V mv/\GF M V pt/\a<=400/\c<=40/\mv.length*(mv.length*(a+c)+4)<=1740/\mv.length*(mv.length*(mv.length*(a+c)+4)+a+c+4)<=8900
theorem uv.swf {a c:Nat} (F:uv mv pt a c) (D:mv.length<=8) (wm:∀xs∈mv,xs.length=mv.length) (wp:∀xs∈pt,xs.length=mv.length) (ht:t<=mv.length):EZ (kry mv pt t) mv.length (mv.length*(a+c)):=by
 obtain ⟨M,V,M0,Ma,hV,fm,fp,a3,c3,e14,e89⟩:=F;have f:=K4 rfl wm wp hV fm fp t;have h1:mv.length*(a+c)<=8*440:=aD D (by lia);have hM:M^t<=2^(a*mv.length):=ah (eG Ma _) (by rw[<- pS];exact ao (by decide) (aM _ ht));have h2:a*mv.length<=mv.length*(a+c):=by rw[cb];exact aM _ (by lia)
 have h3:mv.length=0\/mv.length*(a+c)<=1740:=by
  rcases jJ mv.length with z | z
  ·exact .inl z
  ·right
   have:=dh (mv.length*(a+c)+4) z
   lia
 have h4:mv.length*(a+c)<=1740:=by
  rcases h3 with z | z
  ·rw[z];lia
  ·exact z
 refine ⟨M^t,2^(mv.length*(a+c)),fk M0,ah hM (ao (by decide) (by lia)),dP,ar _,fun xs hx x hx'=>Tp.of (f xs hx x hx') ?_,by lia,by lia,?_⟩
 ·refine ah (aD (ao (by decide) (aM c ht)) hM) ?_;rw[<- aK];refine ao (by decide) ?_;rw[cb c,cb a,<- fo,Ao c];exact ar _
 ·exact ah (aw _ (zH _ _)) (by lia)
theorem uv.tp {a c:Nat} (F:uv mv pt a c) (D:mv.length<=8) (wm:∀xs∈mv,xs.length=mv.length) (wp:∀xs∈pt,xs.length=mv.length) (ht:t<=mv.length) (RR:cC (kry mv pt t) mv.length R ps):∃M,0 < M/\M<=2^(mv.length*(mv.length*(a+c)+4))/\∀xs∈R,∀x∈xs,Tp M (2^(mv.length*(mv.length*(a+c)+4))) x:=by
 obtain ⟨_,M,h0,h1,h2⟩:=Qx (fA rfl wp t) (F.swf D wm wp ht) RR;have le:2^(min (kry mv pt t).length mv.length*(mv.length*(a+c)+4))<=2^(mv.length*(mv.length*(a+c)+4)):=ao (by decide) (aw _ (zH _ _));exact ⟨M,h0,ah h1 le,fun xs hx x hx'=>(h2 xs hx x hx').mono le⟩
theorem uv.step {a c:Nat} (F:uv mv pt a c) (D:mv.length<=8) (wm:∀xs∈mv,xs.length=mv.length) (wp:∀xs∈pt,xs.length=mv.length) (ht:t<=mv.length) (RR:cC (kry mv pt t) mv.length R ps):EZ (pt++R.map (nB mv)) mv.length (mv.length*(mv.length*(a+c)+4)+a+c):=by
 obtain ⟨N,N0,N1,tN⟩:=F.tp D wm wp ht RR;obtain ⟨M,V,M0,Ma,hV,fm,fp,a3,c3,e14,e89⟩:=F;generalize mv.length*(mv.length*(a+c)+4)=e at *
 have V1:V<=2^c:=ah (dh _ (by lia)) hV;have eW:(2:Nat)^(e+a+c)=2^c*(2^a*2^e):=by rw[<- aK,<- aK];congr 1;lia
 refine ⟨N*M,2^(e+a+c),bE N0 M0,?_,dP,ar _,fun xs hx x hx'=>?_,by lia,by lia,?_⟩
 ·exact ah (aD N1 Ma) (by rw[<- aK];exact ao (by decide) (by lia))
 ·rcases ax.mp hx with hx | hx
  ·refine Tp.of ((fp xs hx x hx').scaleL N) ?_;rw[eW,cb N];exact aD V1 (aD Ma N1)
  ·obtain ⟨y,hy,rfl⟩:=aE.mp hx;unfold nB at hx';obtain ⟨r,hr,rfl⟩:=aE.mp hx';have wr:=wm r hr;have wy:=RR.2.1 y hy;rw[cT (by lia),wr];have t1:∀j,Tp M (V*M) (r.getD j 0):=fun j=>mB (fun x hx=>Tp.of (fm r hr x hx) (ar _)) j
   have t2:∀j,Tp N (2^e) (y.getD j 0):=fun j=>mB (tN y hy) j
   have:=Tp.sum (k:=mv.length) (M:=N*M) (W:=V*M*2^e) (f:=fun j=>r.getD j 0*y.getD j 0) fun j _=>by
    have:=(t1 j).mul (t2 j);rwa [cb M N] at this
   refine this.mono ?_;rw[eW,bP V,<- bP mv.length];exact aD (ah (aw _ (by lia)) hV) (aw _ Ma)
 ·exact ah (aw _ (zH _ _)) (by rw[show e+a+c+4=e+a+c+4 from rfl];exact e89)
theorem uv.fit {a c:Nat} (F:uv mv pt a c) (D:mv.length<=8) (wm:∀xs∈mv,xs.length=mv.length) (wp:∀xs∈pt,xs.length=mv.length) (ht:t<=mv.length) (RR:cC (kry mv pt t) mv.length R ps):∀xs∈mv,∀r∈R,tQ xs r:=fun xs hx r hr=>by
 obtain ⟨N,N0,N1,tN⟩:=F.tp D wm wp ht RR;obtain ⟨M,V,M0,Ma,hV,fm,fp,a3,c3,e14,e89⟩:=F;have V1:V<=2^c:=ah (dh _ (by lia)) hV;have p14:=ao (show 0 < 2 by decide) e14;exact ⟨400,40,1740,1740,⟨M,V,M0,ah Ma (ao (by decide) a3),ah V1 (ao (by decide) c3),fm xs hx⟩,⟨N,2^1740,N0,ah N1 p14,ar _,fun x hx=>((tN r hr x hx).mono p14).fr N0⟩,by decide⟩
end
def IF (K:PySem.W.Frag) (C:Addr):Sp:=fun vs H Q _=>∃(x p:Addr) (H0 H1:Hp) (mv pt lk R:List (List Rat)),vs=[.ref x,.ref p]/\pW K H0 H C x mv pt lk/\fD mv pt lk/\bS K H1 H p R/\R.length<=100/\(∀r∈R,r.length=mv.length)/\(∀xs∈mv,∀r∈R,tQ xs r) /\
 ∀r H',H r=none->aO H H'->bS K H H' r (R.map (nB mv))->Q (.ref r) H'
structure vg (mv pt:List (List Rat)) (Rs:List (List (List Rat))):Prop where
 ne:Rs≠[]
 rr:∀t R,Rs[t]?=some R->∃ps,cC (kry mv pt t) mv.length R ps
 up:∀t R R',Rs[t]?=some R->Rs[t+1]?=some R'->R.length < R'.length
def GrL (K:PySem.W.Frag) (H0 H:Hp) (l:Addr) (Rs:List (List (List Rat))):Prop:=∃us,H l=some (.lst us)/\Paired (fun R v=>∃q,v=V.ref q/\H0 q=none/\q≠l/\bS K H0 H q R) Rs us
def IM (K:PySem.W.Frag) (C:Addr):Sp:=fun vs H Q _=>∃(x:Addr) (a c st:Nat) (H0:Hp) (mv pt lk:List (List Rat)),vs=[.ref x,.int st]/\st<=1000/\pW K H0 H C x mv pt lk/\fD mv pt lk/\uv mv pt a c /\
 ∀r Rs H',H r=none->aO H H'->GrL K H H' r Rs->vg mv pt Rs->Rs.length<=st+1->(∀R,Rs.getLast?=some R->∀s,(Rs.length - 1=st/\s=st\/Rs.length - 1 < st/\Rs.length - 1<=s)->∃ps,cC (kry mv pt s) mv.length R ps)->Q (.ref r) H'
section
variable {K:PySem.W.Frag} {H0 H1 H H':Hp} {p l:Addr} {rows mv pt R R':List (List Rat)} {Rs:List (List (List Rat))} {t:Nat}
theorem bS.weakN (h:bS K H0 H p rows) (hn:∀q,H0 q=none->H1 q=none):bS K H1 H p rows:=by obtain ⟨xs,g,r,n⟩:=h;exact ⟨xs,g,Paired.imp' (fun _ _ ⟨q,a,b,c⟩=>⟨q,a,hn q b,c⟩) r,n⟩
theorem bS.updL {ys:List V} {o:HO} (h:bS K H0 H p rows) (hl:H l=some (.lst ys)) (nl:H0 l≠none) (pl:p≠l):bS K H0 (upd H l o) p rows:=by obtain ⟨xs,g,r,n⟩:=h;exact ⟨xs,by rw[bA pl];exact g,Paired.imp' (fun _ _ z=>cZ.updL z hl nl) r,n⟩
theorem OA {n:Nat}:cC [] n [] []:=⟨rfl,(fun _ h=>by cases h),(fun _ _ _ h=>absurd h (fG _)),(fun _ h=>absurd h (fG _)),(fun _ h=>absurd h (fG _)),(fun _ h=>absurd h (fG _)),(fun _ h=>absurd h (fG _)),(fun _ h=>absurd h (fG _))⟩
theorem vg.len (h:vg mv pt Rs):∀(t:Nat) (R:List (List Rat)),Rs[t]?=some R->t<=R.length:=by
 intro t
 induction t with
 | zero=>intro R _;exact bh _
 | succ t ih =>
  intro R e;have ht:=(aI.mp e).1;have e0:=ag (show t < Rs.length by lia);have:=ih _ e0;have:=h.up t _ R e0 e
  lia
theorem vg.snoc {ps':List Nat} (h:vg mv pt (Rs++[R])) (h1:cC (kry mv pt (Rs.length+1)) mv.length R' ps') (h2:R.length < R'.length):vg mv pt ((Rs++[R])++[R']):=by
 have l1:(Rs++[R]).length=Rs.length+1:=by rw[ay];rfl
 refine ⟨by simp,fun t S e=>?_,fun t S S' e e'=>?_⟩
 ·rcases dg t (Rs.length+1) with z | z
  ·rw[bG (by lia)] at e;exact h.rr t S e
  ·have ht:=(aI.mp e).1;rw[ay,bQ] at ht;have:t=Rs.length+1:=by lia
   subst this;rw[be (by lia),l1,il] at e;cases e;exact ⟨ps',h1⟩
 ·have ht:=(aI.mp e').1;rw[ay,bQ] at ht;rw[bG (by lia)] at e;rcases dg (t+1) (Rs.length+1) with z | z
  ·rw[bG (by lia)] at e';exact h.up t S S' e e'
  ·have:t=Rs.length:=by lia
   subst this;rw[be (by lia),l1,il] at e';cases e';rw[be (ar _),il] at e;cases e;exact h2
end
def t8 (k t i:Nat):Nat:=if i < k then i else if i=k then t else if i<=t then i - 1 else i
def Er (k t i:Nat):Nat:=if i < k then i else if i=t then k else if i < t then i+1 else i
section
variable {k t m i j:Nat}
theorem xB (h : k ≤ t) (ht : t < m) (hi : i < m) : t8 k t i < m := by     unfold t8; split; · exact hi
                                                                          · split; · exact ht
                                                                            · split <;> lia
theorem Qy (h : k ≤ t) (ht : t < m) (hi : i < m) : Er k t i < m := by     unfold Er; split; · exact hi
                                                                          · split; · lia
                                                                            · split <;> lia
theorem Qw (h:k<=t):t8 k t (Er k t i)=i:=by
 by_cases h1:i < k
 ·rw[show Er k t i=i by unfold Er;rw[if_pos h1]];unfold t8;rw[if_pos h1]
 ·by_cases h2:i=t
  ·rw[show Er k t i=k by unfold Er;rw[if_neg h1,if_pos h2]];unfold t8;rw[if_neg (by lia),if_pos rfl,h2]
  ·by_cases h3:i < t
   ·rw[show Er k t i=i+1 by unfold Er;rw[if_neg h1,if_neg h2,if_pos h3]];unfold t8;rw[if_neg (by lia),if_neg (by lia),if_pos (by lia)];lia
   ·rw[show Er k t i=i by unfold Er;rw[if_neg h1,if_neg h2,if_neg h3]];unfold t8;rw[if_neg h1,if_neg (by lia),if_neg (by lia)]
theorem NI (h:k<=t):Er k t (t8 k t i)=i:=by
 by_cases h1:i < k
 ·rw[show t8 k t i=i by unfold t8;rw[if_pos h1]];unfold Er;rw[if_pos h1]
 ·by_cases h2:i=k
  ·rw[show t8 k t i=t by unfold t8;rw[if_neg h1,if_pos h2]];unfold Er;rw[if_neg (by lia),if_pos rfl,h2]
  ·by_cases h3:i<=t
   ·rw[show t8 k t i=i - 1 by unfold t8;rw[if_neg h1,if_neg h2,if_pos h3]];unfold Er;rw[if_neg (by lia),if_neg (by lia),if_pos (by lia)];lia
   ·rw[show t8 k t i=i by unfold t8;rw[if_neg h1,if_neg h2,if_neg h3]];unfold Er;rw[if_neg h1,if_neg (by lia),if_neg (by lia)]
theorem uF (hi:i < k):t8 k t i=i:=by unfold t8;rw[if_pos hi]
theorem xC (h:k<=t) (hi:k<=i):k<=t8 k t i:=by
 unfold t8;rw[if_neg (by lia)]
 split
 ·exact h
 ·split <;> lia
variable {a l:Nat->Nat->Rat} {pm p:Nat->Nat} {d:Rat} {P:Nat}
theorem yw.rot (B:yw a m k pm p l d) (h:k<=t) (ht:t < m):yw a m k (fun i=>pm (t8 k t i)) p (fun i=>l (t8 k t i)) d where
 inj i j hi hj e:=by
  have:=B.inj _ _ (xB h ht hi) (xB h ht hj) e;rw[<- NI (i:=i) h,this,NI h]
 rng i hi:=B.rng _ (xB h ht hi)
 km:=B.km
 d0:=B.d0
 det:=by rw[B.det,AM (f:=pm) (g:=fun i=>pm (t8 k t i)) fun j hj=>by rw[uF hj]]
 eqs i hi c:=by
  have e:=B.eqs (t8 k t i) (xB h ht hi) c;have e1:bM k (fun j=>a (pm (t8 k t i)) (p j)*l (t8 k t j) c)=bM k (fun j=>a (pm (t8 k t i)) (p j)*l j c):=aV fun j hj=>by rw[uF hj]
  rw[e1];by_cases hk:i < k
  ·rw[uF hk] at e ⊢;exact e
  ·rw[if_neg hk];rw[if_neg (by have:=xC h (show k<=i by lia);lia)] at e;exact e
 unit i hi j hj:=by
  rw[B.unit _ (xB h ht hi) j hj];by_cases hk:i < k
  ·rw[uF hk]
  ·have:=xC h (show k<=i by lia);rw[if_neg (by lia),if_neg (by lia)]
theorem my.rot (E:my a m k P p l d) (h:k<=t) (ht:t < m):my a m k P p (fun i=>l (t8 k t i)) d where
 km:=E.km
 d0:=E.d0
 unit i hi j hj:=by
  rw[E.unit _ (xB h ht hi) j hj];by_cases hk:i < k
  ·rw[uF hk]
  ·have:=xC h (show k<=i by lia);rw[if_neg (by lia),if_neg (by lia)]
 inc:=E.inc
 low:=E.low
 zero i h1 h2 c hc:=E.zero _ (xC h h1) (xB h ht h2) c hc
 lead j hj c hc:=by rw[uF hj];exact E.lead j hj c hc
 there i hi:=fj.trans (fun s hs=>fj.congr (fun c=>by rw[Qw h]) (fj.row (a:=fun i=>l (t8 k t i)) (i:=Er k t s) (Qy h ht hs))) (E.there i hi)
 back i hi:=E.back _ (xB h ht hi)
end
section
variable {rows fs ls:List (List Rat)} {n P w a:Nat} {ps:List Nat}
theorem L5 {k i:Nat}:lO k k i=i:=by unfold lO;split <;> (try split) <;> lia
theorem CW.rot (h:CW rows n P (fs++ls) ps) (hf:fs.length=ps.length) {t:Nat} (ht:t < ls.length):CW rows n P (fs++ls.getD t [] :: ls.eraseIdx t) ps:=by
 obtain ⟨len,wide,pm,l,d,B,E,v⟩:=h;rw[ay] at len;have h1:ps.length<=ps.length+t:=by lia
 have h2:ps.length+t < rows.length:=by lia
 have ef:∀i,i < rows.length->∀c,cD (fs++ls.getD t [] :: ls.eraseIdx t) i c=cD (fs++ls) (t8 ps.length (ps.length+t) i) c:=fun i hi c=>by
  by_cases z:i < ps.length
  ·rw[uF z,DU (by lia),DU (by lia)]
  ·obtain ⟨j,rfl⟩:∃j,i=fs.length+j:=⟨i - fs.length,by lia⟩;rw[zR];cases j with
   | zero =>
    rw[show t8 ps.length (ps.length+t) (fs.length+0)=fs.length+t by unfold t8;rw[if_neg (by lia),if_pos (by lia)];lia,zR];rfl
   | succ j =>
    by_cases y:j < t
    ·rw[show t8 ps.length (ps.length+t) (fs.length+(j+1))=fs.length+j by unfold t8;rw[if_neg (by lia),if_neg (by lia),if_pos (by lia)];lia,zR];show cD (ls.eraseIdx t) j c=_
     unfold cD;rw[aa (l:=ls.eraseIdx t),List.getElem?_eraseIdx_of_lt y,<- aa]
    ·rw[show t8 ps.length (ps.length+t) (fs.length+(j+1))=fs.length+(j+1) by unfold t8;rw[if_neg (by lia),if_neg (by lia),if_neg (by lia)],zR];show cD (ls.eraseIdx t) j c=_
     unfold cD;rw[aa (l:=ls.eraseIdx t),List.getElem?_eraseIdx_of_ge (by lia),<- aa]
 refine ⟨?_,fun xs hx=>?_,fun i=>pm (t8 ps.length (ps.length+t) i),fun i=>l (t8 ps.length (ps.length+t) i),d,B.rot h1 h2,E.rot h1 h2,fun i hi c=>?_⟩
 ·rw[ay,aZ,List.length_eraseIdx_of_lt ht];lia
 ·rcases ax.mp hx with hx | hx
  ·exact wide xs (ax.mpr (.inl hx))
  ·rcases aJ.mp hx with rfl | hx
   ·exact wide _ (ax.mpr (.inr (getD_in ht)))
   ·exact wide xs (ax.mpr (.inr (List.mem_of_mem_eraseIdx hx)))
 ·rw[ef i hi c,v _ (xB h1 h2 hi) c];by_cases z:i < ps.length
  ·dsimp only
   rw[uF z]
  ·rw[if_neg z,if_neg (by have:=xC h1 (show ps.length<=i by lia);lia)]
def yv (P:Nat) (h:List Rat):List Rat:=h.map fun y=>1 / h.getD P 0*y
def Cs (P:Nat) (u r:List Rat):List Rat:=List.zipWith (fun x y=>x - y) r (u.map fun y=>r.getD P 0*y)
theorem CW.lean (h:CW rows n P (fs++ls) ps) (hf:fs.length=ps.length) {t:Nat} (ht:t < ls.length) (hP:P < n) (hne:(ls.getD t []).getD P 0≠0):CW rows n (P+1) ((fs.map (Cs P (yv P (ls.getD t [])) )++[yv P (ls.getD t [])])++(ls.eraseIdx t).map (Cs P (yv P (ls.getD t [])))) (ps++[P]):=by
 have R:=h.rot hf ht;have len:=R.len;have wide:=R.wide;generalize ls.getD t []=hd at *
 generalize ls.eraseIdx t=l2 at *
 rw[ay,aZ] at len;have whd:hd.length=n:=wide _ (ax.mpr (.inr (.head _)));have wu:(yv P hd).length=n:=by unfold yv;rw[ak];exact whd
 have ek:cD (fs++hd :: l2) ps.length=fun c=>hd.getD c 0:=by
  have:=zR (X:=fs) (Y:=hd :: l2) (i:=0);rw[show fs.length+0=ps.length by lia] at this;rw[this];rfl
 have wl:∀r,r.length=n->(Cs P (yv P hd) r).length=n:=fun r hr=>by unfold Cs;rw[bx,ak,wu,hr];lia
 have vl:∀r,r.length=n->∀c,(Cs P (yv P hd) r).getD c 0=r.getD c 0 - r.getD P 0*(1 / hd.getD P 0*hd.getD c 0):=fun r hr c=>by
  unfold Cs;rw[Po (by rw[ak,wu,hr]),Le];unfold yv;rw[Le]
 refine R.step (t:=ps.length) (ar _) (by rw[ay,aZ];lia) (by rw[ek];exact hne) ?_ ?_ fun i hi c=>?_
 ·rw[ay,ay,ak,ak,bQ];lia
 ·intro xs hx;rcases ax.mp hx with hx | hx
  ·rcases ax.mp hx with hx | hx
   ·obtain ⟨r,hr,rfl⟩:=aE.mp hx;exact wl r (wide r (ax.mpr (.inl hr)))
   ·rw[bU.mp hx];exact wu
  ·obtain ⟨r,hr,rfl⟩:=aE.mp hx;exact wl r (wide r (ax.mpr (.inr (.tail _ hr))))
 ·rw[L5,ek]
  dsimp only
  have lf:(fs.map (Cs P (yv P hd))).length=ps.length:=by rw[ak];exact hf
  have key:∀{X:List (List Rat)} {s:Nat} (hs:s < X.length) (_:∀r∈X,r.length=n),cD (X.map (Cs P (yv P hd))) s c=cD X s c - cD X s P*(1 / hd.getD P 0*hd.getD c 0):=fun {X s} hs hX=>by
   unfold cD;have e1:(X.map (Cs P (yv P hd))).getD s []=Cs P (yv P hd) X[s]:=by rw[aa,aG,ag hs];rfl
   have e2:X.getD s []=X[s]:=by rw[aa,ag hs];rfl
   rw[e1,e2];exact vl _ (hX _ (aL hs)) c
  rcases qZ i ps.length with z | z | z
  ·rw[if_neg (by lia),cw,DU (by lia),DU (by lia),key (by lia) fun r hr=>wide r (ax.mpr (.inl hr))]
  ·rw[if_pos z,cw,show i=(fs.map (Cs P (yv P hd))).length+0 by lia,zR];show (yv P hd).getD c 0=_
   unfold yv;rw[Le]
  ·rw[if_neg (by lia)];obtain ⟨j,rfl⟩:∃j,i=ps.length+1+j:=⟨i - ps.length - 1,by lia⟩
   have e1:cD (fs++hd :: l2) (ps.length+1+j)=cD l2 j:=by
    have:=zR (X:=fs) (Y:=hd :: l2) (i:=j+1);rw[show fs.length+(j+1)=ps.length+1+j by lia] at this;rw[this];rfl
   have e2:cD ((fs.map (Cs P (yv P hd))++[yv P hd])++l2.map (Cs P (yv P hd))) (ps.length+1+j)=cD (l2.map (Cs P (yv P hd))) j:=by
    have:=zR (X:=fs.map (Cs P (yv P hd))++[yv P hd]) (Y:=l2.map (Cs P (yv P hd))) (i:=j);rw[ay,lf,bQ] at this;exact this
   rw[e1,e2,key (by lia) fun r hr=>wide r (ax.mpr (.inr (.tail _ hr)))]
end
theorem Co {α:Type} {v:α}:∀{l:List α},l.Nodup->v∉l->∀j,(l.set j v).Nodup
 | [],_,_,_=>C0
 | a :: l,h,hn,0=>by
  rw[eK] at h;rw[List.set_cons_zero,eK];exact ⟨fun z=>hn (.tail _ z),h.2⟩
 | a :: l,h,hn,j+1=>by
  rw[eK] at h;rw[List.set_cons_succ,eK];refine ⟨fun z=>?_,Co h.2 (fun z=>hn (.tail _ z)) j⟩;rcases cM z with z | z
  ·exact h.1 z
  ·exact hn (by rw[z];exact .head _)
structure lH (K:PySem.W.Frag) (A:Addr->Prop) (H:Hp) (n:Nat) (C:V->Rat->Prop) (m p l b q0:Addr) (us ws vs:List V):Prop where
 bag:jo H b
 inn:Inner H b q0
 gm:H m=some (.lst us)
 gp:H p=some (.lst ws)
 gl:H l=some (.lst vs)
 lm:us.length=n
 row:∀x∈us++vs++ws,gF K A H n (C x) x
 nd:(us++vs++ws).Nodup
section
variable {K:PySem.W.Frag} {A:Addr->Prop} {H H':Hp} {n:Nat} {C C':V->Rat->Prop} {m p l b q0 q:Addr} {us ws vs zs:List V} {y:Rat} {v:V}
theorem lH.same (h:lH K A H n C m p l b q0 us ws vs) (e:aO H H'):lH K A H' n C m p l b q0 us ws vs :=
 ⟨h.bag.same e,(e.upto (p:=b)).2 _ h.inn,e _ _ h.gm,e _ _ h.gp,e _ _ h.gl,h.lm,fun x hx=>(h.row x hx).same e,h.nd⟩
theorem lH.upto (h:lH K A H n C m p l b q0 us ws vs) (M:E5 A m p l b q0) (u:dc b H H') (B':jo H' b):lH K A H' n C m p l b q0 us ws vs :=
 ⟨B',u.2 _ h.inn,u.other M.mb h.gm,u.other M.pb h.gp,u.other M.lb h.gl,h.lm,fun x hx=>(h.row x hx).upto u h.bag M.ab,h.nd⟩
theorem lH.weak (h:lH K A H n C m p l b q0 us ws vs) (w:∀x∈us++vs++ws,∀y,C x y->C' x y):lH K A H n C' m p l b q0 us ws vs :=
 ⟨h.bag,h.inn,h.gm,h.gp,h.gl,h.lm,fun x hx=>(h.row x hx).weak (fun _ z=>z) (w x hx),h.nd⟩
theorem lH.put (h:lH K A H n C m p l b q0 us ws vs) (M:E5 A m p l b q0) (aq:A q) (hq:H q=some (.lst zs)) (hv:cF K H y v) (hc:C (.ref q) y) (j:Nat):lH K A (upd H q (.lst (zs.set j v))) n C m p l b q0 us ws vs:=by
 have ne:∀{z},¬A z->z≠q:=fun h e=>h (by rw[e];exact aq)
 refine ⟨h.bag.upd h.inn (ne M.ab).symm (ne M.aq).symm,h.inn.upd (ne M.ab).symm,by rw[bA (ne M.am)];exact h.gm,by rw[bA (ne M.ap)];exact h.gp,by rw[bA (ne M.al)];exact h.gl,h.lm,fun x hx=>?_,h.nd⟩;by_cases e:x=.ref q
 ·subst e;exact (h.row _ hx).put hq hv hc j
 ·obtain ⟨q1,qs,rfl,a1,r1,l1,c1⟩:=h.row x hx;exact ⟨q1,qs,rfl,a1,r1.updL hq (fun z=>e (by rw[z])),l1,c1⟩
theorem lH.set (h:lH K A H n C m p l b q0 us ws vs) (M:E5 A m p l b q0) (hx:gF K A H n (C v) v) (hn:v∉us++vs++ws) (j:Nat):lH K A (upd H m (.lst (us.set j v))) n C m p l b q0 (us.set j v) ws vs:=by
 have mem:∀x∈us.set j v++vs++ws,x=v\/x∈us++vs++ws:=fun x hx=>by
  rcases ax.mp hx with hx | hx
  ·rcases ax.mp hx with hx | hx
   ·rcases cM hx with hx | hx
    ·exact .inr (by simp [hx])
    ·exact .inl hx
   ·exact .inr (by simp [hx])
  ·exact .inr (by simp [hx])
 refine ⟨h.bag.upd h.inn M.mb M.mq,h.inn.upd M.mb,aQ,by rw[bA M.mp.symm];exact h.gp,by rw[bA M.ml.symm];exact h.gl,by rw[fH];exact h.lm,fun x hx'=>?_,?_⟩
 ·rcases mem x hx' with rfl | hx'
  ·exact hx.other h.gm M.am
  ·exact (h.row x hx').other h.gm M.am
 ·have nd:=h.nd;rw[cw] at nd hn ⊢;obtain ⟨n1,n2,n3⟩:=dz.mp nd;refine dz.mpr ⟨?_,n2,fun a ha c hc=>?_⟩
  ·rcases dg j us.length with z | z
   ·exact Co n1 (fun z'=>hn (ax.mpr (.inl z'))) j
   ·rw[List.set_eq_of_length_le z];exact n1
  ·rcases cM ha with ha | rfl
   ·exact n3 a ha c hc
   ·exact fun z=>hn (ax.mpr (.inr (by rw[z];exact hc)))
end
theorem HV {M W:Nat} {x:Rat} (h0:0 < M) (h1:M<=2^800) (hW:W<=2^140) (h:Fr M W x):pQ x :=
 Gv h0 (ah h1 (ao (by decide) (by decide))) (ah hW (ao (by decide) (by decide))) h
theorem MU {t V c:Nat} (ht:t<=3) (hV:V<=2^20) (hc:c<=9):c*(9^t*V)<=2^140:=by
 have h1:9^t<=9^3:=ao (by decide) ht;have h2:c*(9^t*V)<=9*(9^3*2^20):=aD hc (aD h1 hV);exact ah h2 (ah (show 9*(9^3*2^20)<=2^40 by decide) (ao (by decide) (by decide)))
theorem A5 {α:Type} {l:List α} {v:α} (h:l.Nodup) (hn:v∉l):(l++[v]).Nodup:=dz.mpr ⟨h,by simp,fun a ha c hc=>by rw[bU.mp hc];exact fun z=>hn (by rw[<- z];exact ha)⟩
section
variable {K:PySem.W.Frag} {a:Addr} {xs:List V} {g:TG} {tf:TT} {te:TE} {Q:VK} {σ₀:St} {H:Hp} {α β:Type}
theorem CH {n:Nat} {b:Addr} (G:Hp->β->V->Prop) (C:β->Prop) (hB:jo H b) (hl:n<=1000) (hG:∀{H' H'' c x},G H' c x->dc b H' H''->jo H' b->G H'' c x)
  (hA:∀{H' c x},G H' c x->∃q,x=V.ref q/\H' q≠none)
  (hs:∀(i:Nat) H' NY NN,i < n->dc b H H'->jo H' b->(∀y c H2,dc b H' H2->jo H2 b->C c->G H2 c y->(∃q,y=V.ref q/\H' q=none)->NY y H2)->wg σ₀ g tf te (.int i) H' NY NN)
  (hd:∀ys cs H' p,H p=none->dc b H H'->jo H' b->H' p=some (.lst ys)->cs.length=n->ys.Nodup->(∀c∈cs,C c)->Paired (G H') cs ys->(∃H2,H2 p=none/\Paired (G H2) cs ys)->Q (.ref p) H'):wY (E6 0 n) σ₀ g tf te Q H:=by
 refine tx (fun i ys H'=>dc b H H'/\jo H' b/\∃cs,cs.length=i/\ys.Nodup/\(∀c∈cs,C c)/\Paired (G H') cs ys) (br (bT (by lia))) ⟨(aO.refl _).upto,hB,[],rfl,C0,(fun _ z=>nomatch z),.nil⟩ ?_ ?_
 ·rintro i ys H' hi hlen ⟨u,B,cs,lc,nd,hc,pr⟩;rw[Ap];refine hs i H' _ _ hi u B fun y c H2 u2 B2 cc gy ⟨q,ey,nq⟩=>⟨u.trans u2,B2,cs++[c],by simp [lc],A5 nd (fun z=>by obtain ⟨c',_,gc⟩:=dS pr z;obtain ⟨q',e',h'⟩:=hA gc;rw[ey] at e';cases e';exact h' nq),Ii hc cc,cu (Paired.imp' (fun _ _ z=>hG z u2 B) pr) (.cons gy .nil)⟩
 ·rintro ys H' hy ⟨u,B,cs,lc,nd,hc,pr⟩ p hp;have s:aO H' (upd H' p (.lst ys)):=aO.new hp;exact hd ys cs _ p (u.none B hp) (u.same s) (B.same s) aQ lc nd hc (Paired.imp' (fun _ _ z=>hG z s.upto B) pr) ⟨H',hp,pr⟩
end
structure GI (K:PySem.W.Frag) (A:Addr->Prop) (n:Nat) (C:Rat->Prop) (m p l b q0:Addr) (us ws vs:List V) (H0 H:Hp):Prop where
 mix:lH K A H n (fun _=>C) m p l b q0 us ws vs
 gp:H p=some (.lst ws)
 gl:H l=some (.lst vs)
 kp:jl A b m H0 H
section
variable {K:PySem.W.Frag} {A:Addr->Prop} {n:Nat} {C:Rat->Prop} {m p l b q0 q:Addr} {us ws vs:List V} {H0 H H':Hp} {y:Rat} {v:V}
theorem GI.same (h:GI K A n C m p l b q0 us ws vs H0 H) (e:aO H H'):GI K A n C m p l b q0 us ws vs H0 H':=⟨h.mix.same e,e _ _ h.gp,e _ _ h.gl,h.kp.same e⟩
theorem GI.upto (h:GI K A n C m p l b q0 us ws vs H0 H) (M:E5 A m p l b q0) (u:dc b H H') (B:jo H' b):GI K A n C m p l b q0 us ws vs H0 H':=⟨h.mix.upto M u B,u.other M.pb h.gp,u.other M.lb h.gl,h.kp.upto u⟩
theorem GI.row (h:GI K A n C m p l b q0 us ws vs H0 H) {x:V} (hx:x∈ws\/x∈vs):gF K A H n C x:=h.mix.row x (by rcases hx with hx | hx <;> simp [hx])
theorem GI.put (h:GI K A n C m p l b q0 us ws vs H0 H) (M:E5 A m p l b q0) (hx:V.ref q∈ws\/V.ref q∈vs) (hv:cF K H y v) (hc:C y) (j:Nat):∃zs,H q=some (.lst zs)/\zs.length=n/\GI K A n C m p l b q0 us ws vs H0 (upd H q (.lst (zs.set j v))):=by
 obtain ⟨q',zs,qs,e,a,g,lz,_⟩:=(h.row hx).at;cases e;have ne:∀{z},¬A z->z≠q:=fun h e=>h (by rw[e];exact a)
 exact ⟨zs,g,lz,h.mix.put M a g hv hc j,by rw[bA (ne M.ap)];exact h.gp,by rw[bA (ne M.al)];exact h.gl,h.kp.upd (.inl a)⟩
end
def J8 (K:PySem.W.Frag):Sp:=fun vs H Q _=>∃(b:Addr) (n w:Nat) (way first:Int),vs=[.ref b,.int n,.int way,.int first,.int w]/\jo H b/\n<=8/\1<=w/\w<=1000000 /\
 ∀r us H',H r=none->H' r=some (.lst us)->us.length=n->us.Nodup->(∀x∈us,gF K (fun q=>H q=none/\q≠r) H' n (Dr (max w 6)) x)->jo H' b->dc b H H'->Q (.ref r) H'
def PtF (n i o w c:Nat) (mv pt lk:List (List Rat)):Prop:=∃M V1:Nat,0 < M/\GF M V1 mv/\GF M V1 pt/\GF M V1 lk/\((w<=9/\M=2520/\V1=9^3*9)\/(9 < w/\M<=2^(c*((n+i+o)*n))/\V1=9^3*2^c))
theorem DB {mv pt:List (List Rat)} {M V1 a c n0:Nat} (M0:0 < M) (hM:M<=2^a) (hn:mv.length<=n0) (hV:(n0+1)*V1<=2^c) (fm:GF M V1 mv) (fp:GF M V1 pt) (h4:a<=400/\c<=40/\n0*(n0*(a+c)+4)<=1740/\n0*(n0*(n0*(a+c)+4)+a+c+4)<=8900):uv mv pt a c:=by
 obtain ⟨h1,h2,h3,h5⟩:=h4;have e1:mv.length*(a+c)<=n0*(a+c):=aw _ hn;have e2:mv.length*(mv.length*(a+c)+4)<=n0*(n0*(a+c)+4):=aD hn (by lia);have e3:mv.length*(mv.length*(mv.length*(a+c)+4)+a+c+4)<=n0*(n0*(n0*(a+c)+4)+a+c+4):=aD hn (by lia);exact ⟨M,V1,M0,hM,ah (aw _ (by lia)) hV,fm,fp,h1,h2,by lia,by lia⟩
def L7 (K:PySem.W.Frag):Sp:=fun vs H Q _=>∃b:Addr,vs=[.ref b]/\jo H b /\
 ∀r mv pt lk H',hJ K H H' r mv pt lk->6<=mv.length->fD mv pt lk->GF 1 (9^3) mv->GF 1 (9^3) pt->GF 1 (9^3) lk->jo H' b->dc b H H'->Q (.ref r) H'
theorem DJ {rs:List Nat} {v v':Nat->iI}:∀{k:Nat} (pre:List iI),(∀j,j < k->∀r∈rs,v j r=v' j r)->ko rs (pre++ju v k)=ko rs (pre++ju v' k)
 | 0,_,_=>rfl
 | k+1,pre,h=>by
  show ko rs (pre++v k :: ju v k)=ko rs (pre++v' k :: ju v' k)
  rw[Lq (h k (by lia))];have:=DJ (k:=k) (pre++[v' k]) fun j hj=>h j (by lia)
  simpa using this
theorem cw_map {τ:iI->iI} {v:Nat->iI}:∀{k:Nat},(ju v k).map τ=ju (fun j=>τ (v j)) k
 | 0=>rfl
 | k+1=>by show τ (v k) :: _=_;rw[cw_map];rfl
theorem Lp {N : Nat} {W : Nat → Nat} : ∀ {rs : List Nat} {vs : List iI}, vs.length ≤ N → (∀ v ∈ vs, ∀ r ∈ rs, Fr 1 (W r) (v r)) → Fr 1 ((rs.map fun r => N * W r).foldr (· * ·) 1) (ko rs vs)
  | [], [], _, _ => by show Fr 1 1 1; exact (Fr.int (i := 1) (by decide))
  | [], _ :: _, _, _ => by show Fr 1 _ 0; exact Fr.zero
  | r :: rs, vs, hl, h => by
    have := KU (F := fun ws => ko rs ws) (r := r) (B := (rs.map fun r => N * W r).foldr (· * ·) 1) (W := W r) (post := vs) (pre := []) (s := 1) (fun ws h1 h2 => Lp (by rw [cV] at h2; lia) fun v hv r' hr' => h v (by simpa using h1 v hv) r' (.tail _ hr')) (fun w hw => h w hw r (.head _)) (Fr.int (i := 1) (by decide));refine this.mono ?_;show _ ≤ N * W r * _
    rw [bP N];exact aw _ hl
section
variable {rows fs ls:List (List Rat)} {n r M W Wv Wb k P:Nat} {Pm Y Z B E a:Nat->Nat->Rat} {d:Rat} {ps:List Nat} {rs:List (List Rat)}
def Sh (rows:List (List Rat)) (n S:Nat):Prop:=2*S<=3990/\∃J:Nat->List (List Rat)->List Nat->Prop,J 0 rows []/\(∀P rs ps,J P rs ps->(∀i,ps.length<=i->i < rs.length->cD rs i P=0)->J (P+1) rs ps) /\
 (∀P fs ls ps t,J P (fs++ls) ps->fs.length=ps.length->t < ls.length->P < n->(ls.getD t []).getD P 0≠0->J (P+1) ((fs.map (Cs P (yv P (ls.getD t [])) )++[yv P (ls.getD t [])])++(ls.eraseIdx t).map (Cs P (yv P (ls.getD t [])))) (ps++[P])) /\
 (∀P rs ps,J P rs ps->CW rows n P rs ps)/\∀P rs ps,J P rs ps->P<=n->∀i,i < rows.length->∃D:Nat,0 < D/\D<=2^S/\∀c,Tp D (2^S) (cD rs i c)
theorem N5.lws {w a:Nat} (F:N5 rows n w a) (hw:∀xs∈rows,xs.length=n):Sh rows n (min rows.length n*(w+4)+a):=by
 obtain ⟨_,_,_,_,_,_,_,_,e⟩:=id F;refine ⟨e,CW rows n,CW.start hw,fun _ _ _ h z=>h.skip z,fun _ _ _ _ _ h hf ht hP hne=>h.lean hf ht hP hne,fun _ _ _ h=>h,fun P rs ps h hP i hi=>?_⟩;obtain ⟨D,D0,D1,D2⟩:=h.sz F hP hi;exact ⟨D,D0,D1,fun c=>(D2 c).mono (ao (by decide) (by lia))⟩
end
section
variable {rows R R1 R2 mv pt:List (List Rat)} {n r M V1 W W' Wv Wb k P:Nat} {Pm Y Z B E a:Nat->Nat->Rat} {d:Rat} {ps ps1 ps2:List Nat} {rs:List (List Rat)}
theorem Og (h0:0 < M) (h3:∀xs∈rows,∀x∈xs,Tp M W x):∀i,i < rows.length->∀c,Fr 1 W (eF (rows.map iu) i c):=fun i hi c=>by
 have hx:=getD_in (e:=[]) hi;rw[Ar hi];unfold cD;generalize rows.getD i []=xs at hx ⊢;by_cases hc:c < xs.length
 ·have t:=h3 xs hx _ (getD_in (e:=0) hc);obtain ⟨s,e,b⟩:=Au t h0 (rY (xs:=xs)) (rZ (aE.mpr ⟨_,getD_in (e:=0) hc,rfl⟩)) (Af h0 (h3 xs hx));rw[dw,e];exact Fr.int b
 ·rw[aa,aN (by lia)];show Fr 1 W (_*0)
  rw[jI];exact Fr.zero
theorem Li {V:Nat} {f:Nat->Rat}:∀{k:Nat},(∀j,j < k->Fr 1 V (f j))->Fr 1 (k*V) (bM k f)
 | 0,_=>Fr.zero
 | k+1,h=>by
  rw[df];exact (Li fun j hj=>h j (by lia)).add (h k (by lia))
theorem yA {f:Nat->Rat} {a:Nat}:∀{b:Nat},bM (a+b) f=bM a f+bM b fun t=>f (a+t)
 | 0=>by show bM a f=bM a f+0;grind
 | b+1=>by
  show bM (a+b) f+f (a+b)=_+(bM b _+f (a+b))
  rw[yA];grind
end
section
variable {rows R R1 R2 mv pt:List (List Rat)} {n t t2 a c:Nat} {ps ps1 ps2:List Nat}
theorem HW {M W:Nat} (h:∀i,i < rows.length->∀c,Tp M W (cD rows i c)):∀xs∈rows,∀x∈xs,Tp M W x:=fun xs hx x hx'=>by
 obtain ⟨i,hi,rfl⟩:=b9 hx;obtain ⟨c,hc,rfl⟩:=b9 hx';have:=h i hi c;unfold cD at this;rw[aa (l:=rows),ag hi] at this;have e:(some rows[i]).getD []=rows[i]:=rfl;rw[e,aa,ag hc] at this;exact this
end
theorem Kj:typeLookup (.type "list_reverseiterator") "__len__"=pure none:=by
 rw[typeLookup_type,builtinLookup_eq_fast]
 kernel_rfl
theorem Mn:typeLookup (.type "list_reverseiterator") "__length_hint__"=pure (some (.builtin "list_reverseiterator.__length_hint__")):=by
 rw[typeLookup_type,builtinLookup_eq_fast]
 kernel_rfl
section
variable {prog:Program} {w:World} {A:Around} {E:Value->Shared->Prop} {s:Shared}
theorem Ml {it l:Addr} {i:Int} {Q:Bool->Shared->Prop} (hit:s.heap.IsRevIter it l i) (q:Q false s):wpAny (model prog w) A (Builtin.List.listLengthHint (.ref it)) Q E s:=by
 unfold Builtin.List.listLengthHint;refine wpAny_bind (wpAny_specialOf hit.typeIs Kj ?_);show wpAny _ A (specialOf (Value.ref it) (Str.ofString "__length_hint__") >>= _) Q E s
 refine wpAny_bind (wpAny_specialOf hit.typeIs Mn ?_);generalize hid:("list_reverseiterator.__length_hint__":String)=id0
 dsimp only
 rw[show splitId id0=some ("list_reverseiterator","__length_hint__") from by subst hid;decide +kernel];subst hid;refine wpAny_bind (wpAny_isInstance (T:="list_reverseiterator") (b:=true) hit.typeIs (by rw[isSubtype_type];kernel_rfl) ?_);refine wpAny_ite_split (fun z=>absurd z (by decide)) (fun _=>?_);refine wpAny_ite_split (fun _=>?_) (fun z=>absurd (by decide +kernel) z);exact wpAny_ite_split (fun z=>absurd z (by decide +kernel)) (fun _=>wpAny_pure q)
theorem Mo {R:Result->Shared->Prop} {I l S:Addr} {items:Array Value} {res:Value} {c0:Nat} (hh:A.handled=none) (hit:s.heap.IsRevIter I l ((items.size:Int) - 1)) (hl:s.heap.IsList l items) (nI:l≠I) (nS:S≠I) (nL:S≠l) (hn:items.size<=sizeLine) (hS:s.heap.get? S=some { cls:=.type "list",data:=.seq #[] c0 })
  (hR:∀h' tk acc c,(∀b o,b≠S->b≠I->s.heap.get? b=some o->h'.get? b=some o)->h'.get? S=some { cls:=.type "list",data:=.seq acc c }->ItemsOf (fun i v=>items[items.size - 1 - i]?=some v) acc items.size->R (.ok (.ret res)) { s with heap:=h',toks:=tk }) :
  wpAny (model prog w) A.in1 (Builtin.List.listExtendWith (.ref S) (.ref I) res) (fun fin s2=>match fin with | .done f=>R (.ok f) s2 | .again c=>c.quiet=true/\codeAny (model prog w) A c R s2) (fun e s2=>R (.error e) s2) s:=by
 have W:=(Walks.listRev (prog:=prog) (w:=w) (A:=A.in1) hh I l nI items).toS;unfold Builtin.List.listExtendWith;refine wpAny_bind (wpAny_typeOf hit.typeIs ?_);rw[if_neg (by simp [Builtin.List.listSameRef,nS])];refine wpAny_bind (wpAny_pyIter_revIter hit ?_);refine wpAny_bind (wpAny_holding (Ml hit ?_));refine wpAny_ite_split (fun z=>absurd z (by decide +kernel)) (fun _=>?_);have h0:s.heap.IsRevIter I l ((items.size:Int) - 1 - ((0:Nat):Int)):=by simpa using hit
 refine wpAny_pure ⟨plainId_quiet F.plain_extend_loop _,codeAny_extend_loopS W hn S (by simp [nS,nL]) res items.size 0 s #[] c0 rfl (bh _) ⟨bh _,h0,hl⟩ hS (ItemsOf.nil _) fun s2 acc c hm h2 hi=>?_⟩;rw[Moved.eq_with hm];exact hR s2.heap s2.toks acc c (fun b o n1 n2 e=>hm.heap b o (by simp [n1,n2]) e) h2 hi
theorem Mm {Q : Value → Shared → Prop} {I l : Addr} {items : Array Value} (hh : A.handled = none) (hit : s.heap.IsRevIter I l ((items.size : Int) - 1)) (hl : s.heap.IsList l items) (nI : l ≠ I) (hn : items.size ≤ sizeLine)
    (hQ : ∀ h' tk acc c, (∀ b o, b ≠ I → s.heap.get? b = some o → h'.get? b = some o) → h'.get? s.heap.objs.size = some { cls := .type "list", data := .seq acc c } → ItemsOf (fun i v => items[items.size - 1 - i]? = some v) acc items.size → Q (.ref s.heap.objs.size) { s with heap := h', toks := tk }) :
    wpAny (model prog w) A (call (.type "list") [.ref I]) Q E s := by
  refine callType_codes (Q₁ := fun x s2 => x = .ref s.heap.objs.size /\ s2 = { s with heap := s.heap.push { cls := .type "list", data := .seq #[] } }) F.called_list (F.typeCall_list_1 _) F.entry_list_init (code_list_new _ ⟨rfl, rfl⟩) fun x s2 hx => ?_
  obtain ⟨rfl, rfl⟩ := hx;have up : ∀ b o, s.heap.get? b = some o → (s.heap.push { cls := .type "list", data := .seq #[] }).get? b = some o := fun b o e => Heap.get?_push_of_some _ e
  have hS : (s.heap.push { cls := .type "list", data := .seq #[] }).get? s.heap.objs.size = some { cls := .type "list", data := .seq #[] } := Heap.get?_push_size _ rfl
  have lI : I ≠ s.heap.objs.size := by
    obtain ⟨o, ho, _⟩ := hit;exact ck (Heap.lt_size ho)
  have lL : l ≠ s.heap.objs.size := by
    obtain ⟨o, ho, _⟩ := hl;exact ck (Heap.lt_size ho)
  refine ⟨⟨_, hS, rfl⟩, F.args_list_init_2 _ _, ?_⟩;show wpAny _ A.in1.in1 (do let old <- Builtin.List.listItems (.ref s.heap.objs.size); Builtin.List.listUpdate (.ref s.heap.objs.size) (fun _ => #[]); letGo old.toList.reverse; Builtin.List.listExtendWith (.ref s.heap.objs.size) (.ref I) .none) _ _ _
  refine wpAny_bind ?_;unfold Builtin.List.listItems;refine wpAny_bind (wpAny_seqItems hS rfl (wpAny_pure ?_));refine wpAny_bind (m := Builtin.List.listUpdate (.ref s.heap.objs.size) (fun _ => #[])) (wpAny_updateSeq hS rfl ?_);have h3 := Heap.get?_update_self (Obj.mapSeq (fun _ => (#[] : Array Value))) hS rfl;have o3 : ∀ b o, b ≠ s.heap.objs.size → (s.heap.push { cls := .type "list", data := .seq #[] }).get? b = some o → ((s.heap.push { cls := .type "list", data := .seq #[] }).update s.heap.objs.size (Obj.mapSeq (fun _ => (#[] : Array Value)))).get? b = some o := fun b o nb e => (Heap.get?_update_other _ _ (Ne.symm nb)).trans e
  refine wpAny_bind (wpAny_letGo ?_);refine Mo (A := A.in1) hh (hit.at fun o e => o3 _ _ lI (up _ _ e)) (hl.at fun o e => o3 _ _ lL (up _ _ e)) nI lI.symm lL.symm hn h3 fun h' tk acc c hk h2 hi => ?_
  exact ⟨rfl, hQ h' tk acc c (fun b o nb e => hk b o (ck (Heap.lt_size e)) nb (o3 _ _ (ck (Heap.lt_size e)) (up _ _ e))) h2 hi⟩
end
section
variable {X:Cx}
def Aw (K:PySem.W.Frag) (ta:TA):TE:=fun σ H Q=>ta σ H fun vs H1=>∃l xs,vs=[.ref l]/\b6 K H1 l xs/\xs.length<=1000/\∀L H',aO H1 H'->H1 L=none->H' L=some (.lst xs.reverse)->Q (.ref L) H'
theorem Eb:∀{xs:List V} {us:List Value},cR xs us->cR xs.reverse us.reverse
 | _,_,.nil=>.nil
 | _,_,.cons h r=>by
  rw[yt,yt];exact cR.append (Eb r) (.cons h .nil)
theorem AV (K:PySem.W.Frag) {e1:Expr} {ta:TA} {p p2 pos pos2:Pos} (hg:Gl X "list") (hm:X.mg "list"=none) (hg2:Gl X "reversed") (hm2:X.mg "reversed"=none) (ha:PA X [e1] ta) (hK:X.K=K:=by rfl) (hc:X.calm=true:=by rfl)
  (hs:starEach [e1] X.env=[(false,eval e1 X.env)]:=by rfl)
  (hs3:starEach [Expr.Call (.Name "reversed" p2) [e1] [] pos2] X.env=[(false,eval (.Call (.Name "reversed" p2) [e1] [] pos2) X.env)]:=by rfl) :
  PE X (.Call (.Name "list" p) [.Call (.Name "reversed" p2) [e1] [] pos2] [] pos) (Aw K ta):=by
 subst hK;intro pins s σ H Q I h;refine wpAny_Call_Name_kw (md I hg hm boot_list ?_);refine PyProof.Rows.callWith_type1 ?_ (by rw[hs3];rfl) rfl;rw[hs3];show wpAny _ _ (spliced ((false,eval (.Call (.Name "reversed" p2) [e1] [] pos2) X.env) :: [])) _ _ s
 refine Calls.spliced_cons ?_;refine Call_ (md I hg2 hm2 boot_reversed (PyProof.Rows.callWith_type1 (gG (ha pos2 pins s σ H _ I h) fun us s1 ⟨vs,H1,I1,r1,q1⟩=>?_) hs rfl));obtain ⟨l,xs,e,hl,hn,q⟩:=q1;subst e;obtain ⟨u,rfl,ru⟩:=vals1 r1;cases ru;obtain ⟨its,rv,pl,hz⟩:=I1.list hl;have hlen:=rv.length;have pI:=pl.isList;refine call_reversed_list pI ?_;refine Calls.spliced_nil ?_;have kp:∀b o,s1.heap.get? b=some o->(s1.heap.push (revObj l ((its.toArray.size:Int) - 1))).get? b=some o:=fun b o e=>Heap.get?_push_of_some _ e
 have nI:l≠s1.heap.objs.size:=by
  obtain ⟨o,ho,_⟩:=pI;exact ck (Heap.lt_size ho)
 refine Mm (I.ok.hd hc) (I:=s1.heap.objs.size) (l:=l) (items:=its.toArray) ⟨_,Heap.get?_push_size _ rfl,rfl,rfl⟩ (pI.at fun o e=>kp _ _ e) nI (by rw[aS];lia) fun h' tk acc c hk hS hacc=>?_
 have sz:s1.heap.objs.size<=(s1.heap.push (revObj l ((its.toArray.size:Int) - 1))).objs.size:=by rw[Heap.size_push];exact yr _
 have nS:=I1.hok.fresh sz
 have ea:acc.toList=its.reverse:=by
  apply ip;intro j;rcases dg j its.length with z | z
  ·have hj:j < acc.toList.length:=by rw[Array.length_toList,hacc.1,aS];exact z
   have:=hacc.2 j acc.toList[j] (by rw[<- Array.getElem?_toList];exact ag hj);rw[ag hj,List.getElem?_reverse z];simpa using this.symm
  ·rw[aN (by rw[Array.length_toList,hacc.1,aS];exact z),aN (by rw[fM];exact z)]
 have vs':cR xs.reverse acc.toList:=by rw[ea];exact Eb rv
 have sl:xs.reverse.length<=sizeLine:=by rw[fM];exact hz
 refine ⟨.ref _,_,I1.laid (o:=.lst xs.reverse) (fun b o e=>hk b o (ck (Heap.lt_size e)) (kp b o e)) sz ?_,rfl,q _ _ (aO.new nS) nS aQ⟩;exact ⟨sl,acc.toList,c,vs',by simpa using hS⟩
end
theorem EF {F G:List iI->Rat} {r:Nat} {g:Nat->Rat} {c:Rat} (hF:∀ws:List iI,F (ws.map fun v i=>g i*v i)=c*G ws):∀(post pre:List iI) (s:Rat),BH F r (pre.map fun v i=>g i*v i) (post.map fun v i=>g i*v i) s=g r*c*BH G r pre post s
 | [],_,_=>by show (0:Rat)=_*0;grind
 | v :: post,pre,s=>by
  have i1:=hF (pre++post);have i2:=EF (r:=r) hF post (pre++[v]) (-s);simp only[dO,ir,List.map_nil,BH] at i1 i2 ⊢;rw[i1,i2];grind
theorem xW {g : Nat → Rat} : ∀ (rs : List Nat) (vs : List iI), ko rs (vs.map fun v i => g i * v i) = (rs.map g).foldr (· * ·) 1 * ko rs vs
  | [], [] => by show (1 : Rat) = 1 * 1; grind
  | [], _ :: _ => by show (0 : Rat) = 1 * 0; grind
  | r :: rs, vs => by
    have := EF (r := r) (F := fun ws => ko rs ws) (G := fun ws => ko rs ws) (c := (rs.map g).foldr (· * ·) 1) (fun ws => xW rs ws) vs [] 1;exact this
theorem Dm {g:Nat->Rat}:∀{rs:List Nat},(∀r∈rs,g r≠0)->(rs.map g).foldr (·*·) 1≠0
 | [],_=>by show (1:Rat)≠0;decide
 | r :: rs,h=>by
  show g r*_≠0
  have h1:=h r (.head _);have h2:=Dm fun r' hr'=>h r' (.tail _ hr')
  intro z;rcases BD.mp z with z | z
  ·exact h1 z
  ·exact h2 z
section
variable {rows R X K0:List (List Rat)} {due L:List Rat} {n m M W D E W0 W1:Nat} {ps:List Nat}
theorem CD (hw:∀xs∈rows,xs.length=n) (hW:1<=W) (h0:0 < M) (h3:∀xs∈rows,∀x∈xs,Tp M W x) (RR:cC rows n R ps):∃pm:Nat->Nat,(∀i j,i < ps.length->j < ps.length->pm i=pm j->i=j)/\(∀t,t < ps.length->pm t < rows.length)/\ps.length<=rows.length/\ko (oa pm ps.length) (ju (fun j i=>cD rows i (ps.getD j 0)) ps.length)≠0:=by
 have ent:=Og h0 h3;obtain ⟨ls,ps2,d,I⟩:=Ce hw hW (by rw[ak];exact ent) n (ar _);obtain ⟨_,_,⟨pm,B⟩,E⟩:=I;rw[ak] at B E
 have RF:E3 rows.length n (cD rows) ps2.length (fun j=>ps2.getD j 0) (fun i c=>eF ls i c / d):=E3.other (E.done fun i hi c hc=>Br (n:=n) (fun zs hz=>by
  obtain ⟨xs,hx,rfl⟩:=aE.mp hz;rw[xt];exact hw xs hx) hc) GR GS
 obtain ⟨e1,e2,e3⟩:=RF.uniq RR.2.2 (fun _ hi=>fj.row hi) (fun _ hi=>fj.row hi);have km:=B.km;have dt:=B.det;have d0:=B.d0
 have e4:ko (oa pm ps2.length) ([]++ju (fun j r=>eF (rows.map iu) r (ps2.getD j 0)) ps2.length)=ko (oa pm ps2.length) ([]++ju (fun j i=>uZ rows i*cD rows i (ps.getD j 0)) ps2.length):=DJ [] fun j hj r hr=>by
  obtain ⟨t,ht,rfl⟩:=nO hr;rw[Ar (B.rng t (by lia)),e2 j hj];rfl
 have e5:ju (fun j i=>uZ rows i*cD rows i (ps.getD j 0)) ps2.length=(ju (fun j i=>cD rows i (ps.getD j 0)) ps2.length).map fun v i=>uZ rows i*v i:=(cw_map (τ:=fun v i=>uZ rows i*v i)).symm
 refine ⟨pm,fun i j hi hj e=>B.inj i j (by lia) (by lia) e,fun t ht=>B.rng t (by lia),by lia,?_⟩;rw[<- e1];intro z;apply d0;rw[dt];have e4:ko (oa pm ps2.length) (ju (fun j r=>eF (rows.map iu) r (ps2.getD j 0)) ps2.length)=ko (oa pm ps2.length) (ju (fun j i=>uZ rows i*cD rows i (ps.getD j 0)) ps2.length):=e4;rw[e4,e5,xW,z,jI]
theorem NH (hd:due.length=X.length) (hw:∀xs∈X,xs.length=n) (RR:cC (cY X due) (n+1) R ps) (hn:n∉ps) {i:Nat} (hi:i < X.length):due.getD i 0=bM ps.length fun j=>cD R j n*cD X i (ps.getD j 0):=by
 obtain ⟨j1,j2⟩:=zu hd hw hi;have sp:=RR.2.2.span i (by rw[rA hd];exact hi);have:=RR.2.2.coef sp n;rw[<- j2,this];refine aV fun j hj=>?_
 have lo:=RR.2.2.low j hj;have ne:ps.getD j 0≠n:=fun z=>hn (by rw[<- z];exact getD_in hj)
 rw[j1 _ (by lia)];exact dw _ _
theorem Ht (RR:cC X (n+1) R ps) {y:Rat} (hy:y∈fY R ps n):y=0\/∃j,j < ps.length/\y=cD R j n:=by
 obtain ⟨c,hc,rfl⟩:=b9 hy;have lc:(fY R ps n).length=n:=lQ;have e:(fY R ps n)[c]=(fY R ps n).getD c 0:=by rw[aa,ag hc];rfl
 rw[e];by_cases hp:c∈ps
 ·obtain ⟨j,hj,ej⟩:=b9 hp
  right
  refine ⟨j,hj,?_⟩;have ej':ps.getD j 0=c:=by rw[aa,ag hj];exact ej
  have:=Kg (R:=R) (ps:=ps) (n:=n) (j:=ps.length) (c:=c) (by lia);unfold fY;rw[this,jv hj fun i hi ne=>if_neg fun z=>?_,if_pos ej'];rcases dg i j with y | y
  ·have:=RR.2.2.inc i j y hj
   lia
  ·have:=RR.2.2.inc j i (by lia) hi
   lia
 ·exact .inl (Mi hp)
theorem Pt {N Wx:Nat} {rs:List Nat} {vs:List iI} (hl:vs.length<=N) (h:∀v∈vs,∀r∈rs,Fr 1 Wx (v r)):∃z:Int,ko rs vs=(z:Rat)/\z.natAbs<=(N*Wx)^rs.length:=by
 have f:=zv hl h;obtain ⟨z,ez⟩:=sU f;rw[ez] at f;exact ⟨z,ez,sT f⟩
theorem Ox (hK:∀xs∈K0,xs.length=n) (hL:L.length=n) (n15:n<=15) (D0:0 < D) (E0:0 < E) (w0:1<=W0) (w1:1<=W1) (tk:∀xs∈K0,∀x∈xs,Tp D W0 x) (tl:∀x∈L,Tp E W1 x) (RR:cC (cY (aW K0 n) L) (K0.length+1) R ps) (hn:K0.length∉ps) :
  ∃q:Nat,0 < q/\q<=(16*W0)^n/\∀y∈fY R ps K0.length,Tp (E*q) (D*(n*(W1*(16*W0)^n))) y:=by
 have lt:(aW K0 n).length=n:=bZ;have wt:∀xs∈aW K0 n,xs.length=K0.length:=jU;have hd:L.length=(aW K0 n).length:=by rw[lt];exact hL
 have tfn:∀i,i < n->∀j,cD (aW K0 n) i j=cD K0 j i:=fun i hi j=>by
  unfold cD;rw[aa (l:=aW K0 n),As hi];show (K0.map fun xs=>xs.getD i 0).getD j 0=_
  rw[aa,aG,aa (l:=K0)];cases K0[j]? with
  | none=>show (0:Rat)=([]:List Rat).getD i 0;rw[aa];rfl
  | some xs=>rfl
 have tkf:∀j i,Tp D W0 (cD K0 j i):=fun j i=>by
  unfold cD;rw[aa (l:=K0)];by_cases hj:j < K0.length
  ·rw[ag hj];exact mB (tk _ (aL hj)) i
  ·rw[aN (by lia)];show Tp D W0 (([]:List Rat).getD i 0)
   exact mB (by intro x z;cases z) i
 have tlf:∀i,Tp E W1 (L.getD i 0):=fun i=>mB tl i
 have tj:∀xs∈cY (aW K0 n) L,∀x∈xs,Tp (D*E) (W0*E+W1*D) x:=HW fun i hi c=>by
  rw[rA hd,lt] at hi;obtain ⟨j1,j2⟩:=zu hd wt (by rw[lt];exact hi);by_cases hc:c < K0.length
  ·rw[j1 c hc,tfn i hi];obtain ⟨z,e,b⟩:=tkf c i;exact ⟨z*E,by rw[eJ,aT,<- e,aP];grind,by rw[cH,bO];exact ah (aw _ b) (zI _ _)⟩
  ·by_cases hc2:c=K0.length
   ·rw[hc2,j2];obtain ⟨z,e,b⟩:=tlf i;exact ⟨z*D,by rw[eJ,aT,<- e,aP];grind,by rw[cH,bO];exact ah (aw _ b) (Nat.le_add_left _ _)⟩
   ·rw[Gx (xT wt) (by lia)];exact ⟨0,by rw[m8];rfl,bh _⟩
 obtain ⟨pm,pinj,plt,kn,dne⟩:=CD (xT wt) (W:=W0*E+W1*D) (ah (bE w0 E0) (zI _ _)) (bE D0 E0) tj RR;rw[rA hd,lt] at plt kn
 have pl:∀j,j < ps.length->ps.getD j 0 < K0.length:=fun j hj=>by
  have lo:=RR.2.2.low j hj;have ne:ps.getD j 0≠K0.length:=fun z=>hn (by rw[<- z];exact getD_in hj)
  lia
 have Dne:(D:Rat)≠0:=fun z=>by
  have:((D:Int):Rat)=0:=by rw[aP];exact z
  have:=rV this
  lia
 have Ene:(E:Rat)≠0:=fun z=>by
  have:((E:Int):Rat)=0:=by rw[aP];exact z
  have:=rV this
  lia
 have rlt:∀r∈oa pm ps.length,r < n:=fun r hr=>by
  obtain ⟨t,ht,rfl⟩:=nO hr;exact plt t ht
 obtain ⟨v,ev⟩:∃v:Nat->iI,v=fun j i=>(D:Rat)*cD K0 (ps.getD j 0) i:=⟨_,rfl⟩
 have vint:∀j r,Fr 1 W0 (v j r):=fun j r=>by
  obtain ⟨z,e,b⟩:=tkf (ps.getD j 0) r;rw[ev];show Fr 1 W0 ((D:Rat)*_)
  rw[dw,e];exact Fr.int b
 have den:ko (oa pm ps.length) (ju v ps.length)≠0:=by
  have e1:ko (oa pm ps.length) ([]++ju v ps.length)=ko (oa pm ps.length) ([]++ju (fun j i=>(D:Rat)*cD (cY (aW K0 n) L) i (ps.getD j 0)) ps.length):=DJ [] fun j hj r hr=>by
   have hr:=rlt r hr;obtain ⟨j1,_⟩:=zu hd wt (i:=r) (by rw[lt];exact hr);rw[j1 _ (pl j hj),tfn r hr,ev]
  have e2:ju (fun j i=>(D:Rat)*cD (cY (aW K0 n) L) i (ps.getD j 0)) ps.length=(ju (fun j i=>cD (cY (aW K0 n) L) i (ps.getD j 0)) ps.length).map fun v i=>(fun _=>(D:Rat)) i*v i:=(cw_map (τ:=fun v i=>(D:Rat)*v i)).symm
  have e1:ko (oa pm ps.length) (ju v ps.length)=ko (oa pm ps.length) (ju (fun j i=>(D:Rat)*cD (cY (aW K0 n) L) i (ps.getD j 0)) ps.length):=e1;rw[e1,e2,xW];intro z;rcases BD.mp z with z | z
  ·exact Dm (g:=fun _=>(D:Rat)) (fun _ _=>Dne) z
  ·exact dne z
 obtain ⟨q,eq,bq⟩:=Pt (N:=16) (Wx:=W0) (rs:=oa pm ps.length) (vs:=ju v ps.length) (by rw[cw_len];lia) fun w hw r _=>by
  obtain ⟨t,_,rfl⟩:=cw_in hw;exact vint t r
 rw[uG] at bq;have up:(16*W0)^ps.length<=(16*W0)^n:=ao (by lia) kn;have q0:q≠0:=fun z=>den (by rw[eq,z];rfl)
 refine ⟨q.natAbs,by lia,ah bq up,fun y hy=>?_⟩;rcases Ht RR hy with rfl | ⟨i,hi,rfl⟩
 ·exact ⟨0,by rw[m8];rfl,bh _⟩
 ·have hW:∀r∈oa pm ps.length,(E:Rat)*L.getD r 0=bM ps.length fun j=>((E:Rat)*cD R j K0.length / D)*v j r:=fun r hr=>by
   have hr:=rlt r hr;rw[NH hd wt RR hn (i:=r) (by rw[lt];exact hr),<- dm];refine aV fun j hj=>?_
   rw[tfn r hr,ev]
   dsimp only
   grind
  have cr:=yV (v:=v) (c:=fun j=>(E:Rat)*cD R j K0.length / D) (W:=fun r=>(E:Rat)*L.getD r 0) hi hW
  have ex:ko (oa pm ps.length) (Fb v i ps.length++(fun r=>(E:Rat)*L.getD r 0) :: ju v i)=bM ps.length fun t=>((E:Rat)*L.getD (pm t) 0)*ko (oa pm ps.length) (Fb v i ps.length++(fun r=>if r=pm t then 1 else 0) :: ju v i):=DH (W:=fun _=>0) (v:=fun t r=>if r=pm t then 1 else 0) (c:=fun t=>(E:Rat)*L.getD (pm t) 0) _ _ (fun r hr=>by
   obtain ⟨t,ht,rfl⟩:=nO hr;rw[jv ht fun j hj ne=>by rw[if_neg fun z=>ne (pinj j t hj ht z.symm),jI],if_pos rfl,LL])
  have hlen:∀x:iI,(Fb v i ps.length++x :: ju v i).length<=16:=fun x=>by
   have:=congrArg List.length (cw_split (v:=v) hi);rw[ay,aZ,cw_len] at this;rw[ay,aZ]
   lia
  have nf:Fr 1 (n*(W1*(16*W0)^n)) (ko (oa pm ps.length) (Fb v i ps.length++(fun r=>(E:Rat)*L.getD r 0) :: ju v i)):=by
   rw[ex];refine (Li (V:=W1*(16*W0)^n) fun t ht=>?_).mono (aw _ kn);obtain ⟨z,e,b⟩:=tlf (pm t)
   have f1:Fr 1 W1 ((E:Rat)*L.getD (pm t) 0):=by
    rw[dw,e];exact Fr.int b
   have f2:=zv (W:=W0) (N:=16) (rs:=oa pm ps.length) (hlen fun r=>if r=pm t then 1 else 0) fun w hw r _=>by
    rcases ax.mp hw with hw | hw
    ·obtain ⟨s,_,rfl⟩:=CC hw;exact vint s r
    ·rcases aJ.mp hw with rfl | hw
     ·dsimp only
      split
      ·exact Fr.one w0
      ·exact Fr.zero
     ·obtain ⟨s,_,rfl⟩:=cw_in hw;exact vint s r
   rw[uG] at f2;have:=f1.mul f2;rw[pT] at this;exact this.mono (aM _ up)
  obtain ⟨z,ez⟩:=sU nf;rw[ez] at nf cr;have bz:=sT nf;rw[eq] at cr
  have key:cD R i K0.length*((E:Rat)*(q:Rat))=(D:Rat)*(z:Rat):=by
   rw[cr];grind
  have kq:(((E*q.natAbs:Nat):Rat))=(E:Rat)*((q.natAbs:Nat):Rat):=eJ ..;rcases E9 q with h | h
  ·have hq:((q.natAbs:Nat):Rat)=(q:Rat):=by rw[<- aP,<- h]
   refine ⟨D*z,?_,by rw[cH,bO];exact aM _ bz⟩;rw[kq,hq,key,aT,aP]
  ·have hq:((q.natAbs:Nat):Rat)=-(q:Rat):=by rw[<- aP,<- dq];congr 1;lia
   refine ⟨-(D*z),?_,by rw[rh,cH,bO];exact aM _ bz⟩;rw[kq,hq,dq,aT,aP,<- key];grind
theorem Kl {pm w : Nat → Nat} {X Y s : Nat} (hX : 1 ≤ X) (hY : 1 ≤ Y) (h1 : ∀ r, r ≠ s → w r ≤ X) (h2 : w s ≤ Y) : ∀ k, (∀ i j, i < k → j < k → pm i = pm j → i = j) → ((∃ t, t < k /\ pm t = s) → ((oa pm k).map w).foldr (· * ·) 1 ≤ X ^ k * Y) /\ ((∀ t, t < k → pm t ≠ s) → ((oa pm k).map w).foldr (· * ·) 1 ≤ X ^ k)
  | 0, _ => ⟨fun ⟨t, h, _⟩ => absurd h (fG _), fun _ => ar _⟩
  | k + 1, inj => by
    obtain ⟨i1, i2⟩ := Kl (pm := pm) (w := w) hX hY h1 h2 k fun i j hi hj => inj i j (by lia) (by lia)
    have mul : ((oa pm (k + 1)).map w).foldr (· * ·) 1 = w (pm k) * ((oa pm k).map w).foldr (· * ·) 1 := rfl;refine ⟨fun ⟨t, ht, et⟩ => ?_, fun h => ?_⟩
    · rw [mul];by_cases e : pm k = s
      · have := i2 fun t' ht' z => by
          have := inj t' k (by lia) (by lia) (z.trans e.symm)
          lia
        rw [e]
        calc w s * _ ≤ Y * X ^ k := aD h2 this
          _ = X ^ k * Y := cb _ _
          _ ≤ X ^ (k + 1) * Y := aw _ (ao hX (yr _))
      · have := i1 ⟨t, by rcases dg t k with z | z; exact z; exact absurd (by rw [show k = t by lia]; exact et) e, et⟩
        calc w (pm k) * _ ≤ X * (X ^ k * Y) := aD (h1 _ e) this
          _ = X ^ (k + 1) * Y := by rw [dN, <- bP, cb X]
    · rw [mul, dN, cb (X ^ k)];exact aD (h1 _ (h k (by lia))) (i2 fun t ht => h t (by lia))
theorem Mq {pm w:Nat->Nat} {X Y s:Nat} (hX:1<=X) (hY:1<=Y) (h1:∀r,r≠s->w r<=X) (h2:w s<=Y) {k n:Nat} (hk:k<=n) (inj:∀i j,i < k->j < k->pm i=pm j->i=j):((oa pm k).map w).foldr (·*·) 1<=X^n*Y:=by
 obtain ⟨a,b⟩:=Kl (pm:=pm) (w:=w) hX hY h1 h2 k inj;have up:X^k<=X^n:=ao hX hk;by_cases e:∃t,t < k/\pm t=s
 ·exact ah (a e) (aw _ up)
 ·exact ah (b fun t ht z=>e ⟨t,ht,z⟩) (ah up (dD _ hY))
theorem Kw (hK:∀xs∈K0,xs.length=n) (hL:L.length=n) (n15:n<=15) (D0:0 < D) (E0:0 < E) (w0:1<=W0) (tk:∀xs∈K0,∀x∈xs,Tp D W0 x) (tl:∀x∈L,Tp E W1 x) (RR:cC (cY (K0++[L]) (List.replicate K0.length 0++[1])) (n+1) R ps) (hn:n∉ps) :
  ∃q:Nat,0 < q/\q<=(16*W0)^n*(16*(W1+E))/\∀y∈fY R ps n,Tp q ((16*W0)^n*(16*(W1+E))) y:=by
 have hw:∀xs∈K0++[L],xs.length=n:=fun xs hx=>by
  rcases ax.mp hx with hx | hx
  ·exact hK xs hx
  ·rw[bU.mp hx];exact hL
 have hd:(List.replicate K0.length (0:Rat)++[1]).length=(K0++[L]).length:=by simp
 have lX:(K0++[L]).length=K0.length+1:=by simp
 have due:∀i,i < K0.length+1->(List.replicate K0.length (0:Rat)++[1]).getD i 0=if i=K0.length then 1 else 0:=fun i hi=>by
  rw[aa];by_cases e:i=K0.length
  ·rw[be (by simp;lia),if_pos e];simp [e]
  ·rw[bG (by simp;lia),if_neg e,cW,if_pos (by lia)];rfl
 have tX:∀i c,Tp (if i=K0.length then E else D) (if i=K0.length then W1 else W0) (cD (K0++[L]) i c):=fun i c=>by
  by_cases e:i=K0.length
  ·rw[if_pos e,if_pos e,e];have:=zR (X:=K0) (Y:=[L]) (i:=0);rw[Nat.add_zero] at this;rw[this];exact mB tl c
  ·rw[if_neg e,if_neg e];by_cases h:i < K0.length
   ·rw[DU h];unfold cD;rw[aa (l:=K0),ag h];exact mB (tk _ (aL h)) c
   ·unfold cD;rw[aa (l:=K0++[L]),aN (by rw[lX];lia)];exact mB (by intro x z;cases z) c
 have tj:∀xs∈cY (K0++[L]) (List.replicate K0.length 0++[1]),∀x∈xs,Tp (D*E) (W0*E+W1*D+D*E) x:=HW fun i hi c=>by
  rw[rA hd] at hi;obtain ⟨j1,j2⟩:=zu hd hw hi;by_cases hc:c < n
  ·rw[j1 c hc];obtain ⟨z,e,b⟩:=tX i c;by_cases h:i=K0.length
   ·rw[if_pos h] at e b;exact ⟨z*D,by rw[eJ,aT,<- e,aP];grind,by rw[cH,bO];have:=aw D b;lia⟩
   ·rw[if_neg h] at e b;exact ⟨z*E,by rw[eJ,aT,<- e,aP];grind,by rw[cH,bO];have:=aw E b;lia⟩
  ·by_cases hc2:c=n
   ·rw[hc2,j2,due i (by lia)]
    split
    ·exact ⟨(D*E:Nat),by rw[Rat.one_mul,aP],by rw[bO];lia⟩
    ·exact ⟨0,by rw[m8];rfl,bh _⟩
   ·rw[Gx (xT hw) (by lia)];exact ⟨0,by rw[m8];rfl,bh _⟩
 obtain ⟨pm,pinj,plt,_,dne⟩:=CD (xT hw) (W:=W0*E+W1*D+D*E) (by have:=bE D0 E0;lia) (bE D0 E0) tj RR;rw[rA hd,lX] at plt
 have pl:∀j,j < ps.length->ps.getD j 0 < n:=fun j hj=>by
  have lo:=RR.2.2.low j hj;have ne:ps.getD j 0≠n:=fun z=>hn (by rw[<- z];exact getD_in hj)
  lia
 have kn:ps.length<=n:=by
  have inc:∀j,j < ps.length->j<=ps.getD j 0:=by
   intro j
   induction j with
   | zero=>intro _;exact bh _
   | succ j ih =>
    intro hj;have:=ih (by lia);have:=RR.2.2.inc j (j+1) (by lia) hj
    lia
  rcases jJ ps.length with z | z
  ·lia
  ·have:=inc (ps.length - 1) (by lia);have:=pl (ps.length - 1) (by lia)
   lia
 obtain ⟨g,eg⟩:∃g:Nat->Rat,g=fun i=>((if i=K0.length then E else D:Nat):Rat):=⟨_,rfl⟩
 have gne:∀i,g i≠0:=fun i z=>by
  rw[eg] at z;have z:(((if i=K0.length then E else D:Nat):Int):Rat)=0:=by rw[aP];exact z
  have:=rV z
  split at this <;> lia
 have rlt:∀r∈oa pm ps.length,r < K0.length+1:=fun r hr=>by
  obtain ⟨t,ht,rfl⟩:=nO hr;exact plt t ht
 obtain ⟨v,ev⟩:∃v:Nat->iI,v=fun j i=>g i*cD (K0++[L]) i (ps.getD j 0):=⟨_,rfl⟩
 obtain ⟨wt,ew⟩:∃wt:Nat->Nat,wt=fun i=>if i=K0.length then W1+E else W0:=⟨_,rfl⟩
 have vint:∀j r,Fr 1 (wt r) (v j r):=fun j r=>by
  obtain ⟨z,e,b⟩:=tX r (ps.getD j 0);rw[ev,eg,ew];show Fr 1 _ (_*_)
  rw[dw,e];refine (Fr.int b).mono ?_
  dsimp only
  split <;> lia
 have bnd:∀{vs:List iI},vs.length<=16->(∀w∈vs,∀r∈oa pm ps.length,Fr 1 (wt r) (w r))->∃z:Int,ko (oa pm ps.length) vs=(z:Rat)/\z.natAbs<=(16*W0)^n*(16*(W1+E)):=fun {vs} hl h=>by
  have f:=Lp hl h;obtain ⟨z,ez⟩:=sU f;rw[ez] at f;refine ⟨z,ez,ah (sT f) (Mq (s:=K0.length) (by lia) (by lia) (fun r hr=>?_) ?_ kn pinj)⟩
  ·rw[ew];dsimp only;rw[if_neg hr];exact ar _
  ·rw[ew];dsimp only;rw[if_pos rfl];exact ar _
 have den:ko (oa pm ps.length) (ju v ps.length)≠0:=by
  have e1:ko (oa pm ps.length) ([]++ju v ps.length)=ko (oa pm ps.length) ([]++ju (fun j i=>g i*cD (cY (K0++[L]) (List.replicate K0.length 0++[1])) i (ps.getD j 0)) ps.length):=DJ [] fun j hj r hr=>by
   have hr:=rlt r hr;obtain ⟨j1,_⟩:=zu hd hw (i:=r) (by rw[lX];exact hr);rw[j1 _ (pl j hj),ev]
  have e2:ju (fun j i=>g i*cD (cY (K0++[L]) (List.replicate K0.length 0++[1])) i (ps.getD j 0)) ps.length=(ju (fun j i=>cD (cY (K0++[L]) (List.replicate K0.length 0++[1])) i (ps.getD j 0)) ps.length).map fun v i=>g i*v i:=(cw_map (τ:=fun v i=>g i*v i)).symm
  have e1:ko (oa pm ps.length) (ju v ps.length)=ko (oa pm ps.length) (ju (fun j i=>g i*cD (cY (K0++[L]) (List.replicate K0.length 0++[1])) i (ps.getD j 0)) ps.length):=e1;rw[e1,e2,xW];intro z;rcases BD.mp z with z | z
  ·exact Dm (fun r _=>gne r) z
  ·exact dne z
 obtain ⟨q,eq,bq⟩:=bnd (vs:=ju v ps.length) (by rw[cw_len];lia) fun w hw r _=>by
  obtain ⟨t,_,rfl⟩:=cw_in hw;exact vint t r
 have q0:q≠0:=fun z=>den (by rw[eq,z];rfl)
 refine ⟨q.natAbs,by lia,bq,fun y hy=>?_⟩;rcases Ht RR hy with rfl | ⟨i,hi,rfl⟩
 ·exact ⟨0,by rw[m8];rfl,bh _⟩
 ·have hW:∀r∈oa pm ps.length,g r*(if r=K0.length then 1 else 0)=bM ps.length fun j=>cD R j n*v j r:=fun r hr=>by
   have hr:=rlt r hr;rw[<- due r hr,NH hd hw RR hn (i:=r) (by rw[lX];exact hr),<- dm];refine aV fun j hj=>?_
   rw[ev]
   dsimp only
   grind
  have cr:=yV (v:=v) (c:=fun j=>cD R j n) (W:=fun r=>g r*(if r=K0.length then 1 else 0)) hi hW
  obtain ⟨z,ez,bz⟩:=bnd (vs:=Fb v i ps.length++(fun r=>g r*(if r=K0.length then 1 else 0)) :: ju v i) (by
   have:=congrArg List.length (cw_split (v:=v) hi);rw[ay,aZ,cw_len] at this;rw[ay,aZ]
   lia) fun w hw r _=>by
    rcases ax.mp hw with hw | hw
    ·obtain ⟨s,_,rfl⟩:=CC hw;exact vint s r
    ·rcases aJ.mp hw with rfl | hw
     ·dsimp only
      by_cases e:r=K0.length
      ·rw[if_pos e,LL,eg,ew]
       dsimp only
       rw[if_pos e,if_pos e,<- aP];exact Fr.int (by rw[bO];lia)
      ·rw[if_neg e,jI];exact Fr.zero
     ·obtain ⟨s,_,rfl⟩:=cw_in hw;exact vint s r
  rw[ez,eq] at cr;have key:cD R i n*(q:Rat)=(z:Rat):=cr.symm;rcases E9 q with h | h
  ·have hq:((q.natAbs:Nat):Rat)=(q:Rat):=by rw[<- aP,<- h]
   exact ⟨z,by rw[hq,key],bz⟩
  ·have hq:((q.natAbs:Nat):Rat)=-(q:Rat):=by rw[<- aP,<- dq];congr 1;lia
   exact ⟨-z,by rw[hq,dq,<- key];grind,by rw[rh];exact bz⟩
end
def eN (mv:List (List Rat)):Nat->List Rat->List Rat
 | 0,x=>x
 | t+1,x=>nB mv (eN mv t x)
section
variable {mv pt lk pus:List (List Rat)} {st pu go:List Rat} {n t T c:Nat}
theorem mC (h:st.length=mv.length):∀t,(eN mv t st).length=mv.length
 | 0=>h
 | _+1=>nQ
theorem yU {x y:List Rat} (h:x.length=y.length) (e:∀c,c < x.length->x.getD c 0=y.getD c 0):x=y:=by
 apply dY h;intro c h1 h2;have:=e c h1;rwa [aa,aa,ag h1,ag h2] at this
theorem NO (wm:∀xs∈mv,xs.length=mv.length) (h:st.length=mv.length) (hc:c < mv.length):(nB mv st).getD c 0=bM mv.length fun j=>cD mv c j*st.getD j 0:=by
 have e:(nB mv st).getD c 0=b7 mv[c] st:=by
  unfold nB;rw[aa,aG,ag hc];rfl
 have wc:=wm _ (aL hc);rw[e,cT (by lia),wc];refine aV fun j _=>?_
 unfold cD;rw[aa (l:=mv),ag hc];rfl
theorem KN (D:fD mv pt lk) (h:st.length=mv.length) (hp:pu.length=pt.length) (hc:c < mv.length):(gZ mv pt st pu).getD c 0=bM mv.length (fun j=>cD mv c j*st.getD j 0)+bM pt.length fun i=>pu.getD i 0*cD pt i c:=by
 have wc:=D.mw _ (aL hc)
 have e:(gZ mv pt st pu).getD c 0=b7 (mv[c]++pt.map fun xs=>xs.getD c 0) (st++pu):=by
  unfold gZ;rw[aa,bY,ag hc,As hc];rfl
 rw[e,rT (by lia),cT (by lia),cT (by rw[ak];lia),wc,ak];congr 1
 ·refine aV fun j _=>?_
  unfold cD;rw[aa (l:=mv),ag hc];rfl
 ·refine aV fun i hi=>?_
  rw[dw];congr 1;unfold cD;rw[aa,aG,aa (l:=pt),ag hi];rfl
theorem p9:∀t,(kry mv pt t).length=t*pt.length
 | 0=>by rw[Nat.zero_mul];rfl
 | t+1=>by
  show (pt++(kry mv pt t).map (nB mv)).length=_
  rw[ay,ak,p9 t,df,Ao]
theorem xx (D:fD mv pt lk) (ls:st.length=mv.length):∀k,k<=pus.length->(∀xs∈pus,xs.length=pt.length)->∀c,c < mv.length->(rJ mv pt st pus k).getD c 0=(eN mv k st).getD c 0+bM (kry mv pt k).length fun i=>((pus.take k).reverse.flatten).getD i 0*cD (kry mv pt k) i c:=by
 intro k
 induction k with
 | zero =>
  intro _ _ c _;show st.getD c 0=st.getD c 0+0
  grind
 | succ k ih =>
  intro hk hp c hc;have hk':k < pus.length:=hk;have e:=ag hk';have hl:=hp _ (aL hk');have ls':=nZ (pt:=pt) (pus:=pus) ls (k:=k) (by lia)
  have lf:((pus.take k).reverse.flatten).length=(kry mv pt k).length:=by
   rw[p9,uV (i:=pt.length) fun xs hx=>hp xs (cA (jr.mp hx)),fM,cO,oS (by lia)]
  rw[uB e,KN D ls' hl hc]
  have er:(pus.take (k+1)).reverse.flatten=pus[k]++(pus.take k).reverse.flatten:=by
   rw[take_snoc e,List.reverse_append];simp
  have ek:kry mv pt (k+1)=pt++(kry mv pt k).map (nB mv):=rfl;rw[er,ek,ay,ak,yA]
  have p1:(bM pt.length fun i=>(pus[k]++(pus.take k).reverse.flatten).getD i 0*cD (pt++(kry mv pt k).map (nB mv)) i c)=bM pt.length fun i=>pus[k].getD i 0*cD pt i c:=aV fun i hi=>by
   rw[DU hi,aa,bG (by lia),aa]
  have p2:(bM (kry mv pt k).length fun i=>(pus[k]++(pus.take k).reverse.flatten).getD (pt.length+i) 0*cD (pt++(kry mv pt k).map (nB mv)) (pt.length+i) c)=bM mv.length fun j=>cD mv c j*bM (kry mv pt k).length fun i=>((pus.take k).reverse.flatten).getD i 0*cD (kry mv pt k) i j:=by
   have q1:∀i,i < (kry mv pt k).length->(pus[k]++(pus.take k).reverse.flatten).getD (pt.length+i) 0*cD (pt++(kry mv pt k).map (nB mv)) (pt.length+i) c=bM mv.length fun j=>cD mv c j*(((pus.take k).reverse.flatten).getD i 0*cD (kry mv pt k) i j):=fun i hi=>by
    rw[zR,KC rfl D.mw (fA rfl D.pw k) hi,aa,be (by lia),hl,Rp,<- aa,<- dm];exact aV fun j _=>by grind
   rw[aV q1,iJ];exact aV fun j _=>dm
  rw[p1,p2];have p3:(eN mv (k+1) st).getD c 0=bM mv.length fun j=>cD mv c j*(eN mv k st).getD j 0:=NO D.mw (mC ls k) hc
  rw[p3]
  have p4:(bM mv.length fun j=>cD mv c j*(rJ mv pt st pus k).getD j 0)=(bM mv.length fun j=>cD mv c j*(eN mv k st).getD j 0)+bM mv.length fun j=>cD mv c j*bM (kry mv pt k).length fun i=>((pus.take k).reverse.flatten).getD i 0*cD (kry mv pt k) i j:=by
   rw[<- rH];refine aV fun j hj=>?_
   rw[ih (by lia) hp j hj];grind
  rw[p4];grind
end
section
variable {mv pt lk pus R:List (List Rat)} {st pu go w pr L:List Rat} {n t T c u k:Nat} {ps:List Nat}
theorem Fn (D:fD mv pt lk) (ls:st.length=mv.length):rJ mv pt st (List.replicate T (List.replicate pt.length 0)) T=eN mv T st:=by
 have l1:=nZ (pt:=pt) (pus:=List.replicate T (List.replicate pt.length 0)) ls (k:=T) (by rw[aF];exact ar _);refine yU (by rw[l1,mC ls]) fun c hc=>?_
 rw[l1] at hc;rw[xx D ls T (by rw[aF];exact ar _) (fun xs hx=>by rw[(di.mp hx).2,aF]) c hc,dI fun i _=>?_,v8]
 have z:(((List.replicate T (List.replicate pt.length (0:Rat))).take T).reverse.flatten).getD i 0=0:=by
  rw[aa];cases e:(((List.replicate T (List.replicate pt.length (0:Rat))).take T).reverse.flatten)[i]? with
  | none=>rfl
  | some y =>
   have:=aA e;obtain ⟨l,hl,hy⟩:=nh.mp this;have hl:=cA (jr.mp hl);rw[(di.mp hl).2] at hy;exact (di.mp hy).2
 rw[z,m8]
def nX (mv:List (List Rat)) (T:Nat) (st go:List Rat):List Rat:=List.zipWith (fun x y=>x - y) go (eN mv T st)
theorem KZ (ls:st.length=mv.length) (lg:go.length=mv.length):(nX mv T st go).length=mv.length:=by
 unfold nX;rw[bx,mC ls,lg,Ir]
theorem C2 {x y:List Rat} (h:x.length=y.length) (hc:c < x.length):(List.zipWith (fun x y=>x - y) x y).getD c 0=x.getD c 0 - y.getD c 0:=by
 rw[aa,bY,aa (l:=x),aa (l:=y),ag hc,ag (by lia)];rfl
theorem HN:∀u,∃Z,kry mv pt (u+1)=kry mv pt u++Z
 | 0=>⟨pt++[],rfl⟩
 | u+1=>by
  obtain ⟨Z,e⟩:=HN u;refine ⟨Z.map (nB mv),?_⟩;show pt++(kry mv pt (u+1)).map (nB mv)=(pt++(kry mv pt u).map (nB mv))++_
  rw[e,dO,cw]
theorem EI {u:Nat}:∀s,∃Z,kry mv pt (u+s)=kry mv pt u++Z
 | 0=>⟨[],by rw[ux];rfl⟩
 | s+1=>by
  obtain ⟨Z,e⟩:=EI (u:=u) s;obtain ⟨Y,e'⟩:=HN (mv:=mv) (pt:=pt) (u+s);exact ⟨Z++Y,by rw[<- Nat.add_assoc,e',e,cw]⟩
def zP (w:List Rat) (u k:Nat):List (List Rat):=(List.range u).map fun t=>(w.drop (t*k)).take k
theorem EO:∀{u:Nat} {w:List Rat},w.length=u*k->(zP w u k).flatten=w
 | 0,w,h=>by
  rw[Nat.zero_mul] at h;rw[List.length_eq_zero_iff.mp h];rfl
 | u+1,w,h=>by
  have e:zP w (u+1) k=zP (w.take (u*k)) u k++[w.drop (u*k)]:=by
   unfold zP;rw[uw,dO];congr 1
   ·refine dH fun t ht=>?_
    have ht:=rd.mp ht;have:t*k+k<=u*k:=by rw[<- df];exact aw _ ht
    rw[List.drop_take,List.take_take,oS (by lia)]
   ·show [(w.drop (u*k)).take k]=_
    rw[aH (by rw[JI,h,df];lia)]
  rw[e,jk,EO (by rw[cO,h,df];lia)];simp
theorem Q3 (h:w.length=u*k):∀xs∈zP w u k,xs.length=k:=fun xs hx=>by
 obtain ⟨t,ht,rfl⟩:=aE.mp hx;have ht:=rd.mp ht;have:t*k+k<=u*k:=by rw[<- df];exact aw _ ht
 rw[cO,JI]
 lia
theorem Ly {x:Rat} {xs:List Rat} (hx:xs∈zP w u k) (hx':x∈xs):x∈w:=by
 obtain ⟨t,_,rfl⟩:=aE.mp hx;exact List.mem_of_mem_drop (cA hx')
def AN (w:List Rat) (T u k:Nat):List (List Rat):=List.replicate (T - u) (List.replicate k 0)++(zP w u k).reverse
theorem Hw (hu:u<=T):(AN w T u k).length=T:=by
 unfold AN zP;rw[ay,aF,fM,ak,cm]
 lia
theorem NM (h:w.length=u*k):∀xs∈AN w T u k,xs.length=k:=fun xs hx=>by
 rcases ax.mp hx with hx | hx
 ·rw[(di.mp hx).2,aF]
 ·exact Q3 h xs (jr.mp hx)
theorem MR {P:Rat->Prop} (h0:P 0) (h:∀x∈w,P x):∀xs∈AN w T u k,∀x∈xs,P x:=fun xs hx x hx'=>by
 rcases ax.mp hx with hx | hx
 ·rw[(di.mp hx).2] at hx';rw[(di.mp hx').2];exact h0
 ·exact h x (Ly (jr.mp hx) hx')
theorem Km {T k:Nat}:(List.replicate T (List.replicate k (0:Rat))).flatten=List.replicate (T*k) 0:=by
 rw[List.flatten_replicate_replicate]
theorem GA (D:fD mv pt lk) (ls:st.length=mv.length) (lg:go.length=mv.length) (hu:u<=T) (hw:w.length=(kry mv pt u).length) (e:GU (kry mv pt u) w mv.length=nX mv T st go):rJ mv pt st (AN w T u pt.length) T=go:=by
 have hw':w.length=u*pt.length:=by rw[hw,p9]
 have lp:=Hw (w:=w) (k:=pt.length) hu;have l1:=nZ (pt:=pt) (pus:=AN w T u pt.length) ls (k:=T) (by lia);refine yU (by rw[l1,lg]) fun c hc=>?_
 rw[l1] at hc;rw[xx D ls T (by lia) (NM hw') c hc,aH (by lia)]
 have er:(AN w T u pt.length).reverse.flatten=w++List.replicate ((T - u)*pt.length) 0:=by
  unfold AN;rw[List.reverse_append,uq,jk,EO hw',List.reverse_replicate,Km]
 obtain ⟨Z,eZ⟩:=EI (mv:=mv) (pt:=pt) (u:=u) (T - u);rw[show u+(T - u)=T by lia] at eZ;rw[er,eZ,ay,yA]
 have p1:(bM (kry mv pt u).length fun i=>(w++List.replicate ((T - u)*pt.length) 0).getD i 0*cD (kry mv pt u++Z) i c)=(nX mv T st go).getD c 0:=by
  rw[<- e,zS hc,hw];exact aV fun i hi=>by rw[DU hi,aa,bG (by lia),aa]
 have p2:(bM Z.length fun i=>(w++List.replicate ((T - u)*pt.length) 0).getD ((kry mv pt u).length+i) 0*cD (kry mv pt u++Z) ((kry mv pt u).length+i) c)=0:=dI fun i _=>by
  have z:(w++List.replicate ((T - u)*pt.length) (0:Rat)).getD ((kry mv pt u).length+i) 0=0:=by
   rw[aa,be (by lia),cW]
   split <;> rfl
  rw[z,m8]
 rw[p1,p2,v8];unfold nX;rw[C2 (by rw[lg,mC ls]) (by lia)];grind
theorem Jb {ps':List Nat} (wp:∀xs∈pt,xs.length=mv.length) (RRu:cC (kry mv pt u) mv.length R ps) (RRT:cC (kry mv pt T) mv.length R ps') (lp:pr.length=mv.length) (h:∀xs∈kry mv pt u,b7 xs pr=0):∀xs∈kry mv pt T,b7 xs pr=0:=fun xs hx=>by
 have wu:=fA (mv:=mv) rfl wp u;have wT:=fA (mv:=mv) rfl wp T;obtain ⟨i,hi,rfl⟩:=b9 hx;have s1:fj (kry mv pt u).length (cD (kry mv pt u)) (cD (kry mv pt T) i):=fj.trans (fun t ht=>RRu.2.2.back t (by rw[<- RRu.1,RRT.1];exact ht)) (RRT.2.2.span i hi);obtain ⟨v,hv⟩:=s1
 have fn:∀{X:List (List Rat)} {i:Nat} (h:i < X.length) (c:Nat),X[i].getD c 0=cD X i c:=fun {X i} h c=>by
  unfold cD;rw[aa (l:=X),ag h];rfl
 have w1:=wT _ (aL hi);rw[cT (by lia),w1]
 have e1:(bM mv.length fun c=>(kry mv pt T)[i].getD c 0*pr.getD c 0)=bM (kry mv pt u).length fun t=>v t*bM mv.length fun c=>cD (kry mv pt u) t c*pr.getD c 0:=by
  have q:∀c,c < mv.length->(kry mv pt T)[i].getD c 0*pr.getD c 0=bM (kry mv pt u).length fun t=>v t*(cD (kry mv pt u) t c*pr.getD c 0):=fun c _=>by
   rw[fn hi c,hv c,dw,<- dm];exact aV fun t _=>by grind
  rw[aV q,iJ];exact aV fun t _=>dm
 rw[e1];refine dI fun t ht=>?_
 have w2:=wu _ (aL ht);have:=h _ (aL ht);rw[cT (by lia),w2] at this
 have q:(bM mv.length fun c=>cD (kry mv pt u) t c*pr.getD c 0)=0:=by
  refine Eq.trans ?_ this;exact aV fun c _=>by rw[fn ht c]
 rw[q,jI]
end
def BX (l:Addr):Hp:=fun q=>if q=l then some (.lst []) else none
theorem off_ne {l:Addr}:BX l l≠none:=by unfold BX;rw[if_pos rfl];exact fun z=>nomatch z
theorem KH {l q:Addr} (h:q≠l):BX l q=none:=by unfold BX;rw[if_neg h]
def JH (K:PySem.W.Frag) (l:Addr) (H:Hp) (R:List (List Rat)) (v:V):Prop:=∃q,v=V.ref q/\q≠l/\bS K (BX l) H q R
section
variable {K:PySem.W.Frag} {H0 H H':Hp} {l p q:Addr} {R:List (List Rat)} {v:V} {mv pt:List (List Rat)} {u T:Nat}
theorem bS.off (h:bS K H0 H p R) (hl:H l=none):p≠l/\bS K (BX l) H p R:=by
 obtain ⟨xs,g,r,n⟩:=h;refine ⟨fun z=>(by rw[z,hl] at g;cases g),xs,g,Paired.imp' (fun _ _ ⟨q,a,b,c⟩=>⟨q,a,KH fun z=>?_,c⟩) r,n⟩;obtain ⟨_,gg,_⟩:=c;rw[z,hl] at gg;cases gg
theorem JH.same (h:JH K l H R v) (s:aO H H'):JH K l H' R v:=by obtain ⟨q,a,b,c⟩:=h;exact ⟨q,a,b,c.same s⟩
theorem JH.upd {ys zs:List V} (h:JH K l H R v) (g:H l=some (.lst ys)):JH K l (upd H l (.lst zs)) R v:=by obtain ⟨q,a,b,c⟩:=h;exact ⟨q,a,b,c.updL g off_ne b⟩
def JC (mv pt:List (List Rat)) (u:Nat):List (List (List Rat)):=(List.range u).map fun s=>pt.map (eN mv s)
theorem DW:JC mv pt (u+1)=JC mv pt u++[pt.map (eN mv u)]:=by unfold JC;rw[uw,dO];rfl
theorem vS:∀u,(JC mv pt u).flatten=kry mv pt u
 | 0=>rfl
 | u+1=>by
  have e:JC mv pt (u+1)=pt :: (JC mv pt u).map (List.map (nB mv)):=by
   unfold JC;rw[List.range_succ_eq_map,ir,rg];congr 1
   ·exact yu pt
   ·rw[rg];refine dH fun s _=>?_
    show pt.map (eN mv (s+1))=(pt.map (eN mv s)).map (nB mv)
    rw[rg];rfl
  rw[e,fE,<- List.map_flatten,vS u];rfl
theorem PB {s:Nat} {xs:List Rat} (h:xs∈pt.map (eN mv s)):xs∈kry mv pt (s+1):=by
 rw[<- vS,DW,jk];exact bX _ (by simpa using h)
theorem uv.fitP {a c s:Nat} (F:uv mv pt a c) (wm:∀xs∈mv,xs.length=mv.length) (wp:∀xs∈pt,xs.length=mv.length) (hs:s+1<=mv.length):∀xs∈mv,∀r∈pt.map (eN mv s),tQ xs r:=fun xs hx r hr=>by
 obtain ⟨M,V,M0,Ma,hV,fm,fp,a3,c3,e14,_⟩:=F;have f:=K4 rfl wm wp hV fm fp (s+1) r (PB hr);have V1:V<=2^c:=ah (dh _ (by lia)) hV;have e1:(s+1)*(a+c)<=mv.length*(a+c):=aw _ hs;have e2:mv.length*(a+c)+4<=mv.length*(mv.length*(a+c)+4):=dh _ (by lia);have e3:(s+1)*(a+c)=a*(s+1)+c*(s+1):=by rw[fo,cb,cb c]
 refine ⟨a,c,a*(s+1),c*(s+1),⟨M,V,M0,Ma,V1,fm xs hx⟩,⟨M^(s+1),2^(c*(s+1)),fk M0,?_,ar _,f⟩,by lia⟩;exact ah (eG Ma _) (by rw[<- pS];exact ar _)
end
def Kf (K:PySem.W.Frag) (C:Addr):Sp:=fun vs H Q _=>∃(x:Addr) (u a c:Nat) (H0:Hp) (mv pt lk:List (List Rat)),vs=[.ref x,.int u]/\u<=mv.length/\pW K H0 H C x mv pt lk/\fD mv pt lk/\uv mv pt a c /\
 ∀r us H',H r=none->aO H H'->H' r=some (.lst us)->Paired (JH K r H') (JC mv pt u) us->Q (.ref r) H'
def Kc (K:PySem.W.Frag):Sp:=fun vs H Q _=>∃(p:Addr) (xs:List V) (Rs:List (List (List Rat))),vs=[.ref p]/\H p=some (.lst xs)/\Paired (JH K p H) Rs xs/\Rs.flatten.length<=1000 /\
 ∀r H0 H',H r=none->aO H H'->bS K H0 H' r Rs.flatten->Q (.ref r) H'
def Mc (K:PySem.W.Frag):Sp:=fun vs H Q _=>∃(p:Addr) (u k:Nat) (w:List Rat),vs=[.ref p,.int u,.int k]/\cK K H p w/\w.length=u*k/\u*k<=1000/\u<=1000/\k<=1000 /\
 ∀r H',H r=none->aO H H'->bS K H H' r (zP w u k)->Q (.ref r) H'
def J6 (K:PySem.W.Frag) (C:Addr):Sp:=fun vs H Q _=>∃(x:Addr) (T:Nat) (H0:Hp) (mv pt lk:List (List Rat)),vs=[.ref x,.int T]/\T<=100/\pW K H0 H C x mv pt lk/\fD mv pt lk /\
 ∀r H',H r=none->aO H H'->bS K H H' r (List.replicate T (List.replicate pt.length 0))->Q (.ref r) H'
def Ka (K:PySem.W.Frag) (C:Addr):Sp:=fun vs H Q _=>∃(x s g:Addr) (T:Nat) (H0:Hp) (mv pt lk:List (List Rat)) (st go:List Rat),vs=[.ref x,.ref s,.ref g,.int T]/\T<=99/\pW K H0 H C x mv pt lk/\fD mv pt lk/\GG mv pt lk/\cK K H s st/\st.length=mv.length/\cK K H g go/\go.length=mv.length/\E8 mv pt st (List.replicate T (List.replicate pt.length 0))/\(∀x∈go,pQ x) /\
 ∀r H',H r=none->aO H H'->cK K H' r (nX mv T st go)->Q (.ref r) H'
structure Rm (mv pt:List (List Rat)) (L:List Rat) (D W0 E W1:Nat):Prop where
 d0:0 < D
 e0:0 < E
 w0:1<=W0
 w1:1<=W1
 tk:∀u,u<=mv.length->∀xs∈kry mv pt u,∀x∈xs,Tp D W0 x
 tl:∀x∈L,Tp E W1 x
 de:D*E<=2^4300
 sw:∃w,W0*E+W1*D+D*E<=2^w/\w<=4300/\(mv.length+1)*(w+4)<=8900
theorem Rm.join {mv pt:List (List Rat)} {L:List Rat} {D W0 E W1:Nat} (F:Rm mv pt L D W0 E W1) {rows:List (List Rat)} {due:List Rat} {n':Nat} (hd:due.length=rows.length) (h1:∀xs∈rows,∀x∈xs,Tp (D*E) (W0*E+W1*D+D*E) x) (h2:∀x∈due,Tp (D*E) (W0*E+W1*D+D*E) x) (n8:mv.length<=8) (hm:min rows.length n'<=mv.length+1):∃w,EZ (cY rows due) n' w:=by
 obtain ⟨w,b1,b2,b3⟩:=F.sw;have:=bE F.d0 F.e0;refine ⟨w,D*E,W0*E+W1*D+D*E,bE F.d0 F.e0,F.de,by lia,b1,fun xs hx x hx'=>?_,b2,by rw[rA hd];lia,by rw[rA hd];exact ah (aw _ hm) b3⟩;unfold cY at hx;obtain ⟨i,hi,rfl⟩:=b9 hx;rw[fq] at hx';rcases ax.mp hx' with z | z
 ·exact h1 _ (aL _) x z
 ·rw[bU.mp z];exact h2 _ (aL _)
theorem Tp.up {M W x:Nat} {q:Rat} (h:Tp M W q) (k:Nat) (hx:W*k<=x):Tp (M*k) x q:=by
 obtain ⟨z,e,b⟩:=h;exact ⟨z*k,by rw[eJ,aT,<- e,aP];grind,by rw[cH,bO];exact ah (aw _ b) hx⟩
theorem yL {mv:List (List Rat)} (wm:∀xs∈mv,xs.length=mv.length):∀t,eN mv t (List.replicate mv.length 0)=List.replicate mv.length 0
 | 0=>rfl
 | t+1=>by
  show nB mv (eN mv t _)=_
  rw[yL wm t];refine yU (by rw[nQ,aF]) fun c hc=>?_
  rw[nQ] at hc;rw[NO wm (by rw[aF]) hc,dI fun j _=>?_]
  ·rw[aa,cW,if_pos hc];rfl
  ·rw[aa,cW]
   split <;> exact jI _
section
variable {mv pt lk pus:List (List Rat)} {pr go:List Rat} {T:Nat}
theorem QQ (wm:∀xs∈mv,xs.length=mv.length) (lg:go.length=mv.length):nX mv T (List.replicate mv.length 0) go=go:=by
 unfold nX;rw[yL wm];refine yU (by rw[bx,aF,lg,Ir]) fun c hc=>?_
 rw[bx,aF,lg,Ir] at hc;rw[C2 (by rw[aF,lg]) (by lia)];have:(List.replicate mv.length (0:Rat)).getD c 0=0:=by rw[aa,cW];split <;> rfl
 rw[this];grind
theorem cf0 (D:fD mv pt lk):E8 mv pt (List.replicate mv.length 0) (List.replicate T (List.replicate pt.length 0)):=fun k hk=>by
 rw[aF] at hk
 have e:rJ mv pt (List.replicate mv.length 0) (List.replicate T (List.replicate pt.length 0)) k=List.replicate mv.length 0:=by
  have:=Fn (T:=k) D (st:=List.replicate mv.length 0) (by rw[aF]);rw[yL D.mw] at this;refine Eq.trans ?_ this;unfold rJ;rw[List.take_replicate,List.take_replicate,oS hk,Ir]
 refine ⟨1,1,by decide,dP,dP,fun x hx=>?_,fun xs hx x hx'=>?_⟩
 ·rw[e] at hx;rw[(di.mp hx).2];exact Fr.zero
 ·rw[(di.mp hx).2] at hx';rw[(di.mp hx').2];exact Fr.zero
end
structure Q8 (mv pt:List (List Rat)) (st pu:List Rat):Prop where
 f2:∀xs∈mv,tQ xs st
 part:∀kk,∀x∈nextK mv pt st pu kk,pQ x
 su:∀u∈pu,pQ u
 sp:∀row∈pt,∀y∈row,pQ y
 mul:∀u∈pu,∀row∈pt,∀y∈row,pQ (u*y)
def J7 (K:PySem.W.Frag):Sp:=fun vs H Q _=>∃(r s u:Addr) (H0:Hp) (mv pt lk:List (List Rat)) (st pu:List Rat),vs=[.ref r,.ref s,.ref u]/\hJ K H0 H r mv pt lk/\fD mv pt lk/\cK K H s st/\cK K H u pu/\st.length=mv.length/\pu.length=pt.length/\Q8 mv pt st pu /\
 ∀t H',H t=none->aO H H'->cK K H' t (gZ mv pt st pu)->Q (.ref t) H'
structure Bd (mv pt:List (List Rat)) (M1 M2 V a1 a2 c:Nat):Prop where
 m1:0 < M1
 m2:0 < M2
 b1:M1<=2^a1
 b2:M2<=2^a2
 gm:GF M1 V mv
 gp:GF M2 V pt
 vc:(mv.length+4)*V<=2^c
section
variable {mv pt lk pus:List (List Rat)} {st pu go:List Rat} {M1 M2 V a1 a2 c N Np p t T ν:Nat}
theorem Bd.v1 (B:Bd mv pt M1 M2 V a1 a2 c):V<=2^c:=ah (dh _ (by lia)) B.vc
theorem jO {M W:Nat} {x:Rat} (h0:0 < M) {a b:Nat} (h1:M<=2^a) (h2:W<=2^b) (hab:a+b<=3990) (h:Fr M W x):pQ x:=by
 refine Fl (Tp.of h (ar _)) h0 (ah h1 (ao (by decide) (by lia))) ?_;refine ah (aD h2 h1) ?_;rw[<- aK];exact ao (by decide) (by lia)
theorem Bd.next (B:Bd mv pt M1 M2 V a1 a2 c) (D:fD mv pt lk) (ls:st.length=mv.length) (lu:pu.length=pt.length) (N0:0 < N) (dv:M2*Np∣M1*N) (hs:∀x∈st,Fr N (2^p) x) (hu:∀x∈pu,Fr Np (2^p) x) (hN:N<=2^ν) (sz:a1+ν+c+p<=3900) (sp2:a2+c<=3900):Q8 mv pt st pu/\∀x∈gZ mv pt st pu,Fr (M1*N) (2^(c+p)) x:=by
 have V1:=B.v1;have i4:=D.i4;have MN0:0 < M1*N:=bE B.m1 N0;have MN:M1*N<=2^(a1+ν):=by rw[aK];exact aD B.b1 hN
 have Np0:0 < Np:=by
  rcases jJ Np with z | z
  ·rw[z,Iq] at dv;have:=Nat.eq_zero_of_zero_dvd dv
   lia
  ·exact z
 have NpMN:Np<=M1*N:=ah (dh _ B.m2) (kB MN0 dv)
 have one:∀u∈pu,∀row∈pt,∀y∈row,Fr (M1*N) (V*2^p) (u*y):=fun u hu' row hr y hy=>by
  have:=(B.gp row hr y hy).mul (hu u hu');rw[dw];exact this.dvd dv
 have part:∀kk,kk<=pt.length->∀x∈nextK mv pt st pu kk,Fr (M1*N) (2^(c+p)) x:=fun kk hkk x hx=>by
  obtain ⟨j,hj,e⟩:=b9 hx;rw[ki] at hj;have e2:=A6 (mv:=mv) (pt:=pt) (st:=st) (pu:=pu) (k:=kk) hj;rw[aa,ag (by rw[ki];exact hj)] at e2;have e3:x=b7 (mv[j]++(pt.map fun xs=>xs.getD j 0).take kk) (st++pu.take kk):=by rw[<- e,<- e2];rfl
  have wj:=D.mw _ (aL hj);rw[e3,rT (by lia)];have f1:=Fr.dot (B.gm _ (aL hj)) hs;rw[wj] at f1
  have f2:Fr (M1*N) (4*(V*2^p)) (b7 ((pt.map fun xs=>xs.getD j 0).take kk) (pu.take kk)):=by
   have hc:∀y∈(pt.map fun xs=>xs.getD j 0).take kk,Fr M2 V y:=fun y hy=>by
    obtain ⟨xs,hxs,rfl⟩:=aE.mp (cA hy);rw[aa];cases e:xs[j]? with
    | none=>exact Fr.zero
    | some z=>exact B.gp xs hxs z (aA e)
   have:=Fr.dot (ys:=pu.take kk) hc (fun y hy=>hu y (cA hy));refine (this.dvd dv).mono (aw _ ?_);rw[cO,ak]
   lia
  refine (f1.add f2).mono ?_;rw[<- LN,aK,<- bP];exact aw _ B.vc
 have szb:∀{x:Rat},Fr (M1*N) (2^(c+p)) x->pQ x:=fun h=>jO MN0 MN (ar _) (by lia) h
 have all:∀kk,∀x∈nextK mv pt st pu kk,Fr (M1*N) (2^(c+p)) x:=fun kk x hx=>by
  rcases dg pt.length kk with z | z
  ·have e:nextK mv pt st pu kk=nextK mv pt st pu pt.length:=(vH (by lia) (by lia)).trans (vH (ar _) (by lia)).symm;rw[e] at hx;exact part _ (ar _) x hx
  ·exact part kk z x hx
 refine ⟨⟨fun xs hx=>⟨a1,c,ν,p,⟨M1,V,B.m1,B.b1,V1,B.gm xs hx⟩,⟨N,2^p,N0,hN,ar _,hs⟩,by lia⟩,fun kk x hx=>szb (all kk x hx),fun u hu'=>?_,fun row hr y hy=>?_,fun u hu' row hr y hy=>szb ((one u hu' row hr y hy).mono (by rw[aK];exact aw _ V1))⟩,fun x hx=>?_⟩
 ·exact jO Np0 (ah NpMN MN) (ar _) (by lia) (hu u hu')
 ·exact jO B.m2 B.b2 V1 (by lia) (B.gp row hr y hy)
 ·rw[<- vH (k:=pt.length) (ar _) (by lia)] at hx;exact all _ x hx
end
section
variable {mv pt lk pus:List (List Rat)} {st pu go:List Rat} {M1 M2 V a1 a2 c N Np p t T ν k:Nat}
def Si (mv pt pus:List (List Rat)) (st:List Rat):Prop:=∃M1 M2 V a1 a2 c N Np p ν,Bd mv pt M1 M2 V a1 a2 c/\0 < N/\N<=2^ν/\M2*Np∣N/\(∀x∈st,Fr N (2^p) x)/\(∀xs∈pus,∀x∈xs,Fr Np (2^p) x)/\a1*(pus.length+1)+ν+c*(pus.length+1)+p<=3900/\a2+c<=3900
theorem uI {M a t N ν:Nat} (h:M<=2^a) (hN:N<=2^ν):M^t*N<=2^(a*t+ν):=by
 rw[aK,pS];exact aD (eG h t) hN
theorem Bd.states (B:Bd mv pt M1 M2 V a1 a2 c) (D:fD mv pt lk) (ls:st.length=mv.length) (wp:∀xs∈pus,xs.length=pt.length) (N0:0 < N) (hN:N<=2^ν) (dv:M2*Np∣N) (hs:∀x∈st,Fr N (2^p) x) (hu:∀xs∈pus,∀x∈xs,Fr Np (2^p) x) (sz:a1*(pus.length+1)+ν+c*(pus.length+1)+p<=3900) (sp2:a2+c<=3900):∀k,k<=pus.length->(∀x∈rJ mv pt st pus k,Fr (M1^k*N) (2^(c*k+p)) x)/\∀pu,pus[k]?=some pu->Q8 mv pt (rJ mv pt st pus k) pu:=by
 have key:∀k,k<=pus.length->(∀x∈rJ mv pt st pus k,Fr (M1^k*N) (2^(c*k+p)) x)->∀pu,pus[k]?=some pu->Q8 mv pt (rJ mv pt st pus k) pu/\∀x∈gZ mv pt (rJ mv pt st pus k) pu,Fr (M1*(M1^k*N)) (2^(c+(c*k+p))) x:=fun k hk f pu hpu=>by
  have mp:=aA hpu;have kl:=(aI.mp hpu).1;have e1:a1*(k+1)<=a1*(pus.length+1):=aM _ (by lia);have e2:c*(k+1)<=c*(pus.length+1):=aM _ (by lia);rw[fo,LM] at e1 e2;refine B.next D (nZ ls hk) (wp pu mp) (bE (fk B.m1) N0) ?_ f (fun x hx=>(hu pu mp x hx).mono (ao (by decide) (Nat.le_add_left _ _))) (uI B.b1 hN) (by lia) sp2;exact yx dv (yx (sF _ _) (sF _ _))
 have fr:∀k,k<=pus.length->∀x∈rJ mv pt st pus k,Fr (M1^k*N) (2^(c*k+p)) x:=by
  intro k
  induction k with
  | zero =>
   intro _ x hx;rw[Nat.pow_zero,pT,Iq,Nat.zero_add];exact hs x hx
  | succ k ih =>
   intro hk x hx;have e:=ag (show k < pus.length by lia);rw[uB e] at hx;have:=(key k (by lia) (ih (by lia)) _ e).2 x hx;rw[<- bP,cb M1,<- dN,show c+(c*k+p)=c*(k+1)+p by rw[fo];lia] at this;exact this
 exact fun k hk=>⟨fr k hk,fun pu hpu=>(key k hk (fr k hk) pu hpu).1⟩
theorem Si.nx (h:Si mv pt pus st) (D:fD mv pt lk) (ls:st.length=mv.length) (wp:∀xs∈pus,xs.length=pt.length) (hk:k<=pus.length) (hpu:pus[k]?=some pu):Q8 mv pt (rJ mv pt st pus k) pu:=by
 obtain ⟨M1,M2,V,a1,a2,c,N,Np,p,ν,B,N0,hN,dv,hs,hu,sz,sp2⟩:=h;exact (B.states D ls wp N0 hN dv hs hu sz sp2 k hk).2 pu hpu
def Sl (mv:List (List Rat)) (st:List Rat) (T:Nat):Prop:=∃M1 V a1 c N p ν,0 < M1/\M1<=2^a1/\GF M1 V mv/\(mv.length+4)*V<=2^c/\0 < N/\N<=2^ν/\(∀x∈st,Fr N (2^p) x)/\a1*(T+1)+ν+c*(T+1)+p<=3900
theorem O2 (gm:GF M1 V mv) (wm:∀xs∈mv,xs.length=mv.length) (vc:(mv.length+4)*V<=2^c) (ls:st.length=mv.length) (hs:∀x∈st,Fr N (2^p) x):∀t,∀x∈eN mv t st,Fr (M1^t*N) (2^(c*t+p)) x:=by
 intro t
 induction t with
 | zero =>
  intro x hx;rw[Nat.pow_zero,pT,Iq,Nat.zero_add];exact hs x hx
 | succ t ih =>
  intro x hx;obtain ⟨row,hr,rfl⟩:=aE.mp (show x∈mv.map fun xs=>b7 xs (eN mv t st) from hx);have f:=Fr.dot (gm row hr) ih;rw[<- bP,cb M1,<- dN] at f;refine f.mono ?_;rw[wm row hr,<- bP,show c*(t+1)+p=c+(c*t+p) by rw[fo];lia,aK 2 c];exact aw _ (ah (aw V (show mv.length<=mv.length+4 by lia)) vc)
theorem Sl.fit (h:Sl mv st T) (wm:∀xs∈mv,xs.length=mv.length) (ls:st.length=mv.length) (ht:t<=T):(∀xs∈mv,tQ xs (eN mv t st))/\∀x∈eN mv t st,pQ x:=by
 obtain ⟨M1,V,a1,c,N,p,ν,m0,m1,gm,vc,N0,hN,hs,sz⟩:=h;have f:=O2 gm wm vc ls hs t;have V1:V<=2^c:=ah (dh _ (by lia)) vc;have e1:a1*t<=a1*T:=aM _ ht;have e2:c*t<=c*T:=aM _ ht;rw[fo,fo,LM,LM] at sz;exact ⟨fun xs hx=>⟨a1,c,a1*t+ν,c*t+p,⟨M1,V,m0,m1,V1,gm xs hx⟩,⟨M1^t*N,2^(c*t+p),bE (fk m0) N0,uI m1 hN,ar _,f⟩,by lia⟩,fun x hx=>jO (bE (fk m0) N0) (uI m1 hN) (ar _) (by lia) (f x hx)⟩
def RM (mv pt:List (List Rat)) (T:Nat):Prop:=∃M1 M2 V a1 a2 c,Bd mv pt M1 M2 V a1 a2 c/\a1*(T+1)+a2+c*(T+2)<=3900
theorem RM.row (h:RM mv pt T) (wm:∀xs∈mv,xs.length=mv.length) (wp:∀xs∈pt,xs.length=mv.length):∀xs∈pt,Sl mv xs T:=fun xs hx=>by
 obtain ⟨M1,M2,V,a1,a2,c,B,sz⟩:=h;refine ⟨M1,V,a1,c,M2,c,a2,B.m1,B.b1,B.gm,B.vc,B.m2,B.b2,fun x hx'=>(B.gp xs hx x hx').mono B.v1,?_⟩;rw[fo c T 2] at sz;rw[fo c T 1]
 lia
end
section
variable {X:Cx}
end
def DrP (pt:List (List Rat)) (T w:Nat) (pus:List (List Rat)):Prop:=pus.length=T/\∀xs∈pus,xs.length=pt.length/\∀x∈xs,Dr (max w 6) x
theorem KL (ws vs:List V) (M1 M2 M3:Nat):∃μ:V->Nat,(∀x∈ws,μ x=M2)/\(∀x∈vs,x∉ws->μ x=M3)/\(∀x,x∉ws->x∉vs->μ x=M1)/\∀x,μ x=M1\/μ x=M2\/μ x=M3:=by
 classical
 refine ⟨fun x=>if x∈ws then M2 else if x∈vs then M3 else M1,fun x h=>if_pos h,fun x h h'=>?_,fun x h h'=>?_,fun x=>?_⟩
 ·show (if x∈ws then M2 else if x∈vs then M3 else M1)=M3
  rw[if_neg h',if_pos h]
 ·show (if x∈ws then M2 else if x∈vs then M3 else M1)=M1
  rw[if_neg h,if_neg h']
 ·show (if x∈ws then M2 else if x∈vs then M3 else M1)=M1\/(if x∈ws then M2 else if x∈vs then M3 else M1)=M2\/(if x∈ws then M2 else if x∈vs then M3 else M1)=M3
  by_cases h:x∈ws
  ·rw[if_pos h];exact .inr (.inl rfl)
  ·rw[if_neg h];by_cases h':x∈vs
   ·rw[if_pos h'];exact .inr (.inr rfl)
   ·rw[if_neg h'];exact .inl rfl
theorem lH.apart {K:PySem.W.Frag} {A:Addr->Prop} {H:Hp} {n:Nat} {C:V->Rat->Prop} {m p l b q0:Addr} {us ws vs:List V} (h:lH K A H n C m p l b q0 us ws vs):(∀x∈us,x∉ws/\x∉vs)/\∀x∈vs,x∉ws:=by
 obtain ⟨n1,n2,n3⟩:=dz.mp h.nd;obtain ⟨n4,n5,n6⟩:=dz.mp n1;exact ⟨fun x hx=>⟨fun z=>n3 x (ax.mpr (.inl hx)) x z rfl,fun z=>n6 x hx x z rfl⟩,fun x hx z=>n3 x (ax.mpr (.inr hx)) x z rfl⟩
theorem lH.fr3 {K:PySem.W.Frag} {A:Addr->Prop} {H:Hp} {n c:Nat} {m p l b q0:Addr} {us ws vs:List V} (h:lH K A H n (fun _=>Dr (2^c)) m p l b q0 us ws vs):∃M1 M2 M3,0 < M1/\0 < M2/\0 < M3/\M1<=2^(c*(n*n))/\M2<=2^(c*(ws.length*n))/\M3<=2^(c*(vs.length*n))/\(∀x∈us,gF K A H n (Fr M1 (2^c)) x)/\(∀x∈ws,gF K A H n (Fr M2 (2^c)) x)/\∀x∈vs,gF K A H n (Fr M3 (2^c)) x:=by
 have one:∀l:List V,(∀x∈l,x∈us++vs++ws)->∃M,0 < M/\M<=2^(c*(l.length*n))/\∀x∈l,gF K A H n (Fr M (2^c)) x:=fun l hl=>by
  obtain ⟨ra,pa,la,ha⟩:=AK fun x hx=>h.row x (hl x hx)
  obtain ⟨M,m0,m1,m2⟩:=Mp (c:=c) (n:=n) (rows:=ra) ha;exact ⟨M,m0,by rw[la] at m1;exact m1,FI pa fun qs hq=>⟨(ha qs hq).1,m2 qs hq⟩⟩
 obtain ⟨M1,a1,a2,a3⟩:=one us fun x hx=>by simp [hx]
 obtain ⟨M2,b1,b2,b3⟩:=one ws fun x hx=>by simp [hx]
 obtain ⟨M3,c1,c2,c3⟩:=one vs fun x hx=>by simp [hx]
 rw[h.lm] at a2;exact ⟨M1,M2,M3,a1,b1,c1,a2,b2,c2,a3,b3,c3⟩
def IH (K:PySem.W.Frag):Sp:=fun xs H Q _=>∃(b m p l q0:Addr) (n V1:Nat) (μ:V->Nat) (A:Addr->Prop) (us ws vs:List V),xs=[.ref b,.ref m,.ref p,.ref l]/\E5 A m p l b q0/\lH K A H n (fun x=>Fr (μ x) V1) m p l b q0 us ws vs/\n<=8/\ws.length<=4/\vs.length<=4/\(∀x,0 < μ x)/\(∀x,μ x<=2^800)/\(∃M,∀x,x∉ws->x∉vs->μ x=M)/\V1<=2^20/\(∀q,H q=none->A q) /\
 ∀r us' H',H' r=some (.tup [.ref m,.ref p,.ref l])->lH K A H' n (fun x=>Fr (μ x) (9^3*V1)) m p l b q0 us' ws vs->jl A b m H H'->Q (.ref r) H'
def Sg (n i o w c:Nat) (mv pt lk:List (List Rat)):Prop:=∃M1 M2 M3 V1:Nat,0 < M1/\0 < M2/\0 < M3/\GF M1 V1 mv/\GF M2 V1 pt/\GF M3 V1 lk/\((w<=9/\M1=2520/\M2=2520/\M3=2520/\V1=9^3*9)\/(9 < w/\M1<=2^(c*(n*n))/\M2<=2^(c*(i*n))/\M3<=2^(c*(o*n))/\V1=9^3*2^c))
def IE (K:PySem.W.Frag):Sp:=fun vs H Q _=>∃(b:Addr) (n i o w c:Nat),vs=[.ref b,.int n,.int i,.int o,.int w]/\jo H b/\n<=8/\i<=4/\o<=4/\1<=w/\w<=1000000/\max w 6<=2^c/\c<=20/\c*((n+i+o)*n)<=800 /\
 ∀r mv pt lk H',hJ K H H' r mv pt lk->mv.length=n->pt.length=i->lk.length=o->fD mv pt lk->Sg n i o w c mv pt lk->jo H' b->dc b H H'->Q (.ref r) H'
def Rg (mv pt:List (List Rat)) (w:Nat):Prop:=(w<=9/\Bd mv pt 1 1 (9^3) 0 0 14)\/(w<=9/\mv.length<=5/\Bd mv pt 2520 2520 (9^3*9) 12 12 16)\/(w=1000/\mv.length<=2/\∃M1 M2,Bd mv pt M1 M2 (9^3*2^20) 80 160 33)
theorem Gs {M V:Nat} {l:List (List Rat)} (h:GF M V l) (k:Nat):GF (k*M) V l:=fun xs hx x hx'=>(h xs hx x hx').scaleL k
theorem Sg.n {n i o w c:Nat} {mv pt lk:List (List Rat)} (h:Sg n i o w c mv pt lk):PtF n i o w c mv pt lk:=by
 obtain ⟨M1,M2,M3,V1,a1,a2,a3,f1,f2,f3,hc⟩:=h;rcases hc with ⟨w9,rfl,rfl,rfl,e⟩ | ⟨w9,e1,e2,e3,e⟩
 ·exact ⟨2520,V1,by decide,f1,f2,f3,.inl ⟨w9,rfl,e⟩⟩
 ·refine ⟨M1*M2*M3,V1,bE (bE a1 a2) a3,?_,?_,?_,.inr ⟨w9,?_,e⟩⟩
  ·have:=Gs f1 (M2*M3);rwa [show M2*M3*M1=M1*M2*M3 by rw[cb (M2*M3),bP]] at this
  ·have:=Gs f2 (M1*M3);rwa [show M1*M3*M2=M1*M2*M3 by rw[bP,cb M3,bP]] at this
  ·exact Gs f3 (M1*M2)
  ·refine ah (aD (aD e1 e2) e3) ?_;rw[<- aK,<- aK,show c*((n+i+o)*n)=c*(n*n)+c*(i*n)+c*(o*n) by rw[LN,LN,fo,fo]];exact ar _
section
variable {mv pt lk pus:List (List Rat)} {st pu go pr:List Rat} {M1 M2 V a1 a2 c B b g p t T w:Nat}
theorem Bd.kry (X:Bd mv pt M1 M2 V a1 a2 c) (D:fD mv pt lk):∀t,∀xs∈kry mv pt t,∀x∈xs,Fr (M1^(t - 1)*M2) (2^(c*t)) x:=by
 intro t
 induction t with
 | zero=>intro xs hx;exact nomatch hx
 | succ t ih =>
  intro xs hx x hx';rcases ax.mp (show xs∈pt++(L2.kry mv pt t).map (nB mv) from hx) with hx | hx
  ·refine Fr.up (X.gp xs hx x hx') (sF _ _) (ah X.v1 (ao (by decide) ?_));exact dD _ (by lia)
  ·obtain ⟨ys,hy,rfl⟩:=aE.mp hx;obtain ⟨row,hr,rfl⟩:=aE.mp (show x∈mv.map fun zs=>b7 zs ys from hx');rcases t with _ | t
   ·exact nomatch hy
   have f:=Fr.dot (X.gm row hr) (ih ys hy);rw[show M1*(M1^(t+1 - 1)*M2)=M1^(t+1+1 - 1)*M2 by rw[<- bP,show t+1 - 1=t by lia,show t+1+1 - 1=t+1 by lia,dN,cb M1]] at f;refine f.mono ?_;rw[D.mw row hr,<- bP,show c*(t+1+1)=c+c*(t+1) by rw[fo c (t+1)];lia,aK 2 c];exact aw _ (ah (aw V (show mv.length<=mv.length+4 by lia)) X.vc)
end
section
variable {mv pt lk pus pus':List (List Rat)} {st st' pu go pr:List Rat} {M1 M2 V a1 a2 c B b1 b2 g p t T w:Nat}
theorem EL:∀(xs:List Rat) (k:Nat),b7 xs (List.replicate k 0)=0
 | [],_=>by simp [b7]
 | x :: xs,0=>by simp [b7]
 | x :: xs,k+1=>by
  have:=EL xs k;simp only[b7,ji,List.zipWith_cons_cons,List.sum_cons] at this ⊢;rw[this];grind
theorem xc:∀t,eN mv t (List.replicate mv.length 0)=List.replicate mv.length 0
 | 0=>rfl
 | t+1=>by
  show (mv.map fun xs=>b7 xs (eN mv t (List.replicate mv.length 0)))=_
  rw[xc t]
  have:∀xs:List Rat,b7 xs (List.replicate mv.length (0:Rat))=0:=fun xs=>by
   exact EL xs _
  rw[dH fun xs _=>this xs,BF]
end
open PySem.MeetsSeq
section
variable {rows rows0 fs l2 R Hd:List (List Rat)} {hd:List Rat} {n P:Nat} {ps psd:List Nat}
def RJ (rows:List (List Rat)) (n S:Nat):Prop:=2*S<=3990/\∃J:Nat->List (List Rat)->List Nat->Prop,J 0 rows []/\(∀P rs ps,J P rs ps->(∀i,ps.length<=i->i < rs.length->cD rs i P=0)->J (P+1) rs ps) /\
 (∀P fs ls ps t,J P (fs++ls) ps->fs.length=ps.length->t < ls.length->P < n->(ls.getD t []).getD P 0≠0->(∀j,j < t->cD ls j P=0)->J (P+1) ((fs.map (Cs P (yv P (ls.getD t [])) )++[yv P (ls.getD t [])])++(ls.eraseIdx t).map (Cs P (yv P (ls.getD t [])))) (ps++[P])) /\
 (∀P rs ps,J P rs ps->CW rows n P rs ps)/\∀P rs ps,J P rs ps->P<=n->∀i,i < rows.length->∃D:Nat,0 < D/\D<=2^S/\∀c,Tp D (2^S) (cD rs i c)
theorem Sh.lwt {S:Nat} (h:Sh rows n S):RJ rows n S:=by
 obtain ⟨a,J,j0,j1,j2,j3,j4⟩:=h;exact ⟨a,J,j0,j1,fun P fs ls ps t h1 h2 h3 h4 h5 _=>j2 P fs ls ps t h1 h2 h3 h4 h5,j3,j4⟩
end
structure UnF (A lk:List (List Rat)) (e:Nat):Prop where
 n8:A.length<=8
 wm:∀xs∈A,xs.length=A.length
 wp:∀xs∈lk,xs.length=A.length
 kf:∃a c,uv A lk a c/\A.length*((A.length - 1)*(a+c)+4)<=900/\∀p,p<=A.length->(A.length - p)*(p*((A.length - 1)*(a+c)+4)+4)<=e
 e1:e<=1650
def Se (n w T:Nat):Prop:=T<=12/\(9 < w->T<=3)/\(3 < n->n<=5->T<=5)/\(n=3->T<=6)
structure V51 (A lk:List (List Rat)) (T e:Nat):Prop where
 un:UnF A lk e
 ad:RM A lk T
 lw:∃S,RJ (kry A lk T) A.length S
 ft:∃k j,2*e+k+j<=3930/\∀xs∈kry A lk T,lN k j xs
section
variable {A lk pk:List (List Rat)} {T w e:Nat}
theorem EV {M1 M2 Vx a1 a2 c n:Nat} (B:Bd A lk M1 M2 Vx a1 a2 c) (D:fD A lk pk) (hn:A.length<=n) (n15:n<=15) (sz:2*(n*(c*T+(a1*(T - 1)+a2)+4)+(a1*(T - 1)+a2))<=3990):(∃S,RJ (kry A lk T) A.length S)/\∀xs∈kry A lk T,lN (a1*(T - 1)+a2) (c*T) xs:=by
 have f:=B.kry D T;have M0:0 < M1^(T - 1)*M2:=bE (fk B.m1) B.m2
 have hM:M1^(T - 1)*M2<=2^(a1*(T - 1)+a2):=by
  rw[aK];exact aD (ah (eG B.b1 _) (by rw[<- pS];exact ar _)) B.b2
 refine ⟨⟨_,(N5.lws (w:=c*T+(a1*(T - 1)+a2)) (a:=a1*(T - 1)+a2) ⟨_,2^(c*T+(a1*(T - 1)+a2)),M0,hM,dP,ar _,fun xs hx x hx'=>Tp.of (f xs hx x hx') (by rw[aK];exact aM _ hM),by lia,?_⟩ (fA rfl D.pw T)).lwt⟩,fun xs hx=>⟨_,_,M0,hM,ar _,f xs hx⟩⟩;have:min (kry A lk T).length A.length*(c*T+(a1*(T - 1)+a2)+4)<=n*(c*T+(a1*(T - 1)+a2)+4):=aw _ (by lia)
 lia
theorem Hu (G:Rg A lk w) (D:fD A lk pk) (St:Se A.length w T):∃e,V51 A lk T e:=by
 obtain ⟨s1,s2,s3,s4⟩:=St;have tri:∀{n N:Nat} (E e:Nat),n<=N->(∀p,p<=N->(N - p)*(p*E+4)<=e)->∀p,p<=n->(n - p)*(p*E+4)<=e:=fun E e hn h p hp=>ah (aw _ (by lia)) (h p (by lia))
 rcases G with ⟨_,B⟩ | ⟨_,n5,B⟩ | ⟨w1,n2,M1,M2,B⟩
 ·obtain ⟨l1,l2⟩:=EV (T:=T) (n:=8) B D D.n8 (by decide) (by lia);refine ⟨1650,⟨D.n8,D.mw,D.pw,⟨0,14,DB (M:=1) (V1:=9^3) (n0:=8) (by decide) (by decide) D.n8 (by decide) B.gm B.gp (by decide),?_,fun p hp=>?_⟩,by decide⟩,⟨_,_,_,_,_,_,B,by lia⟩,l1,⟨_,_,by lia,l2⟩⟩
  ·exact ah (aD D.n8 (show (A.length - 1)*(0+14)+4<=102 by have:=D.n8;lia)) (by decide)
  ·have:=tri 102 1650 D.n8 (by decide) p hp;exact ah (aM _ (CY (aM _ (by have:=D.n8;lia)) _)) this
 ·obtain ⟨l1,l2⟩:(∃S,RJ (kry A lk T) A.length S)/\∀xs∈kry A lk T,lN (12*(T - 1)+12) (16*T) xs:=by
   rcases (show A.length<=2\/A.length=3\/3 < A.length by lia) with h | h | h
   ·exact EV (n:=2) B D h (by decide) (by lia)
   ·have:=s4 h;exact EV (n:=3) B D (by lia) (by decide) (by lia)
   ·have:=s3 h n5;exact EV (n:=5) B D n5 (by decide) (by lia)
  refine ⟨720,⟨D.n8,D.mw,D.pw,⟨12,16,DB (M:=2520) (V1:=9^3*9) (n0:=5) (by decide) (by decide) n5 (by decide) B.gm B.gp (by decide),?_,fun p hp=>?_⟩,by decide⟩,⟨_,_,_,_,_,_,B,by lia⟩,l1,⟨_,_,by lia,l2⟩⟩
  ·exact ah (aD n5 (show (A.length - 1)*(12+16)+4<=116 by lia)) (by decide)
  ·have:=tri 116 720 n5 (by decide) p hp;exact ah (aM _ (CY (aM _ (by lia)) _)) this
 ·have t3:=s2 (by lia);obtain ⟨l1,l2⟩:=EV (T:=T) (n:=2) B D n2 (by decide) (by lia);have fm:GF (M1*M2) (9^3*2^20) A:=fun xs hx x hx'=>(B.gm xs hx x hx').scale M2
  have fp:GF (M1*M2) (9^3*2^20) lk:=fun xs hx x hx'=>(B.gp xs hx x hx').scaleL M1
  have hM:M1*M2<=2^240:=ah (aD B.b1 B.b2) (by rw[<- aK];exact ar _);refine ⟨600,⟨D.n8,D.mw,D.pw,⟨240,32,DB (n0:=2) (bE B.m1 B.m2) hM n2 (by decide) fm fp (by decide),?_,fun p hp=>?_⟩,by decide⟩,⟨_,_,_,_,_,_,B,by lia⟩,l1,⟨_,_,by lia,l2⟩⟩
  ·exact ah (aD n2 (show (A.length - 1)*(240+32)+4<=276 by lia)) (by decide)
  ·have:=tri 276 600 n2 (by decide) p hp;exact ah (aM _ (CY (aM _ (by lia)) _)) this
theorem tQ.symm {xs ys:List Rat} (h:tQ xs ys):tQ ys xs:=by obtain ⟨k,j,k',j',a,b,c⟩:=h;exact ⟨k',j',k,j,b,a,by lia⟩
end
def J9 (K:PySem.W.Frag):Sp:=fun vs H Q _=>∃(r:Addr) (T:Nat) (H0:Hp) (mv pt lk:List (List Rat)),vs=[.ref r,.int T]/\T<=12/\hJ K H0 H r mv pt lk/\fD mv pt lk/\RM (aW mv mv.length) lk T /\
 ∀q H',H q=none->aO H H'->bS K H H' q (kry (aW mv mv.length) lk T)->Q (.ref q) H'
def Fs:Sp:=fun vs H Q _=>∃(b:Addr) (n w:Nat),vs=[.ref b,.int n,.int w]/\jo H b/\n<=8/\∀(T:Nat) H',Se n w T->jo H' b->dc b H H'->Q (.int T) H'
section
variable {K:PySem.W.Frag} {g:TG} {tf:TT} {te:TE} {Q:VK} {σ₀:St} {H:Hp}
theorem Gz {n:Nat} (f:Nat->List Rat) (hl:n<=1000)
  (hs:∀(i:Nat) H' NY NN,i < n->aO H H'->(∀q H2,aO H' H2->H' q=none->cK K H2 q (f i)->NY (.ref q) H2)->wg σ₀ g tf te (.int i) H' NY NN)
  (hd:∀ys H' p,H p=none->aO H H'->H' p=some (.lst ys)->ys.Nodup->Paired (cZ K H H') ((List.range n).map f) ys->V.ref p∉ys->Q (.ref p) H'):wY (E6 0 n) σ₀ g tf te Q H:=by
 refine tx (fun i ys H'=>aO H H'/\Paired (cZ K H H') ((List.range i).map f) ys/\ys.Nodup/\∀y∈ys,∃q,y=V.ref q/\H' q≠none) (br (bT (by lia))) ⟨aO.refl _,.nil,C0,(fun _ h=>nomatch h)⟩ ?_ ?_
 ·rintro i ys H' hi hlen ⟨s,pr,nd,ne⟩;rw[Ap];refine hs i H' _ _ hi s fun q H2 s2 nq R=>⟨s.trans s2,?_,?_,fun y hy=>?_⟩
  ·rw[uw,dO];exact cu (Paired.imp' (fun _ _ z=>cZ.same z s2) pr) (.cons ⟨q,rfl,s.none nq,R⟩ .nil)
  ·refine dz.mpr ⟨nd,by simp,fun a ha b hb z=>?_⟩;rw[bU.mp hb] at z;obtain ⟨q',e,h⟩:=ne a ha;rw[z] at e;cases e;exact h nq
  ·rcases ax.mp hy with hy | hy
   ·obtain ⟨q',e,h⟩:=ne y hy;exact ⟨q',e,fun z=>h (s2.none z)⟩
   ·obtain ⟨_,gg,_⟩:=R;exact ⟨q,bU.mp hy,by rw[gg];exact fun z=>nomatch z⟩
 ·rintro ys H' hy ⟨s,pr,nd,ne⟩ p hp;refine hd ys _ p (s.none hp) (s.trans (aO.new hp)) aQ nd (Paired.imp' (fun _ _ z=>cZ.same z (aO.new hp)) pr) fun z=>?_
  obtain ⟨q,e,h⟩:=ne _ z;cases e;exact h hp
end
theorem GG.turn {mv pt lk:List (List Rat)} (h:GG mv pt lk):GG (aW mv mv.length) lk pt:=by
 obtain ⟨M,V,a,b,c,d,e,f⟩:=h;exact ⟨M,V,a,b,c,zT d,f,e⟩
def Sj (mv pt:List (List Rat)) (T u:Nat):Prop:=(∃R ps ps',cC (kry mv pt u) mv.length R ps/\cC (kry mv pt T) mv.length R ps')/\∀i,i < u->∀R ps ps',cC (kry mv pt i) mv.length R ps->¬cC (kry mv pt T) mv.length R ps'
def Sk (mv pt:List (List Rat)) (T:Nat) (L:List Rat) (pus:List (List Rat)):Prop:=∃u R ps,Sj mv pt T u/\cC (cY (aW (kry mv pt u) mv.length) L) ((kry mv pt u).length+1) R ps/\(kry mv pt u).length∉ps/\pus=AN (fY R ps (kry mv pt u).length) T u pt.length
def CmN (mv pt:List (List Rat)) (T:Nat) (L pr:List Rat):Prop:=∃u R ps R' ps',Sj mv pt T u/\cC (cY (aW (kry mv pt u) mv.length) L) ((kry mv pt u).length+1) R ps/\(kry mv pt u).length∈ps/\cC (cY (kry mv pt u++[L]) (List.replicate (kry mv pt u).length 0++[1])) (mv.length+1) R' ps'/\pr=fY R' ps' mv.length
section
variable {mv pt:List (List Rat)} {T u u':Nat} {L pr pr':List Rat} {pus pus':List (List Rat)} {Rs:List (List (List Rat))}
theorem vg.lt (h:vg mv pt Rs):∀(k i:Nat) (R R':List (List Rat)),Rs[i]?=some R->Rs[i+1+k]?=some R'->R.length < R'.length
 | 0,i,R,R',a,b=>h.up i R R' a b
 | k+1,i,R,R',a,b=>by
  have hk:i+1+k < Rs.length:=by have:=(aI.mp b).1;lia
  have e:Rs[i+1+k]?=some Rs[i+1+k]:=ag hk;exact Nat.lt_trans (h.lt k i R _ a e) (h.up (i+1+k) _ R' e b)
theorem vg.cmu (h:vg mv pt Rs) {R:List (List Rat)} {psT:List Nat} (eR:Rs[u]?=some R) (RRT:cC (kry mv pt T) mv.length R psT):Sj mv pt T u:=by
 obtain ⟨ps,RRu⟩:=h.rr u R eR;refine ⟨⟨R,ps,psT,RRu,RRT⟩,fun i hi R1 ps1 ps2 a b=>?_⟩;have hu:=(aI.mp eR).1;have ei:Rs[i]?=some (Rs[i]'(by lia)):=ag (by lia);obtain ⟨psi,RRi⟩:=h.rr i _ ei;have lt:=h.lt (u - i - 1) i _ R ei (by rw[show i+1+(u - i - 1)=u by lia];exact eR);have e1:=(RRi.same a).1;have e2:=(RRT.same b).1;rw[e1,e2] at lt;exact d9 _ lt
end
def Ke (K:PySem.W.Frag) (C:Addr):Sp:=fun vs H Q _=>∃(x s g:Addr) (T a c D W0 E W1:Nat) (H0:Hp) (mv pt lk:List (List Rat)) (st go:List Rat),vs=[.ref x,.ref s,.ref g,.int T]/\T<=99/\pW K H0 H C x mv pt lk/\fD mv pt lk/\GG mv pt lk/\uv mv pt a c/\cK K H s st/\st.length=mv.length/\cK K H g go/\go.length=mv.length/\E8 mv pt st (List.replicate T (List.replicate pt.length 0))/\(∀x∈go,pQ x)/\Rm mv pt (nX mv T st go) D W0 E W1 /\
 (∀t p pus q H',H' t=some (.tup [.str (Str.ofString "puts"),.ref p])->H p=none->aO H H'->bS K H H' p pus->pus.length=T->(∀xs∈pus,xs.length=pt.length)->rJ mv pt st pus T=go->Sk mv pt T (nX mv T st go) pus->0 < q->q<=(16*W0)^mv.length->(∀xs∈pus,∀x∈xs,Tp (E*q) (D*(mv.length*(W1*(16*W0)^mv.length))) x)->Q (.ref t) H') /\
 (∀t p pr q H',H' t=some (.tup [.str (Str.ofString "never"),.ref p])->H p=none->aO H H'->cK K H' p pr->pr.length=mv.length->(∀xs∈kry mv pt T,b7 xs pr=0)->b7 pr (nX mv T st go)=1->CmN mv pt T (nX mv T st go) pr->0 < q->q<=(16*W0)^mv.length*(16*(W1+E))->(∀y∈pr,Tp q ((16*W0)^mv.length*(16*(W1+E))) y)->Q (.ref t) H')
def J0 (K:PySem.W.Frag) (C:Addr):Sp:=fun vs H Q _=>∃(x g:Addr) (T a c D W0 E W1:Nat) (H0:Hp) (mv pt lk:List (List Rat)) (go:List Rat),vs=[.ref x,.ref g,.int T]/\T<=99/\pW K H0 H C x mv pt lk/\fD mv pt lk/\GG mv pt lk/\uv (aW mv mv.length) lk a c/\cK K H g go/\go.length=mv.length/\(∀x∈go,pQ x)/\Rm (aW mv mv.length) lk go D W0 E W1 /\
 (∀t p ws q H',H' t=some (.tup [.str (Str.ofString "from"),.ref p])->H p=none->aO H H'->bS K H H' p ws->ws.length=T->(∀xs∈ws,xs.length=lk.length)->rJ (aW mv mv.length) lk (List.replicate mv.length 0) ws.reverse T=go->Sk (aW mv mv.length) lk T go ws.reverse->0 < q->q<=(16*W0)^mv.length->(∀xs∈ws,∀x∈xs,Tp (E*q) (D*(mv.length*(W1*(16*W0)^mv.length))) x)->Q (.ref t) H') /\
 (∀t p pr q H',H' t=some (.tup [.str (Str.ofString "alike"),.ref p])->H p=none->aO H H'->cK K H' p pr->pr.length=mv.length->(∀xs∈kry (aW mv mv.length) lk T,b7 xs pr=0)->b7 pr go=1->CmN (aW mv mv.length) lk T go pr->0 < q->q<=(16*W0)^mv.length*(16*(W1+E))->(∀y∈pr,Tp q ((16*W0)^mv.length*(16*(W1+E))) y)->Q (.ref t) H')
def RL (d j:Nat) (go:List Rat):Prop:=∃E,0 < E/\E<=2^(d+22)/\∀z∈go,Fr E (2^(j+22)) z
structure Im (A lk:List (List Rat)) (T:Nat) (go:List Rat) (a c D W0 E W1 M d j e g x y v:Nat):Prop where
 kf:uv A lk a c
 m0:0 < M
 m1:M<=2^d
 rows:∀xs∈kry A lk T,∀z∈xs,Fr M (2^j) z
 co:Rm A lk go D W0 E W1
 e0:0 < E
 e1:E<=2^e
 gf:∀z∈go,Fr E (2^g) z
 qx:(16*W0)^A.length<=2^x
 wy:W1+E<=2^y
 dv:D*(A.length*W1)<=2^v
 s1:d+e+x<=3990
 s2:7+(j+d)+(v+x)<=3990
 s3:2*(x+4+y)+d+j<=3930
 s4:2*(x+4+y)+e+g<=3930
def Q4 (N T a1 a2 c:Nat):Prop :=
 let dd:=a1*(N - 1)+a2
 let d:=a1*(T - 1)+a2
 let x:=N*(4+(c*N+dd))
 let y:=c*T+22+(d+22)+1
 let w:=(c*N+dd)+(d+22)+(c*T+22+(d+22))+dd+2
 d+(d+22)+x<=3990/\7+(c*T+d)+(dd+3+(c*T+22+(d+22))+x)<=3990/\2*(x+4+y)+d+c*T<=3930/\2*(x+4+y)+(d+22)+(c*T+22)<=3930/\w<=4300/\(N+1)*(w+4)<=8900
section
variable {A lk pk:List (List Rat)} {M1 M2 Vx a1 a2 c N T a k w t:Nat} {go:List Rat}
variable {D W0 E W1 M d j e g x y v q:Nat} {pr:List Rat} {ws:List (List Rat)}
theorem Im.wsT (h:Im A lk t go a c D W0 E W1 M d j e g x y v) (q0:0 < q) (q1:q<=(16*W0)^A.length) {n:Nat} (en:n=A.length) (hw:∀xs∈ws,∀z∈xs,Tp (E*q) (D*(n*(W1*(16*W0)^n))) z):(∀z∈ws.flatten,Tp (E*q) (2^(v+x)) z)/\(∀xs∈ws,∀z∈xs,pQ z)/\0 < E*q/\M*(E*q)<=2^3990/\128*(2^(j+d)*2^(v+x))<=2^3990:=by
 have s1:=h.s1;have s2:=h.s2;have up:∀{p r:Nat},p<=r->2^p<=2^r:=fun z=>ao (by decide) z
 have E0:0 < E*q:=bE h.e0 q0;have Eq:E*q<=2^(e+x):=by rw[aK];exact aD h.e1 (ah q1 h.qx)
 have b:D*(n*(W1*(16*W0)^n))<=2^(v+x):=by
  rw[en,<- bP A.length,<- bP,aK];exact aD h.dv h.qx
 have tw:∀xs∈ws,∀z∈xs,Tp (E*q) (2^(v+x)) z:=fun xs hx z hz=>by
  obtain ⟨i,e,l⟩:=hw xs hx z hz;exact ⟨i,e,ah l b⟩
 refine ⟨fun z hz=>?_,fun xs hx z hz=>Fl (tw xs hx z hz) E0 (ah Eq (up (by lia))) (up (by lia)),E0,?_,?_⟩
 ·obtain ⟨xs,hx,hz⟩:=nh.mp hz;exact tw xs hx z hz
 ·refine ah (aD h.m1 Eq) ?_;rw[<- aK];exact up (by lia)
 ·rw[show 128=2^7 by decide,<- aK,<- aK];exact up (by lia)
theorem Im.prF (h:Im A lk t go a c D W0 E W1 M d j e g x y v) (q0:0 < q) {n:Nat} (en:n=A.length) (q1:q<=(16*W0)^n*(16*(W1+E))) (hp:∀z∈pr,Tp q ((16*W0)^n*(16*(W1+E))) z):(∀z∈pr,pQ z)/\tQ go pr/\∀xs∈kry A lk t,tQ xs pr:=by
 have s3:=h.s3;have s4:=h.s4
 have b:(16*W0)^n*(16*(W1+E))<=2^(x+(4+y)):=by
  rw[en,aK 2 x,aK 2 4];exact aD h.qx (aM _ h.wy)
 have f:lN (x+(4+y)) (x+(4+y)) pr:=⟨q,_,q0,ah q1 b,b,fun z hz=>(hp z hz).fr q0⟩;refine ⟨fun z hz=>Fl (hp z hz) q0 (ah (ah q1 b) (ao (by decide) (by lia))) (ah b (ao (by decide) (by lia))),⟨_,_,_,_,⟨E,_,h.e0,h.e1,ar _,h.gf⟩,f,by lia⟩,fun xs hx=>⟨_,_,_,_,⟨M,_,h.m0,h.m1,ar _,h.rows xs hx⟩,f,by lia⟩⟩
theorem Im.goS (h:Im A lk t go a c D W0 E W1 M d j e g x y v):∀z∈go,pQ z:=fun z hz=>jO h.e0 h.e1 (ar _) (by have:=h.s4;lia) (h.gf z hz)
end
section
theorem G8 {M V:Nat} {f:Nat->Rat}:∀k,(∀i,i < k->Fr M V (f i))->Fr M (k*V) (bM k f)
 | 0,_=>Fr.zero
 | k+1,h=>by
  rw[df];exact (G8 k fun i hi=>h i (by lia)).add (h k (by lia))
variable {d j n w M:Nat} {go ws:List Rat} {rows:List (List Rat)}
theorem LG (h:∀x∈go,Dr (max w 6) x) (hw:w<=9\/w=1000/\go.length<=2):RL d j go:=by
 rcases hw with w9 | ⟨w9,l2⟩
 ·exact ⟨2520,by decide,ah (show 2520<=2^22 by decide) (ao (by decide) (by lia)),fun z hz=>(DL ⟨ah (h z hz).1 (by lia),ah (h z hz).2 (by lia)⟩ (An _)).mono (ah (show 9<=2^22 by decide) (ao (by decide) (by lia)))⟩
 ·obtain ⟨B,h0,h1,h2⟩:=Cy (c:=10) (l:=go) (fun x hx=>⟨ah (h x hx).1 (by rw[w9];decide),ah (h x hx).2 (by rw[w9];decide)⟩) (by decide);exact ⟨B,h0,ah h1 (ao (by decide) (by lia)),fun z hz=>(h2 z hz).mono (ao (by decide) (by lia))⟩
end
theorem Qb {A lk pk ws:List (List Rat)} {T:Nat} (D:fD A lk pk) (l:ws.length=T) (hw:∀xs∈ws,xs.length=lk.length):GU (kry A lk T) ws.flatten A.length=rJ A lk (List.replicate A.length 0) ws.reverse T:=by
 have l0:(List.replicate A.length (0:Rat)).length=A.length:=aF ..;have lr:ws.reverse.length=T:=by rw[fM];exact l
 have ls:=nZ (mv:=A) (pt:=lk) (pus:=ws.reverse) (k:=T) l0 (by lia);refine yU (by rw[show (GU (kry A lk T) ws.flatten A.length).length=A.length from C4,ls]) fun c hc=>?_
 rw[show (GU (kry A lk T) ws.flatten A.length).length=A.length from C4] at hc;rw[zS hc,xx D l0 T (by lia) (fun xs hx=>hw xs (jr.mp hx)) c hc,xc,aH (by lia),uq,uV hw,p9,l]
 have:(List.replicate A.length (0:Rat)).getD c 0=0:=by
  rw[aa];cases h:(List.replicate A.length (0:Rat))[c]? with
  | none=>rfl
  | some x=>exact nY (aA h)
 rw[this,Rat.zero_add]
def Me (K:PySem.W.Frag):Sp:=fun vs H Q _=>∃(b p:Addr) (n w M d j:Nat) (H0:Hp) (rows:List (List Rat)),vs=[.ref b,.ref p,.int n,.int w]/\jo H b/\H0 b≠none/\p≠b/\bS K H0 H p rows/\rows.length<=100/\n<=8/\(∀xs∈rows,xs.length=n)/\1<=w/\(w<=9\/w=1000/\n<=2)/\0 < M/\M<=2^d/\d+j<=500/\(∀xs∈rows,∀x∈xs,Fr M (2^j) x) /\
 ∀r go H',H r=none->cK K H' r go->go.length=n->RL d j go->jo H' b->dc b H H'->Q (.ref r) H'
section
variable {mv pt lk A ws pus:List (List Rat)} {x y st pr go:List Rat} {n t T o:Nat}
theorem CB {P p q:List Rat} (h1:P.length=p.length) (h2:P.length=q.length):b7 P (List.zipWith (fun x y=>x+y) p q)=b7 P p+b7 P q:=by
 have l:(List.zipWith (fun x y=>x+y) p q).length=P.length:=by rw[bx];lia
 rw[cT l.symm,cT h1,cT h2,<- rH];refine aV fun c hc=>?_
 have e:(List.zipWith (fun x y=>x+y) p q).getD c 0=p.getD c 0+q.getD c 0:=by
  rw[aa,ag (by lia),fq,aa,aa,ag (by lia),ag (by lia)];rfl
 rw[e];grind
theorem Jx {P p q:List Rat} (h1:P.length=p.length) (h2:P.length=q.length):b7 P (List.zipWith (fun x y=>x - y) p q)=b7 P p - b7 P q:=by
 have l:(List.zipWith (fun x y=>x - y) p q).length=P.length:=by rw[bx];lia
 rw[cT l.symm,cT h1,cT h2]
 have:∀k,k<=P.length->(bM k fun c=>P.getD c 0*(List.zipWith (fun x y=>x - y) p q).getD c 0)=(bM k fun c=>P.getD c 0*p.getD c 0) - bM k fun c=>P.getD c 0*q.getD c 0:=by
  intro k
  induction k with
  | zero=>intro _;show (0:Rat)=0 - 0;grind
  | succ k ih =>
   intro hk;show (bM k _)+P.getD k 0*(List.zipWith (fun x y=>x - y) p q).getD k 0=(bM k _+P.getD k 0*p.getD k 0) - (bM k _+P.getD k 0*q.getD k 0)
   rw[ih (by lia),C2 (by lia) (by lia)];grind
 exact this _ (ar _)
theorem Jv (hc:t < n):(aW mv n).getD t []=mv.map fun xs=>xs.getD t 0:=by
 unfold aW;rw[aa,aG,cU hc];rfl
theorem KA (hc:t < mv.length):(nB mv x).getD t 0=b7 (mv.getD t []) x:=by
 unfold nB;rw[aa,aG,aa,ag hc];rfl
theorem KD (wm:∀xs∈mv,xs.length=n) (lx:x.length=mv.length) (ly:y.length=n):b7 (nB (aW mv n) x) y=b7 x (nB mv y):=by
 have lt:(aW mv n).length=n:=bZ;rw[cT (by rw[nQ,lt,ly]),nQ,lt,cT (by rw[nQ,lx]),lx]
 have e1:∀c,c < n->(nB (aW mv n) x).getD c 0*y.getD c 0=bM mv.length fun i=>x.getD i 0*((mv.getD i []).getD c 0*y.getD c 0):=fun c hc=>by
  rw[KA (by lia),Jv hc,cT (by rw[ak,lx]),ak,dw,<- dm];refine aV fun i hi=>?_
  have:(mv.map fun xs=>xs.getD c 0).getD i 0=(mv.getD i []).getD c 0:=by
   rw[aa,aG,aa (l:=mv),ag hi];rfl
  rw[this];grind
 rw[aV e1,iJ];refine aV fun i hi=>?_
 have wi:(mv.getD i []).length=n:=by
  rw[aa,ag hi];exact wm _ (aL hi)
 rw[dm,KA hi,cT (by rw[wi,ly]),wi]
theorem FL:∀t,eN mv t (nB mv x)=eN mv (t+1) x
 | 0=>rfl
 | t+1=>by
  show nB mv (eN mv t (nB mv x))=nB mv (eN mv (t+1) x)
  rw[FL t]
theorem zY (wm:∀xs∈mv,xs.length=mv.length) (ly:y.length=mv.length):∀t (x:List Rat),x.length=mv.length->b7 (eN (aW mv mv.length) t x) y=b7 x (eN mv t y)
 | 0,x,_=>rfl
 | t+1,x,lx=>by
  have lt:(aW mv mv.length).length=mv.length:=bZ;rw[<- FL,zY wm ly t _ (by rw[nQ,lt]),KD wm lx (mC ly t)];rfl
theorem zW {pk:List (List Rat)} (D:fD mv pt pk) (ls:st.length=mv.length) (wp:∀xs∈pus,xs.length=pt.length) (ht:t<=pus.length) (lx:x.length=mv.length):b7 x (rJ mv pt st pus t) - b7 x (rJ mv pt (List.replicate mv.length 0) pus t)=b7 (eN (aW mv mv.length) t x) st:=by
 have l0:(List.replicate mv.length (0:Rat)).length=mv.length:=aF ..;have l1:=nZ (mv:=mv) (pt:=pt) (pus:=pus) (k:=t) ls ht;have l2:=nZ (mv:=mv) (pt:=pt) (pus:=pus) (k:=t) l0 ht;rw[zY D.mw ls t x lx,<- Jx (by lia) (by lia)];refine congrArg _ (yU (by rw[bx,mC ls];lia) fun c hc=>?_);rw[bx] at hc;rw[C2 (by lia) (by lia),xx D ls t ht wp c (by lia),xx D l0 t ht wp c (by lia),xc]
 have:(List.replicate mv.length (0:Rat)).getD c 0=0:=by
  rw[aa];cases h:(List.replicate mv.length (0:Rat))[c]? with
  | none=>rfl
  | some x=>exact nY (aA h)
 rw[this];grind
theorem HP (hx:x∈lk):∀T t,t < T->eN A t x∈kry A lk T
 | 0,_,h=>absurd h (fG _)
 | T+1,0,_=>ax.mpr (.inl hx)
 | T+1,t+1,h=>ax.mpr (.inr (aE.mpr ⟨_,HP hx T t (by lia),rfl⟩))
theorem Az {f:Nat->Rat}:∀k,bM (k+1) f=f 0+bM k fun i=>f (i+1)
 | 0=>by show (0:Rat)+f 0=f 0+0;grind
 | k+1=>by
  show bM (k+1) f+f (k+1)=f 0+(bM k _+f (k+1))
  rw[Az k];grind
theorem LX {rows:List (List Rat)} (hl:x.length=rows.length) (hw:∀xs∈rows,xs.length=n) (ly:y.length=n):b7 (GU rows x n) y=b7 x (rows.map fun xs=>b7 xs y):=by
 have lw:(GU rows x n).length=n:=C4;rw[cT (by lia),lw,cT (by rw[ak];exact hl)]
 have e:∀c,c < n->(GU rows x n).getD c 0*y.getD c 0=bM x.length fun i=>x.getD i 0*(cD rows i c*y.getD c 0):=fun c hc=>by
  rw[zS hc,dw,<- dm];exact aV fun i _=>by grind
 rw[aV e,iJ];refine aV fun i hi=>?_
 rw[dm];have hi':i < rows.length:=by lia
 have wi:=hw _ (aL hi')
 have:(rows.map fun xs=>b7 xs y).getD i 0=b7 rows[i] y:=by
  rw[aa,aG,ag hi'];rfl
 rw[this,cT (by lia),wi];refine congrArg _ (aV fun c _=>?_);unfold cD;rw[aa (l:=rows),ag hi'];rfl
theorem EJ (wm:∀xs∈mv,xs.length=mv.length) (wl:∀xs∈lk,xs.length=mv.length):∀(ws:List (List Rat)) (y:List Rat),y.length=mv.length->(∀xs∈ws,xs.length=lk.length)->b7 ws.flatten ((kry (aW mv mv.length) lk ws.length).map fun xs=>b7 xs y)=bM ws.length fun t=>b7 (ws.getD t []) (lk.map fun xs=>b7 (eN (aW mv mv.length) t xs) y)
 | [],y,_,_=>by simp [b7,bM]
 | w :: ws,y,ly,hw=>by
  have lt:(aW mv mv.length).length=mv.length:=bZ;have wk:=fA (mv:=aW mv mv.length) (pt:=lk) lt wl ws.length;rw[fE,aZ,Az];show b7 (w++ws.flatten) ((lk++(kry (aW mv mv.length) lk ws.length).map (nB (aW mv mv.length))).map fun xs=>b7 xs y)=_
  rw[dO,rT (by rw[ak];exact hw w (dk ..)),rg];have e1:((kry (aW mv mv.length) lk ws.length).map ((fun xs=>b7 xs y) ∘ nB (aW mv mv.length)))=(kry (aW mv mv.length) lk ws.length).map fun xs=>b7 xs (nB mv y):=dH fun xs hx=>KD wm (wk xs hx) ly
  rw[e1,EJ wm wl ws (nB mv y) nQ fun xs hx=>hw xs (bV _ hx)]
  have e2:∀t,(lk.map fun xs=>b7 (eN (aW mv mv.length) t xs) (nB mv y))=lk.map fun xs=>b7 (eN (aW mv mv.length) (t+1) xs) y:=fun t=>dH fun xs hx=>by
   rw[zY wm nQ t xs (wl xs hx),FL,<- zY wm ly (t+1) xs (wl xs hx)]
  rw[aV fun t _=>by rw[e2 t]];rfl
end
structure B3 (mv pt lk:List (List Rat)) (M1 M2 M3 V a1 a2 c:Nat):Prop where
 p:Bd mv pt M1 M2 V a1 a2 c
 q:Bd (aW mv mv.length) lk M1 M3 V a1 a2 c
def Rj (mv pt lk:List (List Rat)) (w:Nat):Prop:=(w<=9/\B3 mv pt lk 1 1 1 (9^3) 0 0 14)\/(w<=9/\mv.length<=5/\B3 mv pt lk 2520 2520 2520 (9^3*9) 12 12 16)\/(w=1000/\mv.length<=2/\∃M1 M2 M3,B3 mv pt lk M1 M2 M3 (9^3*2^20) 80 160 33)
theorem Rj.g {mv pt lk:List (List Rat)} {w:Nat} (h:Rj mv pt lk w):Rg (aW mv mv.length) lk w:=by
 have et:(aW mv mv.length).length=mv.length:=bZ;rcases h with ⟨a,b⟩ | ⟨a,b,c⟩ | ⟨a,b,M1,M2,M3,c⟩
 ·exact .inl ⟨a,b.q⟩
 ·exact .inr (.inl ⟨a,by rw[et];exact b,c.q⟩)
 ·exact .inr (.inr ⟨a,by rw[et];exact b,M1,M3,c.q⟩)
structure PX (mv pt lk pus:List (List Rat)) (st:List Rat):Prop where
 en:Si mv pt pus st
 fit:∀t,t<=pus.length->∀xs∈lk,tQ xs (rJ mv pt st pus t)
def PC (mv pt lk:List (List Rat)) (T:Nat) (st:List Rat) (pus:List (List Rat)) (e g x y v:Nat):Prop:=∃M1 M2 M3 V a1 a2 c N Np ν p,B3 mv pt lk M1 M2 M3 V a1 a2 c/\0 < N/\N<=2^ν/\M2*Np∣N/\(∀z∈st,Fr N (2^p) z)/\(∀xs∈pus,∀z∈xs,Fr Np (2^p) z) /\
 a1*(T+1)+ν+c*(T+1)+p+a2+2*(x+(4+y))+1<=3900/\(e+x)+(v+x)+(a2+(a1*T+ν))+(c*(T+1)+p+1)+20<=3900/\e+g+ν+2*(x+(4+y))+p+1<=3900/\a2+c<=3900
def RK (A lk:List (List Rat)) (T:Nat) (go:List Rat) (ws:List (List Rat)) (e x v:Nat):Prop:=ws.length=T/\(∀xs∈ws,xs.length=lk.length)/\GU (kry A lk T) ws.flatten A.length=go/\∃D,0 < D/\D<=2^(e+x)/\∀xs∈ws,∀z∈xs,Tp D (2^(v+x)) z
def Sm (A lk:List (List Rat)) (T:Nat) (go pr:List Rat) (x y:Nat):Prop:=pr.length=A.length/\(∀xs∈kry A lk T,b7 xs pr=0)/\b7 go pr=1/\∃q,0 < q/\q<=2^(x+(4+y))/\∀z∈pr,Tp q (2^(x+(4+y))) z
def Rl (go:List Rat) (e g:Nat):Prop:=∃E,0 < E/\E<=2^e/\∀z∈go,Fr E (2^g) z
section
variable {mv pt lk ws pus:List (List Rat)} {st go pr:List Rat} {M1 M2 M3 V a1 a2 c N Np ν p T t e g x y v w:Nat}
theorem B3.looks (B:B3 mv pt lk M1 M2 M3 V a1 a2 c) (D:fD mv pt lk) (ls:st.length=mv.length) (wp:∀xs∈pus,xs.length=pt.length) (lp:pus.length=T) (N0:0 < N) (hN:N<=2^ν) (dv:M2*Np∣N) (hs:∀z∈st,Fr N (2^p) z) (hu:∀xs∈pus,∀z∈xs,Fr Np (2^p) z) (sz:a1*(T+1)+ν+c*(T+1)+p+a2<=3900) (sp2:a2+c<=3900):PX mv pt lk pus st/\∀t,t<=T->∀xs∈lk,Fr (M3*(M1^T*N)) (2^(c*(T+1)+p)) (b7 xs (rJ mv pt st pus t)):=by
 subst lp;have f:=fun t ht=>(B.p.states D ls wp N0 hN dv hs hu (by lia) sp2 t ht).1
 have V1:=B.p.v1;have ct:∀t,t<=pus.length->a1*t<=a1*(pus.length+1)/\c*t+c<=c*(pus.length+1):=fun t ht=>⟨aM _ (by lia),by rw[<- Nat.mul_succ];exact aM _ (by lia)⟩
 refine ⟨⟨⟨M1,M2,V,a1,a2,c,N,Np,p,ν,B.p,N0,hN,dv,hs,hu,by lia,sp2⟩,fun t ht xs hx=>?_⟩,fun t ht xs hx=>?_⟩
 ·obtain ⟨c1,c2⟩:=ct t ht;exact ⟨a2,c,a1*t+ν,c*t+p,⟨M3,V,B.q.m2,B.q.b2,V1,B.q.gp xs hx⟩,⟨M1^t*N,2^(c*t+p),bE (fk B.p.m1) N0,uI B.p.b1 hN,ar _,f t ht⟩,by lia⟩
 ·obtain ⟨c1,c2⟩:=ct t ht;have wx:=D.lw xs hx;refine Fr.up (Fr.dot (B.q.gp xs hx) (f t ht)) (Nat.mul_dvd_mul_left _ (BI (LR _ ht) _)) ?_;rw[wx,<- bP];refine ah (aw _ (show mv.length*V<=2^c from ah (aw _ (by lia)) B.p.vc)) ?_;rw[<- aK];exact ao (by decide) (by lia)
def Jz (mv lk:List (List Rat)) (st:List Rat) (t:Nat):List Rat:=lk.map fun xs=>b7 (eN (aW mv mv.length) t xs) st
def Gn (mv pt lk:List (List Rat)) (st:List Rat) (pus:List (List Rat)):List (List Rat):=(List.range pus.length).map fun t=>lk.map fun xs=>b7 xs (rJ mv pt st pus t)
theorem Q2 (D:fD mv pt lk) (ls:st.length=mv.length) (wp:∀xs∈pus,xs.length=pt.length) (ht:t<=pus.length):List.zipWith (fun x y=>x - y) (lk.map fun xs=>b7 xs (rJ mv pt st pus t)) (lk.map fun xs=>b7 xs (rJ mv pt (List.replicate mv.length 0) pus t))=Jz mv lk st t:=by
 unfold Jz;rw[List.zipWith_map,List.zipWith_self];exact dH fun xs hx=>zW D ls wp ht (D.lw xs hx)
theorem Lh (D:fD mv pt lk) (F:RK (aW mv mv.length) lk T go ws e x v) (ls:st.length=mv.length):(bM T fun t=>b7 (ws.getD t []) (Jz mv lk st t))=b7 go st:=by
 obtain ⟨lw,ww,ew,_⟩:=F;have et:(aW mv mv.length).length=mv.length:=bZ;have wk:=fA (mv:=aW mv mv.length) (pt:=lk) et D.lw T;have kl:=p9 (mv:=aW mv mv.length) (pt:=lk) T;rw[<- ew,et,LX (by rw[uV ww,kl,lw]) wk ls,<- lw,EJ D.mw D.lw ws st ls ww];rfl
theorem PC.frm (X:PC mv pt lk T st pus e g x y v) (D:fD mv pt lk) (ls:st.length=mv.length) (wp:∀xs∈pus,xs.length=pt.length) (lp:pus.length=T) (t12:T<=12) (F:RK (aW mv mv.length) lk T go ws e x v) (G:Rl go e g):PX mv pt lk pus st/\PX mv pt lk pus (List.replicate mv.length 0)/\(∀t,t<=T->(∀z∈(lk.map fun xs=>b7 xs (rJ mv pt st pus t)),pQ z)/\∀z∈(lk.map fun xs=>b7 xs (rJ mv pt (List.replicate mv.length 0) pus t)),pQ z)/\(∀t,t < T->tQ (ws.getD t []) (Jz mv lk st t))/\(∀t,t < T->pQ (b7 (ws.getD t []) (Jz mv lk st t)))/\(∀j,j<=T->pQ (bM j fun t=>b7 (ws.getD t []) (Jz mv lk st t)))/\tQ go st:=by
 obtain ⟨M1,M2,M3,V,a1,a2,c,N,Np,ν,p,B,N0,hN,dv,hs,hu,z1,z2,z3,z4⟩:=X;have o4:=D.o4;have l0:(List.replicate mv.length (0:Rat)).length=mv.length:=aF ..;obtain ⟨L1,f1⟩:=B.looks D ls wp lp N0 hN dv hs hu (by lia) z4;obtain ⟨L2,f2⟩:=B.looks D l0 wp lp N0 hN dv (st:=List.replicate mv.length 0) (fun z hz=>by rw[nY hz];exact Fr.zero) hu (by lia) z4;obtain ⟨lw,ww,ew,Dn,D0,D1,tw⟩:=F;obtain ⟨E,E0,E1,gf⟩:=G;have M0:0 < M3*(M1^T*N):=bE B.q.m2 (bE (fk B.p.m1) N0);have Mb:M3*(M1^T*N)<=2^(a2+(a1*T+ν)):=by rw[aK];exact aD B.q.b2 (uI B.p.b1 hN)
 have fd:∀t,t<=T->∀z∈Jz mv lk st t,Fr (M3*(M1^T*N)) (2^(c*(T+1)+p+1)) z:=fun t ht z hz=>by
  obtain ⟨xs,hx,rfl⟩:=aE.mp hz;rw[<- zW D ls wp (by lia) (D.lw xs hx)];refine ((f1 t ht xs hx).sub (f2 t ht xs hx)).mono ?_;rw[dN]
  lia
 have a1T:a1*T<=a1*(T+1):=aM _ (by lia);have wt:∀t,t < T->∀z∈ws.getD t [],Fr Dn (2^(v+x)) z:=fun t ht z hz=>(tw _ (getD_in (by lia)) z hz).fr D0
 have dt:∀t,t < T->Fr (Dn*(M3*(M1^T*N))) (2^(2+(v+x)+(c*(T+1)+p+1))) (b7 (ws.getD t []) (Jz mv lk st t)):=fun t ht=>by
  refine (Fr.dot (wt t ht) (fd t (by lia))).mono ?_;rw[ww _ (getD_in (by lia)),aK 2 (2+(v+x)),aK 2 2,bP];exact aw _ o4
 have DM:Dn*(M3*(M1^T*N))<=2^((e+x)+(a2+(a1*T+ν))):=by rw[aK];exact aD D1 Mb
 refine ⟨L1,L2,fun t ht=>⟨fun z hz=>?_,fun z hz=>?_⟩,fun t ht=>⟨_,_,_,_,⟨Dn,_,D0,D1,ar _,wt t ht⟩,⟨_,_,M0,Mb,ar _,fd t (by lia)⟩,by lia⟩,fun t ht=>jO (bE D0 M0) DM (ar _) (by lia) (dt t ht),fun j hj=>?_,⟨_,_,_,_,⟨E,_,E0,E1,ar _,gf⟩,⟨N,_,N0,hN,ar _,hs⟩,by lia⟩⟩
 ·obtain ⟨xs,hx,rfl⟩:=aE.mp hz;exact jO M0 Mb (ar _) (by lia) (f1 t ht xs hx)
 ·obtain ⟨xs,hx,rfl⟩:=aE.mp hz;exact jO M0 Mb (ar _) (by lia) (f2 t ht xs hx)
 ·refine jO (b:=4+(2+(v+x)+(c*(T+1)+p+1))) (bE D0 M0) DM ?_ (by lia) (G8 j fun i hi=>dt i (by lia));rw[aK 2 4];exact aw _ (by lia)
theorem PC.alk (X:PC mv pt lk T st pus e g x y v) (D:fD mv pt lk) (ls:st.length=mv.length) (wp:∀xs∈pus,xs.length=pt.length) (lp:pus.length=T) (F:Sm (aW mv mv.length) lk T go pr x y) (G:Rl go e g) (lg:go.length=mv.length):(∀z∈st,pQ z)/\(∀z∈pr,pQ z)/\PX mv pt lk pus st/\PX mv pt lk pus (List.zipWith (fun x y=>x+y) st pr)/\Gn mv pt lk st pus=Gn mv pt lk (List.zipWith (fun x y=>x+y) st pr) pus/\tQ go st/\tQ go (List.zipWith (fun x y=>x+y) st pr)/\pQ (b7 go st)/\pQ (b7 go (List.zipWith (fun x y=>x+y) st pr))/\b7 go (List.zipWith (fun x y=>x+y) st pr) - b7 go st=1:=by
 obtain ⟨M1,M2,M3,V,a1,a2,c,N,Np,ν,p,B,N0,hN,dv,hs,hu,z1,z2,z3,z4⟩:=X;obtain ⟨lpr,kp,dp,q,q0,q1,tq⟩:=F;obtain ⟨E,E0,E1,gf⟩:=G;have et:(aW mv mv.length).length=mv.length:=bZ;rw[et] at lpr;have d8:=D.n8;obtain ⟨L1,f1⟩:=B.looks D ls wp lp N0 hN dv hs hu (by lia) z4;have lo:(List.zipWith (fun x y=>x+y) st pr).length=mv.length:=by rw[bx];lia
 have ho:∀z∈List.zipWith (fun x y=>x+y) st pr,Fr (N*q) (2^(x+(4+y)+p+1)) z:=fun z hz=>by
  obtain ⟨i,hi,rfl⟩:=b9 hz;rw[lo] at hi;rw[fq];refine (((hs _ (aL (l:=st) (n:=i) (by lia))).scale q).add (((tq _ (aL (l:=pr) (n:=i) (by lia))).fr q0).scaleL N)).mono ?_;have h1:2^p<=2^(x+(4+y)+p):=ao (by decide) (by lia);have h2:2^(x+(4+y))<=2^(x+(4+y)+p):=ao (by decide) (by lia);rw[dN]
  lia
 have Nq:N*q<=2^(ν+(x+(4+y))):=by rw[aK];exact aD hN q1
 obtain ⟨L2,f2⟩:=B.looks D lo wp lp (bE N0 q0) Nq (yx dv (Nat.dvd_mul_right _ _)) ho (fun xs hx z hz=>(hu xs hx z hz).mono (ao (by decide) (by lia))) (by lia) z4;have g1:lN e g go:=⟨E,_,E0,E1,ar _,gf⟩;have g2:lN ν p st:=⟨N,_,N0,hN,ar _,hs⟩;have g3:lN (ν+(x+(4+y))) (x+(4+y)+p+1) (List.zipWith (fun x y=>x+y) st pr):=⟨_,_,bE N0 q0,Nq,ar _,ho⟩;refine ⟨fun z hz=>jO N0 hN (ar _) (by lia) (hs z hz),fun z hz=>jO q0 q1 (ar _) (by lia) ((tq z hz).fr q0),L1,L2,?_,⟨_,_,_,_,g1,g2,by lia⟩,⟨_,_,_,_,g1,g3,by lia⟩,Cz g1 g2 (by lia) (by lia),Cz g1 g3 (by lia) (by lia),?_⟩
 ·unfold Gn;refine dH fun t ht=>dH fun xs hx=>?_
  have ht:=rd.mp ht;have wx:=D.lw xs hx;have h1:=zW D ls wp (by lia:t<=pus.length) wx;have h2:=zW D lo wp (by lia:t<=pus.length) wx;have wp':(eN (aW mv mv.length) t xs).length=mv.length:=by rw[mC (by rw[et];exact wx),et]
  rw[CB (by lia) (by lia),kp _ (HP hx T t (by lia))] at h2;grind
 ·rw[CB (by lia) (by lia),dp];grind
end
def MQ (N a1 a2 c:Nat):Nat:=N*(4+(c*N+(a1*(N - 1)+a2)))
def Oe (T a1 a2 c:Nat):Nat:=c*T+22+(a1*(T - 1)+a2+22)+1
def PU (N T a1 a2 c:Nat):Nat:=a1*(N - 1)+a2+3+(c*T+22+(a1*(T - 1)+a2+22))
section
variable {A lk pk:List (List Rat)} {M1 M2 Vx a1 a2 c N T a k w t:Nat} {go:List Rat}
theorem Pz (B:Bd A lk M1 M2 Vx a1 a2 c) (D:fD A lk pk) (KF:uv A lk a k) (hn:A.length<=N) (N1:1<=N) (Z:Q4 N T a1 a2 c) (h:RL (a1*(T - 1)+a2) (c*T) go) (ht:t<=T):∃a k D W0 E W1 M,Im A lk t go a k D W0 E W1 M (a1*(T - 1)+a2) (c*T) (a1*(T - 1)+a2+22) (c*T+22) (MQ N a1 a2 c) (Oe T a1 a2 c) (PU N T a1 a2 c):=by
 unfold MQ Oe PU;obtain ⟨E,E0,E1,gf⟩:=h;obtain ⟨z1,z2,z3,z4,z5,z6⟩:=Z;have n8:A.length<=2^3:=D.n8
 have pw:∀{m p a r:Nat},m<=2^a->p<=2^r->∀i,m^i*p<=2^(a*i+r):=fun h1 h2 i=>by
  rw[aK];exact aD (ah (eG h1 _) (by rw[<- pS];exact ar _)) h2
 have D0:0 < M1^(N - 1)*M2:=bE (fk B.m1) B.m2;have D1:=pw B.b1 B.b2 (N - 1);have MT:=pw B.b1 B.b2 (T - 1)
 have kf:∀u m,u<=m->∀xs∈kry A lk u,∀x∈xs,Fr (M1^(m - 1)*M2) (2^(c*m)) x:=fun u m hu xs hx x hx' =>
  Fr.up (B.kry D u xs hx x hx') (BI (LR _ (by lia)) _) (ao (by decide) (aM _ hu))
 have W0:2^(c*N)*(M1^(N - 1)*M2)<=2^(c*N+(a1*(N - 1)+a2)):=by rw[aK];exact aM _ D1
 have W1:2^(c*T+22)*E<=2^(c*T+22+(a1*(T - 1)+a2+22)):=by rw[aK 2 (c*T+22)];exact aM _ E1
 generalize a1*(N - 1)+a2=dd at *
 generalize a1*(T - 1)+a2=d at *
 have q2:(16*(2^(c*N)*(M1^(N - 1)*M2)))^A.length<=2^(N*(4+(c*N+dd))):=by
  have e1:16*(2^(c*N)*(M1^(N - 1)*M2))<=2^(4+(c*N+dd)):=by rw[aK 2 4];exact aM _ W0
  refine ah (eG e1 _) ?_;rw[<- pS,cb N];exact ao (by decide) (aM _ hn)
 have E2:E<=2^(c*T+22+(d+22)):=ah E1 (ao (by decide) (by lia));refine ⟨a,k,M1^(N - 1)*M2,2^(c*N)*(M1^(N - 1)*M2),E,2^(c*T+22)*E,M1^(T - 1)*M2,KF,bE (fk B.m1) B.m2,?_,kf t T ht,?_,E0,E1,gf,q2,?_,?_,z1,z2,z3,z4⟩
 ·exact MT
 ·refine ⟨D0,E0,bE (fk (by decide)) D0,bE (fk (by decide)) E0,fun u hu xs hx x hx'=>Tp.of (kf u N (by lia) xs hx x hx') (ar _),fun x hx=>Tp.of (gf x hx) (ar _),?_,⟨(c*N+dd)+(d+22)+(c*T+22+(d+22))+dd+2,?_,z5,?_⟩⟩
  ·refine ah (aD D1 E1) ?_;rw[<- aK];exact ao (by decide) (by lia)
  ·have S:∀{x y k j:Nat},x<=2^k->y<=2^j->k+j<=(c*N+dd)+(d+22)+(c*T+22+(d+22))+dd->x*y<=2^((c*N+dd)+(d+22)+(c*T+22+(d+22))+dd):=fun hx hy hk=>by
    refine ah (aD hx hy) ?_;rw[<- aK];exact ao (by decide) hk
   have s1:=S W0 E1 (by lia);have s2:=S W1 D1 (by lia);have s3:=S D1 E1 (by lia);rw[aK 2 ((c*N+dd)+(d+22)+(c*T+22+(d+22))+dd) 2];generalize 2^((c*N+dd)+(d+22)+(c*T+22+(d+22))+dd)=P at s1 s2 s3 ⊢
   lia
  ·exact ah (aw _ (by lia)) z6
 ·rw[aK 2 (c*T+22+(d+22)) 1];generalize 2^(c*T+22+(d+22))=P at W1 E2 ⊢;generalize 2^(c*T+22)*E=P' at W1 ⊢
  lia
 ·refine ah (aD D1 (aD n8 W1)) ?_;rw[<- aK,<- aK,<- Nat.add_assoc];exact ar _
end
def RH (N T a1 a2 c b:Nat):Prop:=Q4 N T a1 a2 c/\a1*(T - 1)+a2+c*T<=500 /\
 a1*(T+1)+(a2+b)+c*(T+1)+22+a2+2*(MQ N a1 a2 c+(4+Oe T a1 a2 c))+1<=3900/\(a1*(T - 1)+a2+22+MQ N a1 a2 c)+(PU N T a1 a2 c+MQ N a1 a2 c)+(a2+(a1*T+(a2+b)))+(c*(T+1)+22+1)+20<=3900/\a1*(T - 1)+a2+22+(c*T+22)+(a2+b)+2*(MQ N a1 a2 c+(4+Oe T a1 a2 c))+22+1<=3900/\a2+c<=3900
section
variable {mv pt lk:List (List Rat)} {w T:Nat}
def U54 (mv pt lk:List (List Rat)) (w T d j:Nat):Prop:=∀go,RL d j go->∃a k D W0 E W1 M d j e g x y v,Im (aW mv mv.length) lk T go a k D W0 E W1 M d j e g x y v/\∀st pus,st.length=mv.length->(∀z∈st,Dr (max w 6) z)->DrP pt T w pus->PC mv pt lk T st pus e g x y v
theorem OB (J:Rj mv pt lk w) (D:fD mv pt lk) (St:Se mv.length w T):∃M d j,0 < M/\M<=2^d/\d+j<=500/\(∀xs∈kry (aW mv mv.length) lk T,∀z∈xs,Fr M (2^j) z)/\U54 mv pt lk w T d j:=by
 have et:(aW mv mv.length).length=mv.length:=bZ;have i4:=D.i4;obtain ⟨e,VV⟩:=Hu J.g D.turn (by rw[et];exact St);obtain ⟨a,k,KF,_⟩:=VV.un.kf;obtain ⟨s1,s2,_,_⟩:=St
 have key:∀{M1 M2 M3 Vx a1 a2 c N Tm b:Nat},B3 mv pt lk M1 M2 M3 Vx a1 a2 c->mv.length<=N->1<=N->T<=Tm->RH N Tm a1 a2 c b->(∀l:List Rat,(∀z∈l,Dr (max w 6) z)->l.length<=mv.length+T*pt.length->∃B,0 < B/\B<=2^b/\∀z∈l,Fr B (2^22) z)->∃M d j,0 < M/\M<=2^d/\d+j<=500/\(∀xs∈kry (aW mv mv.length) lk T,∀z∈xs,Fr M (2^j) z)/\U54 mv pt lk w T d j:=fun {M1 M2 M3 Vx a1 a2 c N Tm b} B hn N1 hT Z dr=>by
  obtain ⟨Z0,hd,z1,z2,z3,z4⟩:=Z;refine ⟨M1^(Tm - 1)*M3,a1*(Tm - 1)+a2,c*Tm,bE (fk B.q.m1) B.q.m2,?_,hd,fun xs hx x hx'=>Fr.up (B.q.kry D.turn T xs hx x hx') (BI (LR _ (by lia)) _) (ao (by decide) (aM _ hT)),fun go h=>?_⟩
  ·rw[aK];exact aD (ah (eG B.q.b1 _) (by rw[<- pS];exact ar _)) B.q.b2
  obtain ⟨a',k',Dn,W0,E,W1,M,R⟩:=Pz B.q D.turn KF (by rw[et];exact hn) N1 Z0 h hT;refine ⟨_,_,_,_,_,_,_,_,_,_,_,_,_,_,R,fun st pus ls hs hp=>?_⟩;obtain ⟨lp,hp⟩:=hp
  obtain ⟨B0,b0,b1,fr⟩:=dr (st++pus.flatten) (fun z hz=>by
   rcases ax.mp hz with hz | hz
   ·exact hs z hz
   ·obtain ⟨xs,hx,hz⟩:=nh.mp hz;exact (hp xs hx).2 z hz) (by rw[ay,uV fun xs hx=>(hp xs hx).1,lp];lia)
  have m1:a1*(T+1)<=a1*(Tm+1):=aM _ (by lia);have m2:c*(T+1)<=c*(Tm+1):=aM _ (by lia);have m3:a1*T<=a1*Tm:=aM _ hT;refine ⟨M1,M2,M3,Vx,a1,a2,c,M2*B0,B0,a2+b,22,B,bE B.p.m2 b0,by rw[aK];exact aD B.p.b2 b1,An _,fun z hz=>(fr z (ax.mpr (.inl hz))).scaleL M2,fun xs hx z hz=>fr z (ax.mpr (.inr (nh.mpr ⟨xs,hx,hz⟩))),?_,?_,z3,z4⟩
  ·exact ah (by lia) z1
  ·exact ah (by lia) z2
 have small:w<=9->∀l:List Rat,(∀z∈l,Dr (max w 6) z)->l.length<=mv.length+T*pt.length->∃B,0 < B/\B<=2^12/\∀z∈l,Fr B (2^22) z:=fun w9 l h _=>⟨2520,by decide,by decide,fun z hz=>(DL ⟨ah (h z hz).1 (by lia),ah (h z hz).2 (by lia)⟩ (An _)).mono (by decide)⟩
 rcases J with ⟨w9,B⟩ | ⟨w9,n5,B⟩ | ⟨w9,n2,M1,M2,M3,B⟩
 ·exact key (N:=8) (Tm:=12) (b:=12) B D.n8 (by decide) s1 (by unfold RH Q4 MQ Oe PU;decide) (small w9)
 ·exact key (N:=5) (Tm:=12) (b:=12) B n5 (by decide) s1 (by unfold RH Q4 MQ Oe PU;decide) (small w9)
 ·have t3:=s2 (by lia);refine key (N:=2) (Tm:=3) (b:=142) B n2 (by decide) t3 (by unfold RH Q4 MQ Oe PU;decide) fun l h hl=>?_
  obtain ⟨B0,h0,h1,h2⟩:=Cy (c:=10) (l:=l) (fun x hx=>⟨ah (h x hx).1 (by rw[w9];decide),ah (h x hx).2 (by rw[w9];decide)⟩) (by decide);have m:T*pt.length<=3*4:=aD t3 i4;exact ⟨B0,h0,ah h1 (ao (by decide) (by lia)),h2⟩
end
section
variable {A lk pk ws:List (List Rat)} {T a k D W0 E W1 M d j e g x y v q n:Nat} {go pr:List Rat}
theorem Im.fmw (h:Im A lk T go a k D W0 E W1 M d j e g x y v) (DD:fD A lk pk) (lw:ws.length=T) (ww:∀xs∈ws,xs.length=lk.length) (en:n=A.length) (st:rJ A lk (List.replicate n 0) ws.reverse T=go) (q0:0 < q) (q1:q<=(16*W0)^n) (hw:∀xs∈ws,∀z∈xs,Tp (E*q) (D*(n*(W1*(16*W0)^n))) z):RK A lk T go ws e x v:=by
 subst en;refine ⟨lw,ww,by rw[Qb DD lw ww];exact st,E*q,bE h.e0 q0,by rw[aK];exact aD h.e1 (ah q1 h.qx),fun xs hx z hz=>?_⟩;obtain ⟨i,e',l⟩:=hw xs hx z hz;refine ⟨i,e',ah l ?_⟩;rw[<- bP A.length,<- bP,aK];exact aD h.dv h.qx
theorem Im.akw (h:Im A lk T go a k D W0 E W1 M d j e g x y v) (en:n=A.length) (lp:pr.length=n) (kp:∀xs∈kry A lk T,b7 xs pr=0) (dp:b7 pr go=1) (q0:0 < q) (q1:q<=(16*W0)^n*(16*(W1+E))) (hp:∀z∈pr,Tp q ((16*W0)^n*(16*(W1+E))) z):Sm A lk T go pr x y:=by
 subst en
 have b:(16*W0)^A.length*(16*(W1+E))<=2^(x+(4+y)):=by
  rw[aK 2 x,aK 2 4];exact aD h.qx (aM _ h.wy)
 refine ⟨lp,kp,by rw[Jy];exact dp,q,q0,ah q1 b,fun z hz=>?_⟩;obtain ⟨i,e',l⟩:=hp z hz;exact ⟨i,e',ah l b⟩
theorem Im.gof (h:Im A lk T go a k D W0 E W1 M d j e g x y v):Rl go e g:=⟨E,h.e0,h.e1,h.gf⟩
end
def Fx (K:PySem.W.Frag):Sp:=fun vs H Q _=>∃b:Addr,vs=[.ref b]/\jo H b /\
 ∀t r (w:Nat) mv pt lk H',H' t=some (.tup [.ref r,.int w])->hJ K H H' r mv pt lk->fD mv pt lk->GG mv pt lk->Rj mv pt lk w->1<=w->w<=1000->jo H' b->dc b H H'->Q (.ref t) H'
def Eh (K:PySem.W.Frag):Sp:=fun vs H Q _=>∃n:Nat,vs=[.int n]/\n<=100/\∀r H',H r=none->aO H H'->cK K H' r (List.replicate n 0)->Q (.ref r) H'
def IJ (K:PySem.W.Frag):Sp:=fun vs H Q _=>∃(r s p:Addr) (H0 H1:Hp) (mv pt lk pus:List (List Rat)) (st:List Rat),vs=[.ref r,.ref s,.ref p]/\hJ K H0 H r mv pt lk/\fD mv pt lk/\cK K H s st/\st.length=mv.length/\bS K H1 H p pus/\pus.length<=100/\(∀xs∈pus,xs.length=pt.length)/\PX mv pt lk pus st /\
 ∀q H',H q=none->aO H H'->bS K H H' q (Gn mv pt lk st pus)->Q (.ref q) H'
def Kb (K:PySem.W.Frag):Sp:=fun vs H Q _=>∃(r f g s p:Addr) (T e γ x y v:Nat) (H0 H1 H2:Hp) (mv pt lk ws pus:List (List Rat)) (go st:List Rat),vs=[.ref r,.ref f,.ref g,.ref s,.ref p]/\T<=12/\hJ K H0 H r mv pt lk/\fD mv pt lk/\bS K H1 H f ws/\RK (aW mv mv.length) lk T go ws e x v/\cK K H g go/\go.length=mv.length/\Rl go e γ/\cK K H s st/\st.length=mv.length/\bS K H2 H p pus/\pus.length=T/\(∀xs∈pus,xs.length=pt.length)/\PC mv pt lk T st pus e γ x y v/\∀H',aO H H'->Q (.bl true) H'
def Mf (K:PySem.W.Frag):Sp:=fun vs H Q _=>∃(r f g s p:Addr) (T e γ x y v:Nat) (H0 H2:Hp) (mv pt lk pus:List (List Rat)) (go st pr:List Rat),vs=[.ref r,.ref f,.ref g,.ref s,.ref p]/\T<=12/\hJ K H0 H r mv pt lk/\fD mv pt lk/\cK K H f pr/\Sm (aW mv mv.length) lk T go pr x y/\cK K H g go/\go.length=mv.length/\Rl go e γ/\cK K H s st/\st.length=mv.length/\bS K H2 H p pus/\pus.length=T/\(∀xs∈pus,xs.length=pt.length)/\PC mv pt lk T st pus e γ x y v/\∀H',aO H H'->Q (.bl true) H'
end L2
open L2
local macro_rules | `(tactic| walk_at "hl") => `(tactic| first | (show _ ≤ sizeLine; with_unfolding_all decide) | (with_unfolding_all exact (by decide)))
local macro_rules | `(tactic| walk_at "sq") => `(tactic| first | with_reducible assumption | with_reducible exact uu.of (by assumption) | with_reducible exact b6.of (by assumption) | with_reducible exact uu.of aQ | with_reducible exact b6.of aQ | assumption)
local macro_rules | `(tactic| walk_at "sc") => `(tactic| first | (with_reducible show (0 : Int) < _; decide) | with_reducible exact Ic (by decide) (by decide) | with_reducible exact DQ (by decide) (by decide) | with_reducible exact cpow_of (by decide) (by decide) (by decide))
local macro_rules | `(tactic| walk_at "rd") => `(tactic| first
  | with_reducible refine OG ?_
  | with_reducible refine Mw ?_
  | with_reducible refine OX ?_
  | with_reducible refine Ks ?_
  | ((with_reducible refine' OD ?hx1 ?_); (case hx1 => with_unfolding_all rfl))
  | with_reducible refine RQ ?_
  | with_reducible refine QF ?_
  | with_reducible refine QJ ?_
  | with_reducible refine Qz ?_
  | with_reducible refine RS ?_
  | with_reducible refine OW ?_
  | with_reducible refine ON ?_
  | with_reducible refine OV ?_
  | with_reducible refine OM ?_
  | with_reducible refine rd_eqB ?_
  | with_reducible refine rd_neB ?_
  | with_reducible refine Mz ?_
  | with_reducible refine FK ?_
  | with_reducible refine OU ?_
  | with_reducible refine Mt ?_
  | with_reducible refine Mx ?_
  | with_reducible refine My ?_
  | with_reducible refine Kr ?_
  | with_reducible refine Ms ?_
  | with_reducible refine QC ?_
  | with_reducible refine OH ?_
  | with_reducible refine rd_retN ?_
  | with_reducible refine OR ?_
  | with_reducible refine OY ?_
  | with_reducible refine QE ?_
  | with_reducible refine OK ?_
  | with_reducible refine ML ?_
  | with_reducible refine rd_orV ?_
  | with_reducible refine Mv ?_
  | with_reducible refine OS ?_
  | with_reducible refine OC ?_
  | with_reducible refine M9 ?_
  | with_reducible refine QU ?_
  | with_reducible refine QV ?_
  | with_reducible refine QW ?_
  | with_reducible refine NJ ?_
  | with_reducible refine OL ?_
  | with_reducible refine MH ?_
  | with_reducible refine OE ?_
  | with_reducible refine OO ?_
  | with_reducible refine MJ ?_
  | with_reducible refine QG ?_
  | with_reducible refine MG ?_
  | with_reducible refine OJ ?_
  | with_reducible refine MK ?_
  | ((with_reducible refine' rd_aug ?hx1 ?_); (case hx1 => with_unfolding_all rfl))
  | with_reducible refine OQ ?_
  | with_reducible refine MD ?_
  | with_reducible refine Kt ?_
  | with_reducible refine ME ?_
  | with_reducible refine QD ?_
  | with_reducible refine IX ?_
  | with_reducible refine Mu ?_
  | with_reducible refine OT ?_
  | with_reducible refine Kq ?_
  | with_reducible refine MB ?_
  | with_reducible refine Kp ?_
  | with_reducible refine Ko ?_
  | ((with_reducible refine' MI ?hx1 ?_); (case hx1 => with_unfolding_all rfl))
  | with_reducible refine Mr ?_
  | with_reducible refine QI ?_
  | with_reducible refine rd_bm0 ?_
  | with_reducible refine rd_brk ?_
  | ((with_reducible refine' MC ?hx1 ?hx2 ?_); (case hx1 => walk_at "sq"); (case hx2 => with_unfolding_all rfl))
  | with_reducible refine rd_cont ?_
  | ((with_reducible refine' gH ?hx1 ?_); (case hx1 => walk_at "sc"))
  | ((with_reducible refine' OP ?hx1 ?hx2 ?_); (case hx1 => walk_at "sq"); (case hx2 => with_unfolding_all rfl))
  | ((with_reducible refine' cG ?hx1 ?hx2 ?_); (case hx1 => walk_at "sq"); (case hx2 => with_unfolding_all rfl))
  | ((with_reducible refine' MF ?hx1 ?hx2 ?_); (case hx1 => walk_at "sq"); (case hx2 => with_unfolding_all rfl))
  | ((with_reducible refine' fN ?hx1 ?hx2 ?hx3 ?_); (case hx1 => with_reducible first | assumption | exact aQ); (case hx2 => with_unfolding_all rfl); (case hx3 => with_unfolding_all rfl))
  | with_reducible refine ⟨_, rfl, ?_⟩
  | with_reducible refine ⟨_, _, rfl, ?_⟩)
local macro_rules | `(tactic| walk_at "w") => `(tactic| repeat walk_at "rd")
local macro_rules | `(tactic| walk_at "d") => `(tactic| exact ⟨rfl,rfl,rfl,by decide +kernel,rfl,by decide +kernel,by decide +kernel⟩)
namespace Lw
open PySem PySem.Spec PyProof.Rows L2 Nm
set_option maxHeartbeats 4000000
def top (i:Nat):Stmt:=PySem.Challenge.pw_helmsum_k54_whole_looks_tell.main.body.getD i (.Pass ⟨0,0,0,0⟩)
abbrev lZ:Stmt:=top 56
abbrev j5:Stmt:=top 57
abbrev lW:Stmt:=top 58
abbrev lU:Stmt:=top 59
abbrev j7:Stmt:=top 65
abbrev j6:Stmt:=top 61
abbrev o7:Stmt:=top 67
abbrev iQ:Stmt:=top 69
abbrev ka:Stmt:=top 79
abbrev gA:Stmt:=top 72
abbrev gQ:Stmt:=top 62
abbrev lV:Stmt:=top 63
abbrev j9:Stmt:=top 68
abbrev iP:Stmt:=top 70
abbrev iU:Stmt:=top 80
abbrev jV:Stmt:=top 52
abbrev lS:Stmt:=top 9
abbrev eU:Stmt:=top 10
abbrev jY:Stmt:=top 12
abbrev rN:Stmt:=top 16
abbrev gO:Stmt:=top 53
abbrev eC:Stmt:=inClass (top 54) 0
abbrev gU:Stmt:=top 71
abbrev gP:Stmt:=top 78
abbrev iO:Stmt:=top 82
abbrev fQ:Stmt:=top 83
abbrev eY:Stmt:=top 87
abbrev lY:Stmt:=top 64
abbrev eV:Stmt:=top 81
abbrev jW:Stmt:=top 19
abbrev eh:Stmt:=top 11
abbrev fw:Stmt:=top 18
abbrev iM:Stmt:=top 30
abbrev o5:Stmt:=top 32
abbrev iN:Stmt:=top 31
abbrev vB:Stmt:=top 33
abbrev rM:Stmt:=top 13
abbrev oX:Stmt:=top 34
abbrev oW:Stmt:=top 20
abbrev oZ:Stmt:=top 23
abbrev iL:Stmt:=top 40
abbrev gL:Stmt:=top 42
abbrev yG:Stmt:=top 25
abbrev jZ:Stmt:=top 41
abbrev iK:Stmt:=top 21
abbrev rL:Stmt:=top 36
abbrev gN:Stmt:=top 24
abbrev vC:Stmt:=top 37
abbrev gK:Stmt:=top 38
abbrev vD:Stmt:=top 14
abbrev jX:Stmt:=top 17
abbrev fU:Stmt:=inClass (top 54) 1
abbrev rO:Stmt:=top 28
abbrev gM:Stmt:=top 43
abbrev oY:Stmt:=top 44
abbrev Ck:Stmt:=top 26
abbrev yH:Stmt:=top 45
abbrev fz:Stmt:=inClass (top 54) 3
abbrev oV:Stmt:=top 47
abbrev eX:Stmt:=top 75
abbrev gR:Stmt:=top 76
abbrev fR:Stmt:=top 77
abbrev o6:Stmt:=top 73
abbrev j8:Stmt:=top 74
abbrev iT:Stmt:=top 84
abbrev kd:Stmt:=top 60
abbrev iS:Stmt:=top 66
abbrev eB:Stmt:=top 85
abbrev dR:Stmt:=top 86
abbrev Cj:Stmt:=top 88
set_option genInjectivity false in
set_option genSizeOf false in
structure Ads where
 tO:Addr
 tu:FuncData
 qQ:Addr
 qq:FuncData
 tK:Addr
 sZ:FuncData
 tI:Addr
 sX:FuncData
 qS:Addr
 qB:FuncData
 qR:Addr
 qA:FuncData
 v3:Addr
 vP:FuncData
 oM:Addr
 oz:FuncData
 qV:Addr
 qE:FuncData
 oJ:Addr
 ox:FuncData
 mY:Addr
 mL:FuncData
 tJ:Addr
 sY:FuncData
 qU:Addr
 qD:FuncData
 oK:Addr
 oy:FuncData
 oP:Addr
 oC:FuncData
 qL:Addr
 qe:FuncData
 tH:Addr
 sW:FuncData
 jc:Addr
 iY:FuncData
 qO:Addr
 qi:FuncData
 yn:Addr
 ya:FuncData
 mW:Addr
 mJ:FuncData
 ik:Addr
 ie:FuncData
 m4:Addr
 mN:FuncData
 mX:Addr
 mK:FuncData
 oI:Addr
 ow:FuncData
 lD:Addr
 kY:FuncData
 jf:Addr
 i8:FuncData
 tL:Addr
 tm:FuncData
 jd:Addr
 iZ:FuncData
 qM:Addr
 qg:FuncData
 ig:Addr
 ib:FuncData
 jG:Addr
 jD:FuncData
 oG:Addr
 ot:FuncData
 vY:Addr
 vN:FuncData
 oH:Addr
 ou:FuncData
 Ag:Addr
 Ab:FuncData
 ym:Addr
 xZ:FuncData
 vV:Addr
 vK:FuncData
 vU:Addr
 vJ:FuncData
 vX:Addr
 vM:FuncData
 oF:Addr
 oq:FuncData
 mT:Addr
 mG:FuncData
 DX:Addr
 DN:FuncData
 qP:Addr
 qo:FuncData
 oE:Addr
 oo:FuncData
 yl:Addr
 xY:FuncData
 mV:Addr
 mI:FuncData
 Ah:Addr
 Ac:FuncData
 mS:Addr
 mF:FuncData
 Ai:Addr
 Ad:FuncData
 qN:Addr
 qh:FuncData
 lF:Addr
 lh:FuncData
 yo:Addr
 yc:FuncData
 mU:Addr
 mH:FuncData
 vW:Addr
 vL:FuncData
 Ik:Addr
 Ib:FuncData
 DY:Addr
 DO:FuncData
 jH:Addr
 jE:FuncData
 vT:Addr
 vI:FuncData
 je:Addr
 i5:FuncData
 mZ:Addr
 mM:FuncData
 lE:Addr
 kZ:FuncData
 vZ:Addr
 vO:FuncData
 qT:Addr
 qC:FuncData
 oO:Addr
 oB:FuncData
 qW:Addr
 qF:FuncData
 oN:Addr
 oA:FuncData
 ij:Addr
 ic:FuncData
 gE:Addr
 gD:FuncData
 LH:Addr
 Lu:FuncData
 a_NOUGHT:Addr
 a_ONE:Addr
 t_MOST_STATES:Tok
 t_MOST_PUTS:Tok
 t_MOST_LOOKS:Tok
 a_System:Addr
structure Txt (K:W.Frag) (mg:Str->Option Value) (Z:Ads):Prop where
 zm:mg "_law_bag"=some (.ref Z.tO)
 By:Binds K Z.tu ["_law_script"] []
 xp:hZ K "_law_bag" "_law_bag" lZ Z.tO Z.tu
 bw:mg "_law_take"=some (.ref Z.qQ)
 bK:Binds K Z.qq ["_law_bag_here","_law_many"] []
 bH:hZ K "_law_take" "_law_take" j5 Z.qQ Z.qq
 iD:mg "_law_low"=some (.ref Z.tK)
 jQ:Binds K Z.sZ ["_law_top","_law_bottom"] []
 iG:hZ K "_law_low" "_law_low" lW Z.tK Z.sZ
 kj:mg "_law_sum"=some (.ref Z.tI)
 mf:Binds K Z.sX ["_law_one","_law_other"] []
 jS:hZ K "_law_sum" "_law_sum" lU Z.tI Z.sX
 kT:mg "_law_plus"=some (.ref Z.qS)
 nG:Binds K Z.qB ["_law_one","_law_other"] []
 kz:hZ K "_law_plus" "_law_plus" j7 Z.qS Z.qB
 kS:mg "_law_prod"=some (.ref Z.qR)
 nF:Binds K Z.qA ["_law_one","_law_other"] []
 ky:hZ K "_law_prod" "_law_prod" j6 Z.qR Z.qA
 sQ:mg "_law_by"=some (.ref Z.v3)
 vR:Binds K Z.vP ["_law_factor","_law_row_here"] []
 sD:hZ K "_law_by" "_law_by" o7 Z.v3 Z.vP
 rz:mg "_law_mixed"=some (.ref Z.oM)
 tG:Binds K Z.oz ["_law_bag_here","_law_move_here","_law_put","_law_look"] []
 oR:hZ K "_law_mixed" "_law_mixed" iQ Z.oM Z.oz
 xR:mg "_law_line"=some (.ref Z.qV)
 zC:Binds K Z.qE ["_law_bag_here"] []
 vv:hZ K "_law_line" "_law_line" ka Z.qV Z.qE
 wL:mg "_law_sizes"=some (.ref Z.oJ)
 yg:Binds K Z.ox ["_law_bag_here"] []
 tV:hZ K "_law_sizes" "_law_sizes" gA Z.oJ Z.ox
 pL:mg "_law_number"=some (.ref Z.mY)
 rC:Binds K Z.mL ["_law_bag_here","_law_wide"] []
 m6:hZ K "_law_number" "_law_number" gQ Z.mY Z.mL
 iC:mg "_law_row"=some (.ref Z.tJ)
 jP:Binds K Z.sY ["_law_bag_here","_law_many","_law_wide"] []
 iF:hZ K "_law_row" "_law_row" lV Z.tJ Z.sY
 xQ:mg "_law_move"=some (.ref Z.qU)
 zB:Binds K Z.qD ["_law_bag_here","_law_n","_law_way","_law_first","_law_wide"] []
 vq:hZ K "_law_move" "_law_move" j9 Z.qU Z.qD
 wM:mg "_law_parts"=some (.ref Z.oK)
 yh:Binds K Z.oy ["_law_bag_here","_law_n","_law_ins","_law_outs","_law_wide"] []
 tW:hZ K "_law_parts" "_law_parts" iP Z.oK Z.oy
 wO:mg "_law_drawn"=some (.ref Z.oP)
 yj:Binds K Z.oC ["_law_bag_here"] []
 tZ:hZ K "_law_drawn" "_law_drawn" iU Z.oP Z.oC
 oi:mg "want_list"=some (.ref Z.qL)
 qH:Binds K Z.qe ["thing","at","most"] []
 nJ:hZ K "want_list" "want_list" jV Z.qL Z.qe
 uR:mg "is_whole"=some (.ref Z.tH)
 xn:Binds K Z.sW ["thing"] []
 tR:hZ K "is_whole" "is_whole" lS Z.tH Z.sW
 ia:mg "common_divisor"=some (.ref Z.jc)
 jb:Binds K Z.iY ["one","other"] []
 fX:hZ K "common_divisor" "common_divisor" eU Z.jc Z.iY
 xN:mg "is_number"=some (.ref Z.qO)
 zy:Binds K Z.qi ["thing"] []
 vn:hZ K "is_number" "is_number" jY Z.qO Z.qi
 Cq:mg "is_row"=some (.ref Z.yn)
 EW:Binds K Z.ya ["thing","many"] []
 BB:hZ K "is_row" "is_row" rN Z.yn Z.ya
 kR:mg "copied_rows"=some (.ref Z.mW)
 mQ:Binds K Z.mJ ["things","wide"] []
 jB:hZ K "copied_rows" "copied_rows" gO Z.mW Z.mJ
 lC:Binds K Z.ie ["self","move","put","look"] []
 qY:hZ K "__init__" "System.__init__" eC Z.ik Z.ie
 kU:mg "_law_copied"=some (.ref Z.m4)
 mR:Binds K Z.mN ["_law_grid"] []
 jC:hZ K "_law_copied" "_law_copied" gU Z.m4 Z.mN
 uS:mg "_law_system"=some (.ref Z.mX)
 wV:Binds K Z.mK ["_law_parts_here"] []
 rG:hZ K "_law_system" "_law_system" gP Z.mX Z.mK
 wK:mg "_law_steps"=some (.ref Z.oI)
 yf:Binds K Z.ow ["_law_bag_here","_law_n","_law_wide"] []
 tU:hZ K "_law_steps" "_law_steps" iO Z.oI Z.ow
 nR:mg "_law_noughts"=some (.ref Z.lD)
 pO:Binds K Z.kY ["_law_many"] []
 lK:hZ K "_law_noughts" "_law_noughts" fQ Z.lD Z.kY
 p8:mg "_law_asked_row"=some (.ref Z.jf)
 sv:Binds K Z.i8 ["_law_bag_here","_law_rows","_law_n","_law_wide"] []
 mo:hZ K "_law_asked_row" "_law_asked_row" eY Z.jf Z.i8
 iE:mg "_law_dot"=some (.ref Z.tL)
 jR:Binds K Z.tm ["_law_one","_law_other"] []
 iH:hZ K "_law_dot" "_law_dot" lY Z.tL Z.tm
 p6:mg "_law_look_rows"=some (.ref Z.jd)
 si:Binds K Z.iZ ["_law_parts_here","_law_steps_here"] []
 mi:hZ K "_law_look_rows" "_law_look_rows" eV Z.jd Z.iZ
 oj:mg "tops_over"=some (.ref Z.qM)
 qI:Binds K Z.qg ["row","bottom"] []
 nK:hZ K "tops_over" "tops_over" jW Z.qM Z.qg
 pK:mg "common_multiple"=some (.ref Z.ig)
 qJ:Binds K Z.ib ["wholes"] []
 lJ:hZ K "common_multiple" "common_multiple" eh Z.ig Z.ib
 iW:mg "common_bottom"=some (.ref Z.jG)
 jF:Binds K Z.jD ["row"] []
 gI:hZ K "common_bottom" "common_bottom" fw Z.jG Z.jD
 wI:mg "first_with"=some (.ref Z.oG)
 yd:Binds K Z.ot ["lines","begin","place"] []
 tS:hZ K "first_with" "first_with" iM Z.oG Z.ot
 Bf:mg "cleared"=some (.ref Z.vY)
 CT:Binds K Z.vN ["lines","at","place","before"] []
 zf:hZ K "cleared" "cleared" o5 Z.vY Z.vN
 wJ:mg "brought_up"=some (.ref Z.oH)
 ye:Binds K Z.ou ["lines","at","to"] []
 tT:hZ K "brought_up" "brought_up" iN Z.oH Z.ou
 A8:mg "swept"=some (.ref Z.Ag)
 DS:Binds K Z.Ab ["rows","wide"] []
 Al:hZ K "swept" "swept" vB Z.Ag Z.Ab
 rR:mg "lowest"=some (.ref Z.ym)
 u6:Binds K Z.xZ ["top","bottom"] []
 sC:hZ K "lowest" "lowest" rM Z.ym Z.xZ
 A9:mg "reduced"=some (.ref Z.vV)
 CO:Binds K Z.vK ["rows","wide"] []
 zb:hZ K "reduced" "reduced" oX Z.vV Z.vK
 xk:mg "row_dot"=some (.ref Z.vU)
 yY:Binds K Z.vJ ["one","other"] []
 v5:hZ K "row_dot" "row_dot" oW Z.vU Z.vJ
 Be:mg "grid_on"=some (.ref Z.vX)
 CS:Binds K Z.vM ["grid","row"] []
 ze:hZ K "grid_on" "grid_on" oZ Z.vX Z.vM
 rn:mg "moved_rows"=some (.ref Z.oF)
 tF:Binds K Z.oq ["system","rows"] []
 oQ:hZ K "moved_rows" "moved_rows" iL Z.oF Z.oq
 uQ:mg "reach_grown"=some (.ref Z.mT)
 wU:Binds K Z.mG ["system","steps"] []
 rF:hZ K "reach_grown" "reach_grown" gL Z.mT Z.mG
 HI:mg "flat"=some (.ref Z.DX)
 LC:Binds K Z.DN ["lists"] []
 GO:hZ K "flat" "flat" yG Z.DX Z.DN
 xO:mg "additions"=some (.ref Z.qP)
 zz:Binds K Z.qo ["system","steps"] []
 vo:hZ K "additions" "additions" jZ Z.qP Z.qo
 jy:mg "nought_row"=some (.ref Z.oE)
 lA:Binds K Z.oo ["many"] []
 jg:hZ K "nought_row" "nought_row" iK Z.oE Z.oo
 yP:mg "solved"=some (.ref Z.yl)
 Bx:Binds K Z.xY ["rows","wide","due"] []
 yp:hZ K "solved" "solved" rL Z.yl Z.xY
 iB:mg "grid_turned"=some (.ref Z.mV)
 jA:Binds K Z.mI ["grid","wide"] []
 gX:hZ K "grid_turned" "grid_turned" gN Z.mV Z.mI
 ED:mg "solve"=some (.ref Z.Ah)
 Ig:Binds K Z.Ac ["rows","wide","due"] []
 D5:hZ K "solve" "solve" vC Z.Ah Z.Ac
 uP:mg "weights_for"=some (.ref Z.mS)
 wQ:Binds K Z.mF ["rows","wide","row"] []
 rE:hZ K "weights_for" "weights_for" gK Z.mS Z.mF
 EE:mg "minus"=some (.ref Z.Ai)
 Ih:Binds K Z.Ad ["one","other"] []
 D6:hZ K "minus" "minus" vD Z.Ai Z.Ad
 xM:mg "row_minus"=some (.ref Z.qN)
 zx:Binds K Z.qh ["one","other"] []
 vm:hZ K "row_minus" "row_minus" jX Z.qN Z.qh
 ug:LI K Z.a_System "moved" Z.lF
 vf:Binds K Z.lh ["self","state","puts"] []
 vz:hZ K "moved" "System.moved" fU Z.lF Z.lh
 Cr:mg "course"=some (.ref Z.yo)
 EX:Binds K Z.yc ["system","start","puts"] []
 BC:hZ K "course" "course" rO Z.yo Z.yc
 pJ:mg "nothing_for"=some (.ref Z.mU)
 rB:Binds K Z.mH ["system","steps"] []
 m5:hZ K "nothing_for" "nothing_for" gM Z.mU Z.mH
 Bc:mg "lacking"=some (.ref Z.vW)
 CQ:Binds K Z.vL ["system","start","goal","steps"] []
 zd:hZ K "lacking" "lacking" oY Z.vW Z.vL
 KP:mg "cut"=some (.ref Z.Ik)
 N3:Binds K Z.Ib ["row","many","wide"] []
 LK:hZ K "cut" "cut" Ck Z.Ik Z.Ib
 HJ:mg "come"=some (.ref Z.DY)
 LD:Binds K Z.DO ["system","start","goal","steps"] []
 GP:hZ K "come" "come" yH Z.DY Z.DO
 rS:LI K Z.a_System "turned" Z.jH
 uh:Binds K Z.jE ["self"] []
 uj:hZ K "turned" "System.turned" fz Z.jH Z.jE
 A7:mg "told_by"=some (.ref Z.vT)
 CN:Binds K Z.vI ["system","asked","steps"] []
 za:hZ K "told_by" "told_by" oV Z.vT Z.vI
 p7:mg "_law_is_number"=some (.ref Z.je)
 so:Binds K Z.i5 ["_law_thing"] []
 mj:hZ K "_law_is_number" "_law_is_number" eX Z.je Z.i5
 pM:mg "_law_is_row"=some (.ref Z.mZ)
 rD:Binds K Z.mM ["_law_thing","_law_many"] []
 m7:hZ K "_law_is_row" "_law_is_row" gR Z.mZ Z.mM
 uf:mg "_law_is_grid"=some (.ref Z.lE)
 ve:Binds K Z.kZ ["_law_thing","_law_many","_law_wide"] []
 pR:hZ K "_law_is_grid" "_law_is_grid" fR Z.lE Z.kZ
 xl:mg "_law_on"=some (.ref Z.vZ)
 yZ:Binds K Z.vO ["_law_grid","_law_row_here"] []
 v7:hZ K "_law_on" "_law_on" o6 Z.vZ Z.vO
 xP:mg "_law_next"=some (.ref Z.qT)
 zA:Binds K Z.qC ["_law_parts_here","_law_state","_law_puts"] []
 vp:hZ K "_law_next" "_law_next" j8 Z.qT Z.qC
 jz:mg "_law_looks"=some (.ref Z.oO)
 lB:Binds K Z.oB ["_law_parts_here","_law_start","_law_puts"] []
 jh:hZ K "_law_looks" "_law_looks" iT Z.oO Z.oB
 sP:mg "_law_less"=some (.ref Z.qW)
 vd:Binds K Z.qF ["_law_one","_law_other"] []
 qX:hZ K "_law_less" "_law_less" kd Z.qW Z.qF
 wN:mg "_law_minus"=some (.ref Z.oN)
 yi:Binds K Z.oA ["_law_one","_law_other"] []
 tY:hZ K "_law_minus" "_law_minus" iS Z.oN Z.oA
 pN:mg "_law_from_right"=some (.ref Z.ij)
 qK:Binds K Z.ic ["_law_parts_here","_law_weights","_law_asked","_law_start","_law_puts"] []
 lM:hZ K "_law_from_right" "_law_from_right" eB Z.ij Z.ic
 nW:mg "_law_alike_right"=some (.ref Z.gE)
 pP:Binds K Z.gD ["_law_parts_here","_law_state","_law_asked","_law_start","_law_puts"] []
 jT:hZ K "_law_alike_right" "_law_alike_right" dR Z.gE Z.gD
 Oc:hZ K "law" "law" Cj Z.LH Z.Lu
 abs:mg "abs"=none
 len:mg "len"=none
 range:mg "range"=none
 int:mg "int"=none
 min:mg "min"=none
 isinstance:mg "isinstance"=none
 list:mg "list"=none
 bool:mg "bool"=none
 tuple:mg "tuple"=none
 all:mg "all"=none
 enumerate:mg "enumerate"=none
 zip:mg "zip"=none
 sum:mg "sum"=none
 reversed:mg "reversed"=none
 mg_NOUGHT:mg "NOUGHT"=some (.ref Z.a_NOUGHT)
 sq_NOUGHT:∀H,uu K H Z.a_NOUGHT [.int 0,.int 1]
 mg_ONE:mg "ONE"=some (.ref Z.a_ONE)
 sq_ONE:∀H,uu K H Z.a_ONE [.int 1,.int 1]
 mg_MOST_STATES:mg "MOST_STATES"=some (.int 8 Z.t_MOST_STATES)
 mg_MOST_PUTS:mg "MOST_PUTS"=some (.int 4 Z.t_MOST_PUTS)
 mg_MOST_LOOKS:mg "MOST_LOOKS"=some (.int 4 Z.t_MOST_LOOKS)
 mg_System:mg "System"=some (.ref Z.a_System)
 cl_System:JD K Z.a_System
 na_move:lG K Z.a_System "move"
 na_states:lG K Z.a_System "states"
 na_put:lG K Z.a_System "put"
 na_ins:lG K Z.a_System "ins"
 na_look:lG K Z.a_System "look"
 na_outs:lG K Z.a_System "outs"
 mk_System:Mk K Z.a_System Z.ik
section
variable {P:Program} {w:World} {K:W.Frag} {mg:Str->Option Value} {base:Heap} {Z:Ads}
theorem En:bc ["_law_script"] ["_law_script"] (az lZ):=by walk_at "d"
theorem Ez (T:Txt K mg Z):cN P w K mg base gJ 1 Z.tO Z.tu ["_law_script"] (Ow K):=by
 refine T.xp.ok En (fun vs H Q E h=>?_) (fun cdv A outer s H vs Q E hr h=>?_)
 ·obtain ⟨a,ns,rfl,hS,hlen,k⟩:=h;rfl
 ·obtain ⟨a,ns,rfl,hS,hlen,k⟩:=h;refine ⟨_,(aB (aX (fv (ae av (ae av (ae av (ae (cP ["_law_cell"] [] [] (du (AU Dd (pv 0) HB (zZ av))) (fun _=>(aR (i:=0) (show List.Nodup (α:=PySem.Str) ["_law_cell"] by decide +kernel))) (fun _=>cQ) (fun _=>(bR Bv (by rfl) T.abs PyProof.Rows.boot_abs (ae (pv 0) aj)))) aj))))))),?_⟩;refine aU (σ:=[some (.ref a)]) rfl ?_;walk_at "w";refine ⟨a,_,rfl,hS,fun l hl=>?_⟩;have hcl:(we (ns.map V.int) none (some 63)).length<=63:=ah (zw _ _ _) (by simpa using hlen);refine ⟨l,rfl,⟨_,b6.of aQ⟩,?_⟩;refine gW (K:=K) (a:=l) (xs:=we (ns.map V.int) none (some 63)) (fun i ys H'=>H'=upd H l (.lst (we (ns.map V.int) none (some 63)))/\∃cs:List Int,ys=cs.map V.int/\∀x∈cs,0<=x) (ah hcl (by decide)) ⟨rfl,[],rfl,fun _ z=>nomatch z⟩ (fun i ys H' _ ⟨e,_⟩=>by subst e;exact b6.of aQ) ?_ ?_
  ·rintro i x ys H' hx hi ⟨rfl,cs,rfl,hcs⟩
   obtain ⟨z,rfl⟩:∃z,x=V.int z:=by
    have hm:x∈ns.map V.int:=List.mem_of_mem_drop (cA (aA hx));obtain ⟨z,_,e⟩:=aE.mp hm;exact ⟨z,e.symm⟩
   walk_at "w";refine ⟨rfl,cs++[if z < 0 then -z else z],by simp,fun x hx=>?_⟩;rcases ax.mp hx with hx | hx
   ·exact hcs x hx
   ·have e:x=if z < 0 then -z else z:=by simpa using hx
    subst e
    split <;> lia
  ·rintro ys H' hy ⟨rfl,cs,rfl,hcs⟩ p hp;walk_at "w";refine ⟨by show 4<=sizeLine;decide,fun b hb=>?_⟩;have n1:b≠p:=fun z=>by rw[z,aQ] at hb;cases hb
   have hb1:(upd H l (.lst (we (ns.map V.int) none (some 63)))) b=none:=by rw[bA n1] at hb;exact hb
   have s1:aO H (upd H l (.lst (we (ns.map V.int) none (some 63)))):=aO.new hl;refine k b _ (s1.free hb1) ⟨p,0,1234567891,0,cs,aQ,by rw[bA n1.symm];exact aQ,by decide,by decide,by lia,hcs⟩ ((s1.trans (aO.new hp)).trans (aO.new hb))
theorem gh:bc ["_law_bag_here","_law_many","_law_more","_law_cell","_law_value","_law_first","_law_second"] ["_law_bag_here","_law_many"] (az j5):=by walk_at "d"
theorem bL (T:Txt K mg Z):cN P w K mg base gJ 1 Z.qQ Z.qq ["_law_bag_here","_law_many"] L8:=by
 refine T.bH.ok gh (fun vs H Q E h=>?_) (fun cdv A outer s H vs Q E hr h=>?_)
 ·obtain ⟨p,n,rfl,⟨q,a,b,c,cs,hp,hq,ha,hc,hcl,hcs⟩,hn,hn2,k⟩:=h;rfl
 ·obtain ⟨p,n,rfl,⟨q,a,b,c,cs,hp,hq,ha,hc,hcl,hcs⟩,hn,hn2,k⟩:=h;have nqp:q≠p:=JB hp hq
  refine ⟨_,(ke (dn (bu eQ (bF cg (pv 0) av) av (bJ _)) (au (bg (i:=2) gh.nd rfl (Or.inl rfl) av)
   (ke (dn (bu wD (bF cg (pv 0) av) (bR bD (by rfl) T.len bp (ae (bF cg (pv 0) av) aj)) (bJ _)) (au (bg (i:=3) gh.nd rfl (Or.inl rfl) (bF cg (bF cg (pv 0) av) (bF cg (pv 0) av)))
   (au (MS (pv 0) av Ld av Pj set_list)
   (au (dn (bu Cm (pv 3) av (bJ _)) (aB (fu (pv 3) (js (pv 0) av set_list))) b8)
   (aB (bg (i:=2) gh.nd rfl (Or.inl rfl) (bW gY (bW rj (pv 3) av) av)))))) b8)
   (aB (fu (bW rj (bW gY (bW dE (bF cg (pv 0) av) av) (pv 2)) av) (js (pv 0) av set_list))))) b8)
   (au (dn (bu wF (bF cg (pv 0) av) av (bJ _)) (au (bg (i:=4) gh.nd rfl (Or.inl rfl) (bW rj (bF cg (pv 0) av) (pv 1)))
   (au (fu (bW kM (bF cg (pv 0) av) (pv 1)) (js (pv 0) av set_list))
   (aB (aX (pv 4))))) b8)
   (au (bg (i:=5) gh.nd rfl (Or.inl rfl) (bW rj (bW dE (bF cg (pv 0) av) av) av))
   (au (bg (i:=6) gh.nd rfl (Or.inl rfl) (bW rj (bW dE (pv 5) av) av))
   (au (dn (bu wF (pv 1) av (bJ _)) (aB (aX (bW rj (bW gY (bW dE (pv 6) av) (pv 5)) (pv 1)))) b8)
   (aB (aX (bW rj (bW kM (pv 6) av) (pv 1))))))))),?_⟩
  refine aU (σ:=[some (.ref p),some (.int n),none,none,none,none,none]) rfl ?_;refine ⟨fun σ' H'=>∃(x y:Option V) (a' b' c':Int),σ'=[some (.ref p),some (.int n),x,y,none,none,none]/\H' p=some (.lst [.int a',.int b',.int c',.ref q])/\0<=a'/\0<=c'/\c'<=cs.length/\dc p H H',?_,?_⟩
  ·walk_at "w";refine iX (fun h0=>?_) (fun h0=>?_)
   ·walk_at "w";refine ⟨fun σ' H'=>∃(m:Int) (y:Option V) (a' c':Int),σ'=[some (.ref p),some (.int n),some (.int m),y,none,none,none]/\H' p=some (.lst [.int a',.int b,.int c',.ref q])/\0<=a'/\0<=c'/\c'<=cs.length/\dc p H H',?_,?_⟩
    ·walk_at "w";refine ⟨_,_,rfl,.inl (b6.of hq),?_⟩;walk_at "w";refine iX (fun h1=>?_) (fun h1=>?_)
     ·have h1':c < cs.length:=by simpa using of_decide_eq_true h1
      obtain ⟨z,hz⟩:∃z,cs[c.toNat]?=some z:=⟨_,ag (by lia)⟩;have hz0:0<=z:=hcs z (aA hz);walk_at "w";refine cG (b6.of hq) (v:=.int z) ?_ ?_
      ·have:=fO (xs:=cs.map V.int) (j:=c.toNat) (v:=.int z) (by rw[aG,hz];rfl);rwa [Int.toNat_of_nonneg hc] at this
      walk_at "w";refine iX (fun h2=>?_) (fun h2=>?_)
      ·walk_at "w";exact ⟨_,_,z,c+1,rfl,aQ,hz0,by lia,by lia,(dc.set hp).trans (dc.set aQ)⟩
      ·walk_at "w";exact ⟨_,_,a,c+1,rfl,aQ,ha,by lia,by lia,dc.set hp⟩
     ·walk_at "w";exact ⟨_,_,a,c,rfl,hp,ha,hc,hcl,dc.refl _⟩
    ·rintro σ' H' ⟨m,y,a',c',rfl,hp',ha',hc',hcl',u'⟩;walk_at "w";exact ⟨_,_,a',_,c',rfl,aQ,ha',hc',hcl',u'.trans (dc.set hp')⟩
   ·walk_at "w";exact ⟨_,_,a,b,c,rfl,hp,ha,hc,hcl,dc.refl _⟩
  ·rintro σ' H' ⟨x,y,a',b',c',rfl,hp',ha',hc',hcl',u'⟩;have hq':H' q=some (.lst (cs.map V.int)):=u'.1 q _ hq nqp
   have sn:Sz 8999 n:=by
    show n.natAbs < 2^8999
    exact bI (show n.natAbs < 2^64 by lia) (ao (by decide) (by decide))
   walk_at "w";refine iX (fun h0=>?_) (fun h0=>?_)
   ·walk_at "w";refine gH (show (0:Int) < n from hn) ?_;walk_at "w";refine gH (show uo _ _ from ⟨by lia,sn⟩) ?_;walk_at "w";refine k _ _ (oT _ (by lia)) (jK _ hn) ⟨q,_,b',c',cs,aQ,by rw[bA nqp];exact hq',?_,hc',hcl',hcs⟩ (u'.trans (dc.set hp'));rw[cI _ (by lia)];exact Int.ediv_nonneg ha' (by lia)
   ·walk_at "w";refine iX (fun h1=>?_) (fun h1=>?_)
    ·walk_at "w";refine gH (show (0:Int) < n from hn) ?_;exact k _ _ (oT _ (by lia)) (jK _ hn) ⟨q,a',b',c',cs,hp',hq',ha',hc',hcl',hcs⟩ u'
    ·walk_at "w";refine gH (show uo _ _ from ⟨by decide,by show (3:Nat) < 2^8999;exact bI (show 3 < 2^2 by decide) (ao (by decide) (by decide))⟩) ?_;walk_at "w";refine gH (show (0:Int) < n from hn) ?_;exact k _ _ (oT _ (by lia)) (jK _ hn) ⟨q,a',b',c',cs,hp',hq',ha',hc',hcl',hcs⟩ u'
theorem pX:bc ["_law_top","_law_bottom","_law_one","_law_other"] ["_law_top","_law_bottom"] (az lW):=by walk_at "d"
theorem kg (T:Txt K mg Z):cN P w K mg base gJ 1 Z.tK Z.sZ ["_law_top","_law_bottom"] Oq:=by
 refine T.iG.ok pX (fun vs H Q E h=>?_) (fun cdv A outer s H vs Q E hr h=>?_)
 ·obtain ⟨t,b,rfl,hb,hs,k⟩:=h;rfl
 ·obtain ⟨t,b,rfl,hb,hs,k⟩:=h
  refine ⟨_,(au (bg (i:=2) pX.nd rfl (Or.inl rfl) (bR Bv (by rfl) T.abs PyProof.Rows.boot_abs (ae (pv 0) aj)))
   (au (bg (i:=3) pX.nd rfl (Or.inl rfl) (pv 1))
   (au (AO PassesOwn.never (bu wC (pv 2) av (bJ _))
    (aB (Ku (i:=2) (j:=3) rfl pX.nd rfl rfl (by decide) rfl rfl (ae (bW rj (pv 3) (pv 2)) (ae (pv 2) aj)) rfl)))
   (aB (aX (dA (ae (bW kM (pv 0) (pv 3)) (ae (bW kM (pv 1) (pv 3)) aj)))))))),?_⟩
  refine aU (σ:=[some (.int t),some (.int b),none,none]) rfl ?_;walk_at "w"
  refine C5 (fun σ' H'=>∃(u v:Int),σ'=[some (.int t),some (.int b),some (.int u),some (.int v)]/\H'=H/\0<=u/\0 < v/\Int.gcd u v=Int.gcd t b) (fun σ' _=>match σ' with | [_,_,some (.int u),_]=>u.natAbs | _=>0) ⟨_,b,rfl,rfl,by split <;> lia,hb,by
   split
   ·rw[Int.neg_gcd]
   ·rfl⟩ ?_
  rintro σ' H' ⟨u,v,rfl,rfl,hu,hv,hg⟩;walk_at "w";refine iX (fun h=>?_) (fun h=>?_)
  ·have hu0:u≠0:=fun z=>by subst z;simp at h
   walk_at "w";refine gH (show (0:Int) < u by lia) ?_;walk_at "w";have h1:=oT v hu0;have h2:=jK v (show 0 < u by lia);exact ⟨⟨v % u,u,rfl,rfl,h1,by lia,by rw[nA,Lg,nA];exact hg⟩,by show (v % u).natAbs < u.natAbs;lia⟩
  ·have hu0:u=0:=by
    by_cases z:u=0
    ·exact z
    ·exfalso;apply h;simp [z]
   subst hu0
   have e:v=g t b:=by
    unfold g;rw[<- hg,Int.gcd_zero_left]
    lia
   have hgs:Sz 8999 v:=hs.le (by
    rw[e];have h1:(g t b).natAbs=Int.gcd t b:=by unfold g;simp
    rw[h1];exact kB (by lia) (by have:=fF (a:=t) (b:=b);exact eT.mpr this |> fun z=>by simpa using z))
   walk_at "w";refine gH (show uo _ _ from ⟨by lia,hgs⟩) ?_;walk_at "w";refine gH (show uo _ _ from ⟨by lia,hgs⟩) ?_;walk_at "w";refine cE fun r H' s' h'=>?_
   rw[cI _ (by lia),cI _ (by lia),e] at h';exact k r H' s' h'
theorem El:bc ["_law_one","_law_other"] ["_law_one","_law_other"] (az lU):=by walk_at "d"
theorem nC (T:Txt K mg Z):cN P w K mg base gJ 2 Z.tI Z.sX ["_law_one","_law_other"] (uC K (fun x y=>x+y)):=by
 refine T.jS.ok El (fun vs H Q E h=>?_) (fun cdv A outer s H vs Q E hr h=>?_)
 ·obtain ⟨p,q,a,b,c,d,rfl,hp,hq,hb,hd,sa,sb,sc,sd,k⟩:=Ij h;rfl
 ·obtain ⟨p,q,a,b,c,d,rfl,hp,hq,hb,hd,sa,sb,sc,sd,k⟩:=Ij h;refine ⟨_,(aB (aX (cS (kg T) hr T.iD T.iG.kp T.jQ (ae (bW gY (bW dE (bF cB (pv 0) av) (bF cB (pv 1) av)) (bW dE (bF cB (pv 1) av) (bF cB (pv 0) av))) (ae (bW dE (bF cB (pv 0) av) (bF cB (pv 1) av)) aj))))),?_⟩;refine aU (σ:=[some (.ref p),some (.ref q)]) rfl ?_;have hbd:0 < b*d:=pU hb hd;have sbd:Sz 8999 (b*d):=(sb.mul sd).mono (by decide);walk_at "w";refine gH (show jm _ _ from .inr ⟨_,_,sa,sd,by decide⟩) ?_;walk_at "w";refine gH (show jm _ _ from .inr ⟨_,_,sc,sb,by decide⟩) ?_;walk_at "w";refine gH (show jm _ _ from .inr ⟨_,_,sb,sd,by decide⟩) ?_;walk_at "w";walk_at "w";refine ⟨_,_,rfl,hbd,sbd,k⟩
theorem Dk:bc ["_law_one","_law_other"] ["_law_one","_law_other"] (az j7):=by walk_at "d"
theorem oh (T:Txt K mg Z):cN P w K mg base gJ 3 Z.qS Z.qB ["_law_one","_law_other"] (J5 K):=by
 refine T.kz.ok Dk (fun vs H Q E h=>?_) (fun cdv A outer s H vs Q E hr h=>?_)
 ·obtain ⟨p,q,xs,ys,rfl,hp,hq,hl,hz,h1,h2,kk⟩:=h;rfl
 ·obtain ⟨p,q,xs,ys,rfl,hp,hq,hl,hz,h1,h2,kk⟩:=h;refine ⟨_,(aB (aX (cP ["_law_k"] ["_law_one","_law_other"] [0,1] (cy rfl T.range (ae (bR bD (by rfl) T.len bp (ae (pv 0) aj)) aj)) (fun _=>(aR (i:=0) (show List.Nodup (α:=PySem.Str) ["_law_k","_law_one","_law_other"] by decide +kernel))) (fun _=>cQ) (fun _=>(cS (nC T) hr T.kj T.jS.kp T.mf (ae (bF (kW K (by rfl)) (pv 1) (pv 0)) (ae (bF (kW K (by rfl)) (pv 2) (pv 0)) aj))))))),?_⟩;refine aU (σ:=[some (.ref p),some (.ref q)]) rfl ?_;obtain ⟨us,gu,qu⟩:=id hp;obtain ⟨ws,gw,qw⟩:=id hq;have lu:=qu.length;walk_at "w";refine ⟨_,_,rfl,.inl (b6.of gu),?_⟩;walk_at "w";refine ⟨by lia,by lia,?_⟩;refine fW (n:=us.length) (cF K) (fun i=>xs.getD i 0+ys.getD i 0) (by lia) (fun a b=>a.same b) ?_ ?_
  ·rintro i H' NY NN hi s k1;have ix:i < xs.length:=by lia
   have iy:i < ys.length:=by lia
   obtain ⟨vx,ex,nx⟩:=Jq (Paired.imp' (fun _ _ z=>z.same s) qu) ix;obtain ⟨vy,ey,ny⟩:=Jq (Paired.imp' (fun _ _ z=>z.same s) qw) iy;walk_at "w";refine cG (b6.of (s _ _ gu)) ex ?_;walk_at "w";refine cG (b6.of (s _ _ gw)) ey ?_;walk_at "w";exact ⟨_,_,_,_,rfl,nx,ny,h1 _ (getD_mem ix),h2 _ (getD_mem iy),fun r3 H3 s3 n3=>k1 _ _ s3 n3⟩
  ·rintro ys' H' l hl' s g pr nx;exact kk l H' hl' s ⟨ys',g,by rw[Cb (by lia)];rw[<- lu] at pr;exact pr⟩
theorem Dj:bc ["_law_one","_law_other"] ["_law_one","_law_other"] (az j6):=by walk_at "d"
theorem og (T:Txt K mg Z):cN P w K mg base gJ 2 Z.qR Z.qA ["_law_one","_law_other"] (uC K (fun x y=>x*y)):=by
 refine T.ky.ok Dj (fun vs H Q E h=>?_) (fun cdv A outer s H vs Q E hr h=>?_)
 ·obtain ⟨p,q,a,b,c,d,rfl,hp,hq,hb,hd,sa,sb,sc,sd,k⟩:=HG h;rfl
 ·obtain ⟨p,q,a,b,c,d,rfl,hp,hq,hb,hd,sa,sb,sc,sd,k⟩:=HG h;refine ⟨_,(aB (aX (cS (kg T) hr T.iD T.iG.kp T.jQ (ae (bW dE (bF cB (pv 0) av) (bF cB (pv 1) av)) (ae (bW dE (bF cB (pv 0) av) (bF cB (pv 1) av)) aj))))),?_⟩;refine aU (σ:=[some (.ref p),some (.ref q)]) rfl ?_;have hbd:0 < b*d:=pU hb hd;have sbd:Sz 8999 (b*d):=(sb.mul sd).mono (by decide);walk_at "w";refine gH (show jm _ _ from .inr ⟨_,_,sa,sc,by decide⟩) ?_;walk_at "w";refine gH (show jm _ _ from .inr ⟨_,_,sb,sd,by decide⟩) ?_;walk_at "w";walk_at "w";refine ⟨_,_,rfl,hbd,sbd,k⟩
theorem FG:bc ["_law_factor","_law_row_here"] ["_law_factor","_law_row_here"] (az o7):=by walk_at "d"
theorem xi (T:Txt K mg Z):cN P w K mg base gJ 3 Z.v3 Z.vP ["_law_factor","_law_row_here"] (Ov K):=by
 refine T.sD.ok FG (fun vs H Q E h=>?_) (fun cdv A outer s H vs Q E hr h=>?_)
 ·obtain ⟨u,q,c,ys,rfl,hc,sc,hq,hz,h2,kk⟩:=h;rfl
 ·obtain ⟨u,q,c,ys,rfl,hc,sc,hq,hz,h2,kk⟩:=h;refine ⟨_,(aB (aX (cP ["_law_one"] ["_law_factor"] [0] (du (pv 1)) (fun _=>(aR (i:=0) (show List.Nodup (α:=PySem.Str) ["_law_one","_law_factor"] by decide +kernel))) (fun _=>cQ) (fun _=>(cS (og T) hr T.kS T.ky.kp T.nF (ae (pv 1) (ae (pv 0) aj))))))),?_⟩;refine aU (σ:=[some u,some (.ref q)]) rfl ?_;obtain ⟨us,gu,qu⟩:=id hq;walk_at "w";refine ⟨⟨_,b6.of gu⟩,?_⟩;refine gV (K:=K) (F:=cF K) (cF K) (fun y=>c*y) gu qu hz (fun a b=>a.same b) (fun a b=>a.same b) ?_ ?_
  ·rintro i y x H' NY NN en s hx k;walk_at "w";exact ⟨_,_,_,_,rfl,hc.same s,hx,sc,h2 y (aA en),fun r H2 s2 h2'=>k _ _ s2 h2'⟩
  ·rintro ys' H' r hr s g pr nx;exact kk r H' hr s ⟨ys',g,pr⟩
theorem d5:bc ["_law_bag_here","_law_move_here","_law_put","_law_look","_law_n","_law_turn","_law_i","_law_j","_law_by_here","_law_less_here","_law_row_here"] ["_law_bag_here","_law_move_here","_law_put","_law_look"] (az iQ):=by walk_at "d"
theorem wH (T:Txt K mg Z):cN P w K mg base gJ 4 Z.oM Z.oz ["_law_bag_here","_law_move_here","_law_put","_law_look"] (IH K):=by
 refine T.oR.ok d5 (fun vs H Q E h=>?_) (fun cdv A outer s H vs Q E hr h=>?_)
 ·obtain ⟨b,m,p,l,q0,n,WV,μ,A,us,ws,vs,rfl,MA,X,n8,i4,o4,M0,M1,⟨M,eM⟩,V1,hA,k⟩:=h;rfl
 ·obtain ⟨b,m,p,l,q0,n,WV,μ,A,us,ws,vs,rfl,MA,X,n8,i4,o4,M0,M1,⟨M,eM⟩,V1,hA,k⟩:=h
  refine ⟨_,(au (bg (i:=4) d5.nd rfl (Or.inl rfl) (bR bD (by rfl) T.len bp (ae (pv 1) aj)))
   (au (dn (PW.pt (uc (bu wD (pv 4) av (bJ _)) (nP (bu eQ (cS (bL T) hr T.bw T.bH.kp T.bK (ae (pv 0) (ae av aj))) av (bJ _))))) (aB (aX (dA (ae (pv 1) (ae (pv 2) (ae (pv 3) aj)))))) b8)
   (au (eE PassesOwn.never rfl (cy rfl T.range (ae (bW gY av (cS (bL T) hr T.bw T.bH.kp T.bK (ae (pv 0) (ae av aj)))) aj)) (aR (i:=5) d5.nd)
    (au (bg (i:=6) d5.nd rfl (Or.inl rfl) (cS (bL T) hr T.bw T.bH.kp T.bK (ae (pv 0) (ae (pv 4) aj))))
   (au (bg (i:=7) d5.nd rfl (Or.inl rfl) (bW rj (bW gY (bW gY (pv 6) av) (cS (bL T) hr T.bw T.bH.kp T.bK (ae (pv 0) (ae (bW pE (pv 4) av) aj)))) (pv 4)))
   (au (bg (i:=8) d5.nd rfl (Or.inl rfl) (dA (ae (bF cg (fv (ae av (ae (zg uy av) (ae av (ae (zg uy av) aj))))) (cS (bL T) hr T.bw T.bH.kp T.bK (ae (pv 0) (ae av aj)))) (ae av aj))))
   (au (bg (i:=9) d5.nd rfl (Or.inl rfl) (dA (ae (bW pE av (bF cB (pv 8) av)) (ae av aj))))
   (au (fu (cS (oh T) hr T.kT T.kz.kp T.nG (ae (bF cg (pv 1) (pv 6)) (ae (cS (xi T) hr T.sQ T.sD.kp T.vR (ae (pv 8) (ae (bF cg (pv 1) (pv 7)) aj))) aj))) (js (pv 1) (pv 6) set_list))
   (au (eE PassesOwn.never rfl (du (bW uL (pv 1) (pv 3))) (aR (i:=10) d5.nd)
    (aB (fu (cS (nC T) hr T.kj T.jS.kp T.mf (ae (bF cg (pv 10) (pv 7)) (ae (cS (og T) hr T.kS T.ky.kp T.nF (ae (pv 9) (ae (bF cg (pv 10) (pv 6)) aj))) aj))) (js (pv 10) (pv 7) set_list))))
   (aB (eE PassesOwn.never rfl (du (pv 2)) (aR (i:=10) d5.nd)
    (aB (fu (cS (nC T) hr T.kj T.jS.kp T.mf (ae (bF cg (pv 10) (pv 6)) (ae (cS (og T) hr T.kS T.ky.kp T.nF (ae (pv 8) (ae (bF cg (pv 10) (pv 7)) aj))) aj))) (js (pv 10) (pv 6) set_list))))))))))))
   (aB (aX (dA (ae (pv 1) (ae (pv 2) (ae (pv 3) aj))))))))),?_⟩
  refine aU (σ:=[some (.ref b),some (.ref m),some (.ref p),some (.ref l),none,none,none,none,none,none,none]) rfl ?_;have done:∀r us' H' t,t<=3->H' r=some (.tup [.ref m,.ref p,.ref l])->lH K A H' n (fun x=>Fr (μ x) (9^t*WV)) m p l b q0 us' ws vs->jl A b m H H'->Q (.ref r) H':=fun r us' H' t ht g x kp=>k r us' H' g (x.weak fun _ _ y h=>h.mono (aw _ (ao (by decide) ht))) kp
  have X0:lH K A H n (fun x=>Fr (μ x) (9^0*WV)) m p l b q0 us ws vs:=X.weak fun _ _ y h=>h.mono (by simp)
  clear X k;have gu:=X0.gm;have lu:=X0.lm;walk_at "w";refine ⟨_,_,rfl,.inl (b6.of gu),?_⟩;rw[lu];clear gu lu;have kp0:jl A b m H H:=fun _ _ h _ _ _=>h
  walk_at "w";refine iX (fun h0=>?_) (fun h0=>?_)
  ·walk_at "w";refine cE fun r H' s' g'=>?_
   exact done r us H' 0 (by decide) g' (X0.same s') (kp0.same s')
  have n2:2<=n:=by
   rcases dg n 2 with z | z
   ·exact absurd (decide_eq_true (show (n:Int) < 2 by lia)) h0
   ·exact z
  walk_at "w";refine ⟨b,2,rfl,X0.bag,by decide,by decide,fun v H1 v0 v1 B1 u1=>?_⟩;have X1:=X0.upto MA u1 B1;have kp1:=kp0.upto u1;walk_at "w";refine iX (fun h1=>?_) (fun h1=>?_)
  ·walk_at "w";refine cE fun r H' s' g'=>?_
   exact done r us H' 0 (by decide) g' (X1.same s') (kp1.same s')
  walk_at "w";refine ⟨b,3,rfl,B1,by decide,by decide,fun c H2 c0 c1 B2 u2=>?_⟩;have X2:=X1.upto MA u2 B2;have kp2:=kp1.upto u2;clear X0 X1 kp0 kp1 u1 u2 B1;walk_at "w";refine ⟨by lia,by lia,?_⟩;refine dU (n:=(1+c).toNat) (fun t σ' H'=>∃(x1 x2 x3 x4 x5 x6:Option V) (us:List V),σ'=[some (.ref b),some (.ref m),some (.ref p),some (.ref l),some (.int n),x1,x2,x3,x4,x5,x6]/\lH K A H' n (fun x=>Fr (μ x) (9^t*WV)) m p l b q0 us ws vs/\jl A b m H H') ⟨none,none,none,none,none,none,us,rfl,X2,kp2⟩ ?_ ?_
  ·rintro t σ' H' ht ⟨x1,x2,x3,x4,x5,x6,us,rfl,X,kp⟩;have t3:t<=2:=by lia
   walk_at "w";refine ⟨b,n,rfl,X.bag,by lia,by lia,fun ii Ha i0 i1 Ba ua=>?_⟩;obtain ⟨ii,rfl⟩:=cL i0;have Xa:=X.upto MA ua Ba;have kpa:=kp.upto ua;walk_at "w";refine ⟨b,_,rfl,Ba,by lia,by lia,fun d Hb d0 d1 Bb ub=>?_⟩;have Xb:=Xa.upto MA ub Bb;have kpb:=kpa.upto ub;walk_at "w";refine gH (show (0:Int) < n by lia) ?_;have j0:=oT ((ii:Int)+1+d) (show (n:Int)≠0 by lia);have j1:=jK ((ii:Int)+1+d) (show (0:Int) < n by lia);generalize ((ii:Int)+1+d) % (n:Int)=jj at j0 j1 ⊢;obtain ⟨jj,rfl⟩:=cL j0;walk_at "w";refine d6 fun l0 Hc sc nc gc=>?_
   walk_at "w";refine ⟨b,4,rfl,Bb.same sc,by decide,by decide,fun v' Hd v0' v1' Bd ud=>?_⟩;have gd:=ud.other (fun z=>Bb.at (by rw[<- z];exact nc)) gc;obtain ⟨x,ex,mx,_⟩:=sA (xs:=[V.int 1,V.int (-1),V.int 2,V.int (-2)]) v0' (by simpa using v1')
   obtain ⟨z,rfl,hz⟩:∃z:Int,x=.int z/\z.natAbs<=2:=by
    simp only[aJ,bo,or_false] at mx;rcases mx with rfl | rfl | rfl | rfl
    ·exact ⟨1,rfl,by decide⟩
    ·exact ⟨-1,rfl,by decide⟩
    ·exact ⟨2,rfl,by decide⟩
    ·exact ⟨-2,rfl,by decide⟩
   have Xd:=(Xb.same sc).upto MA ud Bd;have kpd:=(kpb.same sc).upto ud;walk_at "w";refine cG (b6.of gd) ex ?_;walk_at "w";refine cE fun bt He se ge=>?_
   walk_at "w";refine cE fun lt Hf sf gf=>?_
   have Xf:=(Xd.same se).same sf;have kpf:=(kpd.same se).same sf;have nb:cF K Hf ((z:Int):Rat) (.ref bt):=cF.mk (sf _ _ ge) rfl;have nl:cF K Hf ((0 - z:Int):Rat) (.ref lt):=cF.mk gf rfl;clear X Xa Xb Xd kp kpa kpb kpd ua ub ud sc gc gd ex mx ge gf se sf Ba Bb Bd nc;have gu:=Xf.gm;have lu:=Xf.lm
   have ru:∀x∈us,gF K A Hf n (Fr M (9^t*WV)) x:=fun x hx=>by
    have:=Xf.row x (by simp [hx]);rwa [eM x (Xf.apart.1 x hx).1 (Xf.apart.1 x hx).2] at this
   have hM:0 < M/\M<=2^800:=by
    have hx:us[ii]'(by lia)∈us:=aL _;have:=eM _ (Xf.apart.1 _ hx).1 (Xf.apart.1 _ hx).2;rw[<- this];exact ⟨M0 _,M1 _⟩
   have e1:us[ii]?=some (us[ii]'(by lia)):=by simp
   have e2:us[jj]?=some (us[jj]'(by lia)):=by simp
   obtain ⟨q1,z1,qs1,w1,a1,g1,k1,p1,l1,c1⟩:=(ru _ (aA e1)).at;obtain ⟨q2,z2,qs2,w2,a2,g2,k2,p2,l2,c2⟩:=(ru _ (aA e2)).at;rw[w1] at e1;rw[w2] at e2;generalize eW:9^t*WV=W at *
   have W9:9*W<=2^140:=by rw[<- eW];exact MU (by lia) V1 (by decide)
   have sz9M:∀{x:Rat} {U:Nat},U<=9*W->Fr M U x->pQ x:=fun hU h=>HV hM.1 hM.2 (ah hU W9) h
   have sz9:∀{x:Rat} {U:Nat} {v:V},U<=9*W->Fr (μ v) U x->pQ x:=fun hU h=>HV (M0 _) (M1 _) (ah hU W9) h
   walk_at "w";refine cG (b6.of gu) (fO e1) ?_;walk_at "w";refine cG (b6.of gu) (fO e2) ?_;walk_at "w";refine ⟨_,q2,_,qs2,rfl,nb,C7 (by lia),⟨z2,g2,p2⟩,by lia,fun y hy=>sz9M (by lia) (c2 y hy),fun r1 Hg n1 sg R1=>?_⟩;walk_at "w";refine ⟨q1,r1,qs1,_,rfl,⟨z1,sg _ _ g1,Paired.imp' (fun _ _ y=>y.same sg) p1⟩,R1,by rw[ak,l1,l2],by lia,fun y hy=>sz9M (by lia) (c1 y hy),fun y hy=>?_,fun r2 Hh n2' sh R2=>?_⟩
   ·obtain ⟨y',hy',rfl⟩:=aE.mp hy;exact Ax hz (c2 y' hy') hM.1 hM.2 (by lia)
   have sfh:=sg.trans sh
   have new:V.ref r2∉us++vs++ws:=fun z=>by
    obtain ⟨q',_,_,e',_,g',_⟩:=((Xf.same sg).row _ z).at;cases e';rw[n2'] at g';cases g'
   have Xh:=(Xf.same sfh).weak (C':=fun x y=>(x∈ws->Fr (μ x) W y)/\Fr (μ x) (3*W) y) fun x _ y h=>⟨fun _=>h,h.mono (by lia)⟩
   have kph:=kpf.same sfh;have guh:=sfh _ _ gu;have ar2:A r2:=(kpf.same sg).new hA (Xf.same sg).bag (by rw[sg _ _ gu];simp) n2'
   have rp2:gF K A Hh n (fun y=>(V.ref r2∈ws->Fr (μ (.ref r2)) W y)/\Fr (μ (.ref r2)) (3*W) y) (.ref r2):=by
    rw[eM (.ref r2) (fun z=>new (ax.mpr (.inr z))) (fun z=>new (ax.mpr (.inl (ax.mpr (.inr z)))))];refine ⟨r2,_,rfl,ar2,R2,by rw[bx,ak];lia,fun y hy=>⟨fun z=>absurd (ax.mpr (.inr z)) new,?_⟩⟩;obtain ⟨j',hj',e⟩:=b9 hy;rw[fq,nk] at e;rw[<- e];exact DF hz (c1 _ (aL _)) (c2 _ (aL _))
   walk_at "w";refine fN guh (gC (by lia)) rfl ?_;have Xi:=Xh.set MA rp2 new ii;have kpi:=kph.upd (o:=.lst (us.set ii (.ref r2))) (q:=m) (.inr rfl);have nli:cF K (upd Hh m (.lst (us.set ii (.ref r2)))) ((0 - z:Int):Rat) (.ref lt):=(nl.same sfh).updL guh;have nbi:cF K (upd Hh m (.lst (us.set ii (.ref r2)))) ((z:Int):Rat) (.ref bt):=(nb.same sfh).updL guh;generalize upd Hh m (.lst (us.set ii (.ref r2)))=Hi at Xi kpi nli nbi ⊢;generalize us.set ii (.ref r2)=um at Xi;clear nb nl Xf kpf gu ru e1 e2 g1 p1 g2 p2 R1 R2 Xh kph guh rp2 sg sh sfh new;have gm:=Xi.gm;have lm:=Xi.lm;have gl:=Xi.gl;have nd:=Xi.nd;obtain ⟨nd1,nd2,nd3⟩:=dz.mp nd;walk_at "w";refine uH gm gl (br (bT (by lia))) fun cl Hj sj nj gj=>?_
   have kpj:=kpi.same sj
   have rows:∀x∈um++vs,∀q,x=V.ref q->q≠cl:=fun x hx q e y=>by
    obtain ⟨q',zs,_,e',_,g',_⟩:=(Xi.row x (ax.mpr (.inl hx))).at;rw[e] at e';cases e';rw[y,nj] at g';cases g'
   have Xj:=(Xi.same sj).weak (C':=fun x y=>(x∈ws->Fr (μ x) W y)/\(x∈(um++vs).drop 0->Fr (μ x) (3*W) y)/\Fr (μ x) (9*W) y) fun x _ y h=>⟨h.1,fun _=>h.2,h.2.mono (by lia)⟩
   have lj:cF K Hj ((0 - z:Int):Rat) (.ref lt):=nli.same sj;have bj:cF K Hj ((z:Int):Rat) (.ref bt):=nbi.same sj;clear Xi kpi nli nbi;refine ⟨_,rfl,⟨_,b6.of gj⟩,?_⟩;refine kX (K:=K) (a:=cl) (xs:=um++vs) (fun s σ' H'=>∃x6:Option V,σ'=[some (.ref b),some (.ref m),some (.ref p),some (.ref l),some (.int n),some (.int t),some (.int ii),some (.int jj),some (.ref bt),some (.ref lt),x6]/\lH K A H' n (fun x y=>(x∈ws->Fr (μ x) W y)/\(x∈(um++vs).drop s->Fr (μ x) (3*W) y)/\Fr (μ x) (9*W) y) m p l b q0 um ws vs/\jl A b m H H'/\H' cl=some (.lst (um++vs))/\cF K H' ((0 - z:Int):Rat) (.ref lt)/\cF K H' ((z:Int):Rat) (.ref bt)) ⟨_,rfl,Xj,kpj,gj,lj,bj⟩ (fun s σ' H' _ ⟨_,_,_,_,e,_⟩=>b6.of e) ?_ ?_
   ·rintro s x σ' Hk hx ⟨y6,rfl,Xk,kpk,gk,lk,bk⟩;have hs:s < (um++vs).length:=(aI.mp hx).1;have mx:=aA hx
    have xd:x∈(um++vs).drop s:=by
     rw[eO hs,(aI.mp hx).2];exact .head _
    have xd2:x∉(um++vs).drop (s+1):=fun z=>by
     have:=nd1.sublist (List.drop_sublist s _);rw[eO hs,eK,(aI.mp hx).2] at this;exact this.1 z
    have xw:x∉ws:=fun z=>nd3 x mx x z rfl
    have rx:=Xk.row x (ax.mpr (.inl mx));obtain ⟨q,zs,qs,rfl,aq,gq,lq,pq,lq2,cq⟩:=rx.at;have qcl:=rows _ mx q rfl;obtain ⟨vj,ej,nj'⟩:=Jq pq (j:=jj) (by lia);obtain ⟨vi,ei,ni'⟩:=Jq pq (j:=ii) (by lia);have cj:=(cq _ (getD_mem (xs:=qs) (i:=jj) (by lia))).2.1 xd;have ci:=(cq _ (getD_mem (xs:=qs) (i:=ii) (by lia))).2.1 xd;walk_at "w";refine cG (b6.of gq) ej ?_;walk_at "w";refine cG (b6.of gq) ei ?_;walk_at "w";refine ⟨_,_,_,_,rfl,lk,ni',C7 (by lia),sz9 (by lia) ci,fun r3 Hl sl n3=>?_⟩;walk_at "w";refine ⟨_,_,_,_,rfl,nj'.same sl,n3,sz9 (by lia) cj,Ax (by lia) ci (M0 _) (M1 _) (by lia),fun r4 Hm sm n4=>?_⟩;have slm:=sl.trans sm;walk_at "w";refine fN (slm _ _ gq) (gC (by lia)) rfl ?_;refine ⟨_,rfl,?_,(kpk.same slm).upd (.inl aq),by rw[bA qcl.symm];exact slm _ _ gk,(lk.same slm).updL (slm _ _ gq),(bk.same slm).updL (slm _ _ gq)⟩;refine ((Xk.same slm).weak fun x' _ y h=>⟨h.1,fun z=>h.2.1 ?_,h.2.2⟩).put MA aq (slm _ _ gq) n4 ⟨fun z=>absurd z xw,fun z=>absurd z xd2,?_⟩ jj
    ·rw[eO hs];exact .tail _ z
    ·exact (DF (by lia) cj ci).mono (by lia)
   ·rintro σ' Hk ⟨y6,rfl,Xk,kpk,gk,lk,bk⟩;have gp:=Xk.gp;have Xk2:=Xk.weak (C':=fun x y=>(x∈ws.drop 0->Fr (μ x) W y)/\Fr (μ x) (9*W) y) fun x _ y h=>⟨fun z=>h.1 (by simpa using z),h.2.2⟩
    clear Xk;walk_at "w";refine ⟨⟨_,b6.of gp⟩,?_⟩;refine kX (K:=K) (a:=p) (xs:=ws) (fun s σ' H'=>∃x6:Option V,σ'=[some (.ref b),some (.ref m),some (.ref p),some (.ref l),some (.int n),some (.int t),some (.int ii),some (.int jj),some (.ref bt),some (.ref lt),x6]/\lH K A H' n (fun x y=>(x∈ws.drop s->Fr (μ x) W y)/\Fr (μ x) (9*W) y) m p l b q0 um ws vs/\jl A b m H H'/\cF K H' ((z:Int):Rat) (.ref bt)) ⟨_,rfl,Xk2,kpk,bk⟩ (fun s σ' H' _ ⟨_,_,X,_⟩=>b6.of X.gp) ?_ ?_
    ·rintro s x σ' Hl hx ⟨w6,rfl,Xl,kpl,bl⟩;have hs:s < ws.length:=(aI.mp hx).1;have mx:=aA hx
     have xd:x∈ws.drop s:=by
      rw[eO hs,(aI.mp hx).2];exact .head _
     have xd2:x∉ws.drop (s+1):=fun z=>by
      have:=nd2.sublist (List.drop_sublist s _);rw[eO hs,eK,(aI.mp hx).2] at this;exact this.1 z
     have rx:=Xl.row x (ax.mpr (.inr mx));obtain ⟨q,zs,qs,rfl,aq,gq,lq,pq,lq2,cq⟩:=rx.at;obtain ⟨vj,ej,nj'⟩:=Jq pq (j:=jj) (by lia);obtain ⟨vi,ei,ni'⟩:=Jq pq (j:=ii) (by lia);have cj:=(cq _ (getD_mem (xs:=qs) (i:=jj) (by lia))).1 xd;have ci:=(cq _ (getD_mem (xs:=qs) (i:=ii) (by lia))).1 xd;walk_at "w";refine cG (b6.of gq) ei ?_;walk_at "w";refine cG (b6.of gq) ej ?_;walk_at "w";refine ⟨_,_,_,_,rfl,bl,nj',C7 (by lia),sz9 (by lia) cj,fun r3 Hm sm n3=>?_⟩;walk_at "w";refine ⟨_,_,_,_,rfl,ni'.same sm,n3,sz9 (by lia) ci,Ax (by lia) cj (M0 _) (M1 _) (by lia),fun r4 Hn sn n4=>?_⟩;have smn:=sm.trans sn;walk_at "w";refine fN (smn _ _ gq) (gC (by lia)) rfl ?_;refine ⟨_,rfl,?_,(kpl.same smn).upd (.inl aq),(bl.same smn).updL (smn _ _ gq)⟩;refine ((Xl.same smn).weak fun x' _ y h=>⟨fun z=>h.1 ?_,h.2⟩).put MA aq (smn _ _ gq) n4 ⟨fun z=>absurd z xd2,?_⟩ ii
     ·rw[eO hs];exact .tail _ z
     ·exact (DF (by lia) ci cj).mono (by lia)
    ·rintro σ' Hl ⟨w6,rfl,Xl,kpl,bl⟩;refine ⟨_,_,_,_,_,_,um,rfl,Xl.weak fun _ _ y h=>h.2.mono ?_,kpl⟩;rw[<- eW,dN,cb (9^t) 9,bP];exact ar _
  ·rintro σ' H' ⟨x1,x2,x3,x4,x5,x6,us',rfl,X,kp⟩;walk_at "w";refine cE fun r H2' s' g'=>?_
   exact done r us' H2' _ (by lia) g' (X.same s') (kp.same s')
theorem kI:bc ["_law_bag_here","_law_n","_law_move_here","_law_put","_law_look"] ["_law_bag_here"] (az ka):=by walk_at "d"
theorem Dw (T:Txt K mg Z):cN P w K mg base gJ 5 Z.qV Z.qE ["_law_bag_here"] (L7 K):=by
 refine T.vv.ok kI (fun vs H Q E h=>?_) (fun cdv A outer s H vs Q E hr h=>?_)
 ·obtain ⟨b,rfl,hB,k⟩:=h;rfl
 ·obtain ⟨b,rfl,hB,k⟩:=h
  refine ⟨_,(au (bg (i:=1) kI.nd rfl (Or.inr rfl) (bW gY av (cS (bL T) hr T.bw T.bH.kp T.bK (ae (pv 0) (ae av aj)))))
   (au (p0 2 ["_law_i"] ["_law_n"] [1] kI.nd rfl rfl (cy rfl T.range (ae (pv 1) aj)) (fun _=>(aR (i:=0) (show List.Nodup (α:=PySem.Str) ["_law_i","_law_n"] by decide +kernel) rfl (Or.inr rfl) (Or.inl rfl))) (fun _=>cQ) (fun _=>(cP ["_law_j"] ["_law_i"] [0] (cy rfl T.range (ae (pv 1) aj)) (fun _=>(aR (i:=0) (show List.Nodup (α:=PySem.Str) ["_law_j","_law_i"] by decide +kernel))) (fun _=>cQ) (fun _=>(dA (ae (fV rX (by rfl) T.int PyProof.Rows.boot_int (ae (kL eQ (pv 0) (bW gY (pv 1) av) (bJ _)) aj)) (ae av aj)))))))
   (au (bg (i:=3) kI.nd rfl (Or.inl rfl) (fv (ae (cP ["_law_j"] ["_law_n"] [1] (cy rfl T.range (ae (pv 1) aj)) (fun _=>(aR (i:=0) (show List.Nodup (α:=PySem.Str) ["_law_j","_law_n"] by decide +kernel))) (fun _=>cQ) (fun _=>(dA (ae (fV rX (by rfl) T.int PyProof.Rows.boot_int (ae (kL eQ (pv 0) (bW pE (pv 1) av) (bJ _)) aj)) (ae av aj))))) aj)))
   (au (bg (i:=4) kI.nd rfl (Or.inl rfl) (fv (ae (cP ["_law_j"] [] [] (cy rfl T.range (ae (pv 1) aj)) (fun _=>(aR (i:=0) (show List.Nodup (α:=PySem.Str) ["_law_j"] by decide +kernel))) (fun _=>cQ) (fun _=>(dA (ae (fV rX (by rfl) T.int PyProof.Rows.boot_int (ae (kL eQ (pv 0) av (bJ _)) aj)) (ae av aj))))) aj)))
   (aB (aX (cS (wH T) hr T.rz T.oR.kp T.tG (ae (pv 0) (ae (pv 2) (ae (pv 3) (ae (pv 4) aj))))))))))),?_⟩
  refine aU (σ:=[some (.ref b),none,none,none,none]) rfl ?_;obtain ⟨q0,I0,xs0,gq0⟩:=hB.inner;walk_at "w";refine ⟨b,3,rfl,hB,by decide,by decide,fun t Ha t0 t1 Ba ua=>?_⟩;obtain ⟨t,rfl⟩:=cL t0;walk_at "w";obtain ⟨n,en,n6,n8⟩:∃n:Nat,(6:Int)+(t:Int)=(n:Int)/\6<=n/\n<=8:=⟨6+t,by lia,by lia,by lia⟩;rw[en];refine ⟨by lia,by lia,?_⟩;refine Gz (K:=K) (n:=n) (fun (i:Nat)=>(List.range n).map fun (j:Nat)=>(((if decide ((j:Int)=(i:Int)+1)=true then 1 else 0:Int)):Rat)) (by lia) ?_ ?_
  ·rintro i Hb NY NN hi sa k1;walk_at "w";refine ⟨by lia,by lia,?_⟩;refine fW (n:=n) (cF K) (fun (j:Nat)=>(((if decide ((j:Int)=(i:Int)+1)=true then 1 else 0:Int)):Rat)) (by lia) (fun a b=>a.same b) ?_ ?_
   ·rintro j Hz NY2 NN2 hj sz k2;walk_at "w";refine cE fun t Hy sy gy=>?_
    exact k2 _ _ sy (cF.mk gy rfl)
   ·rintro ys Hz t ht sz g pr nx;exact k1 _ _ sz ht ⟨ys,g,pr⟩
  rintro ys H1 mm hm s1 g1 nd1 pr1 nx1;walk_at "w";refine ⟨by lia,by lia,?_⟩;refine fW (n:=n) (cF K) (fun (j:Nat)=>(((if decide ((j:Int)=(n:Int) - 1)=true then 1 else 0:Int)):Rat)) (by lia) (fun a b=>a.same b) ?_ ?_
  ·rintro j Hz NY2 NN2 hj sz k2;walk_at "w";refine cE fun t Hy sy gy=>?_
   exact k2 _ _ sy (cF.mk gy rfl)
  rintro ys2 H2 q2 hq2 s2 g2 pr2 nx2;walk_at "w";refine d6 fun p3 H3 s3 n3 g3=>?_
  have q23:q2≠p3:=fun z=>by rw[z,n3] at g2;cases g2
  have hp3:H1 p3=none:=s2.none n3;walk_at "w";refine ⟨by lia,by lia,?_⟩;refine fW (n:=n) (cF K) (fun (j:Nat)=>(((if decide ((j:Int)=0)=true then 1 else 0:Int)):Rat)) (by lia) (fun a b=>a.same b) ?_ ?_
  ·rintro j Hz NY2 NN2 hj sz k2;walk_at "w";refine cE fun t Hy sy gy=>?_
   exact k2 _ _ sy (cF.mk gy rfl)
  rintro ys4 H4 q4 hq4 s4 g4 pr4 nx4;walk_at "w";refine d6 fun p5 H5 s5 n5 g5=>?_
  have q45:q4≠p5:=fun z=>by rw[z,n5] at g4;cases g4
  have hp5:H3 p5=none:=s4.none n5;have s35:=s4.trans s5;have s23:=s2.trans s3;have s15:=s23.trans s35;have s05:=s1.trans s15;have B5:=Ba.same s05;have hu:∀{q},Ha q=none->H q=none:=fun h=>ua.none Ba h
  have hm0:H mm=none:=hu hm;have hp0:H p3=none:=hu (s1.none hp3);have hl0:H p5=none:=hu (s1.none (s23.none hp5));have mb:mm≠b:=fun z=>Ba.at (by rw[<- z];exact hm)
  have pb:p3≠b:=fun z=>hB.at (by rw[<- z];exact hp0)
  have lb:p5≠b:=fun z=>hB.at (by rw[<- z];exact hl0)
  have g13:=s23 _ _ g1;have mp:mm≠p3:=fun z=>by rw[z,hp3] at g1;cases g1
  have ml:mm≠p5:=fun z=>by rw[z,hp5] at g13;cases g13
  have pl:p3≠p5:=fun z=>by rw[z,hp5] at g3;cases g3
  have mq:mm≠q0:=fun z=>Inner.at Ba (ua.2 _ I0) (by rw[<- z];exact hm)
  have g15:=s15 _ _ g1;have g35:=s35 _ _ g3;obtain ⟨A,eA⟩:∃A:Addr->Prop,A=fun q=>H q=none/\q≠mm/\q≠p3/\q≠p5:=⟨_,rfl⟩
  have mkA:∀{q},H q=none->q≠mm->q≠p3->q≠p5->A q:=fun h1 h2 h3 h4=>by rw[eA];exact ⟨h1,h2,h3,h4⟩
  have unA:∀{q},A q->H q=none/\q≠mm/\q≠p3/\q≠p5:=fun h=>by rw[eA] at h;exact h
  have MA:E5 A mm p3 p5 b q0:=⟨fun z=>(unA z).2.1 rfl,fun z=>(unA z).2.2.1 rfl,fun z=>(unA z).2.2.2 rfl,fun z=>hB.at (unA z).1,(fun z=>by have z1:=(unA z).1;rw[gq0] at z1;cases z1),mb,pb,lb,mp,ml,mq⟩;clear eA;have f01:∀{i:Int},i=0\/i=1->Fr 1 1 (i:Rat):=fun h=>Qt h
  have R2:cK K H5 q2 _:=cK.same ⟨ys2,g2,pr2⟩ (s3.trans s35);have R4:cK K H5 q4 _:=cK.same ⟨ys4,g4,pr4⟩ s5;have g23:=s3 _ _ g2
  have ney:∀y∈ys,∃q,y=V.ref q/\H1 q≠none:=fun y hy=>by
   obtain ⟨_,_,q,e,_,_,gg,_⟩:=dS pr1 hy;exact ⟨q,e,by rw[gg];exact fun z=>nomatch z⟩
  have X5:lH K A H5 n (fun _=>Fr 1 1) mm p3 p5 b q0 ys [.ref q2] [.ref q4]:=by
   refine ⟨B5,(s05.upto (p:=b)).2 _ (ua.2 _ I0),g15,g35,g5,by rw[<- pr1.length,ak,cm],fun x hx=>?_,?_⟩
   ·rcases ax.mp hx with hx | hx
    ·rcases ax.mp hx with hx | hx
     ·refine gF.same (FJ (A:=A) pr1 (fun qs hq=>?_) (fun q hq a b'=>?_) x hx) s15
      ·obtain ⟨i,_,rfl⟩:=aE.mp hq;refine ⟨by rw[ak,cm],fun y hy=>?_⟩;obtain ⟨j,_,rfl⟩:=aE.mp hy;exact f01 (by split <;> simp)
      ·have b3:H3 q≠none:=fun z=>b' (s23.none z)
       exact mkA (hu a) (fun y=>nx1 (by rw[<- y];exact hq)) (fun y=>b' (by rw[y];exact hp3)) (fun y=>b3 (by rw[y];exact hp5))
     ·rw[bU.mp hx];refine ⟨q4,_,rfl,mkA (hu (s1.none (s23.none hq4))) (fun y=>by rw[y,g13] at hq4;cases hq4) (fun y=>by rw[y,g3] at hq4;cases hq4) q45,R4,by rw[ak,cm],fun y hy=>?_⟩;obtain ⟨j,_,rfl⟩:=aE.mp hy;exact f01 (by split <;> simp)
    ·rw[bU.mp hx];refine ⟨q2,_,rfl,mkA (hu (s1.none hq2)) (fun y=>by rw[y,g1] at hq2;cases hq2) q23 (fun y=>by rw[y,hp5] at g23;cases g23),R2,by rw[ak,cm],fun y hy=>?_⟩;obtain ⟨j,_,rfl⟩:=aE.mp hy;exact f01 (by split <;> simp)
   ·refine dz.mpr ⟨dz.mpr ⟨nd1,by simp,fun a ha c hc z=>?_⟩,by simp,fun a ha c hc z=>?_⟩
    ·rw[bU.mp hc] at z;obtain ⟨q,e,h⟩:=ney a ha;rw[z] at e;cases e;exact h (s23.none hq4)
    ·rw[bU.mp hc] at z;rcases ax.mp ha with ha | ha
     ·obtain ⟨q,e,h⟩:=ney a ha;rw[z] at e;cases e;exact h hq2
     ·rw[bU.mp ha] at z;cases z;rw[g23] at hq4;cases hq4
  clear pr1 nx1 pr2 nx2 pr4 nx4 R2 R4 g1 g2 g3 g4 g13 g23;walk_at "w";refine ⟨b,mm,p3,p5,q0,n,1,fun _=>1,A,ys,[.ref q2],[.ref q4],rfl,MA,X5,n8,by simp,by simp,fun _=>Nat.zero_lt_one,fun _=>dP,⟨1,fun _ _ _=>rfl⟩,by decide,fun q hq=>?_,fun r us' H' g Y kp=>?_⟩
  ·exact mkA (hu (s05.none hq)) (fun z=>by rw[z,g15] at hq;cases hq) (fun z=>by rw[z,g35] at hq;cases hq) (fun z=>by rw[z,g5] at hq;cases hq)
  ·obtain ⟨mv,Gm,lmv,hmv⟩:=me (H0:=H) (n:=n) (C:=Fr 1 (9^3*1)) (m:=n) ⟨us',Y.gm,Y.lm,MA.am,fun x hx=>Y.row x (by simp [hx])⟩ fun q h=>(unA h).1
   obtain ⟨pt,Gp,lpt,hpt⟩:=me (H0:=H) (n:=n) (C:=Fr 1 (9^3*1)) (m:=1) ⟨_,Y.gp,rfl,MA.ap,fun x hx=>Y.row x (ax.mpr (.inr hx))⟩ fun q h=>(unA h).1
   obtain ⟨lk,Gl,llk,hlk⟩:=me (H0:=H) (n:=n) (C:=Fr 1 (9^3*1)) (m:=1) ⟨_,Y.gl,rfl,MA.al,fun x hx=>Y.row x (ax.mpr (.inl (ax.mpr (.inr hx))))⟩ fun q h=>(unA h).1
   refine k r mv pt lk H' ⟨mm,p3,p5,g,hm0,hp0,hl0,Gm,Gp,Gl⟩ (by lia) ⟨by lia,by lia,by lia,fun xs hx=>by rw[(hmv xs hx).1,lmv],fun xs hx=>by rw[(hpt xs hx).1,lmv],fun xs hx=>by rw[(hlk xs hx).1,lmv]⟩ (fun xs hx=>(hmv xs hx).2) (fun xs hx=>(hpt xs hx).2) (fun xs hx=>(hlk xs hx).2) Y.bag ⟨fun c' u e n1=>kp c' u (s05 _ _ (ua.1 c' u e n1)) n1 (fun z=>by have:=(unA z).1;rw[e] at this;cases this) (fun z=>by rw[z,hm0] at e;cases e),fun q h=>by rw[<- Inner.inj I0 h];exact Y.inn⟩
theorem BZ:∃x1 x2 x3 x4 x5 x6 x7 x8 x9 x10 x11 x12 x13 x14 x15 x16:Expr,x1=(Expr.Constant (Const.int 0) 0 ⟨312,16,312,17⟩)/\x2=(Expr.Constant (Const.int 1) 0 ⟨312,19,312,20⟩)/\x3=(Expr.Constant (Const.int 1) 0 ⟨312,22,312,23⟩)/\x4=(Expr.Constant (Const.int 1) 0 ⟨312,25,312,26⟩)/\x5=(Expr.Constant (Const.int 2) 0 ⟨312,28,312,29⟩)/\x6=(Expr.Constant (Const.int 2) 0 ⟨312,31,312,32⟩)/\x7=(Expr.Constant (Const.int 3) 0 ⟨312,34,312,35⟩)/\x8=(Expr.Constant (Const.int 4) 0 ⟨312,37,312,38⟩)/\x9=(Expr.Constant (Const.int 0) 0 ⟨313,17,313,18⟩)/\x10=(Expr.Constant (Const.int 1) 0 ⟨313,20,313,21⟩)/\x11=(Expr.Constant (Const.int 1) 0 ⟨313,23,313,24⟩)/\x12=(Expr.Constant (Const.int 1) 0 ⟨313,26,313,27⟩)/\x13=(Expr.Constant (Const.int 2) 0 ⟨313,29,313,30⟩)/\x14=(Expr.Constant (Const.int 2) 0 ⟨313,32,313,33⟩)/\x15=(Expr.Constant (Const.int 3) 0 ⟨313,35,313,36⟩)/\x16=(Expr.Constant (Const.int 4) 0 ⟨313,38,313,39⟩)/\aY gA=[ (Stmt.Assign (targets:=[(Expr.Name "_law_n" ⟨309,4,309,10⟩)]) (value:=(Expr.Call (func:=(Expr.Name "_law_take" ⟨309,13,309,22⟩)) (args:=[ (Expr.Name "_law_bag_here" ⟨309,23,309,36⟩),(Expr.Constant (Const.int 5) 0 ⟨309,38,309,39⟩)]) (keywords:=[]) (pos:=⟨309,13,309,40⟩))) (pos:=⟨309,4,309,40⟩)),(Stmt.If (test:=(Expr.Compare (left:=(Expr.Call (func:=(Expr.Name "_law_take" ⟨310,7,310,16⟩)) (args:=[ (Expr.Name "_law_bag_here" ⟨310,17,310,30⟩),(Expr.Constant (Const.int 8) 0 ⟨310,32,310,33⟩)]) (keywords:=[]) (pos:=⟨310,7,310,34⟩))) (ops:=[PySem.CmpOp.Eq]) (comparators:=[(Expr.Constant (Const.int 7) 0 ⟨310,38,310,39⟩)]) (pos:=⟨310,7,310,39⟩))) (body:=[ (Stmt.Assign (targets:=[(Expr.Name "_law_n" ⟨311,8,311,14⟩)]) (value:=(Expr.Constant (Const.int 5) 0 ⟨311,17,311,18⟩)) (pos:=⟨311,8,311,18⟩))]) (orelse:=[]) (pos:=⟨310,4,311,18⟩)),(Stmt.Assign (targets:=[(Expr.Name "_law_ins" ⟨312,4,312,12⟩)]) (value:=(Expr.Subscript (value:=(Expr.List (elts:=[x1,x2,x3,x4,x5,x6,x7,x8]) (pos:=⟨312,15,312,39⟩))) (slice:=(Expr.Call (func:=(Expr.Name "_law_take" ⟨312,40,312,49⟩)) (args:=[ (Expr.Name "_law_bag_here" ⟨312,50,312,63⟩),(Expr.Constant (Const.int 8) 0 ⟨312,65,312,66⟩)]) (keywords:=[]) (pos:=⟨312,40,312,67⟩))) (pos:=⟨312,15,312,68⟩))) (pos:=⟨312,4,312,68⟩)),(Stmt.Assign (targets:=[(Expr.Name "_law_outs" ⟨313,4,313,13⟩)]) (value:=(Expr.Subscript (value:=(Expr.List (elts:=[x9,x10,x11,x12,x13,x14,x15,x16]) (pos:=⟨313,16,313,40⟩))) (slice:=(Expr.Call (func:=(Expr.Name "_law_take" ⟨313,41,313,50⟩)) (args:=[ (Expr.Name "_law_bag_here" ⟨313,51,313,64⟩),(Expr.Constant (Const.int 8) 0 ⟨313,66,313,67⟩)]) (keywords:=[]) (pos:=⟨313,41,313,68⟩))) (pos:=⟨313,16,313,69⟩))) (pos:=⟨313,4,313,69⟩)),(Stmt.If (test:=(Expr.Compare (left:=(Expr.Name "_law_n" ⟨314,7,314,13⟩)) (ops:=[PySem.CmpOp.Eq]) (comparators:=[(Expr.Constant (Const.int 5) 0 ⟨314,17,314,18⟩)]) (pos:=⟨314,7,314,18⟩))) (body:=[ (Stmt.Assign (targets:=[ (Expr.Tuple (elts:=[(Expr.Name "_law_ins" ⟨315,8,315,16⟩),(Expr.Name "_law_outs" ⟨315,18,315,27⟩)]) (k:=0) (pos:=⟨315,8,315,27⟩))]) (value:=(Expr.Tuple (elts:=[ (Expr.Call (func:=(Expr.Name "min" ⟨315,31,315,34⟩)) (args:=[ (Expr.Name "_law_ins" ⟨315,35,315,43⟩),(Expr.Constant (Const.int 2) 0 ⟨315,45,315,46⟩)]) (keywords:=[]) (pos:=⟨315,31,315,47⟩)),(Expr.Call (func:=(Expr.Name "min" ⟨315,49,315,52⟩)) (args:=[ (Expr.Name "_law_outs" ⟨315,53,315,62⟩),(Expr.Constant (Const.int 2) 0 ⟨315,64,315,65⟩)]) (keywords:=[]) (pos:=⟨315,49,315,66⟩))]) (k:=0) (pos:=⟨315,30,315,67⟩))) (pos:=⟨315,8,315,67⟩))]) (orelse:=[]) (pos:=⟨314,4,315,67⟩)),(Stmt.Assign (targets:=[(Expr.Name "_law_wide" ⟨316,4,316,13⟩)]) (value:=(Expr.Subscript (value:=(Expr.List (elts:=[ (Expr.Constant (Const.int 4) 0 ⟨316,17,316,18⟩),(Expr.Constant (Const.int 4) 0 ⟨316,20,316,21⟩),(Expr.Constant (Const.int 9) 0 ⟨316,23,316,24⟩),(Expr.Constant (Const.int 1000000) 0 ⟨316,26,316,33⟩)]) (pos:=⟨316,16,316,34⟩))) (slice:=(Expr.Call (func:=(Expr.Name "_law_take" ⟨316,35,316,44⟩)) (args:=[ (Expr.Name "_law_bag_here" ⟨316,45,316,58⟩),(Expr.Constant (Const.int 4) 0 ⟨316,60,316,61⟩)]) (keywords:=[]) (pos:=⟨316,35,316,62⟩))) (pos:=⟨316,16,316,63⟩))) (pos:=⟨316,4,316,63⟩)),(Stmt.If (test:=(Expr.Compare (left:=(Expr.Name "_law_wide" ⟨317,7,317,16⟩)) (ops:=[PySem.CmpOp.Gt]) (comparators:=[(Expr.Constant (Const.int 9) 0 ⟨317,19,317,20⟩)]) (pos:=⟨317,7,317,20⟩))) (body:=[ (Stmt.Assign (targets:=[(Expr.Name "_law_n" ⟨318,8,318,14⟩)]) (value:=(Expr.Call (func:=(Expr.Name "min" ⟨318,17,318,20⟩)) (args:=[ (Expr.Name "_law_n" ⟨318,21,318,27⟩),(Expr.Constant (Const.int 2) 0 ⟨318,29,318,30⟩)]) (keywords:=[]) (pos:=⟨318,17,318,31⟩))) (pos:=⟨318,8,318,31⟩))]) (orelse:=[]) (pos:=⟨317,4,318,31⟩)),(Stmt.Return (value:=(some (Expr.Tuple (elts:=[ (Expr.Name "_law_n" ⟨319,12,319,18⟩),(Expr.Name "_law_ins" ⟨319,20,319,28⟩),(Expr.Name "_law_outs" ⟨319,30,319,39⟩),(Expr.Name "_law_wide" ⟨319,41,319,50⟩)]) (k:=0) (pos:=⟨319,11,319,51⟩)))) (pos:=⟨319,4,319,51⟩))]:=⟨_,_,_,_,_,_,_,_,_,_,_,_,_,_,_,_,rfl,rfl,rfl,rfl,rfl,rfl,rfl,rfl,rfl,rfl,rfl,rfl,rfl,rfl,rfl,rfl,by with_unfolding_all rfl⟩
theorem eP:bc ["_law_bag_here","_law_n","_law_ins","_law_outs","_law_wide"] ["_law_bag_here"] (az gA):=by walk_at "d"
theorem BS (T:Txt K mg Z):cN P w K mg base gJ 2 Z.oJ Z.ox ["_law_bag_here"] ID:=by
 refine T.tV.ok eP (fun vs H Q E h=>?_) (fun cdv A outer s H vs Q E hr h=>?_)
 ·obtain ⟨b,rfl,hB,k⟩:=h;rfl
 ·obtain ⟨b,rfl,hB,k⟩:=h;obtain ⟨x1,x2,x3,x4,x5,x6,x7,x8,x9,x10,x11,x12,x13,x14,x15,x16,hx1,hx2,hx3,hx4,hx5,hx6,hx7,hx8,hx9,hx10,hx11,hx12,hx13,hx14,hx15,hx16,hbd⟩:=BZ;rw[hbd]
  refine ⟨_,(au (bg (i:=1) eP.nd rfl (Or.inl rfl) (cS (bL T) hr T.bw T.bH.kp T.bK (ae (pv 0) (ae av aj))))
   (ke (dn (bu eQ (cS (bL T) hr T.bw T.bH.kp T.bK (ae (pv 0) (ae av aj))) av (bJ _)) (aB (bg (i:=1) eP.nd rfl (Or.inl rfl) av)) b8)
   (au (bg (i:=2) eP.nd rfl (Or.inl rfl) (bF cg (fv (eI hx1 av (eI hx2 av (eI hx3 av (eI hx4 av (eI hx5 av (eI hx6 av (eI hx7 av (eI hx8 av aj))))))))) (cS (bL T) hr T.bw T.bH.kp T.bK (ae (pv 0) (ae av aj)))))
   (au (bg (i:=3) eP.nd rfl (Or.inl rfl) (bF cg (fv (eI hx9 av (eI hx10 av (eI hx11 av (eI hx12 av (eI hx13 av (eI hx14 av (eI hx15 av (eI hx16 av aj))))))))) (cS (bL T) hr T.bw T.bH.kp T.bK (ae (pv 0) (ae av aj)))))
   (ke (dn (bu eQ (pv 1) av (bJ _)) (aB (Ku (i:=2) (j:=3) rfl eP.nd rfl rfl (by decide) rfl rfl (ae (bR (rW rfl) (by rfl) T.min PyProof.Rows.boot_min (ae (pv 2) (ae av aj))) (ae (bR (rW rfl) (by rfl) T.min PyProof.Rows.boot_min (ae (pv 3) (ae av aj))) aj)) rfl)) b8)
   (au (bg (i:=4) eP.nd rfl (Or.inl rfl) (bF cg (fv (ae av (ae av (ae av (ae av aj))))) (cS (bL T) hr T.bw T.bH.kp T.bK (ae (pv 0) (ae av aj)))))
   (ke (dn (bu wF (pv 4) av (bJ _)) (aB (bg (i:=1) eP.nd rfl (Or.inl rfl) (bR (rW rfl) (by rfl) T.min PyProof.Rows.boot_min (ae (pv 1) (ae av aj))))) b8)
   (aB (aX (dA (ae (pv 1) (ae (pv 2) (ae (pv 3) (ae (pv 4) aj)))))))))))))),?_⟩
  refine aU (σ:=[some (.ref b),none,none,none,none]) rfl ?_;walk_at "w";refine ⟨b,5,rfl,hB,by decide,by decide,fun n H1 n0 n1 B1 u1=>?_⟩;obtain ⟨n,rfl⟩:=cL n0;walk_at "w";refine ⟨fun σ' H'=>(∃n:Nat,σ'=[some (.ref b),some (.int n),none,none,none]/\n<=5)/\jo H' b/\dc b H H',?_,?_⟩
  ·walk_at "w";refine ⟨b,8,rfl,B1,by decide,by decide,fun v H2 v0 v1 B2 u2=>?_⟩;walk_at "w";refine iX (fun _=>?_) (fun _=>?_)
   ·walk_at "w";exact ⟨⟨5,rfl,by decide⟩,B2,u1.trans u2⟩
   ·walk_at "w";exact ⟨⟨n,rfl,by lia⟩,B2,u1.trans u2⟩
  clear n0 n1 u1 B1;rintro σ' H1 ⟨⟨n,rfl,n5⟩,B1,u1⟩;walk_at "w";refine d6 fun l0 H2 s2 n2 g2=>?_
  walk_at "w";refine ⟨b,8,rfl,B1.same s2,by decide,by decide,fun v H3 v0 v1 B3 u3=>?_⟩;have g3:=u3.other (fun z=>B1.at (by rw[<- z];exact n2)) g2;obtain ⟨x,ex,mx,_⟩:=sA (xs:=[V.int 0,V.int 1,V.int 1,V.int 1,V.int 2,V.int 2,V.int 3,V.int 4]) v0 (by simpa using v1)
  obtain ⟨i,rfl,hi⟩:∃z:Nat,x=.int z/\z<=4:=by
   simp only[aJ,bo,or_false] at mx;rcases mx with rfl | rfl | rfl | rfl | rfl | rfl | rfl | rfl
   ·exact ⟨0,rfl,by decide⟩
   ·exact ⟨1,rfl,by decide⟩
   ·exact ⟨1,rfl,by decide⟩
   ·exact ⟨1,rfl,by decide⟩
   ·exact ⟨2,rfl,by decide⟩
   ·exact ⟨2,rfl,by decide⟩
   ·exact ⟨3,rfl,by decide⟩
   ·exact ⟨4,rfl,by decide⟩
  walk_at "w";refine cG (b6.of g3) ex ?_;clear ex mx g3 g2;walk_at "w";refine d6 fun l1 H4 s4 n4 g4=>?_
  walk_at "w";refine ⟨b,8,rfl,B3.same s4,by decide,by decide,fun t H5 t0 t1 B5 u5=>?_⟩;have g5:=u5.other (fun z=>B3.at (by rw[<- z];exact n4)) g4;obtain ⟨x,ex,mx,_⟩:=sA (xs:=[V.int 0,V.int 1,V.int 1,V.int 1,V.int 2,V.int 2,V.int 3,V.int 4]) t0 (by simpa using t1)
  obtain ⟨o,rfl,ho⟩:∃z:Nat,x=.int z/\z<=4:=by
   simp only[aJ,bo,or_false] at mx;rcases mx with rfl | rfl | rfl | rfl | rfl | rfl | rfl | rfl
   ·exact ⟨0,rfl,by decide⟩
   ·exact ⟨1,rfl,by decide⟩
   ·exact ⟨1,rfl,by decide⟩
   ·exact ⟨1,rfl,by decide⟩
   ·exact ⟨2,rfl,by decide⟩
   ·exact ⟨2,rfl,by decide⟩
   ·exact ⟨3,rfl,by decide⟩
   ·exact ⟨4,rfl,by decide⟩
  walk_at "w";refine cG (b6.of g5) ex ?_;clear ex mx g5 g4;have u15:=(((u1.same s2).trans u3).same s4).trans u5;walk_at "w";refine ⟨fun σ' H'=>(∃i o:Nat,σ'=[some (.ref b),some (.int n),some (.int i),some (.int o),none]/\i<=4/\o<=4/\(n=5->i<=2/\o<=2))/\jo H' b/\dc b H H',?_,?_⟩
  ·walk_at "w";refine iX (fun h0=>?_) (fun h0=>?_)
   ·walk_at "w";refine ⟨⟨min i 2,min o 2,?_,by lia,by lia,fun _=>⟨by lia,by lia⟩⟩,B5,u15⟩;have e1:(if (2:Int) < (i:Int) then (2:Int) else (i:Int))=((min i 2:Nat):Int):=by split <;> lia
    have e2:(if (2:Int) < (o:Int) then (2:Int) else (o:Int))=((min o 2:Nat):Int):=by split <;> lia
    rw[<- e1,<- e2];rfl
   ·walk_at "w";exact ⟨⟨i,o,rfl,hi,ho,fun z=>absurd (decide_eq_true (show (n:Int)=5 by lia)) h0⟩,B5,u15⟩
  clear hi ho u15 B5 u5 u3 u1;rintro σ' H5 ⟨⟨i,o,rfl,hi,ho,h5⟩,B5,u5⟩;walk_at "w";refine d6 fun l2 H6 s6 n6 g6=>?_
  walk_at "w";refine ⟨b,4,rfl,B5.same s6,by decide,by decide,fun v H7 v0 v1 B7 u7=>?_⟩;have g7:=u7.other (fun z=>B5.at (by rw[<- z];exact n6)) g6;obtain ⟨x,ex,mx,_⟩:=sA (xs:=[V.int 4,V.int 4,V.int 9,V.int 1000000]) v0 (by simpa using v1)
  obtain ⟨w,rfl,hw⟩:∃w:Nat,x=.int w/\(w=4\/w=9\/w=1000000):=by
   simp only[aJ,bo,or_false] at mx;rcases mx with rfl | rfl | rfl | rfl
   ·exact ⟨4,rfl,.inl rfl⟩
   ·exact ⟨4,rfl,.inl rfl⟩
   ·exact ⟨9,rfl,.inr (.inl rfl)⟩
   ·exact ⟨1000000,rfl,.inr (.inr rfl)⟩
  walk_at "w";refine cG (b6.of g7) ex ?_;have u07:=(u5.same s6).trans u7;walk_at "w";refine ⟨fun σ' H'=>(∃n:Nat,σ'=[some (.ref b),some (.int n),some (.int i),some (.int o),some (.int w)]/\n<=5/\(w=4\/w=9\/(w=1000000/\n<=2))/\(n=5->i<=2/\o<=2))/\jo H' b/\dc b H H',?_,?_⟩
  ·walk_at "w";refine iX (fun h0=>?_) (fun h0=>?_)
   ·walk_at "w";refine ⟨⟨min n 2,?_,by lia,by lia,fun z=>by lia⟩,B7,u07⟩;have e1:(if (2:Int) < (n:Int) then (2:Int) else (n:Int))=((min n 2:Nat):Int):=by split <;> lia
    rw[<- e1];rfl
   ·walk_at "w";refine ⟨⟨n,rfl,n5,?_,h5⟩,B7,u07⟩;rcases hw with z | z | z
    ·exact .inl z
    ·exact .inr (.inl z)
    ·exact absurd (decide_eq_true (show (9:Int) < (w:Int) by lia)) h0
  ·clear h5 n5;rintro σ' H8 ⟨⟨n',rfl,n5,hwn,h5⟩,B8,u8⟩;walk_at "w";refine cE fun r H9 s9 g9=>?_
   exact k r n' i o w H9 g9 n5 hi ho hwn h5 (B8.same s9) (u8.same s9)
theorem uE:bc ["_law_bag_here","_law_wide","_law_way"] ["_law_bag_here","_law_wide"] (az gQ):=by walk_at "d"
theorem uN (T:Txt K mg Z):cN P w K mg base gJ 2 Z.mY Z.mL ["_law_bag_here","_law_wide"] (Fv K):=by
 refine T.m6.ok uE (fun vs H Q E h=>?_) (fun cdv A outer s H vs Q E hr h=>?_)
 ·obtain ⟨b,w,rfl,hB,w0,w1,k⟩:=h;rfl
 ·obtain ⟨b,w,rfl,hB,w0,w1,k⟩:=h
  refine ⟨_,(au (bg (i:=2) uE.nd rfl (Or.inl rfl) (cS (bL T) hr T.bw T.bH.kp T.bK (ae (pv 0) (ae av aj))))
   (au (dn (bu wD (pv 2) av (bJ _)) (aB (aX (dA (ae av (ae av aj))))) b8)
   (au (dn (bu wD (pv 2) av (bJ _)) (aB (aX (dA (ae (bW pE (cS (bL T) hr T.bw T.bH.kp T.bK (ae (pv 0) (ae av aj))) av) (ae av aj))))) b8)
   (au (dn (bu eQ (pv 2) av (bJ _)) (aB (aX (cS (kg T) hr T.iD T.iG.kp T.jQ (ae (bW pE (cS (bL T) hr T.bw T.bH.kp T.bK (ae (pv 0) (ae av aj))) av) (ae (bW gY av (cS (bL T) hr T.bw T.bH.kp T.bK (ae (pv 0) (ae av aj)))) aj))))) b8)
   (aB (aX (cS (kg T) hr T.iD T.iG.kp T.jQ (ae (bW pE (cS (bL T) hr T.bw T.bH.kp T.bK (ae (pv 0) (ae (bW gY (bW dE av (pv 1)) av) aj))) (pv 1)) (ae (bW gY av (cS (bL T) hr T.bw T.bH.kp T.bK (ae (pv 0) (ae (pv 1) aj)))) aj))))))))),?_⟩
  refine aU (σ:=[some (.ref b),some (.int w),none]) rfl ?_;walk_at "w";refine ⟨b,8,rfl,hB,by decide,by decide,fun v H1 v0 v1 B1 u1=>?_⟩;walk_at "w";refine iX (fun h0=>?_) (fun h0=>?_)
  ·walk_at "w";refine cE fun r H2 s2 g2=>?_
   exact k r 0 _ ⟨bh _,by show 1<=_;lia⟩ (cF.mk g2 rfl) (B1.same s2) (u1.same s2)
  walk_at "w";refine iX (fun h1=>?_) (fun h1=>?_)
  ·walk_at "w";refine ⟨b,7,rfl,B1,by decide,by decide,fun a H2 a0 a1 B2 u2=>?_⟩;walk_at "w";refine cE fun r H3 s3 g3=>?_
   exact k r ((a - 3:Int):Rat) _ ⟨by show (a - 3).natAbs<=_;lia,by show 1<=_;lia⟩ (cF.mk g3 rfl) (B2.same s3) ((u1.trans u2).same s3)
  walk_at "w";refine iX (fun h2=>?_) (fun h2=>?_)
  ·walk_at "w";refine ⟨b,13,rfl,B1,by decide,by decide,fun a H2 a0 a1 B2 u2=>?_⟩;walk_at "w";refine ⟨b,6,rfl,B2,by decide,by decide,fun c H3 c0 c1 B3 u3=>?_⟩;walk_at "w";refine ⟨_,_,rfl,by lia,(JT (by lia)).mono (by decide),fun r H4 s4 g4=>?_⟩;obtain ⟨q,e,d,_⟩:=KW (t:=a - 6) (b:=1+c) (W:=max w 6) (by lia) (by lia) (by lia);exact k r q _ d (cF.mk g4 e) (B3.same s4) (((u1.trans u2).trans u3).same s4)
  walk_at "w";refine ⟨b,_,rfl,B1,by lia,by lia,fun a H2 a0 a1 B2 u2=>?_⟩;walk_at "w";refine ⟨b,_,rfl,B2,by lia,by lia,fun c H3 c0 c1 B3 u3=>?_⟩;walk_at "w";refine ⟨_,_,rfl,by lia,(JT (by lia)).mono (by decide),fun r H4 s4 g4=>?_⟩;obtain ⟨q,e,d,_⟩:=KW (t:=a - w) (b:=1+c) (W:=max w 6) (by lia) (by lia) (by lia);exact k r q _ d (cF.mk g4 e) (B3.same s4) (((u1.trans u2).trans u3).same s4)
theorem Em:bc ["_law_bag_here","_law_many","_law_wide"] ["_law_bag_here","_law_many","_law_wide"] (az lV):=by walk_at "d"
theorem nD (T:Txt K mg Z):cN P w K mg base gJ 3 Z.tJ Z.sY ["_law_bag_here","_law_many","_law_wide"] (Kd K):=by
 refine T.iF.ok Em (fun vs H Q E h=>?_) (fun cdv A outer s H vs Q E hr h=>?_)
 ·obtain ⟨b,m,w,rfl,hB,hm,w0,w1,k⟩:=h;rfl
 ·obtain ⟨b,m,w,rfl,hB,hm,w0,w1,k⟩:=h;refine ⟨_,(aB (aX (cP ["_law_k"] ["_law_bag_here","_law_wide"] [0,2] (cy rfl T.range (ae (pv 1) aj)) (fun _=>(aR (i:=0) (show List.Nodup (α:=PySem.Str) ["_law_k","_law_bag_here","_law_wide"] by decide +kernel))) (fun _=>cQ) (fun _=>(cS (uN T) hr T.pL T.m6.kp T.rC (ae (pv 1) (ae (pv 2) aj))))))),?_⟩;refine aU (σ:=[some (.ref b),some (.int m),some (.int w)]) rfl ?_;walk_at "w";refine ⟨by lia,by lia,?_⟩;refine yW (n:=m) (cF K) (Dr (max w 6)) hB hm (fun a u B=>a.upto u B) ?_ ?_
  ·rintro i H' NY NN hi u B k1;walk_at "w";exact ⟨b,w,rfl,B,w0,w1,fun r x H2 hx h2 B2 u2=>k1 _ x _ u2 B2 hx h2⟩
  ·rintro ys cs H' p hp u B g lc hc pr nx;exact k p cs H' hp ⟨ys,g,pr⟩ lc hc B u
theorem kH:bc ["_law_bag_here","_law_n","_law_way","_law_first","_law_wide","_law_move_here","_law_i","_law_row_here","_law_j"] ["_law_bag_here","_law_n","_law_way","_law_first","_law_wide"] (az j9):=by walk_at "d"
theorem Dv (T : Txt K mg Z) : cN P w K mg base gJ 4 Z.qU Z.qD ["_law_bag_here", "_law_n", "_law_way", "_law_first", "_law_wide"] (J8 K) := by
  have tP := nD (P := P) (w := w) (base := base) T;have kx := bL (P := P) (w := w) (base := base) T;refine T.vq.ok kH (fun vs H Q E h => ?_) (fun cdv A outer s H vs Q E hr h => ?_)
  · obtain ⟨b, n, w, way, first, rfl, hB, n8, w0, w1, k⟩ := h;rfl
  · obtain ⟨b, n, w, way, first, rfl, hB, n8, w0, w1, k⟩ := h
    refine ⟨_, (au (bg (i := 5) kH.nd rfl (Or.inl rfl) (fv aj))
      (au (eE PassesOwn.never rfl (cy rfl T.range (ae (pv 1) aj)) (aR (i := 6) kH.nd)
        (au (bg (i := 7) kH.nd rfl (Or.inl rfl) (cS tP hr T.iC T.iF.kp T.jP (ae (pv 0) (ae (pv 1) (ae (pv 4) aj)))))
      (au (eE PassesOwn.never rfl (cy rfl T.range (ae (pv 1) aj)) (aR (i := 8) kH.nd)
        (ke (dn (PW.pt (iw (bu eQ (pv 2) av (bJ _)) (iV (bu wF (cS kx hr T.bw T.bH.kp T.bK (ae (pv 0) (ae av aj))) av (bJ _))))) (aB (fu (dA (ae av (ae av aj))) (js (pv 7) (pv 8) set_list))) b8)
      (ke (dn (PW.pt (iw (bu eQ (pv 2) av (bJ _)) (iV (bu wD (bW gY (pv 6) av) (pv 1) (bJ _))))) (aB (fu (dA (ae (fV rX (by rfl) T.int PyProof.Rows.boot_int (ae (kL eQ (pv 8) (bW gY (pv 6) av) (bJ _)) aj)) (ae av aj))) (js (pv 7) (pv 8) set_list))) b8)
      (ke (dn (PW.pt (uc (PW.pt (iw (bu eQ (pv 2) av (bJ _)) (iw (bu Cm (pv 6) (pv 3) (bJ _)) (iV (bu wD (pv 8) (pv 3) (bJ _)))))) (nP (PW.pt (iw (bu eQ (pv 2) av (bJ _)) (iw (bu wD (pv 6) (pv 3) (bJ _)) (iV (bu Cm (pv 8) (pv 3) (bJ _))))))))) (aB (fu (dA (ae av (ae av aj))) (js (pv 7) (pv 8) set_list))) b8)
      (aB (dn (bu eQ (pv 2) av (bJ _)) (aB (fu (dA (ae (bW dE (bF cg (fv (ae av (ae av (ae (zg uy av) (ae av aj))))) (bW rj (pv 3) av)) (fV rX (by rfl) T.int PyProof.Rows.boot_int (ae (kL eQ (pv 6) (pv 8) (bJ _)) aj))) (ae av aj))) (js (pv 7) (pv 8) set_list))) b8))))))
      (aB (kK (zh dC fh ff o9 (pv 5) (ae (pv 7) aj)))))))
      (aB (aX (pv 5))))), ?_⟩
    refine aU (σ := [some (.ref b), some (.int n), some (.int way), some (.int first), some (.int w), none, none, none, none]) rfl ?_;have W1 : 1 ≤ max w 6 := by lia
    walk_at "w";refine d6 fun r H1 s1 n1 g1 => ?_
    have rb : r ≠ b := fun z => hB.at (by rw [<- z]; exact n1)
    obtain ⟨q0, I0, xs0, gq0⟩ := hB.inner;have I1 : Inner H1 b q0 := (s1.upto (p := b)).2 _ I0;obtain ⟨A, eA⟩ : ∃ A : Addr → Prop, A = fun q => H q = none /\ q ≠ r := ⟨_, rfl⟩
    have nb : ¬ A b := by rw [eA]; exact fun z => hB.at z.1
    have nr : ¬ A r := by rw [eA]; exact fun z => z.2 rfl
    have nq : ¬ A q0 := by rw [eA]; exact fun z => by have z1 := z.1; rw [gq0] at z1; cases z1
    have rq : r ≠ q0 := fun z => by rw [<- z, n1] at gq0; cases gq0
    walk_at "w";refine ⟨by lia, by lia, ?_⟩;refine dU (n := n) (fun i σ' H' => ∃ (x1 x2 x3 : Option V) (us : List V), σ' = [some (.ref b), some (.int n), some (.int way), some (.int first), some (.int w), some (.ref r), x1, x2, x3] /\ H' r = some (.lst us) /\ us.length = i /\ us.Nodup /\ (∀ x ∈ us, gF K A H' n (Dr (max w 6)) x) /\ jo H' b /\ Inner H' b q0 /\ dc b H H') ⟨none, none, none, [], rfl, g1, rfl, C0, (fun _ z => nomatch z), hB.same s1, I1, s1.upto⟩ ?_ ?_
    · rintro i σ' H' hi ⟨x1, x2, x3, us, rfl, gu, lu, nd, ru, B', I', u'⟩;walk_at "w";refine ⟨b, n, w, rfl, B', by lia, w0, w1, fun p xs Ha np Ra la da Ba ua => ?_⟩;have hp0 : H p = none := u'.none B' np
      have pn : V.ref p ∉ us := fun z => by
        obtain ⟨q', _, _, e', _, g', _⟩ := (ru _ z).at;cases e';rw [np] at g';cases g'
      have ap' : H p = none /\ p ≠ r := ⟨hp0, fun z => by rw [z, gu] at np; cases np⟩;have ap : A p := by rw [eA]; exact ap'
      have X0 : Io K A n (Dr (max w 6)) r p b q0 us H Ha := ⟨ua.other rb gu, fun x hx => (ru x hx).upto ua B' nb, ⟨p, xs, rfl, ap, Ra, la, da⟩, Ba, ua.2 _ I', u'.trans ua⟩;clear ru Ra gu;walk_at "w";refine ⟨by lia, by lia, ?_⟩;refine dU (n := n) (fun j σ' H' => (∃ x3, σ' = [some (.ref b), some (.int n), some (.int way), some (.int first), some (.int w), some (.ref r), some (.int i), some (.ref p), x3]) /\ Io K A n (Dr (max w 6)) r p b q0 us H H') ⟨⟨_, rfl⟩, X0⟩ ?_ ?_
      · rintro j σ' Hj hj ⟨⟨x3, rfl⟩, X⟩;walk_at "w";refine ⟨fun σ' H' => σ' = [some (.ref b), some (.int n), some (.int way), some (.int first), some (.int w), some (.ref r), some (.int i), some (.ref p), some (.int j)] /\ Io K A n (Dr (max w 6)) r p b q0 us H H', ?_, ?_⟩
        · walk_at "w";refine iX (fun _ => ?_) (fun _ => ?_)
          · walk_at "w";refine ⟨b, 3, rfl, X.bag, by decide, by decide, fun d Hd d0 d1 Bd ud => ?_⟩;replace X := X.upto ud Bd nb rb
            repeat' (first | walk_at "rd" | refine iX (fun _ => ?_) (fun _ => ?_))
            all_goals first
              | exact ⟨rfl, X⟩
              | (refine cE fun t Hb sb gb => ?_
                 walk_at "w";obtain ⟨zs, gz, lz, Xz⟩ := (X.same sb).put ap nr nb nq hp0 (cF.mk (q := 0) gb rfl) (uX (i := 0) (bh _) W1) j;refine fN gz (gC (by lia)) rfl ?_;exact ⟨rfl, Xz⟩)
          · walk_at "w";exact ⟨rfl, X⟩
        clear X;rintro σ' Hj ⟨rfl, X⟩;refine ⟨fun σ' H' => σ' = [some (.ref b), some (.int n), some (.int way), some (.int first), some (.int w), some (.ref r), some (.int i), some (.ref p), some (.int j)] /\ Io K A n (Dr (max w 6)) r p b q0 us H H', ?_, ?_⟩
        · repeat' (first | walk_at "rd" | refine iX (fun _ => ?_) (fun _ => ?_))
          all_goals first
            | exact ⟨rfl, X⟩
            | (refine cE fun t Hb sb gb => ?_
               walk_at "w";obtain ⟨zs, gz, lz, Xz⟩ := (X.same sb).put ap nr nb nq hp0 (cF.mk (q := ((if decide ((j : Int) = (i : Int) + 1) = true then (1 : Int) else 0 : Int) : Rat)) gb rfl) (uX (by split <;> lia) W1) j;refine fN gz (gC (by lia)) rfl ?_;exact ⟨rfl, Xz⟩)
        clear X;rintro σ' Hj ⟨rfl, X⟩;refine ⟨fun σ' H' => σ' = [some (.ref b), some (.int n), some (.int way), some (.int first), some (.int w), some (.ref r), some (.int i), some (.ref p), some (.int j)] /\ Io K A n (Dr (max w 6)) r p b q0 us H H', ?_, ?_⟩
        · repeat' (first | walk_at "rd" | refine iX (fun _ => ?_) (fun _ => ?_))
          all_goals first
            | exact ⟨rfl, X⟩
            | (refine cE fun t Hb sb gb => ?_
               walk_at "w";obtain ⟨zs, gz, lz, Xz⟩ := (X.same sb).put ap nr nb nq hp0 (cF.mk (q := 0) gb rfl) (uX (i := 0) (bh _) W1) j;refine fN gz (gC (by lia)) rfl ?_;exact ⟨rfl, Xz⟩)
        clear X;rintro σ' Hj ⟨rfl, X⟩;walk_at "w";refine iX (fun _ => ?_) (fun _ => ?_)
        · walk_at "w";refine d6 fun l0 Hc sc nc gc => ?_
          walk_at "w";obtain ⟨x, ex, mx, _⟩ := sA (xs := [V.int 2, V.int 1, V.int (-1), V.int 0]) (i := first % 4) (oT _ (by decide)) (by have := jK first (show (0 : Int) < 4 by decide); simpa using this)
          obtain ⟨z, rfl, hz⟩ : ∃ z : Int, x = .int z /\ z.natAbs ≤ 2 := by
            simp only [aJ, bo, or_false] at mx;rcases mx with rfl | rfl | rfl | rfl
            · exact ⟨2, rfl, by decide⟩
            · exact ⟨1, rfl, by decide⟩
            · exact ⟨-1, rfl, by decide⟩
            · exact ⟨0, rfl, by decide⟩
          refine cG (b6.of gc) ex ?_;walk_at "w";refine gH (DQ (by lia) (by lia)) ?_;walk_at "w";refine cE fun t Hb sb gb => ?_
          walk_at "w";obtain ⟨zs, gz, lz, Xz⟩ := ((X.same sc).same sb).put ap nr nb nq hp0 (cF.mk (q := ((z * (if decide ((i : Int) = (j : Int)) = true then (1 : Int) else 0) : Int) : Rat)) gb rfl) (uX (by split <;> lia) W1) j;refine fN gz (gC (by lia)) rfl ?_;exact ⟨⟨_, rfl⟩, Xz⟩
        · walk_at "w";exact ⟨⟨_, rfl⟩, X⟩
      · rintro σ' Hj ⟨⟨x3, rfl⟩, X⟩;walk_at "w";refine ⟨.inl ⟨rfl, _, b6.of X.gr⟩, ?_⟩;walk_at "w";refine o8 X.gr (bT (by lia)) ?_;refine ⟨_, _, _, us ++ [.ref p], rfl, aQ, by simp [lu], A5 nd pn, fun x hx => ?_, X.bag.upd X.inn rb rq, X.inn.upd rb, X.up.after n1⟩;rcases ax.mp hx with hx | hx
        · exact (X.ru x hx).other X.gr nr
        · have e : x = V.ref p := by simpa using hx
          rw [e]; exact X.rp.other X.gr nr
    · rintro σ' H' ⟨x1, x2, x3, us, rfl, gu, lu, nd, ru, B', I', u'⟩;walk_at "w";exact k r us H' n1 gu lu nd (by rw [eA] at ru; exact ru) B' u'
theorem d4:bc ["_law_bag_here","_law_n","_law_ins","_law_outs","_law_wide","_law_way","_law_first","_law_move_here","_law_put","_law_look","_law_k","_law_row_here"] ["_law_bag_here","_law_n","_law_ins","_law_outs","_law_wide"] (az iP):=by walk_at "d"
theorem BU (T : Txt K mg Z) : cN P w K mg base gJ 5 Z.oK Z.oy ["_law_bag_here", "_law_n", "_law_ins", "_law_outs", "_law_wide"] (IE K) := by
  have kx := bL (P := P) (w := w) (base := base) T;have E7 := Dv (P := P) (w := w) (base := base) T;have tP := nD (P := P) (w := w) (base := base) T;have D4 := wH (P := P) (w := w) (base := base) T;refine T.tW.ok d4 (fun vs H Q E h => ?_) (fun cdv A outer s H vs Q E hr h => ?_)
  · obtain ⟨b, n, i, o, w, c, rfl, hB, n8, i4, o4, w0, w1, hc, hc20, hcM, k⟩ := h;rfl
  · obtain ⟨b, n, i, o, w, c, rfl, hB, n8, i4, o4, w0, w1, hc, hc20, hcM, k⟩ := h
    refine ⟨_, (au (bg (i := 5) d4.nd rfl (Or.inl rfl) (cS kx hr T.bw T.bH.kp T.bK (ae (pv 0) (ae av aj))))
      (au (bg (i := 6) d4.nd rfl (Or.inl rfl) (cS kx hr T.bw T.bH.kp T.bK (ae (pv 0) (ae (bW gY (pv 1) av) aj))))
      (au (bg (i := 7) d4.nd rfl (Or.inl rfl) (cS E7 hr T.xQ T.vq.kp T.zB (ae (pv 0) (ae (pv 1) (ae (pv 5) (ae (pv 6) (ae (pv 4) aj)))))))
      (au (p0 8 ["_law_k"] ["_law_bag_here", "_law_n", "_law_wide"] [0, 1, 4] d4.nd rfl rfl (cy rfl T.range (ae (pv 2) aj)) (fun _ => (aR (i := 0) (show List.Nodup (α := PySem.Str) ["_law_k", "_law_bag_here", "_law_n", "_law_wide"] by decide +kernel))) (fun _ => cQ) (fun _ => (cS tP hr T.iC T.iF.kp T.jP (ae (pv 1) (ae (pv 2) (ae (pv 3) aj))))))
      (au (p0 9 ["_law_k"] ["_law_bag_here", "_law_n", "_law_wide"] [0, 1, 4] d4.nd rfl rfl (cy rfl T.range (ae (pv 3) aj)) (fun _ => (aR (i := 0) (show List.Nodup (α := PySem.Str) ["_law_k", "_law_bag_here", "_law_n", "_law_wide"] by decide +kernel))) (fun _ => cQ) (fun _ => (cS tP hr T.iC T.iF.kp T.jP (ae (pv 1) (ae (pv 2) (ae (pv 3) aj))))))
      (au (eE PassesOwn.never rfl (cy rfl T.range (ae (pv 1) aj)) (aR (i := 10) d4.nd)
        (au (eE PassesOwn.never rfl (du (pv 8)) (aR (i := 11) d4.nd)
        (aB (dn (PW.pt (uc (PW.pt (iw (bu eQ (pv 5) av (bJ _)) (iV (bu Cm (pv 10) (pv 6) (bJ _))))) (nP (PW.pt (iw (bu eQ (pv 5) av (bJ _)) (iw (bu wD (bW gY (pv 10) av) (pv 1) (bJ _)) (iV (bu eQ (cS kx hr T.bw T.bH.kp T.bK (ae (pv 0) (ae av aj))) av (bJ _))))))))) (aB (fu (dA (ae av (ae av aj))) (js (pv 11) (pv 10) set_list))) b8)))
      (aB (eE PassesOwn.never rfl (du (pv 9)) (aR (i := 11) d4.nd)
        (aB (dn (PW.pt (uc (PW.pt (iw (bu eQ (pv 5) av (bJ _)) (iV (bu Cm (pv 10) (pv 6) (bJ _))))) (nP (PW.pt (iw (bu eQ (pv 5) av (bJ _)) (iw (bu wF (pv 10) av (bJ _)) (iV (bu eQ (cS kx hr T.bw T.bH.kp T.bK (ae (pv 0) (ae av aj))) av (bJ _))))))))) (aB (fu (dA (ae av (ae av aj))) (js (pv 11) (pv 10) set_list))) b8))))))
      (aB (aX (cS D4 hr T.rz T.oR.kp T.tG (ae (pv 0) (ae (pv 7) (ae (pv 8) (ae (pv 9) aj))))))))))))), ?_⟩
    refine aU (σ := [some (.ref b), some (.int n), some (.int i), some (.int o), some (.int w), none, none, none, none, none, none, none]) rfl ?_;have W1 : 1 ≤ max w 6 := by lia
    obtain ⟨q0, I0, xs0, gq0⟩ := hB.inner;walk_at "w";refine ⟨b, 6, rfl, hB, by decide, by decide, fun way H1 a0 a1 B1 u1 => ?_⟩;walk_at "w";refine ⟨b, _, rfl, B1, by lia, by lia, fun first H2 f0 f1 B2 u2 => ?_⟩;have u02 := u1.trans u2;walk_at "w";refine ⟨b, n, w, way, first, rfl, B2, n8, w0, w1, fun m us H3 nm0 gm lm ndm rm B3 u3 => ?_⟩;have u03 := u02.trans u3;walk_at "w";refine ⟨by lia, by lia, ?_⟩;refine CH (n := i) (b := b) (cZ K H3) (fun xs => xs.length = n /\ ∀ x ∈ xs, Dr (max w 6) x) B3 (by lia) (fun a u B => a.upto u B B3.at) (fun ⟨q, e, _, _, g, _⟩ => ⟨q, e, by rw [g]; exact fun z => nomatch z⟩) ?_ ?_
    · rintro s H' NY NN hi u B k1;walk_at "w";exact ⟨b, n, w, rfl, B, by lia, w0, w1, fun r xs H2 nr R lx dx B2 u2 => k1 _ xs _ u2 B2 ⟨lx, dx⟩ ⟨r, rfl, u.none B nr, R⟩ ⟨r, rfl, nr⟩⟩
    rintro ws puts H4 p np u4 B4 gp lp ndp hp pr4 nx4;have u04 := u03.trans u4;walk_at "w";refine ⟨by lia, by lia, ?_⟩;refine CH (n := o) (b := b) (cZ K H4) (fun xs => xs.length = n /\ ∀ x ∈ xs, Dr (max w 6) x) B4 (by lia) (fun a u B => a.upto u B B4.at) (fun ⟨q, e, _, _, g, _⟩ => ⟨q, e, by rw [g]; exact fun z => nomatch z⟩) ?_ ?_
    · rintro s H' NY NN hi u B k1;walk_at "w";exact ⟨b, n, w, rfl, B, by lia, w0, w1, fun r xs H2 nr R lx dx B2 u2 => k1 _ xs _ u2 B2 ⟨lx, dx⟩ ⟨r, rfl, u.none B nr, R⟩ ⟨r, rfl, nr⟩⟩
    rintro vs looks H5 l nl u5 B5 gl ll ndl hl pr5 nx5;have u05 := u04.trans u5;have hm0 : H m = none := u02.none B2 nm0;have hp0 : H p = none := u03.none B3 np;have hl0 : H l = none := u04.none B4 nl;have mb : m ≠ b := fun z => B2.at (by rw [<- z]; exact nm0)
    have pb : p ≠ b := fun z => B3.at (by rw [<- z]; exact np)
    have lb : l ≠ b := fun z => B4.at (by rw [<- z]; exact nl)
    have gm4 := u4.other mb gm;have gm5 := u5.other mb gm4;have gp5 := u5.other pb gp;have mp : m ≠ p := fun z => by rw [z, np] at gm; cases gm
    have ml : m ≠ l := fun z => by rw [z, nl] at gm4; cases gm4
    have pl : p ≠ l := fun z => by rw [z, nl] at gp; cases gp
    have mq : m ≠ q0 := fun z => Inner.at B2 (u02.2 _ I0) (by rw [<- z]; exact nm0)
    obtain ⟨A, eA⟩ : ∃ A : Addr → Prop, A = fun q => H q = none /\ q ≠ m /\ q ≠ p /\ q ≠ l := ⟨_, rfl⟩
    have mkA : ∀ {q}, H q = none → q ≠ m → q ≠ p → q ≠ l → A q := fun h1 h2 h3 h4 => by rw [eA]; exact ⟨h1, h2, h3, h4⟩
    have unA : ∀ {q}, A q → H q = none /\ q ≠ m /\ q ≠ p /\ q ≠ l := fun h => by rw [eA] at h; exact h
    have MA : E5 A m p l b q0 := ⟨fun z => (unA z).2.1 rfl, fun z => (unA z).2.2.1 rfl, fun z => (unA z).2.2.2 rfl, fun z => hB.at (unA z).1, (fun z => by have z1 := (unA z).1; rw [gq0] at z1; cases z1), mb, pb, lb, mp, ml, mq⟩;clear eA;have lws : ws.length = i := by rw [<- pr4.length]; exact lp
    have lvs : vs.length = o := by rw [<- pr5.length]; exact ll
    have alM : ∀ q, V.ref q ∈ us → H3 q ≠ none /\ q ≠ b /\ H4 q ≠ none := fun q hq => by
      obtain ⟨q', qs, e, ⟨a1, a2⟩, r, z⟩ := rm _ hq;cases e;have qb : q ≠ b := fun y => B2.at (by rw [<- y]; exact a1)
      obtain ⟨xq, gq, _⟩ := id r;obtain ⟨xq4, gq4, _⟩ := r.upto u4 B3 qb;exact ⟨(by rw [gq]; exact fun z => nomatch z), qb, (by rw [gq4]; exact fun z => nomatch z)⟩
    have alP : ∀ q, V.ref q ∈ ws → H3 q = none /\ H4 q ≠ none := fun q hq => by
      obtain ⟨_, _, q', e, a, _, g, _⟩ := dS pr4 hq;cases e;exact ⟨a, by rw [g]; exact fun z => nomatch z⟩
    have alL : ∀ q, V.ref q ∈ vs → H4 q = none := fun q hq => by
      obtain ⟨_, _, q', e, a, _⟩ := dS pr5 hq;cases e;exact a
    have isR : ∀ x, x ∈ us \/ x ∈ ws \/ x ∈ vs → ∃ q, x = V.ref q := fun x hx => by
      rcases hx with hx | hx | hx
      · obtain ⟨q, _, e, _⟩ := rm x hx; exact ⟨q, e⟩
      · obtain ⟨_, _, q, e, _⟩ := dS pr4 hx; exact ⟨q, e⟩
      · obtain ⟨_, _, q, e, _⟩ := dS pr5 hx; exact ⟨q, e⟩
    have nd : (us ++ vs ++ ws).Nodup := by
      refine dz.mpr ⟨dz.mpr ⟨ndm, ndl, fun x hx y hy e => ?_⟩, ndp, fun x hx y hy e => ?_⟩
      · subst e;obtain ⟨q, rfl⟩ := isR x (.inl hx);exact (alM q hx).2.2 (alL q hy)
      · subst e;obtain ⟨q, rfl⟩ := isR x (.inr (.inl hy));rcases ax.mp hx with hx | hx
        · exact (alM q hx).1 (alP q hy).1
        · exact (alP q hy).2 (alL q hx)
    have X5 : GI K A n (Dr (max w 6)) m p l b q0 us ws vs H H5 := by
      refine ⟨⟨B5, u05.2 _ I0, gm5, gp5, gl, lm, fun x hx => ?_, nd⟩, gp5, gl, fun c u e n1 _ _ => u05.1 c u e n1⟩;rcases ax.mp hx with hx | hx
      · rcases ax.mp hx with hx | hx
        · obtain ⟨q, qs, e, ⟨a1, a2⟩, r, z⟩ := rm x hx;obtain ⟨xq, gq, _⟩ := id r;have qb : q ≠ b := fun y => B2.at (by rw [<- y]; exact a1)
          have r4 := r.upto u4 B3 qb;obtain ⟨xq4, gq4, _⟩ := id r4;exact ⟨q, qs, e, mkA (u02.none B2 a1) a2 (fun y => by rw [y, np] at gq; cases gq) (fun y => by rw [y, nl] at gq4; cases gq4), r4.upto u5 B4 qb, z⟩
        · refine FJ (A := A) pr5 hl (fun q hq a b' => ?_) x hx;exact mkA (u04.none B4 a) (fun y => by rw [y, gm4] at a; cases a) (fun y => by rw [y, gp] at a; cases a) (fun y => nV nx5 (by rw [<- y]; exact hq))
      · refine gF.upto (FJ (A := A) pr4 hp (fun q hq a b' => ?_) x hx) u5 B4 MA.ab;exact mkA (u03.none B3 a) (fun y => by rw [y, gm] at a; cases a) (fun y => nV nx4 (by rw [<- y]; exact hq)) (fun y => b' (by rw [y]; exact nl))
    clear alM alP alL isR rm pr4 pr5 nx4 nx5 gm gm4 gm5 gp gp5 gl hp hl;walk_at "w";refine ⟨by lia, by lia, ?_⟩;refine dU (n := n) (fun kk σ' H' => (∃ x1 x2, σ' = [some (.ref b), some (.int n), some (.int i), some (.int o), some (.int w), some (.int way), some (.int first), some (.ref m), some (.ref p), some (.ref l), x1, x2]) /\ GI K A n (Dr (max w 6)) m p l b q0 us ws vs H H') ⟨⟨_, _, rfl⟩, X5⟩ ?_ ?_
    · rintro kk σ' Hj hk ⟨⟨x1, x2, rfl⟩, X⟩;walk_at "w";refine ⟨⟨_, b6.of X.gp⟩, ?_⟩;refine kX (K := K) (a := p) (xs := ws) (fun s σ' H' => (∃ x2, σ' = [some (.ref b), some (.int n), some (.int i), some (.int o), some (.int w), some (.int way), some (.int first), some (.ref m), some (.ref p), some (.ref l), some (.int kk), x2]) /\ GI K A n (Dr (max w 6)) m p l b q0 us ws vs H H') ⟨⟨_, rfl⟩, X⟩ (fun s σ' H' _ ⟨_, e⟩ => b6.of e.gp) ?_ ?_
      · rintro s x σ' Hk hx ⟨⟨y2, rfl⟩, X⟩;have mx := aA hx;obtain ⟨q, _, rfl, _⟩ := X.row (.inl mx)
        repeat' (first | walk_at "rd" | refine iX (fun _ => ?_) (fun _ => ?_))
        all_goals first
          | exact ⟨⟨_, rfl⟩, X⟩
          | (refine cE fun t Hb sb gb => ?_
             walk_at "w";obtain ⟨zs, gz, lz, Xz⟩ := (X.same sb).put MA (.inl mx) (cF.mk (q := 0) gb rfl) (uX (i := 0) (bh _) W1) kk;refine fN gz (gC (by lia)) rfl ?_;exact ⟨⟨_, rfl⟩, Xz⟩)
          | (refine ⟨b, 2, rfl, X.mix.bag, by decide, by decide, fun d Hd d0 d1 Bd ud => ?_⟩
             replace X := X.upto MA ud Bd
             repeat' (first | walk_at "rd" | refine iX (fun _ => ?_) (fun _ => ?_))
             all_goals first
               | exact ⟨⟨_, rfl⟩, X⟩
               | (refine cE fun t Hb sb gb => ?_
                  walk_at "w";obtain ⟨zs, gz, lz, Xz⟩ := (X.same sb).put MA (.inl mx) (cF.mk (q := 0) gb rfl) (uX (i := 0) (bh _) W1) kk;refine fN gz (gC (by lia)) rfl ?_;exact ⟨⟨_, rfl⟩, Xz⟩))
      · rintro σ' Hk ⟨⟨y2, rfl⟩, X⟩;walk_at "w";refine ⟨⟨_, b6.of X.gl⟩, ?_⟩;refine kX (K := K) (a := l) (xs := vs) (fun s σ' H' => (∃ x2, σ' = [some (.ref b), some (.int n), some (.int i), some (.int o), some (.int w), some (.int way), some (.int first), some (.ref m), some (.ref p), some (.ref l), some (.int kk), x2]) /\ GI K A n (Dr (max w 6)) m p l b q0 us ws vs H H') ⟨⟨_, rfl⟩, X⟩ (fun s σ' H' _ ⟨_, e⟩ => b6.of e.gl) ?_ ?_
        · rintro s x σ' Hk hx ⟨⟨y2, rfl⟩, X⟩;have mx := aA hx;obtain ⟨q, _, rfl, _⟩ := X.row (.inr mx)
          repeat' (first | walk_at "rd" | refine iX (fun _ => ?_) (fun _ => ?_))
          all_goals first
            | exact ⟨⟨_, rfl⟩, X⟩
            | (refine cE fun t Hb sb gb => ?_
               walk_at "w";obtain ⟨zs, gz, lz, Xz⟩ := (X.same sb).put MA (.inr mx) (cF.mk (q := 0) gb rfl) (uX (i := 0) (bh _) W1) kk;refine fN gz (gC (by lia)) rfl ?_;exact ⟨⟨_, rfl⟩, Xz⟩)
            | (refine ⟨b, 2, rfl, X.mix.bag, by decide, by decide, fun d Hd d0 d1 Bd ud => ?_⟩
               replace X := X.upto MA ud Bd
               repeat' (first | walk_at "rd" | refine iX (fun _ => ?_) (fun _ => ?_))
               all_goals first
                 | exact ⟨⟨_, rfl⟩, X⟩
                 | (refine cE fun t Hb sb gb => ?_
                    walk_at "w";obtain ⟨zs, gz, lz, Xz⟩ := (X.same sb).put MA (.inr mx) (cF.mk (q := 0) gb rfl) (uX (i := 0) (bh _) W1) kk;refine fN gz (gC (by lia)) rfl ?_;exact ⟨⟨_, rfl⟩, Xz⟩))
        · rintro σ' Hk ⟨⟨y2, rfl⟩, X⟩;exact ⟨⟨_, _, rfl⟩, X⟩
    · rintro σ' Hj ⟨⟨x1, x2, rfl⟩, X⟩
      obtain ⟨M1, M2, M3, V0, a1, a2, a3, V2, hcs, R1, R2, R3⟩ : ∃ M1 M2 M3 V0 : Nat, (0 < M1 /\ M1 ≤ 2 ^ 800) /\ (0 < M2 /\ M2 ≤ 2 ^ 800) /\ (0 < M3 /\ M3 ≤ 2 ^ 800) /\ V0 ≤ 2 ^ 20 /\ ((w ≤ 9 /\ M1 = 2520 /\ M2 = 2520 /\ M3 = 2520 /\ V0 = 9) \/ (9 < w /\ M1 ≤ 2 ^ (c * (n * n)) /\ M2 ≤ 2 ^ (c * (i * n)) /\ M3 ≤ 2 ^ (c * (o * n)) /\ V0 = 2 ^ c)) /\ (∀ x ∈ us, gF K A Hj n (Fr M1 V0) x) /\ (∀ x ∈ ws, gF K A Hj n (Fr M2 V0) x) /\ ∀ x ∈ vs, gF K A Hj n (Fr M3 V0) x := by
        by_cases w9 : w ≤ 9
        · have XM := X.mix.weak (C' := fun _ => Fr 2520 9) fun _ _ y h => DL ⟨ah h.1 (by lia), ah h.2 (by lia)⟩ (An _)
          have z : 0 < 2520 /\ 2520 ≤ 2 ^ 800 := ⟨by decide, ah (show 2520 ≤ 2 ^ 12 by decide) (ao (by decide) (by decide))⟩;exact ⟨2520, 2520, 2520, 9, z, z, z, by decide, .inl ⟨w9, rfl, rfl, rfl, rfl⟩, fun x hx => XM.row x (by simp [hx]), fun x hx => XM.row x (by simp [hx]), fun x hx => XM.row x (by simp [hx])⟩
        · obtain ⟨M1, M2, M3, a1, a2, a3, b1, b2, b3, R1, R2, R3⟩ := (X.mix.weak (C' := fun _ => Dr (2 ^ c)) fun _ _ y h => ⟨ah h.1 hc, ah h.2 hc⟩).fr3;rw [lws] at b2;rw [lvs] at b3;have up : ∀ {M k : Nat}, M ≤ 2 ^ (c * k) → k ≤ (n + i + o) * n → M ≤ 2 ^ 800 := fun h hk => ah h (ao (by decide) (ah (aM _ hk) hcM))
          exact ⟨M1, M2, M3, 2 ^ c, ⟨a1, up b1 (aw _ (by lia))⟩, ⟨a2, up b2 (aw _ (by lia))⟩, ⟨a3, up b3 (aw _ (by lia))⟩, ao (by decide) hc20, .inr ⟨by lia, b1, b2, b3, rfl⟩, R1, R2, R3⟩
      obtain ⟨μ, e2, e3, e1, e4⟩ := KL ws vs M1 M2 M3;obtain ⟨ap1, ap2⟩ := X.mix.apart
      have XM : lH K A Hj n (fun x => Fr (μ x) V0) m p l b q0 us ws vs := by
        refine ⟨X.mix.bag, X.mix.inn, X.mix.gm, X.mix.gp, X.mix.gl, X.mix.lm, fun x hx => ?_, X.mix.nd⟩;rcases ax.mp hx with hx | hx
        · rcases ax.mp hx with hx | hx
          · rw [e1 x (ap1 x hx).1 (ap1 x hx).2]; exact R1 x hx
          · rw [e3 x hx (ap2 x hx)]; exact R3 x hx
        · rw [e2 x hx]; exact R2 x hx
      have p1 : ∀ x, 0 < μ x := fun x => by
        rcases e4 x with e | e | e
        · rw [e]; exact a1.1
        · rw [e]; exact a2.1
        · rw [e]; exact a3.1
      have p2 : ∀ x, μ x ≤ 2 ^ 800 := fun x => by
        rcases e4 x with e | e | e
        · rw [e]; exact a1.2
        · rw [e]; exact a2.2
        · rw [e]; exact a3.2
      have gmj := X.mix.gm;walk_at "w";refine ⟨b, m, p, l, q0, n, V0, μ, A, us, ws, vs, rfl, MA, XM, n8, by lia, by lia, p1, p2, ⟨M1, e1⟩, V2, fun q hq => ?_, fun r us' H' g Y kp => ?_⟩
      · refine mkA ?_ (fun z => by rw [z, gmj] at hq; cases hq) (fun z => by rw [z, X.gp] at hq; cases hq) (fun z => by rw [z, X.gl] at hq; cases hq);cases e : H q with
        | none => rfl
        | some u =>
          have := X.kp q u e (fun z => X.mix.bag.at (by rw [<- z]; exact hq)) (fun z => by have := (unA z).1; rw [e] at this; cases this) (fun z => by rw [z, hm0] at e; cases e);rw [hq] at this; cases this
      · obtain ⟨yp1, yp2⟩ := Y.apart;obtain ⟨mv, Gm, lmv, hmv⟩ := me (H0 := H) (n := n) (C := Fr M1 (9 ^ 3 * V0)) (m := n) ⟨us', Y.gm, Y.lm, MA.am, fun x hx => by have := Y.row x (by simp [hx]); rwa [e1 x (yp1 x hx).1 (yp1 x hx).2] at this⟩ fun q h => (unA h).1
        obtain ⟨pt, Gp, lpt, hpt⟩ := me (H0 := H) (n := n) (C := Fr M2 (9 ^ 3 * V0)) (m := i) ⟨ws, Y.gp, lws, MA.ap, fun x hx => by have := Y.row x (by simp [hx]); rwa [e2 x hx] at this⟩ fun q h => (unA h).1
        obtain ⟨lk, Gl, llk, hlk⟩ := me (H0 := H) (n := n) (C := Fr M3 (9 ^ 3 * V0)) (m := o) ⟨vs, Y.gl, lvs, MA.al, fun x hx => by have := Y.row x (by simp [hx]); rwa [e3 x hx (yp2 x hx)] at this⟩ fun q h => (unA h).1
        refine k r mv pt lk H' ⟨m, p, l, g, hm0, hp0, hl0, Gm, Gp, Gl⟩ lmv lpt llk ⟨by lia, by lia, by lia, fun xs hx => by rw [(hmv xs hx).1, lmv], fun xs hx => by rw [(hpt xs hx).1, lmv], fun xs hx => by rw [(hlk xs hx).1, lmv]⟩ ⟨M1, M2, M3, 9 ^ 3 * V0, a1.1, a2.1, a3.1, fun xs hx => (hmv xs hx).2, fun xs hx => (hpt xs hx).2, fun xs hx => (hlk xs hx).2, ?_⟩ Y.bag ⟨fun c' u e n1 => (X.kp.trans kp) c' u e n1 (fun z => by have := (unA z).1; rw [e] at this; cases this) (fun z => by rw [z, hm0] at e; cases e), fun q h => by rw [<- Inner.inj I0 h]; exact Y.inn⟩;rcases hcs with ⟨b1, b2, b3, b4, b5⟩ | ⟨b1, b2, b3, b4, b5⟩
        · exact .inl ⟨b1, b2, b3, b4, by rw [b5]⟩
        · exact .inr ⟨b1, b2, b3, b4, by rw [b5]⟩
theorem jx:bc ["_law_bag_here","_law_n","_law_ins","_law_outs","_law_wide"] ["_law_bag_here"] (az iU):=by walk_at "d"
theorem BW (T:Txt K mg Z):cN P w K mg base gJ 6 Z.oP Z.oC ["_law_bag_here"] (Fx K):=by
 refine T.tZ.ok jx (fun vs H Q E h=>?_) (fun cdv A outer s H vs Q E hr h=>?_)
 ·obtain ⟨b,rfl,hB,k⟩:=h;rfl
 ·obtain ⟨b,rfl,hB,k⟩:=h
  refine ⟨_,(au (dn (bu eQ (cS (bL T) hr T.bw T.bH.kp T.bK (ae (pv 0) (ae av aj))) av (bJ _)) (aB (aX (dA (ae (cS (Dw T) hr T.xR T.vv.kp T.zC (ae (pv 0) aj)) (ae av aj))))) b8)
   (au (fu (cS (BS T) hr T.wL T.tV.kp T.yg (ae (pv 0) aj)) (sL rfl (cx (aR (i:=1) jx.nd) (cx (aR (i:=2) jx.nd) (cx (aR (i:=3) jx.nd) (cx (aR (i:=4) jx.nd) h9))))))
   (aB (aX (dA (ae (cS (BU T) hr T.wM T.tW.kp T.yh (ae (pv 0) (ae (pv 1) (ae (pv 2) (ae (pv 3) (ae (pv 4) aj)))))) (ae (bR (rW rfl) (by rfl) T.min PyProof.Rows.boot_min (ae (pv 4) (ae av aj))) aj))))))),?_⟩
  refine aU (σ:=[some (.ref b),none,none,none,none]) rfl ?_;have sf:∀{mv pt lk:List (List Rat)} {M V1:Nat},0 < M->M<=2^400->V1<=2^30->GF M V1 mv->GF M V1 pt->GF M V1 lk->GG mv pt lk:=fun h0 h1 h2 a b c=>⟨_,_,h0,h1,ah h2 (ao (by decide) (by decide)),a,b,c⟩
  have et:∀{mv:List (List Rat)},(aW mv mv.length).length=mv.length:=bZ;walk_at "w";refine ⟨b,16,rfl,hB,by decide,by decide,fun v H2 v0 v1 B2 u2=>?_⟩;walk_at "w";refine iX (fun h0=>?_) (fun h0=>?_)
  ·walk_at "w";refine ⟨b,rfl,B2,fun r4 mv pt lk H4 P4 l6 D fm fp fl B4 u4=>?_⟩;have d8:=D.n8;walk_at "w";refine cE fun t H5 s5 g5=>?_
   exact k t r4 4 mv pt lk H5 g5 ((P4.weak fun q h=>u2.none B2 h).same s5) D (sf (by decide) dP (by decide) fm fp fl) (.inl ⟨by decide,⟨by decide,by decide,by decide,by decide,fm,fp,(ah (aw _ (show mv.length+4<=12 by lia)) (by decide))⟩,⟨by decide,by decide,by decide,by decide,zT fm,fl,(ah (aw _ (show (aW mv mv.length).length+4<=12 by rw[et];lia)) (by decide))⟩⟩) (by decide) (by decide) (B4.same s5) ((u2.trans u4).same s5)
  ·walk_at "w";refine ⟨b,rfl,B2,fun r n i o w H1 g1 n5 i4 o4 hw h5 B1 u1=>?_⟩;have u02:=u2.trans u1
   obtain ⟨c,hc,hc20,hcM⟩:∃c:Nat,max w 6<=2^c/\c<=20/\c*((n+i+o)*n)<=800/\(9 < w->c=20/\(n+i+o)*n<=20/\n<=2):=by
    have m1:(n+i+o)*n<=13*5:=aD (by lia) n5;rcases hw with rfl | rfl | ⟨rfl,n2⟩
    ·exact ⟨4,by decide,by decide,by lia,fun z=>by lia⟩
    ·exact ⟨4,by decide,by decide,by lia,fun z=>by lia⟩
    ·have m2:(n+i+o)*n<=10*2:=aD (by lia) n2;exact ⟨20,by decide,by decide,by lia,fun _=>⟨rfl,by lia,n2⟩⟩
   obtain ⟨hcM,hbig⟩:=hcM;walk_at "w";refine ⟨b,n,i,o,w,c,rfl,B1,by lia,i4,o4,by lia,by lia,hc,hc20,hcM,fun r4 mv pt lk H4 P4 lm lp ll D PG B4 u4=>?_⟩;have hmin:(if (1000:Int) < (w:Int) then (1000:Int) else (w:Int))=((min w 1000:Nat):Int):=by split <;> lia
   have SF:GG mv pt lk:=by
    obtain ⟨M,V1,M0,fm,fp,fl,hcs⟩:=PG.n;rcases hcs with ⟨w9,rfl,rfl⟩ | ⟨w9,M1,rfl⟩
    ·exact sf (by decide) (ah (show 2520<=2^12 by decide) (ao (by decide) (by decide))) (by decide) fm fp fl
    ·obtain ⟨rfl,e1,e2⟩:=hbig w9;exact sf M0 (ah M1 (ao (by decide) (by lia))) (by decide) fm fp fl
   have RG:Rj mv pt lk (min w 1000):=by
    obtain ⟨M1,M2,M3,V1,a1,a2,a3,f1,f2,f3,hc'⟩:=PG;rcases hc' with ⟨w9,rfl,rfl,rfl,rfl⟩ | ⟨w9,b1,b2,b3,rfl⟩
    ·exact .inr (.inl ⟨by lia,by lia,⟨by decide,by decide,by decide,by decide,f1,f2,(ah (aw _ (show mv.length+4<=9 by lia)) (by decide))⟩,⟨by decide,by decide,by decide,by decide,zT f1,f3,(ah (aw _ (show (aW mv mv.length).length+4<=9 by rw[et];lia)) (by decide))⟩⟩)
    ·obtain ⟨rfl,e1,e2⟩:=hbig w9;have q1:n*n<=2*2:=aD e2 e2;have q2:o*n<=4*2:=aD o4 e2;have q3:i*n<=4*2:=aD i4 e2;have w6:w=1000000:=by lia
     exact .inr (.inr ⟨by lia,by lia,M1,M2,M3,⟨a1,a2,ah b1 (ao (by decide) (by lia)),ah b2 (ao (by decide) (by lia)),f1,f2,(ah (aw _ (show mv.length+4<=6 by lia)) (by decide))⟩,⟨a1,a3,ah b1 (ao (by decide) (by lia)),ah b3 (ao (by decide) (by lia)),zT f1,f3,(ah (aw _ (show (aW mv mv.length).length+4<=6 by rw[et];lia)) (by decide))⟩⟩)
   walk_at "w";refine cE fun t H5 s5 g5=>?_
   rw[hmin] at g5;exact k t r4 (min w 1000) mv pt lk H5 g5 ((P4.weak fun q h=>u02.none B1 h).same s5) D SF RG (by lia) (by lia) (B4.same s5) ((u02.trans u4).same s5)
theorem De:bc ["thing","at","most"] ["thing","at","most"] (az jV):=by walk_at "d"
theorem sN (T:Txt K mg Z):cN P w K mg base gJ 1 Z.qL Z.qe ["thing","at","most"] L6:=by
 refine T.nJ.ok De (fun vs H Q E h=>?_) (fun cdv A outer s H vs Q E hr h=>?_)
 ·obtain ⟨p,xs,a,m,rfl,gx,hm,k⟩:=h;rfl
 ·obtain ⟨p,xs,a,m,rfl,gx,hm,k⟩:=h
  refine ⟨_,(au (dn (kJ (jM (yN rfl T.isinstance PyProof.Rows.boot_list T.list (pv 0)))) (aB Kv) b8)
   (aB (dn (bu wF (bR bD (by rfl) T.len bp (ae (pv 0) aj)) (pv 2) (bJ _)) (aB Kv) b8))),?_⟩
  refine aU (σ:=[some (.ref p),some (.int a),some (.int m)]) rfl ?_;walk_at "w";refine ⟨_,_,.lst gx,rfl,?_⟩;walk_at "w";refine ⟨_,_,rfl,.inl (b6.of gx),?_⟩;walk_at "w";rw[decide_eq_false (show ¬m < (xs.length:Int) by lia)];walk_at "w";exact k
theorem Ek:bc ["thing"] ["thing"] (az lS):=by walk_at "d"
theorem zj (T:Txt K mg Z):cN P w K mg base gJ 1 Z.tH Z.sW ["thing"] IA:=by
 refine T.tR.ok Ek (fun vs H Q E h=>?_) (fun cdv A outer s H vs Q E hr h=>?_)
 ·obtain ⟨i,rfl,k⟩:=h;rfl
 ·obtain ⟨i,rfl,k⟩:=h;refine ⟨_,(aB (aX (FP (yN rfl T.isinstance PyProof.Rows.boot_int T.int (pv 0)) (FN (O5 (yN rfl T.isinstance PyProof.Rows.boot_bool T.bool (pv 0))))))),?_⟩;refine aU (σ:=[some (.int i)]) rfl ?_;walk_at "w";refine ⟨_,_,.int i,rfl,?_⟩;walk_at "w";refine ⟨_,_,.int i,rfl,?_⟩;walk_at "w";exact k
theorem h7:bc ["one","other","rest"] ["one","other"] (az eU):=by walk_at "d"
theorem kO (T:Txt K mg Z):cN P w K mg base gJ 1 Z.jc Z.iY ["one","other"] Qr:=by
 refine T.fX.ok h7 (fun vs H Q E h=>?_) (fun cdv A outer s H vs Q E hr h=>?_)
 ·obtain ⟨a,b,rfl,k⟩:=h;rfl
 ·obtain ⟨a,b,rfl,k⟩:=h
  refine ⟨_,(au (AO PassesOwn.never (bu wC (pv 1) av (bJ _))
    (au (bg (i:=2) h7.nd rfl (Or.inl rfl) (bW MY (pv 0) (pv 1)))
   (au (bg (i:=0) h7.nd rfl (Or.inl rfl) (pv 1))
   (aB (bg (i:=1) h7.nd rfl (Or.inl rfl) (pv 2))))))
   (aB (aX (bR Bv (by rfl) T.abs PyProof.Rows.boot_abs (ae (pv 0) aj))))),?_⟩
  refine aU (σ:=[some (.int a),some (.int b),none]) rfl ?_;walk_at "w";refine C5 (fun σ' H'=>∃(u v:Int) (r:Option V),σ'=[some (.int u),some (.int v),r]/\H'=H/\Int.gcd u v=Int.gcd a b) (fun σ' _=>match σ' with | [_,some (.int v),_]=>v.natAbs | _=>0) ⟨a,b,none,rfl,rfl,rfl⟩ ?_;rintro σ' H' ⟨u,v,r,rfl,rfl,hg⟩;walk_at "w";refine iX (fun h=>?_) (fun h=>?_)
  ·have hv:v≠0:=fun z=>by subst z;simp at h
   walk_at "w";refine gH (show v≠0 from hv) ?_;walk_at "w";exact ⟨⟨v,u.fmod v,_,rfl,rfl,(Lf u v).trans hg⟩,Ng u v hv⟩
  ·have hv:v=0:=by
    by_cases z:v=0
    ·exact z
    ·exfalso;apply h;simp [z]
   subst hv;walk_at "w"
   have e:(if u < 0 then -u else u)=g a b:=by
    unfold g;rw[<- hg,Int.gcd_zero_right]
    split <;> lia
   rw[e];exact k
theorem Dh:bc ["thing"] ["thing"] (az jY):=by walk_at "d"
theorem Ds (T:Txt K mg Z):cN P w K mg base gJ 2 Z.qO Z.qi ["thing"] (IK K):=by
 refine T.vn.ok Dh (fun vs H Q E h=>?_) (fun cdv A outer s H vs Q E hr h=>?_)
 ·obtain ⟨x,n,rfl,⟨p,rfl,hp⟩,hn,k⟩:=h;rfl
 ·obtain ⟨x,n,rfl,⟨p,rfl,hp⟩,hn,k⟩:=h
  refine ⟨_,(au (dn (PW.pt (uc (kJ (jM (z7 rfl T.isinstance PyProof.Rows.boot_tuple T.tuple (pv 0)))) (nP (bu wC (bR bD (by rfl) T.len bp (ae (pv 0) aj)) av (bJ _))))) (aB (aX rP)) b8)
   (au (dn (PW.pt (uc (kJ (jM (cS (zj T) hr T.uR T.tR.kp T.xn (ae (bF cB (pv 0) av) aj)))) (nP (kJ (jM (cS (zj T) hr T.uR T.tR.kp T.xn (ae (bF cB (pv 0) av) aj))))))) (aB (aX rP)) b8)
   (aB (aX (FP (kL Cm (bF cB (pv 0) av) av (bJ _)) (FN (kL eQ (cS (kO T) hr T.ia T.fX.kp T.jb (ae (bF cB (pv 0) av) (ae (bF cB (pv 0) av) aj))) av (bJ _)))))))),?_⟩
  refine aU (σ:=[some (.ref p)]) rfl ?_;obtain ⟨hb,hg,s1,s2⟩:=hn;walk_at "w";refine .inr ⟨p,_,_,rfl,hp,rfl,?_⟩;walk_at "w";refine ⟨_,_,rfl,.inr hp,?_⟩;walk_at "w"
  try refine M9 ?_
  walk_at "w";refine ⟨n.1,rfl,?_⟩;walk_at "w";refine ⟨n.2,rfl,?_⟩;walk_at "w";rw[decide_eq_true (show (1:Int)<=n.2 by lia)];walk_at "w";refine ⟨n.1,n.2,rfl,?_⟩;walk_at "w";have e:g n.1 n.2=1:=by unfold g;rw[hg];rfl
  rw[e,decide_eq_true rfl];exact k _ (aO.refl _)
theorem IT:bc ["thing","many"] ["thing","many"] (az rN):=by walk_at "d"
theorem Jg (T:Txt K mg Z):cN P w K mg base gJ 3 Z.yn Z.ya ["thing","many"] (Ci K):=by
 refine T.BB.ok IT (fun vs H Q E h=>?_) (fun cdv A outer s H vs Q E hr h=>?_)
 ·obtain ⟨p,ns,rfl,hp,hl,hn,k⟩:=h;rfl
 ·obtain ⟨p,ns,rfl,hp,hl,hn,k⟩:=h
  refine ⟨_,(au (dn (PW.pt (uc (kJ (jM (yN rfl T.isinstance PyProof.Rows.boot_list T.list (pv 0)))) (nP (bu wC (bR bD (by rfl) T.len bp (ae (pv 0) aj)) (pv 1) (bJ _))))) (aB (aX rP)) b8)
   (aB (aX (bR (Bu rfl) (by rfl) T.all PyProof.Rows.boot_all (ae (cP ["value"] [] [] (du (pv 0)) (fun _=>(aR (i:=0) (show List.Nodup (α:=PySem.Str) ["value"] by decide +kernel))) (fun _=>cQ) (fun _=>(cS (Ds T) hr T.xN T.vn.kp T.zy (ae (pv 0) aj)))) aj))))),?_⟩
  refine aU (σ:=[some (.ref p),some (.int ns.length)]) rfl ?_;obtain ⟨xs,gx,qx⟩:=id hp;have lx:=qx.length;walk_at "w";refine ⟨_,_,.lst gx,rfl,?_⟩;walk_at "w";refine ⟨_,_,rfl,.inl (b6.of gx),?_⟩;walk_at "w";rw[show ((xs.length:Nat):Int)=(ns.length:Nat) by rw[lx],decide_eq_true rfl];walk_at "w";refine ⟨⟨_,b6.of gx⟩,?_⟩;refine gW (K:=K) (xs:=xs) (fun i ys H'=>aO H H'/\ys=List.replicate i (.bl true)) (br (bT (by lia))) ⟨aO.refl _,rfl⟩ (fun i ys H' _ ⟨s,_⟩=>b6.of (s _ _ gx)) ?_ ?_
  ·rintro i x ys H' hx hlen ⟨s,rfl⟩;obtain ⟨n,en,z⟩:=cJ qx hx;walk_at "w";exact ⟨x,n,rfl,s.num z,hn n (aA en),fun H2 s2=>⟨s.trans s2,by rw[CZ]⟩⟩
  ·rintro ys H' hy ⟨s,rfl⟩ l hl';walk_at "w";refine ⟨l,List.replicate xs.length true,rfl,b6.of (by rw[aQ];simp),?_⟩;have e4:(List.replicate xs.length true).all id=true:=by simp
   rw[e4];exact k _ (s.trans (aO.new hl'))
theorem pA:bc ["things","wide","place","thing"] ["things","wide"] (az gO):=by walk_at "d"
theorem pF (T:Txt K mg Z):cN P w K mg base gJ 4 Z.mW Z.mJ ["things","wide"] (Md K):=by
 refine T.jB.ok pA (fun vs H Q E h=>?_) (fun cdv A outer s H vs Q E hr h=>?_)
 ·obtain ⟨p,H0,rows,w,rfl,hp,hl,hw,hn,k⟩:=h;rfl
 ·obtain ⟨p,H0,rows,w,rfl,hp,hl,hw,hn,k⟩:=h
  refine ⟨_,(au (eE PassesOwn.never rfl (MV rfl T.enumerate (ae (pv 0) aj)) (sL rfl (cx (aR (i:=2) pA.nd) (cx (aR (i:=3) pA.nd) h9)))
    (aB (dn (kJ (jM (cS (Jg T) hr T.Cq T.BB.kp T.EW (ae (pv 3) (ae (pv 1) aj))))) (aB Kv) b8)))
   (aB (aX (cP ["row"] [] [] (du (pv 0)) (fun _=>(aR (i:=0) (show List.Nodup (α:=PySem.Str) ["row"] by decide +kernel))) (fun _=>cQ) (fun _=>(fV (mP K (by rfl)) (by rfl) T.list PyProof.Rows.boot_list (ae (pv 0) aj))))))),?_⟩
  refine aU (σ:=[some (.ref p),some (.int w),none,none]) rfl ?_;obtain ⟨xs,gx,qx,_⟩:=id hp;walk_at "w";refine ⟨⟨_,b6.of gx⟩,?_⟩;refine Lk (K:=K) (l:=p) (xs:=xs) (fun i σ' H'=>aO H H'/\∃x y,σ'=[some (.ref p),some (.int w),x,y]) ⟨aO.refl _,none,none,rfl⟩ (fun i σ' H' _ ⟨s,_⟩=>b6.of (s _ _ gx)) ?_ ?_
  ·rintro i x σ' H' t hx ⟨s,x1,y1,rfl⟩ ht;obtain ⟨qs,eq,q,rfl,_,Rq⟩:=cJ qx hx;have hm:=aA eq;have st:aO H' (upd H' t (.tup [.int i,.ref q])):=aO.new ht;have gt:(upd H' t (.tup [.int i,.ref q])) t=some (.tup [.int i,.ref q]):=aQ;have s2:=s.trans st;generalize upd H' t (.tup [.int i,.ref q])=H2 at st gt s2 ⊢;have lq:(qs.map nm).length=w:=by rw[ak];exact (hn qs hm).1
   walk_at "w";refine ⟨q,_,by rw[lq],(Rq.same s2).rowK,by rw[lq];exact hw,fun n hn'=>?_,fun H3 s3=>?_⟩
   ·obtain ⟨y,hy,rfl⟩:=aE.mp hn';exact (hn qs hm).2 y hy
   walk_at "w";exact ⟨s2.trans s3,_,_,rfl⟩
  ·rintro σ' H' ⟨s,x1,y1,rfl⟩;walk_at "w";refine ⟨⟨_,b6.of (s _ _ gx)⟩,?_⟩;refine gV (K:=K) (F:=cZ K H0) (cZ K H) id (s _ _ gx) (Paired.imp' (fun _ _ z=>z.same s) qx) hl (fun a b=>a.same b) (fun a b=>a.same b) ?_ ?_
   ·rintro i ns x H2 NY NN en s2 ⟨u,rfl,_,zs,gz,qz⟩ k1;walk_at "w";refine ⟨u,zs,rfl,.inl (b6.of gz),fun l1 hl1=>?_⟩;exact k1 _ _ (aO.new hl1) ⟨l1,rfl,s.none (s2.none hl1),zs,aQ,Paired.imp' (fun _ _ z=>z.same (aO.new hl1)) qz⟩
   ·rintro ys' H2 r hr s2 g pr nx;rw[yu] at pr nx;exact k r H2 (s.none hr) (s.trans s2) ⟨ys',g,pr,nV nx⟩
theorem xa:bc ["self","move","put","look"] ["self","move","put","look"] (az eC):=by walk_at "d"
theorem pH (T:Txt K mg Z):cN P w K mg base gJ 5 Z.ik Z.ie ["self","move","put","look"] (L9 K Z.a_System):=by
 refine T.qY.ok xa (fun vs H Q E h=>?_) (fun cdv A outer s H vs Q E hr h=>?_)
 ·obtain ⟨x,dx,p,q,r,Hb,H0,H1,H2,mv,pt,lk,rfl,nx,ndx,nex,rfl,gp,gq,gr,D,om,op,ol,k⟩:=h;rfl
 ·obtain ⟨x,dx,p,q,r,Hb,H0,H1,H2,mv,pt,lk,rfl,nx,ndx,nex,rfl,gp,gq,gr,D,om,op,ol,k⟩:=h
  refine ⟨_,(au (kK (cS (sN T) hr T.oi T.nJ.kp T.qH (ae (pv 1) (ae av (ae (xF (v:=.int 8) rfl T.mg_MOST_STATES ⟨_,rfl⟩) aj)))))
   (au (yI (pv 0) (cS (pF T) hr T.kR T.jB.kp T.mQ (ae (pv 1) (ae (bR bD (by rfl) T.len bp (ae (pv 1) aj)) aj))) rfl)
   (au (yI (pv 0) (bR bD (by rfl) T.len bp (ae (gB (pv 0) rfl) aj)) rfl)
   (au (kK (cS (sN T) hr T.oi T.nJ.kp T.qH (ae (pv 2) (ae av (ae (xF (v:=.int 4) rfl T.mg_MOST_PUTS ⟨_,rfl⟩) aj)))))
   (au (yI (pv 0) (cS (pF T) hr T.kR T.jB.kp T.mQ (ae (pv 2) (ae (gB (pv 0) rfl) aj))) rfl)
   (au (yI (pv 0) (bR bD (by rfl) T.len bp (ae (gB (pv 0) rfl) aj)) rfl)
   (au (kK (cS (sN T) hr T.oi T.nJ.kp T.qH (ae (pv 3) (ae av (ae (xF (v:=.int 4) rfl T.mg_MOST_LOOKS ⟨_,rfl⟩) aj)))))
   (au (yI (pv 0) (cS (pF T) hr T.kR T.jB.kp T.mQ (ae (pv 3) (ae (gB (pv 0) rfl) aj))) rfl)
   (aB (yI (pv 0) (bR bD (by rfl) T.len bp (ae (gB (pv 0) rfl) aj)) rfl)))))))))),?_⟩
  refine aU (σ:=[some (.ref x),some (.ref p),some (.ref q),some (.ref r)]) rfl ?_
  have s0:aO Hb (upd (upd Hb dx (.own x)) x (.ins Z.a_System dx [])):=fun b o e=>by
   rw[bA (fJ e nx),bA (fJ e ndx)];exact e
  have hx:(upd (upd Hb dx (.own x)) x (.ins Z.a_System dx [])) x=some (.ins Z.a_System dx []):=aQ;have back:∀{b},(upd (upd Hb dx (.own x)) x (.ins Z.a_System dx [])) b=none->Hb b=none:=fun h=>s0.none h
  generalize upd (upd Hb dx (.own x)) x (.ins Z.a_System dx [])=Ha at s0 hx back ⊢;obtain ⟨xs,gx,qx,_⟩:=id gp;obtain ⟨ys,gy,qy,_⟩:=id gq;obtain ⟨zs,gz,qz,_⟩:=id gr;have lx:=qx.length;have ly:=qy.length;have lz:=qz.length;have d1:=D.n8;have d2:=D.i4;have d3:=D.o4;walk_at "w";refine ⟨p,xs,0,8,rfl,s0 _ _ gx,by lia,?_⟩;walk_at "w";refine ⟨_,_,rfl,.inl (b6.of (s0 _ _ gx)),?_⟩;walk_at "w";refine ⟨p,H0,mv,mv.length,by rw[lx],gp.same s0,by lia,by lia,fun ws hw=>⟨D.mw ws hw,om ws hw⟩,fun a H3 na s3 Ga=>?_⟩;have hx3:=s3 _ _ hx;walk_at "w";refine ⟨x,Z.a_System,dx,_,rfl,hx3,T.cl_System,T.na_move,(by show 0 < 1000;decide),?_⟩;have e3:D7 x H3 (upd H3 x (.ins Z.a_System dx (cz "move" (.ref a) []))):=D7.upd;have i3:wX H3 x:=⟨_,_,_,hx3⟩;have hx4:(upd H3 x (.ins Z.a_System dx (cz "move" (.ref a) []))) x=some (.ins Z.a_System dx (cz "move" (.ref a) [])):=aQ;have Ga4:=Ga.exc e3 i3;have k4:aO Hb (upd H3 x (.ins Z.a_System dx (cz "move" (.ref a) []))):=(s0.trans s3).after nx;generalize upd H3 x (.ins Z.a_System dx (cz "move" (.ref a) []))=H4 at e3 hx4 Ga4 k4 ⊢;walk_at "w";refine ⟨x,Z.a_System,dx,_,_,rfl,hx4,T.cl_System,T.na_move,(by rw[bB,if_pos rfl]),?_⟩;obtain ⟨as,ga,qa,_⟩:=id Ga4;have la:=qa.length;walk_at "w";refine ⟨_,_,rfl,.inl (b6.of ga),?_⟩;walk_at "w";refine ⟨x,Z.a_System,dx,_,rfl,hx4,T.cl_System,T.na_states,bC eH (by show 1 < 1000;decide),?_⟩;rw[show ((as.length:Nat):Int)=((mv.length:Nat):Int) by rw[la]];have e4:D7 x H4 (upd H4 x (.ins Z.a_System dx (cz "states" (.int mv.length) (cz "move" (.ref a) [])))):=D7.upd;have i4:wX H4 x:=⟨_,_,_,hx4⟩;have hx5:(upd H4 x (.ins Z.a_System dx (cz "states" (.int mv.length) (cz "move" (.ref a) [])))) x=some (.ins Z.a_System dx (cz "states" (.int mv.length) (cz "move" (.ref a) []))):=aQ;have Ga5:=Ga4.exc e4 i4;have k5:aO Hb (upd H4 x (.ins Z.a_System dx (cz "states" (.int mv.length) (cz "move" (.ref a) [])))):=k4.after nx;generalize upd H4 x (.ins Z.a_System dx (cz "states" (.int mv.length) (cz "move" (.ref a) [])))=H5 at e4 hx5 Ga5 k5 ⊢;clear e3 e4 i3 i4 hx4 Ga4 ga qa;walk_at "w";refine ⟨q,ys,1,4,rfl,k5 _ _ gy,by lia,?_⟩;walk_at "w";refine ⟨x,Z.a_System,dx,_,_,rfl,hx5,T.cl_System,T.na_states,(by rw[bB,if_pos rfl]),?_⟩;walk_at "w";refine ⟨q,H1,pt,mv.length,rfl,gq.same k5,by lia,by lia,fun ws hw=>⟨D.pw ws hw,op ws hw⟩,fun b H6 nb s6 Gb=>?_⟩;have hx6:=s6 _ _ hx5;have i6:wX H6 x:=⟨_,_,_,hx6⟩;walk_at "w";refine ⟨x,Z.a_System,dx,_,rfl,hx6,T.cl_System,T.na_put,bC eH (bC (dW eH) (by show 2 < 1000;decide)),?_⟩;have e6:D7 x H6 (upd H6 x (.ins Z.a_System dx (cz "put" (.ref b) (cz "states" (.int mv.length) (cz "move" (.ref a) []))))):=D7.upd;have hx7:(upd H6 x (.ins Z.a_System dx (cz "put" (.ref b) (cz "states" (.int mv.length) (cz "move" (.ref a) []))))) x=some (.ins Z.a_System dx (cz "put" (.ref b) (cz "states" (.int mv.length) (cz "move" (.ref a) [])))):=aQ;have Ga7:=(Ga5.same s6).exc e6 i6;have Gb7:=(Gb.weak k5).exc e6 i6;have k7:aO Hb (upd H6 x (.ins Z.a_System dx (cz "put" (.ref b) (cz "states" (.int mv.length) (cz "move" (.ref a) []))))):=(k5.trans s6).after nx;generalize upd H6 x (.ins Z.a_System dx (cz "put" (.ref b) (cz "states" (.int mv.length) (cz "move" (.ref a) []))))=H7 at e6 hx7 Ga7 Gb7 k7 ⊢;obtain ⟨bs,gb,qb,_⟩:=id Gb7;have lb:=qb.length;walk_at "w";refine ⟨x,Z.a_System,dx,_,_,rfl,hx7,T.cl_System,T.na_put,(by rw[bB,if_pos rfl]),?_⟩;walk_at "w";refine ⟨_,_,rfl,.inl (b6.of gb),?_⟩;walk_at "w";refine ⟨x,Z.a_System,dx,_,rfl,hx7,T.cl_System,T.na_ins,bC eH (bC (dW (ah eH (dW eH))) (by show 3 < 1000;decide)),?_⟩;rw[show ((bs.length:Nat):Int)=((pt.length:Nat):Int) by rw[lb]];have i7:wX H7 x:=⟨_,_,_,hx7⟩;have e7:D7 x H7 (upd H7 x (.ins Z.a_System dx (cz "ins" (.int pt.length) (cz "put" (.ref b) (cz "states" (.int mv.length) (cz "move" (.ref a) [])))))):=D7.upd;have hx8:(upd H7 x (.ins Z.a_System dx (cz "ins" (.int pt.length) (cz "put" (.ref b) (cz "states" (.int mv.length) (cz "move" (.ref a) [])))))) x=some (.ins Z.a_System dx (cz "ins" (.int pt.length) (cz "put" (.ref b) (cz "states" (.int mv.length) (cz "move" (.ref a) []))))):=aQ;have Ga8:=Ga7.exc e7 i7;have Gb8:=Gb7.exc e7 i7;have k8:aO Hb (upd H7 x (.ins Z.a_System dx (cz "ins" (.int pt.length) (cz "put" (.ref b) (cz "states" (.int mv.length) (cz "move" (.ref a) [])))))):=k7.after nx;generalize upd H7 x (.ins Z.a_System dx (cz "ins" (.int pt.length) (cz "put" (.ref b) (cz "states" (.int mv.length) (cz "move" (.ref a) [])))))=H8 at e7 hx8 Ga8 Gb8 k8 ⊢;clear e6 e7 i6 i7 hx7 Ga7 Gb7 gb qb;walk_at "w";refine ⟨r,zs,2,4,rfl,k8 _ _ gz,by lia,?_⟩;walk_at "w";refine ⟨x,Z.a_System,dx,_,_,rfl,hx8,T.cl_System,T.na_states,(by rw[bB,if_neg (by decide +kernel),bB,if_neg (by decide +kernel),bB,if_pos rfl]),?_⟩;walk_at "w";refine ⟨r,H2,lk,mv.length,rfl,gr.same k8,by lia,by lia,fun ws hw=>⟨D.lw ws hw,ol ws hw⟩,fun c H9 nc s9 Gc=>?_⟩;have hx9:=s9 _ _ hx8;have i9:wX H9 x:=⟨_,_,_,hx9⟩;walk_at "w";refine ⟨x,Z.a_System,dx,_,rfl,hx9,T.cl_System,T.na_look,bC eH (bC (dW (ah eH (dW (ah eH (dW eH))))) (by show 4 < 1000;decide)),?_⟩;have e9:D7 x H9 (upd H9 x (.ins Z.a_System dx (cz "look" (.ref c) (cz "ins" (.int pt.length) (cz "put" (.ref b) (cz "states" (.int mv.length) (cz "move" (.ref a) []))))))):=D7.upd;have hxA:(upd H9 x (.ins Z.a_System dx (cz "look" (.ref c) (cz "ins" (.int pt.length) (cz "put" (.ref b) (cz "states" (.int mv.length) (cz "move" (.ref a) []))))))) x=some (.ins Z.a_System dx (cz "look" (.ref c) (cz "ins" (.int pt.length) (cz "put" (.ref b) (cz "states" (.int mv.length) (cz "move" (.ref a) [])))))):=aQ;have GaA:=(Ga8.same s9).exc e9 i9;have GbA:=(Gb8.same s9).exc e9 i9;have GcA:=(Gc.weak k8).exc e9 i9;have kA:aO Hb (upd H9 x (.ins Z.a_System dx (cz "look" (.ref c) (cz "ins" (.int pt.length) (cz "put" (.ref b) (cz "states" (.int mv.length) (cz "move" (.ref a) []))))))):=(k8.trans s9).after nx;generalize upd H9 x (.ins Z.a_System dx (cz "look" (.ref c) (cz "ins" (.int pt.length) (cz "put" (.ref b) (cz "states" (.int mv.length) (cz "move" (.ref a) []))))))=HA at e9 hxA GaA GbA GcA kA ⊢;obtain ⟨cs,gc,qc,_⟩:=id GcA;have lc:=qc.length;walk_at "w";refine ⟨x,Z.a_System,dx,_,_,rfl,hxA,T.cl_System,T.na_look,(by rw[bB,if_pos rfl]),?_⟩;walk_at "w";refine ⟨_,_,rfl,.inl (b6.of gc),?_⟩;walk_at "w";refine ⟨x,Z.a_System,dx,_,rfl,hxA,T.cl_System,T.na_outs,bC eH (bC (dW (ah eH (dW (ah eH (dW (ah eH (dW eH))))))) (by show 5 < 1000;decide)),?_⟩;rw[show ((cs.length:Nat):Int)=((lk.length:Nat):Int) by rw[lc]];have iA:wX HA x:=⟨_,_,_,hxA⟩;exact k _ (kA.after nx) ⟨dx,a,b,c,aQ,back na,k5.none nb,k8.none nc,(GaA.exc D7.upd iA).weak s0,GbA.exc D7.upd iA,GcA.exc D7.upd iA⟩
theorem AJ:bc ["_law_grid"] ["_law_grid"] (az gU):=by walk_at "d"
theorem pG (T:Txt K mg Z):cN P w K mg base gJ 1 Z.m4 Z.mN ["_law_grid"] (Fz K):=by
 refine T.jC.ok AJ (fun vs H Q E h=>?_) (fun cdv A outer s H vs Q E hr h=>?_)
 ·obtain ⟨p,H0,rows,rfl,hp,hl,hm,k⟩:=h;rfl
 ·obtain ⟨p,H0,rows,rfl,hp,hl,hm,k⟩:=h;refine ⟨_,(aB (aX (cP ["_law_row_here"] [] [] (du (pv 0)) (fun _=>(aR (i:=0) (show List.Nodup (α:=PySem.Str) ["_law_row_here"] by decide +kernel))) (fun _=>cQ) (fun _=>(fV (mP K (by rfl)) (by rfl) T.list PyProof.Rows.boot_list (ae (pv 0) aj)))))),?_⟩;refine aU (σ:=[some (.ref p)]) rfl ?_;obtain ⟨xs,gx,qx,_⟩:=id hp;walk_at "w";refine ⟨⟨_,b6.of gx⟩,?_⟩;refine gV (K:=K) (F:=cZ K H0) (cZ K H) id gx qx hl (fun a b=>a.same b) (fun a b=>a.same b) ?_ ?_
  ·rintro i ns x H' NY NN en s ⟨u,rfl,_,zs,gz,qz⟩ k1;walk_at "w";refine ⟨u,zs,rfl,.inl (b6.of gz),fun l1 hl1=>?_⟩;exact k1 _ _ (aO.new hl1) ⟨l1,rfl,s.none hl1,zs,aQ,Paired.imp' (fun _ _ z=>z.same (aO.new hl1)) qz⟩
  ·rintro ys' H' r hr s g pr nx;rw[yu] at pr nx;exact k r H' hr s ⟨ys',g,pr,nV nx⟩
theorem kG:bc ["_law_parts_here","_law_move_here","_law_put","_law_look"] ["_law_parts_here"] (az gP):=by walk_at "d"
theorem A3 (T:Txt K mg Z):cN P w K mg base gJ 7 Z.mX Z.mK ["_law_parts_here"] (Fq K Z.a_System):=by
 refine T.rG.ok kG (fun vs H Q E h=>?_) (fun cdv A outer s H vs Q E hr h=>?_)
 ·obtain ⟨r,H0,mv,pt,lk,rfl,PQ,D,F,k⟩:=h;rfl
 ·obtain ⟨r,H0,mv,pt,lk,rfl,PQ,D,F,k⟩:=h
  refine ⟨_,(au (fu (pv 0) (sL rfl (cx (aR (i:=1) kG.nd) (cx (aR (i:=2) kG.nd) (cx (aR (i:=3) kG.nd) h9)))))
   (aB (aX (HC T.mk_System (pH T) (hr.mono (by decide)) rfl T.mg_System T.lC .nil Ex (ae (cS (pG T) hr T.kU T.jC.kp T.mR (ae (pv 1) aj)) (ae (cS (pG T) hr T.kU T.jC.kp T.mR (ae (pv 2) aj)) (ae (cS (pG T) hr T.kU T.jC.kp T.mR (ae (pv 3) aj)) aj))))))),?_⟩
  refine aU (σ:=[some (.ref r),none,none,none]) rfl ?_;obtain ⟨m,p,l,g,n1,n2,n3,Gm,Gp,Gl⟩:=id PQ;have d1:=D.n8;have d2:=D.i4;have d3:=D.o4;walk_at "w";refine ⟨m,H0,mv,rfl,Gm,by lia,fun xs hx=>by rw[D.mw xs hx];lia,fun a H1 na s1 Ga=>?_⟩;walk_at "w";refine ⟨p,H0,pt,rfl,Gp.same s1,by lia,fun xs hx=>by rw[D.pw xs hx];lia,fun b H2 nb s2 Gb=>?_⟩;have s12:=s1.trans s2;walk_at "w";refine ⟨l,H0,lk,rfl,Gl.same s12,by lia,fun xs hx=>by rw[D.lw xs hx];lia,fun c H3 nc s3 Gc=>?_⟩;have s13:=s12.trans s3;walk_at "w";intro x dx nx ndx nex;exact ⟨x,dx,a,b,c,H3,H,H1,H2,mv,pt,lk,rfl,nx,ndx,nex,rfl,(Ga.same s2).same s3,Gb.same s3,Gc,D,F.ok.1,F.ok.2.1,F.ok.2.2,fun H' s' S'=>⟨rfl,k x H' (s13.none nx) (s13.trans s') (S'.weak s13)⟩⟩
theorem BN:bc ["_law_bag_here","_law_n","_law_wide"] ["_law_bag_here","_law_n","_law_wide"] (az iO):=by walk_at "d"
theorem BR (T:Txt K mg Z):cN P w K mg base gJ 2 Z.oI Z.ow ["_law_bag_here","_law_n","_law_wide"] Fs:=by
 refine T.tU.ok BN (fun vs H Q E h=>?_) (fun cdv A outer s H vs Q E hr h=>?_)
 ·obtain ⟨b,n,w,rfl,hB,n8,k⟩:=h;rfl
 ·obtain ⟨b,n,w,rfl,hB,n8,k⟩:=h
  refine ⟨_,(au (dn (bu wF (pv 2) av (bJ _)) (aB (aX (cS (bL T) hr T.bw T.bH.kp T.bK (ae (pv 0) (ae av aj))))) b8)
   (au (dn (bu wF (pv 1) av (bJ _)) (aB (aX (cS (bL T) hr T.bw T.bH.kp T.bK (ae (pv 0) (ae av aj))))) b8)
   (au (dn (bu wF (pv 1) av (bJ _)) (aB (aX (bF cg (fv (ae (cS (bL T) hr T.bw T.bH.kp T.bK (ae (pv 0) (ae av aj))) (ae (pv 1) aj))) (cS (bL T) hr T.bw T.bH.kp T.bK (ae (pv 0) (ae av aj)))))) b8)
   (au (dn (PW.pt (iw (bu wD (pv 1) av (bJ _)) (iV (bu eQ (cS (bL T) hr T.bw T.bH.kp T.bK (ae (pv 0) (ae av aj))) av (bJ _))))) (aB (aX (cS (bL T) hr T.bw T.bH.kp T.bK (ae (pv 0) (ae av aj))))) b8)
   (aB (aX (cS (bL T) hr T.bw T.bH.kp T.bK (ae (pv 0) (ae av aj))))))))),?_⟩
  refine aU (σ:=[some (.ref b),some (.int n),some (.int w)]) rfl ?_;walk_at "w";refine iX (fun h0=>?_) (fun h0=>?_)
  ·have h0:=of_decide_eq_true h0;walk_at "w";refine ⟨b,4,rfl,hB,by decide,by decide,fun v H1 v0 v1 B1 u1=>?_⟩;obtain ⟨v,rfl⟩:=cL v0;exact k v H1 ⟨by lia,fun _=>by lia,fun _ _=>by lia,fun _=>by lia⟩ B1 u1
  have h0:¬((9:Int) < w):=fun z=>h0 (decide_eq_true z)
  walk_at "w";refine iX (fun h1=>?_) (fun h1=>?_)
  ·have h1:=of_decide_eq_true h1;walk_at "w";refine ⟨b,13,rfl,hB,by decide,by decide,fun v H1 v0 v1 B1 u1=>?_⟩;obtain ⟨v,rfl⟩:=cL v0;exact k v H1 ⟨by lia,fun _=>by lia,fun _ _=>by lia,fun _=>by lia⟩ B1 u1
  have h1:¬((5:Int) < n):=fun z=>h1 (decide_eq_true z)
  walk_at "w";refine iX (fun h2=>?_) (fun h2=>?_)
  ·have h2:=of_decide_eq_true h2;walk_at "w";refine ⟨b,5,rfl,hB,by decide,by decide,fun v H1 v0 v1 B1 u1=>?_⟩;obtain ⟨v,rfl⟩:=cL v0;walk_at "w";refine d6 fun l H2 s2 n2 g2=>?_
   walk_at "w";refine ⟨b,2,rfl,B1.same s2,by decide,by decide,fun c H3 c0 c1 B3 u3=>?_⟩;have g3:=u3.other (fun z=>B1.at (by rw[<- z];exact n2)) g2;obtain ⟨x,ex,mx,_⟩:=sA (xs:=[V.int v,V.int n]) c0 (by simpa using c1);refine cG (b6.of g3) ex ?_;have u03:=(u1.same s2).trans u3;simp only[aJ,bo,or_false] at mx;rcases mx with rfl | rfl
   ·exact k v H3 ⟨by lia,fun _=>by lia,fun _ _=>by lia,fun _=>by lia⟩ B3 u03
   ·exact k n H3 ⟨by lia,fun _=>by lia,fun _ _=>by lia,fun _=>by lia⟩ B3 u03
  have h2:¬((3:Int) < n):=fun z=>h2 (decide_eq_true z)
  walk_at "w";refine iX (fun h3=>?_) (fun h3=>?_)
  ·have h3:=of_decide_eq_true h3;walk_at "w";refine ⟨b,4,rfl,hB,by decide,by decide,fun c H1 c0 c1 B1 u1=>?_⟩;walk_at "w";refine iX (fun h4=>?_) (fun h4=>?_)
   ·walk_at "w";refine ⟨b,13,rfl,B1,by decide,by decide,fun v H2 v0 v1 B2 u2=>?_⟩;obtain ⟨v,rfl⟩:=cL v0;exact k v H2 ⟨by lia,fun _=>by lia,fun _ _=>by lia,fun _=>by lia⟩ B2 (u1.trans u2)
   ·walk_at "w";refine ⟨b,7,rfl,B1,by decide,by decide,fun v H2 v0 v1 B2 u2=>?_⟩;obtain ⟨v,rfl⟩:=cL v0;exact k v H2 ⟨by lia,fun _=>by lia,fun _ _=>by lia,fun _=>by lia⟩ B2 (u1.trans u2)
  ·walk_at "w";refine ⟨b,7,rfl,hB,by decide,by decide,fun v H2 v0 v1 B2 u2=>?_⟩;obtain ⟨v,rfl⟩:=cL v0;exact k v H2 ⟨by lia,fun _=>by lia,fun _ _=>by lia,fun _=>by lia⟩ B2 u2
theorem zK:bc ["_law_many"] ["_law_many"] (az fQ):=by walk_at "d"
theorem ue (T:Txt K mg Z):cN P w K mg base gJ 1 Z.lD Z.kY ["_law_many"] (Eh K):=by
 refine T.lK.ok zK (fun vs H Q E h=>?_) (fun cdv A outer s H vs Q E hr h=>?_)
 ·obtain ⟨n,rfl,n100,k⟩:=h;rfl
 ·obtain ⟨n,rfl,n100,k⟩:=h;refine ⟨_,(aB (aX (bW O6 (fv (ae (dA (ae av (ae av aj))) aj)) (pv 0)))),?_⟩;refine aU (σ:=[some (.int n)]) rfl ?_;walk_at "w";refine cE fun t0 Hc sc gc=>?_
  walk_at "w";refine d6 fun l0 Hd sd nd gd=>?_
  walk_at "w";refine OI gd (by lia) fun tot He se ne ge=>?_
  have sce:=sd.trans se;exact k tot He (sc.none (sd.none ne)) (sc.trans sce) ⟨_,ge,AY (cF.mk (q:=0) (sce _ _ gc) rfl) n⟩
theorem h8:bc ["_law_bag_here","_law_rows","_law_n","_law_wide","_law_total","_law_row_here"] ["_law_bag_here","_law_rows","_law_n","_law_wide"] (az eY):=by walk_at "d"
theorem xK (T:Txt K mg Z):cN P w K mg base gJ 4 Z.jf Z.i8 ["_law_bag_here","_law_rows","_law_n","_law_wide"] (Me K):=by
 refine T.mo.ok h8 (fun vs H Q E h=>?_) (fun cdv A outer s H vs Q E hr h=>?_)
 ·obtain ⟨b,p,n,w,M,d,j,H0,rows,rfl,hB,nb,pb,G,r100,n8,hw,w1,ww,M0,M1,dj,fr,k⟩:=h;rfl
 ·obtain ⟨b,p,n,w,M,d,j,H0,rows,rfl,hB,nb,pb,G,r100,n8,hw,w1,ww,M0,M1,dj,fr,k⟩:=h
  refine ⟨_,(au (dn (bu eQ (cS (bL T) hr T.bw T.bH.kp T.bK (ae (pv 0) (ae av aj))) av (bJ _)) (aB (aX (cS (nD T) hr T.iC T.iF.kp T.jP (ae (pv 0) (ae (pv 2) (ae (pv 3) aj)))))) b8)
   (au (bg (i:=4) h8.nd rfl (Or.inl rfl) (cS (ue T) hr T.nR T.lK.kp T.pO (ae (pv 2) aj)))
   (au (eE PassesOwn.never rfl (du (pv 1)) (aR (i:=5) h8.nd)
    (aB (bg (i:=4) h8.nd rfl (Or.inl rfl) (cS (oh T) hr T.kT T.kz.kp T.nG (ae (pv 4) (ae (cS (xi T) hr T.sQ T.sD.kp T.vR (ae (cS (uN T) hr T.pL T.m6.kp T.rC (ae (pv 0) (ae (bR (rW rfl) (by rfl) T.min PyProof.Rows.boot_min (ae (pv 3) (ae av aj))) aj))) (ae (pv 5) aj))) aj))))))
   (aB (aX (pv 4)))))),?_⟩
  refine aU (σ:=[some (.ref b),some (.ref p),some (.int n),some (.int w),none,none]) rfl ?_;walk_at "w";refine ⟨b,2,rfl,hB,by decide,by decide,fun v H1 v0 v1 B1 u1=>?_⟩;walk_at "w";refine iX (fun h=>?_) (fun h=>?_)
  ·walk_at "w";refine ⟨b,n,w,rfl,B1,by lia,w1,by lia,fun q xs H2 nq R2 l2 d2 B2 u2=>?_⟩;exact k q xs H2 (u1.none B1 nq) R2 l2 (LG d2 (by rw[l2];exact ww)) B2 (u1.trans u2)
  have G1:=G.upto u1 hB pb nb;obtain ⟨rs,gr,qr,_⟩:=id G1;have lr:=qr.length;walk_at "w";refine ⟨n,rfl,by lia,fun t0 H2 n2 s2 R2=>?_⟩;have B2:=B1.same s2;have u02:=u1.same s2;walk_at "w";refine ⟨⟨_,b6.of (s2 _ _ gr)⟩,?_⟩;refine kX (K:=K) (a:=p) (xs:=rs) (fun i σ' H'=>jo H' b/\dc b H H'/\dc b H1 H'/\∃tot y as,σ'=[some (.ref b),some (.ref p),some (.int n),some (.int w),some (.ref tot),y]/\H tot=none/\cK K H' tot as/\as.length=n/\∀z∈as,Fr (2520*M) (i*(9*2^j)) z) ⟨B2,u02,s2.upto,t0,_,_,rfl,u1.none B1 n2,R2,aF ..,fun z hz=>by rw[nY hz];exact Fr.zero⟩ (fun i σ' H' _ ⟨_,_,u,_⟩=>b6.of (u.other pb gr)) ?_ ?_
  ·rintro i v' σ' H' hv ⟨B',u',u1',tot,y,as,rfl,nt,Rt,lt,ft⟩;obtain ⟨xs,ex,q,rfl,nq,Rq⟩:=cJ qr hv;have hi:i < rows.length:=(aI.mp ex).1;have mx:=aA ex;have wx:=hw xs mx;have qb:q≠b:=fun z=>nb (by rw[<- z];exact nq)
   have tb:tot≠b:=fun z=>hB.at (by rw[<- z];exact nt)
   have Mb:2520*M<=2^(12+d):=by rw[aK];exact aD (by decide) M1
   have Vb:∀i,i<=101->i*(9*2^j)<=2^(10+j):=fun i hi=>by
    rw[<- bP,aK];exact aw _ (by lia)
   have sza:∀z∈as,pQ z:=fun z hz=>jO (by lia) Mb (Vb i (by lia)) (by lia) (ft z hz)
   have szx:∀z∈xs,pQ z:=fun z hz=>jO M0 M1 (ar _) (by lia) (fr xs mx z hz)
   walk_at "w";rw[show (if 9 < (w:Int) then (9:Int) else (w:Int))=((min w 9:Nat):Int) by split <;> lia];refine ⟨b,min w 9,rfl,B',by lia,by lia,fun r y' H4 dy ny B4 u4=>?_⟩;have dy9:Dr 9 y':=⟨ah dy.1 (by lia),ah dy.2 (by lia)⟩;have fy:Fr 2520 9 y':=DL dy9 (An _);have szy:pQ y':=jO (by decide) (show 2520<=2^12 by decide) (show 9<=2^4 by decide) (by decide) fy
   have fp:∀z∈xs.map (fun z=>y'*z),Fr (2520*M) (9*2^j) z:=fun z hz=>by
    obtain ⟨z',hz',rfl⟩:=aE.mp hz;exact fy.mul (fr xs mx z' hz')
   have szp:∀z∈xs.map (fun z=>y'*z),pQ z:=fun z hz=>jO (by lia) Mb (Vb 1 (by lia)) (by lia) (by rw[pT];exact fp z hz)
   walk_at "w";refine ⟨_,q,y',xs,rfl,ny,szy,(Rq.upto u1' B1 qb).upto u4 B' qb,by lia,szx,fun r3 H5 n3 s5 R3=>?_⟩;walk_at "w";refine ⟨tot,r3,_,_,rfl,(Rt.upto u4 B' tb).same s5,R3,by rw[ak];lia,by lia,sza,szp,fun r4 H6 n4 s6 R4=>?_⟩;have u46:=u4.same (s5.trans s6);refine ⟨B4.same (s5.trans s6),u'.trans u46,u1'.trans u46,r4,_,_,rfl,u'.none B' (u4.none B4 (s5.none n4)),R4,by rw[bx,ak];lia,fun z hz=>?_⟩;obtain ⟨c,hc,rfl⟩:=b9 hz;rw[fq,show (i+1)*(9*2^j)=i*(9*2^j)+9*2^j from df ..];exact (ft _ (aL ..)).add (fp _ (aL ..))
  ·rintro σ' H' ⟨B',u',_,tot,y,as,rfl,nt,Rt,lt,ft⟩;walk_at "w";refine k tot as H' nt Rt lt ⟨2520*M,by lia,?_,fun z hz=>(ft z hz).mono ?_⟩ B' u'
   ·rw[show d+22=22+d by lia,aK];exact aD (by decide) M1
   ·rw[<- bP,show j+22=22+j by lia,aK];exact aw _ (by lia)
theorem pZ:bc ["_law_one","_law_other","_law_total","_law_k"] ["_law_one","_law_other"] (az lY):=by walk_at "d"
theorem kh (T:Txt K mg Z):cN P w K mg base gJ 3 Z.tL Z.tm ["_law_one","_law_other"] (Hq K):=by
 refine T.iH.ok pZ (fun vs H Q E h=>?_) (fun cdv A outer s H vs Q E hr h=>?_)
 ·obtain ⟨p,q,xs,ys,rfl,hp,hq,hl,hz,⟨k1,j1,k2,j2,h1,h2,hkj⟩,kk⟩:=h;rfl
 ·obtain ⟨p,q,xs,ys,rfl,hp,hq,hl,hz,⟨k1,j1,k2,j2,h1,h2,hkj⟩,kk⟩:=h
  refine ⟨_,(au (bg (i:=2) pZ.nd rfl (Or.inl rfl) (dA (ae av (ae av aj))))
   (au (eE PassesOwn.never rfl (cy rfl T.range (ae (bR bD (by rfl) T.len bp (ae (pv 0) aj)) aj)) (aR (i:=3) pZ.nd)
    (aB (bg (i:=2) pZ.nd rfl (Or.inl rfl) (cS (nC T) hr T.kj T.jS.kp T.mf (ae (pv 2) (ae (cS (og T) hr T.kS T.ky.kp T.nF (ae (bF cg (pv 0) (pv 3)) (ae (bF cg (pv 1) (pv 3)) aj))) aj))))))
   (aB (aX (pv 2))))),?_⟩
  refine aU (σ:=[some (.ref p),some (.ref q),none,none]) rfl ?_;obtain ⟨us,gu,qu⟩:=id hp;obtain ⟨ws,gw,qw⟩:=id hq;have lu:=qu.length;have lw:=qw.length;walk_at "w";refine cE fun r0 H0 s0 g0=>?_
  walk_at "w";refine ⟨_,_,rfl,.inl (b6.of (s0 _ _ gu)),?_⟩;walk_at "w";refine ⟨by lia,by lia,?_⟩;refine dU (n:=us.length) (fun i σ' H'=>aO H H'/\∃(r:V) (v:Option V),σ'=[some (.ref p),some (.ref q),some r,v]/\cF K H' (b7 (xs.take i) (ys.take i)) r) ⟨s0,_,none,rfl,cF.mk g0 rfl⟩ ?_ ?_
  ·rintro i σ' H' hi ⟨s,r,v,rfl,hr⟩;have ix:i < xs.length:=by lia
   have iy:i < ys.length:=by lia
   obtain ⟨vx,ex,nx⟩:=Jq (Paired.imp' (fun _ _ z=>z.same s) qu) ix;obtain ⟨vy,ey,ny⟩:=Jq (Paired.imp' (fun _ _ z=>z.same s) qw) iy;walk_at "w";refine cG (b6.of (s _ _ gu)) ex ?_;walk_at "w";refine cG (b6.of (s _ _ gw)) ey ?_;walk_at "w";refine ⟨_,_,_,_,rfl,nx,ny,h1.szn (getD_mem ix) (by lia),h2.szn (getD_mem iy) (by lia),fun r3 H3 s3 n3=>?_⟩;walk_at "w";refine ⟨_,_,_,_,rfl,hr.same s3,n3,EK h1 h2 hz i hkj,KJ (h1.one (getD_mem ix)) (h2.one (getD_mem iy)) hkj,fun r4 H4 s4 n4=>?_⟩;walk_at "w";exact ⟨(s.trans s3).trans s4,_,_,rfl,by rw[CA ix iy];exact n4⟩
  ·rintro σ' H' ⟨s,r,v,rfl,hr⟩;rw[aH (by lia),aH (by lia)] at hr;obtain ⟨t,rfl,ht⟩:=hr;walk_at "w";exact kk _ H' s ⟨t,rfl,ht⟩
theorem cX:bc ["_law_parts_here","_law_steps_here","_law_move_here","_law_put","_law_look","_law_n","_law_rows","_law_found","_law_t"] ["_law_parts_here","_law_steps_here"] (az eV):=by walk_at "d"
theorem xH (T:Txt K mg Z):cN P w K mg base gJ 4 Z.jd Z.iZ ["_law_parts_here","_law_steps_here"] (J9 K):=by
 refine T.mi.ok cX (fun vs H Q E h=>?_) (fun cdv A outer s H vs Q E hr h=>?_)
 ·obtain ⟨r,tt,H0,mv,pt,lk,rfl,hT,PQ,D,AD,k⟩:=h;rfl
 ·obtain ⟨r,tt,H0,mv,pt,lk,rfl,hT,PQ,D,AD,k⟩:=h
  refine ⟨_,(au (fu (pv 0) (sL rfl (cx (aR (i:=2) cX.nd rfl (Or.inr rfl) (Or.inl rfl)) (cx (aR (i:=3) cX.nd) (cx (aR (i:=4) cX.nd) h9)))))
   (au (bg (i:=5) cX.nd rfl (Or.inr rfl) (bR bD (by rfl) T.len bp (ae (pv 2) aj)))
   (au (p0 6 ["_law_row_here"] [] [] cX.nd rfl rfl (du (pv 4)) (fun _=>(aR (i:=0) (show List.Nodup (α:=PySem.Str) ["_law_row_here"] by decide +kernel))) (fun _=>cQ) (fun _=>(fV (mP K (by rfl)) (by rfl) T.list PyProof.Rows.boot_list (ae (pv 0) aj))))
   (au (bg (i:=7) cX.nd rfl (Or.inl rfl) (fv aj))
   (au (eE PassesOwn.never rfl (cy rfl T.range (ae (pv 1) aj)) (aR (i:=8) cX.nd)
    (au (kK (zh dC P7 P1 Cp (pv 7) (ae (pv 6) aj)))
   (aB (p0 6 ["_law_row_here"] ["_law_n","_law_move_here"] [5,2] cX.nd rfl rfl (du (pv 6)) (fun _=>(aR (i:=0) (show List.Nodup (α:=PySem.Str) ["_law_row_here","_law_n","_law_move_here"] by decide +kernel) rfl (Or.inr rfl) (Or.inl rfl))) (fun _=>cQ) (fun _=>(cP ["_law_j"] ["_law_row_here","_law_n","_law_move_here"] [0,1,2] (cy rfl T.range (ae (pv 1) aj)) (fun _=>(aR (i:=0) (show List.Nodup (α:=PySem.Str) ["_law_j","_law_row_here","_law_n","_law_move_here"] by decide +kernel) rfl (Or.inr rfl) (Or.inl rfl))) (fun _=>cQ) (fun _=>(cS (kh T) hr T.iE T.iH.kp T.jR (ae (pv 1) (ae (cP ["_law_i"] ["_law_move_here","_law_j"] [3,0] (cy rfl T.range (ae (pv 2) aj)) (fun _=>(aR (i:=0) (show List.Nodup (α:=PySem.Str) ["_law_i","_law_move_here","_law_j"] by decide +kernel))) (fun _=>cQ) (fun _=>(bF (kW K (by rfl)) (bF (kW K (by rfl)) (pv 1) (pv 0)) (pv 2)))) aj))))))))))
   (aB (aX (pv 7)))))))),?_⟩
  refine aU (σ:=[some (.ref r),some (.int tt),none,none,none,none,none,none,none]) rfl ?_;have d8:=D.n8;have o4:=D.o4;have et:(aW mv mv.length).length=mv.length:=bZ;obtain ⟨m,p,l,g,n1,n2,n3,Gm,Gp,Gl⟩:=id PQ;obtain ⟨um,gm,qm,_⟩:=id Gm;obtain ⟨ul,gl,ql,_⟩:=id Gl;have lum:=qm.length;have lul:=ql.length;walk_at "w";refine ⟨_,_,rfl,.inl (b6.of gm),?_⟩;rw[<- lum];walk_at "w";refine ⟨⟨_,b6.of gl⟩,?_⟩;refine gV (K:=K) (F:=cZ K H0) (cZ K H) id gl ql (by lia) (fun a b=>a.same b) (fun a b=>a.same b) ?_ ?_
  ·rintro i ns x H' NY NN en s ⟨u,rfl,_,zs,gz,qz⟩ k1;walk_at "w";refine ⟨u,zs,rfl,.inl (b6.of gz),fun l1 hl1=>?_⟩;exact k1 _ _ (aO.new hl1) ⟨l1,rfl,s.none hl1,zs,aQ,Paired.imp' (fun _ _ z=>z.same (aO.new hl1)) qz⟩
  rintro ys1 H1 rq1 hr1 s1 g1 pr1 nx1;rw[yu] at pr1 nx1;have G1:bS K H H1 rq1 lk:=⟨ys1,g1,pr1,nV nx1⟩;walk_at "w";refine d6 fun fd H2 s2 nf gf=>?_
  have s02:=s1.trans s2;have nf0:H fd=none:=s1.none nf;obtain ⟨Hz,eHz⟩:∃Hz,Hz=upd H fd (.lst []):=⟨_,rfl⟩;have zl:Hz fd≠none:=by rw[eHz,aQ];exact fun z=>nomatch z
  have zn:∀q,Hz q=none->H q=none/\q≠fd:=fun q h=>by
   have ne:q≠fd:=fun z=>zl (by rw[<- z];exact h)
   rw[eHz,bA ne] at h;exact ⟨h,ne⟩
  have nz:∀q,H q=none->q≠fd->Hz q=none:=fun q h ne=>by rw[eHz,bA ne];exact h
  clear eHz;have rf1:rq1≠fd:=fun z=>by rw[z,nf] at g1;cases g1
  have G2:bS K Hz H2 rq1 lk:=⟨ys1,s2 _ _ g1,Paired.imp' (fun _ _ ⟨q,a,b,c⟩=>⟨q,a,nz q b (fun z=>by obtain ⟨_,gg,_⟩:=c;rw[z,nf] at gg;cases gg),cK.same c s2⟩) pr1,nV nx1⟩
  have powl:∀t,∀ns∈lk.map (eN (aW mv mv.length) t),ns.length=mv.length:=fun t ns hn=>by
   obtain ⟨y,hy,rfl⟩:=aE.mp hn;have:=mC (mv:=aW mv mv.length) (st:=y) (by rw[et];exact D.lw y hy) t;rw[this,et]
  walk_at "w";refine ⟨by lia,by lia,?_⟩;refine dU (n:=tt) (fun t σ' H'=>aO H H'/\∃rq us y,σ'=[some (.ref r),some (.int tt),some (.ref m),some (.ref p),some (.ref l),some (.int mv.length),some (.ref rq),some (.ref fd),y]/\rq≠fd/\H' fd=some (.lst us)/\Paired (cZ K Hz H') (kry (aW mv mv.length) lk t) us/\bS K Hz H' rq (lk.map (eN (aW mv mv.length) t))) ⟨s02,rq1,[],_,rfl,rf1,gf,.nil,by rw[show lk.map (eN (aW mv mv.length) 0)=lk from yu lk];exact G2⟩ ?_ ?_
  ·rintro t σ' H' ht ⟨s',rq,us,y,rfl,rf,gu,pu,Gq⟩;obtain ⟨zs,gz,qz,_⟩:=id Gq;have lz:=qz.length;rw[ak] at lz;have lu:=pu.length;rw[p9] at lu;have lb:t*lk.length<=12*4:=aD (by lia) o4;walk_at "w";refine ⟨.inl ⟨rfl,_,b6.of gu⟩,?_⟩;walk_at "w";refine ⟨fd,rq,us,zs,rfl,rfl,gu,gz,br (bT (by lia)),?_⟩;have s2':aO H (upd H' fd (.lst (us++zs))):=s'.after nf0;have g2':(upd H' fd (.lst (us++zs))) fd=some (.lst (us++zs)):=aQ
   have p2':Paired (cZ K Hz (upd H' fd (.lst (us++zs)))) (kry (aW mv mv.length) lk (t+1)) (us++zs):=by
    rw[<- vS,DW,jk,vS];have:[lk.map (eN (aW mv mv.length) t)].flatten=lk.map (eN (aW mv mv.length) t):=by simp
    rw[this];exact cu (Paired.imp' (fun _ _ z=>cZ.updL z gu zl) pu) (Paired.imp' (fun _ _ z=>cZ.updL z gu zl) qz)
   have gz2:(upd H' fd (.lst (us++zs))) rq=some (.lst zs):=by rw[bA rf];exact gz
   have qz2:Paired (cZ K Hz (upd H' fd (.lst (us++zs)))) (lk.map (eN (aW mv mv.length) t)) zs:=Paired.imp' (fun _ _ z=>cZ.updL z gu zl) qz;generalize upd H' fd (.lst (us++zs))=H3 at s2' g2' p2' gz2 qz2 ⊢;have gm3:=s2' _ _ gm;have qm3:Paired (cZ K H0 H3) mv um:=Paired.imp' (fun _ _ z=>cZ.same z s2') qm;walk_at "w";refine ⟨⟨_,b6.of gz2⟩,?_⟩;refine gV (K:=K) (F:=cZ K Hz) (cZ K Hz) (nB (aW mv mv.length)) gz2 qz2 (by rw[ak];lia) (fun a b=>a.same b) (fun a b=>a.same b) ?_ ?_
   ·rintro i ns v Ha NY NN en sa ⟨u,rfl,_,Ru⟩ k1;have mn:=aA en;have wn:=powl t ns mn;walk_at "w";refine ⟨by lia,by lia,?_⟩;refine fW (n:=mv.length) (cF K) (fun j=>b7 ns (mv.map fun xs=>xs.getD j 0)) (by lia) (fun a b=>a.same b) ?_ ?_
    ·rintro j Hb NY2 NN2 hj sb k2;have sab:=sa.trans sb;walk_at "w";refine ⟨by lia,by lia,?_⟩;refine fW (n:=mv.length) (cF K) (fun i=>(mv.getD i []).getD j 0) (by lia) (fun a b=>a.same b) ?_ ?_
     ·rintro i2 Hc NY3 NN3 hi2 sc k3;have sac:=sab.trans sc;obtain ⟨xr,vr,er,evr,mr,qr,rfl,_,Rr⟩:=fI (Paired.imp' (fun _ _ z=>cZ.same z sac) qm3) hi2;have wr:=D.mw xr mr;obtain ⟨ws,gw,qw⟩:=id Rr;obtain ⟨vx,ex,nx⟩:=Jq qw (j:=j) (by lia);have e:(mv.getD i2 []).getD j 0=xr.getD j 0:=by rw[aa (l:=mv),er];rfl
      walk_at "w";refine cG (b6.of (sac _ _ gm3)) (fO evr) ?_;walk_at "w";refine cG (b6.of gw) ex ?_;exact k3 _ _ (aO.refl _) (by rw[e];exact nx)
     ·rintro ys Hc cq hcq sc gc prc _
      have ecol:(List.range mv.length).map (fun i=>(mv.getD i []).getD j 0)=mv.map fun xs=>xs.getD j 0:=by
       apply dY (by rw[ak,ak,cm]);intro i h1 h2;rw[nk,nk,Fd];rw[ak] at h2;rw[aa (l:=mv),ag h2];rfl
      rw[ecol] at prc;have Rc:cK K Hc cq (mv.map fun xs=>xs.getD j 0):=⟨ys,gc,prc⟩;walk_at "w";refine ⟨u,cq,ns,_,rfl,cK.same Ru (sb.trans sc),Rc,by rw[ak,wn],by lia,?_,fun d1 Hd sd Nd=>?_⟩
      ·obtain ⟨y0,hy0,rfl⟩:=aE.mp mn;have af:=(AD.row D.turn.mw D.turn.pw y0 hy0).fit D.turn.mw (D.turn.pw y0 hy0) (show t<=tt by lia);refine (af.1 _ ?_).symm;unfold aW;exact aE.mpr ⟨j,rd.mpr hj,rfl⟩
      ·exact k2 _ _ (sc.trans sd) Nd
    ·rintro ys Hb rr hrr sb gb prb _
     have eo:(List.range mv.length).map (fun j=>b7 ns (mv.map fun xs=>xs.getD j 0))=nB (aW mv mv.length) ns:=by
      unfold nB aW;rw[rg];refine dH fun j _=>?_
      show b7 ns _=b7 _ ns
      exact EM (by rw[ak,wn])
     rw[eo] at prb;exact k1 _ _ sb ⟨rr,rfl,nz rr (s2'.none (sa.none hrr)) (fun z=>by have:=sa _ _ g2';rw[z,this] at hrr;cases hrr),ys,gb,prb⟩
   ·rintro ys Hb rr hrr sb gb prb nxb;have e:(lk.map (eN (aW mv mv.length) t)).map (nB (aW mv mv.length))=lk.map (eN (aW mv mv.length) (t+1)):=by rw[rg];rfl
    rw[e] at prb nxb;exact ⟨s2'.trans sb,rr,_,_,rfl,fun z=>(by rw[z,g2'] at hrr;cases hrr),sb _ _ g2',Paired.imp' (fun _ _ z=>cZ.same z sb) p2',ys,gb,prb,nV nxb⟩
  ·rintro σ' H' ⟨s',rq,us,y,rfl,rf,gu,pu,Gq⟩;walk_at "w";refine k fd H' nf0 s' ⟨us,gu,Paired.imp' (fun _ _ ⟨q,a,b,c⟩=>⟨q,a,(zn q b).1,c⟩) pu,fun z=>?_⟩;obtain ⟨_,_,q,e,h,_⟩:=dS pu z;cases e;exact zl h
theorem Df:bc ["row","bottom"] ["row","bottom"] (az jW):=by walk_at "d"
theorem xG (T:Txt K mg Z):cN P w K mg base gJ 1 Z.qM Z.qg ["row","bottom"] (JZ K):=by
 refine T.nK.ok Df (fun vs H Q E h=>?_) (fun cdv A outer s H vs Q E hr h=>?_)
 ·obtain ⟨p,ns,M,B,rfl,hp,hl,hz,hB,sB,q⟩:=h;rfl
 ·obtain ⟨p,ns,M,B,rfl,hp,hl,hz,hB,sB,q⟩:=h;refine ⟨_,(aB (aX (cP ["value"] ["bottom"] [1] (du (pv 0)) (fun _=>(aR (i:=0) (show List.Nodup (α:=PySem.Str) ["value","bottom"] by decide +kernel))) (fun _=>cQ) (fun _=>(bW dE (bF (z9 K (by rfl)) (pv 0) av) (bW kM (pv 1) (bF (z9 K (by rfl)) (pv 0) av))))))),?_⟩;refine aU (σ:=[some (.ref p),some (.int B)]) rfl ?_;obtain ⟨xs,gx,qx⟩:=id hp;have lx:=qx.length;walk_at "w";refine ⟨⟨_,b6.of gx⟩,?_⟩;refine gW (K:=K) (xs:=xs) (fun i ys H'=>H'=H/\ys=(fL (ns.take i) B).map V.int) (br (bT (by lia))) ⟨rfl,rfl⟩ (fun i ys H' _ ⟨e,_⟩=>by subst e;exact b6.of gx) ?_ ?_
  ·rintro i x ys H' hx hlen ⟨rfl,rfl⟩;obtain ⟨n,en,r,rfl,hr1⟩:=cJ qx hx;have nz:=hz.2.2 n (aA en);have sn:Sz 4400 n.2:=DG hz.1 nz.2.1 hz.2.1;walk_at "w";refine gH (show uo _ _ from ⟨by lia,sn.mono (by decide)⟩) ?_;rw[cI _ (by lia)]
   have sq:Sz 4400 (B / n.2):=sB.le (by
    rw[PR (by lia)];exact Nat.div_le_self ..)
   walk_at "w";refine gH (show jm _ _ from .inr ⟨_,_,nz.2.2,sq,by decide⟩) ?_;exact ⟨rfl,by rw[take_snoc en];simp [fL]⟩
  ·rintro ys H' hy ⟨rfl,rfl⟩ l hl';exact q l _ hl' (aO.new hl') (by rw[aQ,aH (by lia)])
theorem fZ:bc ["wholes","multiple","whole"] ["wholes"] (az eh):=by walk_at "d"
theorem xg (T:Txt K mg Z):cN P w K mg base gJ 2 Z.ig Z.ib ["wholes"] (Ot K):=by
 refine T.lJ.ok fZ (fun vs H Q E h=>?_) (fun cdv A outer s H vs Q E hr h=>?_)
 ·obtain ⟨p,bs,M,rfl,hp,hM,sM,hb,q⟩:=h;rfl
 ·obtain ⟨p,bs,M,rfl,hp,hM,sM,hb,q⟩:=h
  refine ⟨_,(au (bg (i:=1) fZ.nd rfl (Or.inl rfl) av)
   (au (eE PassesOwn.never rfl (du (pv 0)) (aR (i:=2) fZ.nd)
    (aB (bg (i:=1) fZ.nd rfl (Or.inl rfl) (bW dE (pv 1) (bW kM (pv 2) (cS (kO T) hr T.ia T.fX.kp T.jb (ae (pv 1) (ae (pv 2) aj))))))))
   (aB (aX (pv 1))))),?_⟩
  refine aU (σ:=[some (.ref p),none,none]) rfl ?_;walk_at "w";refine ⟨⟨_,hp⟩,?_⟩;refine kX (K:=K) (a:=p) (xs:=bs.map V.int) (fun i σ' H'=>H'=H/\∃x,σ'=[some (.ref p),some (.int (yQ (bs.take i) 1)),x]) ⟨rfl,none,rfl⟩ (fun i σ' H' _ ⟨e,_⟩=>by subst e;exact hp) ?_ ?_
  ·rintro i x σ' H' hx ⟨rfl,y,rfl⟩;rw[aG] at hx
   obtain ⟨b,eb,rfl⟩:∃b,bs[i]?=some b/\x=.int b:=by
    cases e:bs[i]? with
    | none=>rw[e] at hx;cases hx
    | some b=>rw[e] at hx;cases hx;exact ⟨b,rfl,rfl⟩
   have b1:=hb b (aA eb);have sb:Sz 4400 b:=DG hM b1.2 sM;have ht:∀c∈bs.take i,0 < c/\c∣M:=fun c hc=>hb c (cA hc)
   have msz:Sz 4400 (yQ (bs.take i) 1):=DG hM (z8 (by decide) (Int.one_dvd _) ht) sM;generalize hm:yQ (bs.take i) 1=m at msz ⊢;have gp:0 < g m b:=Bq (by lia);walk_at "w";refine ⟨m,b,rfl,?_⟩;walk_at "w";refine gH (show uo _ _ from ⟨by lia,(R0 b1.1 sb).mono (by decide)⟩) ?_;rw[cI _ (by lia)];walk_at "w";refine gH (show jm _ _ from .inr ⟨_,_,msz,sb.hi (t:=m) (by lia),by decide⟩) ?_;walk_at "w";exact ⟨rfl,_,by rw[take_snoc eb,Ct,hm];rfl⟩
  ·rintro σ' H' ⟨rfl,y,rfl⟩;walk_at "w";rw[aH (by simp)];exact q
theorem yE:bc ["row"] ["row"] (az fw):=by walk_at "d"
theorem rQ (T:Txt K mg Z):cN P w K mg base gJ 3 Z.jG Z.jD ["row"] (Ou K):=by
 refine T.gI.ok yE (fun vs H Q E h=>?_) (fun cdv A outer s H vs Q E hr h=>?_)
 ·obtain ⟨p,ns,M,rfl,hp,hl,hz,q⟩:=h;rfl
 ·obtain ⟨p,ns,M,rfl,hp,hl,hz,q⟩:=h;refine ⟨_,(aB (aX (cS (xg T) hr T.pK T.lJ.kp T.qJ (ae (cP ["value"] [] [] (du (pv 0)) (fun _=>(aR (i:=0) (show List.Nodup (α:=PySem.Str) ["value"] by decide +kernel))) (fun _=>cQ) (fun _=>(bF (z9 K (by rfl)) (pv 0) av))) aj)))),?_⟩;refine aU (σ:=[some (.ref p)]) rfl ?_;obtain ⟨xs,gx,qx⟩:=id hp;have lx:=qx.length;walk_at "w";refine ⟨⟨_,b6.of gx⟩,?_⟩;refine gW (K:=K) (xs:=xs) (fun i ys H'=>H'=H/\ys=((ns.take i).map (·.2)).map V.int) (br (bT (by lia))) ⟨rfl,rfl⟩ (fun i ys H' _ ⟨e,_⟩=>by subst e;exact b6.of gx) ?_ ?_
  ·rintro i x ys H' hx hlen ⟨rfl,rfl⟩;obtain ⟨n,en,r,rfl,hr1⟩:=cJ qx hx;walk_at "w";exact ⟨rfl,by rw[take_snoc en];simp⟩
  ·rintro ys H' hy ⟨rfl,rfl⟩ l hl';walk_at "w";refine ⟨l,ns.map (·.2),M,rfl,b6.of (by rw[aQ,aH (by lia)]),hz.1,hz.2.1,fun b hb=>?_,?_⟩
   ·obtain ⟨n,hn,rfl⟩:=aE.mp hb;exact ⟨(hz.2.2 n hn).1,(hz.2.2 n hn).2.1⟩
   ·exact q _ (aO.new hl')
theorem wq:bc ["lines","begin","place","at"] ["lines","begin","place"] (az iM):=by walk_at "d"
theorem BP (T:Txt K mg Z):cN P w K mg base gJ 1 Z.oG Z.ot ["lines","begin","place"] IP:=by
 refine T.tS.ok wq (fun vs H Q E h=>?_) (fun cdv A outer s H vs Q E hr h=>?_)
 ·obtain ⟨l,p,ls,b,c,rfl,G,l1000,b1000,hc,k1,k2⟩:=h;rfl
 ·obtain ⟨l,p,ls,b,c,rfl,G,l1000,b1000,hc,k1,k2⟩:=h
  refine ⟨_,(au (eE PassesOwn.never rfl (Jd rfl T.range (ae (pv 1) (ae (bR bD (by rfl) T.len bp (ae (pv 0) aj)) aj))) (aR (i:=3) wq.nd)
    (aB (dn (bu wC (bF cg (bF cg (pv 0) (pv 3)) (pv 2)) av (bJ _)) (aB (aX (pv 3))) b8)))
   (aB (aX Dp))),?_⟩
  refine aU (σ:=[some (.ref p),some (.int b),some (.int c),none]) rfl ?_;obtain ⟨_,xs,gx,qx⟩:=id G;have lx:=qx.length;walk_at "w";refine ⟨_,_,rfl,.inl (b6.of gx),?_⟩;rw[<- lx];walk_at "w";refine ⟨⟨by lia,by lia,by lia,by lia⟩,?_⟩;refine Cv (lo:=(b:Int)) (n:=((ls.length:Int) - (b:Int)).toNat) (fun i σ' H'=>H'=H/\(∃y,σ'=[some (.ref p),some (.int b),some (.int c),y])/\∀s,b<=s->s < b+i->eF ls s c=0) ⟨rfl,⟨_,rfl⟩,fun s h1 h2=>absurd h2 (by lia)⟩ ?_ ?_
  ·rintro i σ' H' hi ⟨rfl,⟨y,rfl⟩,hz⟩;rw[show ((b:Int)+(i:Int))=((b+i:Nat):Int) by lia];obtain ⟨zs,v,ez,ev,mz,q,rfl,_,gq⟩:=fI qx (i:=b+i) (by lia);walk_at "w";refine cG (b6.of gx) (fO ev) ?_;walk_at "w";refine cG (b6.of gq) (Aq (hc zs mz)) ?_;walk_at "w";have ef:=JN (c:=c) ez;by_cases e:zs.getD c 0=0
   ·rw[decide_eq_true e];walk_at "w";refine ⟨rfl,⟨_,rfl⟩,fun s h1 h2=>?_⟩;by_cases e2:s=b+i
    ·rw[e2,ef,e];rfl
    ·exact hz s h1 (by lia)
   ·rw[decide_eq_false e];walk_at "w";exact k1 (b+i) (by lia) (by lia) (by rw[ef];exact RN.mpr e)
  ·rintro σ' H' ⟨rfl,⟨y,rfl⟩,hz⟩;walk_at "w";exact k2 fun t h1 h2=>hz t h1 (by lia)
theorem sJ:bc ["lines","at","place","before","used","by","swept"] ["lines","at","place","before"] (az o5):=by walk_at "d"
theorem FY (T:Txt K mg Z):cN P w K mg base gJ 1 Z.vY Z.vN ["lines","at","place","before"] IQ:=by
 refine T.zf.ok sJ (fun vs H Q E h=>?_) (fun cdv A outer s H vs Q E hr h=>?_)
 ·obtain ⟨l,p,ls,kk,c,n,b,rfl,hl,G,l1000,hk,hw,n1000,hc,b0,sb,hs,k⟩:=h;rfl
 ·obtain ⟨l,p,ls,kk,c,n,b,rfl,hl,G,l1000,hk,hw,n1000,hc,b0,sb,hs,k⟩:=h
  refine ⟨_,(au (bg (i:=4) sJ.nd rfl (Or.inr rfl) (bF cg (pv 0) (pv 1)))
   (au (bg (i:=5) sJ.nd rfl (Or.inr rfl) (bF cg (pv 4) (pv 2)))
   (au (p0 6 ["line"] ["used","by","place","before"] [4,5,2,3] sJ.nd rfl rfl (du (pv 0)) (fun _=>(aR (i:=0) (show List.Nodup (α:=PySem.Str) ["line","used","by","place","before"] by decide +kernel) rfl (Or.inr rfl) (Or.inl rfl))) (fun _=>cQ) (fun _=>(cP ["mine","yours"] ["by","line","place","before"] [2,0,3,4] (Kx K rfl T.zip (ae (pv 0) (ae (pv 1) aj))) (fun _=>(vF K 2 (cx (aR (i:=0) (show List.Nodup (α:=PySem.Str) ["mine","yours","by","line","place","before"] by decide +kernel)) (cx (aR (i:=1) (show List.Nodup (α:=PySem.Str) ["mine","yours","by","line","place","before"] by decide +kernel)) h9)))) (fun _=>cQ) (fun _=>(bW kM (bW pE (bW dE (pv 2) (pv 0)) (bW dE (bF (kW K (by rfl)) (pv 3) (pv 4)) (pv 1))) (pv 5))))))
   (au (fu (pv 4) (js (pv 6) (pv 1) set_list))
   (aB (aX (pv 6))))))),?_⟩
  refine aU (σ:=[some (.ref p),some (.int kk),some (.int c),some (.int b),none,none,none]) rfl ?_;obtain ⟨pl,xs,gx,qx⟩:=id G;have lx:=qx.length;obtain ⟨zk,vk,ek,evk,mk,qk,rfl,qkl,gk⟩:=fI qx hk;have wk:=hw zk mk;have ek':ls.getD kk []=zk:=by rw[aa,ek];rfl
  walk_at "w";refine cG (b6.of gx) (fO evk) ?_;walk_at "w";refine cG (b6.of gk) (Aq (by lia)) ?_;walk_at "w";refine ⟨⟨_,b6.of gx⟩,?_⟩;refine gW (K:=K) (xs:=xs) (fun i ys H'=>aO H H'/\Paired (Il l H') ((ls.take i).map fun zs=>List.zipWith (fun x y=>(zk.getD c 0*x - zs.getD c 0*y).fdiv b) zs zk) ys) (br (bT (by lia))) ⟨aO.refl _,.nil⟩ (fun i ys H' _ ⟨s,_⟩=>b6.of (s _ _ gx)) ?_ ?_
  ·rintro i v ys0 H' hx hlen ⟨s',pr⟩;obtain ⟨zs,ec,q,rfl,ql,gq⟩:=cJ qx hx;have mz:=aA ec;have wz:=hw zs mz;have gq':=s' _ _ gq;have gk':=s' _ _ gk;walk_at "w";refine ⟨⟨_,b6.of gq'⟩,⟨_,b6.of gk'⟩,?_⟩;refine uY (K:=K) (xs:=zs.map V.int) (ws:=zk.map V.int) (fun j ys H2=>aO H' H2/\ys=((List.zipWith (fun x y=>(zk.getD c 0*x - zs.getD c 0*y).fdiv b) zs zk).take j).map V.int) (br (bT (by rw[ak];lia))) (by rw[ak,ak];lia) ⟨aO.refl _,rfl⟩ (fun j ys H2 _ ⟨s2,_⟩=>⟨b6.of (s2 _ _ gq'),b6.of (s2 _ _ gk')⟩) ?_ ?_
   ·rintro j v1 v2 ys H2 r h1 h2 hy ⟨s2,rfl⟩ hr
    obtain ⟨x,ex,rfl⟩:∃x,zs[j]?=some x/\V.int x=v1:=by
     rw[aG] at h1;cases e:zs[j]? with
     | none=>rw[e] at h1;cases h1
     | some x=>rw[e] at h1;exact ⟨x,rfl,cv h1⟩
    obtain ⟨y,ey,rfl⟩:∃y,zk[j]?=some y/\V.int y=v2:=by
     rw[aG] at h2;cases e:zk[j]? with
     | none=>rw[e] at h2;cases h2
     | some x=>rw[e] at h2;exact ⟨x,rfl,cv h2⟩
    have sr:aO H2 (upd H2 r (.tup [.int x,.int y])):=aO.new hr;have gr:(upd H2 r (.tup [.int x,.int y])) r=some (.tup [.int x,.int y]):=aQ;generalize upd H2 r (.tup [.int x,.int y])=H3 at sr gr ⊢;have gq3:=sr _ _ (s2 _ _ gq');have sx:=hs zs mz x (aA ex);have sy:=hs zk mk y (aA ey);have s1:=hs zk mk _ (getD_in (e:=0) (show c < zk.length by lia));have s3:=hs zs mz _ (getD_in (e:=0) (show c < zs.length by lia));walk_at "w";refine gH (show jm _ _ from .inr ⟨_,_,s1,sx,by decide⟩) ?_;walk_at "w";refine cG (b6.of gq3) (Aq (by lia)) ?_;walk_at "w";refine gH (show jm _ _ from .inr ⟨_,_,s3,sy,by decide⟩) ?_;walk_at "w";refine gH (show uo _ _ from ⟨b0,sb⟩) ?_;have ez:(List.zipWith (fun x y=>(zk.getD c 0*x - zs.getD c 0*y).fdiv b) zs zk)[j]?=some ((zk.getD c 0*x - zs.getD c 0*y).fdiv b):=by rw[bY,ex,ey]
    exact ⟨s2.trans sr,by rw[take_snoc ez];simp⟩
   ·rintro ys H2 hy ⟨s2,rfl⟩ r hr;have sn:aO H2 (upd H2 r (.lst (((List.zipWith (fun x y=>(zk.getD c 0*x - zs.getD c 0*y).fdiv b) zs zk).take (zs.map V.int).length).map V.int))):=aO.new hr;refine ⟨(s'.trans s2).trans sn,?_⟩;rw[take_snoc ec,dO];refine cu (Paired.imp' (fun _ _ z=>(Il.same z s2).same sn) pr) (.cons ⟨r,rfl,ne_old (fun z=>hl (s'.none (s2.none z))) hr,?_⟩ .nil);rw[aQ,aH (by rw[bx,ak];lia)]
  ·rintro ys H1 hy ⟨s1,pr⟩ r hr;have sn:aO H1 (upd H1 r (.lst ys)):=aO.new hr;have gn:(upd H1 r (.lst ys)) r=some (.lst ys):=aQ;have ly:=pr.length;rw[ak,cO] at ly;generalize upd H1 r (.lst ys)=H2 at sn gn ⊢;walk_at "w";refine fN gn (gC (by lia)) rfl ?_;have s2:aO H1 (upd H2 r (.lst (ys.set kk (.ref qk)))):=sn.after hr;walk_at "w";refine k r _ (s1.none hr) (s1.trans s2) ⟨ne_old (fun z=>hl (s1.none z)) hr,_,aQ,?_⟩;unfold ER;rw[ek'];rw[aH (by lia)] at pr;exact pB (Paired.imp' (fun _ _ z=>Il.same z s2) pr) kk ⟨qk,rfl,qkl,(s1.trans s2) _ _ gk⟩
theorem wA:bc ["lines","at","to","swapped"] ["lines","at","to"] (az iN):=by walk_at "d"
theorem BQ (T:Txt K mg Z):cN P w K mg base gJ 1 Z.oH Z.ou ["lines","at","to"] Ei:=by
 refine T.tT.ok wA (fun vs H Q E h=>?_) (fun cdv A outer s H vs Q E hr h=>?_)
 ·obtain ⟨l,p,ls,t,kk,rfl,hl,G,l1000,ht,hk,k⟩:=h;rfl
 ·obtain ⟨l,p,ls,t,kk,rfl,hl,G,l1000,ht,hk,k⟩:=h
  refine ⟨_,(au (bg (i:=3) wA.nd rfl (Or.inl rfl) (fV tE (by rfl) T.list PyProof.Rows.boot_list (ae (pv 0) aj)))
   (au (fu (bF cg (pv 0) (pv 1)) (js (pv 3) (pv 2) set_list))
   (au (fu (bF cg (pv 0) (pv 2)) (js (pv 3) (pv 1) set_list))
   (aB (aX (pv 3)))))),?_⟩
  refine aU (σ:=[some (.ref p),some (.int t),some (.int kk),none]) rfl ?_;obtain ⟨pl,xs,gx,qx⟩:=id G;have lx:=qx.length;obtain ⟨zt,vt,et,evt,_,Ft⟩:=fI qx ht;obtain ⟨zk,vk,ek,evk,_,Fk⟩:=fI qx hk;walk_at "w";refine ⟨p,xs,rfl,.inl (b6.of gx),fun c hc=>?_⟩;have sc:aO H (upd H c (.lst xs)):=aO.new hc;have gc:(upd H c (.lst xs)) c=some (.lst xs):=aQ;generalize upd H c (.lst xs)=Hc at sc gc ⊢;walk_at "w";refine cG (b6.of (sc _ _ gx)) (fO evt) ?_;walk_at "w";refine fN gc (gC (by lia)) rfl ?_;have s1:aO H (upd Hc c (.lst (xs.set kk vt))):=sc.after hc;have g1:(upd Hc c (.lst (xs.set kk vt))) c=some (.lst (xs.set kk vt)):=aQ;generalize upd Hc c (.lst (xs.set kk vt))=H1 at s1 g1 ⊢;walk_at "w";refine cG (b6.of (s1 _ _ gx)) (fO evk) ?_;walk_at "w";refine fN g1 (gC (by rw[fH];lia)) rfl ?_;have s2:aO H (upd H1 c (.lst ((xs.set kk vt).set t vk))):=s1.after hc;walk_at "w";refine k c _ hc s2 ⟨ne_old hl hc,_,aQ,?_⟩;have et':ls.getD t []=zt:=by rw[aa,et];rfl
  have ek':ls.getD kk []=zk:=by rw[aa,ek];rfl
  unfold sH;rw[et',ek'];exact pB (pB (Paired.imp' (fun _ _ z=>Il.same z s2) qx) kk (Il.same Ft s2)) t (Il.same Fk s2)
theorem kD:bc ["rows","wide","lines","leads","before","place","many","at"] ["rows","wide"] (az vB):=by walk_at "d"
theorem Ey (T:Txt K mg Z):cN P w K mg base gJ 4 Z.Ag Z.Ab ["rows","wide"] (IB K):=by
 refine T.Al.ok kD (fun vs H Q E h=>?_) (fun cdv A outer s H vs Q E hr h=>?_)
 ·obtain ⟨p,n,w,H0,rows,rfl,G,r100,n100,hw,F,k⟩:=h;rfl
 ·obtain ⟨p,n,w,H0,rows,rfl,G,r100,n100,hw,F,k⟩:=h
  refine ⟨_,(au (p0 2 ["row"] [] [] kD.nd rfl rfl (du (pv 0)) (fun _=>(aR (i:=0) (show List.Nodup (α:=PySem.Str) ["row"] by decide +kernel))) (fun _=>cQ) (fun _=>(cS (xG T) hr T.oj T.nK.kp T.qI (ae (pv 0) (ae (cS (rQ T) hr T.iW T.gI.kp T.jF (ae (pv 0) aj)) aj)))))
   (au (bg (i:=3) kD.nd rfl (Or.inl rfl) (fv aj))
   (au (bg (i:=4) kD.nd rfl (Or.inl rfl) av)
   (au (eE PassesOwn.never rfl (cy rfl T.range (ae (pv 1) aj)) (aR (i:=5) kD.nd)
    (au (bg (i:=6) kD.nd rfl (Or.inl rfl) (bR bD (by rfl) T.len bp (ae (pv 3) aj)))
   (au (bg (i:=7) kD.nd rfl (Or.inl rfl) (cS (BP T) hr T.wI T.tS.kp T.yd (ae (pv 2) (ae (pv 6) (ae (pv 5) aj)))))
   (aB (dn (bu HF (pv 7) Dp (bJ _)) (au (bg (i:=2) kD.nd rfl (Or.inl rfl) (cS (FY T) hr T.Bf T.zf.kp T.CT (ae (cS (BQ T) hr T.wJ T.tT.kp T.ye (ae (pv 2) (ae (pv 7) (ae (pv 6) aj)))) (ae (pv 6) (ae (pv 5) (ae (pv 4) aj))))))
   (au (bg (i:=4) kD.nd rfl (Or.inl rfl) (bF cg (bF cg (pv 2) (pv 6)) (pv 5)))
   (aB (kK (zh dC fh ff o9 (pv 3) (ae (pv 5) aj)))))) b8)))))
   (aB (aX (dA (ae (AU Dd (pv 2) HB (zZ (bR bD (by rfl) T.len bp (ae (pv 3) aj)))) (ae (pv 3) aj))))))))),?_⟩
  refine aU (σ:=[some (.ref p),some (.int n),none,none,none,none,none,none]) rfl ?_;obtain ⟨xs,gx,qx,_⟩:=id G;obtain ⟨W,hW,W2,ent⟩:=F.ent;obtain ⟨_,_,_,_,_,_,_,_,r15,r89⟩:=id F;walk_at "w";refine ⟨⟨_,b6.of gx⟩,?_⟩;refine gV (K:=K) (as:=rows) (F:=cZ K H0) (fun (H:Hp) (zs:List Int) (v:V)=>∃q,v=V.ref q/\H q=some (.lst (zs.map V.int))) iu gx qx (by lia) (fun a b=>a.same b) (fun ⟨q,a,b⟩ s=>⟨q,a,s _ _ b⟩) ?_ ?_
  ·rintro i qs v H' NY NN ec s' ⟨u,rfl,_,R⟩ k1;have mx:=aA ec;obtain ⟨M,hM⟩:=F.rowM mx;obtain ⟨b1,sb⟩:=hM.bot;have lq:(qs.map nm).length<=1000:=by rw[ak,hw qs mx];lia
   walk_at "w";refine ⟨u,_,M,rfl,R.rowK,lq,hM,fun H2 s2=>?_⟩;walk_at "w";exact ⟨u,_,M,_,rfl,(R.same s2).rowK,lq,hM,b1,sb,fun r H3 n3 s3 g3=>k1 _ _ (s2.trans s3) ⟨r,rfl,g3⟩⟩
  rintro ys H1 lp0 hlp s1 g1 pr1 nx1;walk_at "w";refine d6 fun qp H2 s2 nq gq=>?_
  have G2:vh qp H2 lp0 (rows.map iu):=⟨(fun z=>by rw[z,nq] at g1;cases g1),ys,s2 _ _ g1,Paired.imp' (fun _ _ ⟨q,a,b⟩=>⟨q,a,(fun z=>by rw[z,nq] at b;cases b),s2 _ _ b⟩) pr1⟩;have hq0:H qp=none:=s1.none nq;have s02:=s1.trans s2;have hm:(rows.map iu).length=rows.length:=ak ..;clear g1 pr1 nx1;walk_at "w";refine ⟨by lia,by lia,?_⟩;refine dU (n:=n) (fun P σ' H'=>aO H H'/\∃lp ls ps d y1 y2 y3,σ'=[some (.ref p),some (.int n),some (.ref lp),some (.ref qp),some (.int d),y1,y2,y3]/\H' qp=some (.lst (nE ps))/\vh qp H' lp ls/\CV (rows.map iu) n P ls ps d) ⟨s02,lp0,rows.map iu,[],1,_,_,_,rfl,gq,G2,CV.start fun zs hz=>by obtain ⟨x,hx,rfl⟩:=aE.mp hz;rw[xt];exact hw x hx⟩ ?_ ?_
  ·rintro P σ' H' hP ⟨s',lp,ls,ps,d,y1,y2,y3,rfl,gq',G',I⟩;have hl:=I.len;have kP:=I.el.kP;have km:=I.el.km;have lps:(nE ps).length=ps.length:=ak ..;have hqp:H' qp≠none:=by rw[gq'];exact fun z=>nomatch z
   obtain ⟨z1,z2⟩:=I.sz (r:=min rows.length n) hW ent (by lia) (by rw[hm];exact ar _) r15;have big:(16*W)^min rows.length n < 2^8999:=bC (yM W2) (dX (by decide) (by lia));walk_at "w";refine ⟨_,_,rfl,.inl (b6.of gq'),?_⟩;rw[lps];walk_at "w";refine ⟨qp,lp,ls,ps.length,P,rfl,G',by lia,by lia,fun zs hz=>by rw[I.wide zs hz];exact hP,fun t h1 h2 h3=>?_,fun hz=>?_⟩
   ·walk_at "w";refine ⟨rfl,_,rfl,?_⟩;rw[show decide (V.int (t:Int)=V.non)=false from decide_eq_false (fun z=>nomatch z)];walk_at "w";refine ⟨qp,lp,ls,t,ps.length,rfl,hqp,G',by lia,h2,by lia,fun l1 Ha na sa Ga=>?_⟩;walk_at "w";refine ⟨qp,l1,_,ps.length,P,n,d,rfl,fun z=>hqp (sa.none z),Ga,by rw[yz];lia,by rw[yz];lia,GY I.wide (by lia) h2,by lia,hP,I.d0,bC z1 big,fun zs hz z hz'=>?_,fun l2 Hb nb sb Gb=>?_⟩
    ·unfold sH at hz;have key:∀ys,ys∈ls->∀z∈ys,Sz 8999 z:=fun ys hy z hz=>bC (z2 ys hy z hz) big
     rcases cM hz with h | h
     ·rcases cM h with h | h
      ·exact key zs h z hz'
      ·rw[h] at hz';exact key _ (getD_in h2) z hz'
     ·rw[h] at hz';exact key _ (getD_in (by lia)) z hz'
    have sab:=sa.trans sb;have I2:=I.step hW ent h1 h2 h3;have hk2:ps.length < (ER (sH ls ps.length t) ps.length P d).length:=by rw[Lz,yz];lia
    obtain ⟨n2,xs2,gx2,qx2⟩:=id Gb;obtain ⟨zk,vk,ek,evk,mk,qk,rfl,_,gk⟩:=fI qx2 hk2;have wk:=I2.wide zk mk;walk_at "w";refine cG (b6.of gx2) (fO evk) ?_;walk_at "w";refine cG (b6.of gk) (Aq (by lia)) ?_;have gqb:=sab _ _ gq';walk_at "w";refine ⟨.inl ⟨rfl,_,b6.of gqb⟩,?_⟩;walk_at "w";refine o8 gqb (bT (by lia)) ?_;refine ⟨(s'.trans sab).after hq0,l2,_,ps++[P],_,_,_,_,rfl,?_,Gb.upd,?_⟩
    ·rw[aQ];unfold nE;rw[dO];rfl
    ·have e:(ER (sH ls ps.length t) ps.length P d).getD ps.length []=zk:=by rw[aa,ek];rfl
     rw[e] at I2;exact I2
   ·walk_at "w";refine ⟨rfl,_,rfl,?_⟩;rw[show decide (V.non=V.non)=true from decide_eq_true rfl];walk_at "w";exact ⟨s',lp,ls,ps,d,_,_,_,rfl,gq',G',I.skip hz⟩
  rintro σ' H' ⟨s',lp,ls,ps,d,y1,y2,y3,rfl,gq',G',I⟩;obtain ⟨R,hR⟩:=I.done hw F;have lps:(nE ps).length=ps.length:=ak ..;obtain ⟨nl,xs',gx',qx'⟩:=id G';walk_at "w";refine ⟨_,_,rfl,.inl (b6.of gq'),?_⟩;rw[lps];walk_at "w";refine OF (b6.of gx') fun sl H3 s3 n3 g3=>?_
  rw[Lx] at g3;walk_at "w";refine cE fun t H4 s4 g4=>?_
  have s34:=s3.trans s4;exact k t sl qp R ps d _ H4 g4 (s34 _ _ gq') ⟨(fun z=>by rw[z,gq'] at n3;cases n3),_,s4 _ _ g3,Paired.imp' (fun _ _ z=>Il.same z s34) (uJ qx' ps.length)⟩ (s'.trans s34) hR
theorem yC:bc ["top","bottom","divisor"] ["top","bottom"] (az rM):=by walk_at "d"
theorem vG (T:Txt K mg Z):cN P w K mg base gJ 2 Z.ym Z.xZ ["top","bottom"] II:=by
 refine T.sC.ok yC (fun vs H Q E h=>?_) (fun cdv A outer s H vs Q E hr h=>?_)
 ·obtain ⟨t,b,rfl,hb,hs,k⟩:=h;rfl
 ·obtain ⟨t,b,rfl,hb,hs,k⟩:=h
  refine ⟨_,(au (bg (i:=2) yC.nd rfl (Or.inl rfl) (cS (kO T) hr T.ia T.fX.kp T.jb (ae (pv 0) (ae (pv 1) aj))))
   (au (dn (bu wD (pv 1) av (bJ _)) (aB (bg (i:=2) yC.nd rfl (Or.inl rfl) (zg uy (pv 2)))) b8)
   (aB (aX (dA (ae (bW kM (pv 0) (pv 2)) (ae (bW kM (pv 1) (pv 2)) aj))))))),?_⟩
  refine aU (σ:=[some (.int t),some (.int b),none]) rfl ?_;walk_at "w";refine ⟨t,b,rfl,?_⟩;have hg:=Bq (t:=t) hb
  have hgs:Sz 8999 (g t b):=hs.le (by
   have h1:(g t b).natAbs=Int.gcd t b:=by unfold g;simp
   rw[h1];exact kB (by lia) (by have:=fF (a:=t) (b:=b);exact eT.mpr this |> fun z=>by simpa using z))
  have hgn:g (-t) (-b)=g t b:=by unfold g;rw[Int.gcd_neg,Int.neg_gcd]
  walk_at "w";refine iX (fun h=>?_) (fun h=>?_)
  ·have hb0:b < 0:=of_decide_eq_true h;walk_at "w";refine gH (show uo _ _ from ⟨by lia,hgs.neg⟩) ?_;walk_at "w";refine gH (show uo _ _ from ⟨by lia,hgs.neg⟩) ?_;walk_at "w";refine cE fun r H' s' h'=>?_
   have e1:t.fdiv (-g t b)=lo (-t) (-b):=by
    unfold Nm.lo;rw[hgn,<- cI _ (by lia),<- Int.neg_fdiv_neg (-t),Int.neg_neg]
   have e2:b.fdiv (-g t b)=hi (-t) (-b):=by
    unfold Nm.hi;rw[hgn,<- cI _ (by lia),<- Int.neg_fdiv_neg (-b),Int.neg_neg]
   exact k r H' s' (by rw[if_pos hb0,if_pos hb0,<- e1,<- e2];exact h')
  ·have hb0:¬b < 0:=fun z=>h (decide_eq_true z)
   walk_at "w";refine gH (show uo _ _ from ⟨by lia,hgs⟩) ?_;walk_at "w";refine gH (show uo _ _ from ⟨by lia,hgs⟩) ?_;walk_at "w";refine cE fun r H' s' h'=>?_
   rw[cI _ (by lia),cI _ (by lia)] at h';exact k r H' s' (by rw[if_neg hb0,if_neg hb0];exact h')
theorem AF:bc ["rows","wide","found"] ["rows","wide"] (az oX):=by walk_at "d"
theorem FU (T:Txt K mg Z):cN P w K mg base gJ 5 Z.vV Z.vK ["rows","wide"] (Eg K):=by
 refine T.zb.ok AF (fun vs H Q E h=>?_) (fun cdv A outer s H vs Q E hr h=>?_)
 ·obtain ⟨p,n,w,H0,rows,rfl,G,r100,n100,hw,F,k⟩:=h;rfl
 ·obtain ⟨p,n,w,H0,rows,rfl,G,r100,n100,hw,F,k⟩:=h
  refine ⟨_,(au (bg (i:=2) AF.nd rfl (Or.inl rfl) (cS (Ey T) hr T.A8 T.Al.kp T.DS (ae (pv 0) (ae (pv 1) aj))))
   (aB (aX (cP ["line","lead"] [] [] (vE rfl T.zip (ae (bF cB (pv 2) av) (ae (bF cB (pv 2) av) aj))) (fun _=>(vF K 2 (cx (aR (i:=0) (show List.Nodup (α:=PySem.Str) ["line","lead"] by decide +kernel) rfl (Or.inr rfl) (Or.inl rfl)) (cx (aR (i:=1) (show List.Nodup (α:=PySem.Str) ["line","lead"] by decide +kernel) rfl (Or.inr rfl) (Or.inl rfl)) h9)))) (fun _=>cQ) (fun _=>(cP ["top"] ["line","lead"] [0,1] (Ew K (pv 0)) (fun _=>(aR (i:=0) (show List.Nodup (α:=PySem.Str) ["top","line","lead"] by decide +kernel))) (fun _=>cQ) (fun _=>(cS (vG T) hr T.rR T.sC.kp T.u6 (ae (pv 0) (ae (bF (kW K (by rfl)) (pv 1) (pv 2)) aj)))))))))),?_⟩
  refine aU (σ:=[some (.ref p),some (.int n),none]) rfl ?_;obtain ⟨_,_,_,_,_,_,_,_,r15,r89⟩:=id F;walk_at "w";refine ⟨p,n,w,H0,rows,rfl,G,r100,n100,hw,F,fun t lp qp R ps d ls H1 gt gq G1 s1 S=>?_⟩;obtain ⟨lR,wR,RR⟩:=id S.rr;have hl:=S.len;obtain ⟨_,xs,gx,qx⟩:=id G1;have lx:=qx.length;have lps:(nE ps).length=ps.length:=ak ..;have d0:(d:Rat)≠0:=fun z=>S.d0 (rV z)
  have dsz:Sz 8999 d:=bC S.dsz (dX (by decide) (by lia))
  have km:ps.length<=n:=by
   rcases dg n ps.length with z | z
   ·have inc:∀j,j < ps.length->j<=ps.getD j 0:=by
     intro j
     induction j with
     | zero=>intro _;exact bh _
     | succ j ih =>
      intro hj;have:=ih (by lia);have:=RR.inc j (j+1) (by lia) hj
      lia
    have h1:=inc (ps.length - 1) (by lia);have h2:=RR.low (ps.length - 1) (by lia)
    lia
   ·exact z
  walk_at "w";refine ⟨⟨_,b6.of gx⟩,⟨_,b6.of gq⟩,?_⟩;refine uY (K:=K) (xs:=xs) (ws:=nE ps) (fun i ys H'=>aO H1 H'/\Paired (cZ K H1 H') (R.take i) ys) (br (bT (by lia))) (by lia) ⟨aO.refl _,.nil⟩ (fun i ys H' _ ⟨s,_⟩=>⟨b6.of (s _ _ gx),b6.of (s _ _ gq)⟩) ?_ ?_
  ·rintro i v1 v2 ys H' r h1 h2 hy ⟨s,pr⟩ hr;obtain ⟨zs,ez,q,rfl,_,gq1⟩:=cJ qx h1;have hi:i < ls.length:=(aI.mp ez).1;have mz:=aA ez;have wz:=S.wide zs mz
   obtain ⟨j,ej,rfl⟩:∃j:Nat,ps[i]?=some j/\V.int (j:Int)=v2:=by
    unfold nE at h2;rw[aG] at h2;cases e:ps[i]? with
    | none=>rw[e] at h2;cases h2
    | some x=>rw[e] at h2;exact ⟨x,rfl,cv h2⟩
   have ej':ps.getD i 0=j:=by rw[aa,ej];rfl
   have jn:j < n:=by have:=RR.low i (by lia);rw[ej'] at this;exact this
   have sr:aO H' (upd H' r (.tup [.ref q,.int j])):=aO.new hr;have gr:(upd H' r (.tup [.ref q,.int j])) r=some (.tup [.ref q,.int j]):=aQ;generalize upd H' r (.tup [.ref q,.int j])=H2 at sr gr ⊢;have s2:=s.trans sr;have iR:i < R.length:=by lia
   have eR:=ag iR;have wRi:=wR _ (aL iR)
   have ed:zs.getD j 0=d:=by
    have h:=S.val i j;rw[JN ez] at h;have u:=RR.unit i (by lia) i (by lia);rw[if_pos rfl,ej'] at u;rw[u,LL] at h;exact dM.mp h
   have val:∀c,((zs.getD c 0:Int):Rat)=(d:Rat)*(R[i]).getD c 0:=fun c=>by
    have h:=S.val i c;rw[JN ez] at h;rw[h];unfold cD;rw[aa (l:=R),eR];rfl
   walk_at "w";refine ⟨⟨_,b6.of (s2 _ _ gq1)⟩,?_⟩;refine gW (K:=K) (xs:=zs.map V.int) (fun c ys' H3=>aO H2 H3/\Paired (cF K H3) ((R[i]).take c) ys') (br (bT (by rw[ak];lia))) ⟨aO.refl _,.nil⟩ (fun c ys' H3 _ ⟨s3,_⟩=>b6.of ((s2.trans s3) _ _ gq1)) ?_ ?_
   ·rintro c x ys' H3 hx hlen ⟨s3,pr3⟩
    obtain ⟨z,ec,rfl⟩:∃z,zs[c]?=some z/\V.int z=x:=by
     rw[aG] at hx;cases e:zs[c]? with
     | none=>rw[e] at hx;cases hx
     | some x=>rw[e] at hx;exact ⟨x,rfl,cv hx⟩
    have hc:c < zs.length:=(aI.mp ec).1;have vc:=val c;have e1:zs.getD c 0=z:=by rw[aa,ec];rfl
    rw[e1] at vc;walk_at "w";refine cG (b6.of ((s2.trans s3) _ _ gq1)) (Aq (by lia)) ?_;rw[ed];walk_at "w";refine ⟨z,d,rfl,S.d0,dsz,fun r4 H4 s4 g4=>?_⟩;have ec':(R[i])[c]?=some ((R[i]).getD c 0):=by rw[aa,ag (show c < (R[i]).length by lia)];rfl
    refine ⟨s3.trans s4,?_⟩;rw[take_snoc ec'];refine cu (Paired.imp' (fun _ _ z=>cF.same z s4) pr3) (.cons (cF.mk g4 ?_) .nil);rcases Int.lt_or_lt_of_ne S.d0 with hd | hd
    ·rw[if_pos hd,if_pos hd];refine sS (by lia) ?_;rw[dq,dq,vc];grind
    ·rw[if_neg (by lia),if_neg (by lia)];refine sS hd ?_;rw[vc];grind
   ·rintro ys' H3 hy' ⟨s3,pr3⟩ l4 hl4;have sn:aO H3 (upd H3 l4 (.lst ys')):=aO.new hl4;refine ⟨(s2.trans s3).trans sn,?_⟩;rw[take_snoc eR];rw[aH (by rw[ak];lia)] at pr3;exact cu (Paired.imp' (fun _ _ z=>cZ.same z ((sr.trans s3).trans sn)) pr) (.cons ⟨l4,rfl,(s2.trans s3).none hl4,ys',aQ,Paired.imp' (fun _ _ z=>cF.same z sn) pr3⟩ .nil)
  ·rintro ys H' hy ⟨s,pr⟩ r hr;have sn:aO H' (upd H' r (.lst ys)):=aO.new hr;rw[aH (by lia)] at pr;refine k r R ps d.natAbs _ (s1.none (s.none hr)) ((s1.trans s).trans sn) ⟨ys,aQ,Paired.imp' (fun _ _ z=>(cZ.weak z s1).same sn) pr,nV (H0:=H1) (rows:=R) ⟨H',hr,pr⟩⟩ S.rr S.km ?_ S.dsz S.tp;have:=S.d0
   lia
theorem sI:bc ["one","other","one_bottom","other_bottom","pairs"] ["one","other"] (az oW):=by walk_at "d"
theorem A1 (T : Txt K mg Z) : cN P w K mg base gJ 4 Z.vU Z.vJ ["one", "other"] (Hq K) := by
  have ui := rQ (P := P) (w := w) (base := base) T;have zE := xG (P := P) (w := w) (base := base) T;have LJ := vG (P := P) (w := w) (base := base) T;refine T.v5.ok sI (fun vs H Q E h => ?_) (fun cdv A outer s H vs Q E hr h => ?_)
  · obtain ⟨p, q, xs, ys, rfl, hp, hq, hl, hz, ⟨k1, j1, k2, j2, h1, h2, hkj⟩, kk⟩ := h;rfl
  · obtain ⟨p, q, xs, ys, rfl, hp, hq, hl, hz, ⟨k1, j1, k2, j2, h1, h2, hkj⟩, kk⟩ := h
    refine ⟨_, (au (bg (i := 2) sI.nd rfl (Or.inl rfl) (cS ui hr T.iW T.gI.kp T.jF (ae (pv 0) aj)))
      (au (bg (i := 3) sI.nd rfl (Or.inl rfl) (cS ui hr T.iW T.gI.kp T.jF (ae (pv 1) aj)))
      (au (bg (i := 4) sI.nd rfl (Or.inl rfl) (FO rfl T.list rfl T.zip (ae (cS zE hr T.oj T.nK.kp T.qI (ae (pv 0) (ae (pv 2) aj))) (ae (cS zE hr T.oj T.nK.kp T.qI (ae (pv 1) (ae (pv 3) aj))) aj))))
      (aB (aX (cS LJ hr T.rR T.sC.kp T.u6 (ae (bR (LA rfl) (by rfl) T.sum PyProof.Rows.boot_sum (ae (cP ["mine", "yours"] [] [] (du (pv 4)) (fun _ => (vF K 2 (cx (aR (i := 0) (show List.Nodup (α := PySem.Str) ["mine", "yours"] by decide +kernel)) (cx (aR (i := 1) (show List.Nodup (α := PySem.Str) ["mine", "yours"] by decide +kernel)) h9)))) (fun _ => cQ) (fun _ => (bW dE (pv 0) (pv 1)))) aj)) (ae (bW dE (pv 2) (pv 3)) aj)))))))), ?_⟩
    refine aU (σ := [some (.ref p), some (.ref q), none, none, none]) rfl ?_;obtain ⟨M, h1⟩ := h1.rowM (by lia);obtain ⟨N, h2⟩ := h2.rowM (by lia);replace hp := hp.rowK;replace hq := hq.rowK;replace hl : (ys.map nm).length = (xs.map nm).length := by simpa using hl
    replace hz : (xs.map nm).length ≤ 1000 := by simpa using hz
    obtain ⟨b1, s1⟩ := h1.bot;obtain ⟨b2, s2⟩ := h2.bot;have k2 : ∀ r H', aO H H' → H' r = some (.tup [.int (lo (Lr (xs.map nm) (ys.map nm)) (iq (xs.map nm) * iq (ys.map nm))), .int (hi (Lr (xs.map nm) (ys.map nm)) (iq (xs.map nm) * iq (ys.map nm)))]) → Q (.ref r) H' := fun r H' s g => kk r H' s (cF.mk g (Nk b1 b2))
    clear kk;generalize xs.map nm = ns at hp hq hl hz h1 h2 b1 b2 s1 s2 k2;generalize ys.map nm = ms at hp hq hl hz h1 h2 b1 b2 s1 s2 k2;have hb : 0 < iq ns * iq ms := pU b1 b2;walk_at "w";refine ⟨p, ns, M, rfl, hp, hz, h1, fun H1 t1 => ?_⟩;walk_at "w";refine ⟨q, ms, N, rfl, hq.same t1, by lia, h2, fun H2 t2 => ?_⟩;have u2 := t1.trans t2;walk_at "w";refine ⟨p, ns, M, _, rfl, hp.same u2, hz, h1, b1, s1, fun r1 H3 n3 t3 g3 => ?_⟩;walk_at "w";refine ⟨q, ms, N, _, rfl, (hq.same u2).same t3, by lia, h2, b2, s2, fun r2 H4 n4 t4 g4 => ?_⟩;walk_at "w";refine ⟨r1, r2, _, _, rfl, b6.of (t4 _ _ g3), b6.of g4, by simp [fL, hl], fun L ts H5 t5 n5 g5 pr => ?_⟩;have lt := pr.length;have ll : (fL ns (iq ns)).length = ns.length := by simp [fL]
    have lm : (fL ms (iq ms)).length = ns.length := by simp [fL, hl]
    rw [BG, ak, ak, ll, lm] at lt;walk_at "w";refine ⟨⟨_, b6.of g5⟩, ?_⟩;refine gW (K := K) (xs := ts) (fun i ys H' => H' = H5 /\ ys = ((List.zipWith (· * ·) (fL ns (iq ns)) (fL ms (iq ms))).take i).map V.int) (br (bT (by lia))) ⟨rfl, rfl⟩ (fun i ys H' _ ⟨e, _⟩ => by subst e; exact b6.of g5) ?_ ?_
    · rintro i x ys H' hx hlen ⟨rfl, rfl⟩;obtain ⟨pq, epq, T, rfl, gT⟩ := cJ pr hx;obtain ⟨t, u, et, eu, rfl⟩ := LW epq;walk_at "w";refine gH (show jm _ _ from .inr ⟨_, _, Ec h1 b1 s1 (aA et), Ec h2 b2 s2 (aA eu), by decide⟩) ?_;have ez : (List.zipWith (· * ·) (fL ns (iq ns)) (fL ms (iq ms)))[i]? = some (t * u) := by rw [bY, et, eu]
      exact ⟨rfl, by rw [take_snoc ez]; simp⟩
    · rintro ys H' hy ⟨rfl, rfl⟩ l hl';walk_at "w";refine ⟨l, List.zipWith (· * ·) (fL ns (iq ns)) (fL ms (iq ms)), rfl, b6.of (by rw [aQ, aH (by rw [bx]; lia)]), ?_⟩;walk_at "w";refine gH (show jm _ _ from .inr ⟨_, _, s1, s2, by decide⟩) ?_;walk_at "w";refine ⟨_, _, rfl, by lia, (s1.mul s2).mono (by decide), fun r H6 t6 g6 => ?_⟩;rw [if_neg (by lia), if_neg (by lia)] at g6;exact k2 r H6 ((((u2.trans t3).trans t4).trans t5).trans ((aO.new hl').trans t6)) g6
theorem FE:bc ["grid","row"] ["grid","row"] (az oZ):=by walk_at "d"
theorem FX (T:Txt K mg Z):cN P w K mg base gJ 5 Z.vX Z.vM ["grid","row"] (Ho K):=by
 refine T.ze.ok FE (fun vs H Q E h=>?_) (fun cdv A outer s H vs Q E hr h=>?_)
 ·obtain ⟨p,q,H0,rows,ys,rfl,hp,hq,hz,hl,hr1,kk⟩:=h;rfl
 ·obtain ⟨p,q,H0,rows,ys,rfl,hp,hq,hz,hl,hr1,kk⟩:=h;refine ⟨_,(aB (aX (cP ["line"] ["row"] [1] (du (pv 0)) (fun _=>(aR (i:=0) (show List.Nodup (α:=PySem.Str) ["line","row"] by decide +kernel))) (fun _=>cQ) (fun _=>(cS (A1 T) hr T.xk T.v5.kp T.yY (ae (pv 0) (ae (pv 1) aj))))))),?_⟩;refine aU (σ:=[some (.ref p),some (.ref q)]) rfl ?_;obtain ⟨xs,gx,qx,_⟩:=id hp;walk_at "w";refine ⟨⟨_,b6.of gx⟩,?_⟩;refine gV (K:=K) (F:=cZ K H0) (cF K) (fun xs=>b7 xs ys) gx qx hz (fun a b=>a.same b) (fun a b=>a.same b) ?_ ?_
  ·rintro i ns x H' NY NN en s ⟨u,rfl,_,hu⟩ k;obtain ⟨e1,e2⟩:=hr1 ns (aA en);walk_at "w";exact ⟨u,q,ns,ys,rfl,hu,hq.same s,e1.symm,by lia,e2,fun r H2 s2 h2'=>k _ _ s2 h2'⟩
  ·rintro ys' H' r hr s g pr nx;exact kk r H' hr s ⟨ys',g,pr⟩
theorem BM:bc ["system","rows"] ["system","rows"] (az iL):=by walk_at "d"
theorem wG (T:Txt K mg Z):cN P w K mg base gJ 6 Z.oF Z.oq ["system","rows"] (IF K Z.a_System):=by
 refine T.oQ.ok BM (fun vs H Q E h=>?_) (fun cdv A outer s H vs Q E hr h=>?_)
 ·obtain ⟨x,p,H0,H1,mv,pt,lk,R,rfl,S,D,G,l100,wR,hf,k⟩:=h;rfl
 ·obtain ⟨x,p,H0,H1,mv,pt,lk,R,rfl,S,D,G,l100,wR,hf,k⟩:=h;refine ⟨_,(aB (aX (cP ["row"] ["system"] [0] (du (pv 1)) (fun _=>(aR (i:=0) (show List.Nodup (α:=PySem.Str) ["row","system"] by decide +kernel))) (fun _=>cQ) (fun _=>(cS (FX T) hr T.Be T.ze.kp T.CS (ae (HD K (pv 1) rfl) (ae (pv 0) aj))))))),?_⟩;refine aU (σ:=[some (.ref x),some (.ref p)]) rfl ?_;obtain ⟨dx,a',b',c',gx,_,_,_,Ga,Gb,Gc⟩:=id S;have d8:=D.n8;obtain ⟨xs,gxs,qx,_⟩:=id G;walk_at "w";refine ⟨⟨_,b6.of gxs⟩,?_⟩;refine gV (K:=K) (F:=cZ K H1) (cZ K H) (nB mv) gxs qx (by lia) (fun a b=>a.same b) (fun a b=>a.same b) ?_ ?_
  ·rintro i ns v H' NY NN en s ⟨u,rfl,_,hu⟩ k1;have mn:=aA en;walk_at "w";refine ⟨x,Z.a_System,dx,_,_,rfl,s _ _ gx,T.cl_System,T.na_move,Ay,?_⟩;walk_at "w";exact ⟨a',u,H0,mv,ns,rfl,Ga.same s,hu,by lia,by rw[wR ns mn];lia,fun xs hx=>⟨by rw[D.mw xs hx,wR ns mn],hf xs hx ns mn⟩,fun r H2 nr s2 R2=>k1 _ _ s2 ⟨r,rfl,s.none nr,R2⟩⟩
  ·rintro ys H' r hr s g pr nx;exact k r H' hr s ⟨ys,g,pr,nV nx⟩
theorem pz:bc ["system","steps","lists","rows"] ["system","steps"] (az gL):=by walk_at "d"
theorem A2 (T:Txt K mg Z):cN P w K mg base gJ 7 Z.mT Z.mG ["system","steps"] (IM K Z.a_System):=by
 refine T.rF.ok pz (fun vs H Q E h=>?_) (fun cdv A outer s H vs Q E hr h=>?_)
 ·obtain ⟨x,a,c,st,H0,mv,pt,lk,rfl,s1000,S,D,F,k⟩:=h;rfl
 ·obtain ⟨x,a,c,st,H0,mv,pt,lk,rfl,s1000,S,D,F,k⟩:=h
  refine ⟨_,(au (bg (i:=2) pz.nd rfl (Or.inl rfl) (fv (ae (fv aj) aj)))
   (au (AO PassesOwn.never (bu QM (bR bD (by rfl) T.len bp (ae (pv 2) aj)) (pv 1) (bJ _))
    (au (bg (i:=3) pz.nd rfl (Or.inl rfl) (cS (FU T) hr T.A9 T.zb.kp T.CO (ae (bW uL (gB (pv 0) rfl) (cS (wG T) hr T.rn T.oQ.kp T.tF (ae (pv 0) (ae (bF cg (pv 2) (zg uy av)) aj)))) (ae (gB (pv 0) rfl) aj))))
   (au (dn (bu eQ (bR bD (by rfl) T.len bp (ae (pv 3) aj)) (bR bD (by rfl) T.len bp (ae (bF cg (pv 2) (zg uy av)) aj)) (bJ _)) (aB (aX (pv 2))) b8)
   (aB (kK (zh dC fh ff o9 (pv 2) (ae (pv 3) aj)))))))
   (aB (aX (pv 2))))),?_⟩
  refine aU (σ:=[some (.ref x),some (.int st),none,none]) rfl ?_;obtain ⟨dx,a',b',c',gx,_,_,_,Ga,Gb,Gc⟩:=id S;have d8:=D.n8;have i4:=D.i4;have lP:=fA (mv:=mv) (pt:=pt) rfl D.pw;walk_at "w";refine d6 fun q0 H1 s1 nq0 g1=>?_
  walk_at "w";refine d6 fun l H2 s2 nl g2=>?_
  have s02:=s1.trans s2;have nl0:H l=none:=s1.none nl;obtain ⟨Hz,eHz⟩:∃Hz,Hz=upd H l (.lst []):=⟨_,rfl⟩;have zl:Hz l≠none:=by rw[eHz,aQ];exact fun z=>nomatch z
  have zn:∀q,Hz q=none->H q=none/\q≠l:=fun q h=>by
   have ne:q≠l:=fun z=>zl (by rw[<- z];exact h)
   rw[eHz,bA ne] at h;exact ⟨h,ne⟩
  have nz:∀q,H q=none->q≠l->Hz q=none:=fun q h ne=>by rw[eHz,bA ne];exact h
  clear eHz;have q0l:q0≠l:=fun z=>by rw[z,nl] at g1;cases g1
  have G0:bS K Hz H2 q0 []:=⟨[],s2 _ _ g1,.nil,fun z=>nomatch z⟩;walk_at "w";refine C5 (fun σ' H'=>aO H H'/\∃Rs R us y,σ'=[some (.ref x),some (.int st),some (.ref l),y]/\H' l=some (.lst us)/\Paired (fun R v=>∃q,v=V.ref q/\Hz q=none/\bS K Hz H' q R) (Rs++[R]) us/\vg mv pt (Rs++[R])/\Rs.length<=st) (fun _ H'=>match H' l with | some (.lst us)=>st+1 - us.length | _=>0) ⟨s02,[],[],_,_,rfl,g2,.cons ⟨q0,rfl,nz q0 nq0 q0l,G0⟩ .nil,⟨by simp,fun t R e=>?_,fun t R R' e e'=>?_⟩,bh _⟩ ?_
  ·have ht:=(aI.mp e).1;have:t=0:=by simpa using ht
   subst this;cases e;exact ⟨[],OA⟩
  ·have ht:=(aI.mp e').1;simp at ht
  rintro σ' Ha ⟨sa,Rs,R,us,y,rfl,gu,pa,Gw,hst⟩;have lu:=pa.length;rw[ay,bQ] at lu;have eR:(Rs++[R])[Rs.length]?=some R:=by rw[be (ar _),il];rfl
  obtain ⟨ps,RR⟩:=Gw.rr _ _ eR;have tn:Rs.length<=mv.length:=by have:=Gw.len _ _ eR;have:=RR.le;have:=RR.1;lia
  have fin:∀(Hx:Hp) (sx:aO Ha Hx) (hh:∀s,(Rs.length=st/\s=st\/Rs.length < st/\Rs.length<=s)->∃ps,cC (kry mv pt s) mv.length R ps),Q (.ref l) Hx:=fun Hx sx hh=>by
   refine k l (Rs++[R]) Hx nl0 (sa.trans sx) ⟨us,sx _ _ gu,Paired.imp' (fun _ _ ⟨q,e1,e2,e3⟩=>⟨q,e1,(zn q e2).1,(zn q e2).2,bS.weakN (bS.same e3 sx) fun q h=>(zn q h).1⟩) pa⟩ Gw (by rw[ay,bQ];lia) fun R2 e2 s hs=>?_
   rw[List.getLast?_concat] at e2;cases e2;rw[ay,bQ,Nat.add_sub_cancel] at hs;exact hh s hs
  walk_at "w";refine ⟨_,_,rfl,.inl (b6.of gu),?_⟩;walk_at "w";refine iX (fun h0=>?_) (fun h0=>?_)
  ·have h0:=of_decide_eq_true h0;refine NJ ?_
   obtain ⟨zs,gS⟩:∃zs q,us=zs++[V.ref q]/\Hz q=none/\bS K Hz Ha q R:=by
    obtain ⟨v,ev,q,rfl,e2,e3⟩:∃v,us[Rs.length]?=some v/\∃q,v=V.ref q/\Hz q=none/\bS K Hz Ha q R:=by
     have ev:=ag (show Rs.length < us.length by lia);obtain ⟨R2,e2,w⟩:=cJ pa ev;rw[eR] at e2;cases e2;exact ⟨_,ev,w⟩
    refine ⟨us.take Rs.length,q,?_,e2,e3⟩;rw[<- take_snoc ev,aH (by lia)]
   obtain ⟨q,rfl,zq,Gq⟩:=gS;have gxa:=sa _ _ gx;walk_at "w";refine ⟨x,Z.a_System,dx,_,_,rfl,gxa,T.cl_System,T.na_put,zU,?_⟩;walk_at "w";refine cG (b6.of gu) (yk _ _) ?_;have wR:=RR.2.1;have lR:=RR.1;have pn:=RR.le;walk_at "w";refine ⟨x,q,H0,Hz,mv,pt,lk,R,rfl,S.same sa,D,Gq,by lia,wR,F.fit d8 D.mw D.pw tn RR,fun mr Hb nmr sb Gm=>?_⟩;obtain ⟨pv,gpv,qpv,_⟩:=Gb.same (sa.trans sb);obtain ⟨mvs,gmv,qmv,_⟩:=id Gm;have lpv:=qpv.length;have lmv:=qmv.length;rw[ak] at lmv;walk_at "w";refine uH gpv gmv (br (bT (by lia))) fun cr Hc sc nc gc=>?_
   have sab:=sa.trans (sb.trans sc);have Gc':bS K (fun _=>none) Hc cr (pt++R.map (nB mv)):=yT (H:=Hb) (cu (Paired.imp' (fun _ _ ⟨q,e1,e2,e3⟩=>⟨q,e1,rfl,e3⟩) qpv) (Paired.imp' (fun _ _ ⟨q,e1,e2,e3⟩=>⟨q,e1,rfl,e3⟩) qmv)) sc nc gc;walk_at "w";refine ⟨x,Z.a_System,dx,_,_,rfl,sab _ _ gx,T.cl_System,T.na_states,pe,?_⟩;walk_at "w";refine ⟨cr,mv.length,_,_,_,rfl,Gc',by rw[ay,ak];lia,by lia,fun xs hx=>?_,F.step d8 D.mw D.pw tn RR,fun rr R' ps' M' Hd nrr sd G' RR' pm' _ _ _=>?_⟩
   ·rcases ax.mp hx with hx | hx
    ·exact D.pw xs hx
    ·obtain ⟨y,_,rfl⟩:=aE.mp hx;exact nQ
   have sbd:=sb.trans (sc.trans sd);have sad:=sa.trans sbd;have K1:=Bo rfl D.mw D.pw RR RR';have gud:=sbd _ _ gu;obtain ⟨rv,grv,qrv,_⟩:=id G';have lrv:=qrv.length;have lR':=RR'.1;have pn':=RR'.le;walk_at "w";refine ⟨_,_,rfl,.inl (b6.of grv),?_⟩;walk_at "w";refine cG (b6.of gud) (yk _ _) ?_;obtain ⟨ov,gov,qov,_⟩:=Gq.same sbd;have lov:=qov.length;walk_at "w";refine ⟨_,_,rfl,.inl (b6.of gov),?_⟩;walk_at "w";refine iX (fun h1=>?_) (fun h1=>?_)
   ·have h1:=of_decide_eq_true h1;walk_at "w";refine fin Hd sbd fun s hs=>⟨ps,?_⟩
    obtain ⟨s',rfl⟩:∃s',s=Rs.length+s':=⟨s - Rs.length,by lia⟩;exact Jp rfl D.mw D.pw RR RR' (by lia) s'
   ·have h1:¬((rv.length:Int)=ov.length):=fun z=>h1 (decide_eq_true z)
    have gr:=K3 rfl D.mw D.pw RR K1;have rl:rr≠l:=fun z=>by rw[z,(sb.trans sc) _ _ gu] at nrr;cases nrr
    have zc:∀q,Hc q=none->Hz q=none:=fun q h=>nz q (sab.none h) (fun z=>by rw[z,(sb.trans sc) _ _ gu] at h;cases h)
    walk_at "w";refine ⟨.inl ⟨rfl,_,b6.of gud⟩,?_⟩;walk_at "w";refine o8 gud (bT (by lia)) ?_;refine ⟨⟨sad.after nl0,Rs++[R],R',_,_,rfl,aQ,cu (Paired.imp' (fun _ _ ⟨q,e1,e2,e3⟩=>⟨q,e1,e2,bS.updL (bS.same e3 sbd) gud zl (zn q e2).2⟩) pa) (.cons ⟨rr,rfl,zc rr nrr,bS.updL (G'.weakN zc) gud zl rl⟩ .nil),Gw.snoc K1 (by lia),by rw[ay,bQ];lia⟩,?_⟩;simp only[gu,aQ,ay,bQ] at lu h0 ⊢
    lia
  ·have h0:¬((us.length:Int)<=st):=fun z=>h0 (decide_eq_true z)
   walk_at "w"
   exact fin Ha (aO.refl _) fun s hs=>⟨ps,by
    have:s=Rs.length:=by lia
    rw[this];exact RR⟩
theorem Di:bc ["lists","joined","each"] ["lists"] (az yG):=by walk_at "d"
theorem M4 (T:Txt K mg Z):cN P w K mg base gJ 1 Z.DX Z.DN ["lists"] (Kc K):=by
 refine T.GO.ok Di (fun vs H Q E h=>?_) (fun cdv A outer s H vs Q E hr h=>?_)
 ·obtain ⟨p,xs,Rs,rfl,gx,qx,hl,k⟩:=h;rfl
 ·obtain ⟨p,xs,Rs,rfl,gx,qx,hl,k⟩:=h
  refine ⟨_,(au (bg (i:=1) Di.nd rfl (Or.inl rfl) (fv aj))
   (au (eE PassesOwn.never rfl (du (pv 0)) (aR (i:=2) Di.nd)
    (aB (kK (zh dC P7 P1 Cp (pv 1) (ae (pv 2) aj)))))
   (aB (aX (pv 1))))),?_⟩
  refine aU (σ:=[some (.ref p),none,none]) rfl ?_;have lx:=qx.length;walk_at "w";refine d6 fun j H1 s1 n1 g1=>?_
  walk_at "w";refine ⟨⟨_,b6.of (s1 _ _ gx)⟩,?_⟩;refine kX (K:=K) (a:=p) (xs:=xs) (fun i σ' H'=>aO H H'/\∃(us:List V) (x:Option V),σ'=[some (.ref p),some (.ref j),x]/\H' j=some (.lst us)/\Paired (cZ K (BX j) H') (Rs.take i).flatten us) ⟨s1,[],none,rfl,g1,.nil⟩ (fun i σ' H' _ ⟨s,_⟩=>b6.of (s _ _ gx)) ?_ ?_
  ·rintro i x σ' H' hx ⟨s,us,y,rfl,gj,pr⟩;obtain ⟨qs,eq,q,rfl,_,Gq⟩:=cJ qx hx;obtain ⟨qj,zs,gz,qz,_⟩:=Gq.off n1;have lz:=qz.length;have lu:=pr.length;have tl:(Rs.take (i+1)).flatten=(Rs.take i).flatten++qs:=by rw[take_snoc eq,jk];simp
   have bl:(Rs.take i).flatten.length+qs.length<=1000:=by
    have e:Rs.flatten=(Rs.take (i+1)).flatten++(Rs.drop (i+1)).flatten:=by rw[<- jk,List.take_append_drop]
    rw[e,tl,ay,ay] at hl
    lia
   walk_at "w";refine ⟨.inl ⟨rfl,_,b6.of gj⟩,?_⟩;walk_at "w";refine ⟨j,q,us,zs,rfl,rfl,gj,s _ _ gz,br (bT (by lia)),?_⟩;refine ⟨s.after n1,_,_,rfl,aQ,?_⟩;rw[tl];exact cu (Paired.imp' (fun _ _ z=>cZ.updL z gj off_ne) pr) (Paired.imp' (fun _ _ z=>cZ.updL (cZ.same z s) gj off_ne) qz)
  ·rintro σ' H' ⟨s,us,y,rfl,gj,pr⟩;rw[aH (by lia)] at pr;walk_at "w";refine k j (BX j) H' n1 s ⟨us,gj,pr,fun z=>?_⟩;obtain ⟨_,_,q,e,h,_⟩:=dS pr z;cases e;exact off_ne h
theorem kF:bc ["system","steps","lists","rows","step"] ["system","steps"] (az jZ):=by walk_at "d"
theorem Dt (T:Txt K mg Z):cN P w K mg base gJ 7 Z.qP Z.qo ["system","steps"] (Kf K Z.a_System):=by
 refine T.vo.ok kF (fun vs H Q E h=>?_) (fun cdv A outer s H vs Q E hr h=>?_)
 ·obtain ⟨x,u,a,c,H0,mv,pt,lk,rfl,hu,S,D,F,k⟩:=h;rfl
 ·obtain ⟨x,u,a,c,H0,mv,pt,lk,rfl,hu,S,D,F,k⟩:=h
  refine ⟨_,(au (bg (i:=2) kF.nd rfl (Or.inl rfl) (fv aj))
   (au (bg (i:=3) kF.nd rfl (Or.inl rfl) (gB (pv 0) rfl))
   (au (eE PassesOwn.never rfl (cy rfl T.range (ae (pv 1) aj)) (aR (i:=4) kF.nd)
    (au (kK (zh dC fh ff o9 (pv 2) (ae (pv 3) aj)))
   (aB (bg (i:=3) kF.nd rfl (Or.inl rfl) (cS (wG T) hr T.rn T.oQ.kp T.tF (ae (pv 0) (ae (pv 3) aj)))))))
   (aB (aX (pv 2)))))),?_⟩
  refine aU (σ:=[some (.ref x),some (.int u),none,none,none]) rfl ?_;obtain ⟨dx,a',b',c',gx,_,_,_,Ga,Gb,Gc⟩:=id S;have d8:=D.n8;have i4:=D.i4;walk_at "w";refine d6 fun l H1 s1 n1 g1=>?_
  walk_at "w";refine ⟨x,Z.a_System,dx,_,_,rfl,s1 _ _ gx,T.cl_System,T.na_put,zU,?_⟩;walk_at "w";obtain ⟨bl,G0⟩:=Gb.off n1;have G1:=G0.same s1;refine ⟨by lia,by lia,?_⟩;refine dU (n:=u) (fun i σ' H'=>aO H H'/\∃q us y,σ'=[some (.ref x),some (.int u),some (.ref l),some (.ref q),y]/\q≠l/\H' l=some (.lst us)/\Paired (JH K l H') (JC mv pt i) us/\bS K (BX l) H' q (pt.map (eN mv i))) ⟨s1,b',[],_,rfl,bl,g1,.nil,by rw[show pt.map (eN mv 0)=pt from yu pt];exact G1⟩ ?_ ?_
  ·rintro i σ' H' hi ⟨s',q,us,y,rfl,ql,gu,pu,Gq⟩;have lu:=pu.length;have la:(JC mv pt i).length=i:=by unfold JC;rw[ak,cm]
   walk_at "w";refine ⟨.inl ⟨rfl,_,b6.of gu⟩,?_⟩;walk_at "w";refine o8 gu (bT (by lia)) ?_;have s2:aO H (upd H' l (.lst (us++[V.ref q]))):=s'.after n1;have g2:(upd H' l (.lst (us++[V.ref q]))) l=some (.lst (us++[V.ref q])):=aQ
   have p2:Paired (JH K l (upd H' l (.lst (us++[V.ref q])))) (JC mv pt (i+1)) (us++[V.ref q]):=by
    rw[DW];exact cu (Paired.imp' (fun _ _ z=>JH.upd z gu) pu) (.cons ⟨q,rfl,ql,Gq.updL gu off_ne ql⟩ .nil)
   have Gq2:=Gq.updL (o:=.lst (us++[V.ref q])) gu off_ne ql;generalize upd H' l (.lst (us++[V.ref q]))=H2 at s2 g2 p2 Gq2 ⊢;walk_at "w";refine ⟨x,q,H0,BX l,mv,pt,lk,_,rfl,S.same s2,D,Gq2,by rw[ak];lia,fun r hr=>?_,F.fitP D.mw D.pw (by lia),fun r H3 nr s3 G3=>?_⟩
   ·obtain ⟨y,hy,rfl⟩:=aE.mp hr;exact mC (D.pw y hy) i
   ·have e:(pt.map (eN mv i)).map (nB mv)=pt.map (eN mv (i+1)):=by rw[rg];rfl
    rw[e] at G3;exact ⟨s2.trans s3,r,_,_,rfl,fun z=>(by rw[z,g2] at nr;cases nr),s3 _ _ g2,Paired.imp' (fun _ _ z=>JH.same z s3) p2,G3.weakN fun q h=>KH fun z=>by rw[z,g2] at h;cases h⟩
  ·rintro σ' H' ⟨s',q,us,y,rfl,ql,gu,pu,Gq⟩;walk_at "w";exact k l us H' n1 s' gu pu
theorem BL:bc ["many"] ["many"] (az iK):=by walk_at "d"
theorem mD (T:Txt K mg Z):cN P w K mg base gJ 1 Z.oE Z.oo ["many"] (Oo K):=by
 refine T.jg.ok BL (fun vs H Q E h=>?_) (fun cdv A outer s H vs Q E hr h=>?_)
 ·obtain ⟨m,rfl,hm,k⟩:=h;rfl
 ·obtain ⟨m,rfl,hm,k⟩:=h;refine ⟨_,(aB (aX (cP ["place"] [] [] (cy rfl T.range (ae (pv 0) aj)) (fun _=>(aR (i:=0) (show List.Nodup (α:=PySem.Str) ["place"] by decide +kernel))) (fun _=>cQ) (fun _=>(xF (v:=.ref Z.a_NOUGHT) rfl T.mg_NOUGHT rfl))))),?_⟩;refine aU (σ:=[some (.int m)]) rfl ?_;walk_at "w";refine ⟨by lia,by lia,?_⟩;refine fW (n:=m) (cF K) (fun _=>0) (by lia) (fun a b=>a.same b) ?_ ?_
  ·rintro i Ha NY NN hi sa k1;walk_at "w";exact k1 _ _ (aO.refl _) ⟨_,rfl,T.sq_NOUGHT _⟩
  ·rintro ys H1 t ht s1 g1 pr _;exact k t H1 ht s1 ⟨ys,g1,by rw[<- KQ];exact pr⟩
theorem rK:bc ["rows","wide","due","found","answer","line","lead"] ["rows","wide","due"] (az rL):=by walk_at "d"
theorem Cn (T:Txt K mg Z):cN P w K mg base gJ 5 Z.yl Z.xY ["rows","wide","due"] (Fu K):=by
 refine T.yp.ok rK (fun vs H Q E h=>?_) (fun cdv A outer s H vs Q E hr h=>?_)
 ·obtain ⟨p,q,n,w,H0,rows,due,rfl,G,Rd,hd,m99,n99,hw,F,k1,k2⟩:=h;rfl
 ·obtain ⟨p,q,n,w,H0,rows,due,rfl,G,Rd,hd,m99,n99,hw,F,k1,k2⟩:=h
  refine ⟨_,(au (bg (i:=3) rK.nd rfl (Or.inl rfl) (cS (Ey T) hr T.A8 T.Al.kp T.DS (ae (cP ["row","wanted"] [] [] (vE rfl T.zip (ae (pv 0) (ae (pv 2) aj))) (fun _=>(vF K 2 (cx (aR (i:=0) (show List.Nodup (α:=PySem.Str) ["row","wanted"] by decide +kernel)) (cx (aR (i:=1) (show List.Nodup (α:=PySem.Str) ["row","wanted"] by decide +kernel)) h9)))) (fun _=>cQ) (fun _=>(bW uL (pv 0) (fv (ae (pv 1) aj))))) (ae (bW gY (pv 1) av) aj))))
   (au (dn (bu Jf (pv 1) (bF cB (pv 3) av) (by with_unfolding_all rfl)) (aB (aX Dp)) b8)
   (au (bg (i:=4) rK.nd rfl (Or.inl rfl) (cS (mD T) hr T.jy T.jg.kp T.lA (ae (pv 1) aj)))
   (au (eE PassesOwn.never rfl (vE rfl T.zip (ae (bF cB (pv 3) av) (ae (bF cB (pv 3) av) aj))) (sL rfl (cx (aR (i:=5) rK.nd) (cx (aR (i:=6) rK.nd) h9)))
    (aB (fu (cS (vG T) hr T.rR T.sC.kp T.u6 (ae (bF cg (pv 5) (pv 1)) (ae (bF cg (pv 5) (pv 6)) aj))) (js (pv 4) (pv 6) set_list))))
   (aB (aX (pv 4))))))),?_⟩
  refine aU (σ:=[some (.ref p),some (.int n),some (.ref q),none,none,none,none]) rfl ?_;obtain ⟨xs,gx,qx,_⟩:=id G;obtain ⟨ds,gd,qd⟩:=id Rd;have lx:=qx.length;have ld:=qd.length;have lj:=rA hd;walk_at "w";refine ⟨⟨_,b6.of gx⟩,⟨_,b6.of gd⟩,?_⟩;refine uY (K:=K) (xs:=xs) (ws:=ds) (fun i ys H'=>aO H H'/\Paired (cZ K H H') ((cY rows due).take i) ys) (br (bT (by lia))) (by lia) ⟨aO.refl _,.nil⟩ (fun i ys H' _ ⟨s,_⟩=>⟨b6.of (s _ _ gx),b6.of (s _ _ gd)⟩) ?_ ?_
  ·rintro i v1 v2 ys H' r h1 h2 hy ⟨s,pr⟩ hr;obtain ⟨row,er,u,rfl,_,Ru⟩:=cJ qx h1;obtain ⟨d,ed,nd⟩:=cJ qd h2;have wr:=hw row (aA er);have sr:aO H' (upd H' r (.tup [.ref u,v2])):=aO.new hr;have gr:(upd H' r (.tup [.ref u,v2])) r=some (.tup [.ref u,v2]):=aQ;generalize upd H' r (.tup [.ref u,v2])=H2 at sr gr ⊢;have s2:=s.trans sr;walk_at "w";refine d6 fun l1 H3 s3 n3 g3=>?_
   have s23:=s2.trans s3;obtain ⟨zs,gz,qz⟩:=Ru.same s23;have lz:=qz.length;walk_at "w";refine uH gz g3 (br (bT (by rw[bQ];lia))) fun l2 H4 s4 n4 g4=>?_
   refine ⟨s23.trans s4,?_⟩;rw[take_snoc (NR er ed)];exact cu (Paired.imp' (fun _ _ z=>cZ.same z ((sr.trans s3).trans s4)) pr) (.cons ⟨l2,rfl,s23.none n4,_,g4,Paired.imp' (fun _ _ z=>cF.same z s4) (cu qz (.cons (nd.same s23) .nil))⟩ .nil)
  rintro ys H1 hy ⟨s1,pr⟩ l hl;have sn:aO H1 (upd H1 l (.lst ys)):=aO.new hl;have gn:(upd H1 l (.lst ys)) l=some (.lst ys):=aQ;rw[aH (by lia)] at pr;generalize upd H1 l (.lst ys)=H2 at sn gn ⊢;have GJ:bS K H H2 l (cY rows due):=yT pr sn hl gn;have s02:=s1.trans sn;walk_at "w";rw[show ((n:Int)+1)=((n+1:Nat):Int) by lia];refine ⟨l,n+1,w,H,_,rfl,GJ,by lia,by lia,xT hw,F,fun t lp qp R ps d ls H3 gt gq GZ s3 S=>?_⟩;have s03:=s02.trans s3;have pn:=S.rr.le;walk_at "w";refine ⟨qp,nE ps,rfl,.inl (b6.of gq),rfl,Jl,?_⟩;rw[K8];by_cases hn:n∈ps
  ·rw[decide_eq_true hn,show (if false=true then !true else true)=true from rfl];walk_at "w";exact k2 R ps H3 S.rr hn s03
  ·rw[decide_eq_false hn,show (if false=true then !false else false)=false from rfl];obtain ⟨lR,wR,rr⟩:=id S.rr;obtain ⟨_,zs,gz,qz⟩:=id GZ;have lz:=qz.length;have hl':=S.len
   have low:∀j,j < ps.length->ps.getD j 0 < n:=fun j hj=>by
    have:=rr.low j hj;have:ps.getD j 0≠n:=fun z=>hn (by rw[<- z];exact getD_in hj)
    lia
   obtain ⟨_,_,_,_,_,_,_,_,_,e89⟩:=id F;rw[lj] at e89;have dsz:Sz 8999 d:=bC S.dsz (dX (by decide) (by rw[lj];lia));have lps:=KI (ps:=ps);walk_at "w";refine ⟨n,rfl,by lia,fun an H4 na s4 R4=>?_⟩;rw[<- Mg (R:=R) (ps:=ps)] at R4;obtain ⟨vs0,g0,q0⟩:=id R4;have gt4:=s4 _ _ gt;walk_at "w";refine ⟨⟨_,b6.of (s4 _ _ gz)⟩,⟨_,b6.of (s4 _ _ gq)⟩,?_⟩;refine Nc (K:=K) (xs:=zs) (ws:=nE ps) (fun j σ' H'=>aO H3 H'/\∃y1 y2 vs,σ'=[some (.ref p),some (.int n),some (.ref q),some (.ref t),some (.ref an),y1,y2]/\H' an=some (.lst vs)/\Paired (cF K H') (xy R ps n j) vs) (by lia) ⟨s4,_,_,vs0,rfl,g0,q0⟩ (fun j σ' H' _ ⟨e,_⟩=>⟨b6.of (e _ _ gz),b6.of (e _ _ gq)⟩) ?_ ?_
   ·rintro j v1 v2 σ' H' r h1 h2 ⟨s',y1,y2,vs,rfl,ga,qa⟩ hr;obtain ⟨line,el,u,rfl,_,gu⟩:=cJ qz h1;have wl:=S.wide line (aA el);obtain ⟨pj,ej,rfl⟩:=M8 h2;have hj:j < ps.length:=(aI.mp ej).1;have ejD:ps.getD j 0=pj:=by rw[aa,ej];rfl
    have pjn:=low j hj;rw[ejD] at pjn;have v0:=S.val j n;rw[JN el] at v0
    have ed:line.getD pj 0=d:=by
     have h:=S.val j pj;rw[JN el] at h;have u:=rr.unit j hj j hj;rw[if_pos rfl,ejD] at u;rw[u,LL] at h;exact dM.mp h
    have sr:aO H' (upd H' r (.tup [.ref u,.int pj])):=aO.new hr;have gr:(upd H' r (.tup [.ref u,.int pj])) r=some (.tup [.ref u,.int pj]):=aQ;generalize upd H' r (.tup [.ref u,.int pj])=H5 at sr gr ⊢;have gu5:=(s'.trans sr) _ _ gu;walk_at "w";refine cG (b6.of gu5) (Aq (by lia)) ?_;walk_at "w";refine cG (b6.of gu5) (Aq (by lia)) ?_;rw[ed];walk_at "w";refine ⟨_,d,rfl,S.d0,dsz,fun r6 H6 s6 g6=>?_⟩;have d0:(d:Rat)≠0:=fun z=>S.d0 (rV z)
    have n6:cF K H6 (cD R j n) (.ref r6):=by
     refine cF.mk g6 ?_;rcases Int.lt_or_lt_of_ne S.d0 with hd' | hd'
     ·rw[if_pos hd',if_pos hd'];refine sS (by lia) ?_;rw[dq,dq,v0];grind
     ·rw[if_neg (by lia),if_neg (by lia)];refine sS hd' ?_;rw[v0];grind
    have ga6:=(sr.trans s6) _ _ ga;have la:=qa.length;rw[lQ] at la;walk_at "w";refine fN ga6 (gC (by lia)) rfl ?_;refine ⟨((s'.trans sr).trans s6).after na,_,_,_,rfl,aQ,?_⟩;rw[<- Mh S.rr hj,ejD];exact pB (Paired.imp' (fun _ _ z=>(cF.same z (sr.trans s6)).updL ga6) qa) pj (n6.updL ga6)
   ·rintro σ' H' ⟨s',y1,y2,vs,rfl,ga,qa⟩;rw[show zs.length=ps.length by lia] at qa;walk_at "w";refine k1 an R ps d.natAbs H' S.rr hn (s03.none na) (s03.trans s') ⟨vs,ga,qa⟩ (by have:=S.d0;lia) (by rw[<- lj];exact S.dsz) ?_;rw[<- lj];exact Qs (by have:=S.d0;lia) S.tp S.rr
theorem AH:bc ["grid","wide"] ["grid","wide"] (az gN):=by walk_at "d"
theorem kN (T:Txt K mg Z):cN P w K mg base gJ 1 Z.mV Z.mI ["grid","wide"] (JY K):=by
 refine T.gX.ok AH (fun vs H Q E h=>?_) (fun cdv A outer s H vs Q E hr h=>?_)
 ·obtain ⟨p,w,H0,rows,rfl,hp,hz,hw,hl,kk⟩:=h;rfl
 ·obtain ⟨p,w,H0,rows,rfl,hp,hz,hw,hl,kk⟩:=h;refine ⟨_,(aB (aX (cP ["place"] ["grid"] [0] (cy rfl T.range (ae (pv 1) aj)) (fun _=>(aR (i:=0) (show List.Nodup (α:=PySem.Str) ["place","grid"] by decide +kernel) rfl (Or.inr rfl) (Or.inl rfl))) (fun _=>cQ) (fun _=>(cP ["line"] ["place"] [0] (Ew K (pv 1)) (fun _=>(aR (i:=0) (show List.Nodup (α:=PySem.Str) ["line","place"] by decide +kernel))) (fun _=>cQ) (fun _=>(bF (kW K (by rfl)) (pv 0) (pv 1)))))))),?_⟩;refine aU (σ:=[some (.ref p),some (.int w)]) rfl ?_;walk_at "w";refine ⟨by lia,by lia,?_⟩;refine fW (n:=w) (cZ K H) (fun j=>rows.map fun xs=>xs.getD j 0) hw (fun a b=>a.same b) ?_ ?_
  ·rintro j H1 NY NN hj s1 k1;obtain ⟨xs,gx,qx,_⟩:=hp.same s1;walk_at "w";refine ⟨⟨_,b6.of gx⟩,?_⟩;refine gV (K:=K) (F:=cZ K H0) (cF K) (fun xs=>xs.getD j 0) gx qx hz (fun a b=>a.same b) (fun a b=>a.same b) ?_ ?_
   ·rintro i ns x H2 NY2 NN2 en s2 ⟨u,rfl,_,zs,gz,qz⟩ k2;obtain ⟨v,ev,hv⟩:=Jq qz (j:=j) (by rw[hl ns (aA en)];exact hj);walk_at "w";refine cG (b6.of gz) ev ?_;exact k2 _ _ (aO.refl _) hv
   ·rintro ys' H2 r hr s2 g pr nx;exact k1 _ _ s2 ⟨r,rfl,s1.none hr,ys',g,pr⟩
  ·rintro ys' H1 r hr s1 g pr nx;exact kk r H1 hr s1 ⟨ys',g,pr,nV nx⟩
theorem AE:bc ["rows","wide","due","answer","columns"] ["rows","wide","due"] (az vC):=by walk_at "d"
theorem KE (T:Txt K mg Z):cN P w K mg base gJ 6 Z.Ah Z.Ac ["rows","wide","due"] (IC K):=by
 refine T.D5.ok AE (fun vs H Q E h=>?_) (fun cdv A outer s H vs Q E hr h=>?_)
 ·obtain ⟨p,q,n,w,w1,H0,rows,due,rfl,G,Rd,hd,m90,n90,hw,F,F1,k1,k2⟩:=h;rfl
 ·obtain ⟨p,q,n,w,w1,H0,rows,due,rfl,G,Rd,hd,m90,n90,hw,F,F1,k1,k2⟩:=h
  refine ⟨_,(au (bg (i:=3) AE.nd rfl (Or.inl rfl) (cS (Cn T) hr T.yP T.yp.kp T.Bx (ae (pv 0) (ae (pv 1) (ae (pv 2) aj)))))
   (au (dn (bu HF (pv 3) Dp (bJ _)) (aB (aX (dA (ae jt (ae (pv 3) aj))))) b8)
   (au (bg (i:=4) AE.nd rfl (Or.inl rfl) (cS (kN T) hr T.iB T.gX.kp T.jA (ae (pv 0) (ae (pv 1) aj))))
   (aB (aX (dA (ae jt (ae (cS (Cn T) hr T.yP T.yp.kp T.Bx (ae (bW uL (pv 4) (fv (ae (pv 2) aj))) (ae (bR bD (by rfl) T.len bp (ae (pv 0) aj)) (ae (bW uL (cS (mD T) hr T.jy T.jg.kp T.lA (ae (pv 1) aj)) (fv (ae (xF (v:=.ref Z.a_ONE) rfl T.mg_ONE rfl) aj))) aj)))) aj)))))))),?_⟩
  refine aU (σ:=[some (.ref p),some (.int n),some (.ref q),none,none]) rfl ?_;walk_at "w";refine ⟨p,q,n,w,H0,rows,due,rfl,G,Rd,hd,by lia,by lia,hw,F,fun x R ps M H1 RR hn nx s1 Rx M0 M1 tM=>?_,fun R ps H1 RR hn s1=>?_⟩
  ·walk_at "w";refine ⟨rfl,_,rfl,?_⟩;rw[show decide (V.ref x=V.non)=false from decide_eq_false (fun z=>nomatch z)];walk_at "w";refine cE fun t H2 s2 g2=>?_
   exact k1 t x R ps M H2 RR hn g2 nx (s1.trans s2) (Rx.same s2) M0 M1 tM
  ·walk_at "w";refine ⟨rfl,_,rfl,?_⟩;rw[show decide (V.non=V.non)=true from decide_eq_true rfl];walk_at "w";refine ⟨p,n,H0,rows,rfl,G.same s1,by lia,by lia,hw,fun co H2 nc s2 G2=>?_⟩;have s02:=s1.trans s2;walk_at "w";refine d6 fun l3 H3 s3 n3 g3=>?_
   obtain ⟨cs,gc,qc,_⟩:=G2.same s3;have lc:=qc.length;rw[bZ] at lc;walk_at "w";refine uH gc g3 (br (bT (by rw[bQ];lia))) fun l4 H4 s4 n4 g4=>?_
   have s03:=s02.trans s3;have s04:=s03.trans s4;have G4:bS K (fun _=>none) H4 l4 (aW rows n++[due]):=yT (H:=H3) (cu (Paired.imp' (fun _ _ ⟨q',a,_,c⟩=>⟨q',a,rfl,c⟩) qc) (.cons ⟨q,rfl,rfl,Rd.same s03⟩ .nil)) s4 n4 g4;obtain ⟨xs,gx,qx,_⟩:=G.same s04;have lx:=qx.length;walk_at "w";refine ⟨_,_,rfl,.inl (b6.of gx),?_⟩;rw[<- lx];walk_at "w";refine ⟨n,rfl,by lia,fun l5 H5 n5 s5 R5=>?_⟩;walk_at "w";refine d6 fun l6 H6 s6 n6 g6=>?_
   obtain ⟨zs,gz,qz⟩:=R5.same s6;have lz:=qz.length;rw[aF] at lz;walk_at "w";refine uH gz g6 (br (bT (by rw[bQ];lia))) fun l7 H7 s7 n7 g7=>?_
   have s47:=(s5.trans s6).trans s7;have s07:=s04.trans s47;have R7:cK K H7 l7 (List.replicate n 0++[1]):=⟨_,g7,Paired.imp' (fun _ _ z=>cF.same z s7) (cu qz (.cons ⟨_,rfl,T.sq_ONE _⟩ .nil))⟩;have l1:(aW rows n++[due]).length=n+1:=by rw[ay,bZ];rfl
   have w1':∀xs∈aW rows n++[due],xs.length=rows.length:=fun xs hx=>by
    rcases ax.mp hx with hx | hx
    ·exact jU xs hx
    ·rw[bU.mp hx];exact hd
   walk_at "w";refine ⟨l4,l7,rows.length,w1,_,_,_,rfl,G4.same s47,R7,by rw[l1,ay,aF];rfl,by lia,by lia,w1',F1,fun x R1 p1 M H8 RR1 hn1 nx s8 Rx M0 M1 tM=>?_,fun R1 p1 H8 RR1 hn1 s8=>?_⟩
   ·walk_at "w";refine cE fun t H9 s9 g9=>?_
    rw[l1] at M1 tM;exact k2 t x R ps R1 p1 M H9 RR hn RR1 hn1 g9 (s07.none nx) ((s07.trans s8).trans s9) (Rx.same s9) M0 M1 tM
   ·exact absurd hn1 (Ja hd hw RR hn RR1)
theorem uD:bc ["rows","wide","row","answer"] ["rows","wide","row"] (az gK):=by walk_at "d"
theorem A0 (T:Txt K mg Z):cN P w K mg base gJ 7 Z.mS Z.mF ["rows","wide","row"] (Ef K):=by
 refine T.rE.ok uD (fun vs H Q E h=>?_) (fun cdv A outer s H vs Q E hr h=>?_)
 ·obtain ⟨p,q,n,w,w1,H0,rows,row,rfl,G,Rr,hl,m90,n90,hw,F,F1,k1,k2⟩:=h;rfl
 ·obtain ⟨p,q,n,w,w1,H0,rows,row,rfl,G,Rr,hl,m90,n90,hw,F,F1,k1,k2⟩:=h
  refine ⟨_,(au (bg (i:=3) uD.nd rfl (Or.inl rfl) (cS (KE T) hr T.ED T.D5.kp T.Ig (ae (cS (kN T) hr T.iB T.gX.kp T.jA (ae (pv 0) (ae (pv 1) aj))) (ae (bR bD (by rfl) T.len bp (ae (pv 0) aj)) (ae (pv 2) aj)))))
   (aB (aX (dA (ae (Kz (bu eQ (bF cB (pv 3) av) jt (bJ _)) jt jt) (ae (bF cB (pv 3) av) aj)))))),?_⟩
  refine aU (σ:=[some (.ref p),some (.int n),some (.ref q),none]) rfl ?_;walk_at "w";refine ⟨p,n,H0,rows,rfl,G,by lia,by lia,hw,fun co H1 nc s1 G1=>?_⟩;obtain ⟨xs,gx,qx,_⟩:=G.same s1;have lx:=qx.length;walk_at "w";refine ⟨_,_,rfl,.inl (b6.of gx),?_⟩;rw[<- lx];have lT:(aW rows n).length=n:=bZ;have eS:JW (aW rows n) rows.length row=cY (rows++[row]) (List.replicate rows.length 0++[1]):=by unfold JW;rw[Iv hw]
  walk_at "w";refine ⟨co,q,rows.length,w,w1,_,aW rows n,row,rfl,G1,Rr.same s1,by lia,by lia,by lia,fun xs hx=>jU xs hx,F,by rw[eS,lT];exact F1,fun t x R ps M H2 RR hn g2 nx s2 Rx M0 M1 tM=>?_,fun t x R ps R1 p1 M H2 RR hn RR1 hn1 g2 nx s2 Rx M0 M1 tM=>?_⟩
  ·rw[lT] at M1 tM;walk_at "w";rw[decide_eq_true rfl];walk_at "w";refine cE fun t2 H3 s3 g3=>?_
   exact k1 t2 x R ps M H3 RR hn g3 (s1.none nx) ((s1.trans s2).trans s3) (Rx.same s3) M0 M1 tM
  ·rw[lT] at M1 tM RR1 hn1 Rx;rw[eS] at RR1;walk_at "w";rw[decide_eq_false (show ¬(Str.ofString "no"=Str.ofString "yes") by decide)];walk_at "w";refine cE fun t2 H3 s3 g3=>?_
   exact k2 t2 x R ps R1 p1 M H3 RR hn RR1 hn1 g3 (s1.none nx) ((s1.trans s2).trans s3) (Rx.same s3) M0 M1 tM
theorem Ki:bc ["one","other"] ["one","other"] (az vD):=by walk_at "d"
theorem KG (T:Txt K mg Z):cN P w K mg base gJ 3 Z.Ai Z.Ad ["one","other"] (uC K (fun x y=>x - y)):=by
 refine T.D6.ok Ki (fun vs H Q E h=>?_) (fun cdv A outer s H vs Q E hr h=>?_)
 ·obtain ⟨p,q,a,b,c,d,rfl,hp,hq,hb,hd,sa,sb,sc,sd,k⟩:=zV h;rfl
 ·obtain ⟨p,q,a,b,c,d,rfl,hp,hq,hb,hd,sa,sb,sc,sd,k⟩:=zV h;refine ⟨_,(aB (aX (cS (vG T) hr T.rR T.sC.kp T.u6 (ae (bW pE (bW dE (bF cB (pv 0) av) (bF cB (pv 1) av)) (bW dE (bF cB (pv 1) av) (bF cB (pv 0) av))) (ae (bW dE (bF cB (pv 0) av) (bF cB (pv 1) av)) aj))))),?_⟩;refine aU (σ:=[some (.ref p),some (.ref q)]) rfl ?_;have hbd:0 < b*d:=pU hb hd;have sbd:Sz 8999 (b*d):=(sb.mul sd).mono (by decide);walk_at "w";refine gH (show jm _ _ from .inr ⟨_,_,sa,sd,by decide⟩) ?_;walk_at "w";refine gH (show jm _ _ from .inr ⟨_,_,sc,sb,by decide⟩) ?_;walk_at "w";refine gH (show jm _ _ from .inr ⟨_,_,sb,sd,by decide⟩) ?_;walk_at "w";walk_at "w";refine ⟨_,_,rfl,by lia,sbd,fun r H' s' h'=>?_⟩;rw[if_neg (by lia),if_neg (by lia)] at h';exact k r H' s' h'
theorem Dg:bc ["one","other"] ["one","other"] (az jX):=by walk_at "d"
theorem Dq (T:Txt K mg Z):cN P w K mg base gJ 4 Z.qN Z.qh ["one","other"] (Cg K):=by
 refine T.vm.ok Dg (fun vs H Q E h=>?_) (fun cdv A outer s H vs Q E hr h=>?_)
 ·obtain ⟨p,q,xq,yq,rfl,hp,hq,hl,hz,hn,hm,k⟩:=h;rfl
 ·obtain ⟨p,q,xq,yq,rfl,hp,hq,hl,hz,hn,hm,k⟩:=h;refine ⟨_,(aB (aX (cP ["mine","yours"] [] [] (vE rfl T.zip (ae (pv 0) (ae (pv 1) aj))) (fun _=>(vF K 2 (cx (aR (i:=0) (show List.Nodup (α:=PySem.Str) ["mine","yours"] by decide +kernel)) (cx (aR (i:=1) (show List.Nodup (α:=PySem.Str) ["mine","yours"] by decide +kernel)) h9)))) (fun _=>cQ) (fun _=>(cS (KG T) hr T.EE T.D6.kp T.Ih (ae (pv 0) (ae (pv 1) aj))))))),?_⟩;refine aU (σ:=[some (.ref p),some (.ref q)]) rfl ?_;obtain ⟨xs,gx,qx⟩:=id hp;obtain ⟨ys,gy,qy⟩:=id hq;have lx:=qx.length;have ly:=qy.length;walk_at "w";refine ⟨⟨_,b6.of gx⟩,⟨_,b6.of gy⟩,?_⟩;refine uY (K:=K) (xs:=xs) (ws:=ys) (fun i zs H'=>aO H H'/\Paired (cF K H') ((List.zipWith (fun x y=>x - y) xq yq).take i) zs) (br (bT (by lia))) (by lia) ⟨aO.refl _,.nil⟩ (fun i zs H' _ ⟨s,_⟩=>⟨b6.of (s _ _ gx),b6.of (s _ _ gy)⟩) ?_ ?_
  ·rintro i x y zs H' r hx hy hlen ⟨s,hP⟩ hr;obtain ⟨n,en,hn1⟩:=cJ qx hx;obtain ⟨m,em,hm1⟩:=cJ qy hy;have s1:=aO.new (o:=.tup [x,y]) hr;have s01:=s.trans s1;have gr:(upd H' r (.tup [x,y])) r=some (.tup [x,y]):=aQ;generalize upd H' r (.tup [x,y])=Hr at s1 s01 gr ⊢;walk_at "w";refine ⟨_,_,n,m,rfl,hn1.same s01,hm1.same s01,hn n (aA en),hm m (aA em),fun r3 H3 s3 h3=>?_⟩;refine ⟨s01.trans s3,?_⟩;have ez:(List.zipWith (fun x y=>x - y) xq yq)[i]?=some (n - m):=by rw[bY,en,em]
   rw[take_snoc ez];exact cu (Paired.imp' (fun _ _ z=>z.same (s1.trans s3)) hP) (.cons h3 .nil)
  ·rintro zs H' hy ⟨s,hP⟩ l hl';rw[aH (by rw[bx];lia)] at hP;exact k l _ (s.none hl') (s.trans (aO.new hl')) ⟨zs,aQ,Paired.imp' (fun _ _ z=>z.same (aO.new hl')) hP⟩
theorem t7:bc ["self","state","puts","columns"] ["self","state","puts"] (az fU):=by walk_at "d"
theorem zN (T:Txt K mg Z):cN P w K mg base gJ 5 Z.lF Z.lh ["self","state","puts"] (IG K Z.a_System):=by
 refine T.vz.ok t7 (fun vs H Q E h=>?_) (fun cdv A outer s H vs Q E hr h=>?_)
 ·obtain ⟨x,p,q,H0,mv,pt,lk,st,pu,rfl,S,D,F,hp,hq,l1,l2,fs,k⟩:=h;rfl
 ·obtain ⟨x,p,q,H0,mv,pt,lk,st,pu,rfl,S,D,F,hp,hq,l1,l2,fs,k⟩:=h
  refine ⟨_,(au (bg (i:=3) t7.nd rfl (Or.inl rfl) (cS (kN T) hr T.iB T.gX.kp T.jA (ae (gB (pv 0) rfl) (ae (gB (pv 0) rfl) aj))))
   (aB (aX (cP ["line","column"] ["state","puts"] [1,2] (vE rfl T.zip (ae (gB (pv 0) rfl) (ae (pv 3) aj))) (fun _=>(vF K 2 (cx (aR (i:=0) (show List.Nodup (α:=PySem.Str) ["line","column","state","puts"] by decide +kernel)) (cx (aR (i:=1) (show List.Nodup (α:=PySem.Str) ["line","column","state","puts"] by decide +kernel)) h9)))) (fun _=>cQ) (fun _=>(cS (A1 T) hr T.xk T.v5.kp T.yY (ae (bW uL (pv 0) (pv 1)) (ae (bW uL (pv 2) (pv 3)) aj)))))))),?_⟩
  refine aU (σ:=[some (.ref x),some (.ref p),some (.ref q),none]) rfl ?_;obtain ⟨dx,a,b,c,gx,n1,n2,n3,Ga,Gb,Gc⟩:=id S;have d1:=D.n8;have d2:=D.i4;walk_at "w";refine ⟨x,Z.a_System,dx,_,_,rfl,gx,T.cl_System,T.na_put,zU,?_⟩;walk_at "w";refine ⟨x,Z.a_System,dx,_,_,rfl,gx,T.cl_System,T.na_states,pe,?_⟩;walk_at "w";refine ⟨b,mv.length,H0,pt,rfl,Gb,by lia,by lia,D.pw,fun t H1 nt s1 Gt=>?_⟩;obtain ⟨as,ga,qa,_⟩:=Ga.same s1;obtain ⟨ts,gt,qt,_⟩:=id Gt;have la:=qa.length;have lt:=qt.length;rw[bZ] at lt;have gx1:=s1 _ _ gx;walk_at "w";refine ⟨x,Z.a_System,dx,_,_,rfl,gx1,T.cl_System,T.na_move,Ay,?_⟩;walk_at "w";refine ⟨⟨_,b6.of ga⟩,⟨_,b6.of gt⟩,?_⟩;refine uY (K:=K) (xs:=as) (ws:=ts) (fun i ys H'=>aO H1 H'/\Paired (cF K H') ((gZ mv pt st pu).take i) ys) (br (bT (by lia))) (by lia) ⟨aO.refl _,.nil⟩ (fun i ys H' _ ⟨s,_⟩=>⟨b6.of (s _ _ ga),b6.of (s _ _ gt)⟩) ?_ ?_
  ·rintro i v1 v2 ys H' r h1 h2 hy ⟨s,pr⟩ hr;obtain ⟨line,el,u1,rfl,_,R1⟩:=cJ qa h1;obtain ⟨col,ec,u2,rfl,_,R2⟩:=cJ qt h2;have ml:=aA el;have mc:=aA ec;have sr:aO H' (upd H' r (.tup [.ref u1,.ref u2])):=aO.new hr;have gr:(upd H' r (.tup [.ref u1,.ref u2])) r=some (.tup [.ref u1,.ref u2]):=aQ;have s2:=s.trans sr;generalize upd H' r (.tup [.ref u1,.ref u2])=H2 at sr gr s2 ⊢;have lc:col.length=pt.length:=jU col mc;have ll:line.length=mv.length:=D.mw line ml;obtain ⟨z1,g1,q1⟩:=R1.same s2;obtain ⟨z2,g2,q2⟩:=R2.same s2;have y1:=q1.length;have y2:=q2.length;walk_at "w";refine uH g1 g2 (br (bT (by lia))) fun c1 H3 s3 n3' g3=>?_
   have s13:=s2.trans s3;obtain ⟨z3,g4,q3⟩:=(hp.same s1).same s13;obtain ⟨z4,g5,q4⟩:=(hq.same s1).same s13;have y3:=q3.length;have y4:=q4.length;walk_at "w";refine uH g4 g5 (br (bT (by lia))) fun c2 H4 s4 n4 g6=>?_
   have s34:=s3.trans s4;walk_at "w";refine ⟨c1,c2,line++col,st++pu,rfl,⟨_,s4 _ _ g3,Paired.imp' (fun _ _ z=>z.same s34) (cu q1 q2)⟩,⟨_,g6,Paired.imp' (fun _ _ z=>z.same s4) (cu q3 q4)⟩,by rw[ay,ay];lia,by rw[ay];lia,.sys ?_ fs,fun r2 H5 s5 h5=>?_⟩
   ·refine F.fits fun y hy=>?_
    rcases ax.mp hy with hy | hy
    ·exact .inl ⟨line,ml,hy⟩
    ·obtain ⟨j,_,rfl⟩:=aE.mp mc;obtain ⟨xs,hx,rfl⟩:=aE.mp hy;by_cases hj:j < xs.length
     ·refine .inr (.inl ⟨xs,hx,?_⟩);rw[aa,ag hj];exact aL hj
     ·exact .inr (.inr (.inr (by rw[aa,aN (by lia)];rfl)))
   ·have em:(gZ mv pt st pu)[i]?=some (b7 (line++col) (st++pu)):=by
     unfold gZ;rw[bY,el,ec]
    refine ⟨((s2.trans s34).trans s5),?_⟩;rw[take_snoc em];exact cu (Paired.imp' (fun _ _ z=>(z.same (sr.trans s34)).same s5) pr) (.cons h5 .nil)
  ·rintro ys H' hy ⟨s,pr⟩ l hl;have lm:(gZ mv pt st pu).length=mv.length:=by unfold gZ;rw[bx,bZ];lia
   rw[aH (by lia)] at pr;exact k l _ (s1.none (s.none hl)) ((s1.trans s).trans (aO.new hl)) ⟨ys,aQ,Paired.imp' (fun _ _ z=>z.same (aO.new hl)) pr⟩
theorem yD:bc ["system","start","puts","states","row"] ["system","start","puts"] (az rO):=by walk_at "d"
theorem Jh (T:Txt K mg Z):cN P w K mg base gJ 6 Z.yo Z.yc ["system","start","puts"] (Fy K Z.a_System):=by
 refine T.BC.ok yD (fun vs H Q E h=>?_) (fun cdv A outer s H vs Q E hr h=>?_)
 ·obtain ⟨x,s,p,H0,H1,mv,pt,lk,pus,st,rfl,S,D,F,Rs,ls,Gp,lp,wp,cf,k⟩:=h;rfl
 ·obtain ⟨x,s,p,H0,H1,mv,pt,lk,pus,st,rfl,S,D,F,Rs,ls,Gp,lp,wp,cf,k⟩:=h
  refine ⟨_,(au (bg (i:=3) yD.nd rfl (Or.inl rfl) (fv (ae (fV tE (by rfl) T.list PyProof.Rows.boot_list (ae (pv 1) aj)) aj)))
   (au (eE PassesOwn.never rfl (du (pv 2)) (aR (i:=4) yD.nd)
    (aB (kK (zh dC fh ff o9 (pv 3) (ae (MW (pv 0) T.cl_System T.ug (zN T) (hr.mono (by decide)) T.vf .nil Ex (ae (bF cg (pv 3) (zg uy av)) (ae (pv 4) aj))) aj)))))
   (aB (aX (pv 3))))),?_⟩
  refine aU (σ:=[some (.ref x),some (.ref s),some (.ref p),none,none]) rfl ?_;have d1:=D.n8;obtain ⟨ss,gs,qs⟩:=id Rs;obtain ⟨ps,gp,qp,_⟩:=id Gp;have lps:=qp.length;walk_at "w";refine ⟨s,ss,rfl,.inl (b6.of gs),fun c hc=>?_⟩;have sc:aO H (upd H c (.lst ss)):=aO.new hc;have Rc:cK K (upd H c (.lst ss)) c st:=⟨ss,aQ,Paired.imp' (fun _ _ z=>z.same sc) qs⟩;generalize upd H c (.lst ss)=Hc at sc Rc ⊢;walk_at "w";refine d6 fun l Hl sl nl gl=>?_
  have hl0:=sc.none nl;have s0:=sc.trans sl;have cl:c≠l:=fun z=>by obtain ⟨_,g,_⟩:=Rc;rw[z,nl] at g;cases g
  have pr0:Paired (y9 K H l Hl) ((qG mv pt st pus).take 1) [V.ref c]:=by
   have:(qG mv pt st pus).take 1=[st]:=by
    have e:=take_snoc (vQ (mv:=mv) (pt:=pt) (st:=st) (pus:=pus) (k:=0) (bh _));rw[e];rfl
   rw[this];exact .cons ⟨c,rfl,hc,cl,Rc.same sl⟩ .nil
  walk_at "w";refine ⟨⟨_,b6.of (s0 _ _ gp)⟩,?_⟩;refine kX (K:=K) (a:=p) (xs:=ps) (fun i σ' H'=>aO H H'/\(∃y ys,σ'=[some (.ref x),some (.ref s),some (.ref p),some (.ref l),y]/\H' l=some (.lst ys)/\Paired (y9 K H l H') ((qG mv pt st pus).take (i+1)) ys)) ⟨s0,_,_,rfl,gl,pr0⟩ (fun i σ' H' _ ⟨e,_⟩=>b6.of (e _ _ gp)) ?_ ?_
  ·rintro i v σ' H' hv ⟨e,y,ys,rfl,g,pr⟩;obtain ⟨pu,epu,u,rfl,_,Ru⟩:=cJ qp hv;have hi:i < pus.length:=(aI.mp epu).1;have mp:=aA epu;have ly:=pr.length;rw[cO,xm] at ly;have ec:=vQ (mv:=mv) (pt:=pt) (st:=st) (pus:=pus) (k:=i) (by lia);have el:ys[i]?=some (ys[i]'(by lia)):=ag (by lia)
   obtain ⟨vl,evl,q,hq1,hq2,hq3,Rq⟩:∃vl,ys[i]?=some vl/\∃q,vl=V.ref q/\H q=none/\q≠l/\cK K H' q (rJ mv pt st pus i):=by
    obtain ⟨xs,ex,w⟩:=cJ pr el;rw[yy (by lia),ec] at ex;cases ex;exact ⟨_,el,w⟩
   subst hq1
   have ey:∃zs,ys=zs++[V.ref q]:=by
    refine ⟨ys.take i,?_⟩;rw[<- take_snoc evl,aH (by lia)]
   obtain ⟨zs,rfl⟩:=ey;walk_at "w";refine ⟨.inl ⟨rfl,_,b6.of g⟩,?_⟩;walk_at "w";obtain ⟨dx,_,_,_,gx,_⟩:=S.same e;refine ⟨x,dx,_,rfl,gx,Iz,?_⟩;walk_at "w";refine cG (b6.of g) (yk _ _) ?_;walk_at "w";refine ⟨x,q,u,H0,mv,pt,lk,_,pu,rfl,S.same e,D,F,Rq,Ru.same e,nZ ls (by lia),wp pu mp,cf.both (by lia) mp,fun r1 H2 n2 s2 R2=>?_⟩;have gn:=s2 _ _ g;walk_at "w";refine o8 gn (bT (by lia)) ?_;refine ⟨IU (e.trans s2) hl0,_,_,rfl,aQ,?_⟩;rw[take_snoc (vQ (by lia)),uB epu];have rl:r1≠l:=fun z=>by rw[z,g] at n2;cases n2
   exact cu (Paired.imp' (fun _ _ z=>(y9.same z s2).upd gn) pr) (.cons ⟨r1,rfl,e.none n2,rl,R2.updL gn rl⟩ .nil)
  ·rintro σ' H' ⟨e,y,ys,rfl,g,pr⟩;walk_at "w";rw[aH (by rw[xm];lia)] at pr;exact k l H' hl0 e ⟨ys,g,Paired.imp' (fun _ _ z=>y9.rowF z) pr,AL pr⟩
theorem AG:bc ["system","steps"] ["system","steps"] (az gM):=by walk_at "d"
theorem uM (T:Txt K mg Z):cN P w K mg base gJ 2 Z.mU Z.mH ["system","steps"] (J6 K Z.a_System):=by
 refine T.m5.ok AG (fun vs H Q E h=>?_) (fun cdv A outer s H vs Q E hr h=>?_)
 ·obtain ⟨x,tt,H0,mv,pt,lk,rfl,hT,S,D,k⟩:=h;rfl
 ·obtain ⟨x,tt,H0,mv,pt,lk,rfl,hT,S,D,k⟩:=h;refine ⟨_,(aB (aX (cP ["step"] ["system"] [0] (cy rfl T.range (ae (pv 1) aj)) (fun _=>(aR (i:=0) (show List.Nodup (α:=PySem.Str) ["step","system"] by decide +kernel))) (fun _=>cQ) (fun _=>(cS (mD T) hr T.jy T.jg.kp T.lA (ae (HD K (pv 1) rfl) aj)))))),?_⟩;refine aU (σ:=[some (.ref x),some (.int tt)]) rfl ?_;obtain ⟨dx,a',b',c',gx,_,_,_,Ga,Gb,Gc⟩:=id S;have i4:=D.i4;walk_at "w";refine ⟨by lia,by lia,?_⟩;refine fW (n:=tt) (cZ K H) (fun (_:Nat)=>List.replicate pt.length (0:Rat)) (by lia) (fun a b=>a.same b) ?_ ?_
  ·rintro i Hb NY NN hi sa k1;walk_at "w";refine ⟨x,Z.a_System,dx,_,_,rfl,sa _ _ gx,T.cl_System,T.na_ins,GX,?_⟩;walk_at "w";exact ⟨pt.length,rfl,by lia,fun r H2 nr s2 R2=>k1 _ _ s2 ⟨r,rfl,sa.none nr,R2⟩⟩
  rintro ys Hz t ht sz g pr nx;have e:(List.range tt).map (fun (_:Nat)=>List.replicate pt.length (0:Rat))=List.replicate tt (List.replicate pt.length 0):=by rw[BF,cm]
  rw[e] at pr nx;exact k t Hz ht sz ⟨ys,g,pr,nV nx⟩
theorem FD:bc ["system","start","goal","steps"] ["system","start","goal","steps"] (az oY):=by walk_at "d"
theorem FV (T:Txt K mg Z):cN P w K mg base gJ 7 Z.vW Z.vL ["system","start","goal","steps"] (Ka K Z.a_System):=by
 refine T.zd.ok FD (fun vs H Q E h=>?_) (fun cdv A outer s H vs Q E hr h=>?_)
 ·obtain ⟨x,s,g,tt,H0,mv,pt,lk,st,go,rfl,hT,S,D,F,Rs,ls,Rg,lg,cf,sg,k⟩:=h;rfl
 ·obtain ⟨x,s,g,tt,H0,mv,pt,lk,st,go,rfl,hT,S,D,F,Rs,ls,Rg,lg,cf,sg,k⟩:=h;refine ⟨_,(aB (aX (cS (Dq T) hr T.xM T.vm.kp T.zx (ae (pv 2) (ae (bF cg (cS (Jh T) hr T.Cr T.BC.kp T.EX (ae (pv 0) (ae (pv 1) (ae (cS (uM T) hr T.pJ T.m5.kp T.rB (ae (pv 0) (ae (pv 3) aj))) aj)))) (zg uy av)) aj))))),?_⟩;refine aU (σ:=[some (.ref x),some (.ref s),some (.ref g),some (.int tt)]) rfl ?_;have d8:=D.n8;have i4:=D.i4;walk_at "w";refine ⟨x,tt,H0,mv,pt,lk,rfl,by lia,S,D,fun p1 H1 n1 s1 G1=>?_⟩;walk_at "w";refine ⟨x,s,p1,H0,H,mv,pt,lk,_,st,rfl,S.same s1,D,F,Rs.same s1,ls,G1,by rw[aF];lia,fun xs hx=>by rw[(di.mp hx).2,aF],cf,fun p2 H2 n2 s2 G2=>?_⟩;obtain ⟨us,gu,qu,_⟩:=id G2;have lu:=qu.length;rw[xm,aF] at lu;have ec:=vQ (mv:=mv) (pt:=pt) (st:=st) (pus:=List.replicate tt (List.replicate pt.length 0)) (k:=tt) (by rw[aF];exact ar _);have el:us[tt]?=some (us[tt]'(by lia)):=ag (by lia)
  obtain ⟨q,eq,Rq⟩:∃q,us[tt]?=some (V.ref q)/\cK K H2 q (eN mv tt st):=by
   obtain ⟨xs,ex,q,e,_,w⟩:=cJ qu el;rw[ec] at ex;cases ex;rw[Fn D ls] at w;exact ⟨q,by rw[el,e],w⟩
  have ey:∃zs,us=zs++[V.ref q]:=by
   refine ⟨us.take tt,?_⟩;rw[<- take_snoc eq,aH (by lia)]
  obtain ⟨zs,rfl⟩:=ey
  have szp:∀y∈eN mv tt st,pQ y:=fun y hy=>by
   have:=(cf.state (k:=tt) (by rw[aF];exact ar _)).szn (x:=y);rw[Fn D ls] at this;exact this hy
  walk_at "w";refine cG (b6.of gu) (yk _ _) ?_;walk_at "w";exact ⟨g,q,go,_,rfl,(Rg.same s1).same s2,Rq,by rw[lg,mC ls],by lia,sg,szp,fun r H3 n3 s3 R3=>k r H3 ((s1.trans s2).none n3) ((s1.trans s2).trans s3) R3⟩
theorem Oz:bc ["row","many","wide"] ["row","many","wide"] (az Ck):=by walk_at "d"
theorem O9 (T:Txt K mg Z):cN P w K mg base gJ 1 Z.Ik Z.Ib ["row","many","wide"] (Mc K):=by
 refine T.LK.ok Oz (fun vs H Q E h=>?_) (fun cdv A outer s H vs Q E hr h=>?_)
 ·obtain ⟨p,u,kk,w,rfl,Rw,lw,uk,u1,k1,k⟩:=h;rfl
 ·obtain ⟨p,u,kk,w,rfl,Rw,lw,uk,u1,k1,k⟩:=h;refine ⟨_,(aB (aX (cP ["turn"] ["row","wide"] [0,2] (cy rfl T.range (ae (pv 1) aj)) (fun _=>(aR (i:=0) (show List.Nodup (α:=PySem.Str) ["turn","row","wide"] by decide +kernel))) (fun _=>cQ) (fun _=>(AU (Kh K (by rfl)) (pv 1) (zZ (bW dE (pv 0) (pv 2))) (zZ (bW dE (bW gY (pv 0) av) (pv 2)))))))),?_⟩;refine aU (σ:=[some (.ref p),some (.int u),some (.int kk)]) rfl ?_;obtain ⟨xs,gx,qx⟩:=id Rw;have lx:=qx.length;walk_at "w";refine ⟨by lia,by lia,?_⟩;refine fW (n:=u) (cZ K H) (fun t=>(w.drop (t*kk)).take kk) (by lia) (fun a b=>a.same b) ?_ ?_
  ·rintro i Hb NY NN hi sa k2;have b1:i*kk+kk<=u*kk:=by rw[<- df];exact aw _ hi
   walk_at "w";refine gH (DQ (by lia) (by lia)) ?_;walk_at "w";refine gH (Ic (by lia) (by lia)) ?_;walk_at "w";rw[show ((i:Int)*(kk:Int))=((i*kk:Nat):Int) by lia,show (((i:Int)+1)*(kk:Int))=((i*kk:Nat):Int)+(kk:Int) by rw[Int.add_mul,Int.one_mul];lia];refine ⟨p,xs,rfl,b6.of (sa _ _ gx),fun r hr=>?_⟩;rw[Nn (by lia)];have sn:=aO.new (o:=.lst ((xs.drop (i*kk)).take kk)) hr;exact k2 _ _ sn ⟨r,rfl,sa.none hr,_,aQ,Paired.imp' (fun _ _ z=>(z.same sa).same sn) (uJ (wB qx _) _)⟩
  rintro ys Hz t ht sz g pr nx;exact k t Hz ht sz ⟨ys,g,pr,nV nx⟩
theorem xA:bc ["system","start","goal","steps","used","rows","answer","latest_first"] ["system","start","goal","steps"] (az yH):=by walk_at "d"
theorem M6 (T:Txt K mg Z):cN P w K mg base gJ 8 Z.DY Z.DO ["system","start","goal","steps"] (Ke K Z.a_System):=by
 refine T.GP.ok xA (fun vs H Q E h=>?_) (fun cdv A outer s H vs Q E hr h=>?_)
 ·obtain ⟨x,s,g,tt,a,c,D0,W0,E0,W1,H0,mv,pt,lk,st,go,rfl,hT,S,D,SF,F,Rs,ls,Rg,lg,cf,sg,CF,k1,k2⟩:=h;rfl
 ·obtain ⟨x,s,g,tt,a,c,D0,W0,E0,W1,H0,mv,pt,lk,st,go,rfl,hT,S,D,SF,F,Rs,ls,Rg,lg,cf,sg,CF,k1,k2⟩:=h
  refine ⟨_,(au (bg (i:=4) xA.nd rfl (Or.inl rfl) (bW pE (bR bD (by rfl) T.len bp (ae (cS (A2 T) hr T.uQ T.rF.kp T.wU (ae (pv 0) (ae (pv 3) aj))) aj)) av))
   (au (bg (i:=5) xA.nd rfl (Or.inl rfl) (cS (M4 T) hr T.HI T.GO.kp T.LC (ae (cS (Dt T) hr T.xO T.vo.kp T.zz (ae (pv 0) (ae (pv 4) aj))) aj)))
   (au (bg (i:=6) xA.nd rfl (Or.inl rfl) (cS (A0 T) hr T.uP T.rE.kp T.wQ (ae (pv 5) (ae (gB (pv 0) rfl) (ae (cS (FV T) hr T.Bc T.zd.kp T.CQ (ae (pv 0) (ae (pv 1) (ae (pv 2) (ae (pv 3) aj))))) aj)))))
   (au (dn (bu eQ (bF cB (pv 6) av) jt (bJ _)) (aB (aX (dA (ae jt (ae (bF cB (pv 6) av) aj))))) b8)
   (au (bg (i:=7) xA.nd rfl (Or.inl rfl) (cS (O9 T) hr T.KP T.LK.kp T.N3 (ae (bF cB (pv 6) av) (ae (pv 4) (ae (gB (pv 0) rfl) aj)))))
   (aB (aX (dA (ae jt (ae (bW uL (cS (uM T) hr T.pJ T.m5.kp T.rB (ae (pv 0) (ae (bW pE (pv 3) (pv 4)) aj))) (AV K rfl T.list rfl T.reversed (ae (pv 7) aj))) aj)))))))))),?_⟩
  refine aU (σ:=[some (.ref x),some (.ref s),some (.ref g),some (.int tt),none,none,none,none]) rfl ?_;have d8:=D.n8;have i4:=D.i4;obtain ⟨dx,a',b',c',gx,_⟩:=id S;walk_at "w";refine ⟨x,a,c,tt,H0,mv,pt,lk,rfl,by lia,S,D,F,fun r1 Rs1 H1 n1 s1 GL Gw ln hlast=>?_⟩;obtain ⟨us,gus,pus1⟩:=id GL;have lus:=pus1.length;have rne:=Gw.ne;have lpos:0 < Rs1.length:=List.length_pos_iff.mpr rne;walk_at "w";refine ⟨_,_,rfl,.inl (b6.of gus),?_⟩;rw[<- lus];obtain ⟨u,eu⟩:∃u,Rs1.length=u+1:=⟨Rs1.length - 1,by lia⟩;rw[eu];have eL:Rs1[u]?=some (Rs1[u]'(by lia)):=ag (by lia);obtain ⟨R,eR⟩:∃R,Rs1[u]?=some R:=⟨_,eL⟩;obtain ⟨ps,RRu⟩:=Gw.rr u R eR;have ul:=Gw.len u R eR;have un:u<=mv.length:=by have:=RRu.le;have:=RRu.1;lia
  have uT:u<=tt:=by lia
  obtain ⟨psT,RRT⟩:∃ps,cC (kry mv pt tt) mv.length R ps:=by
   refine hlast R ?_ tt (by lia);rw[List.getLast?_eq_getElem?,eu];exact eR
  have CU:=Gw.cmu eR RRT;walk_at "w";rw[show ((((u+1:Nat):Int)) - 1)=(u:Int) by lia];refine ⟨x,u,a,c,H0,mv,pt,lk,rfl,un,S.same s1,D,F,fun r2 us2 H2 n2 s2 g2 p2=>?_⟩;have s02:=s1.trans s2;have kl:=p9 (mv:=mv) (pt:=pt) u;have kl2:u*pt.length<=8*4:=aD (by lia) i4;walk_at "w";refine ⟨r2,us2,JC mv pt u,rfl,g2,p2,by rw[vS];lia,fun r3 H9 H3 n3 s3 G3=>?_⟩;rw[vS] at G3;have s03:=s02.trans s3;walk_at "w";refine ⟨x,Z.a_System,dx,_,_,rfl,s03 _ _ gx,T.cl_System,T.na_states,pe,?_⟩;walk_at "w";refine ⟨x,s,g,tt,H0,mv,pt,lk,st,go,rfl,hT,S.same s03,D,SF,Rs.same s03,ls,Rg.same s03,lg,cf,sg,fun r4 H4 n4 s4 R4=>?_⟩;have s04:=s03.trans s4;have lL:=KZ (T:=tt) ls lg;have wk:=fA (mv:=mv) (pt:=pt) rfl D.pw u;have tk:=CF.tk u un;have up0:∀y,Tp D0 W0 y->Tp (D0*E0) (W0*E0+W1*D0+D0*E0) y:=fun y h=>h.up E0 (by lia)
  have up1:∀y,Tp E0 W1 y->Tp (D0*E0) (W0*E0+W1*D0+D0*E0) y:=fun y h=>by
   rw[cb D0 E0];exact h.up D0 (by lia)
  have up2:∀y,y=0\/y=1->Tp (D0*E0) (W0*E0+W1*D0+D0*E0) y:=fun y h=>by
   rcases h with rfl | rfl
   ·exact Tp.zero
   ·exact ⟨((D0*E0:Nat):Int),by rw[Rat.one_mul,aP],by rw[bO];lia⟩
  obtain ⟨wa,sw1⟩:=CF.join (rows:=aW (kry mv pt u) mv.length) (due:=nX mv tt st go) (n':=(kry mv pt u).length+1) (by rw[bZ];exact lL) (fun ys hy y hy'=>by
   obtain ⟨j,_,rfl⟩:=aE.mp hy;obtain ⟨zs,hz,rfl⟩:=aE.mp hy';exact up0 _ (mB (tk zs hz) j)) (fun y hy=>up1 y (CF.tl y hy)) d8 (by rw[bZ];lia)
  obtain ⟨wb,sw2⟩:=CF.join (rows:=kry mv pt u++[nX mv tt st go]) (due:=List.replicate (kry mv pt u).length 0++[1]) (n':=mv.length+1) (by simp) (fun ys hy y hy'=>by
   rcases ax.mp hy with hy | hy
   ·exact up0 _ (tk ys hy y hy')
   ·rw[bU.mp hy] at hy';exact up1 _ (CF.tl y hy')) (fun y hy=>by
   rcases ax.mp hy with hy | hy
   ·exact up2 _ (.inl (di.mp hy).2)
   ·exact up2 _ (.inr (bU.mp hy))) d8 (zH _ _)
  walk_at "w";refine ⟨r3,r4,mv.length,wa,wb,H9,kry mv pt u,nX mv tt st go,rfl,G3.same s4,R4,lL,by lia,by lia,wk,sw1,sw2,⟨fun t5 x5 R5 ps5 M5 H5 RR5 hn5 g5 n5 s5 R5' M50 M51 tp5=>?_,fun t5 x5 R5 ps5 R6 ps6 M5 H5 RR5 hn5 RR6 hn6 g5 n5 s5 R5' M50 M51 tp5=>?_⟩⟩
  ·have s05:=s04.trans s5;have x50:=s04.none n5;have ew:=Iu lL RR5 hn5;have CP:Sk mv pt tt (nX mv tt st go) (AN (fY R5 ps5 (kry mv pt u).length) tt u pt.length):=⟨u,R5,ps5,CU,RR5,hn5,rfl⟩;have lw:(fY R5 ps5 (kry mv pt u).length).length=(kry mv pt u).length:=lQ;obtain ⟨q,q0,q1,q2⟩:=Ox wk lL (by lia) CF.d0 CF.e0 CF.w0 CF.w1 tk CF.tl RR5 hn5;generalize fY R5 ps5 (kry mv pt u).length=ws at ew lw q2 R5' tp5 CP;have lead:=GA D ls lg uT lw ew;have lw2:ws.length=u*pt.length:=by rw[lw,kl]
   walk_at "w";rw[decide_eq_false (show ¬(Str.ofString "in"=Str.ofString "out") by decide)];walk_at "w";refine ⟨x,Z.a_System,dx,_,_,rfl,s05 _ _ gx,T.cl_System,T.na_ins,GX,?_⟩;walk_at "w";refine ⟨x5,u,pt.length,ws,rfl,R5',lw2,by lia,by lia,by lia,fun r6 H6 n6 s6 G6=>?_⟩;have s06:=s05.trans s6;walk_at "w";rw[show ((tt:Int) - (u:Int))=((tt - u:Nat):Int) by lia];refine ⟨x,tt - u,H0,mv,pt,lk,rfl,by lia,S.same s06,D,fun r7 H7 n7 s7 G7=>?_⟩;obtain ⟨vs,gv,qv,_⟩:=id (G6.same s7);have lv:=qv.length;have lc:(zP ws u pt.length).length=u:=by unfold zP;rw[ak,cm]
   unfold Aw;walk_at "w";refine ⟨r6,vs,rfl,b6.of gv,by lia,fun r8 H8 s8 n8 g8=>?_⟩;have s67:=s7.trans s8;obtain ⟨zs,gz,qz,_⟩:=id (G7.same s8);have lz:=qz.length;rw[aF] at lz;walk_at "w";refine uH gz g8 (br (bT (by rw[fM];lia))) fun r9 H9 s9 n9 g9=>?_
   have s09:=(s06.trans s67).trans s9;have qz0:Paired (cZ K H H8) (List.replicate (tt - u) (List.replicate pt.length 0)) zs:=Paired.imp' (fun _ _ ⟨q,a,b,c⟩=>⟨q,a,s06.none b,c⟩) qz;have qv0:Paired (cZ K H H8) (zP ws u pt.length).reverse vs.reverse:=xf (Paired.imp' (fun _ _ ⟨q,a,b,c⟩=>⟨q,a,s05.none b,cK.same c s8⟩) qv);have G9:bS K H H9 r9 (AN ws tt u pt.length):=⟨_,g9,Paired.imp' (fun _ _ z=>cZ.same z s9) (cu qz0 qv0),nV ⟨H8,n9,cu qz0 qv0⟩⟩;walk_at "w";refine cE fun t10 H10 s10 g10=>?_
   exact k1 t10 r9 _ q H10 g10 ((s06.trans s67).none n9) (s09.trans s10) (G9.same s10) (Hw uT) (NM lw2) lead CP q0 q1 (MR Tp.zero q2)
  ·have s05:=s04.trans s5;have x50:=s04.none n5;have lw:(fY R6 ps6 mv.length).length=mv.length:=lQ;obtain ⟨pr1,pr2⟩:=IZ wk lL RR6 hn6;obtain ⟨q,q0,q1,q2⟩:=Kw wk lL (by lia) CF.d0 CF.e0 CF.w0 tk CF.tl RR6 hn6;walk_at "w";rw[decide_eq_true rfl];walk_at "w";refine cE fun t10 H10 s10 g10=>?_
   exact k2 t10 x5 _ q H10 g10 x50 (s05.trans s10) (R5'.same s10) lw (Jb D.pw RRu RRT lw pr2) pr1 ⟨u,R5,ps5,R6,ps6,CU,RR5,hn5,RR6,rfl⟩ q0 q1 q2
theorem yF:bc ["self"] ["self"] (az fz):=by walk_at "d"
theorem yO (T:Txt K mg Z):cN P w K mg base gJ 7 Z.jH Z.jE ["self"] (Fp K Z.a_System):=by
 refine T.uj.ok yF (fun vs H Q E h=>?_) (fun cdv A outer s H vs Q E hr h=>?_)
 ·obtain ⟨x,H0,mv,pt,lk,rfl,S,D,F,k⟩:=h;rfl
 ·obtain ⟨x,H0,mv,pt,lk,rfl,S,D,F,k⟩:=h;refine ⟨_,(aB (aX (HC T.mk_System (pH T) (hr.mono (by decide)) rfl T.mg_System T.lC .nil Ex (ae (cS (kN T) hr T.iB T.gX.kp T.jA (ae (gB (pv 0) rfl) (ae (gB (pv 0) rfl) aj))) (ae (gB (pv 0) rfl) (ae (gB (pv 0) rfl) aj)))))),?_⟩;refine aU (σ:=[some (.ref x)]) rfl ?_;obtain ⟨dx,a,b,c,gx,n1,n2,n3,Ga,Gb,Gc⟩:=id S;have d1:=D.n8;walk_at "w";refine ⟨x,Z.a_System,dx,_,_,rfl,gx,T.cl_System,T.na_move,Ay,?_⟩;walk_at "w";refine ⟨x,Z.a_System,dx,_,_,rfl,gx,T.cl_System,T.na_states,pe,?_⟩;walk_at "w";refine ⟨a,mv.length,H0,mv,rfl,Ga,by lia,by lia,D.mw,fun t H1 nt s1 Gt=>?_⟩;have gx1:=s1 _ _ gx;walk_at "w";refine ⟨x,Z.a_System,dx,_,_,rfl,gx1,T.cl_System,T.na_look,JV,?_⟩;walk_at "w";refine ⟨x,Z.a_System,dx,_,_,rfl,gx1,T.cl_System,T.na_put,zU,?_⟩;walk_at "w";intro x' dx' nx ndx nex;have F':=F.turn;exact ⟨x',dx',t,c,b,H1,H,H0,H0,_,_,_,rfl,nx,ndx,nex,rfl,Gt,Gc.same s1,Gb.same s1,D.turn,F'.ok.1,F'.ok.2.1,F'.ok.2.2,fun H' s' S'=>⟨rfl,k x' H' (s1.none nx) (s1.trans s') (S'.weak s1)⟩⟩
theorem AB:bc ["system","asked","steps","answer"] ["system","asked","steps"] (az oV):=by walk_at "d"
theorem FT (T:Txt K mg Z):cN P w K mg base gJ 9 Z.vT Z.vI ["system","asked","steps"] (J0 K Z.a_System):=by
 refine T.za.ok AB (fun vs H Q E h=>?_) (fun cdv A outer s H vs Q E hr h=>?_)
 ·obtain ⟨x,g,tt,a,c,D0,W0,E0,W1,H0,mv,pt,lk,go,rfl,hT,S,D,F,KF,Rg,lg,szg,CF,k1,k2⟩:=h;rfl
 ·obtain ⟨x,g,tt,a,c,D0,W0,E0,W1,H0,mv,pt,lk,go,rfl,hT,S,D,F,KF,Rg,lg,szg,CF,k1,k2⟩:=h
  refine ⟨_,(au (bg (i:=3) AB.nd rfl (Or.inl rfl) (cS (M6 T) hr T.HJ T.GP.kp T.LD (ae (Ky (pv 0) T.cl_System T.rS (yO T) (hr.mono (by decide)) T.uh .nil Ex) (ae (cS (mD T) hr T.jy T.jg.kp T.lA (ae (gB (pv 0) rfl) aj)) (ae (pv 1) (ae (pv 2) aj))))))
   (au (dn (bu eQ (bF cB (pv 3) av) jt (bJ _)) (aB (aX (dA (ae jt (ae (bF cB (pv 3) av) aj))))) b8)
   (aB (aX (dA (ae jt (ae (AV K rfl T.list rfl T.reversed (ae (bF cB (pv 3) av) aj)) aj))))))),?_⟩
  refine aU (σ:=[some (.ref x),some (.ref g),some (.int tt),none]) rfl ?_;have d8:=D.n8;have et:(aW mv mv.length).length=mv.length:=bZ;have lgt:go.length=(aW mv mv.length).length:=by rw[et];exact lg
  have L0:=QQ (T:=tt) D.turn.mw lgt;obtain ⟨dx,a',b',c',gx,_⟩:=id S;walk_at "w";refine ⟨x,dx,_,rfl,gx,Fm,?_⟩;walk_at "w";refine ⟨x,H0,mv,pt,lk,rfl,S,D,F.sf,fun y H1 ny s1 S1=>?_⟩;walk_at "w";refine ⟨x,Z.a_System,dx,_,_,rfl,s1 _ _ gx,T.cl_System,T.na_states,pe,?_⟩;walk_at "w";refine ⟨mv.length,rfl,by lia,fun z H2 nz s2 Rz=>?_⟩;have s02:=s1.trans s2;have cf:=cf0 (T:=tt) D.turn;rw[<- et] at Rz;walk_at "w";refine ⟨y,z,g,tt,a,c,D0,W0,E0,W1,H,aW mv mv.length,lk,pt,_,go,rfl,hT,S1.same s2,D.turn,F.turn,KF,Rz,by rw[aF],Rg.same s02,lgt,cf,szg,by rw[L0];exact CF,⟨fun t3 p3 pus q3 H3 g3 n3 s3 G3 l3 w3 st3 cp3 q0 q1 q2=>?_,fun t3 p3 pr q3 H3 g3 n3 s3 R3 l3 w3 d3 cp3 q0 q1 q2=>?_⟩⟩
  ·have s03:=s02.trans s3;obtain ⟨vs,gv,qv,nv⟩:=id G3;have lv:=qv.length;walk_at "w";rw[decide_eq_false (show ¬(Str.ofString "puts"=Str.ofString "never") by decide)];unfold Aw;walk_at "w";refine ⟨p3,vs,rfl,b6.of gv,by lia,fun r4 H4 s4 n4 g4=>?_⟩;have qr:Paired (cZ K H H3) pus.reverse vs.reverse:=xf (Paired.imp' (fun _ _ ⟨q,a,b,c⟩=>⟨q,a,s02.none b,c⟩) qv);have G4:bS K H H4 r4 pus.reverse:=⟨_,g4,Paired.imp' (fun _ _ z=>cZ.same z s4) qr,nV ⟨H3,n4,qr⟩⟩;walk_at "w";refine cE fun t5 H5 s5 g5=>?_
   rw[et] at st3 q1 q2;rw[L0] at cp3;exact k1 t5 r4 pus.reverse q3 H5 g5 (s03.none n4) ((s03.trans s4).trans s5) (G4.same s5) (by rw[fM];exact l3) (fun xs hx=>w3 xs (jr.mp hx)) (by rw[uq];exact st3) (by rw[uq];exact cp3) q0 q1 (fun xs hx=>q2 xs (jr.mp hx))
  ·have s03:=s02.trans s3;walk_at "w";rw[decide_eq_true rfl];walk_at "w";refine cE fun t5 H5 s5 g5=>?_
   rw[L0] at d3 cp3;rw[et] at l3 q1 q2;exact k2 t5 p3 pr q3 H5 g5 (s02.none n3) (s03.trans s5) (R3.same s5) l3 w3 d3 cp3 q0 q1 q2
theorem pY:bc ["_law_thing","_law_part"] ["_law_thing"] (az eX):=by walk_at "d"
theorem xJ (T:Txt K mg Z):cN P w K mg base gJ 2 Z.je Z.i5 ["_law_thing"] (IL K):=by
 refine T.mj.ok pY (fun vs H Q E h=>?_) (fun cdv A outer s H vs Q E hr h=>?_)
 ·obtain ⟨x,n,rfl,⟨p,rfl,hp⟩,hn,k⟩:=h;rfl
 ·obtain ⟨x,n,rfl,⟨p,rfl,hp⟩,hn,k⟩:=h
  refine ⟨_,(au (dn (PW.pt (uc (kJ (jM (z7 rfl T.isinstance PyProof.Rows.boot_tuple T.tuple (pv 0)))) (nP (bu wC (bR bD (by rfl) T.len bp (ae (pv 0) aj)) av (bJ _))))) (aB (aX rP)) b8)
   (au (eE PassesOwn.never rfl (O3 (pv 0)) (aR (i:=1) pY.nd)
    (aB (dn (PW.pt (uc (kJ (jM (z7 rfl T.isinstance PyProof.Rows.boot_int T.int (pv 1)))) (nP (jM (z7 rfl T.isinstance PyProof.Rows.boot_bool T.bool (pv 1)))))) (aB (aX rP)) b8)))
   (aB (aX (FP (kL wF (bF cB (pv 0) av) av (bJ _)) (FN (kL (FQ (Na hr)) (cS (kg T) hr T.iD T.iG.kp T.jQ (ae (bF cB (pv 0) av) (ae (bF cB (pv 0) av) aj))) (pv 0) (bJ _)))))))),?_⟩
  refine aU (σ:=[some (.ref p),none]) rfl ?_;obtain ⟨hb,hg,_,hs⟩:=hn;walk_at "w";refine .inr ⟨p,_,_,rfl,hp,rfl,?_⟩;walk_at "w";refine ⟨_,_,rfl,.inr hp,?_⟩;walk_at "w"
  try refine M9 ?_
  walk_at "w";refine ⟨⟨_,hp⟩,?_⟩;refine Nf (K:=K) (a:=p) (xs:=[.int n.1,.int n.2]) (fun i σ' H'=>H'=H/\∃x,σ'=[some (.ref p),x]) ⟨rfl,none,rfl⟩ (fun i σ' H' _ ⟨e,_⟩=>by subst e;exact hp) ?_ ?_
  ·rintro i x σ' H' hx ⟨rfl,y,rfl⟩
   obtain ⟨z,rfl⟩:∃z,x=V.int z:=by
    have hm:x∈[V.int n.1,V.int n.2]:=aA hx;simp only[aJ,bo,or_false] at hm;rcases hm with e | e
    ·exact ⟨_,e⟩
    ·exact ⟨_,e⟩
   walk_at "w";refine .inl ⟨_,_,.int z,rfl,?_⟩;walk_at "w";refine .inl ⟨_,_,.int z,rfl,?_⟩;walk_at "w";exact ⟨rfl,_,rfl⟩
  ·rintro σ' H' ⟨rfl,x,rfl⟩;walk_at "w";rw[decide_eq_true hb];walk_at "w";refine ⟨n.1,n.2,rfl,hb,hs.mono (by decide),fun r H' s1 h'=>?_⟩;obtain ⟨e1,e2⟩:=Pd hb hg;walk_at "w";refine ⟨_,_,QR,(lo n.1 n.2,hi n.1 n.2),n,by decide,⟨r,rfl,uu.of h'⟩,⟨p,rfl,s1.sqt hp⟩,?_⟩;rw[e1,e2,decide_eq_true rfl];exact k _ s1
theorem AI:bc ["_law_thing","_law_many"] ["_law_thing","_law_many"] (az gR):=by walk_at "d"
theorem uO (T:Txt K mg Z):cN P w K mg base gJ 3 Z.mZ Z.mM ["_law_thing","_law_many"] (Ci K):=by
 refine T.m7.ok AI (fun vs H Q E h=>?_) (fun cdv A outer s H vs Q E hr h=>?_)
 ·obtain ⟨p,ns,rfl,hp,hl,hn,k⟩:=h;rfl
 ·obtain ⟨p,ns,rfl,hp,hl,hn,k⟩:=h
  refine ⟨_,(au (dn (PW.pt (uc (kJ (jM (yN rfl T.isinstance PyProof.Rows.boot_list T.list (pv 0)))) (nP (bu wC (bR bD (by rfl) T.len bp (ae (pv 0) aj)) (pv 1) (bJ _))))) (aB (aX rP)) b8)
   (aB (aX (bR (Bu rfl) (by rfl) T.all PyProof.Rows.boot_all (ae (cP ["_law_one"] [] [] (du (pv 0)) (fun _=>(aR (i:=0) (show List.Nodup (α:=PySem.Str) ["_law_one"] by decide +kernel))) (fun _=>cQ) (fun _=>(cS (xJ T) hr T.p7 T.mj.kp T.so (ae (pv 0) aj)))) aj))))),?_⟩
  refine aU (σ:=[some (.ref p),some (.int ns.length)]) rfl ?_;obtain ⟨xs,gx,qx⟩:=id hp;have lx:=qx.length;walk_at "w";refine ⟨_,_,.lst gx,rfl,?_⟩;walk_at "w";refine ⟨_,_,rfl,.inl (b6.of gx),?_⟩;walk_at "w";rw[show ((xs.length:Nat):Int)=(ns.length:Nat) by rw[lx],decide_eq_true rfl];walk_at "w";refine ⟨⟨_,b6.of gx⟩,?_⟩;refine gW (K:=K) (xs:=xs) (fun i ys H'=>aO H H'/\ys=List.replicate i (.bl true)) (br (bT (by lia))) ⟨aO.refl _,rfl⟩ (fun i ys H' _ ⟨s,_⟩=>b6.of (s _ _ gx)) ?_ ?_
  ·rintro i x ys H' hx hlen ⟨s,rfl⟩;obtain ⟨n,en,z⟩:=cJ qx hx;walk_at "w";exact ⟨x,n,rfl,s.num z,hn n (aA en),fun H2 s2=>⟨s.trans s2,by rw[CZ]⟩⟩
  ·rintro ys H' hy ⟨s,rfl⟩ l hl';walk_at "w";refine ⟨l,List.replicate xs.length true,rfl,b6.of (by rw[aQ];simp),?_⟩;have e4:(List.replicate xs.length true).all id=true:=by simp
   rw[e4];exact k _ (s.trans (aO.new hl'))
theorem zL:bc ["_law_thing","_law_many","_law_wide"] ["_law_thing","_law_many","_law_wide"] (az fR):=by walk_at "d"
theorem zM (T:Txt K mg Z):cN P w K mg base gJ 4 Z.lE Z.kZ ["_law_thing","_law_many","_law_wide"] (Fw K):=by
 refine T.pR.ok zL (fun vs H Q E h=>?_) (fun cdv A outer s H vs Q E hr h=>?_)
 ·obtain ⟨p,rows,m,rfl,hp,hl,hm,hn,k⟩:=h;rfl
 ·obtain ⟨p,rows,m,rfl,hp,hl,hm,hn,k⟩:=h
  refine ⟨_,(au (dn (PW.pt (uc (kJ (jM (yN rfl T.isinstance PyProof.Rows.boot_list T.list (pv 0)))) (nP (bu wC (bR bD (by rfl) T.len bp (ae (pv 0) aj)) (pv 1) (bJ _))))) (aB (aX rP)) b8)
   (aB (aX (bR (Bu rfl) (by rfl) T.all PyProof.Rows.boot_all (ae (cP ["_law_row_here"] ["_law_wide"] [2] (du (pv 0)) (fun _=>(aR (i:=0) (show List.Nodup (α:=PySem.Str) ["_law_row_here","_law_wide"] by decide +kernel))) (fun _=>cQ) (fun _=>(cS (uO T) hr T.pM T.m7.kp T.rD (ae (pv 0) (ae (pv 1) aj))))) aj))))),?_⟩
  refine aU (σ:=[some (.ref p),some (.int rows.length),some (.int m)]) rfl ?_;obtain ⟨xs,gx,qx⟩:=id hp;have lx:=qx.length;walk_at "w";refine ⟨_,_,.lst gx,rfl,?_⟩;walk_at "w";refine ⟨_,_,rfl,.inl (b6.of gx),?_⟩;walk_at "w";rw[show ((xs.length:Nat):Int)=(rows.length:Nat) by rw[lx],decide_eq_true rfl];walk_at "w";refine ⟨⟨_,b6.of gx⟩,?_⟩;refine gW (K:=K) (xs:=xs) (fun i ys H'=>aO H H'/\ys=List.replicate i (.bl true)) (br (bT (by lia))) ⟨aO.refl _,rfl⟩ (fun i ys H' _ ⟨s,_⟩=>b6.of (s _ _ gx)) ?_ ?_
  ·rintro i x ys H' hx hlen ⟨s,rfl⟩;obtain ⟨ns,en,q,rfl,z⟩:=cJ qx hx;obtain ⟨e1,e2⟩:=hn ns (aA en);walk_at "w";exact ⟨q,ns,by rw[e1],z.same s,by lia,e2,fun H2 s2=>⟨s.trans s2,by rw[CZ]⟩⟩
  ·rintro ys H' hy ⟨s,rfl⟩ l hl';walk_at "w";refine ⟨l,List.replicate xs.length true,rfl,b6.of (by rw[aQ];simp),?_⟩;have e4:(List.replicate xs.length true).all id=true:=by simp
   rw[e4];exact k _ (s.trans (aO.new hl'))
theorem FF:bc ["_law_grid","_law_row_here"] ["_law_grid","_law_row_here"] (az o6):=by walk_at "d"
theorem A4 (T:Txt K mg Z):cN P w K mg base gJ 4 Z.vZ Z.vO ["_law_grid","_law_row_here"] (Ho K):=by
 refine T.v7.ok FF (fun vs H Q E h=>?_) (fun cdv A outer s H vs Q E hr h=>?_)
 ·obtain ⟨p,q,H0,rows,ys,rfl,hp,hq,hz,hl,hr1,kk⟩:=h;rfl
 ·obtain ⟨p,q,H0,rows,ys,rfl,hp,hq,hz,hl,hr1,kk⟩:=h;refine ⟨_,(aB (aX (cP ["_law_one"] ["_law_row_here"] [1] (du (pv 0)) (fun _=>(aR (i:=0) (show List.Nodup (α:=PySem.Str) ["_law_one","_law_row_here"] by decide +kernel))) (fun _=>cQ) (fun _=>(cS (kh T) hr T.iE T.iH.kp T.jR (ae (pv 0) (ae (pv 1) aj))))))),?_⟩;refine aU (σ:=[some (.ref p),some (.ref q)]) rfl ?_;obtain ⟨xs,gx,qx,_⟩:=id hp;walk_at "w";refine ⟨⟨_,b6.of gx⟩,?_⟩;refine gV (K:=K) (F:=cZ K H0) (cF K) (fun xs=>b7 xs ys) gx qx hz (fun a b=>a.same b) (fun a b=>a.same b) ?_ ?_
  ·rintro i ns x H' NY NN en s ⟨u,rfl,_,hu⟩ k;obtain ⟨e1,e2⟩:=hr1 ns (aA en);walk_at "w";exact ⟨u,q,ns,ys,rfl,hu,hq.same s,e1.symm,by lia,e2,fun r H2 s2 h2'=>k _ _ s2 h2'⟩
  ·rintro ys' H' r hr s g pr nx;exact kk r H' hr s ⟨ys',g,pr⟩
theorem gi:bc ["_law_parts_here","_law_state","_law_puts","_law_move_here","_law_put","_law_look","_law_found","_law_k"] ["_law_parts_here","_law_state","_law_puts"] (az j8):=by walk_at "d"
theorem Du (T:Txt K mg Z):cN P w K mg base gJ 5 Z.qT Z.qC ["_law_parts_here","_law_state","_law_puts"] (J7 K):=by
 refine T.vp.ok gi (fun vs H Q E h=>?_) (fun cdv A outer s H vs Q E hr h=>?_)
 ·obtain ⟨r,s0,u0,H0,mv,pt,lk,st,pu,rfl,PQ,D,hs,hu,l1,l2,NX,k⟩:=h;rfl
 ·obtain ⟨r,s0,u0,H0,mv,pt,lk,st,pu,rfl,PQ,D,hs,hu,l1,l2,NX,k⟩:=h
  refine ⟨_,(au (fu (pv 0) (sL rfl (cx (aR (i:=3) gi.nd) (cx (aR (i:=4) gi.nd) (cx (aR (i:=5) gi.nd) h9)))))
   (au (bg (i:=6) gi.nd rfl (Or.inl rfl) (cS (A4 T) hr T.xl T.v7.kp T.yZ (ae (pv 3) (ae (pv 1) aj))))
   (au (eE PassesOwn.never rfl (cy rfl T.range (ae (bR bD (by rfl) T.len bp (ae (pv 4) aj)) aj)) (aR (i:=7) gi.nd)
    (aB (bg (i:=6) gi.nd rfl (Or.inl rfl) (cS (oh T) hr T.kT T.kz.kp T.nG (ae (pv 6) (ae (cS (xi T) hr T.sQ T.sD.kp T.vR (ae (bF cg (pv 2) (pv 7)) (ae (bF cg (pv 4) (pv 7)) aj))) aj))))))
   (aB (aX (pv 6)))))),?_⟩
  refine aU (σ:=[some (.ref r),some (.ref s0),some (.ref u0),none,none,none,none,none]) rfl ?_;obtain ⟨m,p,l,g,n1,n2,n3,Gm,Gp,Gl⟩:=id PQ;have d1:=D.n8;have d2:=D.i4;walk_at "w";refine ⟨m,s0,H0,mv,st,rfl,Gm,hs,by lia,by lia,fun xs hx=>⟨by rw[D.mw xs hx,l1],NX.f2 xs hx⟩,fun f H1 nf s1 R1=>?_⟩;obtain ⟨ps,gp,qp,_⟩:=Gp.same s1;have lp:=qp.length;walk_at "w";refine ⟨_,_,rfl,.inl (b6.of gp),?_⟩;walk_at "w";refine ⟨by lia,by lia,?_⟩;refine dU (n:=ps.length) (fun kk σ' H'=>∃(f:Addr) (x:Option V),σ'=[some (.ref r),some (.ref s0),some (.ref u0),some (.ref m),some (.ref p),some (.ref l),some (.ref f),x]/\H f=none/\aO H1 H'/\cK K H' f (nextK mv pt st pu kk)) ⟨f,none,rfl,nf,aO.refl _,by rw[FZ];exact R1⟩ ?_ ?_
  ·rintro kk σ' H' hk ⟨f',x,rfl,nf',s',R'⟩;have kp:kk < pt.length:=by lia
   have ku:kk < pu.length:=by lia
   obtain ⟨zs,gz,qz⟩:=(hu.same s1).same s';have lz:=qz.length;obtain ⟨vu,eu,nu⟩:=Jq qz ku;obtain ⟨row,vr,er,ev,mr,q,rfl,_,Rq⟩:=fI qp kp
   have er':pt[kk]=row:=by
    rw[ag kp] at er;exact cv er
   have eu':pu.getD kk 0=pu[kk]:=by rw[aa,ag ku];rfl
   have mu:pu.getD kk 0∈pu:=getD_mem ku;walk_at "w";refine cG (b6.of gz) eu ?_;walk_at "w";refine cG (b6.of (s' _ _ gp)) (fO ev) ?_;walk_at "w";refine ⟨vu,q,_,row,rfl,nu,NX.su _ mu,Rq.same s',by rw[D.pw row mr];lia,NX.sp row mr,fun r1 H2 n1' s2 R2=>?_⟩;walk_at "w";refine ⟨f',r1,_,_,rfl,R'.same s2,R2,by rw[ak,ki,D.pw row mr],by rw[ki];lia,NX.part kk,fun y hy=>?_,fun r2 H3 n2' s3 R3=>?_⟩
   ·obtain ⟨y',hy',rfl⟩:=aE.mp hy;exact NX.mul _ mu row mr y' hy'
   ·walk_at "w";refine ⟨s1.none (s'.none (s2.none n2')),(s'.trans s2).trans s3,?_⟩;have e:=Gd (st:=st) (pu:=pu) (fun xs hx=>by rw[D.mw xs hx,l1]) kp ku (by rw[er'];exact D.pw row mr);rw[er',<- eu'] at e;rw[<- e];exact R3
  ·rintro σ' H' ⟨f',x,rfl,nf',s',R'⟩;rw[vH (by lia) (by lia)] at R';walk_at "w";exact k f' H' nf' (s1.trans s') R'
theorem jw:bc ["_law_parts_here","_law_start","_law_puts","_law_state","_law_found","_law_row_here"] ["_law_parts_here","_law_start","_law_puts"] (az iT):=by walk_at "d"
theorem mE (T:Txt K mg Z):cN P w K mg base gJ 6 Z.oO Z.oB ["_law_parts_here","_law_start","_law_puts"] (IJ K):=by
 refine T.jh.ok jw (fun vs H Q E h=>?_) (fun cdv A outer s H vs Q E hr h=>?_)
 ·obtain ⟨r,s,p,H0,H1,mv,pt,lk,pus,st,rfl,PQ,D,Rs,ls,Gp,p100,wp,LF,k⟩:=h;rfl
 ·obtain ⟨r,s,p,H0,H1,mv,pt,lk,pus,st,rfl,PQ,D,Rs,ls,Gp,p100,wp,LF,k⟩:=h
  refine ⟨_,(au (bg (i:=3) jw.nd rfl (Or.inl rfl) (fV (mP K (by rfl)) (by rfl) T.list PyProof.Rows.boot_list (ae (pv 1) aj)))
   (au (bg (i:=4) jw.nd rfl (Or.inl rfl) (fv aj))
   (au (eE PassesOwn.never rfl (du (pv 2)) (aR (i:=5) jw.nd)
    (au (kK (zh dC fh ff o9 (pv 4) (ae (cS (A4 T) hr T.xl T.v7.kp T.yZ (ae (bF cB (pv 0) av) (ae (pv 3) aj))) aj)))
   (aB (bg (i:=3) jw.nd rfl (Or.inl rfl) (cS (Du T) hr T.xP T.vp.kp T.zA (ae (pv 0) (ae (pv 3) (ae (pv 5) aj))))))))
   (aB (aX (pv 4)))))),?_⟩
  refine aU (σ:=[some (.ref r),some (.ref s),some (.ref p),none,none,none]) rfl ?_;have d1:=D.n8;have o4:=D.o4;obtain ⟨ss,gs,qs⟩:=id Rs;obtain ⟨ps,gp,qp,_⟩:=id Gp;have lps:=qp.length;walk_at "w";refine ⟨s,ss,rfl,.inl (b6.of gs),fun c hc=>?_⟩;have sc:aO H (upd H c (.lst ss)):=aO.new hc;have Rc:cK K (upd H c (.lst ss)) c st:=⟨ss,aQ,Paired.imp' (fun _ _ z=>z.same sc) qs⟩;generalize upd H c (.lst ss)=Hc at sc Rc ⊢;walk_at "w";refine d6 fun fd H2 s2 n2 g2=>?_
  have s02:=sc.trans s2;have nfd:H fd=none:=sc.none n2;walk_at "w";refine ⟨⟨_,b6.of (s02 _ _ gp)⟩,?_⟩;refine kX (K:=K) (a:=p) (xs:=ps) (fun i σ' H'=>aO H H'/\∃q y us,σ'=[some (.ref r),some (.ref s),some (.ref p),some (.ref q),some (.ref fd),y]/\cK K H' q (rJ mv pt st pus i)/\q≠fd/\H' fd=some (.lst us)/\Paired (cZ K H H') ((List.range i).map fun t=>lk.map fun xs=>b7 xs (rJ mv pt st pus t)) us/\V.ref fd∉us) ⟨s02,c,_,[],rfl,Rc.same s2,fun z=>(by rw[<- z] at n2;obtain ⟨_,g,_⟩:=Rc;rw[g] at n2;cases n2),g2,.nil,fun z=>nomatch z⟩ (fun i σ' H' _ ⟨e,_⟩=>b6.of (e _ _ gp)) ?_ ?_
  ·rintro i v σ' H' hv ⟨e,q,y,us,rfl,Rq,qf,gf,pf,nf⟩;obtain ⟨pu,epu,u,rfl,_,Ru⟩:=cJ qp hv;have hi:i < pus.length:=(aI.mp epu).1;have mp:=aA epu;have lus:=pf.length;rw[ak,cm] at lus;obtain ⟨m,p',l,gt,mn,pn,ln,Gm,Gp',Gl⟩:=id (PQ.same e);have lst:=nZ (mv:=mv) (pt:=pt) (pus:=pus) (k:=i) ls (by lia);walk_at "w";refine ⟨.inl ⟨rfl,_,b6.of gf⟩,?_⟩;walk_at "w";refine ⟨l,q,_,lk,rJ mv pt st pus i,rfl,Gl,Rq,by lia,by lia,fun xs hx=>⟨by rw[lst];exact D.lw xs hx,LF.fit i (by lia) xs hx⟩,fun o H3 no s3 Ro=>?_⟩;have gf3:=s3 _ _ gf;have of:o≠fd:=fun z=>by rw[z,gf] at no;cases no
   have pf3:=Paired.imp' (fun _ _ z=>cZ.same z s3) pf;have Rq3:=Rq.same s3;have e3:=e.trans s3;walk_at "w";refine o8 gf3 (bT (by lia)) ?_;have e4:=e3.after (o:=.lst (us++[V.ref o])) nfd
   have Rq4:cK K (upd H3 fd (.lst (us++[V.ref o]))) q (rJ mv pt st pus i):=by
    obtain ⟨a1,a2,a3⟩:=Rq3;exact ⟨a1,by rw[bA qf];exact a2,Paired.imp' (fun _ _ z=>z.updL gf3) a3⟩
   have pf4:Paired (cZ K H (upd H3 fd (.lst (us++[V.ref o])))) ((List.range (i+1)).map fun t=>lk.map fun xs=>b7 xs (rJ mv pt st pus t)) (us++[V.ref o]):=by
    rw[uw,dO];refine cu ?_ (.cons ⟨o,rfl,e.none no,?_⟩ .nil)
    ·exact zi (fun a x hx ⟨q',a1,a2,a3,a4,a5⟩=>⟨q',a1,a2,a3,by rw[bA fun z=>nf (by rw[<- z,<- a1];exact hx)];exact a4,Paired.imp' (fun _ _ z=>z.updL gf3) a5⟩) pf3
    ·obtain ⟨a1,a2,a3⟩:=Ro;exact ⟨a1,by rw[bA of];exact a2,Paired.imp' (fun _ _ z=>z.updL gf3) a3⟩
   have gf4:(upd H3 fd (.lst (us++[V.ref o]))) fd=some (.lst (us++[V.ref o])):=aQ
   have nf4:V.ref fd∉us++[V.ref o]:=fun z=>by
    rcases ax.mp z with z | z
    ·exact nf z
    ·rw[bU] at z;cases z;exact of rfl
   generalize upd H3 fd (.lst (us++[V.ref o]))=H4 at e4 Rq4 pf4 gf4 ⊢;walk_at "w";refine ⟨r,q,u,H0,mv,pt,lk,_,pu,rfl,PQ.same e4,D,Rq4,cK.same Ru e4,lst,wp pu mp,LF.en.nx D ls wp (by lia) epu,fun q2 H5 n5 s5 R5=>?_⟩;rw[<- uB epu] at R5;exact ⟨e4.trans s5,q2,_,_,rfl,R5,(fun z=>by rw[z,gf4] at n5;cases n5),s5 _ _ gf4,Paired.imp' (fun _ _ z=>cZ.same z s5) pf4,nf4⟩
  ·rintro σ' H' ⟨e,q,y,us,rfl,Rq,qf,gf,pf,nf⟩;rw[<- lps] at pf;walk_at "w";exact k fd H' nfd e ⟨us,gf,pf,nf⟩
theorem Dl:bc ["_law_one","_law_other"] ["_law_one","_law_other"] (az kd):=by walk_at "d"
theorem xI (T:Txt K mg Z):cN P w K mg base gJ 2 Z.qW Z.qF ["_law_one","_law_other"] (uC K (fun x y=>x - y)):=by
 refine T.qX.ok Dl (fun vs H Q E h=>?_) (fun cdv A outer s H vs Q E hr h=>?_)
 ·obtain ⟨p,q,a,b,c,d,rfl,hp,hq,hb,hd,sa,sb,sc,sd,k⟩:=zV h;rfl
 ·obtain ⟨p,q,a,b,c,d,rfl,hp,hq,hb,hd,sa,sb,sc,sd,k⟩:=zV h;refine ⟨_,(aB (aX (cS (kg T) hr T.iD T.iG.kp T.jQ (ae (bW pE (bW dE (bF cB (pv 0) av) (bF cB (pv 1) av)) (bW dE (bF cB (pv 1) av) (bF cB (pv 0) av))) (ae (bW dE (bF cB (pv 0) av) (bF cB (pv 1) av)) aj))))),?_⟩;refine aU (σ:=[some (.ref p),some (.ref q)]) rfl ?_;have hbd:0 < b*d:=pU hb hd;have sbd:Sz 8999 (b*d):=(sb.mul sd).mono (by decide);walk_at "w";refine gH (show jm _ _ from .inr ⟨_,_,sa,sd,by decide⟩) ?_;walk_at "w";refine gH (show jm _ _ from .inr ⟨_,_,sc,sb,by decide⟩) ?_;walk_at "w";refine gH (show jm _ _ from .inr ⟨_,_,sb,sd,by decide⟩) ?_;walk_at "w";walk_at "w";refine ⟨_,_,rfl,hbd,sbd,k⟩
theorem BO:bc ["_law_one","_law_other"] ["_law_one","_law_other"] (az iS):=by walk_at "d"
theorem BV (T:Txt K mg Z):cN P w K mg base gJ 3 Z.oN Z.oA ["_law_one","_law_other"] (Cg K):=by
 refine T.tY.ok BO (fun vs H Q E h=>?_) (fun cdv A outer s H vs Q E hr h=>?_)
 ·obtain ⟨p,q,xs,ys,rfl,hp,hq,hl,hz,h1,h2,kk⟩:=h;rfl
 ·obtain ⟨p,q,xs,ys,rfl,hp,hq,hl,hz,h1,h2,kk⟩:=h;refine ⟨_,(aB (aX (cP ["_law_k"] ["_law_one","_law_other"] [0,1] (cy rfl T.range (ae (bR bD (by rfl) T.len bp (ae (pv 0) aj)) aj)) (fun _=>(aR (i:=0) (show List.Nodup (α:=PySem.Str) ["_law_k","_law_one","_law_other"] by decide +kernel))) (fun _=>cQ) (fun _=>(cS (xI T) hr T.sP T.qX.kp T.vd (ae (bF (kW K (by rfl)) (pv 1) (pv 0)) (ae (bF (kW K (by rfl)) (pv 2) (pv 0)) aj))))))),?_⟩;refine aU (σ:=[some (.ref p),some (.ref q)]) rfl ?_;obtain ⟨us,gu,qu⟩:=id hp;obtain ⟨ws,gw,qw⟩:=id hq;have lu:=qu.length;walk_at "w";refine ⟨_,_,rfl,.inl (b6.of gu),?_⟩;walk_at "w";refine ⟨by lia,by lia,?_⟩;refine fW (n:=us.length) (cF K) (fun i=>xs.getD i 0 - ys.getD i 0) (by lia) (fun a b=>a.same b) ?_ ?_
  ·rintro i H' NY NN hi s k1;have ix:i < xs.length:=by lia
   have iy:i < ys.length:=by lia
   obtain ⟨vx,ex,nx⟩:=Jq (Paired.imp' (fun _ _ z=>z.same s) qu) ix;obtain ⟨vy,ey,ny⟩:=Jq (Paired.imp' (fun _ _ z=>z.same s) qw) iy;walk_at "w";refine cG (b6.of (s _ _ gu)) ex ?_;walk_at "w";refine cG (b6.of (s _ _ gw)) ey ?_;walk_at "w";exact ⟨_,_,_,_,rfl,nx,ny,h1 _ (getD_mem ix),h2 _ (getD_mem iy),fun r3 H3 s3 n3=>k1 _ _ s3 n3⟩
  ·rintro ys' H' l hl' s g pr nx;exact kk l H' hl' s ⟨ys',g,by rw[Ff (by lia)];rw[<- lu] at pr;exact pr⟩
theorem dQ:bc ["_law_parts_here","_law_weights","_law_asked","_law_start","_law_puts","_law_looks_here","_law_rest","_law_total","_law_t"] ["_law_parts_here","_law_weights","_law_asked","_law_start","_law_puts"] (az eB):=by walk_at "d"
theorem xh (T:Txt K mg Z):cN P w K mg base gJ 7 Z.ij Z.ic ["_law_parts_here","_law_weights","_law_asked","_law_start","_law_puts"] (Kb K):=by
 refine T.lM.ok dQ (fun vs H Q E h=>?_) (fun cdv A outer s H vs Q E hr h=>?_)
 ·obtain ⟨r,f,g,s,p,tt,e,γ,x,y,v,H0,H1,H2,mv,pt,lk,ws,pus,go,st,rfl,t12,PQ,D,Gf,FW,Rg,lg,GF,Rs,ls,Gp,lp,wp,XX,k⟩:=h;rfl
 ·obtain ⟨r,f,g,s,p,tt,e,γ,x,y,v,H0,H1,H2,mv,pt,lk,ws,pus,go,st,rfl,t12,PQ,D,Gf,FW,Rg,lg,GF,Rs,ls,Gp,lp,wp,XX,k⟩:=h
  refine ⟨_,(au (bg (i:=5) dQ.nd rfl (Or.inl rfl) (cS (mE T) hr T.jz T.jh.kp T.lB (ae (pv 0) (ae (pv 3) (ae (pv 4) aj)))))
   (au (bg (i:=6) dQ.nd rfl (Or.inl rfl) (cS (mE T) hr T.jz T.jh.kp T.lB (ae (pv 0) (ae (cS (ue T) hr T.nR T.lK.kp T.pO (ae (bR bD (by rfl) T.len bp (ae (pv 3) aj)) aj)) (ae (pv 4) aj)))))
   (au (bg (i:=7) dQ.nd rfl (Or.inl rfl) (dA (ae av (ae av aj))))
   (au (eE PassesOwn.never rfl (cy rfl T.range (ae (bR bD (by rfl) T.len bp (ae (pv 4) aj)) aj)) (aR (i:=8) dQ.nd)
    (aB (bg (i:=7) dQ.nd rfl (Or.inl rfl) (cS (nC T) hr T.kj T.jS.kp T.mf (ae (pv 7) (ae (cS (kh T) hr T.iE T.iH.kp T.jR (ae (bF cg (pv 1) (pv 8)) (ae (cS (BV T) hr T.wN T.tY.kp T.yi (ae (bF cg (pv 5) (pv 8)) (ae (bF cg (pv 6) (pv 8)) aj))) aj))) aj))))))
   (aB (aX (kL (FQ (Na hr)) (pv 7) (cS (kh T) hr T.iE T.iH.kp T.jR (ae (pv 2) (ae (pv 3) aj))) (bJ _)))))))),?_⟩
  refine aU (σ:=[some (.ref r),some (.ref f),some (.ref g),some (.ref s),some (.ref p),none,none,none,none]) rfl ?_;obtain ⟨L1,L2,sz,f2,szd,szs,fg⟩:=XX.frm D ls wp lp t12 FW GF;have fin:=Lh D FW ls;obtain ⟨lw,ww,_,_⟩:=id FW;have d8:=D.n8;have o4:=D.o4;obtain ⟨ss,gs,qs⟩:=id Rs;obtain ⟨ps,gp,qp,_⟩:=id Gp;obtain ⟨fs,gf,qf,_⟩:=id Gf;have lss:=qs.length;have lps:=qp.length;walk_at "w";refine ⟨r,s,p,H0,H2,mv,pt,lk,pus,st,rfl,PQ,D,Rs,ls,Gp,by lia,wp,L1,fun l1 H3 n3 s3 G3=>?_⟩;walk_at "w";refine ⟨_,_,rfl,.inl (b6.of (s3 _ _ gs)),?_⟩;rw[<- lss,ls];walk_at "w";refine ⟨mv.length,rfl,by lia,fun z0 H4 n4 s4 R4=>?_⟩;have s04:=s3.trans s4;walk_at "w";refine ⟨r,z0,p,H0,H2,mv,pt,lk,pus,List.replicate mv.length 0,rfl,PQ.same s04,D,R4,aF ..,Gp.same s04,by lia,wp,L2,fun l2 H5 n5 s5 G5=>?_⟩;have s05:=s04.trans s5;walk_at "w";refine cE fun t6 H6 s6 g6=>?_
  have s06:=s05.trans s6;obtain ⟨ks,gk,qk,_⟩:=id (G3.same ((s4.trans s5).trans s6));obtain ⟨rs,gr,qr,_⟩:=id (G5.same s6);walk_at "w";refine ⟨_,_,rfl,.inl (b6.of (s06 _ _ gp)),?_⟩;rw[<- lps,lp];walk_at "w";refine ⟨by lia,by lia,?_⟩;refine dU (n:=tt) (fun j σ' H'=>aO H6 H'/\∃to y1,σ'=[some (.ref r),some (.ref f),some (.ref g),some (.ref s),some (.ref p),some (.ref l1),some (.ref l2),some to,y1]/\cF K H' (bM j fun t=>b7 (ws.getD t []) (Jz mv lk st t)) to) ⟨aO.refl _,_,_,rfl,cF.mk (q:=0) g6 rfl⟩ ?_ ?_
  ·rintro t σ' H7 ht ⟨s7,to,y1,rfl,nto⟩;obtain ⟨wr,vw,ew,evw,mw,qw,rfl,_,Rw⟩:=fI qf (i:=t) (by lia);obtain ⟨a1,va,ea,eva,_,qa,rfl,_,Ra⟩:=fI qk (i:=t) (by unfold Gn;rw[ak,cm];lia);obtain ⟨b1,vb,eb,evb,_,qb,rfl,_,Rb⟩:=fI qr (i:=t) (by unfold Gn;rw[ak,cm];lia);unfold Gn at ea eb;rw[aG,cU (by lia)] at ea eb;cases ea;cases eb;have ed:ws.getD t []=wr:=by rw[aa,ew];rfl
   have wl:=ww wr mw;have ft:=f2 t ht;have sdt:=szd t ht;have sst:=szs t (by lia);obtain ⟨sa,sb⟩:=sz t (by lia);have s07:=s06.trans s7;walk_at "w";refine cG (b6.of (s07 _ _ gf)) (fO evw) ?_;walk_at "w";refine cG (b6.of (s7 _ _ gk)) (fO eva) ?_;walk_at "w";refine cG (b6.of (s7 _ _ gr)) (fO evb) ?_;walk_at "w";refine ⟨qa,qb,_,_,rfl,Ra.same s7,Rb.same s7,by rw[ak,ak],by rw[ak];lia,sa,sb,fun r8 H8 n8 s8 R8=>?_⟩;rw[Q2 D ls wp (by lia)] at R8;rw[ed] at ft sdt;walk_at "w";refine ⟨qw,r8,wr,Jz mv lk st t,rfl,(Rw.same s07).same s8,R8,by unfold Jz;rw[ak];lia,by lia,ft,fun r9 H9 s9 N9=>?_⟩;walk_at "w";refine ⟨_,_,_,_,rfl,(nto.same s8).same s9,N9,sst,sdt,fun r10 H10 s10 N10=>?_⟩;refine ⟨((s7.trans s8).trans s9).trans s10,_,_,rfl,?_⟩;show cF K H10 ((bM t fun t=>b7 (ws.getD t []) (Jz mv lk st t))+b7 (ws.getD t []) (Jz mv lk st t)) _
   rw[ed];exact N10
  ·rintro σ' H7 ⟨s7,to,y1,rfl,nto⟩;rw[fin] at nto;have s07:=s06.trans s7;walk_at "w";refine ⟨g,s,go,st,rfl,Rg.same s07,Rs.same s07,by lia,by lia,fg,fun r8 H8 s8 N8=>?_⟩;walk_at "w";refine ⟨_,_,K5,_,_,by decide,nto.same s8,N8,?_⟩;rw[decide_eq_true rfl];exact k _ (s07.trans s8)
theorem nU:bc ["_law_parts_here","_law_state","_law_asked","_law_start","_law_puts","_law_other"] ["_law_parts_here","_law_state","_law_asked","_law_start","_law_puts"] (az dR):=by walk_at "d"
theorem v9 (T:Txt K mg Z):cN P w K mg base gJ 7 Z.gE Z.gD ["_law_parts_here","_law_state","_law_asked","_law_start","_law_puts"] (Mf K):=by
 refine T.jT.ok nU (fun vs H Q E h=>?_) (fun cdv A outer s H vs Q E hr h=>?_)
 ·obtain ⟨r,f,g,s,p,tt,e,γ,x,y,v,H0,H2,mv,pt,lk,pus,go,st,pr,rfl,t12,PQ,D,Rf,AW,Rg,lg,GF,Rs,ls,Gp,lp,wp,XX,k⟩:=h;rfl
 ·obtain ⟨r,f,g,s,p,tt,e,γ,x,y,v,H0,H2,mv,pt,lk,pus,go,st,pr,rfl,t12,PQ,D,Rf,AW,Rg,lg,GF,Rs,ls,Gp,lp,wp,XX,k⟩:=h
  refine ⟨_,(au (bg (i:=5) nU.nd rfl (Or.inl rfl) (cS (oh T) hr T.kT T.kz.kp T.nG (ae (pv 3) (ae (pv 1) aj))))
   (au (dn (bu (O7 (Na hr)) (cS (mE T) hr T.jz T.jh.kp T.lB (ae (pv 0) (ae (pv 3) (ae (pv 4) aj)))) (cS (mE T) hr T.jz T.jh.kp T.lB (ae (pv 0) (ae (pv 5) (ae (pv 4) aj)))) (bJ _)) (aB (aX rP)) b8)
   (aB (aX (kL (FQ (Na hr)) (cS (xI T) hr T.sP T.qX.kp T.vd (ae (cS (kh T) hr T.iE T.iH.kp T.jR (ae (pv 2) (ae (pv 5) aj))) (ae (cS (kh T) hr T.iE T.iH.kp T.jR (ae (pv 2) (ae (pv 3) aj))) aj))) (dA (ae av (ae av aj))) (bJ _)))))),?_⟩
  refine aU (σ:=[some (.ref r),some (.ref f),some (.ref g),some (.ref s),some (.ref p),none]) rfl ?_;obtain ⟨z1,z2,L1,L2,el,f1,f2,z3,z4,e1⟩:=XX.alk D ls wp lp AW GF lg;have lpr:=AW.1;rw[show (aW mv mv.length).length=mv.length from bZ] at lpr;have d8:=D.n8;walk_at "w";refine ⟨s,f,st,pr,rfl,Rs,Rf,by lia,by lia,z1,z2,fun o H3 n3 s3 R3=>?_⟩;have lo:(List.zipWith (fun x y=>x+y) st pr).length=mv.length:=by rw[bx];lia
  walk_at "w";refine ⟨r,s,p,H0,H2,mv,pt,lk,pus,st,rfl,PQ.same s3,D,Rs.same s3,ls,Gp.same s3,by lia,wp,L1,fun l1 H4 n4 s4 G4=>?_⟩;have s04:=s3.trans s4;walk_at "w";refine ⟨r,o,p,H0,H2,mv,pt,lk,pus,_,rfl,PQ.same s04,D,R3.same s4,lo,Gp.same s04,by lia,wp,L2,fun l2 H5 n5 s5 G5=>?_⟩;have s05:=s04.trans s5;walk_at "w";refine ⟨_,_,K6,_,_,by decide,(G4.same s5).kind,G5.kind,?_⟩;rw[decide_eq_true el];walk_at "w";refine ⟨g,o,go,_,rfl,Rg.same s05,R3.same (s4.trans s5),by lia,by lia,f2,fun r6 H6 s6 N6=>?_⟩;have s06:=s05.trans s6;walk_at "w";refine ⟨g,s,go,st,rfl,Rg.same s06,Rs.same s06,by lia,by lia,f1,fun r7 H7 s7 N7=>?_⟩;walk_at "w";refine ⟨_,_,_,_,rfl,N6.same s7,N7,z4,z3,fun r8 H8 s8 N8=>?_⟩;have N8:cF K H8 (b7 go (List.zipWith (fun x y=>x+y) st pr) - b7 go st) (.ref r8):=N8;rw[e1] at N8;walk_at "w";refine cE fun t9 H9 s9 g9=>?_
  walk_at "w";refine ⟨_,_,K5,1,1,by decide,N8.same s9,cF.mk (q:=1) g9 rfl,?_⟩;rw[decide_eq_true rfl];exact k _ (((s06.trans s7).trans s8).trans s9)
theorem kE:bc ["_law_script","_law_bag_here","_law_parts_here","_law_wide","_law_system_here","_law_n","_law_steps_here","_law_turn","_law_asked","_law_word","_law_found","_law_again","_law_start","_law_puts"] ["_law_script"] (az Cj):=by walk_at "d"
theorem O8 (T:Txt K mg Z):cN P w K mg base gJ 10 Z.LH Z.Lu ["_law_script"] (C9 K):=by
 refine T.Oc.ok kE (fun vs H Q E h=>?_) (fun cdv A outer s H vs Q E hr h=>?_)
 ·obtain ⟨a,ns,rfl,hS,hlen,k⟩:=h;rfl
 ·obtain ⟨a,ns,rfl,hS,hlen,k⟩:=h
  refine ⟨_,(au (bg (i:=1) kE.nd rfl (Or.inr rfl) (cS (Ez T) hr T.zm T.xp.kp T.By (ae (pv 0) aj)))
   (au (fu (cS (BW T) hr T.wO T.tZ.kp T.yj (ae (pv 1) aj)) (sL rfl (cx (aR (i:=2) kE.nd rfl (Or.inr rfl) (Or.inl rfl)) (cx (aR (i:=3) kE.nd rfl (Or.inr rfl) (Or.inl rfl)) h9))))
   (au (bg (i:=4) kE.nd rfl (Or.inl rfl) (cS (A3 T) hr T.uS T.rG.kp T.wV (ae (pv 2) aj)))
   (au (bg (i:=5) kE.nd rfl (Or.inl rfl) (bR bD (by rfl) T.len bp (ae (bF cB (pv 2) av) aj)))
   (au (bg (i:=6) kE.nd rfl (Or.inl rfl) (cS (BR T) hr T.wK T.tU.kp T.yf (ae (pv 1) (ae (pv 5) (ae (pv 3) aj)))))
   (au (eE PassesOwn.never rfl (cy rfl T.range (ae av aj)) (aR (i:=7) kE.nd)
    (au (bg (i:=8) kE.nd rfl (Or.inl rfl) (cS (xK T) hr T.p8 T.mo.kp T.sv (ae (pv 1) (ae (cS (xH T) hr T.p6 T.mi.kp T.si (ae (pv 2) (ae (pv 6) aj))) (ae (pv 5) (ae (pv 3) aj))))))
   (au (fu (cS (FT T) hr T.A7 T.za.kp T.CN (ae (pv 4) (ae (pv 8) (ae (pv 6) aj)))) (sL rfl (cx (aR (i:=9) kE.nd) (cx (aR (i:=10) kE.nd) h9))))
   (au (dn (PW.pt (iw (bu eQ (pv 9) jt (bJ _)) (iV (kJ (jM (cS (zM T) hr T.uf T.pR.kp T.ve (ae (pv 10) (ae (pv 6) (ae (bR bD (by rfl) T.len bp (ae (bF cB (pv 2) av) aj)) aj))))))))) (aB (aX rP)) b8)
   (au (dn (PW.pt (iw (bu wC (pv 9) jt (bJ _)) (iV (PW.pt (uc (bu wC (pv 9) jt (bJ _)) (nP (kJ (jM (cS (uO T) hr T.pM T.m7.kp T.rD (ae (pv 10) (ae (pv 5) aj))))))))))) (aB (aX rP)) b8)
   (aB (eE PassesOwn.never rfl (cy rfl T.range (ae av aj)) (aR (i:=11) kE.nd)
    (au (bg (i:=12) kE.nd rfl (Or.inl rfl) (cS (nD T) hr T.iC T.iF.kp T.jP (ae (pv 1) (ae (pv 5) (ae (pv 3) aj)))))
   (au (p0 13 ["_law_t"] ["_law_bag_here","_law_parts_here","_law_wide"] [1,2,3] kE.nd rfl rfl (cy rfl T.range (ae (pv 6) aj)) (fun _=>(aR (i:=0) (show List.Nodup (α:=PySem.Str) ["_law_t","_law_bag_here","_law_parts_here","_law_wide"] by decide +kernel))) (fun _=>cQ) (fun _=>(cS (nD T) hr T.iC T.iF.kp T.jP (ae (pv 1) (ae (bR (BY K (by rfl)) (by rfl) T.len bp (ae (bF (z9 K (by rfl)) (pv 2) av) aj)) (ae (pv 3) aj))))))
   (au (dn (PW.pt (iw (bu eQ (pv 9) jt (bJ _)) (iV (kJ (jM (cS (xh T) hr T.pN T.lM.kp T.qK (ae (pv 2) (ae (pv 10) (ae (pv 8) (ae (pv 12) (ae (pv 13) aj))))))))))) (aB (aX rP)) b8)
   (aB (dn (PW.pt (iw (bu eQ (pv 9) jt (bJ _)) (iV (kJ (jM (cS (v9 T) hr T.nW T.jT.kp T.pP (ae (pv 2) (ae (pv 10) (ae (pv 8) (ae (pv 12) (ae (pv 13) aj))))))))))) (aB (aX rP)) b8))))))))))))
   (aB (aX rP)))))))),?_⟩
  refine aU (σ:=[some (.ref a),none,none,none,none,none,none,none,none,none,none,none,none,none]) rfl ?_;walk_at "w";refine ⟨a,ns,rfl,hS,hlen,fun b H0 hb0 B0 s0=>?_⟩;walk_at "w";refine ⟨b,rfl,B0,fun t r w mv pt lk H1 g1 PQ D F G w1 wk B1 u1=>?_⟩;have d8:=D.n8;have o4:=D.o4;have i4:=D.i4;have et:(aW mv mv.length).length=mv.length:=bZ;walk_at "w";refine ⟨r,H0,mv,pt,lk,rfl,PQ,D,F.sf,fun x H2 nx s2 S=>?_⟩;have P2:=PQ.same s2;have B2:=B1.same s2;obtain ⟨m,p,l,gt,mn,pn,ln,Gm,Gp,Gl⟩:=id P2;obtain ⟨um,gm,qm,_⟩:=id Gm;have lum:=qm.length;walk_at "w";refine ⟨_,_,rfl,.inl (b6.of gm),?_⟩;rw[<- lum];walk_at "w";refine ⟨b,mv.length,w,rfl,B2,d8,fun tt H3 St B3 u3=>?_⟩;have t12:=St.1;obtain ⟨ee,VV⟩:=Hu (T:=tt) G.g D.turn (by rw[et];exact St);obtain ⟨M,d,j,M0,M1,dj,fr,UU⟩:=OB (T:=tt) G D St;have S3:=S.upto u3 B2 B1.at;have P3:=P2.upto u3 B2 B0.at;have kl:=p9 (mv:=aW mv mv.length) (pt:=lk) tt;have kb:tt*lk.length<=12*4:=aD t12 o4;have wd:∀xs∈kry (aW mv mv.length) lk tt,xs.length=mv.length:=fun xs hx=>by rw[fA (mv:=aW mv mv.length) rfl D.turn.pw tt xs hx,et]
  have ww:w<=9\/w=1000/\mv.length<=2:=by
   rcases G with ⟨h,_⟩ | ⟨h,_⟩ | ⟨h,h2,_⟩
   ·exact .inl h
   ·exact .inl h
   ·exact .inr ⟨h,h2⟩
  clear gm qm lum Gm Gp Gl gt mn pn ln;walk_at "w";refine ⟨by decide,by decide,?_⟩;refine dU (n:=2) (fun i σ' H'=>jo H' b/\dc b H3 H'/\∃y1 y2 y3 y4 y5 y6 y7,σ'=[some (.ref a),some (.ref b),some (.ref r),some (.int w),some (.ref x),some (.int mv.length),some (.int tt),y1,y2,y3,y4,y5,y6,y7]) ⟨B3,(aO.refl _).upto,_,_,_,_,_,_,_,rfl⟩ ?_ ?_
  rotate_left
  ·rintro σ' H' ⟨B',u',y1,y2,y3,y4,y5,y6,y7,rfl⟩;walk_at "w";exact k _
  rintro ti σ' H' hti ⟨B',u',y1,y2,y3,y4,y5,y6,y7,rfl⟩;have P':=P3.upto u' B3 B0.at;walk_at "w";refine ⟨r,tt,H0,mv,pt,lk,rfl,t12,P',D,VV.ad,fun rw H4 nrw s4 Gr=>?_⟩;have B4:=B'.same s4;have rwb:rw≠b:=fun z=>B'.at (by rw[<- z];exact nrw)
  walk_at "w";refine ⟨b,rw,mv.length,w,M,d,j,H',kry (aW mv mv.length) lk tt,rfl,B4,B'.at,rwb,Gr,by lia,d8,wd,w1,ww,M0,M1,dj,fr,fun g go H5 ng Rg lg AS B5 u5=>?_⟩;have gb:g≠b:=fun z=>B4.at (by rw[<- z];exact ng)
  obtain ⟨a',k',D0,W0,E0,W1,M',d',j',e',γ,x',y',v',R5,XX⟩:=UU go AS;have S5:=((S3.upto u' B3 B1.at).same s4).upto u5 B4 B1.at;have P5:=(P'.same s4).upto u5 B4 B0.at;walk_at "w";refine ⟨x,g,tt,a',k',D0,W0,E0,W1,H1,mv,pt,lk,go,rfl,by lia,S5,D,F,R5.kf,Rg,lg,R5.goS,R5.co,⟨fun td fd ws q H6 gt nf s6 Gf lw wf st6 cp q0 q1 q2=>?_,fun td fd pr q H6 gt nf s6 Rf lp kp dp cn q0 q1 q2=>?_⟩⟩
  ·have FW:=R5.fmw D.turn lw wf et.symm st6 q0 q1 q2;have B6:=B5.same s6;have P6:=P5.same s6;have Rg6:=Rg.same s6;have fb:fd≠b:=fun z=>B5.at (by rw[<- z];exact nf)
   obtain ⟨_,sw,_⟩:=R5.wsT q0 (by rw[et];exact q1) et.symm q2;walk_at "w"
   try rw[decide_eq_true rfl]
   obtain ⟨m,p,l,gt',mn,pn,ln,Gm,Gp,Gl⟩:=id P6;obtain ⟨ul,gl,ql,_⟩:=id Gl;have lul:=ql.length;walk_at "w";refine ⟨_,_,rfl,.inl (b6.of gl),?_⟩;rw[<- lul];clear gt' mn pn ln Gm Gp Gl gl ql lul;walk_at "w";refine ⟨fd,ws.map (List.map nm),lk.length,by rw[ak,lw],Gf.gridK,by rw[ak];lia,by lia,fun ns hn=>?_,fun H7 s7=>?_⟩
   ·obtain ⟨xs,hx,rfl⟩:=aE.mp hn;exact ⟨by rw[ak];exact wf xs hx,fun n hn=>by obtain ⟨z,hz,rfl⟩:=aE.mp hn;exact JS (sw xs hx z hz)⟩
   have B6:=B6.same s7;have P6:=P6.same s7;have Rg6:=Rg6.same s7;have Gf:=Gf.same s7;have s6:=s6.trans s7;clear s7 gt;generalize H7=H6 at *
   walk_at "w"
   try rw[decide_eq_true rfl]
   walk_at "w";refine ⟨by decide,by decide,?_⟩;refine dU (n:=2) (fun i σ' H'=>jo H' b/\dc b H6 H'/\∃z1 z2 z3,σ'=[some (.ref a),some (.ref b),some (.ref r),some (.int w),some (.ref x),some (.int mv.length),some (.int tt),some (.int ti),some (.ref g),some (.str (Str.ofString "from")),some (.ref fd),z1,z2,z3]) ⟨B6,(aO.refl _).upto,_,_,_,rfl⟩ ?_ ?_
   ·rintro ai σ' H7 hai ⟨B7,u7,z1,z2,z3,rfl⟩;walk_at "w";refine ⟨b,mv.length,w,rfl,B7,by lia,w1,by lia,fun s st H8 ns Rs ls ds B8 u8=>?_⟩;have sb:s≠b:=fun z=>B7.at (by rw[<- z];exact ns)
    have u68:=u7.trans u8;have P8:=P6.upto u68 B6 B0.at;walk_at "w";refine ⟨by lia,by lia,?_⟩
    refine yW (n:=tt) (b:=b) (cZ K H8) (fun xs=>xs.length=pt.length/\∀x∈xs,Dr (max w 6) x) B8 (by lia) (fun {H' H'' c x} a u B=>by
     obtain ⟨q,e,nq,R⟩:=a;exact ⟨q,e,nq,R.upto u B (fun z=>B8.at (by rw[<- z];exact nq))⟩) ?_ ?_
    ·rintro i Ha NY NN hi ua Ba k1;obtain ⟨m,p,l,g',n1,n2,n3,Gm,Gp,Gl⟩:=P8.upto ua B8 B0.at;obtain ⟨up,gp,qp,_⟩:=id Gp;have lup:=qp.length;walk_at "w";refine ⟨_,_,rfl,.inl (b6.of gp),?_⟩;rw[<- lup];walk_at "w";refine ⟨b,pt.length,w,rfl,Ba,by lia,w1,by lia,fun q xs Hb nq R lx dx Bb ub=>?_⟩;exact k1 _ xs _ ub Bb ⟨lx,dx⟩ ⟨q,rfl,ua.none Ba nq,R⟩
    rintro ys pus H9 pl npl u9 B9 g9 lc hc pr9 nx9;have Gp9:bS K H8 H9 pl pus:=⟨ys,g9,pr9,nV nx9⟩;have X9:=XX st pus ls ds ⟨lc,hc⟩;have u69:=u68.trans u9;have Rs9:=Rs.upto u9 B8 sb;have P9:=P8.upto u9 B8 B0.at;have Rg9:=Rg6.upto u69 B6 gb;have Gf9:=Gf.upto u69 B6 fb B5.at;walk_at "w"
    try rw[decide_eq_true rfl]
    walk_at "w";refine ⟨r,fd,g,s,pl,tt,e',γ,x',y',v',H0,H5,H8,mv,pt,lk,ws,pus,go,st,rfl,t12,P9,D,Gf9,FW,Rg9,lg,R5.gof,Rs9,ls,Gp9,lc,(fun xs hx=>(hc xs hx).1),X9,fun H10 s10=>?_⟩;walk_at "w"
    try rw[decide_eq_false (show ¬(Str.ofString "from"=Str.ofString "alike") by decide)]
    walk_at "w";exact ⟨B9.same s10,u69.same s10,_,_,_,rfl⟩
   ·rintro σ' H7 ⟨B7,u7,z1,z2,z3,rfl⟩;exact ⟨B7,((u'.same s4).trans u5).trans (s6.upto.trans u7),_,_,_,_,_,_,_,rfl⟩
  ·have AW:=R5.akw et.symm lp kp dp q0 q1 q2;have B6:=B5.same s6;have P6:=P5.same s6;have Rg6:=Rg.same s6;have fb:fd≠b:=fun z=>B5.at (by rw[<- z];exact nf)
   obtain ⟨szp,_,_⟩:=R5.prF q0 et.symm q1 q2;walk_at "w"
   try rw[decide_eq_false (show ¬(Str.ofString "alike"=Str.ofString "from") by decide)]
   walk_at "w"
   try rw[decide_eq_false (show ¬(Str.ofString "alike"=Str.ofString "from") by decide)]
   walk_at "w"
   try rw[decide_eq_true rfl]
   walk_at "w";refine ⟨fd,pr.map nm,by rw[ak,lp],Rf.rowK,by rw[ak];lia,fun n hn=>by obtain ⟨z,hz,rfl⟩:=aE.mp hn;exact JS (szp z hz),fun H7 s7=>?_⟩;have B6:=B6.same s7;have P6:=P6.same s7;have Rg6:=Rg6.same s7;have Rf:=Rf.same s7;have s6:=s6.trans s7;clear s7 gt;generalize H7=H6 at *
   walk_at "w";walk_at "w";refine ⟨by decide,by decide,?_⟩;refine dU (n:=2) (fun i σ' H'=>jo H' b/\dc b H6 H'/\∃z1 z2 z3,σ'=[some (.ref a),some (.ref b),some (.ref r),some (.int w),some (.ref x),some (.int mv.length),some (.int tt),some (.int ti),some (.ref g),some (.str (Str.ofString "alike")),some (.ref fd),z1,z2,z3]) ⟨B6,(aO.refl _).upto,_,_,_,rfl⟩ ?_ ?_
   ·rintro ai σ' H7 hai ⟨B7,u7,z1,z2,z3,rfl⟩;walk_at "w";refine ⟨b,mv.length,w,rfl,B7,by lia,w1,by lia,fun s st H8 ns Rs ls ds B8 u8=>?_⟩;have sb:s≠b:=fun z=>B7.at (by rw[<- z];exact ns)
    have u68:=u7.trans u8;have P8:=P6.upto u68 B6 B0.at;walk_at "w";refine ⟨by lia,by lia,?_⟩
    refine yW (n:=tt) (b:=b) (cZ K H8) (fun xs=>xs.length=pt.length/\∀x∈xs,Dr (max w 6) x) B8 (by lia) (fun {H' H'' c x} a u B=>by
     obtain ⟨q,e,nq,R⟩:=a;exact ⟨q,e,nq,R.upto u B (fun z=>B8.at (by rw[<- z];exact nq))⟩) ?_ ?_
    ·rintro i Ha NY NN hi ua Ba k1;obtain ⟨m,p,l,g',n1,n2,n3,Gm,Gp,Gl⟩:=P8.upto ua B8 B0.at;obtain ⟨up,gp,qp,_⟩:=id Gp;have lup:=qp.length;walk_at "w";refine ⟨_,_,rfl,.inl (b6.of gp),?_⟩;rw[<- lup];walk_at "w";refine ⟨b,pt.length,w,rfl,Ba,by lia,w1,by lia,fun q xs Hb nq R lx dx Bb ub=>?_⟩;exact k1 _ xs _ ub Bb ⟨lx,dx⟩ ⟨q,rfl,ua.none Ba nq,R⟩
    rintro ys pus H9 pl npl u9 B9 g9 lc hc pr9 nx9;have Gp9:bS K H8 H9 pl pus:=⟨ys,g9,pr9,nV nx9⟩;have X9:=XX st pus ls ds ⟨lc,hc⟩;have u69:=u68.trans u9;have Rs9:=Rs.upto u9 B8 sb;have P9:=P8.upto u9 B8 B0.at;have Rg9:=Rg6.upto u69 B6 gb;have Rf9:=Rf.upto u69 B6 fb;walk_at "w"
    try rw[decide_eq_false (show ¬(Str.ofString "alike"=Str.ofString "from") by decide)]
    walk_at "w"
    try rw[decide_eq_true rfl]
    walk_at "w";refine ⟨r,fd,g,s,pl,tt,e',γ,x',y',v',H0,H8,mv,pt,lk,pus,go,st,pr,rfl,t12,P9,D,Rf9,AW,Rg9,lg,R5.gof,Rs9,ls,Gp9,lc,(fun xs hx=>(hc xs hx).1),X9,fun H10 s10=>?_⟩;walk_at "w";exact ⟨B9.same s10,u69.same s10,_,_,_,rfl⟩
   ·rintro σ' H7 ⟨B7,u7,z1,z2,z3,rfl⟩;exact ⟨B7,((u'.same s4).trans u5).trans (s6.upto.trans u7),_,_,_,_,_,_,_,rfl⟩
end
theorem Gk {P:List Value->Prop} (h:∀x0,P [x0]):∀us:List Value,us.length=1->P us
 | [x0],_=>h x0
theorem ln2 {P:List Value->Prop} (h:∀x0 x1,P [x0,x1]):∀us:List Value,us.length=2->P us
 | [x0,x1],_=>h x0 x1
theorem Gj {P:List Value->Prop} (h:∀x0 x1 x2,P [x0,x1,x2]):∀us:List Value,us.length=3->P us
 | [x0,x1,x2],_=>h x0 x1 x2
theorem PV {P:List Value->Prop} (h:∀x0 x1 x2 x3,P [x0,x1,x2,x3]):∀us:List Value,us.length=4->P us
 | [x0,x1,x2,x3],_=>h x0 x1 x2 x3
theorem RC {P:List Value->Prop} (h:∀x0 x1 x2 x3 x4,P [x0,x1,x2,x3,x4]):∀us:List Value,us.length=5->P us
 | [x0,x1,x2,x3,x4],_=>h x0 x1 x2 x3 x4
theorem all_mk {l:W.OpenLaw} {w:World} {K:W.Frag} {h:Heap} {mg:Str->Option Value} {fa:Addr}
  {f0 f1 f2 f3 f4 f5 f6 f7 f8 f9 f10 f11 f12 f13 f14 f15 f16 f17 f18 f19 f20 f21 f22 f23 f24 f25 f26 f27 f28 f29 f30 f31 f32 f33 f34 f35 f36 f37 f38 f39 f40 f41 f42 f43 f44 f45 f46 f47 f48 f49 f50 f51 f52 f53 f54 f55 f56 f57 f58 f59 f60 f61 f62 f63 f64 f65 f66 f67 f68 f69:Addr} {od0 od1 od2 od3 od4 od5 od6 od7 od8 od9 od10 od11 od12 od13 od14 od15 od16 od17 od18 od19 od20 od21 od22 od23 od24 od25 od26 od27 od28 od29 od30 od31 od32 od33 od34 od35 od36 od37 od38 od39 od40 od41 od42 od43 od44 od45 od46 od47 od48 od49 od50 od51 od52 od53 od54 od55 od56 od57 od58 od59 od60 od61 od62 od63 od64 od65 od66 od67 od68 od69 an0 an1 an2 an3 an4 an5 an6 an7 an8 an9 an10 an11 an12 an13 an14 an15 an16 an17 an18 an19 an20 an21 an22 an23 an24 an25 an26 an27 an28 an29 an30 an31 an32 an33 an34 an35 an36 an37 an38 an39 an40 an41 an42 an43 an44 an45 an46 an47 an48 an49 an50 an51 an52 an53 an54 an55 an56 an57 an58 an59 an60 an61 an62 an63 an64 an65 an66 an67 an68 an69:Option Addr} {sl0 sl1 sl2 sl3 sl4 sl5 sl6 sl7 sl8 sl9 sl10 sl11 sl12 sl13 sl14 sl15 sl16 sl17 sl18 sl19 sl20 sl21 sl22 sl23 sl24 sl25 sl26 sl27 sl28 sl29 sl30 sl31 sl32 sl33 sl34 sl35 sl36 sl37 sl38 sl39 sl40 sl41 sl42 sl43 sl44 sl45 sl46 sl47 sl48 sl49 sl50 sl51 sl52 sl53 sl54 sl55 sl56 sl57 sl58 sl59 sl60 sl61 sl62 sl63 sl64 sl65 sl66 sl67 sl68 sl69:Array (Option Value)} {oc0 oc1 oc2 oc3 oc4 oc5 oc6 oc7 oc8 oc9 oc10 oc11 oc12 oc13 oc14 oc15 oc16 oc17 oc18 oc19 oc20 oc21 oc22 oc23 oc24 oc25 oc26 oc27 oc28 oc29 oc30 oc31 oc32 oc33 oc34 oc35 oc36 oc37 oc38 oc39 oc40 oc41 oc42 oc43 oc44 oc45 oc46 oc47 oc48 oc49 oc50 oc51 oc52 oc53 oc54 oc55 oc56 oc57 oc58 oc59 oc60 oc61 oc62 oc63 oc64 oc65 oc66 oc67 oc68 oc69 kV0 kV1 kV2 kV3 kV4 kV5 kV6 kV7 kV8 kV9 kV10 kV11 kV12 kV13 kV14 kV15 kV16 kV17 kV18 kV19 kV20 kV21 kV22 kV23 kV24 kV25 kV26 kV27 kV28 kV29 kV30 kV31 kV32 kV33 kV34 kV35 kV36 kV37 kV38 kV39 kV40 kV41 kV42 kV43 kV44 kV45 kV46 kV47 kV48 kV49 kV50 kV51 kV52 kV53 kV54 kV55 kV56 kV57 kV58 kV59 kV60 kV61 kV62 kV63 kV64 kV65 kV66 kV67 kV68 kV69 dc0 dc1 dc2 dc3 dc4 dc5 dc6 dc7 dc8 dc9 dc10 dc11 dc12 dc13 dc14 dc15 dc16 dc17 dc18 dc19 dc20 dc21 dc22 dc23 dc24 dc25 dc26 dc27 dc28 dc29 dc30 dc31 dc32 dc33 dc34 dc35 dc36 dc37 dc38 dc39 dc40 dc41 dc42 dc43 dc44 dc45 dc46 dc47 dc48 dc49 dc50 dc51 dc52 dc53 dc54 dc55 dc56 dc57 dc58 dc59 dc60 dc61 dc62 dc63 dc64 dc65 dc66 dc67 dc68 dc69 pm0 pm1 pm2 pm3 pm4 pm5 pm6 pm7 pm8 pm9 pm10 pm11 pm12 pm13 pm14 pm15 pm16 pm17 pm18 pm19 pm20 pm21 pm22 pm23 pm24 pm25 pm26 pm27 pm28 pm29 pm30 pm31 pm32 pm33 pm34 pm35 pm36 pm37 pm38 pm39 pm40 pm41 pm42 pm43 pm44 pm45 pm46 pm47 pm48 pm49 pm50 pm51 pm52 pm53 pm54 pm55 pm56 pm57 pm58 pm59 pm60 pm61 pm62 pm63 pm64 pm65 pm66 pm67 pm68 pm69 cd0 cd1 cd2 cd3 cd4 cd5 cd6 cd7 cd8 cd9 cd10 cd11 cd12 cd13 cd14 cd15 cd16 cd17 cd18 cd19 cd20 cd21 cd22 cd23 cd24 cd25 cd26 cd27 cd28 cd29 cd30 cd31 cd32 cd33 cd34 cd35 cd36 cd37 cd38 cd39 cd40 cd41 cd42 cd43 cd44 cd45 cd46 cd47 cd48 cd49 cd50 cd51 cd52 cd53 cd54 cd55 cd56 cd57 cd58 cd59 cd60 cd61 cd62 cd63 cd64 cd65 cd66 cd67 cd68 cd69 ct0 ct1 ct2 ct3 ct4 ct5 ct6 ct7 ct8 ct9 ct10 ct11 ct12 ct13 ct14 ct15 ct16 ct17 ct18 ct19 ct20 ct21 ct22 ct23 ct24 ct25 ct26 ct27 ct28 ct29 ct30 ct31 ct32 ct33 ct34 ct35 ct36 ct37 ct38 ct39 ct40 ct41 ct42 ct43 ct44 ct45 ct46 ct47 ct48 ct49 ct50 ct51 ct52 ct53 ct54 ct55 ct56 ct57 ct58 ct59 ct60 ct61 ct62 ct63 ct64 ct65 ct66 ct67 ct68 ct69:Value}
  (X:K.In h) (G:h.Ns mainGlobals mg) (hfa:mg "law"=some (.ref fa))
  {C:Addr} (aC:W.nsIn K mainGlobals "System"=some (some (.ref C)))
  (a0:W.nsIn K mainGlobals "_law_bag"=some (some (.ref f0))) (l0:K.lookup f0=some ⟨oc0,od0,.func (W.fnOf "_law_bag" "_law_bag" (ba lZ) (aY lZ) (az lZ) .none kV0 dc0 pm0 an0 cd0 ct0),sl0⟩) (c0:W.codeIn K cd0 "_law_bag"=true) (k0:W.keepIn K (.ref f0)=true)
  (a1:W.nsIn K mainGlobals "_law_take"=some (some (.ref f1))) (l1:K.lookup f1=some ⟨oc1,od1,.func (W.fnOf "_law_take" "_law_take" (ba j5) (aY j5) (az j5) .none kV1 dc1 pm1 an1 cd1 ct1),sl1⟩) (c1:W.codeIn K cd1 "_law_take"=true) (k1:W.keepIn K (.ref f1)=true)
  (a2:W.nsIn K mainGlobals "_law_low"=some (some (.ref f2))) (l2:K.lookup f2=some ⟨oc2,od2,.func (W.fnOf "_law_low" "_law_low" (ba lW) (aY lW) (az lW) .none kV2 dc2 pm2 an2 cd2 ct2),sl2⟩) (c2:W.codeIn K cd2 "_law_low"=true) (k2:W.keepIn K (.ref f2)=true)
  (a3:W.nsIn K mainGlobals "_law_sum"=some (some (.ref f3))) (l3:K.lookup f3=some ⟨oc3,od3,.func (W.fnOf "_law_sum" "_law_sum" (ba lU) (aY lU) (az lU) .none kV3 dc3 pm3 an3 cd3 ct3),sl3⟩) (c3:W.codeIn K cd3 "_law_sum"=true) (k3:W.keepIn K (.ref f3)=true)
  (a4:W.nsIn K mainGlobals "_law_plus"=some (some (.ref f4))) (l4:K.lookup f4=some ⟨oc4,od4,.func (W.fnOf "_law_plus" "_law_plus" (ba j7) (aY j7) (az j7) .none kV4 dc4 pm4 an4 cd4 ct4),sl4⟩) (c4:W.codeIn K cd4 "_law_plus"=true) (k4:W.keepIn K (.ref f4)=true)
  (a5:W.nsIn K mainGlobals "_law_prod"=some (some (.ref f5))) (l5:K.lookup f5=some ⟨oc5,od5,.func (W.fnOf "_law_prod" "_law_prod" (ba j6) (aY j6) (az j6) .none kV5 dc5 pm5 an5 cd5 ct5),sl5⟩) (c5:W.codeIn K cd5 "_law_prod"=true) (k5:W.keepIn K (.ref f5)=true)
  (a6:W.nsIn K mainGlobals "_law_by"=some (some (.ref f6))) (l6:K.lookup f6=some ⟨oc6,od6,.func (W.fnOf "_law_by" "_law_by" (ba o7) (aY o7) (az o7) .none kV6 dc6 pm6 an6 cd6 ct6),sl6⟩) (c6:W.codeIn K cd6 "_law_by"=true) (k6:W.keepIn K (.ref f6)=true)
  (a7:W.nsIn K mainGlobals "_law_mixed"=some (some (.ref f7))) (l7:K.lookup f7=some ⟨oc7,od7,.func (W.fnOf "_law_mixed" "_law_mixed" (ba iQ) (aY iQ) (az iQ) .none kV7 dc7 pm7 an7 cd7 ct7),sl7⟩) (c7:W.codeIn K cd7 "_law_mixed"=true) (k7:W.keepIn K (.ref f7)=true)
  (a8:W.nsIn K mainGlobals "_law_line"=some (some (.ref f8))) (l8:K.lookup f8=some ⟨oc8,od8,.func (W.fnOf "_law_line" "_law_line" (ba ka) (aY ka) (az ka) .none kV8 dc8 pm8 an8 cd8 ct8),sl8⟩) (c8:W.codeIn K cd8 "_law_line"=true) (k8:W.keepIn K (.ref f8)=true)
  (a9:W.nsIn K mainGlobals "_law_sizes"=some (some (.ref f9))) (l9:K.lookup f9=some ⟨oc9,od9,.func (W.fnOf "_law_sizes" "_law_sizes" (ba gA) (aY gA) (az gA) .none kV9 dc9 pm9 an9 cd9 ct9),sl9⟩) (c9:W.codeIn K cd9 "_law_sizes"=true) (k9:W.keepIn K (.ref f9)=true)
  (a10:W.nsIn K mainGlobals "_law_number"=some (some (.ref f10))) (l10:K.lookup f10=some ⟨oc10,od10,.func (W.fnOf "_law_number" "_law_number" (ba gQ) (aY gQ) (az gQ) .none kV10 dc10 pm10 an10 cd10 ct10),sl10⟩) (c10:W.codeIn K cd10 "_law_number"=true) (k10:W.keepIn K (.ref f10)=true)
  (a11:W.nsIn K mainGlobals "_law_row"=some (some (.ref f11))) (l11:K.lookup f11=some ⟨oc11,od11,.func (W.fnOf "_law_row" "_law_row" (ba lV) (aY lV) (az lV) .none kV11 dc11 pm11 an11 cd11 ct11),sl11⟩) (c11:W.codeIn K cd11 "_law_row"=true) (k11:W.keepIn K (.ref f11)=true)
  (a12:W.nsIn K mainGlobals "_law_move"=some (some (.ref f12))) (l12:K.lookup f12=some ⟨oc12,od12,.func (W.fnOf "_law_move" "_law_move" (ba j9) (aY j9) (az j9) .none kV12 dc12 pm12 an12 cd12 ct12),sl12⟩) (c12:W.codeIn K cd12 "_law_move"=true) (k12:W.keepIn K (.ref f12)=true)
  (a13:W.nsIn K mainGlobals "_law_parts"=some (some (.ref f13))) (l13:K.lookup f13=some ⟨oc13,od13,.func (W.fnOf "_law_parts" "_law_parts" (ba iP) (aY iP) (az iP) .none kV13 dc13 pm13 an13 cd13 ct13),sl13⟩) (c13:W.codeIn K cd13 "_law_parts"=true) (k13:W.keepIn K (.ref f13)=true)
  (a14:W.nsIn K mainGlobals "_law_drawn"=some (some (.ref f14))) (l14:K.lookup f14=some ⟨oc14,od14,.func (W.fnOf "_law_drawn" "_law_drawn" (ba iU) (aY iU) (az iU) .none kV14 dc14 pm14 an14 cd14 ct14),sl14⟩) (c14:W.codeIn K cd14 "_law_drawn"=true) (k14:W.keepIn K (.ref f14)=true)
  (a15:W.nsIn K mainGlobals "want_list"=some (some (.ref f15))) (l15:K.lookup f15=some ⟨oc15,od15,.func (W.fnOf "want_list" "want_list" (ba jV) (aY jV) (az jV) .none kV15 dc15 pm15 an15 cd15 ct15),sl15⟩) (c15:W.codeIn K cd15 "want_list"=true) (k15:W.keepIn K (.ref f15)=true)
  (a16:W.nsIn K mainGlobals "is_whole"=some (some (.ref f16))) (l16:K.lookup f16=some ⟨oc16,od16,.func (W.fnOf "is_whole" "is_whole" (ba lS) (aY lS) (az lS) .none kV16 dc16 pm16 an16 cd16 ct16),sl16⟩) (c16:W.codeIn K cd16 "is_whole"=true) (k16:W.keepIn K (.ref f16)=true)
  (a17:W.nsIn K mainGlobals "common_divisor"=some (some (.ref f17))) (l17:K.lookup f17=some ⟨oc17,od17,.func (W.fnOf "common_divisor" "common_divisor" (ba eU) (aY eU) (az eU) .none kV17 dc17 pm17 an17 cd17 ct17),sl17⟩) (c17:W.codeIn K cd17 "common_divisor"=true) (k17:W.keepIn K (.ref f17)=true)
  (a18:W.nsIn K mainGlobals "is_number"=some (some (.ref f18))) (l18:K.lookup f18=some ⟨oc18,od18,.func (W.fnOf "is_number" "is_number" (ba jY) (aY jY) (az jY) .none kV18 dc18 pm18 an18 cd18 ct18),sl18⟩) (c18:W.codeIn K cd18 "is_number"=true) (k18:W.keepIn K (.ref f18)=true)
  (a19:W.nsIn K mainGlobals "is_row"=some (some (.ref f19))) (l19:K.lookup f19=some ⟨oc19,od19,.func (W.fnOf "is_row" "is_row" (ba rN) (aY rN) (az rN) .none kV19 dc19 pm19 an19 cd19 ct19),sl19⟩) (c19:W.codeIn K cd19 "is_row"=true) (k19:W.keepIn K (.ref f19)=true)
  (a20:W.nsIn K mainGlobals "copied_rows"=some (some (.ref f20))) (l20:K.lookup f20=some ⟨oc20,od20,.func (W.fnOf "copied_rows" "copied_rows" (ba gO) (aY gO) (az gO) .none kV20 dc20 pm20 an20 cd20 ct20),sl20⟩) (c20:W.codeIn K cd20 "copied_rows"=true) (k20:W.keepIn K (.ref f20)=true)
  (a21:W.findIn K (.ref C) "__init__"=some (some (.ref f21))) (i21:W.isFn K (.ref f21)=true) (l21:K.lookup f21=some ⟨oc21,od21,.func (W.fnOf "__init__" "System.__init__" (ba eC) (aY eC) (az eC) .none kV21 dc21 pm21 an21 cd21 ct21),sl21⟩) (c21:W.codeIn K cd21 "System.__init__"=true) (k21:W.keepIn K (.ref f21)=true)
  (a22:W.nsIn K mainGlobals "_law_copied"=some (some (.ref f22))) (l22:K.lookup f22=some ⟨oc22,od22,.func (W.fnOf "_law_copied" "_law_copied" (ba gU) (aY gU) (az gU) .none kV22 dc22 pm22 an22 cd22 ct22),sl22⟩) (c22:W.codeIn K cd22 "_law_copied"=true) (k22:W.keepIn K (.ref f22)=true)
  (a23:W.nsIn K mainGlobals "_law_system"=some (some (.ref f23))) (l23:K.lookup f23=some ⟨oc23,od23,.func (W.fnOf "_law_system" "_law_system" (ba gP) (aY gP) (az gP) .none kV23 dc23 pm23 an23 cd23 ct23),sl23⟩) (c23:W.codeIn K cd23 "_law_system"=true) (k23:W.keepIn K (.ref f23)=true)
  (a24:W.nsIn K mainGlobals "_law_steps"=some (some (.ref f24))) (l24:K.lookup f24=some ⟨oc24,od24,.func (W.fnOf "_law_steps" "_law_steps" (ba iO) (aY iO) (az iO) .none kV24 dc24 pm24 an24 cd24 ct24),sl24⟩) (c24:W.codeIn K cd24 "_law_steps"=true) (k24:W.keepIn K (.ref f24)=true)
  (a25:W.nsIn K mainGlobals "_law_noughts"=some (some (.ref f25))) (l25:K.lookup f25=some ⟨oc25,od25,.func (W.fnOf "_law_noughts" "_law_noughts" (ba fQ) (aY fQ) (az fQ) .none kV25 dc25 pm25 an25 cd25 ct25),sl25⟩) (c25:W.codeIn K cd25 "_law_noughts"=true) (k25:W.keepIn K (.ref f25)=true)
  (a26:W.nsIn K mainGlobals "_law_asked_row"=some (some (.ref f26))) (l26:K.lookup f26=some ⟨oc26,od26,.func (W.fnOf "_law_asked_row" "_law_asked_row" (ba eY) (aY eY) (az eY) .none kV26 dc26 pm26 an26 cd26 ct26),sl26⟩) (c26:W.codeIn K cd26 "_law_asked_row"=true) (k26:W.keepIn K (.ref f26)=true)
  (a27:W.nsIn K mainGlobals "_law_dot"=some (some (.ref f27))) (l27:K.lookup f27=some ⟨oc27,od27,.func (W.fnOf "_law_dot" "_law_dot" (ba lY) (aY lY) (az lY) .none kV27 dc27 pm27 an27 cd27 ct27),sl27⟩) (c27:W.codeIn K cd27 "_law_dot"=true) (k27:W.keepIn K (.ref f27)=true)
  (a28:W.nsIn K mainGlobals "_law_look_rows"=some (some (.ref f28))) (l28:K.lookup f28=some ⟨oc28,od28,.func (W.fnOf "_law_look_rows" "_law_look_rows" (ba eV) (aY eV) (az eV) .none kV28 dc28 pm28 an28 cd28 ct28),sl28⟩) (c28:W.codeIn K cd28 "_law_look_rows"=true) (k28:W.keepIn K (.ref f28)=true)
  (a29:W.nsIn K mainGlobals "tops_over"=some (some (.ref f29))) (l29:K.lookup f29=some ⟨oc29,od29,.func (W.fnOf "tops_over" "tops_over" (ba jW) (aY jW) (az jW) .none kV29 dc29 pm29 an29 cd29 ct29),sl29⟩) (c29:W.codeIn K cd29 "tops_over"=true) (k29:W.keepIn K (.ref f29)=true)
  (a30:W.nsIn K mainGlobals "common_multiple"=some (some (.ref f30))) (l30:K.lookup f30=some ⟨oc30,od30,.func (W.fnOf "common_multiple" "common_multiple" (ba eh) (aY eh) (az eh) .none kV30 dc30 pm30 an30 cd30 ct30),sl30⟩) (c30:W.codeIn K cd30 "common_multiple"=true) (k30:W.keepIn K (.ref f30)=true)
  (a31:W.nsIn K mainGlobals "common_bottom"=some (some (.ref f31))) (l31:K.lookup f31=some ⟨oc31,od31,.func (W.fnOf "common_bottom" "common_bottom" (ba fw) (aY fw) (az fw) .none kV31 dc31 pm31 an31 cd31 ct31),sl31⟩) (c31:W.codeIn K cd31 "common_bottom"=true) (k31:W.keepIn K (.ref f31)=true)
  (a32:W.nsIn K mainGlobals "first_with"=some (some (.ref f32))) (l32:K.lookup f32=some ⟨oc32,od32,.func (W.fnOf "first_with" "first_with" (ba iM) (aY iM) (az iM) .none kV32 dc32 pm32 an32 cd32 ct32),sl32⟩) (c32:W.codeIn K cd32 "first_with"=true) (k32:W.keepIn K (.ref f32)=true)
  (a33:W.nsIn K mainGlobals "cleared"=some (some (.ref f33))) (l33:K.lookup f33=some ⟨oc33,od33,.func (W.fnOf "cleared" "cleared" (ba o5) (aY o5) (az o5) .none kV33 dc33 pm33 an33 cd33 ct33),sl33⟩) (c33:W.codeIn K cd33 "cleared"=true) (k33:W.keepIn K (.ref f33)=true)
  (a34:W.nsIn K mainGlobals "brought_up"=some (some (.ref f34))) (l34:K.lookup f34=some ⟨oc34,od34,.func (W.fnOf "brought_up" "brought_up" (ba iN) (aY iN) (az iN) .none kV34 dc34 pm34 an34 cd34 ct34),sl34⟩) (c34:W.codeIn K cd34 "brought_up"=true) (k34:W.keepIn K (.ref f34)=true)
  (a35:W.nsIn K mainGlobals "swept"=some (some (.ref f35))) (l35:K.lookup f35=some ⟨oc35,od35,.func (W.fnOf "swept" "swept" (ba vB) (aY vB) (az vB) .none kV35 dc35 pm35 an35 cd35 ct35),sl35⟩) (c35:W.codeIn K cd35 "swept"=true) (k35:W.keepIn K (.ref f35)=true)
  (a36:W.nsIn K mainGlobals "lowest"=some (some (.ref f36))) (l36:K.lookup f36=some ⟨oc36,od36,.func (W.fnOf "lowest" "lowest" (ba rM) (aY rM) (az rM) .none kV36 dc36 pm36 an36 cd36 ct36),sl36⟩) (c36:W.codeIn K cd36 "lowest"=true) (k36:W.keepIn K (.ref f36)=true)
  (a37:W.nsIn K mainGlobals "reduced"=some (some (.ref f37))) (l37:K.lookup f37=some ⟨oc37,od37,.func (W.fnOf "reduced" "reduced" (ba oX) (aY oX) (az oX) .none kV37 dc37 pm37 an37 cd37 ct37),sl37⟩) (c37:W.codeIn K cd37 "reduced"=true) (k37:W.keepIn K (.ref f37)=true)
  (a38:W.nsIn K mainGlobals "row_dot"=some (some (.ref f38))) (l38:K.lookup f38=some ⟨oc38,od38,.func (W.fnOf "row_dot" "row_dot" (ba oW) (aY oW) (az oW) .none kV38 dc38 pm38 an38 cd38 ct38),sl38⟩) (c38:W.codeIn K cd38 "row_dot"=true) (k38:W.keepIn K (.ref f38)=true)
  (a39:W.nsIn K mainGlobals "grid_on"=some (some (.ref f39))) (l39:K.lookup f39=some ⟨oc39,od39,.func (W.fnOf "grid_on" "grid_on" (ba oZ) (aY oZ) (az oZ) .none kV39 dc39 pm39 an39 cd39 ct39),sl39⟩) (c39:W.codeIn K cd39 "grid_on"=true) (k39:W.keepIn K (.ref f39)=true)
  (a40:W.nsIn K mainGlobals "moved_rows"=some (some (.ref f40))) (l40:K.lookup f40=some ⟨oc40,od40,.func (W.fnOf "moved_rows" "moved_rows" (ba iL) (aY iL) (az iL) .none kV40 dc40 pm40 an40 cd40 ct40),sl40⟩) (c40:W.codeIn K cd40 "moved_rows"=true) (k40:W.keepIn K (.ref f40)=true)
  (a41:W.nsIn K mainGlobals "reach_grown"=some (some (.ref f41))) (l41:K.lookup f41=some ⟨oc41,od41,.func (W.fnOf "reach_grown" "reach_grown" (ba gL) (aY gL) (az gL) .none kV41 dc41 pm41 an41 cd41 ct41),sl41⟩) (c41:W.codeIn K cd41 "reach_grown"=true) (k41:W.keepIn K (.ref f41)=true)
  (a42:W.nsIn K mainGlobals "flat"=some (some (.ref f42))) (l42:K.lookup f42=some ⟨oc42,od42,.func (W.fnOf "flat" "flat" (ba yG) (aY yG) (az yG) .none kV42 dc42 pm42 an42 cd42 ct42),sl42⟩) (c42:W.codeIn K cd42 "flat"=true) (k42:W.keepIn K (.ref f42)=true)
  (a43:W.nsIn K mainGlobals "additions"=some (some (.ref f43))) (l43:K.lookup f43=some ⟨oc43,od43,.func (W.fnOf "additions" "additions" (ba jZ) (aY jZ) (az jZ) .none kV43 dc43 pm43 an43 cd43 ct43),sl43⟩) (c43:W.codeIn K cd43 "additions"=true) (k43:W.keepIn K (.ref f43)=true)
  (a44:W.nsIn K mainGlobals "nought_row"=some (some (.ref f44))) (l44:K.lookup f44=some ⟨oc44,od44,.func (W.fnOf "nought_row" "nought_row" (ba iK) (aY iK) (az iK) .none kV44 dc44 pm44 an44 cd44 ct44),sl44⟩) (c44:W.codeIn K cd44 "nought_row"=true) (k44:W.keepIn K (.ref f44)=true)
  (a45:W.nsIn K mainGlobals "solved"=some (some (.ref f45))) (l45:K.lookup f45=some ⟨oc45,od45,.func (W.fnOf "solved" "solved" (ba rL) (aY rL) (az rL) .none kV45 dc45 pm45 an45 cd45 ct45),sl45⟩) (c45:W.codeIn K cd45 "solved"=true) (k45:W.keepIn K (.ref f45)=true)
  (a46:W.nsIn K mainGlobals "grid_turned"=some (some (.ref f46))) (l46:K.lookup f46=some ⟨oc46,od46,.func (W.fnOf "grid_turned" "grid_turned" (ba gN) (aY gN) (az gN) .none kV46 dc46 pm46 an46 cd46 ct46),sl46⟩) (c46:W.codeIn K cd46 "grid_turned"=true) (k46:W.keepIn K (.ref f46)=true)
  (a47:W.nsIn K mainGlobals "solve"=some (some (.ref f47))) (l47:K.lookup f47=some ⟨oc47,od47,.func (W.fnOf "solve" "solve" (ba vC) (aY vC) (az vC) .none kV47 dc47 pm47 an47 cd47 ct47),sl47⟩) (c47:W.codeIn K cd47 "solve"=true) (k47:W.keepIn K (.ref f47)=true)
  (a48:W.nsIn K mainGlobals "weights_for"=some (some (.ref f48))) (l48:K.lookup f48=some ⟨oc48,od48,.func (W.fnOf "weights_for" "weights_for" (ba gK) (aY gK) (az gK) .none kV48 dc48 pm48 an48 cd48 ct48),sl48⟩) (c48:W.codeIn K cd48 "weights_for"=true) (k48:W.keepIn K (.ref f48)=true)
  (a49:W.nsIn K mainGlobals "minus"=some (some (.ref f49))) (l49:K.lookup f49=some ⟨oc49,od49,.func (W.fnOf "minus" "minus" (ba vD) (aY vD) (az vD) .none kV49 dc49 pm49 an49 cd49 ct49),sl49⟩) (c49:W.codeIn K cd49 "minus"=true) (k49:W.keepIn K (.ref f49)=true)
  (a50:W.nsIn K mainGlobals "row_minus"=some (some (.ref f50))) (l50:K.lookup f50=some ⟨oc50,od50,.func (W.fnOf "row_minus" "row_minus" (ba jX) (aY jX) (az jX) .none kV50 dc50 pm50 an50 cd50 ct50),sl50⟩) (c50:W.codeIn K cd50 "row_minus"=true) (k50:W.keepIn K (.ref f50)=true)
  (a51:W.findIn K (.ref C) "moved"=some (some (.ref f51))) (i51:W.isFn K (.ref f51)=true) (l51:K.lookup f51=some ⟨oc51,od51,.func (W.fnOf "moved" "System.moved" (ba fU) (aY fU) (az fU) .none kV51 dc51 pm51 an51 cd51 ct51),sl51⟩) (c51:W.codeIn K cd51 "System.moved"=true) (k51:W.keepIn K (.ref f51)=true)
  (a52:W.nsIn K mainGlobals "course"=some (some (.ref f52))) (l52:K.lookup f52=some ⟨oc52,od52,.func (W.fnOf "course" "course" (ba rO) (aY rO) (az rO) .none kV52 dc52 pm52 an52 cd52 ct52),sl52⟩) (c52:W.codeIn K cd52 "course"=true) (k52:W.keepIn K (.ref f52)=true)
  (a53:W.nsIn K mainGlobals "nothing_for"=some (some (.ref f53))) (l53:K.lookup f53=some ⟨oc53,od53,.func (W.fnOf "nothing_for" "nothing_for" (ba gM) (aY gM) (az gM) .none kV53 dc53 pm53 an53 cd53 ct53),sl53⟩) (c53:W.codeIn K cd53 "nothing_for"=true) (k53:W.keepIn K (.ref f53)=true)
  (a54:W.nsIn K mainGlobals "lacking"=some (some (.ref f54))) (l54:K.lookup f54=some ⟨oc54,od54,.func (W.fnOf "lacking" "lacking" (ba oY) (aY oY) (az oY) .none kV54 dc54 pm54 an54 cd54 ct54),sl54⟩) (c54:W.codeIn K cd54 "lacking"=true) (k54:W.keepIn K (.ref f54)=true)
  (a55:W.nsIn K mainGlobals "cut"=some (some (.ref f55))) (l55:K.lookup f55=some ⟨oc55,od55,.func (W.fnOf "cut" "cut" (ba Ck) (aY Ck) (az Ck) .none kV55 dc55 pm55 an55 cd55 ct55),sl55⟩) (c55:W.codeIn K cd55 "cut"=true) (k55:W.keepIn K (.ref f55)=true)
  (a56:W.nsIn K mainGlobals "come"=some (some (.ref f56))) (l56:K.lookup f56=some ⟨oc56,od56,.func (W.fnOf "come" "come" (ba yH) (aY yH) (az yH) .none kV56 dc56 pm56 an56 cd56 ct56),sl56⟩) (c56:W.codeIn K cd56 "come"=true) (k56:W.keepIn K (.ref f56)=true)
  (a57:W.findIn K (.ref C) "turned"=some (some (.ref f57))) (i57:W.isFn K (.ref f57)=true) (l57:K.lookup f57=some ⟨oc57,od57,.func (W.fnOf "turned" "System.turned" (ba fz) (aY fz) (az fz) .none kV57 dc57 pm57 an57 cd57 ct57),sl57⟩) (c57:W.codeIn K cd57 "System.turned"=true) (k57:W.keepIn K (.ref f57)=true)
  (a58:W.nsIn K mainGlobals "told_by"=some (some (.ref f58))) (l58:K.lookup f58=some ⟨oc58,od58,.func (W.fnOf "told_by" "told_by" (ba oV) (aY oV) (az oV) .none kV58 dc58 pm58 an58 cd58 ct58),sl58⟩) (c58:W.codeIn K cd58 "told_by"=true) (k58:W.keepIn K (.ref f58)=true)
  (a59:W.nsIn K mainGlobals "_law_is_number"=some (some (.ref f59))) (l59:K.lookup f59=some ⟨oc59,od59,.func (W.fnOf "_law_is_number" "_law_is_number" (ba eX) (aY eX) (az eX) .none kV59 dc59 pm59 an59 cd59 ct59),sl59⟩) (c59:W.codeIn K cd59 "_law_is_number"=true) (k59:W.keepIn K (.ref f59)=true)
  (a60:W.nsIn K mainGlobals "_law_is_row"=some (some (.ref f60))) (l60:K.lookup f60=some ⟨oc60,od60,.func (W.fnOf "_law_is_row" "_law_is_row" (ba gR) (aY gR) (az gR) .none kV60 dc60 pm60 an60 cd60 ct60),sl60⟩) (c60:W.codeIn K cd60 "_law_is_row"=true) (k60:W.keepIn K (.ref f60)=true)
  (a61:W.nsIn K mainGlobals "_law_is_grid"=some (some (.ref f61))) (l61:K.lookup f61=some ⟨oc61,od61,.func (W.fnOf "_law_is_grid" "_law_is_grid" (ba fR) (aY fR) (az fR) .none kV61 dc61 pm61 an61 cd61 ct61),sl61⟩) (c61:W.codeIn K cd61 "_law_is_grid"=true) (k61:W.keepIn K (.ref f61)=true)
  (a62:W.nsIn K mainGlobals "_law_on"=some (some (.ref f62))) (l62:K.lookup f62=some ⟨oc62,od62,.func (W.fnOf "_law_on" "_law_on" (ba o6) (aY o6) (az o6) .none kV62 dc62 pm62 an62 cd62 ct62),sl62⟩) (c62:W.codeIn K cd62 "_law_on"=true) (k62:W.keepIn K (.ref f62)=true)
  (a63:W.nsIn K mainGlobals "_law_next"=some (some (.ref f63))) (l63:K.lookup f63=some ⟨oc63,od63,.func (W.fnOf "_law_next" "_law_next" (ba j8) (aY j8) (az j8) .none kV63 dc63 pm63 an63 cd63 ct63),sl63⟩) (c63:W.codeIn K cd63 "_law_next"=true) (k63:W.keepIn K (.ref f63)=true)
  (a64:W.nsIn K mainGlobals "_law_looks"=some (some (.ref f64))) (l64:K.lookup f64=some ⟨oc64,od64,.func (W.fnOf "_law_looks" "_law_looks" (ba iT) (aY iT) (az iT) .none kV64 dc64 pm64 an64 cd64 ct64),sl64⟩) (c64:W.codeIn K cd64 "_law_looks"=true) (k64:W.keepIn K (.ref f64)=true)
  (a65:W.nsIn K mainGlobals "_law_less"=some (some (.ref f65))) (l65:K.lookup f65=some ⟨oc65,od65,.func (W.fnOf "_law_less" "_law_less" (ba kd) (aY kd) (az kd) .none kV65 dc65 pm65 an65 cd65 ct65),sl65⟩) (c65:W.codeIn K cd65 "_law_less"=true) (k65:W.keepIn K (.ref f65)=true)
  (a66:W.nsIn K mainGlobals "_law_minus"=some (some (.ref f66))) (l66:K.lookup f66=some ⟨oc66,od66,.func (W.fnOf "_law_minus" "_law_minus" (ba iS) (aY iS) (az iS) .none kV66 dc66 pm66 an66 cd66 ct66),sl66⟩) (c66:W.codeIn K cd66 "_law_minus"=true) (k66:W.keepIn K (.ref f66)=true)
  (a67:W.nsIn K mainGlobals "_law_from_right"=some (some (.ref f67))) (l67:K.lookup f67=some ⟨oc67,od67,.func (W.fnOf "_law_from_right" "_law_from_right" (ba eB) (aY eB) (az eB) .none kV67 dc67 pm67 an67 cd67 ct67),sl67⟩) (c67:W.codeIn K cd67 "_law_from_right"=true) (k67:W.keepIn K (.ref f67)=true)
  (a68:W.nsIn K mainGlobals "_law_alike_right"=some (some (.ref f68))) (l68:K.lookup f68=some ⟨oc68,od68,.func (W.fnOf "_law_alike_right" "_law_alike_right" (ba dR) (aY dR) (az dR) .none kV68 dc68 pm68 an68 cd68 ct68),sl68⟩) (c68:W.codeIn K cd68 "_law_alike_right"=true) (k68:W.keepIn K (.ref f68)=true)
  (a69:W.nsIn K mainGlobals "law"=some (some (.ref f69))) (l69:K.lookup f69=some ⟨oc69,od69,.func (W.fnOf "law" "law" (ba Cj) (aY Cj) (az Cj) .none kV69 dc69 pm69 an69 cd69 ct69),sl69⟩) (c69:W.codeIn K cd69 "law"=true) (k69:W.keepIn K (.ref f69)=true)
  {m0:Addr} {mo0:Option Addr} {mn0:Nat} {ms0:Array (Option Value)} {mt0_0 mt0_1:Tok} (ca0:W.nsIn K mainGlobals "NOUGHT"=some (some (.ref m0))) (cl0:K.lookup m0=some ⟨.type "tuple",mo0,.seq #[.int 0 mt0_0,.int 1 mt0_1] mn0,ms0⟩)
  {m1:Addr} {mo1:Option Addr} {mn1:Nat} {ms1:Array (Option Value)} {mt1_0 mt1_1:Tok} (ca1:W.nsIn K mainGlobals "ONE"=some (some (.ref m1))) (cl1:K.lookup m1=some ⟨.type "tuple",mo1,.seq #[.int 1 mt1_0,.int 1 mt1_1] mn1,ms1⟩)
  {it0:Tok} (ci0:W.nsIn K mainGlobals "MOST_STATES"=some (some (.int 8 it0)))
  {it1:Tok} (ci1:W.nsIn K mainGlobals "MOST_PUTS"=some (some (.int 4 it1)))
  {it2:Tok} (ci2:W.nsIn K mainGlobals "MOST_LOOKS"=some (some (.int 4 it2)))
  (pg:W.plainGet K C Str.empty=true) (hd:W.hasDictIn K C=true) (po:W.plainOver K C=true) (sa:W.findIn K (.ref C) "__setattr__"=some (some (.builtin "object.__setattr__"))) (mk:W.makesIn K C=true) (kc:W.keepIn K (.ref C)=true)
  (n_move:W.findIn K (.ref C) "move"=some none)
  (n_states:W.findIn K (.ref C) "states"=some none)
  (n_put:W.findIn K (.ref C) "put"=some none)
  (n_ins:W.findIn K (.ref C) "ins"=some none)
  (n_look:W.findIn K (.ref C) "look"=some none)
  (n_outs:W.findIn K (.ref C) "outs"=some none)
  (z_abs:W.nsIn K mainGlobals "abs"=some none)
  (z_len:W.nsIn K mainGlobals "len"=some none)
  (z_range:W.nsIn K mainGlobals "range"=some none)
  (z_int:W.nsIn K mainGlobals "int"=some none)
  (z_min:W.nsIn K mainGlobals "min"=some none)
  (z_isinstance:W.nsIn K mainGlobals "isinstance"=some none)
  (z_list:W.nsIn K mainGlobals "list"=some none)
  (z_bool:W.nsIn K mainGlobals "bool"=some none)
  (z_tuple:W.nsIn K mainGlobals "tuple"=some none)
  (z_all:W.nsIn K mainGlobals "all"=some none)
  (z_enumerate:W.nsIn K mainGlobals "enumerate"=some none)
  (z_zip:W.nsIn K mainGlobals "zip"=some none)
  (z_sum:W.nsIn K mainGlobals "sum"=some none)
  (z_reversed:W.nsIn K mainGlobals "reversed"=some none)
  : ∃fd:FuncData,(∀(s:Shared) (v:Value),BindsTo s fd ⟨[v],[]⟩ [("_law_script",v)])/\∀base:Heap,K.In base->base.Ns mainGlobals mg->cN l.prog w K mg base gJ 10 fa fd ["_law_script"] (C9 K):=by
 have e:=hfa.symm.trans (W.mg_of X G a69);cases e;have F0:=bN (st:=lZ) l0 c0 k0;have F1:=bN (st:=j5) l1 c1 k1;have F2:=bN (st:=lW) l2 c2 k2;have F3:=bN (st:=lU) l3 c3 k3;have F4:=bN (st:=j7) l4 c4 k4;have F5:=bN (st:=j6) l5 c5 k5;have F6:=bN (st:=o7) l6 c6 k6;have F7:=bN (st:=iQ) l7 c7 k7;have F8:=bN (st:=ka) l8 c8 k8;have F9:=bN (st:=gA) l9 c9 k9;have F10:=bN (st:=gQ) l10 c10 k10;have F11:=bN (st:=lV) l11 c11 k11;have F12:=bN (st:=j9) l12 c12 k12;have F13:=bN (st:=iP) l13 c13 k13;have F14:=bN (st:=iU) l14 c14 k14;have F15:=bN (st:=jV) l15 c15 k15;have F16:=bN (st:=lS) l16 c16 k16;have F17:=bN (st:=eU) l17 c17 k17;have F18:=bN (st:=jY) l18 c18 k18;have F19:=bN (st:=rN) l19 c19 k19;have F20:=bN (st:=gO) l20 c20 k20;have F21:=bN (st:=eC) l21 c21 k21;have F22:=bN (st:=gU) l22 c22 k22;have F23:=bN (st:=gP) l23 c23 k23;have F24:=bN (st:=iO) l24 c24 k24;have F25:=bN (st:=fQ) l25 c25 k25;have F26:=bN (st:=eY) l26 c26 k26;have F27:=bN (st:=lY) l27 c27 k27;have F28:=bN (st:=eV) l28 c28 k28;have F29:=bN (st:=jW) l29 c29 k29;have F30:=bN (st:=eh) l30 c30 k30;have F31:=bN (st:=fw) l31 c31 k31;have F32:=bN (st:=iM) l32 c32 k32;have F33:=bN (st:=o5) l33 c33 k33;have F34:=bN (st:=iN) l34 c34 k34;have F35:=bN (st:=vB) l35 c35 k35;have F36:=bN (st:=rM) l36 c36 k36;have F37:=bN (st:=oX) l37 c37 k37;have F38:=bN (st:=oW) l38 c38 k38;have F39:=bN (st:=oZ) l39 c39 k39;have F40:=bN (st:=iL) l40 c40 k40;have F41:=bN (st:=gL) l41 c41 k41;have F42:=bN (st:=yG) l42 c42 k42;have F43:=bN (st:=jZ) l43 c43 k43;have F44:=bN (st:=iK) l44 c44 k44;have F45:=bN (st:=rL) l45 c45 k45;have F46:=bN (st:=gN) l46 c46 k46;have F47:=bN (st:=vC) l47 c47 k47;have F48:=bN (st:=gK) l48 c48 k48;have F49:=bN (st:=vD) l49 c49 k49;have F50:=bN (st:=jX) l50 c50 k50;have F51:=bN (st:=fU) l51 c51 k51;have F52:=bN (st:=rO) l52 c52 k52;have F53:=bN (st:=gM) l53 c53 k53;have F54:=bN (st:=oY) l54 c54 k54;have F55:=bN (st:=Ck) l55 c55 k55;have F56:=bN (st:=yH) l56 c56 k56;have F57:=bN (st:=fz) l57 c57 k57;have F58:=bN (st:=oV) l58 c58 k58;have F59:=bN (st:=eX) l59 c59 k59;have F60:=bN (st:=gR) l60 c60 k60;have F61:=bN (st:=fR) l61 c61 k61;have F62:=bN (st:=o6) l62 c62 k62;have F63:=bN (st:=j8) l63 c63 k63;have F64:=bN (st:=iT) l64 c64 k64;have F65:=bN (st:=kd) l65 c65 k65;have F66:=bN (st:=iS) l66 c66 k66;have F67:=bN (st:=eB) l67 c67 k67;have F68:=bN (st:=dR) l68 c68 k68;have F69:=bN (st:=Cj) l69 c69 k69
 have T:Txt K mg { tO:=f0,tu:=_,qQ:=f1,qq:=_,tK:=f2,sZ:=_,tI:=f3,sX:=_,qS:=f4,qB:=_,qR:=f5,qA:=_,v3:=f6,vP:=_,oM:=f7,oz:=_,qV:=f8,qE:=_,oJ:=f9,ox:=_,mY:=f10,mL:=_,tJ:=f11,sY:=_,qU:=f12,qD:=_,oK:=f13,oy:=_,oP:=f14,oC:=_,qL:=f15,qe:=_,tH:=f16,sW:=_,jc:=f17,iY:=_,qO:=f18,qi:=_,yn:=f19,ya:=_,mW:=f20,mJ:=_,ik:=f21,ie:=_,m4:=f22,mN:=_,mX:=f23,mK:=_,oI:=f24,ow:=_,lD:=f25,kY:=_,jf:=f26,i8:=_,tL:=f27,tm:=_,jd:=f28,iZ:=_,qM:=f29,qg:=_,ig:=f30,ib:=_,jG:=f31,jD:=_,oG:=f32,ot:=_,vY:=f33,vN:=_,oH:=f34,ou:=_,Ag:=f35,Ab:=_,ym:=f36,xZ:=_,vV:=f37,vK:=_,vU:=f38,vJ:=_,vX:=f39,vM:=_,oF:=f40,oq:=_,mT:=f41,mG:=_,DX:=f42,DN:=_,qP:=f43,qo:=_,oE:=f44,oo:=_,yl:=f45,xY:=_,mV:=f46,mI:=_,Ah:=f47,Ac:=_,mS:=f48,mF:=_,Ai:=f49,Ad:=_,qN:=f50,qh:=_,lF:=f51,lh:=_,yo:=f52,yc:=_,mU:=f53,mH:=_,vW:=f54,vL:=_,Ik:=f55,Ib:=_,DY:=f56,DO:=_,jH:=f57,jE:=_,vT:=f58,vI:=_,je:=f59,i5:=_,mZ:=f60,mM:=_,lE:=f61,kZ:=_,vZ:=f62,vO:=_,qT:=f63,qC:=_,oO:=f64,oB:=_,qW:=f65,qF:=_,oN:=f66,oA:=_,ij:=f67,ic:=_,gE:=f68,gD:=_,LH:=fa,Lu:=_,a_NOUGHT:=m0,a_ONE:=m1,t_MOST_STATES:=it0,t_MOST_PUTS:=it1,t_MOST_LOOKS:=it2,a_System:=C }:={
  zm:=W.mg_of X G a0
  By:=F0.binds (ps:=["_law_script"]) fun _ _ _ _ _ _=>by refine Gk ?_;intros;rfl
  xp:=F0
  bw:=W.mg_of X G a1
  bK:=F1.binds (ps:=["_law_bag_here","_law_many"]) fun _ _ _ _ _ _=>by refine ln2 ?_;intros;rfl
  bH:=F1
  iD:=W.mg_of X G a2
  jQ:=F2.binds (ps:=["_law_top","_law_bottom"]) fun _ _ _ _ _ _=>by refine ln2 ?_;intros;rfl
  iG:=F2
  kj:=W.mg_of X G a3
  mf:=F3.binds (ps:=["_law_one","_law_other"]) fun _ _ _ _ _ _=>by refine ln2 ?_;intros;rfl
  jS:=F3
  kT:=W.mg_of X G a4
  nG:=F4.binds (ps:=["_law_one","_law_other"]) fun _ _ _ _ _ _=>by refine ln2 ?_;intros;rfl
  kz:=F4
  kS:=W.mg_of X G a5
  nF:=F5.binds (ps:=["_law_one","_law_other"]) fun _ _ _ _ _ _=>by refine ln2 ?_;intros;rfl
  ky:=F5
  sQ:=W.mg_of X G a6
  vR:=F6.binds (ps:=["_law_factor","_law_row_here"]) fun _ _ _ _ _ _=>by refine ln2 ?_;intros;rfl
  sD:=F6
  rz:=W.mg_of X G a7
  tG:=F7.binds (ps:=["_law_bag_here","_law_move_here","_law_put","_law_look"]) fun _ _ _ _ _ _=>by refine PV ?_;intros;rfl
  oR:=F7
  xR:=W.mg_of X G a8
  zC:=F8.binds (ps:=["_law_bag_here"]) fun _ _ _ _ _ _=>by refine Gk ?_;intros;rfl
  vv:=F8
  wL:=W.mg_of X G a9
  yg:=F9.binds (ps:=["_law_bag_here"]) fun _ _ _ _ _ _=>by refine Gk ?_;intros;rfl
  tV:=F9
  pL:=W.mg_of X G a10
  rC:=F10.binds (ps:=["_law_bag_here","_law_wide"]) fun _ _ _ _ _ _=>by refine ln2 ?_;intros;rfl
  m6:=F10
  iC:=W.mg_of X G a11
  jP:=F11.binds (ps:=["_law_bag_here","_law_many","_law_wide"]) fun _ _ _ _ _ _=>by refine Gj ?_;intros;rfl
  iF:=F11
  xQ:=W.mg_of X G a12
  zB:=F12.binds (ps:=["_law_bag_here","_law_n","_law_way","_law_first","_law_wide"]) fun _ _ _ _ _ _=>by refine RC ?_;intros;rfl
  vq:=F12
  wM:=W.mg_of X G a13
  yh:=F13.binds (ps:=["_law_bag_here","_law_n","_law_ins","_law_outs","_law_wide"]) fun _ _ _ _ _ _=>by refine RC ?_;intros;rfl
  tW:=F13
  wO:=W.mg_of X G a14
  yj:=F14.binds (ps:=["_law_bag_here"]) fun _ _ _ _ _ _=>by refine Gk ?_;intros;rfl
  tZ:=F14
  oi:=W.mg_of X G a15
  qH:=F15.binds (ps:=["thing","at","most"]) fun _ _ _ _ _ _=>by refine Gj ?_;intros;rfl
  nJ:=F15
  uR:=W.mg_of X G a16
  xn:=F16.binds (ps:=["thing"]) fun _ _ _ _ _ _=>by refine Gk ?_;intros;rfl
  tR:=F16
  ia:=W.mg_of X G a17
  jb:=F17.binds (ps:=["one","other"]) fun _ _ _ _ _ _=>by refine ln2 ?_;intros;rfl
  fX:=F17
  xN:=W.mg_of X G a18
  zy:=F18.binds (ps:=["thing"]) fun _ _ _ _ _ _=>by refine Gk ?_;intros;rfl
  vn:=F18
  Cq:=W.mg_of X G a19
  EW:=F19.binds (ps:=["thing","many"]) fun _ _ _ _ _ _=>by refine ln2 ?_;intros;rfl
  BB:=F19
  kR:=W.mg_of X G a20
  mQ:=F20.binds (ps:=["things","wide"]) fun _ _ _ _ _ _=>by refine ln2 ?_;intros;rfl
  jB:=F20
  lC:=F21.binds (ps:=["self","move","put","look"]) fun _ _ _ _ _ _=>by refine PV ?_;intros;rfl
  qY:=F21
  kU:=W.mg_of X G a22
  mR:=F22.binds (ps:=["_law_grid"]) fun _ _ _ _ _ _=>by refine Gk ?_;intros;rfl
  jC:=F22
  uS:=W.mg_of X G a23
  wV:=F23.binds (ps:=["_law_parts_here"]) fun _ _ _ _ _ _=>by refine Gk ?_;intros;rfl
  rG:=F23
  wK:=W.mg_of X G a24
  yf:=F24.binds (ps:=["_law_bag_here","_law_n","_law_wide"]) fun _ _ _ _ _ _=>by refine Gj ?_;intros;rfl
  tU:=F24
  nR:=W.mg_of X G a25
  pO:=F25.binds (ps:=["_law_many"]) fun _ _ _ _ _ _=>by refine Gk ?_;intros;rfl
  lK:=F25
  p8:=W.mg_of X G a26
  sv:=F26.binds (ps:=["_law_bag_here","_law_rows","_law_n","_law_wide"]) fun _ _ _ _ _ _=>by refine PV ?_;intros;rfl
  mo:=F26
  iE:=W.mg_of X G a27
  jR:=F27.binds (ps:=["_law_one","_law_other"]) fun _ _ _ _ _ _=>by refine ln2 ?_;intros;rfl
  iH:=F27
  p6:=W.mg_of X G a28
  si:=F28.binds (ps:=["_law_parts_here","_law_steps_here"]) fun _ _ _ _ _ _=>by refine ln2 ?_;intros;rfl
  mi:=F28
  oj:=W.mg_of X G a29
  qI:=F29.binds (ps:=["row","bottom"]) fun _ _ _ _ _ _=>by refine ln2 ?_;intros;rfl
  nK:=F29
  pK:=W.mg_of X G a30
  qJ:=F30.binds (ps:=["wholes"]) fun _ _ _ _ _ _=>by refine Gk ?_;intros;rfl
  lJ:=F30
  iW:=W.mg_of X G a31
  jF:=F31.binds (ps:=["row"]) fun _ _ _ _ _ _=>by refine Gk ?_;intros;rfl
  gI:=F31
  wI:=W.mg_of X G a32
  yd:=F32.binds (ps:=["lines","begin","place"]) fun _ _ _ _ _ _=>by refine Gj ?_;intros;rfl
  tS:=F32
  Bf:=W.mg_of X G a33
  CT:=F33.binds (ps:=["lines","at","place","before"]) fun _ _ _ _ _ _=>by refine PV ?_;intros;rfl
  zf:=F33
  wJ:=W.mg_of X G a34
  ye:=F34.binds (ps:=["lines","at","to"]) fun _ _ _ _ _ _=>by refine Gj ?_;intros;rfl
  tT:=F34
  A8:=W.mg_of X G a35
  DS:=F35.binds (ps:=["rows","wide"]) fun _ _ _ _ _ _=>by refine ln2 ?_;intros;rfl
  Al:=F35
  rR:=W.mg_of X G a36
  u6:=F36.binds (ps:=["top","bottom"]) fun _ _ _ _ _ _=>by refine ln2 ?_;intros;rfl
  sC:=F36
  A9:=W.mg_of X G a37
  CO:=F37.binds (ps:=["rows","wide"]) fun _ _ _ _ _ _=>by refine ln2 ?_;intros;rfl
  zb:=F37
  xk:=W.mg_of X G a38
  yY:=F38.binds (ps:=["one","other"]) fun _ _ _ _ _ _=>by refine ln2 ?_;intros;rfl
  v5:=F38
  Be:=W.mg_of X G a39
  CS:=F39.binds (ps:=["grid","row"]) fun _ _ _ _ _ _=>by refine ln2 ?_;intros;rfl
  ze:=F39
  rn:=W.mg_of X G a40
  tF:=F40.binds (ps:=["system","rows"]) fun _ _ _ _ _ _=>by refine ln2 ?_;intros;rfl
  oQ:=F40
  uQ:=W.mg_of X G a41
  wU:=F41.binds (ps:=["system","steps"]) fun _ _ _ _ _ _=>by refine ln2 ?_;intros;rfl
  rF:=F41
  HI:=W.mg_of X G a42
  LC:=F42.binds (ps:=["lists"]) fun _ _ _ _ _ _=>by refine Gk ?_;intros;rfl
  GO:=F42
  xO:=W.mg_of X G a43
  zz:=F43.binds (ps:=["system","steps"]) fun _ _ _ _ _ _=>by refine ln2 ?_;intros;rfl
  vo:=F43
  jy:=W.mg_of X G a44
  lA:=F44.binds (ps:=["many"]) fun _ _ _ _ _ _=>by refine Gk ?_;intros;rfl
  jg:=F44
  yP:=W.mg_of X G a45
  Bx:=F45.binds (ps:=["rows","wide","due"]) fun _ _ _ _ _ _=>by refine Gj ?_;intros;rfl
  yp:=F45
  iB:=W.mg_of X G a46
  jA:=F46.binds (ps:=["grid","wide"]) fun _ _ _ _ _ _=>by refine ln2 ?_;intros;rfl
  gX:=F46
  ED:=W.mg_of X G a47
  Ig:=F47.binds (ps:=["rows","wide","due"]) fun _ _ _ _ _ _=>by refine Gj ?_;intros;rfl
  D5:=F47
  uP:=W.mg_of X G a48
  wQ:=F48.binds (ps:=["rows","wide","row"]) fun _ _ _ _ _ _=>by refine Gj ?_;intros;rfl
  rE:=F48
  EE:=W.mg_of X G a49
  Ih:=F49.binds (ps:=["one","other"]) fun _ _ _ _ _ _=>by refine ln2 ?_;intros;rfl
  D6:=F49
  xM:=W.mg_of X G a50
  zx:=F50.binds (ps:=["one","other"]) fun _ _ _ _ _ _=>by refine ln2 ?_;intros;rfl
  vm:=F50
  ug:=⟨a51,i51,k51⟩
  vf:=F51.binds (ps:=["self","state","puts"]) fun _ _ _ _ _ _=>by refine Gj ?_;intros;rfl
  vz:=F51
  Cr:=W.mg_of X G a52
  EX:=F52.binds (ps:=["system","start","puts"]) fun _ _ _ _ _ _=>by refine Gj ?_;intros;rfl
  BC:=F52
  pJ:=W.mg_of X G a53
  rB:=F53.binds (ps:=["system","steps"]) fun _ _ _ _ _ _=>by refine ln2 ?_;intros;rfl
  m5:=F53
  Bc:=W.mg_of X G a54
  CQ:=F54.binds (ps:=["system","start","goal","steps"]) fun _ _ _ _ _ _=>by refine PV ?_;intros;rfl
  zd:=F54
  KP:=W.mg_of X G a55
  N3:=F55.binds (ps:=["row","many","wide"]) fun _ _ _ _ _ _=>by refine Gj ?_;intros;rfl
  LK:=F55
  HJ:=W.mg_of X G a56
  LD:=F56.binds (ps:=["system","start","goal","steps"]) fun _ _ _ _ _ _=>by refine PV ?_;intros;rfl
  GP:=F56
  rS:=⟨a57,i57,k57⟩
  uh:=F57.binds (ps:=["self"]) fun _ _ _ _ _ _=>by refine Gk ?_;intros;rfl
  uj:=F57
  A7:=W.mg_of X G a58
  CN:=F58.binds (ps:=["system","asked","steps"]) fun _ _ _ _ _ _=>by refine Gj ?_;intros;rfl
  za:=F58
  p7:=W.mg_of X G a59
  so:=F59.binds (ps:=["_law_thing"]) fun _ _ _ _ _ _=>by refine Gk ?_;intros;rfl
  mj:=F59
  pM:=W.mg_of X G a60
  rD:=F60.binds (ps:=["_law_thing","_law_many"]) fun _ _ _ _ _ _=>by refine ln2 ?_;intros;rfl
  m7:=F60
  uf:=W.mg_of X G a61
  ve:=F61.binds (ps:=["_law_thing","_law_many","_law_wide"]) fun _ _ _ _ _ _=>by refine Gj ?_;intros;rfl
  pR:=F61
  xl:=W.mg_of X G a62
  yZ:=F62.binds (ps:=["_law_grid","_law_row_here"]) fun _ _ _ _ _ _=>by refine ln2 ?_;intros;rfl
  v7:=F62
  xP:=W.mg_of X G a63
  zA:=F63.binds (ps:=["_law_parts_here","_law_state","_law_puts"]) fun _ _ _ _ _ _=>by refine Gj ?_;intros;rfl
  vp:=F63
  jz:=W.mg_of X G a64
  lB:=F64.binds (ps:=["_law_parts_here","_law_start","_law_puts"]) fun _ _ _ _ _ _=>by refine Gj ?_;intros;rfl
  jh:=F64
  sP:=W.mg_of X G a65
  vd:=F65.binds (ps:=["_law_one","_law_other"]) fun _ _ _ _ _ _=>by refine ln2 ?_;intros;rfl
  qX:=F65
  wN:=W.mg_of X G a66
  yi:=F66.binds (ps:=["_law_one","_law_other"]) fun _ _ _ _ _ _=>by refine ln2 ?_;intros;rfl
  tY:=F66
  pN:=W.mg_of X G a67
  qK:=F67.binds (ps:=["_law_parts_here","_law_weights","_law_asked","_law_start","_law_puts"]) fun _ _ _ _ _ _=>by refine RC ?_;intros;rfl
  lM:=F67
  nW:=W.mg_of X G a68
  pP:=F68.binds (ps:=["_law_parts_here","_law_state","_law_asked","_law_start","_law_puts"]) fun _ _ _ _ _ _=>by refine RC ?_;intros;rfl
  jT:=F68
  Oc:=F69
  abs:=W.mg_none_of X G z_abs
  len:=W.mg_none_of X G z_len
  range:=W.mg_none_of X G z_range
  int:=W.mg_none_of X G z_int
  min:=W.mg_none_of X G z_min
  isinstance:=W.mg_none_of X G z_isinstance
  list:=W.mg_none_of X G z_list
  bool:=W.mg_none_of X G z_bool
  tuple:=W.mg_none_of X G z_tuple
  all:=W.mg_none_of X G z_all
  enumerate:=W.mg_none_of X G z_enumerate
  zip:=W.mg_none_of X G z_zip
  sum:=W.mg_none_of X G z_sum
  reversed:=W.mg_none_of X G z_reversed
  mg_NOUGHT:=W.mg_of X G ca0
  sq_NOUGHT:=fun H=>.inr ⟨_,_,_,cl0,rfl,rfl,kC rfl,.cons ⟨_,rfl⟩ (.cons ⟨_,rfl⟩ (.nil))⟩
  mg_ONE:=W.mg_of X G ca1
  sq_ONE:=fun H=>.inr ⟨_,_,_,cl1,rfl,rfl,kC rfl,.cons ⟨_,rfl⟩ (.cons ⟨_,rfl⟩ (.nil))⟩
  mg_MOST_STATES:=W.mg_of X G ci0
  mg_MOST_PUTS:=W.mg_of X G ci1
  mg_MOST_LOOKS:=W.mg_of X G ci2
  mg_System:=W.mg_of X G aC
  cl_System:=⟨pg,hd,po,sa⟩
  na_move:=n_move
  na_states:=n_states
  na_put:=n_put
  na_ins:=n_ins
  na_look:=n_look
  na_outs:=n_outs
  mk_System:=⟨mk,a21,i21,kc⟩ }
 exact ⟨_,fun s v=>.of_eq rfl,fun base _ _=>O8 T⟩
theorem walk {l:W.OpenLaw} {q:Program} {loose:List Str} {XP:(Str->Option Value)->Heap->Prop} {YP:World->Heap->Prop} {d:DefRec} {K:Params->W.Frag} (hn:l.most=some 63) (hdf:d.params.defaults=[])
  (hY:∀(w:World) (h:Heap),YP w h->(K w.params).In h)
  (F:∀(w:World) (mg:Str->Option Value) (fa:Addr) (h:Heap),(K w.params).In h->h.Ns mainGlobals mg->mg d.name=some (.ref fa) →
   ∃fd:FuncData,(∀(s:Shared) (u:Value),BindsTo s fd ⟨[u],[]⟩ [("_law_script",u)])/\∀base:Heap,(K w.params).In base->base.Ns mainGlobals mg->cN l.prog w (K w.params) mg base gJ 10 fa fd ["_law_script"] (C9 (K w.params))) :
  W.WalkO q loose XP YP l.row.toRowW d [] (fun f vs=>PySem.call f vs) :=
 L2.LY (n:=63) (k:=10) (x:="_law_script") (CX:=fun _=>gJ) (sp:=fun w=>C9 (K w.params)) hn (by decide) hdf ⟨rfl,by decide,by decide⟩ hY F (fun _ _ a ns hl _ hS=>⟨a,ns,rfl,hS,hl,fun _=>rfl⟩) fun _ _ _ _ _ z=>z
end Lw
namespace PySem.W.Fast
def tw14498049635817439542:=()
def tw12049722686619905991:=()
def tw5708286000729012909:=()
def tw18069620855354823947:=()
def tw18090801729900929819:=()
def tw224484745338346954:=()
def tw17164323415548103479:=()
def tw8024755215085346775:=()
def tw17257731544578112846:=()
def tw3344814402526298612:=()
def tw1331833072594591185:=()
def tw15433591925988796456:=()
def tw2444311253291516551:=()
def tw17101529766803424891:=()
def tw12335791356835586886:=()
def tw2287243932106698640:=()
def tw16233610062402420245:=()
def tw2376567537262175150:=()
def tw13353781442688659240:=()
def tw4194943028714726263:=()
def tw4368251962544950967:=()
def tw10063086751683957188:=()
def tw15427030552160529215:=()
def tw3269637709677702954:=()
def tw2670579530252614925:=()
def tw16078284374015523727:=()
def tw17723220938354861781:=()
def tw1106049480209773117:=()
def tw13911163008930142642:=()
def tw9033703232310830569:=()
def tw13349188976522730280:=()
def tw951080730582284988:=()
def tw15397549679869999211:=()
def tw6022689803446648239:=()
def tw15951931635915021962:=()
def tw10792035735612217758:=()
def tw13860064593110966582:=()
def tw11178121127699131959:=()
def tw5146243318095194725:=()
def tw8223697326709433408:=()
def tw11209676775688268526:=()
def tw15480648490111622921:=()
def tw17748631781935838766:=()
def tw1981546214731032651:=()
def tw15760945218211686995:=()
def tw16575106756975543745:=()
def tw15200526509959997172:=()
def tw16831479907844055940:=()
def tw1389139396019769092:=()
def tw792470033434957133:=()
def tw15903917591202269334:=()
def tw14940901302840107115:=()
def tw12466747490094176780:=()
def tw14127254161954579566:=()
def tw17183047885468352346:=()
def tw7291149056759694552:=()
def tw9132269032397209766:=()
def tw15025822317158571702:=()
def tw1341681871848855072:=()
def tw16173953089175267557:=()
def tw2700942083699999768:=()
def tw2597393688655548758:=()
def tw16034105217635805304:=()
def tw11784229863531145930:=()
def tw9460852970439030312:=()
def tw3348191309713835014:=()
def tw13384757917065164611:=()
def tw12698999172307714889:=()
def tw3651117020032658770:=()
def tw1009782042221174518:=()
def tw10978455413674382689:=()
def tw1201403247210380360:=()
def tw4955282256819107789:=()
def tw1463814594197167971:=()
def tw9257552656464064179:=()
def tw465976415873928395:=()
def tw13824395870439844791:=()
def tw2632054870585207769:=()
def tw14754731672101203772:=()
def tw9989127854378096423:=()
def tw105254119704471627:=()
def tw7444415027920284643:=()
def tw6263396257235497426:=()
def tw12045463447462489989:=()
def tw5339761267687615013:=()
def tw5198604713279792588:=()
def tw15726792301948440850:=()
def tw8781570211845456019:=()
def tw7319680641533639388:=()
def tw5405915213487971419:=()
def tw5363995105655492866:=()
def tw4437919242062205631:=()
def tw8759819522741262953:=()
def tw8380787912702370359:=()
def tw12513434066042816500:=()
def tw9756415356969898855:=()
def tw4290157312612493839:=()
def tw13294204019191742263:=()
def tw9142351372967900603:=()
def tw1900214284140695227:=()
def tw3952812147456129650:=()
def tw6168050666264716265:=()
def tw16594864583933987012:=()
def tw14982036373401089418:=()
def tw17636316118559801366:=()
def tw7061805140589570756:=()
def tw866992305671133498:=()
def tw10152005768963577098:=()
def tw4763195144402032194:=()
def tw13625857393164310449:=()
def tw3281831444902645949:=()
def tw14378628924242318283:=()
def tw3352041498058043029:=()
def tw3073358720033729016:=()
def tw10064192613073879510:=()
def tw17611113022343524370:=()
def tw12696948439308156971:=()
def tw2900634419544466144:=()
def tw5660199264694897704:=()
def tw4902516570488564351:=()
def tw7461352786763671408:=()
def tw3928713325765215713:=()
def tw10520592483358504475:=()
def tw10120201352938131254:=()
def tw6069457194262749536:=()
def tw13083192802428505091:=()
def tw4725214382215909879:=()
def tw5891777801700589579:=()
def tw15957537505911225038:=()
def tw5885044252153127426:=()
def tw9430406214490163512:=()
def tw12242036587656329469:=()
def tw18175395448150369603:=()
def tw4261391639776436639:=()
def tw5785588503072669149:=()
def tw13811943589899883031:=()
def tw2785059849387827105:=()
def tw10986959855174625397:=()
def tw2151279401959739093:=()
def tw4320396217631799475:=()
def tw6080049125782313490:=()
def tw2790945727023672099:=()
def tw6505707963548880334:=()
def tw5984425977208631844:=()
def tw11338399098999240041:=()
def tw10022005012329733067:=()
def tw15203391265733244518:=()
def tw2804189700614367870:=()
def tw6383011378749555365:=()
def tw3970292245769052503:=()
def tw4772088997975119024:=()
def tw7420903012137928589:=()
def tw16787160111415069908:=()
def tw15938240316261693269:=()
def tw5738081328186054078:=()
def tw8870618504468730731:=()
def tw14858539609253100075:=()
def tw7922729215949491592:=()
def tw1442458666482008063:=()
def tw6753816107840041268:=()
def tw12718918651190765206:=()
def tw8745807484341236943:=()
def tw8448709986310249734:=()
def tw17726152176169353143:=()
def tw9292667922666312710:=()
def tw8211072134557192747:=()
def tw3003381208492586818:=()
def tw4278344396967978071:=()
def tw15113302843727963302:=()
def tw3353946820320198082:=()
def tw15266676581158273172:=()
def tw15062636887530740980:=()
def tw14410054904414739313:=()
def tw14377204078812821379:=()
def tw7378910465426114884:=()
def tw9720004624570813554:=()
def tw16561679201021682043:=()
def tw5975436331151880573:=()
def tw2804099253238604304:=()
def tw9253608476765082234:=()
def tw14387887587395492391:=()
def tw12849905192798421494:=()
def tw941054551434914780:=()
def tw8697416968501131569:=()
def tw9636201782171683673:=()
def tw2949888376574132625:=()
def tw129960308466216019:=()
def tw4176834661285389988:=()
def tw18368897345276547059:=()
def tw14579999027666423256:=()
def tw4106148734640818957:=()
def tw3445794056712198523:=()
def tw9660177511417958569:=()
def tw4065346260724879716:=()
def tw3465919896806133172:=()
def tw5506900215084883479:=()
def tw1895607484169715704:=()
def tw5320637901507953418:=()
def tw13452113797302313596:=()
def tw9001783711948091642:=()
def tw1658277616149359911:=()
def tw16643539104321663107:=()
def tw14138909572922542315:=()
def tw17992543687549133728:=()
def tw16490668492435782059:=()
def tw10914594722158619938:=()
def tw16863789826528990219:=()
def tw15360087908216066567:=()
def tw8225823936251638153:=()
def tw7910951530489119902:=()
def tw1862756600675758989:=()
def tw524847296249566703:=()
def tw10392511720387979438:=()
def tw784773607405127541:=()
def tw11482493122613643308:=()
def tw14445911754555756264:=()
def tw8986023726334352449:=()
def tw18370814967425370926:=()
def tw16037899796340498203:=()
def tw17103278980220706738:=()
def tw11572474847673041594:=()
def tw12997015767357539623:=()
def tw6306211319426528704:=()
def tw2978581623364507117:=()
def tw3435666404473442625:=()
def tw1495250562316831668:=()
def tw1114407571066282163:=()
def tw465182785977283631:=()
def tw3192229820405066187:=()
def tw15171890753335512456:=()
def tw2232672277564608565:=()
def tw691559912054798486:=()
def tw12017582317349951954:=()
def tw12552311726241949227:=()
def tw8365177816060263388:=()
def tw2540329045900237824:=()
def tw11584584357475297170:=()
def tw2983908239960124035:=()
def tw9547453262972900611:=()
def tw15505940926020555205:=()
def tw7354911224378137821:=()
def tw8892054662846146460:=()
def tw11354638442852133616:=()
def tw10629567437060006277:=()
def tw1686305951570913982:=()
def tw4724087056934791713:=()
def tw550458986015348694:=()
def tw8758866699845001215:=()
def tw6768030443770398235:=()
def tw7731836132122015012:=()
def tw13968966992718385824:=()
def tw10935472042072703049:=()
def tw11599226751177409789:=()
def tw10172676110569481158:=()
def tw3521281831145281884:=()
def tw587126425411332093:=()
def tw545141624105336083:=()
def tw9480004504216520996:=()
def tw15578412880119059149:=()
def tw872392904176834372:=()
def tw7815334165905488679:=()
def tw15423682768506241235:=()
def tw3841630271006675832:=()
def tw6511147197717334088:=()
def tw15141036432135113050:=()
def tw8601818800957738737:=()
def tw11078960325126569225:=()
def tw7987044635463164610:=()
def tw14990491053244233891:=()
def tw18393739969532909541:=()
def tw17124441896095569876:=()
def tw2394465441874405317:=()
def tw13183566926085109279:=()
def tw12452422472224520290:=()
def tw11997336803729235708:=()
def tw4108690609127456051:=()
def tw3217166229045174043:=()
def tw9046837646494964421:=()
def tw8527716462979735894:=()
def tw17496091776744262379:=()
def tw16870182976468385868:=()
def tw4743760435761015376:=()
def tw14645112888188532660:=()
def tw7500371844535046033:=()
def tw2246536938746930605:=()
def tw10039779773287857104:=()
def tw11952302291595496890:=()
def tw7126747208543427512:=()
def tw4358006918895862105:=()
def tw10928395186789888844:=()
def tw11593587386024434121:=()
def tw14795383608739066621:=()
def tw13131028479735091920:=()
def tw16976829554555643115:=()
def tw15537284027702346448:=()
def tw5246161199799957414:=()
def tw9933537186332976489:=()
def tw12567119722013728957:=()
def tw8009332595833935192:=()
def tw17899350879847874750:=()
def tw10951558088722237127:=()
def tw17044924590951980945:=()
def tw17216426652587560311:=()
def tw14396598888778654234:=()
def tw10381895010564583928:=()
def tw7337530126311474633:=()
def tw8800124814985408021:=()
def tw5722003483847924280:=()
def tw8788572583259230925:=()
def tw14708444770686566956:=()
def tw6669213147304652237:=()
def tw6370370034320792654:=()
def tw1452994852343779766:=()
def tw15123308726297431235:=()
def tw15905849219302383627:=()
def tw15926577180260838122:=()
def tw18112253037829451341:=()
def tw8338949436762056330:=()
def tw7738686993002297216:=()
def tw16333724535486473533:=()
def tw5026596741742053754:=()
def tw12039063678761989722:=()
def tw1393035028436259938:=()
def tw12211967262905226613:=()
def tw9814392147143813603:=()
def tw1321890647916456915:=()
def tw851011174337568312:=()
def tw8282603997014404168:=()
def tw15105147392424586384:=()
def tw8286041362129804349:=()
def tw13347729049252983933:=()
def tw4993457657270538728:=()
def tw17866760611641074486:=()
def tw10733528106440030957:=()
def tw13155329645712313681:=()
def tw8954331437565042273:=()
def tw10128688358961036006:=()
def tw355606645342224523:=()
def tw12057928808447180458:=()
def tw15667794291930290018:=()
def tw11656245777564312979:=()
def tw6476769667535596477:=()
def tw17075710720928720227:=()
def tw14686213363770846201:=()
def tw4651190678117200323:=()
def tw6584519315153507736:=()
def tw11357623685431271274:=()
def tw5121145987609854447:=()
def tw15450388068151462699:=()
def tw9021814371209823794:=()
def tw4518032761384292278:=()
def tw5990130972604687156:=()
def tw15285503650983181944:=()
def tw15606334262098840698:=()
def tw17081614676599641472:=()
def tw7683076536510877790:=()
def tw4146225471704211334:=()
def tw9842925361261780194:=()
def tw16192930471212300623:=()
def tw13591200970294353715:=()
def tw11487835709466782286:=()
def tw1962978738869699142:=()
def tw10972570696379683278:=()
def tw12182849773070509119:=()
def tw10349841838937626440:=()
def tw8757329850075966143:=()
def tw356069939942296182:=()
def tw420459792332281013:=()
def tw18272975883727865068:=()
def tw4550086138873278626:=()
def tw6190029942077931945:=()
def tw3403736983264003183:=()
def tw623683481181013776:=()
def tw8481392805134452934:=()
def tw673407462763453943:=()
def tw2404076814305877422:=()
def tw9465533093635812618:=()
def tw12858470102092596361:=()
def tw17061807320249683818:=()
def tw4269293692981663296:=()
def tw1075890674912574024:=()
def tw6284445175146837193:=()
def tw17567523973716747895:=()
def tw6987638289735362365:=()
def tw6997638633592404322:=()
def tw9577301139293060830:=()
def tw13115715603869291983:=()
def tw14884727051794054524:=()
def tw16248489185718901800:=()
def tw8773597780674862039:=()
def tw17015080556538737602:=()
def tw14820324429067713920:=()
def tw5630197111194864942:=()
def tw7722959583233763923:=()
def tw48986059308215450:=()
def tw2351085148475509940:=()
def tw17567411031605702708:=()
def tw6605840541868316793:=()
def tw13782359012820015238:=()
def tw14121400553263230856:=()
def tw11098034798614288545:=()
def tw8157468706219350398:=()
def tw12438646917635687014:=()
def tw17142518205685716632:=()
def tw15843061397153396698:=()
def tw14398713666286214808:=()
def tw1993847337583914171:=()
def tw5263229082245607314:=()
def tw12718767535297602326:=()
def tw13140794511430106511:=()
def tw14872768351289887741:=()
def tw15632081821686710142:=()
def tw15676234113026921205:=()
def tw5191132719848035246:=()
def tw11506577283238487483:=()
def tw13408232489070943819:=()
def tw15471261035708583251:=()
def tw12243672248984941523:=()
def tw12158281812638284604:=()
def tw9127147839603569302:=()
def tw3519844109183716692:=()
def tw7232513371444947663:=()
def tw902346075399143324:=()
def tw15315480355610343957:=()
def tw4142765196556293226:=()
def tw6907327031496102076:=()
def tw18330583358324786186:=()
def tw16425694110772529083:=()
def tw4199829089048539842:=()
def tw15106780274206953618:=()
def tw6567668008301892891:=()
def tw3603019070850014833:=()
def tw16166136733820479570:=()
def tw10940236313357032841:=()
def tw4990800022644263606:=()
def tw9110308713397527607:=()
def tw8395334912689780729:=()
def tw17330659544605798771:=()
def tw10137219239830468289:=()
def tw13105930125421885578:=()
def tw6609345956813787909:=()
def tw12878578539149836305:=()
def tw12001080578058156810:=()
def tw239228992679489328:=()
def tw12843745533123608732:=()
def tw3371939325396900084:=()
def tw9568530350490235093:=()
def tw17275476936623849186:=()
def tw5591342354728192861:=()
def tw485643837116322150:=()
def tw4713665417465240065:=()
def tw6731646617842970906:=()
def tw7583284359496654908:=()
def tw1914829933346145068:=()
def tw9085920086379436235:=()
def tw4293738724518751534:=()
def tw1864980193613748490:=()
def tw15378935759040492276:=()
def tw2465471144287451906:=()
def tw6003050767878110283:=()
theorem te14498049635817439542:True:=trivial
end PySem.W.Fast
open PySem PySem.W PyProof.Rows
set_option maxRecDepth 100000 in
set_option maxHeartbeats 0 in
theorem PySem.Challenge.cw_helmsum_k54_whole_looks_tell_holds : PySem.Challenge.rw_helmsum_k54_whole_looks_tell.Holds := by
 w_on;o_law;k_head;(case hw=>w_witness2)
 k_fill
 refine Lw.walk (l:=PySem.Challenge.rw_helmsum_k54_whole_looks_tell) rfl rfl (fun w h Y=>PySem.W.kIn_of Y) ?F
 case F =>
  intro w mg fa h KX G hmg;refine' Lw.all_mk KX G hmg ?aC ?a0 ?l0 ?c0 ?k0 ?a1 ?l1 ?c1 ?k1 ?a2 ?l2 ?c2 ?k2 ?a3 ?l3 ?c3 ?k3 ?a4 ?l4 ?c4 ?k4 ?a5 ?l5 ?c5 ?k5 ?a6 ?l6 ?c6 ?k6 ?a7 ?l7 ?c7 ?k7 ?a8 ?l8 ?c8 ?k8 ?a9 ?l9 ?c9 ?k9 ?a10 ?l10 ?c10 ?k10 ?a11 ?l11 ?c11 ?k11 ?a12 ?l12 ?c12 ?k12 ?a13 ?l13 ?c13 ?k13 ?a14 ?l14 ?c14 ?k14 ?a15 ?l15 ?c15 ?k15 ?a16 ?l16 ?c16 ?k16 ?a17 ?l17 ?c17 ?k17 ?a18 ?l18 ?c18 ?k18 ?a19 ?l19 ?c19 ?k19 ?a20 ?l20 ?c20 ?k20 ?a21 ?i21 ?l21 ?c21 ?k21 ?a22 ?l22 ?c22 ?k22 ?a23 ?l23 ?c23 ?k23 ?a24 ?l24 ?c24 ?k24 ?a25 ?l25 ?c25 ?k25 ?a26 ?l26 ?c26 ?k26 ?a27 ?l27 ?c27 ?k27 ?a28 ?l28 ?c28 ?k28 ?a29 ?l29 ?c29 ?k29 ?a30 ?l30 ?c30 ?k30 ?a31 ?l31 ?c31 ?k31 ?a32 ?l32 ?c32 ?k32 ?a33 ?l33 ?c33 ?k33 ?a34 ?l34 ?c34 ?k34 ?a35 ?l35 ?c35 ?k35 ?a36 ?l36 ?c36 ?k36 ?a37 ?l37 ?c37 ?k37 ?a38 ?l38 ?c38 ?k38 ?a39 ?l39 ?c39 ?k39 ?a40 ?l40 ?c40 ?k40 ?a41 ?l41 ?c41 ?k41 ?a42 ?l42 ?c42 ?k42 ?a43 ?l43 ?c43 ?k43 ?a44 ?l44 ?c44 ?k44 ?a45 ?l45 ?c45 ?k45 ?a46 ?l46 ?c46 ?k46 ?a47 ?l47 ?c47 ?k47 ?a48 ?l48 ?c48 ?k48 ?a49 ?l49 ?c49 ?k49 ?a50 ?l50 ?c50 ?k50 ?a51 ?i51 ?l51 ?c51 ?k51 ?a52 ?l52 ?c52 ?k52 ?a53 ?l53 ?c53 ?k53 ?a54 ?l54 ?c54 ?k54 ?a55 ?l55 ?c55 ?k55 ?a56 ?l56 ?c56 ?k56 ?a57 ?i57 ?l57 ?c57 ?k57 ?a58 ?l58 ?c58 ?k58 ?a59 ?l59 ?c59 ?k59 ?a60 ?l60 ?c60 ?k60 ?a61 ?l61 ?c61 ?k61 ?a62 ?l62 ?c62 ?k62 ?a63 ?l63 ?c63 ?k63 ?a64 ?l64 ?c64 ?k64 ?a65 ?l65 ?c65 ?k65 ?a66 ?l66 ?c66 ?k66 ?a67 ?l67 ?c67 ?k67 ?a68 ?l68 ?c68 ?k68 ?a69 ?l69 ?c69 ?k69 ?ca0 ?cl0 ?ca1 ?cl1 ?ci0 ?ci1 ?ci2 ?pg ?hd ?po ?sa ?mk ?kc ?n_move ?n_states ?n_put ?n_ins ?n_look ?n_outs ?z_abs ?z_len ?z_range ?z_int ?z_min ?z_isinstance ?z_list ?z_bool ?z_tuple ?z_all ?z_enumerate ?z_zip ?z_sum ?z_reversed
  all_goals try k_is