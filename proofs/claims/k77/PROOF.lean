import PyProof.Rows.All
import Wide.All
import OpenK.AllK
import Wide.FinOn
import Lean
import PyProof.EqAt
import PyProof.EqKinds
import PyProof.TupleCall
import PyProof.NeKinds
import PySem.Challenge.RW_helmsum_k77_apart
set_option Elab.async false
set_option linter.all false
set_option maxRecDepth 100000
abbrev ND9:=@List.Nodup PySem.Str
abbrev aj:=@List.mem_of_getElem?
abbrev ak:=@Nat.le_trans
abbrev ao:=@List.getElem?_eq_getElem
abbrev ar:=@List.mem_append
abbrev av:=@List.length_map
abbrev aw:=@List.take_of_length_le
abbrev ay:=@Nat.le_refl
abbrev az:=@List.mem_cons
abbrev aA:=@List.getD_eq_getElem?_getD
abbrev aB:=@List.not_mem_nil
abbrev aD:=@Nat.pow_le_pow_right
abbrev aE:=@List.size_toArray
abbrev aF:=@List.getElem?_eq_some_iff
abbrev aG:=@List.length_append
abbrev aM:=@Bool.false_ne_true
abbrev aP:=@Nat.mul_le_mul_right
abbrev aQ:=@List.mem_singleton
abbrev aR:=@Nat.mul_le_mul
abbrev aT:=@List.length_replicate
abbrev aU:=@Nat.le_of_lt
abbrev aW:=@Nat.lt_of_lt_of_le
abbrev aY:=@List.getElem?_map
abbrev a8:=@List.getElem_mem
abbrev ba:=@List.mem_map
abbrev bc:=@PySem.boot_len
abbrev bo:=@List.nodup_append
abbrev bu:=@Nat.lt_of_le_of_lt
abbrev bw:=@Nat.ne_of_lt
abbrev bA:=@Rat.intCast_mul
abbrev bD:=@List.mem_cons_of_mem
abbrev bG:=@List.mem_append_right
abbrev bJ:=@Nat.zero_le
abbrev bK:=@Nat.pow_add
abbrev bM:=@Int.eq_ofNat_of_zero_le
abbrev bN:=@List.zipWith_cons_cons
abbrev bR:=@Option.some.inj
abbrev bS:=@Int.fdiv_eq_ediv_of_nonneg
abbrev bY:=@PySem.F.type_list_append
abbrev bZ:=@PySem.F.slot_list_append
abbrev b7:=@List.getElem?_eq_none
abbrev b8:=@PySem.F.plainAttrs_list
abbrev cm:=@PySem.W.kia_one
abbrev cp:=@List.length_singleton
abbrev cw:=@List.length_range
abbrev cx:=@List.append_assoc
abbrev cD:=@List.mem_cons_self
abbrev cE:=@Bool.false_eq_true
abbrev cF:=@List.map_append
abbrev cH:=@Bool.and_eq_true
abbrev cI:=@List.drop_eq_getElem_cons
abbrev cK:=@Rat.intCast_natCast
abbrev cP:=@Nat.mul_assoc
abbrev cQ:=@List.map_cons
abbrev cT:=@List.nodup_cons
abbrev cU:=@Nat.succ_le_succ
abbrev cV:=@Nat.dvd_mul_left
abbrev c7:=@Nat.mul_comm
abbrev df:=@List.mem_or_eq_of_mem_set
abbrev di:=@List.getElem?_zipWith
abbrev dm:=@Nat.lt_succ_self
abbrev dq:=@List.length_take
abbrev du:=@List.length_cons
abbrev dw:=@Int.gcd_dvd_left
abbrev dF:=@Nat.lt_irrefl
abbrev dH:=@Nat.mul_pos
abbrev dI:=@List.mem_of_mem_take
abbrev dS:=@Int.gcd_dvd_right
abbrev dU:=@List.append_nil
abbrev d4:=@Nat.mul_le_mul_left
abbrev d5:=@List.map_congr_left
abbrev d6:=@List.length_zipWith
abbrev eF:=@Int.natAbs_dvd_natAbs
abbrev eG:=@Bool.beq_eq_decide_eq
abbrev fF:=@List.take_succ_cons
abbrev fG:=@List.getElem?_range
abbrev fJ:=@Nat.le_add_right
abbrev fK:=@List.forIn_nil
abbrev fV:=@Nat.ne_of_gt
abbrev fW:=@Nat.le_mul_of_pos_left
abbrev fX:=@Int.emod_lt_of_pos
abbrev gF:=@List.forIn_cons
abbrev gU:=@List.ext_getElem?
abbrev gX:=@List.nodup_nil
abbrev gY:=@List.getElem?_append_right
abbrev gZ:=@Int.natAbs_mul
abbrev iw:=@PySem.IsL.update
abbrev iB:=@List.lookup_cons
abbrev iC:=@List.getElem_map
abbrev iD:=@Int.mul_comm
abbrev iE:=@Int.gcd_comm
abbrev iJ:=@PySem.F.plain_extend_loop
abbrev iK:=@PySem.mem_of_lookup
abbrev iL:=@List.replicate_succ
abbrev iQ:=@Nat.le_of_dvd
abbrev iR:=@List.eq_of_mem_replicate
abbrev iS:=@Int.mul_assoc
abbrev i8:=@Rat.intCast_inj
abbrev ja:=@Int.emod_nonneg
abbrev jd:=@Int.natAbs_natCast
abbrev ju:=@Nat.le_mul_of_pos_right
abbrev jv:=@List.getElem?_replicate
abbrev jw:=@Int.dvd_mul_of_dvd_left
abbrev jL:=@Rat.add_zero
abbrev jM:=@Nat.min_self
abbrev jN:=@List.flatten_cons
abbrev ko:=@PySem.F.slot_zip_next
abbrev lJ:=@List.mem_append_left
abbrev lK:=@List.length_set
abbrev lM:=@Bool.eq_iff_iff
abbrev mH:=@List.getElem_of_mem
abbrev mI:=@List.filterMap_cons
abbrev mS:=@Nat.pow_succ
abbrev mT:=@List.map_map
abbrev nK:=@PySem.W.callWith_K
abbrev nM:=@Nat.one_le_two_pow
abbrev nN:=@List.take_zero
abbrev nO:=@List.mem_range
abbrev oy:=@List.getElem?_append_left
abbrev pI:=@Nat.mul_add
abbrev pJ:=@Nat.lt_succ_of_lt
abbrev pK:=@Nat.le_succ
abbrev pL:=@Nat.add_mul
abbrev pM:=@Int.mul_pos
abbrev pN:=@Option.isSome_iff_exists
abbrev rF:=@Rat.intCast_eq_zero_iff
abbrev rG:=@PySem.W.Looks.at
abbrev rH:=@List.all_eq_true
abbrev rJ:=@Int.natCast_dvd_natCast
abbrev sv:=@Rat.zero_mul
abbrev sC:=@Rat.mul_zero
abbrev sF:=@PySem.W.cellsFrom_some
abbrev sG:=@Nat.lt_or_ge
abbrev sI:=@Nat.add_comm
abbrev sJ:=@Int.zero_add
abbrev uM:=@List.range_succ
abbrev uN:=@List.length_zip
abbrev vZ:=@Nat.pow_lt_pow_right
abbrev v7:=@Nat.one_mul
abbrev v8:=@List.getElem_zipWith
abbrev xx:=@PySem.W.plainGet_of
abbrev xy:=@PySem.W.hideAll_get
abbrev xA:=@List.zipWith_append
abbrev yK:=@Nat.dvd_trans
abbrev yL:=@List.all_cons
abbrev yM:=@Rat.div_mul_cancel
abbrev yN:=@PySem.W.of_hideAll
abbrev yO:=@List.mem_filterMap
abbrev AF:=@Nat.mul_zero
abbrev AG:=@Nat.dvd_mul_right
abbrev BD:=@List.ext_getElem
abbrev DL:=@List.map_id
abbrev DM:=@Int.dvd_gcd
abbrev DR:=@Rat.natCast_mul
abbrev DS:=@Rat.intCast_add
abbrev DT:=@List.of_mem_zip
abbrev DV:=@List.map_const'
abbrev DW:=@Int.gcd_pos_of_ne_zero_right
abbrev DX:=@Bool.decide_and
abbrev FT:=@PySem.F.excBase_ValueError
abbrev FU:=@Int.eq_of_mul_eq_mul_right
abbrev HU:=@PySem.F.entry_extend_loop
abbrev HV:=@List.getElem?_zip_eq_some
abbrev HW:=@Int.natAbs_ediv_of_nonneg
abbrev Ih:=@List.getElem?_take_of_lt
abbrev Ii:=@Bool.eq_false_or_eq_true
abbrev JB:=@PySem.F.args_zip_next_1
abbrev JC:=@Nat.add_sub_cancel_left
abbrev LR9:=List (List Rat)
abbrev FG9:=PySem.W.Frag
namespace L2
open PySem PySem.Spec PyProof.Rows
abbrev Key:=Sum Int Str
def Fz:Key->Value->Bool
 | .inl k,v=>Value.isInt k v
 | .inr x,v=>Value.isStrOf x v
def JX (w:World):Key->Int
 | .inl k=>hashInt k
 | .inr x=>hashStr w x
theorem dP:∀{k:Key} {v:Value},Fz k v=true->(∃i t,k=Sum.inl i/\v=Value.int i t)\/(∃x t,k=Sum.inr x/\v=Value.str x t)
 | .inl i,v,h=>by
  obtain ⟨t,e⟩:=Value.isInt_shape (k:=i) (v:=v) h;exact .inl ⟨i,t,rfl,e⟩
 | .inr x,v,h=>by
  obtain ⟨t,e⟩:=Value.isStrOf_shape (x:=x) (v:=v) h;exact .inr ⟨x,t,rfl,e⟩
theorem G4 (a b:Int):decide ((Sum.inl a:Key)=Sum.inl b)=(a == b):=by
 by_cases e:a=b
 ·subst e;simp
 ·have h:¬(Sum.inl a:Key)=Sum.inl b:=λq=>e (Sum.inl.inj q)
  rw[decide_eq_false h];exact (beq_eq_false_iff_ne.mpr e).symm
theorem GY (a b:Str):decide ((Sum.inr a:Key)=Sum.inr b)=decide (a=b):=by
 by_cases e:a=b
 ·subst e;simp
 ·have h:¬(Sum.inr a:Key)=Sum.inr b:=λq=>e (Sum.inr.inj q)
  rw[decide_eq_false h,decide_eq_false e]
theorem G0 (a:Int) (b:Str):decide ((Sum.inl a:Key)=Sum.inr b)=false:=decide_eq_false (λq=>nomatch q)
theorem GZ (a:Str) (b:Int):decide ((Sum.inr a:Key)=Sum.inl b)=false:=decide_eq_false (λq=>nomatch q)
def Ah (prog:Program) (w:World):PySem.KeyKind prog w Key where
 is:=Fz
 hash:=JX w
 inj:=λv a b ha hb=>by
  rcases dP ha with ⟨i,t,rfl,rfl⟩ | ⟨x,t,rfl,rfl⟩
  ·rcases dP hb with ⟨j,u,rfl,e⟩ | ⟨y,u,rfl,e⟩
   ·injection e with e1 _;rw[e1]
   ·exact nomatch e
  ·rcases dP hb with ⟨j,u,rfl,e⟩ | ⟨y,u,rfl,e⟩
   ·exact nomatch e
   ·injection e with e1 _;rw[e1]
 byValue:=λk v h=>by
  rcases dP h with ⟨i,t,rfl,rfl⟩ | ⟨x,t,rfl,rfl⟩ <;> rfl
 pyHash:=λhv h=>by
  rcases dP hv with ⟨i,t,rfl,rfl⟩ | ⟨x,t,rfl,rfl⟩
  ·exact wpAny_pyHash_int h
  ·exact wpAny_pyHash_str h
 eqBool:=λhu hv h=>by
  rcases dP hu with ⟨i,t,rfl,rfl⟩ | ⟨x,t,rfl,rfl⟩
  ·rcases dP hv with ⟨j,u,rfl,rfl⟩ | ⟨y,u,rfl,rfl⟩
   ·rw[G4] at h;exact wpAny_eqBool_int h
   ·rw[G0] at h;exact SeqAt.EqAt.int_str i t y u _ _ _ _ h
  ·rcases dP hv with ⟨j,u,rfl,rfl⟩ | ⟨y,u,rfl,rfl⟩
   ·rw[GZ] at h;exact SeqAt.EqAt.str_int x t j u _ _ _ _ h
   ·rw[GY] at h;exact wpAny_eqBool_str h
 «strs»:=λk x t v h=>by
  rcases dP h with ⟨i,u,rfl,e⟩ | ⟨y,u,rfl,e⟩
  ·exact nomatch e
  ·injection e with e1 _
   subst e1;cases v <;> rfl
inductive V where
  | non | bl (b : Bool) | int (i : Int) | str (x : Str) | byt (b : Array UInt8) | flt (b : UInt64) | ref (a : Addr) | ty (n : String)
  deriving DecidableEq

def RelV:V->Value->Prop
 | .non,u=>u=Value.none
 | .bl b,u=>u=Value.bool b
 | .int i,u=>∃t,u=Value.int i t
 | .str x,u=>∃t,u=Value.str x t
 | .byt b,u=>∃t,u=Value.bytes b t
 | .flt b,u=>∃t,u=Value.float b t
 | .ref a,u=>u=Value.ref a
 | .ty n,u=>u=Value.type n
abbrev bV:List V->List Value->Prop:=Paired RelV
theorem bV.length (r:bV xs us):xs.length=us.length:=Paired.length r
theorem bV.get:∀{xs:List V} {us:List Value} {i:Nat} {x:V},bV xs us->xs[i]?=some x->∃u,us[i]?=some u/\RelV x u
 | _,_,_,_,.nil,e=>by simp at e
 | _,_,0,_,.cons r _,e=>by simp at e;subst e;exact ⟨_,rfl,r⟩
 | _,_,i+1,x,.cons _ t,e=>by
  obtain ⟨u,h1,h2⟩:=bV.get (i:=i) (x:=x) t (by simpa using e);exact ⟨u,by simpa using h1,h2⟩
theorem bV.set {x:V} {u:Value} (r:RelV x u):∀{xs:List V} {us:List Value} (i:Nat),bV xs us->bV (xs.set i x) (us.set i u)
 | _,_,_,.nil=>.nil
 | _,_,0,.cons _ t=>.cons r t
 | _,_,i+1,.cons q t=>.cons q (bV.set r i t)
theorem bV.append:∀{xs ys:List V} {us ws:List Value},bV xs us->bV ys ws->bV (xs++ys) (us++ws)
 | _,_,_,_,.nil,s=>s
 | _,_,_,_,.cons r t,s=>.cons r (bV.append t s)
theorem bV.take:∀{xs:List V} {us:List Value} (n:Nat),bV xs us->bV (xs.take n) (us.take n)
 | _,_,0,_=>.nil
 | _,_,_+1,.nil=>.nil
 | _,_,n+1,.cons r t=>.cons r (bV.take n t)
theorem bV.drop:∀{xs:List V} {us:List Value} (n:Nat),bV xs us->bV (xs.drop n) (us.drop n)
 | _,_,0,r=>r
 | _,_,_+1,.nil=>.nil
 | _,_,n+1,.cons _ t=>bV.drop n t
def va:Option V->Option Value->Prop
 | some v,some u=>RelV v u
 | none,none=>True
 | _,_=>False
def KV {κ:Type}:List (κ×V)->List (κ×Value)->Prop:=Paired λ(p:κ×V) (q:κ×Value)=>p.1=q.1/\RelV p.2 q.2
def kV:Key->V
 | .inl i=>.int i
 | .inr x=>.str x
inductive HO where
 | lst (xs:List V)
 | tup (xs:List V)
 | dK (kvs:List (Key×V)) | dT (kvs:List (List Key×V))
 | set (S:Int->Bool) (n:Nat)
 | ins (C dx:Addr) (fs:List (Str×V))
 | own (x:Addr)
 | xd (fs:List (Str×V))
 | met (f x:Addr)
 | rng (lo hi:Int)
 | frz (o:Obj) (u:HO)
 | tbl (ps:Array Value)
 | ext (φ:Heap->Prop)
abbrev Hp:=Addr->Option HO
def upd (H:Hp) (a:Addr) (o:HO):Hp:=λb=>if b=a then some o else H b
theorem aJ:upd H a o a=some o:=by unfold upd;rw[if_pos rfl]
theorem aN (h:b≠a):upd H a o b=H b:=by unfold upd;rw[if_neg h]
theorem dA {H:Hp} (h:H a=some o) (h':H b=none):a≠b:=by
 intro e;subst e;rw[h] at h';cases h'
section
variable (P:Program) (w:World)
def eK (H:Hp) (h:Heap) (a:Addr):HO->Prop
 | .lst xs=>xs.length<=sizeLine/\∃(its:List Value) (n:Nat),bV xs its/\h.get? a=some { cls:=.type "list",data:=.seq its.toArray n }
 | .tup xs=>xs.length<=sizeLine/\∃its:List Value,bV xs its/\IsTup h a its.toArray
 | .dK kvs=>kvs.length<=sizeLine/\(a == sysModules)=false/\∃vs,KV kvs vs/\h.DictOf (Ah P w) a vs
 | .dT kvs=>kvs.length<=sizeLine/\(a == sysModules)=false/\∃xs:List (List Key×Addr×Value),
   Paired (λ(p:List Key×V) (q:List Key×Addr×Value)=>p.1=q.1/\H q.2.1=some (.tup (p.1.map kV))/\RelV p.2 q.2.2) kvs xs /\
   ∃o es ep,h.get? a=some o/\o.ExactDict/\o.data=.dict es ep/\es.toList=xs.map (entryOfKey (tupleKind (Ah P w)))/\(xs.map (·.1)).Nodup
 | .set S n=>h.SetOf (intKind P w) a S n
 | .ins C dx fs=>H dx=some (.own a)/\fs.length<=1000/\dx≠a/\h.get? a=some (PySem.W.instObj C dx) /\
   ∃mA,h.Ns1 dx mA/\(∀f,va (fs.lookup f) (mA f))/\PySem.Within mA (fs.map (·.1))
 | .own _=>∃o,h.get? a=some o
 | .xd fs=>∃mA,h.Ns1 a mA/\∀f,va (fs.lookup f) (mA f)
 | .rng lo hi=>∃t u v,h.get? a=some { cls:=.type "range",data:=.fields #[.int lo t,.int hi u,.int 1 v] }
 | .frz o u=>h.get? a=some o/\eK H h a u
 | .tbl ps=>h.get? a=some { cls:=.none,data:=.fields ps }
 | .met f x=>h.get? a=some (PySem.W.methodObj (.ref f) (.ref x))
 | .ext φ=>φ h/\(∃o,h.get? a=some o)/\∀h1 h2:Heap,φ h1->(∀o,h1.get? a=some o->h2.get? a=some o)->φ h2
def qv (H:Hp) (h:Heap):Prop:=∀a o,H a=some o->eK P w H h a o
end
section
variable {P:Program} {w:World} {H H':Hp} {h h':Heap} {a:Addr} {o:HO}
theorem eK.lt (x:eK P w H h a o):a < h.objs.size:=by
 cases o with
 | lst xs=>obtain ⟨_,_,_,_,e⟩:=x;exact Heap.lt_size e
 | tup xs=>obtain ⟨_,_,_,p⟩:=x;exact p.lt
 | dK kvs=>obtain ⟨_,_,_,_,o,_,_,e,_⟩:=x;exact Heap.lt_size e
 | dT kvs=>obtain ⟨_,_,_,_,o,_,_,e,_⟩:=x;exact Heap.lt_size e
 | set S n=>obtain ⟨o,_,_,_,e,_⟩:=x;exact Heap.lt_size e
 | ins C dx fs=>obtain ⟨_,_,_,e,_⟩:=x;exact Heap.lt_size e
 | own y=>obtain ⟨_,e⟩:=x;exact Heap.lt_size e
 | xd fs=>obtain ⟨_,⟨_,_,_,e,_⟩,_⟩:=x;exact Heap.lt_size e
 | rng lo hi=>obtain ⟨_,_,_,e⟩:=x;exact Heap.lt_size e
 | frz ob u=>obtain ⟨e,_⟩:=x;exact Heap.lt_size e
 | tbl ps=>exact Heap.lt_size (show h.get? a=some _ from x)
 | met f y=>exact Heap.lt_size (show h.get? a=some _ from x)
 | ext φ=>obtain ⟨_,⟨_,e⟩,_⟩:=x;exact Heap.lt_size e
theorem Paired.mapP {α β:Type} {F G:α->β->Prop}:∀{l₁:List α} {l₂:List β},Paired F l₁ l₂->(∀a b,F a b->G a b)->Paired G l₁ l₂
 | _,_,.nil,_=>.nil
 | _,_,.cons r t,f=>.cons (f _ _ r) (Paired.mapP t f)
theorem Paired.imp' {F G:α->β->Prop} (f:∀a b,F a b->G a b) {l₁:List α} {l₂:List β} (r:Paired F l₁ l₂):Paired G l₁ l₂:=Paired.mapP r f
theorem eK.stay (x:eK P w H h a o) (k:∀b u,(b=a\/H b=some (.own a))->h.get? b=some u->h'.get? b=some u)
  (ho:∀b,H b=some (.own a)->H' b=some (.own a)) (ht:∀b xs,H b=some (.tup xs)->H' b=some (.tup xs)):eK P w H' h' a o:=by
 induction o with
 | lst xs=>obtain ⟨z,its,n,r,e⟩:=x;exact ⟨z,its,n,r,k _ _ (.inl rfl) e⟩
 | tup xs=>obtain ⟨z,its,r,ob,e,c⟩:=x;exact ⟨z,its,r,ob,k _ _ (.inl rfl) e,c⟩
 | dK kvs=>obtain ⟨z,y,vs,r,ob,es,ep,e,c⟩:=x;exact ⟨z,y,vs,r,ob,es,ep,k _ _ (.inl rfl) e,c⟩
 | dT kvs =>
  obtain ⟨z,y,xs,r,ob,es,ep,e,c⟩:=x;exact ⟨z,y,xs,Paired.mapP r λp q z=>⟨z.1,ht _ _ z.2.1,z.2.2⟩,ob,es,ep,k _ _ (.inl rfl) e,c⟩
 | set S n=>obtain ⟨ob,es,ep,t,e,c⟩:=x;exact ⟨ob,es,ep,t,k _ _ (.inl rfl) e,c⟩
 | ins C dx fs =>
  obtain ⟨d,z,ne,e,mA,⟨od,es,ep,e2,c⟩,r⟩:=x;exact ⟨ho _ d,z,ne,k _ _ (.inl rfl) e,mA,⟨od,es,ep,k _ _ (.inr d) e2,c⟩,r⟩
 | own y=>obtain ⟨ob,e⟩:=x;exact ⟨ob,k _ _ (.inl rfl) e⟩
 | xd fs=>obtain ⟨mA,⟨od,es,ep,e,c⟩,r⟩:=x;exact ⟨mA,⟨od,es,ep,k _ _ (.inl rfl) e,c⟩,r⟩
 | rng lo hi=>obtain ⟨t,u,v,e⟩:=x;exact ⟨t,u,v,k _ _ (.inl rfl) e⟩
 | frz ob u ih=>obtain ⟨e,q⟩:=x;exact ⟨k _ _ (.inl rfl) e,ih q⟩
 | tbl ps =>
  have e:h.get? a=some { cls:=.none,data:=.fields ps }:=x;show h'.get? a=some { cls:=.none,data:=.fields ps }
  exact k a _ (.inl rfl) e
 | met f y =>
  have e:h.get? a=some (PySem.W.methodObj (.ref f) (.ref y)):=x;show h'.get? a=some (PySem.W.methodObj (.ref f) (.ref y))
  exact k a _ (.inl rfl) e
 | ext φ=>obtain ⟨p,⟨o,e⟩,st⟩:=x;exact ⟨st _ _ p λo q=>k _ _ (.inl rfl) q,⟨o,k _ _ (.inl rfl) e⟩,st⟩
theorem qv.lt (x:qv P w H h) (e:H a=some o):a < h.objs.size:=(x a o e).lt
theorem qv.fresh (x:qv P w H h) (e:h.objs.size<=a):H a=none:=by
 cases q:H a with
 | none=>rfl
 | some u=>exact absurd (aW (x.lt q) e) (dF _)
theorem qv.kept (x:qv P w H h) (k:∀b u,h.get? b=some u->h'.get? b=some u):qv P w H h':=λa o e =>
 (x a o e).stay (λb u _ q=>k b u q) (λ_ q=>q) λ_ _ q=>q
theorem qv.laid (x:qv P w H h) (k:∀b u,h.get? b=some u->h'.get? b=some u) (hp:h.objs.size<=a) (new:eK P w (upd H a o) h' a o):qv P w (upd H a o) h':=λb u e=>by
 have hn:=x.fresh hp;by_cases hb:b=a
 ·subst hb;rw[aJ] at e;cases e;exact new
 ·rw[aN hb] at e;exact (x b u e).stay (λc v _ q=>k c v q) (λc q=>by rw[aN (dA q hn)];exact q) λc xs q=>by rw[aN (dA q hn)];exact q
end
def Rd (H:Hp) (a:Addr) (u:HO):Prop:=H a=some u\/∃o,H a=some (.frz o u)
theorem Rd.ok (r:Rd H a u) (x:qv P w H h):eK P w H h a u:=by
 rcases r with r | ⟨o,r⟩
 ·exact x a u r
 ·obtain ⟨_,q⟩:=x a _ r;exact q
def JJ:Option HO->Prop
 | some (.lst _)=>True
 | some (.dK _)=>True
 | some (.dT _)=>True
 | some (.set _ _)=>True
 | some (.ins _ _ _)=>True
 | some (.ext _)=>True
 | _=>False
section
variable {P:Program} {w:World} {H:Hp} {h h':Heap} {x e:Addr} {o':HO}
theorem qv.write (ok:qv P w H h) (mu:JJ (H x)) (he:e=x\/H e=some (.own x)) (k:∀b u,b≠e->h.get? b=some u->h'.get? b=some u) (heo:∃u,h'.get? e=some u)
  (new:eK P w (upd H x o') h' x o'):qv P w (upd H x o') h':=λb u q=>by
 have nown:∀c y,H c=some (.own y)->c≠x:=λc y r z=>by subst z;rw[r] at mu;exact mu
 have ntup:∀c xs,H c=some (.tup xs)->c≠x:=λc xs r z=>by subst z;rw[r] at mu;exact mu
 by_cases hb:b=x
 ·subst hb;rw[aJ] at q;cases q;exact new
 ·rw[aN hb] at q;by_cases hbe:b=e
  ·have q':H b=some (.own x):=by
    rcases he with z | z
    ·exact absurd (hbe.trans z) hb
    ·rw[hbe];exact z
   rw[q] at q';cases q';obtain ⟨v,hv⟩:=heo;exact ⟨v,by rw[hbe];exact hv⟩
  ·refine (ok b u q).stay (λc v hc r=>k c v ?_ r) (λc r=>by rw[aN (nown c b r)];exact r) λc xs r=>by rw[aN (ntup c xs r)];exact r
   rcases hc with rfl | hc
   ·exact hbe
   ·rintro rfl;rcases he with z | z
    ·exact nown c b hc z
    ·rw[hc] at z;cases z;exact hb rfl
end
structure Un (fs ex:List Addr) (H H':Hp) (h h':Heap):Prop where
 keep:∀b o,h.get? b=some o->H b=none->b∉fs->b∉ex->h'.get? b=some o
 slot:∀b o,h.get? b=some o->H b=none->b∈fs->b∉ex->∃sl,h'.get? b=some { o with slots:=sl }
 free:∀b o,h.get? b=some o->H b=none->b∉ex->H' b=none
 there:∀b o,h.get? b=some o->b∉ex->∃o',h'.get? b=some o'
 tups:∀b xs,H b=some (.tup xs)->H' b=some (.tup xs)
 frzs:∀b o u,H b=some (.frz o u)->H' b=some (.frz o u)
 tbls:∀b ps,H b=some (.tbl ps)->∃more,H' b=some (.tbl (ps++more))
section
variable {fs fs' ex ex':List Addr} {H H1 H2:Hp} {h h1 h2 h':Heap} {a x e:Addr} {o:HO}
theorem Un.any (u:Un fs ex H H1 h h1) (q:h.get? b=some ob) (n:H b=none) (hx:b∉ex):∃sl,h1.get? b=some { ob with slots:=sl }:=by
 by_cases hb:b∈fs
 ·exact u.slot b ob q n hb hx
 ·exact ⟨ob.slots,u.keep b ob q n hb hx⟩
theorem Un.kept (k:∀b u,h.get? b=some u->h'.get? b=some u):Un fs ex H H h h' :=
 ⟨λb ob q _ _ _=>k b ob q,λb ob q _ _ _=>⟨ob.slots,k b ob q⟩,λ_ _ _ n _=>n,λb ob q _=>⟨ob,k b ob q⟩,λ_ _ q=>q,λ_ _ _ q=>q,λ_ ps q=>⟨#[],by rw[q];simp⟩⟩
theorem Un.refl:Un fs ex H H h h:=Un.kept λ_ _ q=>q
theorem Un.laid (k:∀b u,h.get? b=some u->h'.get? b=some u) (hp:h.objs.size<=a) (hn:H a=none):Un fs ex H (upd H a o) h h' where
 keep:=λb u q _ _ _=>k b u q
 slot:=λb u q _ _ _=>⟨u.slots,k b u q⟩
 free:=λb u q n _=>by rw[aN (bw (aW (Heap.lt_size q) hp))];exact n
 there:=λb u q _=>⟨u,k b u q⟩
 tups:=λb xs q=>by rw[aN (dA q hn)];exact q
 frzs:=λb u xs q=>by rw[aN (dA q hn)];exact q
 tbls:=λb ps q=>⟨#[],by rw[aN (dA q hn),q];simp⟩
theorem Un.write (mu:JJ (H x)) (he:e=x\/H e=some (.own x)) (k:∀b u,b≠e->h.get? b=some u->h'.get? b=some u) (heo:∃u,h'.get? e=some u):Un fs ex H (upd H x o) h h':=by
 have hx:∀b,H b=none->b≠x:=λb n z=>by subst z;rw[n] at mu;exact mu
 have hb:∀b,H b=none->b≠e:=λb n z=>by
  subst z;rcases he with r | r
  ·exact hx b n r
  ·rw[n] at r;cases r
 have hm:∀b u,H b=some u->¬JJ (some u)->b≠x:=λb u q nm z=>by subst z;rw[q] at mu;exact nm mu
 refine ⟨λb u q n _ _=>k b u (hb b n) q,λb u q n _ _=>⟨u.slots,k b u (hb b n) q⟩,λb u q n _=>by rw[aN (hx b n)];exact n,λb u q _=>?_,
  λb xs q=>by rw[aN (hm b _ q λz=>z)];exact q,λb u xs q=>by rw[aN (hm b _ q λz=>z)];exact q,λb ps q=>⟨#[],by rw[aN (hm b _ q λz=>z),q];simp⟩⟩
 by_cases hbe:b=e
 ·subst hbe;exact heo
 ·exact ⟨u,k b u hbe q⟩
end
def JD (h:Heap) (H:Hp):List Addr:=(List.range h.objs.size).filter λa=>(H a).isSome
def wY (h:Heap) (H:Hp):Heap:=PySem.W.hideAll h (JD h H)
theorem Bl (h:Heap) (H:Hp):(wY h H).objs.size=h.objs.size:=PySem.W.hideAll_size _ _
theorem De (e:h.get? b=some o) (n:H b=none):(wY h H).get? b=some o :=
 xy _ e λhm=>by
  have q:(H b).isSome=true:=(List.mem_filter.mp hm).2;rw[n] at q;simp at q
theorem EK (e:(wY h H).get? b=some o):h.get? b=some o/\H b=none:=by
 have e':h.get? b=some o:=yN (JD h H) e;refine ⟨e',?_⟩;cases q:H b with
 | none=>rfl
 | some x =>
  have hm:b∈JD h H:=List.mem_filter.mpr ⟨nO.mpr (Heap.lt_size e'),by simp [q]⟩;have z:(wY h H).get? b=none:=PySem.W.hideAll_none (JD h H) hm;rw[z] at e;cases e
structure Mod (K:FG9) (mg:Str->Option Value) (base:Heap):Prop where
 kin:K.In base
 glob:base.Ns mainGlobals mg
 blt:∃mb,base.Ns builtinsNs mb/\∀x:Str,x≠"__name__"->mb x=bootBuiltins x
 nolimit:base.NoLimit
structure Cx where
 prog:Program
 w:World
 K:FG9
 mg:Str->Option Value
 base:Heap
 A:Around
 N:List Str
 s₀:Shared
 H₀:Hp
 env:Env
 outer:List Env
 stack:List Env
 ex:List Addr
 fn:Str->Bool
 calm:Bool
 pn:List (Addr×Obj)
 xe:Value->Shared->Prop
def rW (l:List Env):List Addr:=l.filterMap (·.frame)
abbrev Cx.fs (X:Cx):List Addr:=rW X.outer
def Ka (sc:Scope) (x:Str):Prop:=sc.names.lookup x=some .local\/sc.names.lookup x=some .cell\/sc.names.lookup x=some .free
def Loc (sc:Scope) (x:Str):Prop:=sc.names.lookup x=some .local\/sc.names.lookup x=some .cell
def Look (env:Env) (h:Heap) (m:Str->Option Value) (x:Str) (u:Value):Prop :=
 (env.kindOf x=some .local/\m x=some u)\/((env.kindOf x=some .cell\/env.kindOf x=some .free)/\∃c,env.cells.lookup x=some c/\h.IsCell c (some u))
structure Cx.Ok (X:Cx):Prop where
 mod:Mod X.K X.mg X.base
 kind:X.env.scope.kind=.function
 glob:X.env.globals=mainGlobals
 blt:X.env.builtins=builtinsNs
 above:X.s₀.heap.objs.size<=X.env.locals
 inj:∀x y c,X.env.cells.lookup x=some c->X.env.cells.lookup y=some c->x=y
 has:∀x,(X.env.kindOf x=some .cell\/X.env.kindOf x=some .free)->∃c,X.env.cells.lookup x=some c
 cab:∀x c,X.fn x=true->X.env.cells.lookup x=some c->X.s₀.heap.objs.size<=c
 hd:X.calm=true->X.A.handled=none
 frames:X.A.frames=some X.stack
 stk:X.stack=X.outer\/(X.stack=X.env :: X.outer/\X.env.frame=some X.env.locals)
 exf:∀b∈X.ex,b≠X.env.locals/\∀x c,X.env.cells.lookup x=some c->c≠b
 bs:∀b o,X.base.get? b=some o->X.s₀.heap.get? b=some o/\X.H₀ b=none
 bsz:X.base.objs.size<=X.s₀.heap.objs.size
 noex:∀b o,X.base.get? b=some o->b∉X.ex
 exfs:∀b∈X.ex,b∉X.fs
 funs:X.s₀.heap.FunFrames X.base X.outer
 frf:∀b∈X.fs,X.H₀ b=none
structure Inv (X:Cx) (pins:List (Addr×Obj)) (σ:List (Option V)) (H:Hp) (s:Shared):Prop where
 ok:X.Ok
 os:s.os=X.s₀.os
 bare:AllBare s.gens
 base:Un X.fs X.ex X.H₀ H X.s₀.heap s.heap
 loc:∃m,s.heap.Ns X.env.locals m/\∀(i:Nat) (x:Str) (v:V),X.N[i]?=some x->σ[i]?=some (some v)->Ka X.env.scope x->∃u,RelV v u/\Look X.env s.heap m x u
 cell:∀x c,X.env.cells.lookup x=some c->∃v,s.heap.IsCell c v
 free:H X.env.locals=none
 freeC:∀x c,X.env.cells.lookup x=some c->H c=none
 pin:∀p∈X.pn++pins,s.heap.get? p.1=some p.2/\H p.1=none/\p.1≠X.env.locals/\p.1∉X.fs/\∀v,p.2.data≠.cell v
 hok:qv X.prog X.w H s.heap
 len:σ.length=X.N.length
section
variable {X:Cx} {pins:List (Addr×Obj)} {σ:List (Option V)} {H H':Hp} {s:Shared} {h':Heap}
theorem Cx.Ok.nofr (ok:X.Ok) (e:X.base.get? b=some o):b∉X.fs:=λhb=>by
 have:=(ok.funs.mem hb).1;rw[e] at this;cases this
theorem Inv.bs (I:Inv X pins σ H s):∀b o,X.base.get? b=some o->s.heap.get? b=some o/\H b=none:=λb o e =>
 ⟨I.base.keep b o (I.ok.bs b o e).1 (I.ok.bs b o e).2 (I.ok.nofr e) (I.ok.noex b o e),I.base.free b o (I.ok.bs b o e).1 (I.ok.bs b o e).2 (I.ok.noex b o e)⟩
theorem Inv.bk (I:Inv X pins σ H s):∀b o,X.base.get? b=some o->s.heap.get? b=some o:=λb o e=>(I.bs b o e).1
theorem Inv.mod (I:Inv X pins σ H s):Mod X.K X.mg X.base:=I.ok.mod
theorem Inv.kIn (I:Inv X pins σ H s):X.K.In s.heap:=I.ok.mod.kin.keeps I.bk
theorem Inv.lt (I:Inv X pins σ H s):X.env.locals < s.heap.objs.size:=let ⟨_,hn,_⟩:=I.loc;hn.lt
theorem Inv.sz (I:Inv X pins σ H s):X.s₀.heap.objs.size<=s.heap.objs.size:=ak I.ok.above (aU I.lt)
theorem Inv.nofs (I:Inv X pins σ H s) {a:Addr} (h:s.heap.objs.size<=a):a∉X.fs:=λhb=>by
 obtain ⟨_,o,ho,_⟩:=I.ok.funs.mem hb;exact absurd (aW (Heap.lt_size ho) (ak I.sz h)) (dF _)
theorem Inv.cne (I:Inv X pins σ H s):∀x c,X.env.cells.lookup x=some c->c≠X.env.locals:=λx c e z=>by
 obtain ⟨v,o,ho,hd⟩:=I.cell x c e;obtain ⟨m,⟨o',es,ep,ho',hd',_⟩,_⟩:=I.loc;rw[z,ho'] at ho;cases ho;rw[hd'] at hd;cases hd
theorem Inv.funs (I:Inv X pins σ H s):s.heap.FunFrames X.base X.outer:=by
 have all:∀(l:List Env),(∀b∈rW l,b∈X.fs)->X.s₀.heap.FunFrames X.base l->s.heap.FunFrames X.base l:=by
  intro l
  induction l with
  | nil=>intro _ _;trivial
  | cons env r ih =>
   intro hs hl;obtain ⟨hk,⟨L,o,hf,hn,ho,hd⟩,hr⟩:=hl;have hL:L∈X.fs:=hs L (by unfold rW;rw[mI,hf];exact cD);obtain ⟨sl,e⟩:=I.base.slot L o ho (I.ok.frf L hL) hL λz=>I.ok.exfs L z hL
   exact ⟨hk,⟨L,_,hf,hn,e,hd⟩,ih (λb hb=>hs b (by unfold rW;rw[mI,hf];exact bD _ hb)) hr⟩
 exact all X.outer (λ_ hb=>hb) I.ok.funs
theorem Inv.stack (I:Inv X pins σ H s):s.heap.FunFrames X.base X.stack:=by
 rcases I.ok.stk with e | ⟨e,hf⟩
 ·rw[e];exact I.funs
 ·rw[e];obtain ⟨m,hn,_⟩:=I.loc;refine .cons (by rw[I.ok.kind];decide) hf hn ?_ I.funs;exact Heap.get?_none_of_le (ak I.ok.bsz I.ok.above)
theorem Inv.stkSub (I:Inv X pins σ H s):∀b∈rW X.stack,b∈X.env.locals :: X.fs:=λb hb=>by
 rcases I.ok.stk with e | ⟨e,hf⟩
 ·rw[e] at hb;exact bD _ hb
 ·rw[e] at hb;unfold rW at hb;rw[mI,hf] at hb;exact hb
theorem Inv.stkFree (I:Inv X pins σ H s):∀b∈rW X.stack,H b=none:=λb hb=>by
 rcases az.mp (I.stkSub b hb) with e | hb
 ·rw[e];exact I.free
 ·obtain ⟨_,o,ho,_⟩:=I.ok.funs.mem hb;exact I.base.free b o ho (I.ok.frf b hb) λz=>I.ok.exfs b z hb
theorem Inv.step {ch:List Addr} (I:Inv X pins σ H s)
  (hch:∀b∈ch,(b∈X.ex\/X.s₀.heap.objs.size<=b)/\b≠X.env.locals/\(∀x c,X.env.cells.lookup x=some c->c≠b)/\∀p∈X.pn++pins,p.1≠b)
  (keep:∀b o,b≠X.env.locals->b∉X.fs->b∉ch->s.heap.get? b=some o->H b=none->h'.get? b=some o)
  (slot:∀b o,b≠X.env.locals->b∈X.fs->b∉ch->s.heap.get? b=some o->H b=none->∃sl,h'.get? b=some { o with slots:=sl }) (free:∀b o,b∉ch->s.heap.get? b=some o->H b=none->H' b=none)
  (there:∀b o,b∉ch->s.heap.get? b=some o->∃o',h'.get? b=some o')
  (tups:∀b xs,H b=some (.tup xs)->H' b=some (.tup xs)) (frzs:∀b o u,H b=some (.frz o u)->H' b=some (.frz o u)) (tbls:∀b ps,H b=some (.tbl ps)->∃more,H' b=some (.tbl (ps++more)))
  (ns:∀m,s.heap.Ns X.env.locals m->h'.Ns X.env.locals m) (hok:qv X.prog X.w H' h') (hg:AllBare g') :
  Inv X pins σ H' { s with heap:=h',gens:=g',drawn:=d',toks:=t' }:=by
 have neL:∀b o,X.s₀.heap.get? b=some o->b≠X.env.locals:=λb o e=>bw (aW (Heap.lt_size e) I.ok.above)
 have neC:∀b o,X.s₀.heap.get? b=some o->b∉X.ex->b∉ch:=λb o e hx hb=>by
  rcases (hch b hb).1 with z | z
  ·exact hx z
  ·exact absurd (aW (Heap.lt_size e) z) (dF _)
 have cellK:∀x c,X.env.cells.lookup x=some c->∀v,s.heap.IsCell c v->h'.IsCell c v:=λx c e v ⟨o,ho,hd⟩=>by
  have nch:c∉ch:=λz=>(hch c z).2.2.1 x c e rfl
  by_cases hc:c∈X.fs
  ·obtain ⟨sl,q⟩:=slot c o (I.cne x c e) hc nch ho (I.freeC x c e);exact ⟨_,q,hd⟩
  ·exact ⟨o,keep c o (I.cne x c e) hc nch ho (I.freeC x c e),hd⟩
 refine ⟨I.ok,I.os,hg,⟨λb o e n hb hx=>?_,λb o e n hb hx=>?_,λb o e n hx=>?_,λb o e hx=>?_,λb xs e=>tups b xs (I.base.tups b xs e),λb o xs e=>frzs b o xs (I.base.frzs b o xs e),λb ps e=>?_⟩,?_,λx c e=>?_,?_,λx c e=>?_,λp hp=>?_,hok,I.len⟩
 ·exact keep b o (neL b o e) hb (neC b o e hx) (I.base.keep b o e n hb hx) (I.base.free b o e n hx)
 ·obtain ⟨sl,e1⟩:=I.base.slot b o e n hb hx;obtain ⟨sl',e2⟩:=slot b _ (neL b o e) hb (neC b o e hx) e1 (I.base.free b o e n hx);exact ⟨sl',e2⟩
 ·obtain ⟨o',e1⟩:=I.base.there b o e hx;exact free b o' (neC b o e hx) e1 (I.base.free b o e n hx)
 ·obtain ⟨o',e1⟩:=I.base.there b o e hx;exact there b o' (neC b o e hx) e1
 ·obtain ⟨m1,e1⟩:=I.base.tbls b ps e;obtain ⟨m2,e2⟩:=tbls b _ e1;exact ⟨m1++m2,by rw[e2,Array.append_assoc]⟩
 ·obtain ⟨m,hn,hl⟩:=I.loc;refine ⟨m,ns m hn,λi x v e1 e2 e3=>?_⟩;obtain ⟨u,r,l⟩:=hl i x v e1 e2 e3;refine ⟨u,r,?_⟩;rcases l with l | ⟨k,c,e,z⟩
  ·exact .inl l
  ·exact .inr ⟨k,c,e,cellK x c e _ z⟩
 ·obtain ⟨v,z⟩:=I.cell x c e;exact ⟨v,cellK x c e v z⟩
 ·obtain ⟨m,⟨o,_,_,ho,_⟩,_⟩:=I.loc;exact free _ o (λz=>(hch _ z).2.1 rfl) ho I.free
 ·obtain ⟨v,o,ho,hd⟩:=I.cell x c e;exact free c o (λz=>(hch c z).2.2.1 x c e rfl) ho (I.freeC x c e)
 ·obtain ⟨e,n,ne,nf,d⟩:=I.pin p hp;have nch:p.1∉ch:=λz=>(hch p.1 z).2.2.2 p hp rfl
  exact ⟨keep p.1 p.2 ne nf nch e n,free p.1 p.2 nch e n,ne,nf,d⟩
theorem Inv.un (I:Inv X pins σ H s) (u:Un X.fs [] H H' s.heap h') (hok:qv X.prog X.w H' h'):Inv X pins σ H' { s with heap:=h',toks:=t' }:=by
 obtain ⟨m,⟨o,es,ep,ho,r⟩,_⟩:=id I.loc;obtain ⟨sl,hL⟩:=u.any ho I.free (by simp)
 exact I.step (g':=s.gens) (d':=s.drawn) (ch:=[]) (λ_ z=>nomatch z) (λb o _ hb _ e n=>u.keep b o e n hb (by simp)) (λb o _ hb _ e n=>u.slot b o e n hb (by simp)) (λb o _ e n=>u.free b o e n (by simp)) (λb o _ e=>u.there b o e (by simp)) u.tups u.frzs u.tbls (λm' hm=>by
  obtain ⟨o',es',ep',ho',r'⟩:=hm;rw[ho] at ho';cases ho';exact ⟨_,es',ep',hL,r'⟩) hok I.bare
theorem Inv.call (I:Inv X pins σ H s) (u:Un (rW X.stack) ch H H' s.heap h') (hok:qv X.prog X.w H' h') (hg:AllBare g')
  (hch:∀b∈ch,(b∈X.ex\/X.s₀.heap.objs.size<=b)/\b≠X.env.locals/\(∀x c,X.env.cells.lookup x=some c->c≠b)/\∀p∈X.pn++pins,p.1≠b) :
  Inv X pins σ H' { s with heap:=h',gens:=g',drawn:=d',toks:=t' }:=by
 obtain ⟨m,⟨o,es,ep,ho,r⟩,_⟩:=id I.loc;obtain ⟨sl,hL⟩:=u.any ho I.free λz=>(hch _ z).2.1 rfl
 exact I.step (ch:=ch) hch (λb o hL hb hc e n=>u.keep b o e n (λz=>(az.mp (I.stkSub b z)).elim hL hb) hc) (λb o _ _ hc e n=>u.any e n hc) (λb o hc e n=>u.free b o e n hc) (λb o hc e=>u.there b o e hc) u.tups u.frzs u.tbls (λm' hm=>by
  obtain ⟨o',es',ep',ho',r'⟩:=hm;rw[ho] at ho';cases ho';exact ⟨_,es',ep',hL,r'⟩) hok hg
theorem Inv.turned (I:Inv X pins σ H s) (k:∀b o,b≠it->s.heap.get? b=some o->h'.get? b=some o) (hn:H it=none) (hL:it≠X.env.locals)
  (h1:it∈X.ex\/X.s₀.heap.objs.size<=it) (h2:∀x c,X.env.cells.lookup x=some c->c≠it) (h3:∀p∈X.pn++pins,p.1≠it):Inv X pins σ H { s with heap:=h',toks:=t' }:=by
 have nit:∀b u,H b=some u->b≠it:=λb u e z=>by rw[z,hn] at e;cases e
 refine I.step (g':=s.gens) (d':=s.drawn) (ch:=[it]) (λb hb=>?_) (λb o _ _ hc e _=>k b o (λz=>hc (by simp [z])) e) (λb o _ _ hc e _=>⟨o.slots,k b o (λz=>hc (by simp [z])) e⟩) (λ_ _ _ _ n=>n)
  (λb o hc e=>⟨o,k b o (λz=>hc (by simp [z])) e⟩) (λ_ _ e=>e) (λ_ _ _ e=>e) (λb ps e=>⟨#[],by rw[e];simp⟩) (λm hm=>?_) (λb u e=>?_) I.bare
 ·have e:b=it:=by simpa using hb
  subst e;exact ⟨h1,hL,h2,h3⟩
 ·obtain ⟨o,es,ep,ho,r⟩:=hm;exact ⟨o,es,ep,k _ o (Ne.symm hL) ho,r⟩
 ·refine (I.hok b u e).stay (λc v hc q=>k c v ?_ q) (λ_ q=>q) λ_ _ q=>q
  rcases hc with z | z
  ·rw[z];exact nit b u e
  ·exact nit c _ z
theorem Inv.tok (I:Inv X pins σ H s) (t:Nat):Inv X pins σ H { s with toks:=t }:=I.un (h':=s.heap) (t':=t) Un.refl I.hok
theorem Inv.kept (I:Inv X pins σ H s) (k:∀b u,s.heap.get? b=some u->h'.get? b=some u):Inv X pins σ H { s with heap:=h',toks:=t' }:=I.un (Un.kept k) (I.hok.kept k)
theorem Inv.laid {a:Addr} (I:Inv X pins σ H s) (k:∀b u,s.heap.get? b=some u->h'.get? b=some u) (hp:s.heap.objs.size<=a) (new:eK X.prog X.w (upd H a o) h' a o) :
  Inv X pins σ (upd H a o) { s with heap:=h',toks:=t' }:=I.un (Un.laid k hp (I.hok.fresh hp)) (I.hok.laid k hp new)
theorem Inv.write (I:Inv X pins σ H s) (mu:JJ (H x)) (he:e=x\/H e=some (.own x)) (k:∀b u,b≠e->s.heap.get? b=some u->h'.get? b=some u) (heo:∃u,h'.get? e=some u)
  (new:eK X.prog X.w (upd H x o) h' x o):Inv X pins σ (upd H x o) { s with heap:=h',toks:=t' }:=I.un (Un.write mu he k heo) (I.hok.write mu he k heo new)
theorem Inv.pins_of (I:Inv X pins σ H s) (h:∀p∈pins',s.heap.get? p.1=some p.2/\H p.1=none/\p.1≠X.env.locals/\p.1∉X.fs/\∀v,p.2.data≠.cell v):Inv X pins' σ H s :=
 ⟨I.ok,I.os,I.bare,I.base,I.loc,I.cell,I.free,I.freeC,λp hp=>(ar.mp hp).elim (λz=>I.pin p (lJ _ z)) (h p),I.hok,I.len⟩
theorem ye {N:List Str} (hN:N.Nodup) {i j:Nat} (a:N[i]?=some x) (b:N[j]?=some x):i=j:=by
 obtain ⟨h1,e1⟩:=aF.mp a;obtain ⟨h2,e2⟩:=aF.mp b;exact (List.getElem_inj hN).mp (e1.trans e2.symm)
theorem vk {M:Model} {A:Around} {E:Value->Shared->Prop} {i:Nat} {x:Str} {v:V} {u:Value} {Q:Unit->Shared->Prop} (I:Inv X pins σ H s) (hN:X.N.Nodup) (hi:X.N[i]?=some x) (hx:Loc X.env.scope x) (r:RelV v u)
  (h:∀s',Inv X pins (σ.set i (some v)) H s'->(∃a,Heap.SameBut a s.heap s'.heap/\(a=X.env.locals\/X.env.cells.lookup x=some a))->Q () s') (hf:X.fn x=true\/X.env.scope.names.lookup x=some .local:=by first | exact .inl rfl | exact .inr rfl | assumption):wpAny M A (storeName X.env x u) Q E s:=by
 obtain ⟨m,hn,hl⟩:=id I.loc;have hcls:(X.env.scope.kind == .class || (X.env.scope.kind == .module && X.env.locals != X.env.globals))=false:=by rw[I.ok.kind];rfl
 have hiσ:i < σ.length:=by rw[I.len];exact (aF.mp hi).1
 have cne:=I.cne
 have tracked:∀{a:Addr} {h':Heap},(∃o,s.heap.get? a=some o/\H a=none)->Heap.SameBut a s.heap h'->qv X.prog X.w H h':=λ{a h'} ha hs b ob e=>by
  obtain ⟨_,_,hfree⟩:=ha;refine (I.hok b ob e).stay (λc w' hc q=>(hs.2 c ?_).trans q) (λ_ q=>q) λ_ _ q=>q
  rintro rfl;rcases hc with rfl | hc
  ·rw[hfree] at e;cases e
  ·rw[hfree] at hc;cases hc
 rcases hx with hk | hk
 ·refine wpAny_storeName_local hk hn (λh' hn' hs=>?_) hcls;obtain ⟨oL,_,_,hoL,_⟩:=id hn;refine h _ ⟨I.ok,I.os,I.bare,⟨λb o e n hb hx=>?_,λb o e n hb hx=>?_,I.base.free,λb o e hx=>?_,I.base.tups,I.base.frzs,I.base.tbls⟩,⟨_,hn',λj y v' e1 e2 e3=>?_⟩,λy c e=>?_,I.free,I.freeC,λp hp=>?_,tracked ⟨oL,hoL,I.free⟩ hs,by simpa using I.len⟩ ⟨_,hs,.inl rfl⟩
  ·exact (hs.2 b (bw (aW (Heap.lt_size e) I.ok.above))).trans (I.base.keep b o e n hb hx)
  ·obtain ⟨sl,e1⟩:=I.base.slot b o e n hb hx;exact ⟨sl,(hs.2 b (bw (aW (Heap.lt_size e) I.ok.above))).trans e1⟩
  ·obtain ⟨o',e1⟩:=I.base.there b o e hx;exact ⟨o',(hs.2 b (bw (aW (Heap.lt_size e) I.ok.above))).trans e1⟩
  ·by_cases hj:j=i
   ·subst hj;rw[hi] at e1;cases e1;rw[List.getElem?_set_self hiσ] at e2;cases e2;exact ⟨u,r,.inl ⟨hk,by simp⟩⟩
   ·rw[List.getElem?_set_ne (Ne.symm hj)] at e2;obtain ⟨u',r',q⟩:=hl j y v' e1 e2 e3;refine ⟨u',r',?_⟩;rcases q with ⟨k,e⟩ | ⟨k,c,e,z⟩
    ·refine .inl ⟨k,?_⟩;have:y≠x:=λe=>hj (ye hN e1 (e ▸ hi))
     simp [this,e]
    ·exact .inr ⟨k,c,e,z.sameBut hs (cne y c e)⟩
  ·obtain ⟨w',z⟩:=I.cell y c e;exact ⟨w',z.sameBut hs (cne y c e)⟩
  ·obtain ⟨e,n,ne,nf,d⟩:=I.pin p hp;exact ⟨(hs.2 p.1 ne).trans e,n,ne,nf,d⟩
 ·have hfn:X.fn x=true:=by
   rcases hf with z | z
   ·exact z
   ·rw[z] at hk;cases hk
  obtain ⟨c,hc⟩:=I.ok.has x (.inl hk);obtain ⟨w',z⟩:=I.cell x c hc;refine wpAny_storeName_cell I.ok.kind hk hc z (λh' hc' hs=>?_);obtain ⟨oc,hoc,hocd⟩:=id z;refine h { s with heap:=h' } ⟨I.ok,I.os,I.bare,⟨λb o e n hb hx=>?_,λb o e n hb hx=>?_,I.base.free,λb o e hx=>?_,I.base.tups,I.base.frzs,I.base.tbls⟩,⟨m,hn.sameBut hs (Ne.symm (cne x c hc)),λj y v' e1 e2 e3=>?_⟩,λy c' e=>?_,I.free,I.freeC,λp hp=>?_,tracked ⟨oc,hoc,I.freeC x c hc⟩ hs,by simpa using I.len⟩ ⟨c,hs,.inr hc⟩
  ·exact (hs.2 b (bw (aW (Heap.lt_size e) (I.ok.cab x c hfn hc)))).trans (I.base.keep b o e n hb hx)
  ·obtain ⟨sl,e1⟩:=I.base.slot b o e n hb hx;exact ⟨sl,(hs.2 b (bw (aW (Heap.lt_size e) (I.ok.cab x c hfn hc)))).trans e1⟩
  ·obtain ⟨o',e1⟩:=I.base.there b o e hx;exact ⟨o',(hs.2 b (bw (aW (Heap.lt_size e) (I.ok.cab x c hfn hc)))).trans e1⟩
  ·by_cases hj:j=i
   ·subst hj;rw[hi] at e1;cases e1;rw[List.getElem?_set_self hiσ] at e2;cases e2;exact ⟨u,r,.inr ⟨.inl hk,c,hc,hc'⟩⟩
   ·rw[List.getElem?_set_ne (Ne.symm hj)] at e2;obtain ⟨u',r',q⟩:=hl j y v' e1 e2 e3;refine ⟨u',r',?_⟩;rcases q with q | ⟨k,c',e,z'⟩
    ·exact .inl q
    ·refine .inr ⟨k,c',e,z'.sameBut hs ?_⟩;rintro rfl;exact hj (ye hN e1 (I.ok.inj _ _ _ e hc ▸ hi))
  ·by_cases hcc:c'=c
   ·subst hcc;exact ⟨_,hc'⟩
   ·obtain ⟨w2,z2⟩:=I.cell y c' e;exact ⟨w2,z2.sameBut hs hcc⟩
  ·obtain ⟨e,n,ne,nf,d⟩:=I.pin p hp;refine ⟨(hs.2 p.1 ?_).trans e,n,ne,nf,d⟩;intro q;rw[q,hoc] at e;have q':oc=p.2:=bR e;exact d w' (by rw[<- q'];exact hocd)
theorem lO {M:Model} {A:Around} {E:Value->Shared->Prop} {i:Nat} {x:Str} {v:V} {u:Value} {Q:Unit->Shared->Prop} (I:Inv X pins σ H s) (hN:X.N.Nodup) (hi:X.N[i]?=some x) (hx:Loc X.env.scope x) (r:RelV v u)
  (h:∀s',Inv X pins (σ.set i (some v)) H s'->Q () s') (hf:X.fn x=true\/X.env.scope.names.lookup x=some .local:=by first | exact .inl rfl | exact .inr rfl | assumption):wpAny M A (storeName X.env x u) Q E s :=
 vk I hN hi hx r (λs' I' _=>h s' I') hf
theorem Inv.call' (I:Inv X pins σ H s) (ho:s'.os=s.os) (u:Un (rW X.stack) ch H H' s.heap s'.heap) (hok:qv X.prog X.w H' s'.heap) (hg:AllBare s'.gens)
  (hch:∀b∈ch,(b∈X.ex\/X.s₀.heap.objs.size<=b)/\b≠X.env.locals/\(∀x c,X.env.cells.lookup x=some c->c≠b)/\∀p∈X.pn++pins,p.1≠b):Inv X pins σ H' s':=by
 obtain ⟨h',g',d',t',o'⟩:=s';have e:o'=s.os:=ho;subst e;exact I.call (g':=g') (t':=t') (d':=d') u hok hg hch
end
abbrev XK:=Value->Option Addr->Hp->Prop
abbrev St:=List (Option V)
abbrev VK:=V->Hp->Prop
abbrev TE:=St->Hp->VK->Prop
abbrev TT:=St->Hp->(Bool->Hp->Prop)->Prop
abbrev TA:=St->Hp->(List V->Hp->Prop)->Prop
structure Ends where
 nx:St->Hp->Prop
 rt:VK
 bk:St->Hp->Prop:=λ_ _=>False
 ct:St->Hp->Prop:=λ_ _=>False
abbrev TS:=Ends->St->Hp->Prop
def EP (X:Cx) (pins:List (Addr×Obj)) (σ:St) (Q:VK) (u:Value) (s':Shared):Prop:=∃v H',Inv X pins σ H' s'/\RelV v u/\Q v H'
def TP (X:Cx) (pins:List (Addr×Obj)) (σ:St) (Q:Bool->Hp->Prop) (b:Bool) (s':Shared):Prop:=∃H',Inv X pins σ H' s'/\Q b H'
def AP (X:Cx) (pins:List (Addr×Obj)) (σ:St) (Q:List V->Hp->Prop) (us:List Value) (s':Shared):Prop:=∃vs H',Inv X pins σ H' s'/\bV vs us/\Q vs H'
def SP (X:Cx) (pins:List (Addr×Obj)) (D:Ends) (f:Flow) (s':Shared):Prop :=
 match f with
 | .next=>∃σ' H',Inv X pins σ' H' s'/\D.nx σ' H'
 | .brk=>∃σ' H',Inv X pins σ' H' s'/\D.bk σ' H'
 | .cont=>∃σ' H',Inv X pins σ' H' s'/\D.ct σ' H'
 | .ret u=>∃v σ' H',Inv X pins σ' H' s'/\RelV v u/\D.rt v H'
def PE (X:Cx) (e:Expr) (t:TE):Prop :=
 ∀(pins:List (Addr×Obj)) (s:Shared) (σ:St) (H:Hp) (Q:VK),Inv X pins σ H s->t σ H Q->wpAny (model X.prog X.w) X.A (eval e X.env) (EP X pins σ Q) X.xe s
def PT (X:Cx) (e:Expr) (t:TT):Prop :=
 ∀(pins:List (Addr×Obj)) (s:Shared) (σ:St) (H:Hp) (Q:Bool->Hp->Prop),Inv X pins σ H s->t σ H Q->wpAny (model X.prog X.w) X.A (isTrue e X.env (eval e X.env)) (TP X pins σ Q) X.xe s
def PW (X:Cx) (e:Expr) (t:TT):Prop :=
 ∀(whole:Sem Value) (pins:List (Addr×Obj)) (s:Shared) (σ:St) (H:Hp) (Q:Bool->Hp->Prop),Inv X pins σ H s->t σ H Q->wpAny (model X.prog X.w) X.A (isTrue e X.env whole) (TP X pins σ Q) X.xe s
theorem PW.pt (h:PW X e t):PT X e t:=h _
def PA (X:Cx) (es:List Expr) (t:TA):Prop :=
 ∀(pos:Pos) (pins:List (Addr×Obj)) (s:Shared) (σ:St) (H:Hp) (Q:List V->Hp->Prop),Inv X pins σ H s->t σ H Q->wpAny (model X.prog X.w) X.A (spliced (backTo pos (starEach es X.env))) (AP X pins σ Q) X.xe s
def PS (X:Cx) (st:Stmt) (t:TS):Prop :=
 ∀(pins:List (Addr×Obj)) (s:Shared) (σ:St) (H:Hp) (D:Ends),Inv X pins σ H s->t D σ H->wpAny (model X.prog X.w) X.A (exec st X.env) (SP X pins D) X.xe s
def xv (X:Cx) (st:List Stmt) (t:TS):Prop :=
 ∀(pins:List (Addr×Obj)) (s:Shared) (σ:St) (H:Hp) (D:Ends),Inv X pins σ H s->t D σ H->wpAny (model X.prog X.w) X.A (execs st X.env) (SP X pins D) X.xe s
theorem eI {t:Sem α} {Q Q':α->Shared->Prop} (h:wpAny M A t Q E s) (hQ:∀a s,Q a s->Q' a s):wpAny M A t Q' E s:=wpAny_mono h hQ λ_ _ x=>x
section
variable {X:Cx}
def F1 (i:Nat):TE:=λσ H Q=>∃v,σ[i]?=some (some v)/\Q v H
def tC (v:V):TE:=λ_ H Q=>Q v H
theorem GN {i:Nat} {x:Str} {pos:Pos} (hN:X.N[i]?=some x) (hv:Ka X.env.scope x) (hd:(x == ("__debug__":Str))=false:=by decide) (hcd:(x == ("__classdict__":Str))=false:=by decide):PE X (.Name x pos) (F1 i):=by
 intro pins s σ H Q I h;obtain ⟨v,e,h⟩:=h;obtain ⟨m,hn,hl⟩:=I.loc;obtain ⟨u,r,l⟩:=hl i x v hN e hv;have fin:EP X pins σ Q u s:=⟨v,H,I,r,h⟩;rcases l with ⟨hk,hm⟩ | ⟨hk,c,hc,hcell⟩
 ·exact wpAny_Name (wpAny_loadName_local I.ok.kind hk hn hm fin) hd
 ·rcases hk with hk | hk
  ·exact wpAny_Name (wpAny_loadName_cell I.ok.kind hk hc hcell fin) hd
  ·exact wpAny_Name (wpAny_loadName_free I.ok.kind hk hc hcell fin hcd) hd
theorem ag:PE X (.Constant (.int i) j pos) (tC (.int i)):=λ_ _ _ H _ I h=>wpAny_Constant_int ⟨.int i,H,I.tok _,⟨_,rfl⟩,h⟩
theorem tG:PE X (.Constant (.bool b) j pos) (tC (.bl b)):=λ_ _ _ H _ I h=>Constant_bool ⟨.bl b,H,I,rfl,h⟩
theorem l8:PE X (.Constant .none j pos) (tC .non):=λ_ _ _ H _ I h=>Constant_none ⟨.non,H,I,rfl,h⟩
theorem p7:PE X (.Constant (.str x) j pos) (tC (.str x)):=λ_ _ _ H _ I h=>Calls.Constant_str ⟨.str x,H,I.tok _,⟨_,rfl⟩,h⟩
def Gl (X:Cx) (x:Str):Prop:=X.env.kindOf x=some .globalImplicit
theorem mO {E:Value->Shared->Prop} {pins:List (Addr×Obj)} {s:Shared} {σ:St} {H:Hp} {x:Str} {u:Value} {pos:Pos} {Q:Value->Shared->Prop} (I:Inv X pins σ H s) (hg:Gl X x) (hm:X.mg x=some u) (h:Q u s)
  (hd:(x == ("__debug__":Str))=false:=by decide):wpAny (model X.prog X.w) X.A (eval (.Name x pos) X.env) Q E s :=
 Calls.Name_function_global I.ok.kind hg (Calls.loadGlobal_global (by rw[I.ok.glob];exact I.mod.glob.keeps I.bk) hm h) hd
theorem ij {E:Value->Shared->Prop} {pins:List (Addr×Obj)} {s:Shared} {σ:St} {H:Hp} {x:Str} {u:Value} {pos:Pos} {Q:Value->Shared->Prop} (I:Inv X pins σ H s) (hg:Gl X x) (hm:X.mg x=none) (hv:bootBuiltins x=some u) (h:Q u s)
  (hn:x≠"__name__":=by decide) (hd:(x == ("__debug__":Str))=false:=by decide):wpAny (model X.prog X.w) X.A (eval (.Name x pos) X.env) Q E s:=by
 obtain ⟨mb,h1,h2⟩:=I.mod.blt;exact Calls.Name_function_global I.ok.kind hg (Calls.loadGlobal_builtin (by rw[I.ok.glob];exact I.mod.glob.keeps I.bk) hm (by rw[I.ok.blt];exact h1.keeps I.bk) ((h2 x hn).trans hv) h) hd
theorem oE {x:Str} {v:V} {u:Value} {pos:Pos} (hg:Gl X x) (hm:X.mg x=some u) (r:RelV v u) (hd:(x == ("__debug__":Str))=false:=by decide):PE X (.Name x pos) (tC v) :=
 λ_ _ _ H _ I h=>mO I hg hm ⟨v,H,I,r,h⟩ hd
theorem Ac {x:Str} {v:V} {u:Value} {pos:Pos} (hg:Gl X x) (hm:X.mg x=none) (hv:bootBuiltins x=some u) (r:RelV v u) (hn:x≠"__name__":=by decide) (hd:(x == ("__debug__":Str))=false:=by decide):PE X (.Name x pos) (tC v) :=
 λ_ _ _ H _ I h=>ij I hg hm hv ⟨v,H,I,r,h⟩ hn hd
variable {a b:Expr} {ta tb:TE} {pos:Pos}
def tB (t:TE):TT:=λσ H Q=>t σ H λx H1=>∃c,x=.bl c/\Q c H1
theorem oa {e:Expr} {t:TE} (h:PE X e t) (he:∀whole,isTrue e X.env whole=(do let v <- whole;standAt e.pos;holding [v] (truthy v)):=by intro _;rfl):PT X e (tB t):=by
 intro pins s σ H Q I hw;refine isTrue_plain (eI (h pins s σ H _ I hw) λv s1 ⟨x,H1,I1,r1,q1⟩=>?_) (he _);obtain ⟨d,rfl,q⟩:=q1;cases r1;exact wpAny_truthy_bool ⟨H1,I1,q⟩
variable {tA tB':TT} {rest:List Expr}
def Iz (t u:TT):TT:=λσ H Q=>t σ H λc H1=>if c=true then u σ H1 Q else Q false H1
def tOr (t u:TT):TT:=λσ H Q=>t σ H λc H1=>if c=true then Q true H1 else u σ H1 Q
def Iu (t:TT):TT:=λσ H Q=>t σ H λc H1=>Q (!c) H1
theorem fR (ha:PT X a tA):PW X (.BoolOp .And [a] pos) tA:=by
 intro wh pins s σ H Q I h;refine isTrue_and (eI (ha pins s σ H Q I h) λc s1 e=>?_);cases c with
 | true=>exact isTrue_and_nil e
 | false=>exact e
theorem kH (ha:PT X a tA):PW X (.BoolOp .Or [a] pos) tA:=by
 intro wh pins s σ H Q I h;refine isTrue_or (eI (ha pins s σ H Q I h) λc s1 e=>?_);cases c with
 | false=>exact isTrue_or_nil e
 | true=>exact e
theorem eU (ha:PT X a tA) (hb:PW X (.BoolOp .And (b :: rest) pos) tB'):PW X (.BoolOp .And (a :: b :: rest) pos) (Iz tA tB'):=by
 intro wh pins s σ H Q I h;refine isTrue_and (eI (ha pins s σ H _ I h) λc s1 ⟨H1,I1,q1⟩=>?_);cases c with
 | true=>exact hb wh pins s1 σ H1 Q I1 q1
 | false=>exact ⟨H1,I1,q1⟩
theorem oC (ha:PT X a tA) (hb:PW X (.BoolOp .Or (b :: rest) pos) tB'):PW X (.BoolOp .Or (a :: b :: rest) pos) (tOr tA tB'):=by
 intro wh pins s σ H Q I h;refine isTrue_or (eI (ha pins s σ H _ I h) λc s1 ⟨H1,I1,q1⟩=>?_);cases c with
 | true=>exact ⟨H1,I1,q1⟩
 | false=>exact hb wh pins s1 σ H1 Q I1 q1
theorem og (ha:PT X a tA):PT X (.UnaryOp .Not a pos) (Iu tA):=by
 intro pins s σ H Q I h;exact isTrue_not (ha pins s σ H (λc H1=>Q (!c) H1) I h)
def Fq (ta tb:TE):TE:=λσ H Q=>ta σ H λx H1=>∃c,x=.bl c/\if c=true then tb σ H1 Q else Q (.bl false) H1
def Fk (ta:TE):TE:=λσ H Q=>ta σ H λx H1=>∃c,x=.bl c/\Q (.bl (!c)) H1
theorem zf (h:PE X a t):PE X (.BoolOp op [a] pos) t:=λpins s σ H Q I hw=>BoolOp_one (h pins s σ H Q I hw)
theorem zh (ha:PE X a ta) (hb:PE X (.BoolOp .And (b :: rest) pos) tb):PE X (.BoolOp .And (a :: b :: rest) pos) (Fq ta tb):=by
 intro pins s σ H Q I h;refine BoolOp_and (eI (ha pins s σ H _ I h) λv s1 ⟨x,H1,I1,r1,q1⟩=>?_);obtain ⟨c,rfl,q1⟩:=q1;cases r1;refine wpAny_truthy_bool ?_;cases c with
 | true=>exact hb pins s1 σ H1 Q I1 q1
 | false=>exact ⟨.bl false,H1,I1,rfl,q1⟩
theorem GO (ha:PE X a ta):PE X (.UnaryOp .Not a pos) (Fk ta):=by
 intro pins s σ H Q I h;refine UnaryOp_ (eI (ha pins s σ H _ I h) λv s1 ⟨x,H1,I1,r1,q1⟩=>?_);obtain ⟨c,rfl,q1⟩:=q1;cases r1;exact not_of (wpAny_truthy_bool ⟨.bl (!c),H1,I1,rfl,q1⟩)
end
def bB (K:FG9) (H:Hp) (a:Addr) (xs:List V):Prop :=
 Rd H a (.lst xs) \/
  ∃(o:Obj) (its:Array Value) (n:Nat),K.lookup a=some o/\o.cls=.type "list"/\o.dict=none/\o.data=.seq its n/\its.size<=sizeLine/\bV xs its.toList
def iP (K:FG9) (H:Hp) (a:Addr) (xs:List V):Prop :=
 Rd H a (.tup xs) \/
  ∃(o:Obj) (its:Array Value) (n:Nat),K.lookup a=some o/\o.cls=.type "tuple"/\o.data=.seq its n/\its.size<=sizeLine/\bV xs its.toList
def J8:Value->Option V
 | .none=>some .non
 | .bool b=>some (.bl b)
 | .int i _=>some (.int i)
 | .str x _=>some (.str x)
 | .bytes b _=>some (.byt b)
 | .float b _=>some (.flt b)
 | .ref a=>some (.ref a)
 | .type n=>some (.ty n)
 | _=>none
theorem RelV.abs (r:RelV x u):J8 u=some x:=by
 cases x with
 | non=>cases r;rfl
 | bl _=>cases r;rfl
 | int _=>obtain ⟨t,rfl⟩:=r;rfl
 | str _=>obtain ⟨t,rfl⟩:=r;rfl
 | byt _=>obtain ⟨t,rfl⟩:=r;rfl
 | flt _=>obtain ⟨t,rfl⟩:=r;rfl
 | ref _=>cases r;rfl
 | ty _=>cases r;rfl
theorem RelV.inj (r:RelV x u) (q:RelV y u):x=y:=bR (r.abs.symm.trans q.abs)
theorem bV.inj:∀{xs ys:List V} {us:List Value},bV xs us->bV ys us->xs=ys
 | _,_,_,.nil,.nil=>rfl
 | _,_,_,.cons r t,.cons r' t'=>by rw[r.inj r',bV.inj t t']
section
variable {X:Cx} {pins:List (Addr×Obj)} {σ:St} {H:Hp} {s:Shared} {a:Addr} {xs ys:List V}
theorem bB.of {K:FG9} (h:H a=some (.lst xs)):bB K H a xs:=.inl (.inl h)
theorem iP.of {K:FG9} (h:H a=some (.tup xs)):iP K H a xs:=.inl (.inl h)
theorem Inv.list (I:Inv X pins σ H s) (h:bB X.K H a xs):∃its:List Value,bV xs its/\PlainL s.heap a its.toArray/\xs.length<=sizeLine:=by
 rcases h with h | ⟨o,its,n,hk,hc,hd,hs,hz,r⟩
 ·obtain ⟨z,its,n,r,e⟩:=h.ok I.hok;exact ⟨its,r,⟨_,n,e,rfl,rfl,rfl⟩,z⟩
 ·refine ⟨its.toList,r,⟨o,n,I.kIn a o hk,hc,hd,by simpa using hs⟩,?_⟩;have e:=r.length;simp only[Array.length_toList] at e
  lia
theorem Inv.tuple (I:Inv X pins σ H s) (h:iP X.K H a xs):∃its:List Value,bV xs its/\IsTup s.heap a its.toArray/\xs.length<=sizeLine:=by
 rcases h with h | ⟨o,its,n,hk,hc,hs,hz,r⟩
 ·obtain ⟨z,its,r,p⟩:=h.ok I.hok;exact ⟨its,r,p,z⟩
 ·refine ⟨its.toList,r,⟨o,I.kIn a o hk,hc,n,by simpa using hs⟩,?_⟩;have e:=r.length;simp only[Array.length_toList] at e
  lia
theorem Inv.list_inj (I:Inv X pins σ H s) (h:bB X.K H a xs) (h':bB X.K H a ys):xs=ys:=by
 obtain ⟨its,r,⟨o,n,e,_,_,d⟩,_⟩:=I.list h;obtain ⟨its',r',⟨o',n',e',_,_,d'⟩,_⟩:=I.list h';rw[e] at e';cases e';rw[d] at d';injection d' with d1 _
 have:its=its':=by simpa using congrArg Array.toList d1
 subst this;exact r.inj r'
theorem Inv.tuple_inj (I:Inv X pins σ H s) (h:iP X.K H a xs) (h':iP X.K H a ys):xs=ys:=by
 obtain ⟨its,r,⟨o,e,_,n,d⟩,_⟩:=I.tuple h;obtain ⟨its',r',⟨o',e',_,n',d'⟩,_⟩:=I.tuple h';rw[e] at e';cases e';rw[d] at d';injection d' with d1 _
 have:its=its':=by simpa using congrArg Array.toList d1
 subst this;exact r.inj r'
end
abbrev Cx.wish (X:Cx) (E:Value->Shared->Prop):Cx:={ X with xe:=E }
abbrev Cx.nox (X:Cx):Cx:=X.wish λ_ _=>False
theorem Cx.Ok.wish {X:Cx} (ok:X.Ok) (E:Value->Shared->Prop):(X.wish E).Ok :=
 ⟨ok.mod,ok.kind,ok.glob,ok.blt,ok.above,ok.inj,ok.has,ok.cab,ok.hd,ok.frames,ok.stk,ok.exf,ok.bs,ok.bsz,ok.noex,ok.exfs,ok.funs,ok.frf⟩
theorem Cx.Ok.unwish {X:Cx} (ok:(X.wish E).Ok):X.Ok :=
 ⟨ok.mod,ok.kind,ok.glob,ok.blt,ok.above,ok.inj,ok.has,ok.cab,ok.hd,ok.frames,ok.stk,ok.exf,ok.bs,ok.bsz,ok.noex,ok.exfs,ok.funs,ok.frf⟩
section
variable {X:Cx} {pins:List (Addr×Obj)} {σ:St} {H:Hp} {s:Shared} {E:Value->Shared->Prop}
theorem Inv.wish (I:Inv X pins σ H s) (E:Value->Shared->Prop):Inv (X.wish E) pins σ H s:=⟨I.ok.wish E,I.os,I.bare,I.base,I.loc,I.cell,I.free,I.freeC,I.pin,I.hok,I.len⟩
theorem Inv.unwish (I:Inv (X.wish E) pins σ H s):Inv X pins σ H s:=⟨I.ok.unwish,I.os,I.bare,I.base,I.loc,I.cell,I.free,I.freeC,I.pin,I.hok,I.len⟩
theorem SP.unwish (h:SP (X.wish E) pins D f s'):SP X pins D f s':=by
 cases f with
 | next=>obtain ⟨σ',H',I,q⟩:=h;exact ⟨σ',H',I.unwish,q⟩
 | brk=>obtain ⟨σ',H',I,q⟩:=h;exact ⟨σ',H',I.unwish,q⟩
 | cont=>obtain ⟨σ',H',I,q⟩:=h;exact ⟨σ',H',I.unwish,q⟩
 | ret u=>obtain ⟨v,σ',H',I,r,q⟩:=h;exact ⟨v,σ',H',I.unwish,r,q⟩
theorem xv.nox {st:List Stmt} (h:xv X.nox st t):xv X st t:=λpins s σ H D I hw =>
 wpAny_mono (h pins s σ H D (I.wish _) hw) (λ_ _ q=>q.unwish) λ_ _ z=>False.elim z
end
section
variable {X:Cx} {st:Stmt} {rest:List Stmt} {t u:TS} {e:Expr} {te:TE} {pos:Pos}
def Fl:TS:=λD σ H=>D.nx σ H
def Io (t u:TS):TS:=λD σ H=>t { D with nx:=u D } σ H
theorem bH:xv X [] Fl:=λ_ _ σ H _ I h=>wpAny_execs_nil ⟨σ,H,I,h⟩
theorem ai (h1:PS X st t) (h2:xv X rest u):xv X (st :: rest) (Io t u):=by
 intro pins s σ H D I h;refine wpAny_execs_cons (eI (h1 pins s σ H { D with nx:=u D } I h) λf s1 q=>?_);cases f with
 | next =>
  obtain ⟨σ',H',I',q⟩:=q;exact h2 pins s1 σ' H' D I' q
 | ret v=>exact q
 | brk=>exact q
 | cont=>exact q
theorem ax (h1:PS X st t):xv X [st] t:=by
 intro pins s σ H D I h;refine wpAny_execs_cons (eI (h1 pins s σ H D I h) λf s1 q=>?_);cases f with
 | next=>exact wpAny_execs_nil q
 | ret v=>exact q
 | brk=>exact q
 | cont=>exact q
theorem Inv.quiet {σ:St} (I:Inv X pins σ H s):interactive X.env=false:=by simp [interactive,I.ok.kind]
def Fo (te:TE):TS:=λD σ H=>te σ H λ_ H1=>D.nx σ H1
theorem fU (he:PE X e te) (hs:swapsWith e none pos.line X.env=pure false:=by rfl):PS X (.Expr e pos) (Fo te):=by
 intro pins s σ H D I h;exact wpAny_Expr_any (eI (he pins s σ H _ I h) λv s1 ⟨x,H1,I1,r1,q1⟩=>⟨σ,H1,I1,q1⟩) I.quiet hs
def Ip (te:TE):TS:=λD σ H=>te σ H D.rt
theorem be (he:PE X e te):PS X (.Return (some e) pos) (Ip te):=by
 intro pins s σ H D I h;exact wpAny_Return_some (eI (he pins s σ H _ I h) λv s1 ⟨x,H1,I1,r1,q1⟩=>⟨x,σ,H1,I1,r1,q1⟩)
def Iw (c:TT) (t u:TS):TS:=λD σ H=>c σ H λb H1=>if b=true then t D σ H1 else u D σ H1
theorem cG (hc:PT X c tc) (ha:xv X a t) (hb:xv X b u):PS X (.If c a b pos) (Iw tc t u):=by
 intro pins s σ H D I h;refine wpAny_If (eI (hc pins s σ H _ I h) λd s1 ⟨H1,I1,q1⟩=>?_);cases d with
 | true=>exact ha pins s1 σ H1 D I1 q1
 | false=>exact hb pins s1 σ H1 D I1 q1
end
abbrev TG:=V->St->Hp->(St->Hp->Prop)->Prop
abbrev By:=List V->St->Hp->(St->Hp->Prop)->Prop
def PG (X:Cx) (target:Expr) (t:TG):Prop :=
 ∀(pins:List (Addr×Obj)) (s:Shared) (σ:St) (H:Hp) (v:V) (u:Value) (Q:St->Hp->Prop),Inv X pins σ H s->RelV v u->t v σ H Q →
  wpAny (model X.prog X.w) X.A (assign target X.env u) (λ_ s'=>∃σ' H',Inv X pins σ' H' s'/\Q σ' H') X.xe s
def Ia (X:Cx) (ts:List Expr) (t:By):Prop :=
 ∀(pins:List (Addr×Obj)) (s:Shared) (σ:St) (H:Hp) (vs:List V) (us:List Value) (Q:St->Hp->Prop),Inv X pins σ H s->bV vs us->t vs σ H Q →
  wpAny (model X.prog X.w) X.A (assignInOrder ((assignEach ts X.env).map (·.2)) us) (λ_ s'=>∃σ' H',Inv X pins σ' H' s'/\Q σ' H') X.xe s
abbrev zM:=V->V->V->Hp->(Hp->Prop)->Prop
def HP (X:Cx) (t:zM):Prop :=
 ∀(pins:List (Addr×Obj)) (s:Shared) (σ:St) (H:Hp) (o i v:V) (ov iv u:Value) (Q:Hp->Prop),Inv X pins σ H s->RelV o ov->RelV i iv->RelV v u->t o i v H Q →
  wpAny (model X.prog X.w) X.A (setItem ov iv u) (λ_ s'=>∃H',Inv X pins σ H' s'/\Q H') X.xe s
abbrev Jt:=V->V->Hp->VK->Prop
def PIp (X:Cx) (op:Operator) (t:Jt):Prop :=
 ∀(pins:List (Addr×Obj)) (s:Shared) (σ:St) (H:Hp) (x y:V) (v u:Value) (Q:VK),Inv X pins σ H s->RelV x v->RelV y u->t x y H Q →
  wpAny (model X.prog X.w) X.A (inplaceOp op v u) (EP X pins σ Q) X.xe s
section
variable {X:Cx} {pos:Pos}
def Aj (i:Nat):TG:=λv σ H Q=>Q (σ.set i (some v)) H
theorem aK {i:Nat} {x:Str} (hN:X.N.Nodup) (hi:X.N[i]?=some x:=by exact rfl) (hx:Loc X.env.scope x:=by exact Or.inl rfl) (hf:X.fn x=true\/X.env.scope.names.lookup x=some .local:=by first | exact .inl rfl | exact .inr rfl | assumption):PG X (.Name x pos) (Aj i):=by
 intro pins s σ H v u Q I r h;exact wpAny_assign_Name (lO I hN hi hx r (λs' I'=>⟨_,H,I',h⟩) hf)
def Jj:By:=λvs σ H Q=>vs=[]/\Q σ H
def FE (t:TG) (u:By):By:=λvs σ H Q=>∃v r,vs=v :: r/\t v σ H λσ' H'=>u r σ' H' Q
theorem iU:Ia X [] Jj:=by
 intro pins s σ H vs us Q I r h;obtain ⟨e,h⟩:=h;subst e;cases r;exact assignInOrder_nil ⟨σ,H,I,h⟩
theorem ck {e:Expr} {es:List Expr} {t:TG} {u:By} (h1:PG X e t) (h2:Ia X es u)
  (hs:(assignEach (e :: es) X.env).map (·.2)=assign e X.env :: (assignEach es X.env).map (·.2):=by rfl):Ia X (e :: es) (FE t u):=by
 intro pins s σ H vs us Q I r h;obtain ⟨v,vr,e1,h⟩:=h;subst e1;cases r with
 | cons r rr =>
  rw[hs];refine assignInOrder_cons (eI (h1 pins s σ H _ _ _ I r h) λ_ s1 ⟨σ1,H1,I1,q1⟩=>?_);exact h2 pins s1 σ1 H1 _ _ Q I1 rr q1
def Hv (K:FG9) (n:Nat) (t:By):TG:=λv σ H Q=>∃a xs,v=.ref a/\iP K H a xs/\xs.length=n/\t xs σ H Q
theorem p6 {es:List Expr} {k:Nat} {t:By} {n:Nat} (hc:X.calm=true) (h:Ia X es t)
  (hn:(assignEach es X.env).length=n:=by rfl) (hst:(assignEach es X.env).findIdx? (·.1)=none:=by rfl):PG X (.Tuple es k pos) (Hv X.K n t):=by
 intro pins s σ H v u Q I r hw;obtain ⟨a,xs,e1,hq,hl,hw⟩:=hw;subst e1;cases r;obtain ⟨its,rv,ht,hz⟩:=I.tuple hq;refine assign_Tuple_tuple (I.ok.hd hc) ht (by simp [hn,<- hl,rv.length]) hst λh' hx=>?_
 have I1:Inv X pins σ H { s with heap:=h' }:=I.kept (t':=s.toks) λb o e=>hx b o (bw (Heap.lt_size e)) e
 exact h pins _ σ H xs _ Q I1 (by simpa using rv) hw
def Ji (to ti:TE) (t:zM):TG:=λv σ H Q=>to σ H λo H1=>ti σ H1 λi H2=>t o i v H2 λH3=>Q σ H3
theorem eV {o i : Expr} {to ti : TE} {t : zM} (ho : PE X o to) (hi : PE X i ti) (hs : HP X t)
    (ha : ∀ v, assign (.Subscript o i pos) X.env v = (do
      let ov <- holding [v] (eval o X.env)
      let iv <- holding [v, ov] (eval i X.env)
      standAt pos
      holding [v, ov, iv] (setItem ov iv v)
      release [v, ov, iv] []) := by intro _; rfl) : PG X (.Subscript o i pos) (Ji to ti t) := by
  intro pins s σ H v u Q I r h;rw [ha];refine wpAny_bind (wpAny_holding (eI (ho pins s σ H _ I h) λov s1 ⟨x, H1, I1, r1, q1⟩ => ?_));refine wpAny_bind (wpAny_holding (eI (hi pins s1 σ H1 _ I1 q1) λiv s2 ⟨y, H2, I2, r2, q2⟩ => ?_));refine wpAny_bind (wpAny_standAt (wpAny_bind (wpAny_holding (eI (hs pins s2 σ H2 x y v ov iv u _ I2 r1 r2 r q2) λ_ s3 ⟨H3, I3, q3⟩ => ?_))));exact wpAny_release ⟨σ, H3, I3, q3⟩
def D5 (te:TE) (g:TG):TS:=λD σ H=>te σ H λx H1=>g x σ H1 D.nx
theorem dJ {tg e:Expr} {te:TE} {g:TG} (he:PE X e te) (hg:PG X tg g) (hs:swapsWithSole [tg] e pos.line X.env=pure false:=by rfl) (hw:swappedStores [tg] e X.env=pure none:=by rfl)
  (h1:(assignEach [tg] X.env).map (·.2)=[assign tg X.env]:=by rfl):PS X (.Assign [tg] e pos) (D5 te g):=by
 intro pins s σ H D I h;refine wpAny_Assign_stores (eI (he pins s σ H _ I h) λv s1 ⟨x,H1,I1,r1,q1⟩=>?_) hs hw;rw[h1];exact eI (hg pins s1 σ H1 x v _ I1 r1 q1) λ_ s2 q=>q
theorem aV {i:Nat} {x:Str} {e:Expr} {te:TE} {pos':Pos} (hN:X.N.Nodup) (hi:X.N[i]?=some x) (hx:Loc X.env.scope x) (he:PE X e te) (hs:swapsWith e (some (.Name x pos')) pos.line X.env=pure false:=by rfl) (hf:X.fn x=true\/X.env.scope.names.lookup x=some .local:=by first | exact .inl rfl | exact .inr rfl | assumption) :
  PS X (.Assign [.Name x pos'] e pos) (D5 te (Aj i)):=by
 intro pins s σ H D I h;refine wpAny_Assign_Name (eI (he pins s σ H _ I h) λv s1 ⟨y,H1,I1,r1,q1⟩=>?_) hs;exact lO I1 hN hi hx r1 (λs2 I2=>⟨_,H1,I2,q1⟩) hf
def Iq (i j:Nat) (ta:TA):TS:=λD σ H=>ta σ H λvs H1=>∃v w,vs=[v,w]/\D.nx ((σ.set i (some v)).set j (some w)) H1
theorem CJ {i j:Nat} {x y:Str} {a b:Expr} {ta:TA} {px py pt:Pos} {kt k2 pt2} (hc:X.calm=true) (hN:X.N.Nodup) (hi:X.N[i]?=some x) (hj:X.N[j]?=some y) (hij:i≠j)
  (hx:X.env.scope.names.lookup x=some .local) (hy:X.env.scope.names.lookup y=some .local) (ha:PA X [a,b] ta)
  (hw:swappedStores [.Tuple [.Name x px,.Name y py] kt pt] (.Tuple [a,b] k2 pt2) X.env=pure (some [x,y]))
  (hs:swapsWithSole [.Tuple [.Name x px,.Name y py] kt pt] (.Tuple [a,b] k2 pt2) pos.line X.env=pure false:=by rfl) :
  PS X (.Assign [.Tuple [.Name x px,.Name y py] kt pt] (.Tuple [a,b] k2 pt2) pos) (Iq i j ta):=by
 intro pins s σ H D I h;rw[exec_Assign_arm];refine wpAny_bind (wpAny_standAt ?_);rw[hs];refine wpAny_bind (wpAny_pure ?_);rw[if_neg (by decide)];refine wpAny_bind (Tuple_ (eI (ha _ pins s σ H _ I h) λus s1 ⟨vs,H1,I1,r1,q1⟩=>?_));obtain ⟨v,w,e1,q1⟩:=q1;subst e1
 obtain ⟨u1,u2,rfl,rv,rw'⟩:∃u1 u2,us=[u1,u2]/\RelV v u1/\RelV w u2:=by
  cases r1 with
  | cons p q =>
   cases q with
   | cons p' q' =>
    cases q';exact ⟨_,_,rfl,p,p'⟩
 refine wpAny_newObj_type ?_ (by show 2<=sizeLine;decide);have I2:Inv X pins σ H1 { s1 with heap:=s1.heap.push { cls:=.type "tuple",data:=.seq [u1,u2].toArray } }:=I1.kept (t':=s1.toks) λb o e=>Heap.get?_push_of_some _ e
 rw[hw];refine wpAny_bind (wpAny_pure ?_);show wpAny (model X.prog X.w) X.A (do rule "assign.swapped-stores";let items <- unpackItems (.ref s1.heap.objs.size) 2 none;assignInOrder [λv=>bindName X.env y v,λv=>bindName X.env x v] items.reverse;pure Flow.next) _ _ _
 refine wpAny_bind (wpAny_rule (wpAny_bind (unpackItems_tuple (items:=#[u1,u2]) (I.ok.hd hc) (IsTup.new s1.heap _) λh' hx'=>?_)));have I3:=I2.kept (h':=h') (t':=s1.toks) λb o e=>hx' b o (bw (Heap.lt_size e)) e
 show wpAny _ _ (assignInOrder [λv=>bindName X.env y v,λv=>bindName X.env x v] [u2,u1] >>= λ_=>pure Flow.next) _ _ _
 refine wpAny_bind (assignInOrder_cons (wpAny_bindName (lO I3 hN hj (.inl hy) rw' (λs2 I4=>?_) (.inr hy))));refine assignInOrder_cons (wpAny_bindName (lO I4 hN hi (.inl hx) rv (λs3 I5=>assignInOrder_nil (wpAny_pure ?_)) (.inr hx)));rw[List.set_comm _ _ (Ne.symm hij)] at I5;exact ⟨_,H1,I5,q1⟩
def Fp (to ti te:TE) (tget:V->V->Hp->VK->Prop) (tip:Jt) (tset:zM):TS:=λD σ H=>to σ H λo H1=>ti σ H1 λi H2=>tget o i H2 λx H3=>te σ H3 λy H4=>tip x y H4 λz H5=>tset o i z H5 λH6=>D.nx σ H6
def Ju (X:Cx) (t:V->V->Hp->VK->Prop):Prop :=
 ∀(pins:List (Addr×Obj)) (s:Shared) (σ:St) (H:Hp) (o i:V) (ov iv:Value) (Q:VK),Inv X pins σ H s->RelV o ov->RelV i iv->t o i H Q →
  wpAny (model X.prog X.w) X.A (getItem ov iv) (EP X pins σ Q) X.xe s
theorem EB {o i e:Expr} {to ti te:TE} {tget:V->V->Hp->VK->Prop} {tip:Jt} {tset:zM} {op:Operator} {tpos:Pos} (ho:PE X o to) (hi:PE X i ti) (hg:Ju X tget) (he:PE X e te) (hp:PIp X op tip) (hs:HP X tset)
  (ha:∀ov iv new,augStore i ov iv new=(do holding [new,ov,iv] (setItem ov iv new);release [new,ov,iv] [];pure .next):=by intros;rfl):PS X (.AugAssign (.Subscript o i tpos) op e pos) (Fp to ti te tget tip tset):=by
 intro pins s σ H D I h;refine wpAny_AugAssign_SubscriptAny (eI (ho pins s σ H _ I h) λov s1 ⟨x1,H1,I1,r1,q1⟩=>?_) ha;refine eI (hi pins s1 σ H1 _ I1 q1) λiv s2 ⟨x2,H2,I2,r2,q2⟩=>?_
 refine eI (hg pins s2 σ H2 x1 x2 ov iv _ I2 r1 r2 q2) λold s3 ⟨x3,H3,I3,r3,q3⟩=>?_
 refine eI (he pins s3 σ H3 _ I3 q3) λv s4 ⟨x4,H4,I4,r4,q4⟩=>?_
 refine eI (hp pins s4 σ H4 x3 x4 old v _ I4 r3 r4 q4) λnew s5 ⟨x5,H5,I5,r5,q5⟩=>?_
 exact eI (hs pins s5 σ H5 x1 x2 x5 ov iv new _ I5 r1 r2 r5 q5) λ_ s6 ⟨H6,I6,q6⟩=>⟨σ,H6,I6,q6⟩
def ipI (f:Int->Int->Int):Jt:=λx y H Q=>∃i j,x=.int i/\y=.int j/\Q (.int (f i j)) H
theorem Ht:PIp X .Add (ipI λi j=>i+j):=by
 intro pins s σ H x y v u Q I r1 r2 h;obtain ⟨i,j,e1,e2,q⟩:=h;subst e1;subst e2;obtain ⟨t,rfl⟩:=r1;obtain ⟨t',rfl⟩:=r2;exact iadd_int ⟨.int _,H,I.tok _,⟨_,rfl⟩,q⟩
end
section
variable {X:Cx} {pos:Pos}
def BO (c:TT) (tb:TS):TS:=λD σ H=>∃W:Nat->St->Hp->Prop,(∃m,W m σ H)/\∀m σ H,W m σ H →
 c σ H λb H1=>if b=true then ∃N:St->Hp->Prop,(∀σ' H',N σ' H'->∃m',m' < m/\W m' σ' H')/\tb { D with nx:=N,ct:=N,bk:=D.nx } σ H1 else D.nx σ H1
theorem xX (hp:PassesOwn (model X.prog X.w) X.A X.env X.xe) (hc:PT X c tc) (hb:xv X body tb):PS X (.While c body [] pos) (BO tc tb):=by
 intro pins s σ H D I h;obtain ⟨W,⟨m0,w0⟩,turn⟩:=h;refine wpAny_While (codeAny_whileLoop (λn s'=>∃σ' H',Inv X pins σ' H' s'/\W n σ' H') ?_ m0 ⟨σ,H,I,w0⟩);rintro n s1 ⟨σ1,H1,I1,w1⟩;refine wpAny_passesOwn hp (eI (hc pins s1 σ1 H1 _ I1 (turn n σ1 H1 w1)) λb s2 ⟨H2,I2,q2⟩=>?_);cases b with
 | true =>
  obtain ⟨N,hN,q2⟩:=q2;rw[if_pos rfl];refine wpAny_passesOwn hp (eI (hb pins s2 σ1 H2 _ I2 q2) λf s3 q3=>?_);cases f with
  | next =>
   obtain ⟨σ3,H3,I3,n3⟩:=q3;obtain ⟨m',hm,w3⟩:=hN σ3 H3 n3;exact ⟨m',hm,σ3,H3,I3,w3⟩
  | cont =>
   obtain ⟨σ3,H3,I3,n3⟩:=q3;obtain ⟨m',hm,w3⟩:=hN σ3 H3 n3;exact ⟨m',hm,σ3,H3,I3,w3⟩
  | brk=>exact q3
  | ret v=>exact q3
 | false =>
  rw[if_neg aM];exact wpAny_execs_nil ⟨σ1,H2,I2,q2⟩
end
structure It where
 go:Nat->Hp->Prop
 yld:Nat->Hp->V->Hp->Prop
 stop:Nat->Hp->Prop
def ip (X:Cx) (pins:List (Addr×Obj)) (H:Hp) (b:Addr):Prop :=
 H b=none/\b≠X.env.locals/\b∉X.fs/\(b∈X.ex\/X.s₀.heap.objs.size<=b)/\(∀x c,X.env.cells.lookup x=some c->c≠b)/\∀p∈X.pn++pins,p.1≠b
theorem Inv.fpOk {σ:St} {b:Addr} (I:Inv X pins σ H s) (hb:s.heap.objs.size<=b) (hn:H' b=none):ip X pins H' b:=by
 refine ⟨hn,fV (aW I.lt hb),I.nofs hb,.inr (ak I.sz hb),λx c e z=>?_,λp hp z=>?_⟩
 ·obtain ⟨v,q⟩:=I.cell x c e;exact absurd (aW q.lt (by rw[z];exact hb)) (dF _)
 ·exact absurd (aW (Heap.lt_size (I.pin p hp).1) (by rw[z];exact hb)) (dF _)
structure Turn (P:Program) (w:World) (K:FG9) (tg:Expr) (J:It) (fp:List Addr) (it:Addr) (tn:Nat->Heap->Prop):Prop where
 mem:it∈fp
 obj:∀i h,tn i h->∀b∈fp,∃o,h.get? b=some o/\∀v,o.data≠.cell v
 keep:∀i h h',tn i h->(∀b∈fp,∀o,h.get? b=some o->h'.get? b=some o)->tn i h'
 item:∀(X:Cx),X.prog=P->X.w=w->X.K=K->X.calm=true->∀(i:Nat) (pins:List (Addr×Obj)) (s:Shared) (σ:St) (H:Hp) (E:Value->Shared->Prop),Inv X pins σ H s->(∀b∈fp,ip X pins H b)->tn i s.heap->J.go i H →
  wpAny (model P w) X.A (pyNext (.ref it)) (λr s1=>∃u,r=some u /\
   wpAny (model P w) X.A (letOwnedTupleGo tg (.ref it) u) (λ_ s2=>∃x H',Inv X pins σ H' s2/\RelV x u/\J.yld i H x H'/\tn (i+1) s2.heap/\∀b∈fp,H' b=none) E s1) E s
 done:∀(X:Cx),X.prog=P->X.w=w->X.K=K->X.calm=true->∀(i:Nat) (pins:List (Addr×Obj)) (s:Shared) (σ:St) (H:Hp) (E:Value->Shared->Prop),Inv X pins σ H s->(∀b∈fp,ip X pins H b)->tn i s.heap->J.stop i H →
  wpAny (model P w) X.A (pyNext (.ref it)) (λr s1=>r=none/\Inv X pins σ H s1) E s
 self:∀(A:Around) (i:Nat) (s:Shared) (Q:Value->Shared->Prop) (E:Value->Shared->Prop),tn i s.heap->Q (.ref it) s->wpAny (model P w) A (pyIter (.ref it)) Q E s
abbrev TI:=St->Hp->(It->Hp->Prop)->Prop
def PIE (X:Cx) (pins:List (Addr×Obj)) (σ:St) (tg:Expr) (R:It->Hp->Prop) (itv:Value) (s2:Shared):Prop :=
 ∃(it:Addr) (fp:List Addr) (tn:Nat->Heap->Prop) (J:It) (H':Hp),itv=.ref it/\Inv X pins σ H' s2/\Turn X.prog X.w X.K tg J fp it tn/\tn 0 s2.heap/\(∀b∈fp,ip X pins H' b)/\R J H'
def PI (X:Cx) (tg iter:Expr) (wi:TI):Prop :=
 ∀(pins:List (Addr×Obj)) (s:Shared) (σ:St) (H:Hp) (R:It->Hp->Prop),Inv X pins σ H s->wi σ H R →
  wpAny (model X.prog X.w) X.A (eval iter X.env) (λv s1=>wpAny (model X.prog X.w) X.A (pyIter v) (PIE X pins σ tg R) X.xe s1) X.xe s
theorem Dg (ho:s.heap.get? it=some o) (hc:o.cls=.type n) (hd:o.data=.fields vs)
  (hn:["enumerate","zip","dict_itemiterator","dict_reverseitemiterator","odict_iterator","itertools.zip_longest","itertools.pairwise"].contains n=false) (hQ:Q () s):wpAny M A (letOwnedTupleGo tg (.ref it) u) Q E s:=by
 unfold letOwnedTupleGo
 cases tg <;> first
  | exact wpAny_pure hQ
  | (cases u <;> first | exact wpAny_pure hQ | (refine wpAny_bind (wpAny_load ho ?_);rw[hc,hd];show wpAny M A (if (["enumerate","zip","dict_itemiterator","dict_reverseitemiterator","odict_iterator","itertools.zip_longest","itertools.pairwise"].contains n && vs[0]? == some (rawInt _))=true then _ else _) Q E s;rw[if_neg (by intro h;rw[hn,Bool.false_and] at h;cases h)];exact wpAny_pure hQ))
def DQ (K:FG9) (a:Addr):It :=
 ⟨λi H=>∃xs x,bB K H a xs/\xs[i]?=some x,λi H x H'=>H'=H/\∀xs,bB K H a xs->xs[i]?=some x,λi H=>∃xs,bB K H a xs/\xs.length<=i⟩
def JL (K:FG9) (a:Addr):It :=
 ⟨λi H=>∃xs x,iP K H a xs/\xs[i]?=some x,λi H x H'=>H'=H/\∀xs,iP K H a xs->xs[i]?=some x,λi H=>∃xs,iP K H a xs/\xs.length<=i⟩
def AD (lo:Int) (n:Nat):It:=⟨λi _=>i < n,λi H x H'=>H'=H/\x=.int (lo+i),λi _=>n<=i⟩
theorem AI {P:Program} {w:World} {K:FG9} {tg:Expr} (a it:Addr):Turn P w K tg (DQ K a) [it] it (λi h=>h.IsListIter it a i) where
 mem:=by simp
 obj:=λi h st b hb=>by
  have e:b=it:=by simpa using hb
  subst e;obtain ⟨o,e,c,d⟩:=st;exact ⟨o,e,λv z=>by rw[d] at z;cases z⟩
 keep:=λi h h' st k=>st.at λo e=>k it (by simp) o e
 item:=by
  intro X hP hw hK hc i pins s σ H E I hf st hg;subst hP hw hK;obtain ⟨xs,x,hq,hx⟩:=hg;obtain ⟨its,rv,p,hz⟩:=I.list hq;obtain ⟨u,hu,ru⟩:=rv.get hx;obtain ⟨f0,f1,f2,f3,f4,f5⟩:=hf it (by simp);refine wpAny_pyNext_list_item st p.isList (x:=u) (by simpa using hu) λh' st' sb=>?_
  have I1:Inv X pins σ H { s with heap:=h' }:=I.turned (t':=s.toks) (λb o hb e=>(sb.2 b hb).trans e) f0 f1 f3 f4 f5;obtain ⟨o,e,c,d⟩:=id st';exact ⟨u,rfl,Dg (s:={ s with heap:=h' }) e c d (by decide) ⟨x,H,I1,ru,⟨rfl,λys hy=>by rw[I.list_inj hy hq];exact hx⟩,st',λb hb=>(hf b hb).1⟩⟩
 done:=by
  intro X hP hw hK hc i pins s σ H E I hf st hg;subst hP hw hK;obtain ⟨xs,hq,hx⟩:=hg;obtain ⟨its,rv,p,hz⟩:=I.list hq;obtain ⟨f0,f1,f2,f3,f4,f5⟩:=hf it (by simp);have hl:=rv.length;exact wpAny_pyNext_list_end (I.ok.hd hc) st p.isList (by simp;lia) λh' eb=>⟨rfl,I.turned (t':=s.toks) (λb o hb e=>eb b o hb e) f0 f1 f3 f4 f5⟩
 self:=λ_ _ _ _ _ st h=>wpAny_pyIter_listiter st h
theorem yQ {P:Program} {w:World} {K:FG9} {tg:Expr} (a it:Addr):Turn P w K tg (JL K a) [it] it (λi h=>h.IsTupleIter it a i) where
 mem:=by simp
 obj:=λi h st b hb=>by
  have e:b=it:=by simpa using hb
  subst e;obtain ⟨o,e,c,d⟩:=st;exact ⟨o,e,λv z=>by rw[d] at z;cases z⟩
 keep:=λi h h' st k=>st.at λo e=>k it (by simp) o e
 item:=by
  intro X hP hw hK hc i pins s σ H E I hf st hg;subst hP hw hK;obtain ⟨xs,x,hq,hx⟩:=hg;obtain ⟨its,rv,p,hz⟩:=I.tuple hq;obtain ⟨u,hu,ru⟩:=rv.get hx;obtain ⟨f0,f1,f2,f3,f4,f5⟩:=hf it (by simp);refine wpAny_pyNext_tuple_item st (show s.heap.IsTuple a its.toArray from p) (x:=u) (by simpa using hu) λh' st' sb=>?_
  have I1:Inv X pins σ H { s with heap:=h' }:=I.turned (t':=s.toks) (λb o hb e=>(sb.2 b hb).trans e) f0 f1 f3 f4 f5;obtain ⟨o,e,c,d⟩:=id st';exact ⟨u,rfl,Dg (s:={ s with heap:=h' }) e c d (by decide) ⟨x,H,I1,ru,⟨rfl,λys hy=>by rw[I.tuple_inj hy hq];exact hx⟩,st',λb hb=>(hf b hb).1⟩⟩
 done:=by
  intro X hP hw hK hc i pins s σ H E I hf st hg;subst hP hw hK;obtain ⟨xs,hq,hx⟩:=hg;obtain ⟨its,rv,p,hz⟩:=I.tuple hq;obtain ⟨f0,f1,f2,f3,f4,f5⟩:=hf it (by simp);have hl:=rv.length;exact wpAny_pyNext_tuple_end (I.ok.hd hc) st (show s.heap.IsTuple a its.toArray from p) (by simp;lia) λh' eb=>⟨rfl,I.turned (t':=s.toks) (λb o hb e=>eb b o hb e) f0 f1 f3 f4 f5⟩
 self:=λ_ _ _ _ _ st h=>wpAny_pyIter_tupleiter st h
theorem yR {P:Program} {w:World} {K:FG9} {tg:Expr} (it:Addr) (lo:Int) (n:Nat):Turn P w K tg (AD lo n) [it] it (λi h=>IsRangeIter h it (lo+(i:Nat)*1) ((n:Int) - (i:Nat)) 1) where
 mem:=by simp
 obj:=λi h st b hb=>by
  have e:b=it:=by simpa using hb
  subst e
  exact ⟨_,st,λv z=>by
   have z':Data.fields _=Data.cell v:=z;cases z'⟩
 keep:=λi h h' st k=>k it (by simp) _ st
 item:=by
  intro X hP hw hK hc i pins s σ H E I hf st hg;subst hP hw hK;obtain ⟨f0,f1,f2,f3,f4,f5⟩:=hf it (by simp);have W:=Walks.range (prog:=X.prog) (w:=X.w) (I.ok.hd hc) it lo 1 n;refine W.item i s _ _ hg st λv h' tk hv st' kk=>?_
  obtain ⟨t,rfl⟩:=hv;have I1:Inv X pins σ H { s with heap:=h',toks:=tk }:=I.turned (λb o hb e=>kk b o (by simpa using hb) e) f0 f1 f3 f4 f5;refine ⟨_,rfl,Dg (s:={ s with heap:=h',toks:=tk }) (n:="range_iterator") st' rfl rfl (by decide) ⟨.int (lo+i),H,I1,⟨t,?_⟩,⟨rfl,rfl⟩,st',λb hb=>(hf b hb).1⟩⟩;rw[Int.mul_one]
 done:=by
  intro X hP hw hK hc i pins s σ H E I hf st hg;subst hP hw hK;obtain ⟨f0,f1,f2,f3,f4,f5⟩:=hf it (by simp);exact wpAny_pyNext_range_end (I.ok.hd hc) st (by have:n<=i:=hg;lia) λh' eb=>⟨rfl,I.turned (t':=s.toks) (λb o hb e=>eb b o hb e) f0 f1 f3 f4 f5⟩
 self:=λ_ _ _ _ _ st h=>wpAny_pyIter_rangeiter st h
section
variable {X:Cx} {tg:Expr}
def Dc (K:FG9) (tl:TE):TI:=λσ H R=>tl σ H λx H1=>∃a,x=.ref a/\(∃xs,bB K H1 a xs)/\R (DQ K a) H1
def Jf (K:FG9) (tl:TE):TI:=λσ H R=>tl σ H λx H1=>∃a,x=.ref a/\(∃xs,iP K H1 a xs)/\R (JL K a) H1
theorem bW (hl:PE X l tl):PI X tg l (Dc X.K tl):=by
 intro pins s σ H R I h;refine eI (hl pins s σ H _ I h) λv s1 ⟨x,H1,I1,r1,q1⟩=>?_
 obtain ⟨a,e,⟨xs,hq⟩,q⟩:=q1;subst e;cases r1;obtain ⟨its,rv,p,hz⟩:=I1.list hq;refine wpAny_pyIter_list p.isList ?_;refine ⟨s1.heap.objs.size,[s1.heap.objs.size],_,_,H1,rfl,I1.kept (t':=s1.toks) λb o e=>Heap.get?_push_of_some _ e,AI a _,⟨_,Heap.get?_push_size _ rfl,rfl,rfl⟩,λb hb=>?_,q⟩;have e:b=s1.heap.objs.size:=by simpa using hb
 subst e;exact I1.fpOk (ay _) (I1.hok.fresh (ay _))
theorem ze (hl:PE X l tl):PI X tg l (Jf X.K tl):=by
 intro pins s σ H R I h;refine eI (hl pins s σ H _ I h) λv s1 ⟨x,H1,I1,r1,q1⟩=>?_
 obtain ⟨a,e,⟨xs,hq⟩,q⟩:=q1;subst e;cases r1;obtain ⟨its,rv,p,hz⟩:=I1.tuple hq;refine wpAny_pyIter_tuple (show s1.heap.IsTuple a its.toArray from p) ?_;refine ⟨s1.heap.objs.size,[s1.heap.objs.size],_,_,H1,rfl,I1.kept (t':=s1.toks) λb o e=>Heap.get?_push_of_some _ e,yQ a _,⟨_,Heap.get?_push_size _ rfl,rfl,rfl⟩,λb hb=>?_,q⟩;have e:b=s1.heap.objs.size:=by simpa using hb
 subst e;exact I1.fpOk (ay _) (I1.hok.fresh (ay _))
theorem CI {σ:St} {lo hi:Int} (I:Inv X pins σ H s) (h1:-(2^62)<=lo) (h2:lo < 2^62) (h3:-(2^62)<=hi) (h4:hi < 2^62)
  (q:R (AD lo (hi - lo).toNat) H):wpAny (model X.prog X.w) X.A (pyIter (.ref s.heap.objs.size)) (PIE X pins σ tg R) E { s with heap:=s.heap.push { cls:=.type "range",data:=.fields #[.int lo t,.int hi u,.int 1 v] },toks:=tk }:=by
 refine wpAny_pyIter_range (IsRange.new ..) (small_one h1 h2 h3 h4) ?_;have I1:Inv X pins σ H { s with heap:=s.heap.push { cls:=.type "range",data:=.fields #[.int lo t,.int hi u,.int 1 v] },toks:=tk }:=I.kept λb o e=>Heap.get?_push_of_some _ e
 refine ⟨(s.heap.push { cls:=.type "range",data:=.fields #[.int lo t,.int hi u,.int 1 v] }).objs.size,[(s.heap.push { cls:=.type "range",data:=.fields #[.int lo t,.int hi u,.int 1 v] }).objs.size],_,_,H,rfl,
  I1.kept (t':=tk) λb o e=>Heap.get?_push_of_some _ e,yR _ lo (hi - lo).toNat,?_,λb hb=>?_,q⟩
 ·have e1:lo+((0:Nat):Int)*1=lo:=by simp
  have e2:(((hi - lo).toNat:Nat):Int) - ((0:Nat):Int)=Builtin.Range.rangeSize lo hi 1:=by rw[rangeSize_one];split <;> lia
  show IsRangeIter _ _ (lo+((0:Nat):Int)*1) ((((hi - lo).toNat:Nat):Int) - ((0:Nat):Int)) 1
  rw[e1,e2];exact Heap.get?_push_size _ rfl
 ·have e:b=(s.heap.push { cls:=.type "range",data:=.fields #[.int lo t,.int hi u,.int 1 v] }).objs.size:=by simpa using hb
  subst e;exact I1.fpOk (ay _) (I1.hok.fresh (ay _))
def FA (ta:TA):TI:=λσ H R=>ta σ H λvs H1=>∃j:Int,vs=[.int j]/\-(2^62)<=j/\j < 2^62/\R (AD 0 j.toNat) H1
theorem bP {a:Expr} {ta:TA} {p pos:Pos} (hg:Gl X "range") (hm:X.mg "range"=none) (ha:PA X [a] ta) (hs:starEach [a] X.env=[(false,eval a X.env)]:=by rfl):PI X tg (.Call (.Name "range" p) [a] [] pos) (FA ta):=by
 intro pins s σ H R I h;refine Call_ (ij I hg hm boot_range (PyProof.Rows.callWith_type1 (eI (ha pos pins s σ H _ I h) λus s1 ⟨vs,H1,I1,r1,q1⟩=>?_) hs rfl));obtain ⟨j,e,q1,q2,q⟩:=q1;subst e;cases r1 with
 | cons r rr =>
  cases rr;obtain ⟨t,rfl⟩:=r;exact call_range_1 (CI I1 (by lia) (by lia) q1 q2 (by simpa using q))
def Iy (wi:TI) (g:TG) (tb:TS):TS:=λD σ H=>wi σ H λJ H1=>∃W:Nat->Nat->St->Hp->Prop,(∃m,W 0 m σ H1)/\∀i m σ H,W i m σ H →
 (J.stop i H/\D.nx σ H)\/(J.go i H/\∃N:St->Hp->Prop,(∀σ' H',N σ' H'->∃m',m' < m/\W (i+1) m' σ' H')/\∀x H',J.yld i H x H'->g x σ H' λσ2 H2=>tb { D with nx:=N,ct:=N,bk:=D.nx } σ2 H2)
def tz (fp:List Addr) (h:Heap):List (Addr×Obj):=fp.filterMap λb=>(h.get? b).map λo=>(b,o)
theorem kX (hb:b∈fp) (e:h.get? b=some o):(b,o)∈tz fp h:=yO.mpr ⟨b,hb,by rw[e];rfl⟩
theorem A3 (hp:p∈tz fp h):p.1∈fp/\h.get? p.1=some p.2:=by
 obtain ⟨b,hb,e⟩:=yO.mp hp;cases q:h.get? b with
 | none=>rw[q] at e;cases e
 | some o =>
  rw[q] at e;have e':(b,o)=p:=bR e;subst e';exact ⟨hb,q⟩
theorem Inv.pinned {σ:St} (I:Inv X pins σ H s) (hf:∀b∈fp,ip X pins H b) (ho:∀b∈fp,∃o,s.heap.get? b=some o/\∀v,o.data≠.cell v):Inv X (pins++tz fp s.heap) σ H s :=
 I.pins_of λp hp=>(ar.mp hp).elim (λz=>I.pin p (bG _ z)) λz=>by
  obtain ⟨hb,e⟩:=A3 z;obtain ⟨f0,f1,f2,_⟩:=hf p.1 hb;obtain ⟨o,e',d⟩:=ho p.1 hb;rw[e] at e';cases e';exact ⟨e,f0,f1,f2,d⟩
theorem Inv.unpinned {σ:St} (I:Inv X (pins++pl) σ H s):Inv X pins σ H s:=I.pins_of λp hp=>I.pin p (bG _ (lJ _ hp))
theorem cZ {iter:Expr} {body:List Stmt} {wi:TI} {g:TG} {tb:TS} {pos:Pos} (hp:PassesOwn (model X.prog X.w) X.A X.env X.xe) (hc:X.calm=true) (hi:PI X tg iter wi) (hg:PG X tg g) (hb:xv X body tb)
  (hs:∀x,foldedSetIterable iter X.env x=pure x:=by intro _;rfl):PS X (.For tg iter body [] pos) (Iy wi g tb):=by
 intro pins s σ H D I h;refine wpAny_For (eI (hi pins s σ H _ I h) λv s1 h1=>eI h1 λitv s2 h2=>?_) hs;obtain ⟨it,fp,tn,J,H2,e,I2,T,st2,f2,W,⟨m0,w0⟩,turn⟩:=h2;subst e;have stat:∀{H':Hp},(∀b∈fp,H' b=none)->∀b∈fp,ip X pins H' b:=λhn b hb=>⟨hn b hb,(f2 b hb).2⟩
 refine codeAny_forLoop_any (λn s'=>∃i σ' H',Inv X pins σ' H' s'/\tn i s'.heap/\(∀b∈fp,H' b=none)/\W i n σ' H') ?_ m0 ⟨0,σ,H2,I2,st2,λb hb=>(f2 b hb).1,w0⟩;rintro n s3 ⟨i,σ3,H3,I3,st3,fr3,w3⟩;rcases turn i n σ3 H3 w3 with ⟨stop,qn⟩ | ⟨go,N,hN,step⟩
 ·refine wpAny_passesOwn hp (eI (T.done X rfl rfl rfl hc i pins s3 σ3 H3 X.xe I3 (stat fr3) st3 stop) λr s4 ⟨hr,I4⟩=>?_);subst hr;exact wpAny_execs_nil ⟨σ3,H3,I4,qn⟩
 ·refine wpAny_passesOwn hp (eI (T.item X rfl rfl rfl hc i pins s3 σ3 H3 X.xe I3 (stat fr3) st3 go) λr s4 ⟨u,hr,h4⟩=>?_);subst hr;refine wpAny_passesOwn hp (eI h4 λ_ s5 ⟨x,H5,I5,r5,y5,st5,fr5⟩=>?_);have I5':=I5.pinned (stat fr5) (T.obj _ _ st5);refine wpAny_passesOwn hp (eI (hg _ s5 σ3 H5 x u _ I5' r5 (step x H5 y5)) λ_ s6 ⟨σ6,H6,I6,q6⟩=>?_);refine wpAny_passesOwn hp (eI (hb _ s6 σ6 H6 _ I6 q6) λf s7 q7=>?_)
  have again:∀{σ7:St} {H7:Hp},Inv X (pins++tz fp s5.heap) σ7 H7 s7->N σ7 H7->∃m,m < n/\∃i σ' H',Inv X pins σ' H' s7/\tn i s7.heap/\(∀b∈fp,H' b=none)/\W i m σ' H':=λ{σ7 H7} I7 n7=>by
   obtain ⟨m',hm,w7⟩:=hN σ7 H7 n7;refine ⟨m',hm,i+1,σ7,H7,I7.unpinned,T.keep _ _ _ st5 λb hb o e=>(I7.pin (b,o) (bG _ (bG _ (kX hb e)))).1,λb hb=>?_,w7⟩;obtain ⟨o,e,d⟩:=T.obj _ _ st5 b hb;exact (I7.pin (b,o) (bG _ (bG _ (kX hb e)))).2.1
  cases f with
  | next=>obtain ⟨σ7,H7,I7,n7⟩:=q7;exact again I7 n7
  | cont=>obtain ⟨σ7,H7,I7,n7⟩:=q7;exact again I7 n7
  | brk=>obtain ⟨σ7,H7,I7,q7⟩:=q7;exact ⟨σ7,H7,I7.unpinned,q7⟩
  | ret v=>obtain ⟨x7,σ7,H7,I7,r7,q7⟩:=q7;exact ⟨x7,σ7,H7,I7.unpinned,r7,q7⟩
end
theorem ed {K:FG9} {g:TG} {tb:TS} {D:Ends} (Pv:Nat->St->Hp->Prop) (h0:Pv 0 σ H) (hl:∀i σ H,i<=xs.length->Pv i σ H->bB K H a xs)
  (hs:∀i x σ H,xs[i]?=some x->Pv i σ H->g x σ H λσ2 H2=>tb { D with nx:=Pv (i+1),ct:=Pv (i+1),bk:=D.nx } σ2 H2) (hd:∀σ H,Pv xs.length σ H->D.nx σ H) :
  ∃W:Nat->Nat->St->Hp->Prop,(∃m,W 0 m σ H)/\∀i m σ H,W i m σ H →
   ((DQ K a).stop i H/\D.nx σ H)\/((DQ K a).go i H/\∃N:St->Hp->Prop,(∀σ' H',N σ' H'->∃m',m' < m/\W (i+1) m' σ' H')/\∀x H',(DQ K a).yld i H x H'->g x σ H' λσ2 H2=>tb { D with nx:=N,ct:=N,bk:=D.nx } σ2 H2):=by
 refine ⟨λi m σ H=>m=xs.length - i/\i<=xs.length/\Pv i σ H,⟨xs.length,by simp,bJ _,h0⟩,?_⟩;rintro i m σ H ⟨rfl,hi,p⟩;have q:=hl i σ H hi p;by_cases hlt:i < xs.length
 ·refine .inr ⟨⟨xs,xs[i],q,by simp [hlt]⟩,Pv (i+1),λσ' H' p'=>⟨xs.length - (i+1),by lia,rfl,hlt,p'⟩,λx H' y=>?_⟩;obtain ⟨e,y⟩:=y;subst e;exact hs i x σ _ (y xs q) p
 ·have e:i=xs.length:=by lia
  subst e;exact .inl ⟨⟨xs,q,ay _⟩,hd σ H p⟩
theorem Bn {lo:Int} {g:TG} {tb:TS} {D:Ends} (Pv:Nat->St->Hp->Prop) (h0:Pv 0 σ H)
  (hs:∀i σ H,i < n->Pv i σ H->g (.int (lo+i)) σ H λσ2 H2=>tb { D with nx:=Pv (i+1),ct:=Pv (i+1),bk:=D.nx } σ2 H2) (hd:∀σ H,Pv n σ H->D.nx σ H) :
  ∃W:Nat->Nat->St->Hp->Prop,(∃m,W 0 m σ H)/\∀i m σ H,W i m σ H →
   ((AD lo n).stop i H/\D.nx σ H)\/((AD lo n).go i H/\∃N:St->Hp->Prop,(∀σ' H',N σ' H'->∃m',m' < m/\W (i+1) m' σ' H')/\∀x H',(AD lo n).yld i H x H'->g x σ H' λσ2 H2=>tb { D with nx:=N,ct:=N,bk:=D.nx } σ2 H2):=by
 refine ⟨λi m σ H=>m=n - i/\i<=n/\Pv i σ H,⟨n,by simp,bJ _,h0⟩,?_⟩;rintro i m σ H ⟨rfl,hi,p⟩;by_cases hlt:i < n
 ·refine .inr ⟨hlt,Pv (i+1),λσ' H' p'=>⟨n - (i+1),by lia,rfl,hlt,p'⟩,λx H' y=>?_⟩;obtain ⟨e,y⟩:=y;subst e y;exact hs i σ _ hlt p
 ·have e:i=n:=by lia
  subst e;exact .inl ⟨ay _,hd σ H p⟩
abbrev R2:=V->V->Hp->VK->Prop
def so (X:Cx) (f:Value->Value->Sem Value) (r:R2):Prop :=
 ∀(pins:List (Addr×Obj)) (s:Shared) (σ:St) (H:Hp) (x y:V) (v u:Value) (Q:VK),Inv X pins σ H s->RelV x v->RelV y u->r x y H Q →
  wpAny (model X.prog X.w) X.A (f v u) (EP X pins σ Q) X.xe s
def Kb (X:Cx) (f:Value->Sem Value) (r:V->Hp->VK->Prop):Prop :=
 ∀(pins:List (Addr×Obj)) (s:Shared) (σ:St) (H:Hp) (x:V) (v:Value) (Q:VK),Inv X pins σ H s->RelV x v->r x H Q →
  wpAny (model X.prog X.w) X.A (f v) (EP X pins σ Q) X.xe s
def mF (X:Cx) (f:Value) (r:List V->Hp->VK->Prop):Prop :=
 ∀(pins:List (Addr×Obj)) (s:Shared) (σ:St) (H:Hp) (xs:List V) (us:List Value) (Q:VK),Inv X pins σ H s->bV xs us->r xs H Q →
  wpAny (model X.prog X.w) X.A (call f us) (EP X pins σ Q) X.xe s
def Ir (r:R2) (ta tb:TE):TE:=λσ H Q=>ta σ H λx H1=>tb σ H1 λy H2=>r x y H2 Q
def HX (r:V->Hp->VK->Prop) (ta:TE):TE:=λσ H Q=>ta σ H λx H1=>r x H1 Q
def rI (C:Int->Int->Prop) (g:Int->Int->V):R2:=λx y H Q=>∃i j,x=.int i/\y=.int j/\C i j/\Q (g i j) H
def Ft (g:Int->Int->V):R2:=λx y H Q=>∃i j,x=.int i/\y=.int j/\Q (g i j) H
def rU (g:Int->V):V->Hp->VK->Prop:=λx H Q=>∃i,x=.int i/\Q (g i) H
section
variable {X:Cx} {a b c:Expr} {ta tb tc:TE} {pos:Pos}
theorem HN (ha:PE X a ta) (hb:PE X b tb) {σ:St} {R:V->V->Hp->Prop} (I:Inv X pins σ H s)
  (h:ta σ H λx H1=>tb σ H1 λy H2=>R x y H2) {f:Value->Value->Sem Value}
  (hf:∀v u s2 x y H2,Inv X pins σ H2 s2->RelV x v->RelV y u->R x y H2->wpAny (model X.prog X.w) X.A (f v u) Q X.xe s2) :
  wpAny (model X.prog X.w) X.A (eval a X.env) (λv s₁=>wpAny (model X.prog X.w) X.A (eval b X.env) (λu s₂=>wpAny (model X.prog X.w) X.A (f v u) Q X.xe s₂) X.xe s₁) X.xe s:=by
 refine eI (ha pins s σ H _ I h) λv s1 ⟨x,H1,I1,r1,q1⟩=>?_
 refine eI (hb pins s1 σ H1 _ I1 q1) λu s2 ⟨y,H2,I2,r2,q2⟩=>?_
 exact hf v u s2 x y H2 I2 r1 r2 q2
theorem bC (ho:so X (binaryOp op) r) (ha:PE X a ta) (hb:PE X b tb):PE X (.BinOp a op b pos) (Ir r ta tb):=by
 intro pins s σ H Q I h;exact wpAny_BinOp (HN ha hb I h λv u s2 x y H2 I2 rx ry q=>ho pins s2 σ H2 x y v u Q I2 rx ry q)
theorem xZ (ho:Kb X (unaryOp op) r) (ha:PE X a ta):PE X (.UnaryOp op a pos) (HX r ta):=by
 intro pins s σ H Q I h;exact UnaryOp_ (eI (ha pins s σ H _ I h) λv s1 ⟨x,H1,I1,r1,q1⟩=>ho pins s1 σ H1 x v Q I1 r1 q1)
theorem JE {g:Int->Int->Int}
  (rule:∀(i j:Int) (t u:Tok) (s:Shared) (Q:Value->Shared->Prop) (E:Value->Shared->Prop),C i j->Q (.int (g i j) s.toks) { s with toks:=s.toks+1 }->wpAny (model X.prog X.w) X.A (f (.int i t) (.int j u)) Q E s) :
  so X f (rI C λi j=>.int (g i j)):=by
 intro pins s σ H x y v u Q I rx ry h;obtain ⟨i,j,rfl,rfl,hc,q⟩:=h;obtain ⟨t,rfl⟩:=rx;obtain ⟨t',rfl⟩:=ry;exact rule i j t t' s _ _ hc ⟨.int (g i j),H,I.tok _,⟨_,rfl⟩,q⟩
theorem IV {g:Int->Int->Int}
  (rule:∀(i j:Int) (t u:Tok) (s:Shared) (Q:Value->Shared->Prop) (E:Value->Shared->Prop),Q (.int (g i j) s.toks) { s with toks:=s.toks+1 }->wpAny (model X.prog X.w) X.A (f (.int i t) (.int j u)) Q E s) :
  so X f (Ft λi j=>.int (g i j)):=by
 intro pins s σ H x y v u Q I rx ry h;obtain ⟨i,j,rfl,rfl,q⟩:=h;obtain ⟨t,rfl⟩:=rx;obtain ⟨t',rfl⟩:=ry;exact rule i j t t' s _ _ ⟨.int (g i j),H,I.tok _,⟨_,rfl⟩,q⟩
theorem GQ {g:Int->Int->Bool}
  (rule:∀(i j:Int) (t u:Tok) (s:Shared) (Q:Value->Shared->Prop) (E:Value->Shared->Prop),Q (.bool (g i j)) s->wpAny (model X.prog X.w) X.A (f (.int i t) (.int j u)) Q E s) :
  so X f (Ft λi j=>.bl (g i j)):=by
 intro pins s σ H x y v u Q I rx ry h;obtain ⟨i,j,rfl,rfl,q⟩:=h;obtain ⟨t,rfl⟩:=rx;obtain ⟨t',rfl⟩:=ry;exact rule i j t t' s _ _ ⟨.bl (g i j),H,I,rfl,q⟩
def HS (i j:Int):Prop:=(-(2^64) < i/\i < 2^64)\/(-(2^64) < j/\j < 2^64)
theorem HS.ok (h:HS i j):IntMulOk i j:=by
 rcases h with ⟨h1,h2⟩ | ⟨h1,h2⟩
 ·exact .of_left (intBits_le_64 h1 h2)
 ·exact .of_right (intBits_le_64 h1 h2)
theorem d9:so X (binaryOp .Add) (Ft λi j=>.int (i+j)):=IV λ_ _ _ _ _ _ _ q=>add_int q
theorem jV:so X (binaryOp .Sub) (Ft λi j=>.int (i - j)):=IV λ_ _ _ _ _ _ _ q=>sub_int q
theorem jW:so X (binaryOp .Mod) (rI (λ_ j=>0 < j) λi j=>.int (i % j)):=JE λi j _ _ _ _ _ hc q=>by
 have h1:(0:Int) < j:=hc;exact mod_int' (by lia) (by rw[Int.fmod_eq_emod_of_nonneg i (by lia)];exact q)
theorem EJ:so X (binaryOp .Mod) (rI (λ_ j=>j≠0) λi j=>.int (i.fmod j)):=JE λ_ _ _ _ _ _ _ hc q=>mod_int' hc q
theorem unI {g:Int->Int}
  (rule:∀(i:Int) (t:Tok) (s:Shared) (Q:Value->Shared->Prop) (E:Value->Shared->Prop),Q (.int (g i) s.toks) { s with toks:=s.toks+1 }->wpAny (model X.prog X.w) X.A (f (.int i t)) Q E s) :
  Kb X f (rU λi=>.int (g i)):=by
 intro pins s σ H x v Q I rx h;obtain ⟨i,rfl,q⟩:=h;obtain ⟨t,rfl⟩:=rx;exact rule i t s _ _ ⟨.int (g i),H,I.tok _,⟨_,rfl⟩,q⟩
theorem sL:Kb X (unaryOp .USub) (rU λi=>.int (-i)):=unI λ_ _ _ _ _ q=>neg_int q
end
def ID:V->V->Bool
 | .non,.non=>true | .non,.int _=>true | .int _,.non=>true | .non,.bl _=>true | .bl _,.non=>true | .non,.str _=>true | .str _,.non=>true
 | .int _,.int _=>true | .bl _,.bl _=>true | .str _,.str _=>true | .byt _,.byt _=>true
 | .int _,.str _=>true | .str _,.int _=>true | .bl _,.str _=>true | .str _,.bl _=>true
 | _,_=>false
def JW:R2:=λx y H Q=>ID x y=true/\Q (.bl (decide (x=y))) H
def rNe:R2:=λx y H Q=>ID x y=true/\Q (.bl (!decide (x=y))) H
theorem Ar:decide (V.int i=V.int j)=(i == j):=by
 rw[lM];simp
theorem DC:decide (V.bl i=V.bl j)=(i == j):=by
 rw[lM];simp
theorem Aq:decide (V.str i=V.str j)=(i == j):=by
 rw[lM];simp
theorem As:decide (V.byt i=V.byt j)=(i.toList == j.toList):=by
 rw[lM];cases i;cases j;simp
section
variable {X:Cx} {a b c:Expr} {ta tb tc:TE} {pos:Pos}
theorem cA {σ:St} (I:Inv X pins σ H s) (q:Q (.bl k) H) (e:k=k'):EP X pins σ Q (.bool k') s:=by
 subst e;exact ⟨.bl k,H,I,rfl,q⟩
theorem dh:so X (compareOp .Eq) JW:=by
 intro pins s σ H x y v u Q I rx ry h;obtain ⟨hs,q⟩:=h;cases x with
 | non =>
  cases rx;cases y with
  | non=>cases ry;exact PySem.EqNone.eq_none_none (cA I q (by simp))
  | bl j=>cases ry;exact PySem.EqNone.eq_none_bool (cA I q (by simp))
  | int j=>obtain ⟨t',rfl⟩:=ry;exact PySem.EqNone.eq_none_int (cA I q (by simp))
  | str j=>obtain ⟨t',rfl⟩:=ry;exact PySem.EqNone.eq_none_str (cA I q (by simp))
  | _=>exact absurd (show false=true from hs) aM
 | bl i =>
  cases rx;cases y with
  | non=>cases ry;exact PySem.EqNone.eq_bool_none (cA I q (by simp))
  | bl j=>cases ry;exact eq_bool (cA I q DC)
  | str j=>obtain ⟨t',rfl⟩:=ry;exact PySem.EqMixed.eq_bool_str (cA I q (by simp))
  | _=>exact absurd (show false=true from hs) aM
 | int i =>
  obtain ⟨t,rfl⟩:=rx;cases y with
  | non=>cases ry;exact PySem.EqNone.eq_int_none (cA I q (by simp))
  | int j=>obtain ⟨t',rfl⟩:=ry;exact eq_int (cA I q Ar)
  | str j=>obtain ⟨t',rfl⟩:=ry;exact PySem.EqMixed.eq_int_str (cA I q (by simp))
  | _=>exact absurd (show false=true from hs) aM
 | str i =>
  obtain ⟨t,rfl⟩:=rx;cases y with
  | non=>cases ry;exact PySem.EqNone.eq_str_none (cA I q (by simp))
  | bl j=>cases ry;exact PySem.EqMixed.eq_str_bool (cA I q (by simp))
  | int j=>obtain ⟨t',rfl⟩:=ry;exact PySem.EqMixed.eq_str_int (cA I q (by simp))
  | str j=>obtain ⟨t',rfl⟩:=ry;exact eq_str (cA I q Aq)
  | _=>exact absurd (show false=true from hs) aM
 | byt i =>
  obtain ⟨t,rfl⟩:=rx;cases y with
  | byt j=>obtain ⟨t',rfl⟩:=ry;exact PySem.W.eq_bytes (cA I q As)
  | _=>exact absurd (show false=true from hs) aM
 | _=>cases y <;> exact absurd (show false=true from hs) aM
theorem vw:so X (compareOp .NotEq) rNe:=by
 intro pins s σ H x y v u Q I rx ry h;obtain ⟨hs,q⟩:=h;cases x with
 | non =>
  cases rx;cases y with
  | non=>cases ry;exact PySem.EqNone.ne_none_none (cA I q (by simp))
  | bl j=>cases ry;exact PySem.EqNone.ne_none_bool (cA I q (by simp))
  | int j=>obtain ⟨t',rfl⟩:=ry;exact PySem.EqNone.ne_none_int (cA I q (by simp))
  | str j=>obtain ⟨t',rfl⟩:=ry;exact PySem.EqNone.ne_none_str (cA I q (by simp))
  | _=>exact absurd (show false=true from hs) aM
 | bl i =>
  cases rx;cases y with
  | non=>cases ry;exact PySem.EqNone.ne_bool_none (cA I q (by simp))
  | bl j=>cases ry;exact ne_bool (cA I q (congrArg not DC))
  | str j=>obtain ⟨t',rfl⟩:=ry;exact PySem.EqMixed.ne_bool_str (cA I q (by simp))
  | _=>exact absurd (show false=true from hs) aM
 | int i =>
  obtain ⟨t,rfl⟩:=rx;cases y with
  | non=>cases ry;exact PySem.EqNone.ne_int_none (cA I q (by simp))
  | int j=>obtain ⟨t',rfl⟩:=ry;exact ne_int (cA I q (congrArg not Ar))
  | str j=>obtain ⟨t',rfl⟩:=ry;exact PySem.EqMixed.ne_int_str (cA I q (by simp))
  | _=>exact absurd (show false=true from hs) aM
 | str i =>
  obtain ⟨t,rfl⟩:=rx;cases y with
  | non=>cases ry;exact PySem.EqNone.ne_str_none (cA I q (by simp))
  | bl j=>cases ry;exact PySem.EqMixed.ne_str_bool (cA I q (by simp))
  | int j=>obtain ⟨t',rfl⟩:=ry;exact PySem.EqMixed.ne_str_int (cA I q (by simp))
  | str j=>obtain ⟨t',rfl⟩:=ry;exact ne_str (cA I q (congrArg not Aq))
  | _=>exact absurd (show false=true from hs) aM
 | byt i =>
  obtain ⟨t,rfl⟩:=rx;cases y with
  | byt j=>obtain ⟨t',rfl⟩:=ry;exact PySem.W.ne_bytes (cA I q (congrArg not As))
  | _=>exact absurd (show false=true from hs) aM
 | _=>cases y <;> exact absurd (show false=true from hs) aM
theorem mV:so X (compareOp .Lt) (Ft λi j=>.bl (decide (i < j))):=GQ λ_ _ _ _ _ _ _ q=>lt_int q
theorem oH:so X (compareOp .Gt) (Ft λi j=>.bl (decide (j < i))):=GQ λ_ _ _ _ _ _ _ q=>gt_int q
theorem vA:so X (compareOp .GtE) (Ft λi j=>.bl (decide (j<=i))):=GQ λ_ _ _ _ _ _ _ q=>ge_int q
theorem zk:so X (compareOp .Is) (λx y H Q=>y=.non/\Q (.bl (decide (x=.non))) H):=by
 intro pins s σ H x y v u Q I rx ry h;obtain ⟨rfl,q⟩:=h;cases ry;refine is_none_gen (cA I q ?_)
 cases x <;> first
  | (cases rx;rfl)
  | (obtain ⟨t,rfl⟩:=rx;rfl)
theorem EI:so X (compareOp .IsNot) (λx y H Q=>y=.non/\Q (.bl (!decide (x=.non))) H):=by
 intro pins s σ H x y v u Q I rx ry h;obtain ⟨rfl,q⟩:=h;cases ry;refine isnot_none_gen (cA I q ?_)
 cases x <;> first
  | (cases rx;rfl)
  | (obtain ⟨t,rfl⟩:=rx;rfl)
theorem bf (b:Expr) {op:CmpOp} (h:op≠.In:=by decide) (h2:op≠.NotIn:=by decide):behindInMarks op b=false:=by
 have e1:(op == CmpOp.In)=false:=by cases op <;> first | rfl | exact absurd rfl h
 have e2:(op == CmpOp.NotIn)=false:=by cases op <;> first | rfl | exact absurd rfl h2
 cases b <;> simp [behindInMarks,e1,e2]
theorem gI (ho:so X (compareOp op) r) (ha:PE X a ta) (hb:PE X b tb) (hm:behindInMarks op b=false):PE X (.Compare a [op] [b] pos) (Ir r ta tb):=by
 intro pins s σ H Q I h;exact wpAny_Compare1 (HN ha hb I h λv u s2 x y H2 I2 rx ry q=>ho pins s2 σ H2 x y v u Q I2 rx ry q) hm
def Fi (t:TE):TT:=λσ H Q=>t σ H λx H'=>∃k,x=.bl k/\Q k H'
theorem aX (ho:so X (compareOp op) r) (ha:PE X a ta) (hb:PE X b tb) (hm:behindInMarks op b=false):PT X (.Compare a [op] [b] pos) (Fi (Ir r ta tb)):=by
 intro pins s σ H Q I h
 refine wpAny_isTrue_Compare1 (eI (ha pins s σ H _ I h) λv s1 ⟨x,H1,I1,r1,q1⟩=>eI (hb pins s1 σ H1 _ I1 q1) λu s2 ⟨y,H2,I2,r2,q2⟩ =>
  eI (ho pins s2 σ H2 x y v u _ I2 r1 r2 q2) λc s3 ⟨z,H3,I3,r3,k,e,q3⟩=>?_) hm
 subst e;cases r3;exact wpAny_truthy_bool ⟨H3,I3,q3⟩
theorem tZ:(sizeLine:Nat) < 2^63:=by rw[sizeLine_eq];decide
theorem vals1 (r:bV [x] us):∃u,us=[u]/\RelV x u:=by
 cases r with
 | cons r1 r2=>cases r2;exact ⟨_,rfl,r1⟩
theorem vals2 (r:bV [x,y] us):∃u w',us=[u,w']/\RelV x u/\RelV y w':=by
 cases r with
 | cons r1 r2 =>
  cases r2 with
  | cons r3 r4=>cases r4;exact ⟨_,_,rfl,r1,r3⟩
theorem uB:mF X (.builtin "abs") (λxs H Q=>∃i,xs=[.int i]/\Q (.int (if i < 0 then -i else i)) H):=by
 intro pins s σ H xs us Q I r h;obtain ⟨i,rfl,q⟩:=h;obtain ⟨u,rfl,t,rfl⟩:=vals1 r;exact call_abs_int λu tk=>⟨.int (if i < 0 then -i else i),H,I.tok _,⟨_,rfl⟩,q⟩
theorem mR (hc:X.calm=true):mF X (.builtin "min") (λxs H Q=>∃i j,xs=[.int i,.int j]/\Q (.int (if j < i then j else i)) H):=by
 intro pins s σ H xs us Q I r h;obtain ⟨i,j,rfl,q⟩:=h;obtain ⟨u,w',rfl,⟨t,rfl⟩,⟨t',rfl⟩⟩:=vals2 r;refine min_two_ints (I.ok.hd hc) λh' tk k=>⟨_,H,I.kept k,?_,q⟩
 by_cases hj:j < i
 ·rw[if_pos hj,if_pos hj];exact ⟨_,rfl⟩
 ·rw[if_neg hj,if_neg hj];exact ⟨_,rfl⟩
end
structure zP (h:Heap) (x dx C:Addr) (mA:Str->Option Value):Prop where
 obj:h.get? x=some (PySem.W.instObj C dx)
 ns:h.Ns1 dx mA
 ne:dx≠x
theorem Bi {h:Heap} (n:h.Ns1 dx mA):∃od,h.get? dx=some od/\∀name,PySem.W.lookIn name od=some (mA name):=by
 obtain ⟨o,es,ep,ho,hd,hk,_,hm⟩:=n;refine ⟨o,ho,λname=>?_⟩;have e:=hm name;unfold nsFind findBy at e;rw[<- Array.find?_toList] at e;unfold PySem.W.lookIn;rw[hd]
 dsimp only
 split
 ·rename_i y q
  rw[q] at e;exact congrArg some e
 ·rename_i q
  rw[q] at e
  have a:es.toList.any (·.refKey)=false:=by
   rw[List.any_eq_false];intro y hy;obtain ⟨z,t,hkey⟩:=hk y (Array.mem_toList_iff.mp hy);simp [DictEntry.refKey,hkey]
  have a':¬es.toList.any (·.refKey)=true:=by rw[a];exact aM
  rw[if_neg a'];exact congrArg some e
theorem zP.look (I:zP h x dx C mA):∃od,PySem.W.InstAt h x (PySem.W.instObj C dx) C (some od)/\∀name,PySem.W.lookIn name od=some (mA name) :=
 let ⟨od,ho,hl⟩:=Bi I.ns
 ⟨od,⟨I.obj,rfl,rfl,ho⟩,hl⟩
section
variable {prog:Program} {w:World} {A:Around} {E:Value->Shared->Prop} {s:Shared} {K:FG9} {x dx C f:Addr} {mA:Str->Option Value} {name:Str} {v:Value}
theorem get_map (X:K.In s.heap) (I:zP s.heap x dx C mA) (hg:PySem.W.plainGet K C name=true) (hh:PySem.W.hasDictIn K C=true)
  (ha:PySem.W.findIn K (.ref C) name=some none) (hv:mA name=some v) (hv':PySem.W.handedIn v=true) (h:Q v { s with toks:=s.toks+1 }) :
  wpAny (model prog w) A (getAttr (.ref x) name expr) Q E s:=by
 obtain ⟨od,J,hl⟩:=I.look;exact PySem.W.get_value X J (xx hg).1 (PySem.W.findObj_own hh ha rfl (by rw[hl,hv])) hv' h
theorem Di (X:K.In s.heap) (I:zP s.heap x dx C mA) (hg:PySem.W.plainGet K C name=true)
  (hf:PySem.W.findIn K (.ref C) name=some (some (.ref f))) (ht:PySem.W.isFn K (.ref f)=true) (hv:mA name=none) (h:Q (.ref f,[.ref x]) s) :
  wpAny (model prog w) A (getMethod (.ref x) name pl) Q E s:=by
 obtain ⟨od,J,hl⟩:=I.look;exact PySem.W.method_fn X J (xx hg).1 (xx hg).2 hf (beq_iff_eq.mp ht) (by show (PySem.W.lookIn name od).map (·.isSome)=some false;rw[hl,hv];rfl) h
theorem D9 (X:K.In s.heap) (I:zP s.heap x dx C mA)
  (hs:PySem.W.findIn K (.ref C) "__setattr__"=some (some (.builtin "object.__setattr__"))) (hp:PySem.W.plainOver K C=true) (ht:PySem.W.takerIn K C name=some none) (hh:PySem.W.hasDictIn K C=true)
  (hw:PySem.Within mA ns) (hsz:ns.length<=sizeLine)
  (h:∀h',zP h' x dx C (λy=>if y=name then some v else mA y)->Heap.SameBut dx s.heap h'->Q () { s with heap:=h',toks:=s.toks+2 }) :
  wpAny (model prog w) A (setAttr (.ref x) name v) Q E s:=by
 obtain ⟨od,J,hl⟩:=I.look;refine PySem.W.set_plain X J hs (PySem.W.osa_open (s:={ s with toks:=s.toks+1 }) (r:=none) X J hp ht λb=>?_);obtain ⟨cd,hc,hd'⟩:=PySem.W.any_some hh;have hx:s.heap.get? x=some ⟨.ref C,some dx,.plain,#[]⟩:=I.obj;refine wpAny_bind (wpAny_pure (wpAny_bind (wpAny_bind (wpAny_loadPart hx (wpAny_bind (PySem.W.Looks.here (s:={ s with toks:=s.toks+1 }) (PySem.W.looks_clsIn X hc) ?_))))));rw[hd'];refine wpAny_pure (a:=some dx) (wpAny_bind (wpAny_pure (wpAny_bind ?_)));refine wpAny_nsSet1 (s:={ s with toks:=s.toks+1 }) I.ns λh' hn2 hs2=>?_
 obtain ⟨oD,esD,epD,hoD,hdD,hcD⟩:=hn2.count (PySem.Within.cons name v hw);refine wpAny_bind (wpAny_lookBehind hoD (by rw[hdD];exact pastItsLine_dict (ak hcD (by rw[du];lia))) ?_);exact wpAny_pure (h _ ⟨(hs2.2 _ (Ne.symm I.ne)).trans I.obj,hn2,I.ne⟩ hs2)
theorem C0 (X:K.In s.heap) (hm:PySem.W.makesIn K C=true)
  (hi:PySem.W.findIn K (.ref C) "__init__"=some (some (.ref f))) (hf:PySem.W.typeIn K (.ref f)=some (.type "function"))
  (h:codeAny (model prog w) (A.under (.builtin "type.__call__" ⟨.ref C :: vs,kw⟩)) (.call (.ref f) ⟨.ref (s.heap.objs.size+1) :: vs,kw⟩) (PySem.W.InitBack (s.heap.objs.size+1) R)
   { s with heap:=(s.heap.push PySem.W.emptyDict).push (PySem.W.instObj C s.heap.objs.size) }) :
  codeAny (model prog w) A (.call (.ref C) ⟨vs,kw⟩) R s:=by
 obtain ⟨hh,g,d,t,os⟩:=s;exact PySem.W.make_core (PySem.W.makes_of X hm) (PySem.W.looks_findIn X hi) (λself=>PySem.W.bind_fn X self hf) (.inl rfl) h
end
def bI (f:Str) (v:V):List (Str×V)->List (Str×V)
 | []=>[(f,v)]
 | (g,x) :: r=>if g=f then (g,v) :: r else (g,x) :: bI f v r
theorem aS (f g:Str) (v:V):∀fs:List (Str×V),(bI f v fs).lookup g=if g=f then some v else fs.lookup g
 | []=>by
  show List.lookup g [(f,v)]=_
  by_cases h:g=f
  ·have hb:(g == f)=true:=beq_iff_eq.mpr h;simp only[List.lookup,hb,if_pos h]
  ·have hb:(g == f)=false:=beq_eq_false_iff_ne.mpr h;simp only[List.lookup,hb,if_neg h]
 | (k,x) :: r=>by
  have ih:=aS f g v r;rw[show bI f v ((k,x) :: r)=(if k=f then (k,v) :: r else (k,x) :: bI f v r) from rfl];by_cases hk:k=f
  ·rw[if_pos hk];by_cases h:g=k
   ·have hb:(g == k)=true:=beq_iff_eq.mpr h;simp only[List.lookup,hb,if_pos (h.trans hk)]
   ·have hb:(g == k)=false:=beq_eq_false_iff_ne.mpr h;simp only[List.lookup,hb,if_neg (λe:g=f=>h (e.trans hk.symm))]
  ·rw[if_neg hk];by_cases h:g=k
   ·have hb:(g == k)=true:=beq_iff_eq.mpr h;simp only[List.lookup,hb,if_neg (λe:g=f=>hk (h.symm.trans e))]
   ·have hb:(g == k)=false:=beq_eq_false_iff_ne.mpr h;simp only[List.lookup,hb];exact ih
theorem qi (f:Str) (v:V):∀fs:List (Str×V),f∈(bI f v fs).map (·.1)/\∀g,g∈fs.map (·.1)->g∈(bI f v fs).map (·.1)
 | []=>⟨by simp [bI],λg h=>by simp at h⟩
 | (k,x) :: r=>by
  obtain ⟨i1,i2⟩:=qi f v r;rw[show bI f v ((k,x) :: r)=(if k=f then (k,v) :: r else (k,x) :: bI f v r) from rfl];by_cases hk:k=f
  ·rw[if_pos hk];subst hk;exact ⟨by simp,λg h=>by simpa using h⟩
  ·rw[if_neg hk];refine ⟨?_,λg h=>?_⟩
   ·rw[cQ];exact bD _ i1
   ·rw[cQ] at h ⊢;rcases az.mp h with e | e
    ·exact az.mpr (.inl e)
    ·exact bD _ (i2 g e)
theorem qG (f:Str) (v:V):∀fs:List (Str×V),(bI f v fs).length<=fs.length+1
 | []=>by simp [bI]
 | (k,x) :: r=>by
  have ih:=qG f v r;rw[show bI f v ((k,x) :: r)=(if k=f then (k,v) :: r else (k,x) :: bI f v r) from rfl];by_cases hk:k=f
  ·rw[if_pos hk,du,du];lia
  ·rw[if_neg hk,du,du];lia
theorem va.some_of (r:va (some v) o):∃u,o=some u/\RelV v u:=by
 cases o with
 | none=>exact (show False from r).elim
 | some u=>exact ⟨u,rfl,r⟩
theorem va.none_of (r:va none o):o=none:=by
 cases o with
 | none=>rfl
 | some u=>exact (show False from r).elim
theorem Bm (r:RelV v u):PySem.W.handedIn u=true:=by
 cases v with
 | non=>cases (show u=Value.none from r);rfl
 | bl b=>cases (show u=Value.bool b from r);rfl
 | int i=>obtain ⟨t,e⟩:=(show ∃t,u=Value.int i t from r);cases e;rfl
 | str x=>obtain ⟨t,e⟩:=(show ∃t,u=Value.str x t from r);cases e;rfl
 | byt b=>obtain ⟨t,e⟩:=(show ∃t,u=Value.bytes b t from r);cases e;rfl
 | flt b=>obtain ⟨t,e⟩:=(show ∃t,u=Value.float b t from r);cases e;rfl
 | ref a=>cases (show u=Value.ref a from r);rfl
 | ty n=>cases (show u=Value.type n from r);rfl
section
variable {P:Program} {w:World} {H H':Hp} {h h':Heap} {a C dx:Addr} {fs fs':List (Str×V)}
theorem rS (hok:qv P w H h) (e:H a=some (.ins C dx fs)):∃mA,zP h a dx C mA/\(∀f,va (fs.lookup f) (mA f))/\PySem.Within mA (fs.map (·.1))/\fs.length<=1000/\H dx=some (.own a):=by
 obtain ⟨d,z,ne,ob,mA,n,r,q⟩:=(show eK P w H h a (.ins C dx fs) from hok a _ e);exact ⟨mA,⟨ob,n,ne⟩,r,q,z,d⟩
end
structure BB (K:FG9) (C:Addr):Prop where
 pg:PySem.W.plainGet K C Str.empty=true
 hd:PySem.W.hasDictIn K C=true
 po:PySem.W.plainOver K C=true
 sa:PySem.W.findIn K (.ref C) "__setattr__"=some (some (.builtin "object.__setattr__"))
theorem BB.get {K:FG9} (c:BB K C) (f:Str):PySem.W.plainGet K C f=true:=c.pg
def gR (K:FG9) (C:Addr) (f:Str):Prop:=PySem.W.findIn K (.ref C) f=some none
theorem gR.taker {K:FG9} (n:gR K C f):PySem.W.takerIn K C f=some none:=by
 unfold PySem.W.takerIn;rw[show PySem.W.findIn K (.ref C) f=some none from n];rfl
structure Fd (K:FG9) (C:Addr) (m:Str) (f:Addr):Prop where
 at_:PySem.W.findIn K (.ref C) m=some (some (.ref f))
 fn:PySem.W.isFn K (.ref f)=true
 kp:PySem.W.keepIn K (.ref f)=true
section
variable {X:Cx} {pins:List (Addr×Obj)} {σ:St} {H:Hp} {s:Shared} {a C dx:Addr} {fs:List (Str×V)} {f:Str} {v:V} {A:Around} {E:Value->Shared->Prop}
theorem zC (I:Inv X pins σ H s) (e:H a=some (.ins C dx fs)) (c:BB X.K C) (n:gR X.K C f) (l:fs.lookup f=some v)
  (h:∀u s',Inv X pins σ H s'->RelV v u->Q u s'):wpAny (model X.prog X.w) A (getAttr (.ref a) f b) Q E s:=by
 obtain ⟨mA,O,r,_,_,_⟩:=rS I.hok e;obtain ⟨u,hu,ru⟩:=va.some_of (v:=v) (o:=mA f) (by rw[<- l];exact r f);exact get_map I.kIn O (c.get f) c.hd n hu (Bm ru) (h u _ (I.tok _) ru)
theorem zB (I:Inv X pins σ H s) (e:H a=some (.ins C dx fs)) (c:BB X.K C) (k:Fd X.K C m g) (l:fs.lookup m=none)
  (h:Q (.ref g,[.ref a]) s):wpAny (model X.prog X.w) A (getMethod (.ref a) m pl) Q E s:=by
 obtain ⟨mA,O,r,_,_,_⟩:=rS I.hok e;have hn:mA m=none:=va.none_of (by rw[<- l];exact r m);exact Di I.kIn O (c.get m) k.at_ k.fn hn h
theorem yY (I:Inv X pins σ H s) (e:H a=some (.ins C dx fs)) (c:BB X.K C) (n:gR X.K C f) (hl:fs.length < 1000) (ry:RelV y u)
  (h:∀s',Inv X pins σ (upd H a (.ins C dx (bI f y fs))) s'->Q () s'):wpAny (model X.prog X.w) A (setAttr (.ref a) f u) Q E s:=by
 obtain ⟨mA,O,r,wi,_,ho⟩:=rS I.hok e;have hz:(fs.map (·.1)).length<=sizeLine:=by rw[av,sizeLine_eq];lia
 refine D9 I.kIn O c.sa c.po n.taker c.hd wi hz λh' O' sb=>h _ ?_
 have hd:∃o,h'.get? dx=some o:=let ⟨o,_,_,e',_⟩:=O'.ns;⟨o,e'⟩
 refine I.write (x:=a) (e:=dx) (by rw[e];exact True.intro) (.inr ho) (λb q hb z=>(sb.2 b hb).trans z) hd ?_;refine ⟨by rw[aN O.ne];exact ho,?_,O.ne,O'.obj,_,O'.ns,λg=>?_,λg hg=>?_⟩
 ·have:=qG f y fs;lia
 ·show va ((bI f y fs).lookup g) (if g=f then some u else mA g)
  rw[aS];by_cases q:g=f
  ·rw[if_pos q,if_pos q];exact ry
  ·rw[if_neg q,if_neg q];exact r g
 ·by_cases q:g=f
  ·rw[q];exact (qi f y fs).1
  ·refine (qi f y fs).2 g (wi g λz=>hg ?_);show (if g=f then some u else mA g)=none
   rw[if_neg q];exact z
theorem Inv.made (I:Inv X pins σ H s):Inv X pins σ (upd (upd H s.heap.objs.size (.own (s.heap.objs.size+1))) (s.heap.objs.size+1) (.ins C s.heap.objs.size []))
  { s with heap:=(s.heap.push PySem.W.emptyDict).push (PySem.W.instObj C s.heap.objs.size) }:=by
 have e1:(s.heap.push PySem.W.emptyDict).get? s.heap.objs.size=some PySem.W.emptyDict:=Heap.get?_push_size s.heap rfl
 have e2:((s.heap.push PySem.W.emptyDict).push (PySem.W.instObj C s.heap.objs.size)).get? (s.heap.objs.size+1)=some (PySem.W.instObj C s.heap.objs.size):=by
  have:=Heap.get?_push_size (s.heap.push PySem.W.emptyDict) (o:=PySem.W.instObj C s.heap.objs.size) rfl;rwa [Heap.size_push] at this
 have e3:(s.heap.push PySem.W.emptyDict).Ns s.heap.objs.size (λ_=>none):=⟨PySem.W.emptyDict,#[],_,e1,rfl,(λe he=>absurd he (by simp)),λ_=>rfl⟩;have I1:=I.laid (a:=s.heap.objs.size) (o:=.own (s.heap.objs.size+1)) (h':=s.heap.push PySem.W.emptyDict) (t':=s.toks) (λb u q=>Heap.get?_push_of_some _ q) (ay _) ⟨_,e1⟩;refine I1.laid (a:=s.heap.objs.size+1) (o:=.ins C s.heap.objs.size []) (t':=s.toks) (λb u q=>Heap.get?_push_of_some _ q) (Nat.le_of_eq (Heap.size_push _ _)) ?_;have ne:s.heap.objs.size≠s.heap.objs.size+1:=bw (dm _);refine ⟨by rw[aN ne,aJ],bJ _,ne,e2,λ_=>none,(Heap.Ns1.of_empty e3).at λo q=>Heap.get?_push_of_some _ q,λ_=>True.intro,λy hy=>absurd rfl hy⟩
theorem E7 (hb:attributeBase e f env (eval e env)=eval e env)
  (h:wpAny (model prog w) A (eval e env) (λo s₁=>wpAny (model prog w) A (getAttr o f true) Q E s₁) E s):wpAny (model prog w) A (eval (.Attribute e f pos) env) Q E s :=
 Attribute_any_ h (by rw[arm_eval_Attribute,hb])
end
def F3 (K:FG9) (ta:TE) (f:Str):TE:=λσ H Q=>ta σ H λx H1=>∃a C dx fs v,x=.ref a/\H1 a=some (.ins C dx fs)/\BB K C/\gR K C f/\fs.lookup f=some v/\Q v H1
def IE (K:FG9) (ta tv:TE) (f:Str):TS:=λD σ H=>tv σ H λy H1=>ta σ H1 λx H2=>∃a C dx fs,x=.ref a/\H2 a=some (.ins C dx fs)/\BB K C/\gR K C f/\fs.length < 1000 /\
 D.nx σ (upd H2 a (.ins C dx (bI f y fs)))
section
variable {X:Cx} {o e value:Expr} {f:Str} {pos pos' tpos:Pos} {ta tv:TE}
theorem eX (he:PE X e ta) (hb:attributeBase e f X.env (eval e X.env)=eval e X.env):PE X (.Attribute e f pos) (F3 X.K ta f):=by
 intro pins s σ H Q I h;refine E7 hb (eI (he pins s σ H _ I h) λu s1 ⟨x,H1,I1,rx,a,C,dx,fs,v,ex,ea,c,n,l,q⟩=>?_);subst ex;obtain rfl:u=Value.ref a:=rx;exact zC I1 ea c n l λu' s2 I2 ru=>⟨v,H1,I2,ru,q⟩
theorem p5 (ha:PE X o ta) (hv:PE X value tv) (hs:swapsWith value (some (.Attribute o f pos')) pos.line X.env=pure false):PS X (.Assign [.Attribute o f pos'] value pos) (IE X.K ta tv f):=by
 intro pins s σ H D I h;refine plainObj_wpAny_Assign_Attribute (eI (hv pins s σ H _ I h) λu s1 ⟨y,H1,I1,ry,q⟩=>eI (ha pins s1 σ H1 _ I1 q) λov s2 ⟨x,H2,I2,rx,a,C,dx,fs,ex,ea,c,n,l,q2⟩=>?_) hs;subst ex;obtain rfl:ov=Value.ref a:=rx;exact yY I2 ea c n l ry λs3 I3=>⟨σ,_,I3,q2⟩
end
section
variable {X:Cx} {pins:List (Addr×Obj)} {σ:St} {H:Hp} {s:Shared} {A:Around} {E:Value->Shared->Prop} {Q:Value->Shared->Prop} {c:Value} {b:Bool}
inductive qr (K:FG9) (H:Hp):V->Value->Prop where
 | non:qr K H .non (.type "NoneType")
 | bl (x:Bool):qr K H (.bl x) (.type "bool")
 | int (i:Int):qr K H (.int i) (.type "int")
 | str (x:Str):qr K H (.str x) (.type "str")
 | flt (x:UInt64):qr K H (.flt x) (.type "float")
 | lst {a:Addr} {xs:List V} (e:H a=some (.lst xs)):qr K H (.ref a) (.type "list")
 | frz {a:Addr} {o:Obj} {xs:List V} (e:H a=some (.frz o (.lst xs))):qr K H (.ref a) (.type "list")
 | tup {a:Addr} {xs:List V} (e:H a=some (.tup xs)):qr K H (.ref a) (.type "tuple")
 | dK {a:Addr} {kvs:List (Key×V)} (e:H a=some (.dK kvs)):qr K H (.ref a) (.type "dict")
 | dT {a:Addr} {kvs:List (List Key×V)} (e:H a=some (.dT kvs)):qr K H (.ref a) (.type "dict")
 | ins {a C dx:Addr} {fs:List (Str×V)} (e:H a=some (.ins C dx fs)) (cl:BB K C) (ha:PySem.W.findIn K (.ref C) "__class__"=some (some (.builtin "object.__class__")))
   (hn:PySem.W.specialIn K (.builtin "object.__class__") "__get__"=some (some (.builtin "getset_descriptor.__get__"))) (htk:PySem.W.takesIn K (.builtin "object.__class__")=some true)
   (hm:PySem.W.mroIn K C (.type "object")=some true):qr K H (.ref a) (.ref C)
theorem vE (I:Inv X pins σ H s) (rx:RelV x u) (ty:qr X.K H x t) (e:PySem.W.kitOne X.K t c=some b) (h:∀tk,Q (.bool b) { s with toks:=tk }) :
  wpAny (model X.prog X.w) A (call (.builtin "isinstance") [u,c]) Q E s:=by
 cases ty with
 | non=>cases (show u=Value.none from rx);exact cm PySem.W.kitx_none I.kIn True.intro e (λz=>nomatch z) h
 | bl y=>cases (show u=Value.bool y from rx);exact cm PySem.W.kitx_bool I.kIn True.intro e (λz=>nomatch z) h
 | int i=>obtain ⟨t,q⟩:=(show ∃t,u=Value.int i t from rx);cases q;exact cm PySem.W.kitx_int I.kIn True.intro e (λz=>nomatch z) h
 | str y=>obtain ⟨t,q⟩:=(show ∃t,u=Value.str y t from rx);cases q;exact cm PySem.W.kitx_str I.kIn True.intro e (λz=>nomatch z) h
 | flt y=>obtain ⟨t,q⟩:=(show ∃t,u=Value.float y t from rx);cases q;exact cm PySem.W.kitx_float I.kIn True.intro e (λz=>nomatch z) h
 | @lst a xs ea =>
  cases (show u=Value.ref a from rx);obtain ⟨_,_,n,_,h1⟩:=(show eK X.prog X.w H s.heap a (.lst xs) from I.hok a _ ea);exact cm PySem.W.kitx_list I.kIn ⟨_,h1,rfl⟩ e (λz=>nomatch z) h
 | @frz a ob xs ea =>
  cases (show u=Value.ref a from rx);obtain ⟨_,_,_,n,_,h1⟩:=(show eK X.prog X.w H s.heap a (.frz ob (.lst xs)) from I.hok a _ ea);exact cm PySem.W.kitx_list I.kIn ⟨_,h1,rfl⟩ e (λz=>nomatch z) h
 | @tup a xs ea =>
  cases (show u=Value.ref a from rx);obtain ⟨_,_,_,p⟩:=(show eK X.prog X.w H s.heap a (.tup xs) from I.hok a _ ea);obtain ⟨o,h1,h2,_⟩:=p;exact cm PySem.W.kitx_tuple I.kIn ⟨o,h1,h2⟩ e (λz=>nomatch z) h
 | @dK a kvs ea =>
  cases (show u=Value.ref a from rx);obtain ⟨_,_,vs,_,p⟩:=(show eK X.prog X.w H s.heap a (.dK kvs) from I.hok a _ ea);obtain ⟨o,es,ep,h1,h2,_⟩:=p;exact cm PySem.W.kitx_dict I.kIn ⟨o,h1,h2.1⟩ e (λz=>nomatch z) h
 | @dT a kvs ea =>
  cases (show u=Value.ref a from rx);obtain ⟨_,_,xs,_,o,es,ep,h1,h2,_⟩:=(show eK X.prog X.w H s.heap a (.dT kvs) from I.hok a _ ea);exact cm PySem.W.kitx_dict I.kIn ⟨o,h1,h2.1⟩ e (λz=>nomatch z) h
 | @ins a C dx fs ea cl ha hn htk hm =>
  cases (show u=Value.ref a from rx);obtain ⟨mA,O,_⟩:=rS I.hok ea;obtain ⟨od,J,_⟩:=O.look;exact cm (PySem.W.kitx_own (cl.get _) cl.hd ha hn htk hm) I.kIn J e (λz=>nomatch z) h
end
structure ik (k:Nat) (A:Around):Prop where
 hd:A.handled=none
 dp:A.depth+3*k+5 < recursionLimit
 un:A.units+16*k+200 < cLine
theorem ik.mono (r:ik k A) (h:j<=k):ik j A:=⟨r.hd,by have:=r.dp;lia,by have:=r.un;lia⟩
theorem ik.deeper (r:ik (k+1) A) (env:Env):ik k (A.deeper env) :=
 ⟨r.hd,by have:=r.dp;show A.depth+1+3*k+5 < _;lia,by have:=r.un;show A.units+3+16*k+200 < _;lia⟩
theorem zv {A:Around}:(A.under (.builtin "type.__call__" ⟨.ref C :: us,kw⟩)).depth=A.depth+1:=by
 first | rfl | simp [Around.under,Code.weight,Code.isCreation,Code.isGuard,Code.isCaller,Code.frames,Code.isFrame,guardIds]
theorem zu {A:Around}:(A.under (.builtin "type.__call__" ⟨.ref C :: us,kw⟩)).units=A.units+1:=by
 first | rfl | simp [Around.under,Code.cUnits,Code.frames,Code.isFrame]
theorem ik.make (r:ik (k+1) A) (C:Addr) (us:List Value) (kw:List (Str×Value)):ik k (A.under (.builtin "type.__call__" ⟨.ref C :: us,kw⟩)) :=
 ⟨r.hd,by have:=r.dp;rw[zv];lia,by have:=r.un;rw[zu];lia⟩
theorem ik.depth (r:ik k A):A.depth < recursionLimit:=by have:=r.dp;lia
theorem ik.units (r:ik k A):A.units+64 < cLine:=by have:=r.un;lia
def wo:TA:=λ_ H Q=>Q [] H
def je (ta:TE) (tr:TA):TA:=λσ H Q=>ta σ H λx H1=>tr σ H1 λxs H2=>Q (x :: xs) H2
section
variable {X:Cx} {e:Expr} {es:List Expr} {te:TE} {t:TA} {pos:Pos}
theorem ae:PA X [] wo:=λ_ _ _ _ H Q I h=>Calls.spliced_nil ⟨[],H,I,.nil,h⟩
theorem aa (ha:PE X e te) (hr:PA X es t) (hs:starEach (e :: es) X.env=(false,eval e X.env) :: starEach es X.env:=by rfl):PA X (e :: es) (je te t):=by
 intro pos pins s σ H Q I h;rw[hs];show wpAny _ _ (spliced ((false,eval e X.env) :: backTo pos (starEach es X.env))) _ _ s
 refine Calls.spliced_cons (eI (ha pins s σ H _ I h) λu s1 ⟨x,H1,I1,r1,q1⟩=>?_);exact eI (hr pos pins s1 σ H1 _ I1 q1) λus s2 ⟨xs,H2,I2,r2,q2⟩=>⟨x :: xs,H2,I2,.cons r1 r2,q2⟩
def Ik (t:TA):TE:=λσ H Q=>t σ H λxs H1=>xs.length<=sizeLine/\∀p,H1 p=none->Q (.ref p) (upd H1 p (.tup xs))
def Iv (t:TA):TE:=λσ H Q=>t σ H λxs H1=>xs.length<=sizeLine/\∀p,H1 p=none->Q (.ref p) (upd H1 p (.lst xs))
theorem bU (h:PA X es t):PE X (.Tuple es x1 pos) (Ik t):=by
 intro pins s σ H Q I hq;refine wpAny_Tuple_spliced (eI (h pos pins s σ H _ I hq) λus s1 ⟨xs,H1,I1,r,z,q⟩=>⟨by rw[<- r.length];exact z,?_⟩);have hf:H1 s1.heap.objs.size=none:=I1.hok.fresh (ay _);refine ⟨.ref s1.heap.objs.size,upd H1 s1.heap.objs.size (.tup xs),I1.laid (t':=s1.toks) (λb u e=>Heap.get?_push_of_some _ e) (ay _) ?_,rfl,q _ hf⟩;exact ⟨z,us,r,⟨_,Heap.get?_push_size _ rfl,rfl,_,rfl⟩⟩
theorem dM (h:PA X es t):PE X (.List es pos) (Iv t):=by
 intro pins s σ H Q I hq;refine wpAny_List_spliced (eI (h pos pins s σ H _ I hq) λus s1 ⟨xs,H1,I1,r,z,q⟩=>⟨by rw[<- r.length];exact z,?_⟩);have hf:H1 s1.heap.objs.size=none:=I1.hok.fresh (ay _);refine ⟨.ref s1.heap.objs.size,upd H1 s1.heap.objs.size (.lst xs),I1.laid (t':=s1.toks) (λb u e=>Heap.get?_push_of_some _ e) (ay _) ?_,rfl,q _ hf⟩;exact ⟨z,us,0,r,Heap.get?_push_size _ rfl⟩
end
abbrev Sp:=List V->Hp->VK->XK->Prop
abbrev Bu:=List Env->Hp->Shared->XK->Value->Shared->Prop
structure zR (P:Program) (w:World) (K:FG9) (mg:Str->Option Value) (base:Heap) (A:Around) (outer:List Env) (s:Shared) (H:Hp):Prop where
 frames:A.frames=some outer
 mod:Mod K mg base
 bs:∀b o,base.get? b=some o->s.heap.get? b=some o/\H b=none
 bsz:base.objs.size<=s.heap.objs.size
 funs:s.heap.FunFrames base outer
 frf:∀b∈rW outer,H b=none
 hok:qv P w H s.heap
 bare:AllBare s.gens
def CE (outer:List Env) (P:Program) (w:World) (H:Hp) (s:Shared) (Q:VK) (u:Value) (s':Shared):Prop :=
 ∃v H',s'.os=s.os/\AllBare s'.gens/\Un (rW outer) [] H H' s.heap s'.heap/\qv P w H' s'.heap/\RelV v u/\Q v H'
def CR (CX:Bu) (outer:List Env) (P:Program) (w:World) (H:Hp) (s:Shared) (Q:VK) (E:XK) (r:Result) (s':Shared):Prop :=
 match r with
 | .ok (.ret u)=>CE outer P w H s Q u s'
 | .ok _=>False
 | .error e=>CX outer H s E e s'
structure cC (P:Program) (w:World) (K:FG9) (mg:Str->Option Value) (base:Heap) (CX:Bu) (k:Nat) (f:Addr) (fd:FuncData) (ps:List Str) (sp:Sp):Prop where
 len:∀vs H Q E,sp vs H Q E->vs.length=ps.length
 run:∀(A:Around) (outer:List Env) (s:Shared) (H:Hp) (args:Args) (us:List Value) (vs:List V) (Q:VK) (E:XK),ik k A->zR P w K mg base A outer s H->BindsTo s fd args (ps.zip us)->bV vs us->sp vs H Q E →
  codeAny (model P w) A (.call (.ref f) args) (CR CX outer P w H s Q E) s
theorem zR.make {K:FG9} (e:zR P w K mg base A outer s H) (C:Addr) (us:List Value) (kw:List (Str×Value)) :
  zR P w K mg base (A.under (.builtin "type.__call__" ⟨.ref C :: us,kw⟩)) outer s H:=⟨by first | exact e.frames | (simpa [Around.under,Code.envs,Code.isFrame,pushEnvs] using e.frames),e.mod,e.bs,e.bsz,e.funs,e.frf,e.hok,e.bare⟩
section
variable {X:Cx} {pins:List (Addr×Obj)} {σ:St} {H:Hp} {s s':Shared}
theorem Inv.env0 (I:Inv X pins σ H s):zR X.prog X.w X.K X.mg X.base X.A X.stack s H :=
 ⟨I.ok.frames,I.ok.mod,I.bs,ak I.ok.bsz I.sz,I.stack,I.stkFree,I.hok,I.bare⟩
theorem Inv.after (I:Inv X pins σ H s) (h:CE X.stack X.prog X.w H s Q u s'):EP X pins σ Q u s':=by
 obtain ⟨v,H',os,bare,un,hok,r,q⟩:=h;obtain ⟨hh,g,d,t,os'⟩:=s';obtain rfl:os'=s.os:=os;exact ⟨v,H',I.call (h':=hh) (g':=g) (d':=d) (t':=t) (ch:=[]) un hok bare (λb z=>absurd z (by simp)),r,q⟩
end
def BQ (sp:Sp) (dvs:List V) (E:XK) (t:TA):TE:=λσ H Q=>t σ H λvs H1=>sp (vs++dvs) H1 Q E
def Fm (C:Addr) (m:Str) (sp:Sp) (dvs:List V) (E:XK) (ta:TE) (t:TA):TE:=λσ H Q=>ta σ H λx H1=>∃a dx fs,x=.ref a/\H1 a=some (.ins C dx fs)/\fs.lookup m=none /\
 t σ H1 λvs H2=>sp (x :: (vs++dvs)) H2 Q E
def Fn (C:Addr) (sp:Sp) (dvs:List V) (E:XK) (t:TA):TE:=λσ H Q=>t σ H λvs H1=>∀x dx,H1 x=none->H1 dx=none->dx≠x →
 sp (.ref x :: (vs++dvs)) (upd (upd H1 dx (.own x)) x (.ins C dx [])) (λv H2=>v=.non/\Q (.ref x) H2) E
def Binds (K:FG9) (fd:FuncData) (ps:List Str) (ds:List Value):Prop :=
 ∀(s:Shared) (us:List Value),K.In s.heap->(us++ds).length=ps.length->BindsTo s fd ⟨us,[]⟩ (ps.zip (us++ds))
theorem Binds.all {K:FG9} (h:∀us:List Value,us.length=ps.length->bindArgs fd ⟨us,[]⟩=pure (ps.zip us)):Binds K fd ps []:=λs us _ hl=>by
 rw[dU] at hl ⊢;exact .of_eq (h us hl)
def ow (CX:Bu) (X:Cx) (E:XK):Prop:=∀(pins:List (Addr×Obj)) (σ:St) (H:Hp) (s:Shared) (e:Value) (s':Shared),Inv X pins σ H s->CX X.stack H s E e s'->X.xe e s'
section
variable {X:Cx} {CX:Bu} {k:Nat} {f C:Addr} {fd:FuncData} {ps:List Str} {sp:Sp} {dvs:List V} {ds:List Value} {E:XK} {x m:Str} {p pos apos:Pos} {e o:Expr} {es:List Expr} {ta:TE} {t:TA}
theorem Cw {σ:St} (F:cC X.prog X.w X.K X.mg X.base CX k f fd ps sp) (hr:ik k X.A) (hb:Binds X.K fd ps ds) (hd:bV dvs ds) (hx:ow CX X E)
  (I:Inv X pins σ H s) (r:bV vs us) (h:sp (vs++dvs) H Q E):wpAny (model X.prog X.w) X.A (call (.ref f) us) (EP X pins σ Q) X.xe s:=by
 have r2:bV (vs++dvs) (us++ds):=r.append hd;have hl:(us++ds).length=ps.length:=by rw[<- r2.length];exact F.len _ _ _ _ h
 refine wpAny_call (codeAny_mono (F.run X.A X.stack s H ⟨us,[]⟩ (us++ds) (vs++dvs) Q E hr I.env0 (hb s us I.kIn hl) r2 h) λr s' hq=>?_);cases r with
 | error e=>exact hx pins σ H s e s' I hq
 | ok fl =>
  cases fl with
  | ret u=>exact I.after hq
  | next=>exact False.elim hq
  | brk=>exact False.elim hq
  | cont=>exact False.elim hq
theorem wN (F:cC X.prog X.w X.K X.mg X.base CX k f fd ps sp) (hr:ik k X.A) (hg:Gl X x) (hm:X.mg x=some (.ref f)) (hk:PySem.W.keepIn X.K (.ref f)=true) (hb:Binds X.K fd ps ds) (hd:bV dvs ds) (hx:ow CX X E)
  (ha:PA X (e :: es) t) (hdb:(x == ("__debug__":Str))=false:=by decide) (he:starEach (e :: es) X.env=(false,eval e X.env) :: starEach es X.env:=by rfl) (hpl:(backTo pos (starEach es X.env)).any (·.1)=false:=by rfl) :
  PE X (.Call (.Name x p) (e :: es) [] pos) (BQ sp dvs E t):=by
 intro pins s σ H Q I h;refine wpAny_Call_Name_kw (mO I hg hm ?_ hdb);refine nK (h₀:=X.base) I.ok.mod.kin hk (eI (ha pos pins s σ H _ I h) λus s1 ⟨vs,H1,I1,r,q⟩=>⟨I1.kIn,?_⟩) he hpl;exact Cw F hr hb hd hx I1 r q
theorem Aa {pl : Sem Bool} (he : PE X o ta) (c : BB X.K C) (hm : Fd X.K C m f) (F : cC X.prog X.w X.K X.mg X.base CX k f fd ps sp) (hr : ik k X.A) (hb : Binds X.K fd ps ds) (hd : bV dvs ds) (hx : ow CX X E) (ha : PA X (e :: es) t)
    (hst : starEach (e :: es) X.env = (false, eval e X.env) :: starEach es X.env := by rfl) (hpl : (backTo pos (starEach es X.env)).any (·.1) = false := by rfl)
    (ht : eval (.Call (.Attribute o m apos) (e :: es) [] pos) X.env = (do
      let ov <- eval o X.env
      standAt apos.atName
      let (f, first) <- holding [ov] (getMethod ov m pl)
      callWith pos f first (backTo pos (starEach (e :: es) X.env)) (backToKw pos (keywordEach [] X.env))) := by rfl) :
    PE X (.Call (.Attribute o m apos) (e :: es) [] pos) (Fm C m sp dvs E ta t) := by
  intro pins s σ H Q I h;refine PySem.W.methodCall_KW (pl := pl) (eI (he pins s σ H _ I h) λu s1 ⟨x, H1, I1, rx, a, dx, fs, ex, ea, l, q⟩ => ?_) ht;subst ex;obtain rfl : u = Value.ref a := rx;refine zB I1 ea c hm l ?_;refine nK (first := [.ref a]) (h₀ := X.base) I.ok.mod.kin hm.kp (eI (ha pos pins s1 σ H1 _ I1 q) λus s2 ⟨vs, H2, I2, r, q2⟩ => ⟨I2.kIn, ?_⟩) hst hpl;exact Cw (us := .ref a :: us) (vs := .ref a :: vs) F hr hb hd hx I2 (.cons rfl r) q2
structure Mk (K:FG9) (C f:Addr):Prop where
 makes:PySem.W.makesIn K C=true
 init:PySem.W.findIn K (.ref C) "__init__"=some (some (.ref f))
 fn:PySem.W.isFn K (.ref f)=true
 kp:PySem.W.keepIn K (.ref C)=true
theorem Cv {σ:St} (M:Mk X.K C f) (F:cC X.prog X.w X.K X.mg X.base CX k f fd ps sp) (hr:ik (k+1) X.A) (hb:Binds X.K fd ps ds) (hd:bV dvs ds)
  (hx:ow CX X E) (I:Inv X pins σ H s) (r:bV vs us)
  (h:∀x dx,H x=none->H dx=none->dx≠x->sp (.ref x :: (vs++dvs)) (upd (upd H dx (.own x)) x (.ins C dx [])) (λv H2=>v=.non/\Q (.ref x) H2) E) :
  wpAny (model X.prog X.w) X.A (call (.ref C) us) (EP X pins σ Q) X.xe s:=by
 have hq:=h (s.heap.objs.size+1) s.heap.objs.size (I.hok.fresh (pK _)) (I.hok.fresh (ay _)) (bw (dm _));have I2:=Inv.made (C:=C) I;have r2:bV (V.ref (s.heap.objs.size+1) :: (vs++dvs)) (Value.ref (s.heap.objs.size+1) :: (us++ds)):=.cons rfl (r.append hd)
 have hl:(Value.ref (s.heap.objs.size+1) :: us++ds).length=ps.length:=by
  have e:=r2.length;rw[F.len _ _ _ _ hq] at e;exact e.symm
 refine wpAny_call (C0 (f:=f) I.kIn M.makes M.init (beq_iff_eq.mp M.fn) (codeAny_mono (F.run _ X.stack _ _ ⟨Value.ref (s.heap.objs.size+1) :: us,[]⟩ (Value.ref (s.heap.objs.size+1) :: (us++ds)) _ _ E (hr.make C us [])
  (I2.env0.make C us []) (hb _ (Value.ref (s.heap.objs.size+1) :: us) I2.kIn hl) r2 hq) λr s' hq'=>?_))
 cases r with
 | error e=>exact hx pins σ _ _ e s' I2 hq'
 | ok fl =>
  cases fl with
  | ret u =>
   obtain ⟨v,H',I3,rv,ev,q3⟩:=I2.after hq';subst ev;exact ⟨rv,⟨V.ref (s.heap.objs.size+1),H',I3,rfl,q3⟩⟩
  | next=>exact False.elim hq'
  | brk=>exact False.elim hq'
  | cont=>exact False.elim hq'
theorem EE (M:Mk X.K C f) (F:cC X.prog X.w X.K X.mg X.base CX k f fd ps sp) (hr:ik (k+1) X.A) (hg:Gl X x) (hm:X.mg x=some (.ref C)) (hb:Binds X.K fd ps ds) (hd:bV dvs ds) (hx:ow CX X E)
  (ha:PA X (e :: es) t) (hdb:(x == ("__debug__":Str))=false:=by decide) (he:starEach (e :: es) X.env=(false,eval e X.env) :: starEach es X.env:=by rfl) (hpl:(backTo pos (starEach es X.env)).any (·.1)=false:=by rfl) :
  PE X (.Call (.Name x p) (e :: es) [] pos) (Fn C sp dvs E t):=by
 intro pins s σ H Q I h;refine wpAny_Call_Name_kw (mO I hg hm ?_ hdb);refine nK (h₀:=X.base) I.ok.mod.kin M.kp (eI (ha pos pins s σ H _ I h) λus s1 ⟨vs,H1,I1,r,q⟩=>⟨I1.kIn,?_⟩) he hpl;exact Cv M F hr hb hd hx I1 r q
end
structure br (N P:List Str) (sc:Scope):Prop where
 kind:sc.kind=.function
 co:sc.isCoroutine=false
 gen:sc.isGenerator=false
 nd:N.Nodup
 pre:N.take P.length=P
 par:∀x∈P,sc.names.lookup x=some .local\/sc.names.lookup x=some .cell
 nofree:∀y∈sc.names,y.2≠.free
theorem vP {kindOf:Str->Option NameKind} {x:Str}:∀{binds:List (Str×Value)} {m:Str->Option Value},(∀v,(x,v)∉binds)->bindL kindOf binds m x=m x
 | [],_,_=>rfl
 | (n,v) :: r,m,h=>by
  unfold bindL;rw[vP λw hw=>h w (bD _ hw)]
  split
  ·have:x≠n:=by rintro rfl;exact h v cD
   simp [this]
  ·rfl
theorem vR {kindOf:Str->Option NameKind} {x:Str}:∀{binds:List (Str×Value)} {m:Str->Option Value},(∀v,(x,v)∉binds)->bindC kindOf binds m x=m x
 | [],_,_=>rfl
 | (n,v) :: r,m,h=>by
  unfold bindC;rw[vR λw hw=>h w (bD _ hw)]
  split
  ·rfl
  ·have:x≠n:=by rintro rfl;exact h v cD
   simp [this]
theorem vQ {kindOf:Str->Option NameKind} {x:Str} {v:Value}:∀{P:List Str} {vs:List Value} {i:Nat} {m:Str->Option Value},P.Nodup->P[i]?=some x->vs[i]?=some v->kindOf x=some .local →
  bindL kindOf (P.zip vs) m x=some v
 | [],_,_,_,_,h,_,_=>by simp at h
 | _ :: _,[],_,_,_,_,h,_=>by simp at h
 | p :: P,w :: vs,0,m,nd,h1,h2,hk=>by
  simp at h1 h2;subst h1;subst h2;show bindL kindOf ((p,w) :: P.zip vs) m p=_
  unfold bindL;rw[vP λv hv=>(cT.mp nd).1 (DT hv).1,if_pos hk];simp
 | p :: P,w :: vs,i+1,m,nd,h1,h2,hk=>by
  show bindL kindOf ((p,w) :: P.zip vs) m x=_
  unfold bindL;exact vQ (i:=i) (cT.mp nd).2 (by simpa using h1) (by simpa using h2) hk
theorem vS {kindOf:Str->Option NameKind} {x:Str} {v:Value}:∀{P:List Str} {vs:List Value} {i:Nat} {m:Str->Option Value},P.Nodup->P[i]?=some x->vs[i]?=some v->kindOf x≠some .local →
  bindC kindOf (P.zip vs) m x=some v
 | [],_,_,_,_,h,_,_=>by simp at h
 | _ :: _,[],_,_,_,_,h,_=>by simp at h
 | p :: P,w :: vs,0,m,nd,h1,h2,hk=>by
  simp at h1 h2;subst h1;subst h2;show bindC kindOf ((p,w) :: P.zip vs) m p=_
  unfold bindC;rw[vR λv hv=>(cT.mp nd).1 (DT hv).1,if_neg hk];simp
 | p :: P,w :: vs,i+1,m,nd,h1,h2,hk=>by
  show bindC kindOf ((p,w) :: P.zip vs) m x=_
  unfold bindC;exact vS (i:=i) (cT.mp nd).2 (by simpa using h1) (by simpa using h2) hk
def start (N:List Str) (vs:List V):St:=vs.map some++List.replicate (N.length - vs.length) none
def uV (CX:Bu) (P:Program) (w:World) (K:FG9) (mg:Str->Option Value) (base:Heap) (N:List Str) (qual:Str) (scope:Scope) (f:Addr) (cd:Value) (A:Around) (outer:List Env) (s:Shared) (H:Hp) (E:XK):Cx where
 prog:=P
 w:=w
 K:=K
 mg:=mg
 base:=base
 A:=A.deeper (envOfC qual scope s.heap.objs.size f cd)
 N:=N
 s₀:=s
 H₀:=H
 env:=envOfC qual scope s.heap.objs.size f cd
 outer:=outer
 stack:=envOfC qual scope s.heap.objs.size f cd :: outer
 ex:=[]
 calm:=true
 fn:=λ_=>true
 pn:=[]
 xe:=λe s'=>wpAny (model P w) (A.deeper (envOfC qual scope s.heap.objs.size f cd)) (leaving (envOfC qual scope s.heap.objs.size f cd) e) (λ_ s''=>CX outer H s E e s'') (λe' s''=>CX outer H s E e' s'') s'
theorem yz {sc:Scope} (h:sc.names.lookup x=some .cell):∃c,(cellsFrom n sc.names []).lookup x=some c:=by
 have q:=sF sc.names n [] (.inl h);exact pN.mp q
theorem Bj {K:FG9} 
  (S:br N ps scope) (hd:A.handled=none) (e0:zR P w K mg base A outer s H) (hl:vs.length=ps.length) (r:bV vs us)
  (x:InCallC s s.heap.objs.size (bindL (envOfC qual scope s.heap.objs.size f cd).kindOf (ps.zip us) λ_=>none) (cellsFrom (s.heap.objs.size+1) scope.names []) (bindC (envOfC qual scope s.heap.objs.size f cd).kindOf (ps.zip us) λ_=>none) s1) :
  Inv (uV CX P w K mg base N qual scope f cd A outer s H E) [] (start N vs) H s1:=by
 have hpl:ps.length<=N.length:=by have:=congrArg List.length S.pre;rw[dq] at this;lia
 obtain ⟨h1,tk,rfl,hk⟩:=x.done;have noA:∀b:Addr,b∉(uV CX P w K mg base N qual scope f cd A outer s H E).ex:=λb z=>absurd (show b∈([]:List Addr) from z) (by simp)
 refine ⟨⟨e0.mod,S.kind,rfl,rfl,ay _,λy z c h1 h2=>?_,λy hy=>?_,λy c _ h=>?_,λ_=>hd,Around.frames_deeper e0.frames,.inr ⟨rfl,rfl⟩,λb z=>absurd z (noA b),e0.bs,e0.bsz,λb _ _=>noA b,λb z=>absurd z (noA b),e0.funs,e0.frf⟩,
  rfl,e0.bare,Un.kept hk,⟨_,x.toInCall.ns,λi y v h1 h2 h3=>?_⟩,λy c h=>⟨_,x.cell y c h⟩,e0.hok.fresh (ay _),λy c h=>?_,λp hp=>absurd (show p∈([]:List (Addr×Obj)) from hp) (by simp),e0.hok.kept hk,?_⟩
 ·exact name_of_addr x.apart (iK h1) (iK h2)
 ·have hy:scope.names.lookup y=some .cell\/scope.names.lookup y=some .free:=hy;rcases hy with hy | hy
  ·exact yz hy
  ·exact absurd rfl (S.nofree _ (iK hy))
 ·exact aU (x.above y c (iK h))
 ·have hi:i < vs.length:=by
   unfold start at h2;by_cases hi:i < vs.length
   ·exact hi
   ·rw[gY (by simpa using hi)] at h2;rw[jv] at h2
    split at h2 <;> cases h2
  have ha:vs[i]?=some v:=by
   unfold start at h2;rw[oy (by simpa using hi),aY] at h2;cases e:vs[i]? with
   | none=>rw[e] at h2;cases h2
   | some a=>rw[e] at h2;cases h2;rfl
  obtain ⟨u,hu,rv⟩:=r.get ha
  have hp:ps[i]?=some y:=by
   rw[<- S.pre,Ih (by lia)];exact h1
  have ndP:ps.Nodup:=by rw[<- S.pre];exact S.nd.sublist (List.take_sublist _ _)
  refine ⟨u,rv,?_⟩;rcases S.par y (aj hp) with k | k
  ·exact .inl ⟨k,vQ ndP hp hu k⟩
  ·obtain ⟨c,e⟩:=yz (n:=s.heap.objs.size+1) k;refine .inr ⟨.inl k,c,e,?_⟩;have q:=x.cell y c e;rw[vS ndP hp hu (by show scope.names.lookup y≠_;rw[k];decide)] at q;exact q
 ·exact e0.hok.fresh (aU (x.above y c (iK h)))
 ·unfold start;show _=N.length
  rw[aG,av,aT]
  lia
theorem FG {K:FG9} {dV kV doc pm cdv ct oc:Value} 
 (lk:K.lookup f=some ⟨oc,od,.func (PySem.W.fnOf name qual params body scope dV kV doc pm an cdv ct),osl⟩) (hcd:PySem.W.codeIn K cdv qual=true) (S:br N ps scope)
  (len:∀vs H Q E,sp vs H Q E->vs.length=ps.length)
  (hbody:∀(A:Around) (outer:List Env) (s:Shared) (H:Hp) (vs:List V) (Q:VK) (E:XK),ik k (A.deeper (envOfC qual scope s.heap.objs.size f cdv))->sp vs H Q E →
   ∃t,xv (uV CX P w K mg base N qual scope f cdv A outer s H E) body t/\t { nx:=λ_ H'=>Q .non H',rt:=Q } (start N vs) H) :
  cC P w K mg base CX (k+1) f (PySem.W.fnOf name qual params body scope dV kV doc pm an cdv ct) ps sp:=by
 refine ⟨len,λA outer s H args us vs Q E hr e0 hb r hsp=>?_⟩;have hl:=len _ _ _ _ hsp;have KX:K.In s.heap:=e0.mod.kin.keeps λb o e=>(e0.bs b o e).1
 have lim:s.heap.NoLimit:=e0.mod.nolimit.keeps λb o e=>(e0.bs b o e).1
 have hkind:∀y∈ps.zip us,scope.names.lookup y.1=some .local\/(scope.names.lookup y.1=some .cell/\((cellsFrom (s.heap.objs.size+1) scope.names []).lookup y.1).isSome=true):=λ⟨n,v⟩ hy=>by
  rcases S.par n (DT hy).1 with q | q
  ·exact .inl q
  ·exact .inr ⟨q,sF _ _ _ (.inl q)⟩
 refine codeAny_call_function hr.depth (KX _ _ lk) rfl S.co S.gen rfl (PySem.W.codeRec_of KX hcd) (hb _ _ _ _ ?_);refine wpAny_newFunctionEnv_cells S.kind hkind λenv he s1 x=>?_
 subst he;refine ⟨lim.keeps x.toInCall.keep,codeAny_func ?_⟩;obtain ⟨t,ht,hq⟩:=hbody A outer s H vs Q E (hr.deeper _) hsp;have I:Inv (uV CX P w K mg base N qual scope f cdv A outer s H E) [] (start N vs) H s1:=Bj S hr.hd e0 hl r x;refine wpAny_mono (ht [] s1 (start N vs) H _ I hq) (λfl s' hs=>?_) λe s' hs=>hs
 have fin:∀{σ':St} {H':Hp} {v:V} {u:Value},Inv (uV CX P w K mg base N qual scope f cdv A outer s H E) [] σ' H' s'->RelV v u->Q v H'->CE outer P w H s Q u s' :=
  λ{σ' H' v u} J rv q=>⟨v,H',J.os,J.bare,J.base,J.hok,rv,q⟩
 cases fl with
 | ret u =>
  obtain ⟨v,σ',H',J,rv,q⟩:=hs;exact fin J rv q
 | next =>
  obtain ⟨σ',H',J,q⟩:=hs;exact fin (v:=V.non) (u:=Value.none) J rfl q
 | brk =>
  obtain ⟨_,_,_,q⟩:=hs;exact False.elim q
 | cont =>
  obtain ⟨_,_,_,q⟩:=hs;exact False.elim q
section
variable {X:Cx} {x:Str} {p pos:Pos} {e:Expr} {es:List Expr} {t:TA} {id T:String} {r:List V->Hp->VK->Prop}
def JR (r:List V->Hp->VK->Prop) (t:TA):TE:=λσ H Q=>t σ H λvs H1=>r vs H1 Q
theorem bE (hc:mF X (.builtin id) r) (hg:Gl X x) (hm:X.mg x=none) (hv:bootBuiltins x=some (.builtin id)) (ha:PA X (e :: es) t) (hn:x≠"__name__":=by decide) (hdb:(x == ("__debug__":Str))=false:=by decide)
  (he:starEach (e :: es) X.env=(false,eval e X.env) :: starEach es X.env:=by rfl) (hpl:(backTo pos (starEach es X.env)).any (·.1)=false:=by rfl):PE X (.Call (.Name x p) (e :: es) [] pos) (JR r t):=by
 intro pins s σ H Q I h;refine wpAny_Call_Name_kw (ij I hg hm hv ?_ hn hdb);exact PyProof.Rows.callWith_builtin1 (eI (ha pos pins s σ H _ I h) λus s1 ⟨vs,H1,I1,r1,q1⟩=>hc pins s1 σ H1 vs us Q I1 r1 q1) he hpl
theorem fw (hc:mF X (.type T) r) (hg:Gl X x) (hm:X.mg x=none) (hv:bootBuiltins x=some (.type T)) (ha:PA X (e :: es) t) (hn:x≠"__name__":=by decide) (hdb:(x == ("__debug__":Str))=false:=by decide)
  (he:starEach (e :: es) X.env=(false,eval e X.env) :: starEach es X.env:=by rfl) (hpl:(backTo pos (starEach es X.env)).any (·.1)=false:=by rfl):PE X (.Call (.Name x p) (e :: es) [] pos) (JR r t):=by
 intro pins s σ H Q I h;refine wpAny_Call_Name_kw (ij I hg hm hv ?_ hn hdb);exact PyProof.Rows.callWith_type1 (eI (ha pos pins s σ H _ I h) λus s1 ⟨vs,H1,I1,r1,q1⟩=>hc pins s1 σ H1 vs us Q I1 r1 q1) he hpl
end
end L2
namespace HT
open PySem PyProof.Rows
section
open PySem.SeqAt
open PySem.AutoSeq1 (wpAny_loadPart')
open PySem.MeetsSeq PySem.MeetsSeq2 PySem.MeetsSeq3
end
section
variable {prog:Program} {w:World} {A:Around} {E:Value->Shared->Prop} {s:Shared}
def xU (n d:Nat):Option Int->Nat
 | none=>d
 | some v=>if v < 0 then (v+(n:Int)).toNat else min v.toNat n
theorem Cu (n d:Nat):xU n d none=d:=rfl
theorem Eb (n d k:Nat):xU n d (some (k:Int))=min k n:=by
 show (if (k:Int) < 0 then ((k:Int)+(n:Int)).toNat else min (k:Int).toNat n)=min k n
 rw[if_neg (by lia),Int.toNat_natCast]
end
end HT
namespace L2
open PySem PySem.Spec PyProof.Rows
abbrev TO:=St->Hp->(Option Int->Hp->Prop)->Prop
def PO (X:Cx) (e:Option Expr) (t:TO):Prop :=
 ∀(pins:List (Addr×Obj)) (s:Shared) (σ:St) (H:Hp) (Q:Option Int->Hp->Prop),Inv X pins σ H s->t σ H Q →
  wpAny (model X.prog X.w) X.A (evalPart e X.env) (λu s'=>∃o H',Inv X pins σ H' s'/\IsPart u o/\Q o H') X.xe s
def zV:TO:=λ_ H Q=>Q none H
def Fj (t:TE):TO:=λσ H Q=>t σ H λx H1=>∃i,x=.int i/\Q (some i) H1
theorem intsAre_of:∀{us:List Value},bV (ns.map V.int) us->IntsAre us ns:=by
 induction ns with
 | nil=>intro us r;rw[List.map_nil] at r;cases r;exact .nil
 | cons n ns ih =>
  intro us r;rw[cQ] at r;cases r with
  | cons r1 r2 =>
   obtain ⟨t,e⟩:=r1;subst e;exact .cons n t (ih r2)
section
variable {X:Cx} {e:Expr} {te:TE} {lo hi:Option Expr} {tl th:TO} {pos p2:Pos}
theorem wM:PO X none zV:=by
 intro pins s σ H Q I h;rw[evalPart_none];exact wpAny_pure ⟨none,H,I,.none,h⟩
theorem wL (h:PE X e te):PO X (some e) (Fj te):=by
 intro pins s σ H Q I hw;rw[evalPart_some];refine eI (h pins s σ H _ I hw) λu s1 ⟨x,H1,I1,r1,q1⟩=>?_
 obtain ⟨i,rfl,q⟩:=q1;obtain ⟨t,rfl⟩:=r1;exact ⟨some i,H1,I1,.int i t,q⟩
def SlR (X:Cx) (r:V->Option Int->Option Int->Hp->VK->Prop):Prop :=
 ∀(pins:List (Addr×Obj)) (s:Shared) (σ:St) (H:Hp) (x:V) (v vl vu:Value) (lo hi:Option Int) (sl:Addr) (Q:VK),Inv X pins σ H s->RelV x v->s.heap.IsSliceOf sl vl vu .none->IsPart vl lo->IsPart vu hi->r x lo hi H Q →
  ∃T id,typeLookup (.type T) "__getitem__"=pure (some (.builtin id))/\s.TypeIs v T/\wpAny (model X.prog X.w) X.A (getItem v (.ref sl)) (EP X pins σ Q) X.xe s
def tSl (r:V->Option Int->Option Int->Hp->VK->Prop) (te:TE) (tl th:TO):TE:=λσ H Q=>te σ H λx H1=>tl σ H1 λl H2=>th σ H2 λu H3=>r x l u H3 Q
theorem tE (hr:SlR X r) (he:PE X e te) (hl:PO X lo tl) (hu:PO X hi th):PE X (.Subscript e (.Slice lo hi none p2) pos) (tSl r te tl th):=by
 intro pins s σ H Q I h;refine Subscript_ (eI (he pins s σ H _ I h) λv s1 ⟨x,H1,I1,r1,q1⟩=>?_);refine wpAny_Slice (eI (hl pins s1 σ H1 _ I1 q1) λvl s2 ⟨l,H2,I2,pl,q2⟩=>eI (hu pins s2 σ H2 _ I2 q2) λvu s3 ⟨u,H3,I3,pu,q3⟩=>?_);rw[evalPart_none];refine wpAny_pure ?_;have I4:Inv X pins σ H3 { s3 with heap:=s3.heap.push { cls:=.type "slice",data:=.fields #[vl,vu,.none] } }:=I3.kept (t':=s3.toks) λb ob q=>Heap.get?_push_of_some _ q
 obtain ⟨T,id,hT,ht,hg⟩:=hr pins { s3 with heap:=s3.heap.push { cls:=.type "slice",data:=.fields #[vl,vu,.none] } } σ H3 x v vl vu l u s3.heap.objs.size Q I4 r1 (Heap.IsSliceOf.new ..) pl pu q3;show wpAny (model X.prog X.w) X.A (subscriptTail e (.Slice lo hi none p2) v (.ref s3.heap.objs.size)) (EP X pins σ Q) X.xe { s3 with heap:=s3.heap.push { cls:=.type "slice",data:=.fields #[vl,vu,.none] } }
 exact tail_any (ops:=[.ref s3.heap.objs.size,v]) ht hT hg (by with_unfolding_all rfl)
def rM (xs:List V) (lo hi:Option Int):List V:=(xs.drop (HT.xU xs.length 0 lo)).take (HT.xU xs.length xs.length hi - HT.xU xs.length 0 lo)
theorem qU (xs:List V) (lo hi:Option Int):(rM xs lo hi).length<=xs.length:=by
 unfold rM;rw[dq,List.length_drop]
 lia
end
def Bv (n:Nat) (i:Int):Option Nat:=if 0<=i then (if i < n then some i.toNat else none) else if -(n:Int)<=i then some (i+n).toNat else none
def Aw {α:Type} (xs:List α) (i:Int):Option α:=(Bv xs.length i).bind λj=>xs[j]?
theorem Ai (h:Bv n i=some j):seqIndex? i n=some j/\j < n/\-(n:Int)<=i/\i < n:=by
 unfold Bv at h;by_cases h0:0<=i
 ·rw[if_pos h0] at h;by_cases h1:i < n
  ·rw[if_pos h1] at h;have e:i.toNat=j:=bR h;exact ⟨by rw[seqIndex_of h0 h1,e],by lia,by lia,h1⟩
  ·rw[if_neg h1] at h;cases h
 ·rw[if_neg h0] at h;by_cases h1:-(n:Int)<=i
  ·rw[if_pos h1] at h;have e:(i+n).toNat=j:=bR h;exact ⟨by rw[seqIndex_neg (by lia) h1,e],by lia,h1,by lia⟩
  ·rw[if_neg h1] at h;cases h
theorem xj {xs:List α} {v:α} (h:Aw xs i=some v):∃j,seqIndex? i xs.length=some j/\xs[j]?=some v/\j < xs.length/\-(xs.length:Int)<=i/\i < xs.length:=by
 unfold Aw at h;cases e:Bv xs.length i with
 | none=>rw[e] at h;cases h
 | some j =>
  rw[e] at h;obtain ⟨h1,h2,h3,h4⟩:=Ai e;exact ⟨j,h1,h,h2,h3,h4⟩
theorem cM {xs:List α} {j:Nat} {v:α} (h:xs[j]?=some v):Aw xs (j:Int)=some v:=by
 have hj:j < xs.length:=(aF.mp h).1
 have e:Bv xs.length (j:Int)=some j:=by
  unfold Bv;rw[if_pos (by lia),if_pos (by lia)];simp
 unfold Aw;rw[e];exact h
theorem DJ (xs:List α) (v:α):Aw (xs++[v]) (-1)=some v:=by
 have hl:(xs++[v]).length=xs.length+1:=by simp
 have e:Bv (xs++[v]).length (-1)=some xs.length:=by
  unfold Bv;rw[hl,if_neg (by decide),if_pos (by lia)];congr 1
  lia
 unfold Aw;rw[e];show (xs++[v])[xs.length]?=some v
 simp
def Fc (b:Expr):Prop:=∀o i,subscripted b false o i=operate [o,i] (getItem o i)
def Jx (X:Cx) (r:R2):Prop :=
 ∀(value slice:Expr) (pins:List (Addr×Obj)) (s:Shared) (σ:St) (H:Hp) (x y:V) (v u:Value) (Q:VK),Inv X pins σ H s->RelV x v->RelV y u->r x y H Q →
  subscripted slice false v u=operate [v,u] (getItem v u)->wpAny (model X.prog X.w) X.A (subscriptTail value slice v u) (EP X pins σ Q) X.xe s
def MtR (X:Cx) (id:String) (r:V->List V->Hp->VK->Prop):Prop :=
 ∀(pins:List (Addr×Obj)) (s:Shared) (σ:St) (H:Hp) (x:V) (xs:List V) (v:Value) (us:List Value) (Q:VK),Inv X pins σ H s->RelV x v->bV xs us->r x xs H Q →
  wpAny (model X.prog X.w) X.A (call (.builtin id) (v :: us)) (EP X pins σ Q) X.xe s
section
variable {X:Cx} {a b:Expr} {ta tb:TE} {pos:Pos}
theorem bg {r:R2} (hr:Jx X r) (ha:PE X a ta) (hb:PE X b tb) (hs:Fc b:=by intro _ _;rfl):PE X (.Subscript a b pos) (Ir r ta tb):=by
 intro pins s σ H Q I h;exact Subscript_ (HN ha hb I h λv u s2 x y H2 I2 rx ry q=>hr a b pins s2 σ H2 x y v u Q I2 rx ry q (hs _ _))
def GH (K:FG9):R2:=λx y H Q=>∃p xs i v,x=.ref p/\y=.int i/\bB K H p xs/\Aw xs i=some v/\Q v H
def GG (K:FG9):R2:=λx y H Q=>∃p xs i v,x=.ref p/\y=.int i/\iP K H p xs/\Aw xs i=some v/\Q v H
theorem bz:Jx X (GH X.K):=by
 intro value slice pins s σ H x y v u Q I rx ry h hs;obtain ⟨p,xs,i,z,rfl,rfl,hq,he,q⟩:=h;cases rx;obtain ⟨t,rfl⟩:=ry;obtain ⟨its,r,pl,hz⟩:=I.list hq;obtain ⟨j,h1,h2,h3,h4,h5⟩:=xj he;obtain ⟨w,ew,rw'⟩:=r.get h2;have hl:=r.length;have hn:=tZ;have fin:EP X pins σ Q w s:=⟨z,H,I,rw',q⟩;by_cases h0:0<=i
 ·have hj:i.toNat=j:=by
   rw[seqIndex_of h0 h5] at h1;exact bR h1
  exact item_listR pl.isList h0 (by lia) (by rw[hj];simpa using ew) fin hs
 ·have hj:(i+(its.toArray.size:Int)).toNat=j:=by
   rw[seqIndex_neg (by lia) h4] at h1;rw[aE,<- hl];exact bR h1
  exact subscriptTail_builtinR (x:=w) pl.isList.typeIs slot_list_getitem.lookup
   (wpAny_getItem_list_neg (Q:=λr s'=>r=w/\EP X pins σ Q r s') pl.isList (by lia) (by rw[aE] <;> lia) (by lia) (by rw[hj];simpa using ew) ⟨rfl,fin⟩) hs
theorem bX:Jx X (GG X.K):=by
 intro value slice pins s σ H x y v u Q I rx ry h hs;obtain ⟨p,xs,i,z,rfl,rfl,hq,he,q⟩:=h;cases rx;obtain ⟨t,rfl⟩:=ry;obtain ⟨its,r,pl,hz⟩:=I.tuple hq;obtain ⟨j,h1,h2,h3,h4,h5⟩:=xj he;obtain ⟨w,ew,rw'⟩:=r.get h2;have hl:=r.length;have hn:=tZ;have fin:EP X pins σ Q w s:=⟨z,H,I,rw',q⟩
 exact subscriptTail_builtinR (x:=w) pl.typeIs slot_tuple_getitem.lookup
  (getItem_tuple (j:=j) (Q:=λr s'=>r=w/\EP X pins σ Q r s') pl (by lia) (by lia) (by rw[aE,<- hl];exact h1) (by simpa using ew) ⟨rfl,fin⟩) hs
theorem zq (its:List Value) (n j:Nat) (u:Value):Obj.mapSeq (·.setIfInBounds j u) { cls:=.type "list",data:=.seq its.toArray n }={ cls:=.type "list",data:=.seq (its.set j u).toArray n }:=by
 simp [Obj.mapSeq]
theorem Inv.lst {pins:List (Addr×Obj)} {σ:St} {H:Hp} {s:Shared} {p:Addr} {xs:List V} (I:Inv X pins σ H s) (h:H p=some (.lst xs)) :
  ∃(its:List Value) (n:Nat),bV xs its/\s.heap.get? p=some { cls:=.type "list",data:=.seq its.toArray n }/\xs.length<=sizeLine:=by
 obtain ⟨z,its,n,r,e⟩:=I.hok p _ h;exact ⟨its,n,r,e,z⟩
theorem Inv.lstUpd {σ:St} {its its':List Value} (I:Inv X pins σ H s) (h:H p=some (.lst xs))
  (ho:s.heap.get? p=some { cls:=.type "list",data:=.seq its.toArray n }) (hf:f { cls:=.type "list",data:=.seq its.toArray n }={ cls:=.type "list",data:=.seq its'.toArray n' }) (r:bV ys its') (hz:ys.length<=sizeLine) (t:Nat) :
  Inv X pins σ (upd H p (.lst ys)) { s with heap:=s.heap.update p f,toks:=t }:=by
 have e:(s.heap.update p f).get? p=some { cls:=.type "list",data:=.seq its'.toArray n' }:=by
  rw[Heap.get?_update_self f ho (by rw[hf] <;> rfl),hf]
 refine I.write (x:=p) (e:=p) (by rw[h];trivial) (.inl rfl) (λb u hb q=>(Heap.get?_update_other _ _ (Ne.symm hb)).trans q) ⟨_,e⟩ ?_;exact ⟨hz,its',n',r,e⟩
def Fs:V->V->V->Hp->(Hp->Prop)->Prop:=λo i v H Q=>∃p xs k j,o=.ref p/\i=.int k/\H p=some (.lst xs)/\Bv xs.length k=some j/\Q (upd H p (.lst (xs.set j v)))
theorem set_list:HP X Fs:=by
 intro pins s σ H o i v ov iv u Q I ro ri rv h;obtain ⟨p,xs,k,j,rfl,rfl,hp,hj,q⟩:=h;cases ro;obtain ⟨t,rfl⟩:=ri;obtain ⟨its,n,r,ho,hz⟩:=I.lst hp;obtain ⟨h1,h2,h3,h4⟩:=Ai hj;have hl:=r.length;have hn:=tZ
 have I':Inv X pins σ (upd H p (.lst (xs.set j v))) { s with heap:=s.heap.update p (Obj.mapSeq (·.setIfInBounds j u)) } :=
  I.lstUpd hp ho (zq its n j u) (r.set rv j) (by rw[lK];exact hz) s.toks
 by_cases h0:0<=k
 ·have hk:k.toNat=j:=by
   rw[seqIndex_of h0 h4] at h1;exact bR h1
  exact PySem.W.ki_setAt ho h0 (by lia) (by rw[aE,<- hl];exact h4) (by rw[hk];exact ⟨_,I',q⟩)
 ·have hk:(k+(its.toArray.size:Int)).toNat=j:=by
   rw[seqIndex_neg (by lia) h3] at h1;rw[aE,<- hl];exact bR h1
  exact PySem.W.ki_setBack ho (by lia) (by rw[aE,<- hl];exact h3) (by lia) (by rw[hk];exact ⟨_,I',q⟩)
theorem wA (lo hi:Option Int) (n:Nat):(sliceBounds lo hi none n).1=((HT.xU n 0 lo:Nat):Int)/\(sliceBounds lo hi none n).2.1=((HT.xU n n hi:Nat):Int)/\(sliceBounds lo hi none n).2.2=1:=by
 refine ⟨?_,?_,rfl⟩
 ·cases lo with
  | none=>simp [sliceBounds,HT.xU]
  | some i =>
   simp only[sliceBounds,HT.xU,Option.getD_none,show (1:Int) > 0 by decide,if_true];by_cases h:i < 0
   ·simp only[h,if_true] <;> lia
   ·simp only[h,if_false] <;> lia
 ·cases hi with
  | none=>simp [sliceBounds,HT.xU]
  | some i =>
   simp only[sliceBounds,HT.xU,Option.getD_none,show (1:Int) > 0 by decide,if_true];by_cases h:i < 0
   ·simp only[h,if_true] <;> lia
   ·simp only[h,if_false] <;> lia
theorem uO (its:List Value) (lo hi:Option Int):slicePick its.toArray lo hi none=((its.drop (HT.xU its.length 0 lo)).take (HT.xU its.length its.length hi - HT.xU its.length 0 lo)).toArray:=by
 obtain ⟨h1,h2,h3⟩:=wA lo hi its.toArray.size;unfold slicePick;rw[h1,h2,h3];simp only[sliceRange_one,pick_run,aE] <;> rfl
def IQ (K:FG9):V->Option Int->Option Int->Hp->VK->Prop:=λx lo hi H Q=>∃a xs,x=.ref a/\bB K H a xs/\∀p,H p=none->Q (.ref p) (upd H p (.lst (rM xs lo hi)))
theorem wB:SlR X (IQ X.K):=by
 intro pins s σ H x v vl vu lo hi sl Q I rx hs pl pu h;obtain ⟨a,xs,rfl,hx,q⟩:=h;cases rx;obtain ⟨its,r,ht,hz⟩:=I.list hx;have hlen:=r.length;refine ⟨"list",_,slot_list_getitem.lookup,ht.isList.typeIs,?_⟩;refine wpAny_getItem_list_slice ht.isList hs pl pu .none (by simp) ?_ (by rw[aE] <;> lia);rw[uO,<- hlen];refine ⟨.ref s.heap.objs.size,_,I.laid (t':=s.toks) (o:=.lst (rM xs lo hi)) (λb ob q=>Heap.get?_push_of_some _ q) (ay _) ?_,rfl,q _ (I.hok.fresh (ay _))⟩;exact ⟨ak (qU xs lo hi) hz,_,0,(r.drop (HT.xU xs.length 0 lo)).take (HT.xU xs.length xs.length hi - HT.xU xs.length 0 lo),Heap.get?_push_size _ rfl⟩
def qH:V->Bool
 | .non=>true
 | .bl _=>true
 | .int _=>true
 | .str _=>true
 | _=>false
def FI:V->V->Bool
 | .non,.non=>true
 | .bl a,.bl b=>a == b
 | .bl a,.int b=>(if a then 1 else 0) == b
 | .int a,.bl b=>a == (if b then 1 else 0)
 | .int a,.int b=>a == b
 | .str a,.str b=>a == b
 | _,_=>false
theorem HI (ry:RelV y u) (rx:RelV x v) (fy:qH y=true) (fx:qH x=true):SeqAt.EqAt A s u v (FI y x):=by
 cases y with
 | non =>
  cases ry;cases x with
  | non=>cases rx;exact SeqAt.EqAt.same _
  | bl b=>cases rx;exact SeqAt.EqAt.none_bool b
  | int b=>obtain ⟨t,rfl⟩:=rx;exact SeqAt.EqAt.none_int b t
  | str b=>obtain ⟨t,rfl⟩:=rx;exact SeqAt.EqAt.none_str b t
  | _=>exact absurd (show false=true from fx) aM
 | bl a =>
  cases ry;cases x with
  | non=>cases rx;exact SeqAt.EqAt.bool_none a
  | bl b=>cases rx;exact SeqAt.EqAt.bool_bool a b
  | int b=>obtain ⟨t,rfl⟩:=rx;exact SeqAt.EqAt.bool_int a b t
  | str b=>obtain ⟨t,rfl⟩:=rx;exact SeqAt.EqAt.bool_str a b t
  | _=>exact absurd (show false=true from fx) aM
 | int a =>
  obtain ⟨t',rfl⟩:=ry;cases x with
  | non=>cases rx;exact SeqAt.EqAt.int_none a t'
  | bl b=>cases rx;exact SeqAt.EqAt.int_bool a t' b
  | int b=>obtain ⟨t,rfl⟩:=rx;exact SeqAt.EqAt.int_int a t' b t
  | str b=>obtain ⟨t,rfl⟩:=rx;exact SeqAt.EqAt.int_str a t' b t
  | _=>exact absurd (show false=true from fx) aM
 | str a =>
  obtain ⟨t',rfl⟩:=ry;cases x with
  | non=>cases rx;exact SeqAt.EqAt.str_none a t'
  | bl b=>cases rx;exact SeqAt.EqAt.str_bool a t' b
  | int b=>obtain ⟨t,rfl⟩:=rx;exact SeqAt.EqAt.str_int a t' b t
  | str b=>obtain ⟨t,rfl⟩:=rx;exact SeqAt.EqAt.str_str a t' b t
  | _=>exact absurd (show false=true from fx) aM
 | _=>exact absurd (show false=true from fy) aM
def EW (x:V) (u:Value):Bool:=match u with
 | .none=>FI .non x
 | .bool b=>FI (.bl b) x
 | .int i _=>FI (.int i) x
 | .str z _=>FI (.str z) x
 | _=>false
theorem Dv (r:RelV y u) (f:qH y=true):EW x u=FI y x:=by
 cases y with
 | non=>cases r;rfl
 | bl b=>cases r;rfl
 | int i=>obtain ⟨t,rfl⟩:=r;rfl
 | str z=>obtain ⟨t,rfl⟩:=r;rfl
 | _=>exact absurd (show false=true from f) aM
theorem xm {x:V}:∀{xs:List V} {us:List Value},bV xs us->xs.all qH=true->us.any (EW x)=xs.any λy=>FI y x
 | _,_,.nil,_=>rfl
 | y :: xs,u :: us,.cons r t,f=>by
  rw[yL,cH] at f;rw[List.any_cons,List.any_cons,Dv r f.1,xm t f.2]
theorem tV {A:Around} {s:Shared} {x:V} {v:Value} (rx:RelV x v) (fx:qH x=true):∀{xs:List V} {us:List Value},bV xs us->xs.all qH=true->∀u∈us,SeqAt.EqAt A s u v (EW x u)
 | _,_,.nil,_=>λu hu=>by cases hu
 | y :: xs,u :: us,.cons r t,f=>λu' hu=>by
  rw[yL,cH] at f;rcases az.mp hu with rfl | hu
  ·rw[Dv r f.1];exact HI r rx f.1 fx
  ·exact tV rx fx t f.2 u' hu
def JF (x:V) (xs:List V):Bool:=xs.any λy=>FI y x
def rIn (K:FG9) (neg:Bool):R2:=λx y H Q=>∃p xs,y=.ref p/\(bB K H p xs\/iP K H p xs)/\qH x=true/\xs.all qH=true/\Q (.bl (if neg then !JF x xs else JF x xs)) H
theorem AY:so X (compareOp .In) (rIn X.K false):=by
 intro pins s σ H x y v u Q I rx ry h;obtain ⟨p,xs,rfl,hq,fx,fs,q⟩:=h;cases ry;rcases hq with hq | hq
 ·obtain ⟨its,r,pl,hz⟩:=I.list hq;refine SeqAt.in_listAt (EW x) pl.isList (λw hw=>tV rx fx r fs w (by simpa using hw)) ⟨.bl _,H,I,rfl,?_⟩;rw[show its.toArray.any (EW x)=its.any (EW x) by simp,xm r fs];exact q
 ·obtain ⟨its,r,pl,hz⟩:=I.tuple hq;refine SeqAt.in_tupleAt (EW x) pl (λw hw=>tV rx fx r fs w (by simpa using hw)) ⟨.bl _,H,I,rfl,?_⟩;rw[show its.toArray.any (EW x)=its.any (EW x) by simp,xm r fs];exact q
theorem bq:mF X (.builtin "len") (λxs H Q=>∃p ys,xs=[.ref p]/\(bB X.K H p ys\/iP X.K H p ys)/\Q (.int ys.length) H):=by
 intro pins s σ H xs us Q I r h;obtain ⟨p,ys,rfl,hq,q⟩:=h;obtain ⟨u,rfl,rx⟩:=vals1 r;cases rx;have hn:=tZ;rcases hq with hq | hq
 ·obtain ⟨its,r',pl,hz⟩:=I.list hq;have hlen:=r'.length;exact Calls.call_len_list pl.isList (by simp only[aE] <;> lia) ⟨.int ys.length,H,I.tok _,⟨s.toks+1,by rw[aE,hlen]⟩,q⟩
 ·obtain ⟨its,r',pl,hz⟩:=I.tuple hq;have hlen:=r'.length;exact len_tuple pl (by simp only[aE] <;> lia) ⟨.int ys.length,H,I.tok _,⟨s.toks+1,by rw[aE,hlen]⟩,q⟩
theorem pj:mF X (.type "list") (λxs H Q=>∃p ys,xs=[.ref p]/\(bB X.K H p ys\/iP X.K H p ys)/\∀l,H l=none->Q (.ref l) (upd H l (.lst ys))):=by
 intro pins s σ H xs us Q I r h;obtain ⟨p,ys,rfl,hq,q⟩:=h;obtain ⟨u,rfl,rx⟩:=vals1 r;cases rx
 have fin:∀(its:List Value),bV ys its->ys.length<=sizeLine->∀(h':Heap) (c':Nat),(∀b o',s.heap.get? b=some o'->h'.get? b=some o') →
   h'.get? s.heap.objs.size=some { cls:=.type "list",dict:=none,data:=.seq its.toArray c',slots:=#[] }->EP X pins σ Q (.ref s.heap.objs.size) { s with heap:=h' }:=λits r' hz h' c' kp e =>
  ⟨.ref s.heap.objs.size,_,I.laid (t':=s.toks) kp (ay _) (show eK X.prog X.w _ h' _ (.lst ys) from ⟨hz,its,c',r',e⟩),rfl,q _ (I.hok.fresh (ay _))⟩
 rcases hq with hq | hq
 ·obtain ⟨its,r',pl,hz⟩:=I.list hq;have hlen:=r'.length;obtain ⟨o,ho,hc,n,hd⟩:=pl.isList;exact call_list_seq p (.inl rfl) ho hc hd (λh' c' kp e=>fin its r' hz h' c' kp e) (by simp only[aE] <;> lia)
 ·obtain ⟨its,r',pl,hz⟩:=I.tuple hq;have hlen:=r'.length;obtain ⟨o,ho,hc,n,hd⟩:=pl;exact call_list_seq p (.inr rfl) ho hc hd (λh' c' kp e=>fin its r' hz h' c' kp e) (by simp only[aE] <;> lia)
def JQ (K:FG9) (T:String) (x:V) (H:Hp):Prop:=match x with
 | .str _=>T="str"
 | .int _=>T="int"
 | .ref p=>(T="list"/\∃xs,bB K H p xs)\/(T="tuple"/\∃o,K.lookup p=some o/\o.cls=.type "tuple"/\o.dict=none) \/
   (T="dict"/\((∃kvs,H p=some (.dK kvs))\/∃kvs,H p=some (.dT kvs)))\/(T="set"/\∃S n,H p=some (.set S n))
 | _=>False
theorem FY {σ:St} (I:Inv X pins σ H s) (r:RelV x v) (ty:JQ X.K T x H) :
  s.TypeIs v T/\∀a,v=.ref a->∃ob,s.heap.get? a=some ob/\ob.dict=none:=by
 cases x with
 | str z =>
  obtain ⟨t,rfl⟩:=r;cases (show T="str" from ty);exact ⟨typeIs_str s z t,λ_ e=>nomatch e⟩
 | int i =>
  obtain ⟨t,rfl⟩:=r;cases (show T="int" from ty);exact ⟨typeIs_int s i t,λ_ e=>nomatch e⟩
 | ref p =>
  cases r;rcases ty with ⟨rfl,xs,hq⟩ | ⟨rfl,o,hk,hc,hd⟩ | ⟨rfl,hk⟩ | ⟨rfl,S,n,hk⟩
  ·obtain ⟨its,_,pl,_⟩:=I.list hq;refine ⟨pl.isList.typeIs,λa e=>?_⟩;cases e;obtain ⟨o,n,e,c,hd,_⟩:=pl;exact ⟨o,e,hd⟩
  ·refine ⟨⟨o,I.kIn p o hk,hc⟩,λa e=>?_⟩;cases e;exact ⟨o,I.kIn _ o hk,hd⟩
  ·have z:∃o,s.heap.get? p=some o/\o.ExactDict:=by
    rcases hk with ⟨kvs,hk⟩ | ⟨kvs,hk⟩
    ·obtain ⟨_,_,_,_,o,_,_,e,ex,_⟩:=I.hok p _ hk;exact ⟨o,e,ex⟩
    ·obtain ⟨_,_,_,_,o,_,_,e,ex,_⟩:=I.hok p _ hk;exact ⟨o,e,ex⟩
   obtain ⟨o,e,ex⟩:=z;refine ⟨⟨o,e,ex.1⟩,λa e2=>?_⟩;cases e2;exact ⟨o,e,ex.2.1⟩
  ·obtain ⟨o,_,_,_,e,ex,_⟩:=I.hok p _ hk;refine ⟨⟨o,e,ex.1⟩,λa e2=>?_⟩;cases e2;exact ⟨o,e,ex.2.1⟩
 | _=>exact False.elim ty
def tBM (K:FG9) (T:String) (r:V->List V->Hp->VK->Prop) (to:TE) (t:TA):TE:=λσ H Q=>to σ H λx H1=>JQ K T x H1/\t σ H1 λxs H2=>r x xs H2 Q
variable {o e:Expr} {es:List Expr} {to:TE} {t:TA} {name:Str} {apos cpos:Pos} {T id:String} {r:V->List V->Hp->VK->Prop}
theorem oG (pa:PlainAttrs T) (slot:Slot T name id) (hty:typeOf (.builtin id)=pure (.type "method_descriptor")) (hm:MtR X id r) (ho:PE X o to) (ha:PA X (e :: es) t)
  (hbase:attributeBase o name X.env (eval o X.env)=eval o X.env:=by rfl)
  (hfew:((backTo cpos (starEach (e :: es) X.env)).all (λx=>!x.1) && (backToKw cpos (keywordEach [] X.env)).all (λx=>x.1.isSome)
   && decide ((e :: es).length+([]:List Keyword).length+(if ([]:List Keyword).isEmpty then 0 else 1) < 30))=true:=by rfl)
  (hline:(apos.endLine == cpos.line)=true:=by rfl) (hs:starEach (e :: es) X.env=(false,eval e X.env) :: starEach es X.env:=by rfl) (hplain:(backTo cpos (starEach es X.env)).any (·.1)=false:=by rfl) :
  PE X (.Call (.Attribute o name apos) (e :: es) [] cpos) (tBM X.K T r to t):=by
 intro pins s σ H Q I h;refine wpAny_Call_method_late hbase hfew hline rfl (eI (ho pins s σ H _ I h) λv s1 ⟨x,H1,I1,r1,ty,q1⟩=>?_);obtain ⟨h1,h2⟩:=FY I1 r1 ty;refine ⟨T,id,pa,slot,hty,h1,h2,?_⟩;have hA:=ha cpos pins s1 σ H1 _ I1 q1;rw[hs] at hA ⊢;refine Calls.callWith_builtin (by show (false || (backTo cpos (starEach es X.env)).any (·.1))=false;rw[hplain] <;> rfl) (Calls.evalArgs_plain ?_);exact eI hA λus s2 ⟨vs,H2,I2,r2,q2⟩=>hm pins s2 σ H2 x vs v us Q I2 r1 r2 q2
end
def MtM (X:Cx) (id:String) (r:V->List V->Hp->VK->Prop):Prop :=
 ∀(pins:List (Addr×Obj)) (s:Shared) (σ:St) (H:Hp) (x:V) (xs:List V) (v:Value) (us:List Value) (Q:VK),Inv X pins σ H s->RelV x v->bV xs us->r x xs H Q →
  wpAny (model X.prog X.w) X.A (call (.builtin id) (v :: us)) (EP X pins σ Q) X.xe s
theorem bV.one:∀{x:V} {us:List Value},bV [x] us->∃u,us=[u]/\RelV x u
 | _,_,.cons r .nil=>⟨_,rfl,r⟩
theorem bV.rep {xs:List V} {us:List Value} (h:bV xs us):∀k:Nat,bV (List.replicate k xs).flatten (List.replicate k us).flatten
 | 0=>.nil
 | k+1=>by
  rw[iL,iL,jN,jN];exact bV.append h (bV.rep h k)
theorem foldl_rep (its:List Value):∀(k:Nat) (acc:List Value),
  List.foldl (λx1 x2=>x1++x2) acc.toArray (List.replicate k its.toArray)=(acc++(List.replicate k its).flatten).toArray
 | 0,acc=>by simp
 | k+1,acc=>by
  have e:acc.toArray++its.toArray=(acc++its).toArray:=by simp
  have e2:(acc++its)++(List.replicate k its).flatten=acc++(List.replicate (k+1) its).flatten:=by
   rw[iL,jN,cx]
  rw[<- e2,<- foldl_rep its k (acc++its),<- e,iL,List.foldl_cons]
section
variable {X:Cx} {pins:List (Addr×Obj)} {σ:St} {H:Hp} {s:Shared} {l b:Addr} {xs ys zs:List V}
theorem Inv.lset {its its':List Value} (I:Inv X pins σ H s) (hH:H l=some (.lst xs))
  (e:s.heap.get? l=some { cls:=.type "list",data:=.seq its.toArray n }) (hf:f its.toArray=its'.toArray) (hv:bV ys its') (hz:ys.length<=sizeLine) :
  Inv X pins σ (upd H l (.lst ys)) { s with heap:=s.heap.update l (Obj.mapSeq f),toks:=t' }:=by
 have q:=iw e f;rw[hf] at q;refine I.write (x:=l) (e:=l) (by rw[hH];exact trivial) (.inl rfl) (λb' u hb hu=>(Heap.get?_update_other s.heap (Obj.mapSeq f) (Ne.symm hb)).trans hu) ⟨_,q⟩ ?_;exact ⟨hz,its',_,hv,q⟩
theorem Inv.lnew (I:Inv X pins σ H s) (hv:bV ys its) (hz:ys.length<=sizeLine) :
  Inv X pins σ (upd H s.heap.objs.size (.lst ys)) { s with heap:=s.heap.push { cls:=.type "list",data:=.seq its.toArray },toks:=t' } :=
 I.laid (λ_ _ q=>Heap.get?_push_of_some _ q) (ay _) ⟨hz,its,0,hv,Heap.get?_push_size _ rfl⟩
theorem Inv.fresh (I:Inv X pins σ H s):H s.heap.objs.size=none:=I.hok.fresh (ay _)
theorem Inv.lstM (I:Inv X pins σ H s) (hH:H l=some (.lst xs)):xs.length<=sizeLine/\∃(its:List Value) (n:Nat),bV xs its/\xs.length=its.length/\s.heap.get? l=some { cls:=.type "list",data:=.seq its.toArray n }:=by
 obtain ⟨z,its,n,r,e⟩:=I.hok l _ hH;exact ⟨z,its,n,r,r.length,e⟩
theorem CS (h:n<=sizeLine):Builtin.List.listTooLong n=false:=by
 unfold Builtin.List.listTooLong;exact decide_eq_false (by lia)
end
section
variable {X:Cx}
def z8:V->List V->Hp->VK->Prop:=λx vs H Q=>∃l xs y,x=.ref l/\vs=[y]/\H l=some (.lst xs)/\xs.length < sizeLine/\Q .non (upd H l (.lst (xs++[y])))
theorem fz:MtM X "list.append" z8:=by
 intro pins s σ H x vs v us Q I rx rv h;obtain ⟨l,xs,y,rfl,rfl,hH,hz,q⟩:=h;cases rx;obtain ⟨u,rfl,ru⟩:=rv.one;obtain ⟨z,its,n,r,hl,e⟩:=I.lstM hH;refine call_meets F.slot_list_append ⟨_,e,rfl⟩ F.entry_list_append (F.args_list_append_2 _ _) (PySem.list_append l its.toArray n u (by rw[aE];lia)) ⟨e,?_⟩;refine ⟨.non,_,I.lset (its':=its++[u]) hH e (by simp) (r.append (.cons ru .nil)) ?_,rfl,q⟩;rw[aG,cp]
 lia
def IT:R2:=λx y H Q=>∃l b xs zs,x=.ref l/\y=.ref b/\H l=some (.lst xs)/\H b=some (.lst zs)/\xs.length+zs.length<=sizeLine/\∀p,H p=none->Q (.ref p) (upd H p (.lst (xs++zs)))
theorem jl:so X (binaryOp .Add) IT:=by
 intro pins s σ H x y v u Q I rx ry h;obtain ⟨l,b,xs,zs,rfl,rfl,hH,hB,hz,q⟩:=h;cases rx;cases ry;obtain ⟨z,its,n,r,hl,e⟩:=I.lstM hH;obtain ⟨z2,its2,n2,r2,hl2,e2⟩:=I.lstM hB;refine PySem.P.add_list e e2 ?_ (by rw[aE,aE];lia);have ea:its.toArray++its2.toArray=(its++its2).toArray:=by simp
 rw[ea];exact ⟨.ref _,_,I.lnew (t':=s.toks) (r.append r2) (by rw[aG];lia),rfl,q _ I.fresh⟩
def IS:R2:=λx y H Q=>∃l k xs,x=.ref l/\y=.int k/\H l=some (.lst xs)/\-(2^63)<=k/\k < 2^63/\xs.length*k.toNat<=sizeLine /\
 ∀p,H p=none->Q (.ref p) (upd H p (.lst (List.replicate k.toNat xs).flatten))
theorem len_rep {α:Type} (xs:List α) (k:Nat):(List.replicate k xs).flatten.length=k*xs.length:=by
 induction k with
 | zero=>simp
 | succ k ih=>rw[iL,jN,aG,ih,Nat.succ_mul,sI]
theorem zi:so X (binaryOp .Mult) IS:=by
 intro pins s σ H x y v u Q I rx ry h;obtain ⟨l,k,xs,rfl,rfl,hH,h1,h2,hz,q⟩:=h;cases rx;obtain ⟨t,rfl⟩:=ry;obtain ⟨z,its,n,r,hl,e⟩:=I.lstM hH;have hlen:its.toArray.size*k.toNat<=sizeLine:=by rw[aE,<- hl];exact hz
 have hcap:¬its.toArray.size*k.toNat > (2^63 - 1) / 8:=by
  have:(sizeLine:Nat)<=(2^63 - 1) / 8:=by decide
  lia
 have hfit:¬(!Builtin.List.listFitsIndex k)=true:=by
  rw[fitsIndex_both h1 h2];exact aM
 have hlong:¬Builtin.List.listTooLong (its.toArray.size*k.toNat)=true:=by
  rw[CS hlen];exact aM
 have hnew:List.foldl (λx1 x2=>x1++x2) #[] (List.replicate (if its.toArray.isEmpty=true then 0 else k.toNat) its.toArray)=(List.replicate k.toNat its).flatten.toArray:=by
  have f0:∀m:Nat,List.foldl (λx1 x2=>x1++x2) #[] (List.replicate m its.toArray)=(List.replicate m its).flatten.toArray:=λm=>by
   have:=foldl_rep its m [];rw[List.nil_append] at this;exact this
  rw[f0];cases its with
  | nil=>simp
  | cons a r'=>rw[if_neg (by simp)]
 refine wpAny_binaryOp_repeat_ref (T:="list") (U:="int") (by decide) ⟨_,e,rfl⟩ (λs'=>typeIs_int s' k t) noFill_list_mul F.fills_int_mul F.slot_int_rmul repeat_list F.slot_int_index.lookup
  (call_meets F.slot_int_rmul (typeIs_int s k t) F.entry_int_rmul (F.args_int_rmul_2 _ _) (int___rmul___int_list k t l its.toArray n)
   ⟨e,rfl,⟨_,e,rfl⟩,call_meets F.slot_list_mul ⟨_,e,rfl⟩ F.entry_list_mul (F.args_list_mul_2 _ _) (AutoListH.list___mul___list_int_3 l its.toArray n k t hfit hcap hlong) ⟨e,?_⟩⟩)
 rw[hnew];exact ⟨.ref _,_,I.lnew (t':=s.toks) (r.rep k.toNat) (by rw[len_rep,c7];exact hz),rfl,q _ I.fresh⟩
end
end L2
namespace Att
open PySem PySem.W PySem.Calls PyProof.Rows
theorem rL:∀(ns:List Int) (vs:List Value),WellAll P h vs (ns.map WData.int)->IntsAre vs ns:=by
 intro ns
 induction ns with
 | nil =>
  intro vs w;rw[List.map_nil] at w;cases w;exact .nil
 | cons n ns ih =>
  intro vs w;rw[cQ] at w;cases w with
  | cons a b =>
   cases a;exact .cons _ _ (ih _ b)
theorem AQ {l:OpenLaw} (hn:l.most=some n) 
  (hpre:l.row.toRowW.claim.pre args=true) (hwl:WellAll P h vals args) :
  ∃a vs ns,vals=[Value.ref a]/\args=[WData.list (ns.map WData.int)]/\h.get? a=some { cls:=.type "list",data:=.seq vs.toArray }/\IntsAre vs ns/\ns.length<=n:=by
 have hsh:WShape.hasAll [] args [.list .int]=true:=(pre_splitW hpre).1;have hc:l.pre.holds [] { args:=args }=true:=(pre_splitW hpre).2;obtain ⟨d,r,rfl,h1,h2⟩:=hasAllW_cons hsh;obtain rfl:=hasAllW_nil h2;obtain ⟨xs,rfl,h3⟩:=hasW_list h1;obtain ⟨ns,rfl⟩:=items_int h3
 have hlen:ns.length<=n:=by
  unfold OpenLaw.pre at hc
  have h4:(WTm.not (.lt (.lit (.int (n:Int))) (.len (.arg 0)))).holds [] { args:=[.list (ns.map .int)] }=true:=by
   have h4:=(holds_andW hc).1;rw[hn] at h4;exact h4
  have h5:=condW_of h4 (w_not (w_lt w_lit (w_len_list (w_arg rfl))));rw[av] at h5;refine Nat.le_of_not_lt λq=>?_
  have q':(n:Int) < ((ns.length:Nat):Int):=by lia
  first
   | (rw[decide_eq_true q'] at h5;exact absurd h5 (by decide))
   | (simp at h5;lia)
 cases hwl with
 | cons w1 w2 =>
  cases w2;cases w1 with
  | list ho hall=>exact ⟨_,_,ns,rfl,rfl,ho,rL ns _ hall,hlen⟩
theorem AW (l:OpenLaw) (args:List WData):l.row.toRowW.claim.post args (.bool true) args=true :=
 postW_of (r:=l.row.toRowW) (X:=(true == true))
  (show WShape.has [] (.bool true) .bool=true by first | rfl | decide | simp [WShape.has,WShape.arms,WShape.armsAll])
  (show (WTm.eq .res (.lit (.bool true))).value [] { args:=args,res:=some (.bool true),after:=args }=some (.bool (true == true)) from w_eq_bool (w_res rfl) w_lit) rfl
theorem yD {l:OpenLaw} 
  (hn:l.most=some n) (hdf:d.params.defaults=[])
  (call:∀(w:World) (s₀ s₁:Shared) (mg mb:Str->Option Value) (fa:Addr) (o:Obj) (pm cd doc:Value) (a:Addr) (vs:List Value) (ns:List Int),
   Ground q loose [] XP w s₀ mg mb s₁.heap->YP w s₁.heap →
   s₁.heap.get? fa=some o->o.data=.func (docDef d.name d.params d.body d.scope pm cd doc)->s₁.heap.CodeRec cd d.name->mg d.name=some (.ref fa) →
   s₁.heap.get? a=some { cls:=.type "list",data:=.seq vs.toArray }->IntsAre vs ns->ns.length<=n->s₁.gens=#[] →
   codeAny (model l.prog w) callerA (.call (.ref fa) ⟨[.ref a],[]⟩) (λr s'=>r=.ok (.ret (.bool true))/\OldK s₁.heap s'.heap/\s'.os=s₁.os/\AllBare s'.gens) s₁) :
  WalkO q loose XP YP l.row.toRowW d [] (λf vs=>PySem.call f vs):=by
 intro w s₀ s₁ mg mb G Y fa o pm cd doc dV kV ho hd hcd hD hmg hg args vals as hpre hlay hrd hwl hlo;obtain rfl:dV=.none:=Dflts.none hD hdf;obtain rfl:kV=.none:=Dflts.noKw hD;obtain ⟨a,vs,ns,rfl,rfl,hobj,hints,hlen⟩:=AQ hn hpre hwl;refine enter_call (codeAny_mono (call w s₀ s₁ mg mb fa o pm cd doc a vs ns G Y ho (fd_plain hd) hcd hmg hobj hints hlen hg) λr s' hq=>?_);obtain ⟨rfl,h2,h3,h4⟩:=hq;exact ⟨.inl ⟨.bool true,.bool true,[],rfl,λ_=>rfl,.bool true,AW l _,λ_=>⟨List.Pairwise.nil,λ_ hm=>(nomatch hm)⟩⟩,h2,h3,h4⟩
section
variable {prog:Program} {w:World} {A:Around} {E:Value->Shared->Prop} {s:Shared} {K:Frag}
end
end Att
namespace L2
open PySem PySem.Spec PyProof.Rows
theorem vg:∀{vs:List Value} {ns:List Int},IntsAre vs ns->bV (ns.map V.int) vs
 | _,_,.nil=>.nil
 | _,_,.cons n t h=>.cons ⟨t,rfl⟩ (vg h)
def HQ (H:Hp):Prop:=∀b,H b=none\/∃o xs,H b=some (.frz o (.lst xs))
theorem C4 {K:FG9} 
  (KX:K.In s₁.heap) (hns:s₁.heap.Ns mainGlobals mg) (hb:s₁.heap.Ns builtinsNs mb) (hbb:∀x:Str,x≠"__name__"->mb x=bootBuiltins x) (hlim:s₁.heap.NoLimit) (hg:s₁.gens=#[])
  (ha:s₁.heap.get? a=some { cls:=.type "list",data:=.seq vs.toArray }) (hi:IntsAre vs ns) (hl:ns.length<=sizeLine) (hr:ik k callerA)
  (F:∀base:Heap,K.In base->base.Ns mainGlobals mg->cC P w K mg base CX k fa fd [x] sp) (hbind:∀(s:Shared) (u:Value),BindsTo s fd ⟨[u],[]⟩ [(x,u)])
  (hsp:∀H:Hp,HQ H->bB K H a (ns.map V.int)->sp [.ref a] H (λv _=>v=.bl true) λ_ _ _=>False)
  (hCX:∀H e s',CX [] H s₁ (λ_ _ _=>False) e s'->False) :
  codeAny (model P w) callerA (.call (.ref fa) ⟨[.ref a],[]⟩) (λr s'=>r=.ok (.ret (.bool true))/\OldK s₁.heap s'.heap/\s'.os=s₁.os/\AllBare s'.gens) s₁:=by
 have rv:=vg hi;have lenV:=hi.length
 have core:∀H:Hp,HQ H->bB K H a (ns.map V.int)->qv P w H s₁.heap->(∀b,H b≠none->b=a)->(H a≠none->K.lookup a=none) →
   codeAny (model P w) callerA (.call (.ref fa) ⟨[.ref a],[]⟩) (λr s'=>r=.ok (.ret (.bool true))/\OldK s₁.heap s'.heap/\s'.os=s₁.os/\AllBare s'.gens) s₁:=by
  intro H hO hS hok hA hK;have base_of:∀{b:Addr} {o:Obj},s₁.heap.get? b=some o->H b=none->(wY s₁.heap H).get? b=some o:=λe n=>De e n
  have noA:∀{b:Addr} {o:Obj} {es:Array DictEntry} {ep:Nat},s₁.heap.get? b=some o->o.data=.dict es ep->H b=none:=λ{b o es ep} e d=>by
   cases q:H b with
   | none=>rfl
   | some u =>
    have e':b=a:=hA b (by rw[q];simp);subst e';rw[ha] at e;cases e;have d':Data.seq vs.toArray _=Data.dict es ep:=d;cases d'
  have nsK:∀{b:Addr} {m:Str->Option Value},s₁.heap.Ns b m->(wY s₁.heap H).Ns b m:=λ{b m} ⟨o,es,ep,e,d,r⟩=>⟨o,es,ep,base_of e (noA e d),d,r⟩
  have hKb:K.In (wY s₁.heap H):=λb o e=>base_of (KX b o e) (by
   cases q:H b with
   | none=>rfl
   | some u =>
    have e':b=a:=hA b (by rw[q];simp);subst e';rw[hK (by rw[q];simp)] at e;cases e)
  have hM:Mod K mg (wY s₁.heap H):=⟨hKb,nsK hns,⟨mb,nsK hb,hbb⟩,let ⟨mc,h1,h2⟩:=hlim;⟨mc,nsK h1,h2⟩⟩;have e0:zR P w K mg (wY s₁.heap H) callerA [] s₁ H:=⟨rfl,hM,λb o e=>EK e,Nat.le_of_eq (Bl _ _),trivial,λb hb=>absurd (show b∈([]:List Addr) from hb) (by simp),hok,.of_eq hg⟩;refine codeAny_mono ((F _ hKb (nsK hns)).run callerA [] s₁ H ⟨[.ref a],[]⟩ [.ref a] [.ref a] _ _ hr e0 (hbind s₁ (.ref a)) (.cons rfl .nil) (hsp H hO hS)) λr s' h=>?_
  cases r with
  | error e=>exact (hCX H e s' h).elim
  | ok fl =>
   cases fl with
   | next=>exact False.elim h
   | brk=>exact False.elim h
   | cont=>exact False.elim h
   | ret u =>
    obtain ⟨v,H',os,bare,un,hok',r',q⟩:=h;have q':v=.bl true:=q;subst q';obtain rfl:u=Value.bool true:=r';refine ⟨rfl,OldK.of_keep λb o e=>?_,os,bare⟩;cases q:H b with
    | none=>exact un.keep b o e q (by intro z;exact absurd (show b∈([]:List Addr) from z) (by simp)) (by simp)
    | some u =>
     rcases hO b with z | ⟨ob,xs,z⟩
     ·rw[q] at z;cases z
     ·have z2:=un.frzs b ob _ z;obtain ⟨e1,_⟩:=hok b _ z;obtain ⟨e2,_⟩:=hok' b _ z2;rw[e] at e1;cases e1;exact e2
 cases hk:K.lookup a with
 | some o =>
  have e:=KX a o hk;rw[ha] at e;cases e;refine core (λ_=>none) (λ_=>.inl rfl) (.inr ⟨_,vs.toArray,_,hk,rfl,rfl,rfl,by rw[aE,lenV];exact hl,by simpa using rv⟩) (λb u z=>by have z':(none:Option HO)=some u:=z;cases z') (λb z=>absurd rfl z) λz=>absurd rfl z
 | none =>
  refine core (λb=>if b=a then some (.frz { cls:=.type "list",data:=.seq vs.toArray } (.lst (ns.map V.int))) else none) (λb=>?_) (.inl (.inr ⟨{ cls:=.type "list",data:=.seq vs.toArray },if_pos rfl⟩)) (λb u z=>?_) (λb z=>?_) λ_=>hk
  ·by_cases hb:b=a
   ·exact .inr ⟨_,_,if_pos hb⟩
   ·exact .inl (if_neg hb)
  ·by_cases hb:b=a
   ·have z':=(if_pos hb).symm.trans z;cases z';subst hb;exact ⟨ha,by rw[av];exact hl,vs,_,rv,ha⟩
   ·have z':=(if_neg hb).symm.trans z;cases z'
  ·by_cases hb:b=a
   ·exact hb
   ·exact absurd (if_neg hb) z
theorem D3 {l:PySem.W.OpenLaw} {K:Params->FG9} {CX:World->Bu} {sp:World->Sp} 
  (hn:l.most=some n) (hn2:n<=sizeLine) (hdf:d.params.defaults=[]) (hr:ik k callerA)
  (hY:∀(w:World) (h:Heap),YP w h->(K w.params).In h)
  (F:∀(w:World) (mg:Str->Option Value) (fa:Addr) (h:Heap),(K w.params).In h->h.Ns mainGlobals mg->mg d.name=some (.ref fa) →
   ∃fd:FuncData,(∀(s:Shared) (u:Value),BindsTo s fd ⟨[u],[]⟩ [(x,u)]) /\
    ∀base:Heap,(K w.params).In base->base.Ns mainGlobals mg->cC l.prog w (K w.params) mg base (CX w) k fa fd [x] (sp w))
  (hsp:∀(w:World) (H:Hp) (a:Addr) (ns:List Int),ns.length<=n->HQ H->bB (K w.params) H a (ns.map V.int)->sp w [.ref a] H (λv _=>v=.bl true) λ_ _ _=>False)
  (hCX:∀(w:World) (H:Hp) (s:Shared) (e:Value) (s':Shared),CX w [] H s (λ_ _ _=>False) e s'->False) :
  PySem.W.WalkO q loose XP YP l.row.toRowW d [] (λf vs=>PySem.call f vs):=by
 refine Att.yD hn hdf λw s₀ s₁ mg mb fa o pm cd doc a vs ns G Y ho hd hcd hmg hobj hints hlen hg=>?_
 have KX:=hY w _ Y;obtain ⟨fd,hb,hF⟩:=F w mg fa _ KX G.T.g hmg;exact C4 KX G.T.g G.T.b G.T.builtins G.T.nolimit hg hobj hints (ak hlen hn2) hr hF hb (λH hO hS=>hsp w H a ns hlen hO hS) λH e s'=>hCX w H s₁ e s'
end L2

namespace L2
open PySem PySem.Spec PyProof.Rows
def inClass (s:Stmt) (j:Nat):Stmt:=match s with
 | .ClassDef _ _ _ body _ _ _ _ _ _ _=>body.getD j (.Pass ⟨0,0,0,0⟩)
 | _=>.Pass ⟨0,0,0,0⟩
def ir (s:Stmt):Arguments:=match s with
 | .FunctionDef _ a _ _ _ _ _ _ _ _=>a
 | _=>{ posonlyargs:=[],args:=[],vararg:=none,kwonlyargs:=[],kw_defaults:=[],kwarg:=none,defaults:=[] }
def fD (s:Stmt):List Stmt:=match s with
 | .FunctionDef _ _ b _ _ _ _ _ _ _=>b
 | _=>[]
def aL (s:Stmt):Scope:=match s with
 | .FunctionDef _ _ _ _ _ _ sc _ _ _=>sc
 | _=>{ kind:=.function,names:=[],isGenerator:=false,isCoroutine:=false }
abbrev gV:Bu:=λ_ _ _ _ _ _=>False
abbrev E0:XK:=λ_ _ _=>False
theorem Ad:ow gV X E0:=λ_ _ _ _ _ _ _ h=>h.elim
structure Bt (K:FG9) (x qual:Str) (st:Stmt) (f:Addr) (fd:FuncData):Prop where
 ex:∃(oc:Value) (od:Option Addr) (kV doc pm:Value) (an:Option Addr) (cdv ct:Value) (osl:Array (Option Value)),
  fd=PySem.W.fnOf x qual (ir st) (fD st) (aL st) .none kV doc pm an cdv ct/\K.lookup f=some ⟨oc,od,.func fd,osl⟩/\PySem.W.codeIn K cdv qual=true
 kp:PySem.W.keepIn K (.ref f)=true
section
variable {P:Program} {w:World} {K:FG9} {mg:Str->Option Value} {base:Heap}
theorem Bt.ok {st:Stmt} (F:Bt K x qual st f fd) (S:br N ps (aL st)) (len:∀vs H Q E,sp vs H Q E->vs.length=ps.length)
  (hbody:∀(cdv:Value) (A:Around) (outer:List Env) (s:Shared) (H:Hp) (vs:List V) (Q:VK) (E:XK),ik k (A.deeper (envOfC qual (aL st) s.heap.objs.size f cdv))->sp vs H Q E →
   ∃t,xv (uV gV P w K mg base N qual (aL st) f cdv A outer s H E).nox (fD st) t/\t { nx:=λ_ H'=>Q .non H',rt:=Q } (start N vs) H):cC P w K mg base gV (k+1) f fd ps sp:=by
 obtain ⟨oc,od,kV,doc,pm,an,cdv,ct,osl,rfl,lk,hcd⟩:=F.ex;refine FG lk hcd S len λA outer s H vs Q E hr hsp=>?_
 obtain ⟨t,h,q⟩:=hbody cdv A outer s H vs Q E hr hsp;exact ⟨t,h.nox,q⟩
theorem Bt.binds {st:Stmt} (F:Bt K x qual st f fd)
  (h:∀(kV doc pm:Value) (an:Option Addr) (cdv ct:Value) (us:List Value),us.length=ps.length->bindArgs (PySem.W.fnOf x qual (ir st) (fD st) (aL st) .none kV doc pm an cdv ct) ⟨us,[]⟩=pure (ps.zip us)):Binds K fd ps []:=by
 obtain ⟨oc,od,kV,doc,pm,an,cdv,ct,osl,rfl,lk,hcd⟩:=F.ex;exact .all (h kV doc pm an cdv ct)
theorem wZ {st:Stmt} {kV doc pm cdv ct:Value} (l:K.lookup f=some ⟨oc,od,.func (PySem.W.fnOf x qual (ir st) (fD st) (aL st) .none kV doc pm an cdv ct),osl⟩)
  (c:PySem.W.codeIn K cdv qual=true) (k:PySem.W.keepIn K (.ref f)=true):Bt K x qual st f (PySem.W.fnOf x qual (ir st) (fD st) (aL st) .none kV doc pm an cdv ct):=⟨⟨oc,od,kV,doc,pm,an,cdv,ct,osl,rfl,l,c⟩,k⟩
end
structure Df (K:FG9) (mg:Str->Option Value) (x:Str) (st:Stmt) (ps:List Str) (f:Addr) (fd:FuncData):Prop where
 m:mg x=some (.ref f)
 b:Binds K fd ps []
 F:Bt K x x st f fd
structure Dh (K:FG9) (x:Str) (st:Stmt) (f:Addr) (fd:FuncData):Prop where
 a:PySem.W.nsIn K mainGlobals x=some (some (.ref f))
 F:Bt K x x st f fd
theorem Jp {K:FG9} {st:Stmt} {kV doc pm cdv ct:Value} (a:PySem.W.nsIn K mainGlobals x=some (some (.ref f))) (l:K.lookup f=some ⟨oc,od,.func (PySem.W.fnOf x x (ir st) (fD st) (aL st) .none kV doc pm an cdv ct),osl⟩) (c:PySem.W.codeIn K cdv x=true) (k:PySem.W.keepIn K (.ref f)=true):Dh K x st f (PySem.W.fnOf x x (ir st) (fD st) (aL st) .none kV doc pm an cdv ct):=⟨a,wZ l c k⟩
theorem Dh.D {K:FG9} {x:Str} {st:Stmt} {f:Addr} {fd:FuncData} {ps:List Str} {mg:Str->Option Value} {h:Heap} (d:Dh K x st f fd) (X:K.In h) (G:h.Ns mainGlobals mg) (hb:∀(kV doc pm:Value) (an:Option Addr) (cdv ct:Value) (us:List Value),us.length=ps.length->bindArgs (PySem.W.fnOf x x (ir st) (fD st) (aL st) .none kV doc pm an cdv ct) ⟨us,[]⟩=pure (ps.zip us):=by walk_at "b"):Df K mg x st ps f fd:=⟨PySem.W.mg_of X G d.a,d.F.binds hb,d.F⟩
theorem cn {X:Cx} {k k':Nat} {f:Addr} {fd:FuncData} {ps:List Str} {sp:Sp} {x:Str} {st:Stmt} {p pos:Pos} {e:Expr} {es:List Expr} {t:TA} (F:cC X.prog X.w X.K X.mg X.base gV k f fd ps sp) (hr:ik k' X.A) (D:Df X.K X.mg x st ps f fd) (ha:PA X (e :: es) t) (hle:k<=k':=by decide) (hg:Gl X x:=by exact rfl) (hdb:(x == ("__debug__":Str))=false:=by decide) (he:starEach (e :: es) X.env=(false,eval e X.env) :: starEach es X.env:=by rfl) (hpl:(backTo pos (starEach es X.env)).any (·.1)=false:=by rfl):PE X (.Call (.Name x p) (e :: es) [] pos) (BQ sp [] E0 t):=wN F (hr.mono hle) hg D.m D.F.kp D.b .nil Ad ha hdb he hpl
theorem bp (h:n<=1000):n < sizeLine:=bu h (by decide)
section
variable {X:Cx}
theorem pv (i:Nat) {x:Str} {pos:Pos} (hN:X.N[i]?=some x:=by rfl) (hv:Ka X.env.scope x:=by first | exact Or.inl rfl | exact Or.inr (Or.inl rfl) | exact Or.inr (Or.inr rfl)) (hd:(x == ("__debug__":Str))=false:=by decide)
  (hcd:(x == ("__classdict__":Str))=false:=by decide):PE X (.Name x pos) (F1 i):=GN hN hv hd hcd
end
theorem Ho {A B:Prop} (h:B):if false=true then A else B:=by
 rw[if_neg aM];exact h
theorem Jb {A B:Prop} (h:A):if true=true then A else B:=by
 rw[if_pos rfl];exact h
theorem eP {c A B:Prop} [Decidable c] (h1:c->A) (h2:¬c->B):if c then A else B:=by
 by_cases h:c
 ·rw[if_pos h];exact h1 h
 ·rw[if_neg h];exact h2 h
def aH (H H':Hp):Prop:=∀b o,H b=some o->H' b=some o
theorem aH.refl (H:Hp):aH H H:=λ_ _ h=>h
theorem aH.trans (a:aH H H1) (b:aH H1 H2):aH H H2:=λc o h=>b c o (a c o h)
theorem aH.free (e:aH H H') (h:H' l=Option.none):H l=Option.none:=by
 cases q:H l with
 | none=>rfl
 | some o =>
  rw[e l o q] at h;cases h
theorem aH.seq {K:FG9} (e:aH H H') (h:bB K H a xs):bB K H' a xs:=by
 rcases h with (h | ⟨o,h⟩) | h
 ·exact .inl (.inl (e _ _ h))
 ·exact .inl (.inr ⟨o,e _ _ h⟩)
 ·exact .inr h
end L2
namespace Nm
theorem Dk (a b:Int):Int.gcd b (a.fmod b)=Int.gcd a b:=by
 rw[Int.fmod_def,iE a b];apply Nat.dvd_antisymm
 ·apply DM
  ·exact dw ..
  ·have h1:=dw (a:=b) (b:=a - b*a.fdiv b);have h2:=dS (a:=b) (b:=a - b*a.fdiv b);have h3:=Int.dvd_add h2 (jw (c:=a.fdiv b) h1);rwa [Int.sub_add_cancel] at h3
 ·apply DM
  ·exact dw ..
  ·exact Int.dvd_sub (dS ..) (jw (dw ..))
theorem Dl (a b:Int):Int.gcd b (a % b)=Int.gcd a b:=by
 rw[Int.emod_def,iE a b];apply Nat.dvd_antisymm
 ·apply DM
  ·exact dw ..
  ·have h1:=dw (a:=b) (b:=a - b*(a / b));have h2:=dS (a:=b) (b:=a - b*(a / b));have h3:=Int.dvd_add h2 (jw (c:=a / b) h1);rwa [Int.sub_add_cancel] at h3
 ·apply DM
  ·exact dw ..
  ·exact Int.dvd_sub (dS ..) (jw (dw ..))
theorem ET (a b:Int) (h:b≠0):(a.fmod b).natAbs < b.natAbs:=by
 rcases Int.lt_or_gt_of_ne h with h | h
 ·have e:a.fmod b=-((-a).fmod (-b)):=by
   have:=Int.neg_fmod_neg (-a) (-b);simp only[Int.neg_neg] at this;exact this
  have h1:=Int.fmod_nonneg_of_pos (-a) (b:=-b) (by lia);have h2:=Int.fmod_lt_of_pos (-a) (b:=-b) (by lia)
  lia
 ·have h1:=Int.fmod_nonneg_of_pos a h;have h2:=Int.fmod_lt_of_pos a h
  lia
def g (t b:Int):Int:=(Int.gcd t b:Int)
def lo (t b:Int):Int:=t / g t b
def hi (t b:Int):Int:=b / g t b
theorem t7 (h:b≠0):0 < g t b:=by
 unfold g;have:0 < Int.gcd t b:=DW _ h
 lia
theorem tY (t b:Int):lo t b*g t b=t:=Int.ediv_mul_cancel (dw ..)
theorem qj (t b:Int):hi t b*g t b=b:=Int.ediv_mul_cancel (dS ..)
theorem zz (h:0 < b):0 < hi t b:=by
 have h1:=t7 (t:=t) (b:=b) (by lia);have h2:=qj t b;by_cases h3:0 < hi t b
 ·exact h3
 ·have:hi t b*g t b<=0:=Int.mul_nonpos_of_nonpos_of_nonneg (by lia) (by lia)
  lia
theorem yi (h:b≠0):Int.gcd (lo t b) (hi t b)=1:=by
 have h1:=t7 (t:=t) h;have e:=Int.gcd_mul_right (lo t b) (g t b) (hi t b);rw[tY,qj] at e;have e2:(g t b).natAbs=Int.gcd t b:=by unfold g;simp
 rw[e2] at e;have h2:0 < Int.gcd t b:=DW _ h;exact Nat.eq_of_mul_eq_mul_right h2 (by rw[<- e,v7])
theorem zx (t b:Int):lo t b*b=t*hi t b:=by
 have h1:=tY t b;have h2:=qj t b
 calc lo t b*b=lo t b*(hi t b*g t b):=by rw[h2]
  _=(lo t b*g t b)*hi t b:=by rw[iD (hi t b),<- iS]
  _=t*hi t b:=by rw[h1]
theorem kZ (h:Int.gcd a b=1) (hd:a∣b*c):a∣c:=by
 have h1:a.natAbs∣b.natAbs*c.natAbs:=by rw[<- gZ];exact eF.mpr hd
 have h2:Nat.Coprime a.natAbs b.natAbs:=h;exact eF.mp (h2.dvd_of_dvd_mul_left h1)
theorem uniq (hb:0 < b) (hd:0 < d) (h1:Int.gcd a b=1) (h2:Int.gcd c d=1) (e:a*d=c*b):a=c/\b=d:=by
 have e1:b∣d:=by
  have:b∣a*d:=⟨c,by rw[e,iD]⟩;exact kZ (by rw[iE];exact h1) this
 have e2:d∣b:=by
  have:d∣c*b:=⟨a,by rw[<- e,iD]⟩;exact kZ (by rw[iE];exact h2) this
 have e3:b=d:=Int.dvd_antisymm (by lia) (by lia) e1 e2;subst e3;exact ⟨FU (by lia) e,rfl⟩
theorem jY {a b:Int} (h:b≠0):a.natAbs<=(a*b).natAbs:=by
 rw[gZ];exact ju _ (Int.natAbs_pos.mpr h)
theorem lo_le (h:b≠0):(lo t b).natAbs<=t.natAbs:=by
 have:=jY (a:=lo t b) (b:=g t b) (by have:=t7 (t:=t) h;lia);rwa [tY] at this
theorem FD (h:b≠0):(hi t b).natAbs<=b.natAbs:=by
 have:=jY (a:=hi t b) (b:=g t b) (by have:=t7 (t:=t) h;lia);rwa [qj] at this
def Sz (k:Nat) (x:Int):Prop:=x.natAbs < 2^k
theorem Sz.mono (h:Sz j x) (l:j<=k):Sz k x:=aW h (aD (by decide) l)
theorem Sz.mul (h1:Sz j x) (h2:Sz k y):Sz (j+k) (x*y):=by
 unfold Sz at *
 rw[gZ,bK];exact Nat.mul_lt_mul'' h1 h2
theorem Sz.neg (h:Sz k x):Sz k (-x):=by unfold Sz at *;rw[Int.natAbs_neg];exact h
theorem Sz.le (h:Sz k y) (l:x.natAbs<=y.natAbs):Sz k x:=bu l h
theorem Sz.hi {k:Nat} {t b:Int} (h:Sz k b) (hb:b≠0):Sz k (hi t b):=h.le (FD hb)
end Nm
namespace L2
open PySem PySem.Spec PyProof.Rows
structure Bk (env:Env) (scope:Scope) (own capN:List Str):Prop where
 kind:scope.kind=.function
 locs:∀y∈scope.names,y.2=.local->scope.names.lookup y.1=some .local
 ownk:∀x∈own,scope.names.lookup x=some .local\/scope.names.lookup x=some .cell
 cells:∀y∈scope.names,y.2=.cell->y.1∈own/\y.1∉capN
 frees:∀y∈scope.names,y.2=.free->y.1∈capN/\y.1∉own
 capf:∀x∈capN,scope.names.lookup x=some .free
 caps:∀x∈capN,env.kindOf x=some .cell\/env.kindOf x=some .free
def JG (scope:Scope) (own capN:List Str):Bool :=
 decide (scope.kind=.function) && scope.names.all (λy=>decide (y.2=.local->scope.names.lookup y.1=some .local) && decide (y.2=.cell->y.1∈own/\y.1∉capN) && decide (y.2=.free->y.1∈capN/\y.1∉own)) &&
 own.all (λx=>decide (scope.names.lookup x=some .local\/scope.names.lookup x=some .cell)) && capN.all λx=>decide (scope.names.lookup x=some .free)
def vO (env:Env):List Str->Bool
 | []=>true
 | x :: r=>(match env.kindOf x with | some .cell=>true | some .free=>true | _=>false) && vO env r
theorem yA {env:Env}:∀{capN:List Str},vO env capN=true->∀x∈capN,env.kindOf x=some .cell\/env.kindOf x=some .free
 | [],_,_,h=>nomatch h
 | y :: r,h,x,hx=>by
  unfold vO at h;rw[cH] at h;rcases az.mp hx with e | hx
  ·subst e;have h1:=h.1
   split at h1
   ·rename_i e;exact .inl e
   ·rename_i e;exact .inr e
   ·cases h1
  ·exact yA h.2 x hx
theorem Bk.of (h1:JG scope own capN=true) (h2:vO env capN=true):Bk env scope own capN:=by
 unfold JG at h1;rw[cH,cH,cH,rH,rH,rH] at h1;obtain ⟨⟨⟨a1,a2⟩,a3⟩,a4⟩:=h1
 have a2':∀y∈scope.names,(y.2=.local->scope.names.lookup y.1=some .local)/\(y.2=.cell->y.1∈own/\y.1∉capN)/\(y.2=.free->y.1∈capN/\y.1∉own):=λy hy=>by
  have q:=a2 y hy;rw[cH,cH] at q;exact ⟨of_decide_eq_true q.1.1,of_decide_eq_true q.1.2,of_decide_eq_true q.2⟩
 exact ⟨of_decide_eq_true a1,λy hy=>(a2' y hy).1,λx hx=>of_decide_eq_true (a3 x hx),λy hy=>(a2' y hy).2.1,λy hy=>(a2' y hy).2.2,λx hx=>of_decide_eq_true (a4 x hx),yA h2⟩
def c5 (env:Env):List (Str×NameKind)->List (Str×Addr)->List (Str×Addr)
 | [],acc=>acc
 | (n,k) :: r,acc=>if k == .free then c5 env r ((n,(env.cells.lookup n).getD 0) :: acc) else c5 env r acc
theorem fE (env:Env):∀(names:List (Str×NameKind)) (acc:List (Str×Addr)),c5 env names acc=c5 env names []++acc
 | [],_=>rfl
 | (n,k) :: r,acc=>by
  unfold c5
  split
  ·rw[fE env r (_ :: acc),fE env r [_],cx];rfl
  ·exact fE env r acc
theorem lA (env:Env):∀(names:List (Str×NameKind)) {x:Str} {c:Addr},(x,c)∈c5 env names []->(x,NameKind.free)∈names/\c=(env.cells.lookup x).getD 0
 | [],_,_,h=>nomatch h
 | (n,k) :: r,x,c,h=>by
  unfold c5 at h
  split at h
  ·rename_i hk
   have ek:k=.free:=by simpa using hk
   subst ek;rw[fE] at h;rcases ar.mp h with h | h
   ·have q:=lA env r h;exact ⟨bD _ q.1,q.2⟩
   ·have e:(x,c)=(n,(env.cells.lookup n).getD 0):=by simpa using h
    cases e;exact ⟨cD,rfl⟩
  ·have q:=lA env r h;exact ⟨bD _ q.1,q.2⟩
theorem fZ {α:Type}:∀{l:List (Str×α)} {x:Str} {c:α},(x,c)∈l->∃d,l.lookup x=some d
 | (k,v) :: r,x,c,h=>by
  rw[iB];cases hb:x == k with
  | true=>exact ⟨v,rfl⟩
  | false =>
   rcases az.mp h with e | h
   ·cases e;simp at hb
   ·exact fZ h
theorem lB (env:Env):∀(names:List (Str×NameKind)) {x:Str},(x,NameKind.free)∈names->∃c,(x,c)∈c5 env names []
 | (n,k) :: r,x,h=>by
  unfold c5;rcases az.mp h with e | h
  ·cases e;rw[if_pos (by decide),fE];exact ⟨_,bG _ cD⟩
  ·obtain ⟨c,q⟩:=lB env r h
   split
   ·rw[fE];exact ⟨c,lJ _ q⟩
   ·exact ⟨c,q⟩
theorem uA (h:∀y∈scope.names,y.2=.free->∃c,env.cells.lookup y.1=some c):closureFor scope env=pure (c5 env scope.names []):=by
 have gen:∀(names:List (Str×NameKind)) (acc:List (Str×Addr)) (f:Str×NameKind->List (Str×Addr)->Sem (ForInStep (List (Str×Addr)))),
   (∀name kind cells,f (name,kind) cells=if kind == .free then (do let a <- cellOf env name;pure (.yield ((name,a) :: cells))) else pure (.yield cells)) →
   (∀y∈names,y.2=.free->∃c,env.cells.lookup y.1=some c)->forIn names acc f=pure (c5 env names acc):=by
  intro names
  induction names with
  | nil=>intro acc f hf _;rw[fK];rfl
  | cons y r ih =>
   intro acc f hf hh;obtain ⟨n,k⟩:=y;rw[gF,hf];unfold c5;by_cases hk:(k == NameKind.free)=true
   ·obtain ⟨c,hc⟩:=hh (n,k) cD (by simpa using hk);have hc':env.cells.lookup n=some c:=hc;have e:cellOf env n=pure c:=by unfold cellOf;rw[hc']
    rw[if_pos hk,if_pos hk,e,hc'];simp only[pure_bind,Option.getD_some];exact ih _ f hf λy hy=>hh y (bD _ hy)
   ·rw[if_neg hk,if_neg hk];simp only[pure_bind];exact ih _ f hf λy hy=>hh y (bD _ hy)
 simp only[closureFor];rw[gen scope.names [] _ (λname kind cells=>by cases hkc:kind == NameKind.free <;> simp [hkc]) h];rfl
theorem dZ:∀(names:List (Str×NameKind)) (n:Nat) (acc:List (Str×Addr)),cellsFrom n names acc=cellsFrom n names []++acc
 | [],_,_=>rfl
 | (x,k) :: r,n,acc=>by
  unfold cellsFrom
  split
  ·rw[dZ r (n+1) (_ :: acc),dZ r (n+1) [_],cx];rfl
  ·exact dZ r n acc
theorem iu:∀(names:List (Str×NameKind)) (n:Nat) {x:Str} {c:Addr},(x,c)∈cellsFrom n names []->(x,NameKind.cell)∈names
 | [],_,_,_,h=>nomatch h
 | (y,k) :: r,n,x,c,h=>by
  unfold cellsFrom at h
  split at h
  ·rename_i hk
   have ek:k=.cell:=by simpa using hk
   subst ek;rw[dZ] at h;rcases ar.mp h with h | h
   ·exact bD _ (iu r _ h)
   ·have e:(x,c)=(y,n):=by simpa using h
    cases e;exact cD
  ·exact bD _ (iu r _ h)
def qq (env:Env) (scope:Scope) (C:Addr):Env :=
 { scope:=relabel scope env,locals:=C,globals:=env.globals,cells:=cellsFrom (C+1) scope.names (c5 env scope.names []),qual:=env.qual,func:=none,code:=env.code,frame:=env.frame,builtins:=env.builtins }
theorem yg 
  (h:Q (newEnv scope s.heap.objs.size g (cellsFrom (s.heap.objs.size+1) scope.names cl) qual none .none (some env) builtinsNs) { s with heap:=pushCells (s.heap.push { cls:=.type "dict",data:=.dict #[] }) scope.names }) :
  wpAny M A (newFunctionEnv scope g cl [] qual none .none (some env)) Q E s:=by
 simp only[newFunctionEnv,Option.isSome_some,if_true];refine wpAny_bind (wpAny_alloc ?_);refine wpAny_bind (wpAny_layCells _ (λname kind cells=>by cases hkc:kind == NameKind.cell <;> simp [hkc]) _ _ _ _ ?_);rw[show ({ s with heap:=s.heap.push { cls:=.type "dict",data:=.dict #[] } }:Shared).heap.objs.size=s.heap.objs.size+1 from Heap.size_push ..];rw[fK];exact wpAny_bind (wpAny_pure (wpAny_pure h))
theorem oB:∀{k:NameKind},(relabel scope env).names.lookup x=some k->∃k0,scope.names.lookup x=some k0/\(k=k0\/(k0=.free/\k=.cell)):=by
 unfold relabel;show ∀{k:NameKind},(scope.names.map λ(n,k)=>if (k == NameKind.free && env.scope.kind == .function && env.kindOf n == some .cell) then (n,NameKind.cell) else (n,k)).lookup x=some k->_
 induction scope.names with
 | nil=>intro k h;cases h
 | cons y r ih =>
  intro k h;obtain ⟨n,k1⟩:=y;rw[cQ,iB] at h;rw[iB];by_cases hc:(k1 == NameKind.free && env.scope.kind == .function && env.kindOf n == some .cell)=true
  ·simp only[hc,if_true] at h;cases hb:x == n with
   | true =>
    simp only[hb] at h
    have e1:k1=.free:=by
     rw[cH,cH] at hc;simpa using hc.1.1
    cases h;exact ⟨k1,rfl,.inr ⟨e1,rfl⟩⟩
   | false=>simp only[hb] at h;exact ih h
  ·have hc':(k1 == NameKind.free && env.scope.kind == .function && env.kindOf n == some .cell)=false:=by simpa using hc
   simp only[hc',cE,if_false] at h;cases hb:x == n with
   | true=>simp only[hb] at h;cases h;exact ⟨_,rfl,.inl rfl⟩
   | false=>simp only[hb] at h;exact ih h
theorem xV:scope.names.lookup x=some .free->(relabel scope env).names.lookup x=some .cell\/(relabel scope env).names.lookup x=some .free:=by
 unfold relabel;show _->(scope.names.map λ(n,k)=>if (k == NameKind.free && env.scope.kind == .function && env.kindOf n == some .cell) then (n,NameKind.cell) else (n,k)).lookup x=some .cell\/(scope.names.map λ(n,k)=>if (k == NameKind.free && env.scope.kind == .function && env.kindOf n == some .cell) then (n,NameKind.cell) else (n,k)).lookup x=some .free
 induction scope.names with
 | nil=>intro h;cases h
 | cons y r ih =>
  intro h;obtain ⟨n,k1⟩:=y;rw[iB] at h;rw[cQ];by_cases hc:(k1 == NameKind.free && env.scope.kind == .function && env.kindOf n == some .cell)=true
  ·simp only[hc,if_true,iB];cases hb:x == n with
   | true=>exact .inl rfl
   | false=>rw[hb] at h;exact ih h
  ·have hc':(k1 == NameKind.free && env.scope.kind == .function && env.kindOf n == some .cell)=false:=by simpa using hc
   simp only[hc',cE,if_false,iB];cases hb:x == n with
   | true=>rw[hb] at h;cases h;exact .inr rfl
   | false=>rw[hb] at h;exact ih h
structure Bz where
 s:Shared
 H:Hp
 fp:List Addr
 C:Addr
def rN (X:Cx) (own capN:List Str) (scope:Scope) (Z:Bz):Cx where
 prog:=X.prog
 w:=X.w
 K:=X.K
 mg:=X.mg
 base:=X.base
 A:=X.A
 N:=own++capN
 s₀:=Z.s
 H₀:=Z.H
 env:=qq X.env scope Z.C
 outer:=X.stack
 stack:=X.stack
 ex:=Z.fp
 fn:=λx=>own.contains x
 calm:=true
 pn:=[]
 xe:=λ_ _=>False
section
variable {X:Cx} {pins:List (Addr×Obj)} {σ:St} {own capN:List Str} {scope:Scope} {Z:Bz}
theorem gE (B:Bk X.env scope own capN) (I:Inv X pins σ Z.H Z.s) (h:(qq X.env scope Z.C).cells.lookup x=some c) :
  (x∈own/\(x,c)∈cellsFrom (Z.C+1) scope.names [])\/(x∈capN/\x∉own/\X.env.cells.lookup x=some c):=by
 have h':(cellsFrom (Z.C+1) scope.names (c5 X.env scope.names [])).lookup x=some c:=h;rw[dZ] at h';rcases ar.mp (mem_of_lookup h') with m | m
 ·exact .inl ⟨(B.cells _ (iu _ _ m) rfl).1,m⟩
 ·obtain ⟨m1,e⟩:=lA _ _ m;obtain ⟨q1,q2⟩:=B.frees _ m1 rfl;obtain ⟨d,hd⟩:=I.ok.has x (B.caps x q1);rw[hd] at e;exact .inr ⟨q1,q2,by rw[hd,e];rfl⟩
theorem E6 (B:Bk X.env scope own capN) (I:Inv X pins σ Z.H Z.s) (hx:x∈capN) (h:X.env.cells.lookup x=some c):(qq X.env scope Z.C).cells.lookup x=some c:=by
 have hm:(x,NameKind.free)∈scope.names:=mem_of_lookup (B.capf x hx);obtain ⟨c1,m1⟩:=lB X.env scope.names hm
 have hs:∃d,(qq X.env scope Z.C).cells.lookup x=some d:=by
  show ∃d,(cellsFrom (Z.C+1) scope.names (c5 X.env scope.names [])).lookup x=some d
  rw[dZ];exact fZ (bG _ m1)
 obtain ⟨d,hd⟩:=hs;rcases gE B I hd with ⟨q,m⟩ | ⟨_,_,q⟩
 ·exact absurd hx (B.cells _ (iu _ _ m) rfl).2
 ·rw[h] at q;cases q;exact hd
theorem AX (h:Heap) (C:Addr) (hC:h.objs.size=C+1) (names:List (Str×NameKind)):CellsOk (pushCells h names) (C+1) (cellsFrom (C+1) names []):=by
 have q:=cellsFrom_ok names h (C+1) [] ⟨λ_ _ hm=>(nomatch hm),List.Pairwise.nil⟩ (by rw[hC];exact ay _);rwa [hC] at q
theorem xi (I:Inv X pins σ Z.H Z.s) (h:X.env.cells.lookup x=some c):@LT.lt Nat instLTNat c Z.s.heap.objs.size:=by
 obtain ⟨v,q⟩:=I.cell x c h;exact q.lt
theorem HL (I:Inv X pins σ Z.H Z.s) (hc:X.calm=true) (B:Bk X.env scope own capN) (hC:Z.s.heap.objs.size<=Z.C) (hcl:CellsOk h1 (Z.C+1) (cellsFrom (Z.C+1) scope.names []))
  (hf:∀b∈Z.fp,ip X pins Z.H b/\@LT.lt Nat instLTNat b Z.s.heap.objs.size):(rN X own capN scope Z).Ok:=by
 refine ⟨I.ok.mod,B.kind,I.ok.glob,I.ok.blt,hC,λx y c h1 h2=>?_,λx hx=>?_,λx c hx h=>?_,λ_=>I.ok.hd hc,I.ok.frames,.inl rfl,λb hb=>⟨?_,λx c h=>?_⟩,I.bs,ak I.ok.bsz I.sz,λb o e hb=>?_,λb hb hz=>?_,I.stack,I.stkFree⟩
 ·rcases gE B I h1 with ⟨q1,m1⟩ | ⟨q1,n1,m1⟩ <;> rcases gE B I h2 with ⟨q2,m2⟩ | ⟨q2,n2,m2⟩
  ·exact name_of_addr hcl.apart m1 m2
  ·have l1:=(hcl.empty _ _ m1).2;have l2:=xi I m2
   lia
  ·have l1:=(hcl.empty _ _ m2).2;have l2:=xi I m1
   lia
  ·exact I.ok.inj x y c m1 m2
 ·have hx':(relabel scope X.env).names.lookup x=some .cell\/(relabel scope X.env).names.lookup x=some .free:=hx
  have hk:scope.names.lookup x=some .cell\/scope.names.lookup x=some .free:=by
   rcases hx' with h | h
   ·obtain ⟨k0,e,q | ⟨q,_⟩⟩:=oB h
    ·exact .inl (by rw[e,<- q])
    ·exact .inr (by rw[e,q])
   ·obtain ⟨k0,e,q | ⟨_,q⟩⟩:=oB h
    ·exact .inr (by rw[e,<- q])
    ·cases q
  show ∃c,(cellsFrom (Z.C+1) scope.names (c5 X.env scope.names [])).lookup x=some c
  rcases hk with h | h
  ·exact pN.mp (sF scope.names (Z.C+1) _ (.inl h))
  ·obtain ⟨c,m⟩:=lB X.env scope.names (mem_of_lookup h);rw[dZ];exact fZ (bG _ m)
 ·have ho:x∈own:=by have hx':own.contains x=true:=hx;simpa using hx'
  rcases gE B I h with ⟨_,m⟩ | ⟨_,n,_⟩
  ·have:=(hcl.empty _ _ m).2;have hC':Z.s.heap.objs.size<=Z.C:=hC;show Z.s.heap.objs.size<=c
   lia
  ·exact absurd ho n
 ·intro e;have e':@Eq Nat b Z.C:=e;have:=(hf b hb).2
  lia
 ·have l:=(hf b hb).2;rcases gE B I h with ⟨_,m⟩ | ⟨_,_,m⟩
  ·intro e;have e':@Eq Nat c b:=e;have:=(hcl.empty _ _ m).2
   lia
  ·exact (hf b hb).1.2.2.2.2.1 x c m
 ·obtain ⟨_,_,_,f3,_⟩:=(hf b hb).1;rcases f3 with f3 | f3
  ·exact I.ok.noex b o e f3
  ·exact absurd (aW (Heap.lt_size e) (ak I.ok.bsz f3)) (dF _)
 ·obtain ⟨_,f1,f2,_⟩:=(hf b hb).1;rcases az.mp (I.stkSub b hz) with e | e
  ·exact f1 e
  ·exact f2 e
def yU (k:Nat) (cap:List Nat) (σ:St):St:=List.replicate k none++cap.map λj=>(σ[j]?).join
def rE (X:Cx) (capN:List Str) (cap:List Nat):Prop:=cap.map (λj=>X.N[j]?)=capN.map some
theorem rE.get (h:rE X capN cap) {i:Nat} (e:capN[i]?=some x):∃j,cap[i]?=some j/\X.N[j]?=some x:=by
 have q:=congrArg (λl=>l[i]?) h;simp only[aY,e,Option.map_some] at q;cases hc:cap[i]? with
 | none=>rw[hc] at q;cases q
 | some j=>rw[hc] at q;exact ⟨j,rfl,by simpa using q⟩
theorem yB (I:Inv X pins σ Z.H Z.s) (B:Bk X.env scope own capN) (hcap:rE X capN cap)
  (kc:∀x c,X.env.cells.lookup x=some c->∀v,Z.s.heap.IsCell c v->h'.IsCell c v) {i:Nat} (e1:(own++capN)[i]?=some x) (e2:(yU own.length cap σ)[i]?=some (some v)) :
  ∃u,RelV v u/\Look (qq X.env scope Z.C) h' m x u:=by
 have hi:own.length<=i:=by
  by_cases hi:own.length<=i
  ·exact hi
  ·exfalso
   unfold yU at e2;rw[oy (by simpa using hi),jv] at e2
   split at e2 <;> cases e2
 rw[gY hi] at e1;unfold yU at e2;rw[gY (by simpa using hi),aT,aY] at e2;obtain ⟨j,hj,hN⟩:=hcap.get e1;rw[hj] at e2;have e3:(σ[j]?).join=some v:=by simpa using e2
 have e4:σ[j]?=some (some v):=by
  cases q:σ[j]? with
  | none=>rw[q] at e3;cases e3
  | some o=>rw[q] at e3;simp at e3;rw[e3]
 have hx:x∈capN:=aj e1;have hk:=B.caps x hx;obtain ⟨m0,_,hl⟩:=I.loc;obtain ⟨u,r,l⟩:=hl j x v hN e4 (.inr hk);refine ⟨u,r,.inr ⟨xV (B.capf x hx),?_⟩⟩;rcases l with ⟨hk2,_⟩ | ⟨_,c,hc,z⟩
 ·rcases hk with hk | hk
  ·rw[hk] at hk2;cases hk2
  ·rw[hk] at hk2;cases hk2
 ·exact ⟨c,E6 B I hx hc,kc x c hc _ z⟩
theorem Jl (I:Inv X pins σ Z.H Z.s) (h:b∈rW X.stack):@LT.lt Nat instLTNat b Z.s.heap.objs.size:=by
 obtain ⟨_,o,ho,_⟩:=I.stack.mem h;exact Heap.lt_size ho
theorem E4 {D:Addr} (I:Inv X pins σ Z.H Z.s) (hc:X.calm=true) (B:Bk X.env scope own capN) (hcap:rE X capN cap) (hC:Z.s.heap.objs.size<=Z.C)
  (hcl:CellsOk h1 (Z.C+1) (cellsFrom (Z.C+1) scope.names [])) (hf:∀b∈Z.fp,ip X pins Z.H b/\@LT.lt Nat instLTNat b Z.s.heap.objs.size)
  (hk:∀b o,Z.s.heap.get? b=some o->h1.get? b=some o) (hn:h1.Ns Z.C λ_=>none) (hD:Z.s.heap.objs.size<=D) (hDC:D≠Z.C) (hoD:h1.get? D=some oD) (hdD:∀v,oD.data≠.cell v) :
  Inv (rN X own capN scope Z) [(D,oD)] (yU own.length cap σ) Z.H { Z.s with heap:=h1,toks:=t1 }:=by
 refine ⟨HL I hc B hC hcl hf,rfl,I.bare,Un.kept hk,⟨_,hn,λi x v e1 e2 _=>yB I B hcap (λx c _ v z=>z.keeps hk) e1 e2⟩,λx c h=>?_,I.hok.fresh hC,λx c h=>?_,λp hp=>?_,I.hok.kept hk,?_⟩
 ·rcases gE B I h with ⟨_,m⟩ | ⟨_,_,m⟩
  ·exact ⟨none,(hcl.empty _ _ m).1⟩
  ·obtain ⟨v,q⟩:=I.cell x c m;exact ⟨v,q.keeps hk⟩
 ·rcases gE B I h with ⟨_,m⟩ | ⟨_,_,m⟩
  ·exact I.hok.fresh (by have:=(hcl.empty _ _ m).2;lia)
  ·exact I.freeC x c m
 ·have e:p=(D,oD):=by simpa [rN] using hp
  subst e;exact ⟨hoD,I.hok.fresh hD,hDC,λz=>dF _ (aW (Jl I z) hD),hdD⟩
 ·show (yU own.length cap σ).length=(own++capN).length
  have:=congrArg List.length hcap;simp only[av] at this;unfold yU;simp [this]
theorem DI {σ':St} (I:Inv X pins σ Z.H Z.s) (B:Bk X.env scope own capN) (hcap:rE X capN cap) (hf:∀b∈Z.fp,ip X pins Z.H b/\@LT.lt Nat instLTNat b Z.s.heap.objs.size)
  (J:Inv (rN X own capN scope Z) pins' σ' H' s'):Inv (rN X own capN scope Z) pins' (yU own.length cap σ) H' s':=by
 refine ⟨J.ok,J.os,J.bare,J.base,?_,J.cell,J.free,J.freeC,J.pin,J.hok,?_⟩
 ·obtain ⟨m,hn,_⟩:=J.loc;refine ⟨m,hn,λi x v e1 e2 _=>yB I B hcap (λx c hx v z=>?_) e1 e2⟩;obtain ⟨o,ho,hd⟩:=z;obtain ⟨sl,e⟩:=J.base.any ho (I.freeC x c hx) λz=>(hf c z).1.2.2.2.2.1 x c hx rfl
  exact ⟨_,e,hd⟩
 ·show (yU own.length cap σ).length=(own++capN).length
  have:=congrArg List.length hcap;simp only[av] at this;unfold yU;simp [this]
theorem E5 {σ':St} {D:Addr} (I:Inv X pins σ Z.H Z.s) (hf:∀b∈Z.fp,ip X pins Z.H b/\@LT.lt Nat instLTNat b Z.s.heap.objs.size) (hD:Z.s.heap.objs.size<=D)
  (J:Inv (rN X own capN scope Z) [(D,{ cls:=.type "list",data:=.seq its.toArray n })] σ' H' s') (r:bV ys its) (hz:ys.length<=sizeLine) :
  Inv X pins σ (upd H' D (.lst ys)) s':=by
 have pD:=J.pin (D,{ cls:=.type "list",data:=.seq its.toArray n }) (by simp);have ne:∀{b:Addr} {o:Obj},Z.s.heap.get? b=some o->b≠D:=λe z=>by subst z;exact dF _ (aW (Heap.lt_size e) hD)
 have nt:∀{b:Addr} {u:HO},H' b=some u->b≠D:=λe z=>by rw[z,pD.2.1] at e;cases e
 refine I.call' (ch:=Z.fp) J.os ⟨J.base.keep,J.base.slot,λb o e h hx=>?_,J.base.there,λb xs e=>?_,λb o u e=>?_,λb ps e=>?_⟩ (λb u e=>?_) J.bare λb hb=>?_
 ·rw[aN (ne e)];exact J.base.free b o e h hx
 ·have q:=J.base.tups b xs e;rw[aN (nt q)];exact q
 ·have q:=J.base.frzs b o u e;rw[aN (nt q)];exact q
 ·obtain ⟨more,q⟩:=J.base.tbls b ps e;exact ⟨more,by rw[aN (nt q)];exact q⟩
 ·by_cases hb:b=D
  ·subst hb;rw[aJ] at e;cases e;exact ⟨hz,its,n,r,pD.1⟩
  ·rw[aN hb] at e;exact (J.hok b u e).stay (λc v _ q=>q) (λc q=>by rw[aN (nt q)];exact q) λc xs q=>by rw[aN (nt q)];exact q
 ·obtain ⟨_,f1,_,f3,f4,f5⟩:=(hf b hb).1;exact ⟨f3,f1,f4,f5⟩
end
theorem F0 {t:Sem α} {Q Q':α->Shared->Prop} (h:wpAny M A t Q (λ_ _=>False) s) (hQ:∀a s,Q a s->Q' a s):wpAny M A t Q' E s :=
 wpAny_mono h hQ λ_ _ z=>False.elim z
theorem xh (I:Nat->Shared->Prop)
  (turn:∀(E:Value->Shared->Prop) n s,I n s->wpAny (model prog w) A (pyNext it) (λr s₁=>match r with
   | none=>R (.ok .next) s₁
   | some v=>wpAny (model prog w) A (letOwnedTupleGo target it v) (λ_ s₂=>wpAny (model prog w) A (assign target env v) (λ_ s₃ =>
     wpAny (model prog w) A (forIn ifs true λc r=>if r=true then do let ok <- isTrue c env (eval c env);pure (ForInStep.yield ok) else pure (ForInStep.yield r)) (λok s₄ =>
      if ok=true then wpAny (model prog w) A (eval elt env) (λx s₅=>wpAny (model prog w) A (call (.builtin "list.append") [acc,x]) (λ_ s₆=>∃m,m < n/\I m s₆) E s₅) E s₄
      else ∃m,m < n/\I m s₄) E s₃) E s₂) E s₁) E s)
  (n:Nat) (h:I n s):codeAny (model prog w) A (.compLoop (.ListComp elt [⟨target,iter,ifs,0⟩] scope pos) 0 it acc env) R s:=by
 refine codeAny_loop rfl I (λn s hI=>?_) n h;show wpAny _ A ((compTurn (.ListComp elt [⟨target,iter,ifs,0⟩] scope pos) 0 it acc env).onRaise (λx=>do noteFrame x env;theTreesLotGoes x)) _ _ s
 refine wpAny_noted ?_;rw[compTurn_list];refine wpAny_bind (wpAny_standAt (wpAny_bind (wpAny_mono (turn _ n s hI) (λr s₁ h₁=>?_) λ_ _ h'=>h')));cases r with
 | none=>exact wpAny_pure h₁
 | some v =>
  refine wpAny_bind (wpAny_mono h₁ (λ_ s₂ h₂=>wpAny_bind (wpAny_mono h₂ (λ_ s₃ h₃=>wpAny_bind (wpAny_mono h₃ (λok s₄ h₄=>?_) λ_ _ h'=>h')) λ_ _ h'=>h')) λ_ _ h'=>h');cases ok with
  | false=>exact wpAny_pure ⟨rfl,h₄⟩
  | true =>
   exact wpAny_bind (wpAny_bind (wpAny_mono h₄ (λx s₅ h₅=>wpAny_bind (wpAny_mono h₅ (λ_ s₆ h₆=>wpAny_pure (wpAny_pure ⟨rfl,h₆⟩)) λ_ _ h'=>h')) λ_ _ h'=>h'))
def PF (X:Cx) (ifs:List Expr) (t:TT):Prop :=
 ∀(pins:List (Addr×Obj)) (s:Shared) (σ:St) (H:Hp) (Q:Bool->Hp->Prop),Inv X pins σ H s->t σ H Q →
  wpAny (model X.prog X.w) X.A (forIn ifs true λc r=>if r=true then do let ok <- isTrue c X.env (eval c X.env);pure (ForInStep.yield ok) else pure (ForInStep.yield r)) (TP X pins σ Q) X.xe s
def Ij:TT:=λ_ H Q=>Q true H
theorem b0:PF X [] Ij:=λ_ _ _ H _ I h=>wpAny_tests_nil ⟨H,I,h⟩
def lC (σ₀:St) (g:TG) (tf:TT) (te:TE) (x:V) (H:Hp) (NY:V->Hp->Prop) (NN:Hp->Prop):Prop :=
 g x σ₀ H λσ2 H2=>tf σ2 H2 λb H3=>if b=true then te σ2 H3 NY else NN H3
def lI (J:It) (σ₀:St) (g:TG) (tf:TT) (te:TE) (Q:VK) (H1:Hp):Prop :=
 ∃W:Nat->Nat->List V->Hp->Prop,(∃m,W 0 m [] H1)/\∀i m ys H,W i m ys H →
  (J.stop i H/\ys.length<=sizeLine/\∀p,H p=none->Q (.ref p) (upd H p (.lst ys))) \/
  (J.go i H/\ys.length < sizeLine/\∃(NY:V->Hp->Prop) (NN:Hp->Prop),(∀y H',NY y H'->∃m',m' < m/\W (i+1) m' (ys++[y]) H')/\(∀H',NN H'->∃m',m' < m/\W (i+1) m' ys H') /\
   ∀x H',J.yld i H x H'->lC σ₀ g tf te x H' NY NN)
def xF (wi:TI) (k:Nat) (cap:List Nat) (g:TG) (tf:TT) (te:TE):TE:=λσ H Q=>wi σ H λJ H1=>lI J (yU k cap σ) g tf te Q H1
abbrev lobj (its:List Value) (n:Nat):Obj:={ cls:=.type "list",data:=.seq its.toArray n }
section
variable {X:Cx} {own capN:List Str} {cap:List Nat} {scope:Scope} {elt tg iter:Expr} {ifs:List Expr} {pos:Pos} {wi:TI} {g:TG} {tf:TT} {te:TE}
theorem vM (hc:X.calm=true) (B:Bk X.env scope own capN) (hcap:rE X capN cap)
  (hi:PI X tg iter wi) (hg:∀Z,PG (rN X own capN scope Z) tg g) (hf:∀Z,PF (rN X own capN scope Z) ifs tf) (he:∀Z,PE (rN X own capN scope Z) elt te)
  (hs:∀x,foldedSetIterable iter X.env x=pure x) {σ:St} (I:Inv X pins σ H s) (h:xF wi own.length cap g tf te σ H Q)
  (fin:∀(D C:Addr) (s':Shared) (H':Hp),Inv X pins σ H' s'->ip X pins H' C->(∃m,s'.heap.Ns C m)->Q (.ref D) H'->compPost (model X.prog X.w) X.A X.xe use Qe (.ref D) C (.ok .next) s') :
  wpAny (model X.prog X.w) X.A (comprehension (.ListComp elt [⟨tg,iter,ifs,0⟩] scope pos) scope X.env fpos (newList []) false (eval iter X.env) use) Qe X.xe s:=by
 refine wpAny_comprehension_free (use:=use) rfl hs (uA λy hy hk=>I.ok.has y.1 (B.caps _ (B.frees y hy hk).1)) B.kind B.locs ?_;refine eI (hi pins s σ H _ I h) λv s1 h1=>eI h1 λitv s2 h2=>?_
 obtain ⟨it,fp,tn,J,H2,e,I2,T,st2,f2,W,⟨m0,w0⟩,turn⟩:=h2;subst e;have hfp:∀b∈fp,ip X pins H2 b/\@LT.lt Nat instLTNat b s2.heap.objs.size:=λb hb=>⟨f2 b hb,let ⟨_,e,_⟩:=T.obj _ _ st2 b hb;Heap.lt_size e⟩
 refine wpAny_newObj_type (yg ?_) (bJ _);have es:(s2.heap.push { cls:=.type "list",data:=.seq ([]:List Value).toArray }).objs.size=s2.heap.objs.size+1:=Heap.size_push ..
 show codeAny _ _ (.compStart _ 0 (.ref it) (.ref s2.heap.objs.size) { newEnv scope (s2.heap.push { cls:=.type "list",data:=.seq ([]:List Value).toArray }).objs.size X.env.globals (cellsFrom ((s2.heap.push { cls:=.type "list",data:=.seq ([]:List Value).toArray }).objs.size+1) scope.names (c5 X.env scope.names [])) X.env.qual none .none (some X.env) builtinsNs with scope:=relabel scope X.env })
  (compPost (model X.prog X.w) X.A X.xe use Qe (.ref s2.heap.objs.size) (s2.heap.push { cls:=.type "list",data:=.seq ([]:List Value).toArray }).objs.size)
  { s2 with heap:=pushCells ((s2.heap.push { cls:=.type "list",data:=.seq ([]:List Value).toArray }).push { cls:=.type "dict",data:=.dict #[] }) scope.names }
 have hk1:∀b o,(s2.heap.push { cls:=.type "list",data:=.seq ([]:List Value).toArray }).get? b=some o->(pushCells ((s2.heap.push { cls:=.type "list",data:=.seq ([]:List Value).toArray }).push { cls:=.type "dict",data:=.dict #[] }) scope.names).get? b=some o :=
  λb o e=>pushCells_keeps _ _ _ _ (Heap.get?_push_of_some _ e)
 have hk:∀b o,s2.heap.get? b=some o->(pushCells ((s2.heap.push { cls:=.type "list",data:=.seq ([]:List Value).toArray }).push { cls:=.type "dict",data:=.dict #[] }) scope.names).get? b=some o:=λb o e=>hk1 b o (Heap.get?_push_of_some _ e)
 have hoD:=hk1 s2.heap.objs.size _ (Heap.get?_push_size s2.heap (o:={ cls:=.type "list",data:=.seq ([]:List Value).toArray }) rfl);have hn:=(Heap.Ns.new (s2.heap.push { cls:=.type "list",data:=.seq ([]:List Value).toArray }) (.type "dict")).keeps (pushCells_keeps scope.names _);have hcl:=AX ((s2.heap.push { cls:=.type "list",data:=.seq ([]:List Value).toArray }).push { cls:=.type "dict",data:=.dict #[] }) (s2.heap.objs.size+1) (by rw[Heap.size_push,es]) scope.names;rw[es] at hn ⊢;generalize pushCells ((s2.heap.push { cls:=.type "list",data:=.seq ([]:List Value).toArray }).push { cls:=.type "dict",data:=.dict #[] }) scope.names=h3 at hk hoD hn hcl ⊢;have Z:Bz:=⟨s2,H2,fp,s2.heap.objs.size+1⟩
 have I3:Inv (rN X own capN scope ⟨s2,H2,fp,s2.heap.objs.size+1⟩) [(s2.heap.objs.size,lobj [] 0)] (yU own.length cap σ) H2 { s2 with heap:=h3 } :=
  E4 (Z:=⟨s2,H2,fp,s2.heap.objs.size+1⟩) (t1:=s2.toks) I2 hc B hcap (pK _) hcl hfp hk hn (ay _) (bw (dm _)) hoD (λv z=>nomatch z)
 have st3:tn 0 h3:=T.keep _ _ _ st2 λb _ o e=>hk b o e
 have loop:codeAny (model X.prog X.w) X.A (.compLoop (.ListComp elt [⟨tg,iter,ifs,0⟩] scope pos) 0 (.ref it) (.ref s2.heap.objs.size) (qq X.env scope (s2.heap.objs.size+1))) (compPost (model X.prog X.w) X.A X.xe use Qe (.ref s2.heap.objs.size) (s2.heap.objs.size+1)) { s2 with heap:=h3 }:=by
  refine xh (λm s'=>∃i ys σ' H' its n,Inv (rN X own capN scope ⟨s2,H2,fp,s2.heap.objs.size+1⟩) [(s2.heap.objs.size,lobj its n)] σ' H' s'/\tn i s'.heap/\(∀b∈fp,H' b=none)/\bV ys its/\W i m ys H') ?_ m0
   ⟨0,[],_,H2,[],0,I3,st3,λb hb=>(f2 b hb).1,.nil,w0⟩
  rintro E n s4 ⟨i,ys,σ4,H4,its,k,I4,st4,fr4,rv,w4⟩
  have fpo:∀{pp:List (Addr×Obj)} {H':Hp},(∀p∈pp,p.1=s2.heap.objs.size)->(∀b∈fp,H' b=none)->∀b∈fp,ip (rN X own capN scope ⟨s2,H2,fp,s2.heap.objs.size+1⟩) pp H' b:=λ{pp H'} hpp hn b hb=>by
   obtain ⟨e1,e2⟩:=I4.ok.exf b hb;refine ⟨hn b hb,e1,I4.ok.exfs b hb,.inl hb,e2,λp hp=>?_⟩;have hp':p∈pp:=by simpa [rN] using hp
   have l:=(hfp b hb).2;rw[hpp p hp'];exact λz=>dF _ (by rw[<- z] at l;exact l)
  have pinD:∀{its:List Value} {n:Nat},∀p∈[(s2.heap.objs.size,lobj its n)],p.1=s2.heap.objs.size:=λp hp=>by simp at hp;rw[hp]
  rcases turn i n ys H4 w4 with ⟨stop,hz,q⟩ | ⟨go,hlt,NY,NN,hNY,hNN,step⟩
  ·refine eI (T.done (rN X own capN scope ⟨s2,H2,fp,s2.heap.objs.size+1⟩) rfl rfl rfl rfl i _ s4 σ4 H4 E I4 (fpo pinD fr4) st4 stop) λr s5 ⟨hr,I5⟩=>?_
   subst hr;have pD:=I5.pin (s2.heap.objs.size,lobj its k) (by simp);have I6:=E5 (Z:=⟨s2,H2,fp,s2.heap.objs.size+1⟩) I2 hfp (ay _) I5 rv hz
   have hC:upd H4 s2.heap.objs.size (.lst ys) (s2.heap.objs.size+1)=none:=by
    rw[aN (fV (dm _))];exact I5.free
   obtain ⟨m,hm,_⟩:=I5.loc;exact fin _ _ s5 _ I6 (I2.fpOk (pK _) hC) ⟨m,hm⟩ (q _ pD.2.1)
  ·refine eI (T.item (rN X own capN scope ⟨s2,H2,fp,s2.heap.objs.size+1⟩) rfl rfl rfl rfl i _ s4 σ4 H4 E I4 (fpo pinD fr4) st4 go) λr s5 ⟨u,hr,h5⟩=>?_
   subst hr;refine eI h5 λ_ s6 ⟨x,H6,I6,r6,y6,st6,fr6⟩=>?_
   have I6':=(DI (Z:=⟨s2,H2,fp,s2.heap.objs.size+1⟩) I2 B hcap hfp I6).pinned (fpo pinD fr6) (T.obj _ _ st6)
   have back:∀{σ7:St} {H7:Hp} {s7:Shared},Inv (rN X own capN scope ⟨s2,H2,fp,s2.heap.objs.size+1⟩) ([(s2.heap.objs.size,lobj its k)]++tz fp s6.heap) σ7 H7 s7 →
     Inv (rN X own capN scope ⟨s2,H2,fp,s2.heap.objs.size+1⟩) [(s2.heap.objs.size,lobj its k)] σ7 H7 s7/\tn (i+1) s7.heap/\∀b∈fp,H7 b=none:=λ{σ7 H7 s7} I7=>by
    refine ⟨I7.unpinned,T.keep _ _ _ st6 λb hb o e=>(I7.pin (b,o) (bG _ (bG _ (kX hb e)))).1,λb hb=>?_⟩;obtain ⟨o,e,d⟩:=T.obj _ _ st6 b hb;exact (I7.pin (b,o) (bG _ (bG _ (kX hb e)))).2.1
   refine F0 (hg _ _ s6 _ H6 x u _ I6' r6 (step x H6 y6)) λ_ s7 ⟨σ7,H7,I7,q7⟩=>?_
   refine F0 (hf _ _ s7 σ7 H7 _ I7 q7) λok s8 ⟨H8,I8,q8⟩=>?_
   cases ok with
   | false =>
    rw[if_neg aM] at q8 ⊢;obtain ⟨m',hm,w8⟩:=hNN H8 q8;obtain ⟨J1,J2,J3⟩:=back I8;exact ⟨m',hm,i+1,ys,σ7,H8,its,k,J1,J2,J3,rv,w8⟩
   | true =>
    rw[if_pos rfl] at q8 ⊢;refine F0 (he _ _ s8 σ7 H8 _ I8 q8) λz s9 ⟨y,H9,I9,r9,q9⟩=>?_
    obtain ⟨J1,J2,J3⟩:=back I9;obtain ⟨m',hm,w9⟩:=hNY y H9 q9;have pD:=J1.pin (s2.heap.objs.size,lobj its k) (by simp);have hl:=rv.length;refine call_meets F.slot_list_append ⟨_,pD.1,rfl⟩ F.entry_list_append (F.args_list_append_2 _ _) (PySem.list_append s2.heap.objs.size its.toArray k z (by rw[aE];lia)) ⟨pD.1,?_⟩;have e9:=iw pD.1 (λa=>a.push z);have e9':(its.toArray.push z)=(its++[z]).toArray:=by simp
    rw[e9'] at e9;obtain ⟨n',e9⟩:∃n',(s9.heap.update s2.heap.objs.size (Obj.mapSeq λa=>a.push z)).get? s2.heap.objs.size=some (lobj (its++[z]) n'):=⟨_,e9⟩
    have J4:Inv (rN X own capN scope ⟨s2,H2,fp,s2.heap.objs.size+1⟩) [] σ7 H9 { s9 with heap:=s9.heap.update s2.heap.objs.size (Obj.mapSeq λa=>a.push z),toks:=s9.toks } :=
     (J1.pins_of (pins':=[]) λp hp=>nomatch hp).turned (λb o hb e=>(Heap.get?_update_other s9.heap _ (Ne.symm hb)).trans e) pD.2.1 pD.2.2.1 (.inr (ay _)) (λx c hx z=>by
      rcases gE (Z:=⟨s2,H2,fp,s2.heap.objs.size+1⟩) B I2 hx with ⟨_,m⟩ | ⟨_,_,m⟩
      ·have:=(hcl.empty _ _ m).2;have z':@Eq Nat c s2.heap.objs.size:=z
       lia
      ·have:=xi (Z:=⟨s2,H2,fp,s2.heap.objs.size+1⟩) I2 m;rw[z] at this;exact dF _ this) λp hp=>by simp [rN] at hp
    have nfp:∀b∈fp,b≠s2.heap.objs.size:=λb hb z=>by have:=(hfp b hb).2;rw[z] at this;exact dF _ this
    refine ⟨m',hm,i+1,ys++[y],σ7,H9,its++[z],n',J4.pins_of λp hp=>?_,T.keep _ _ _ J2 λb hb o e=>(Heap.get?_update_other s9.heap _ (Ne.symm (nfp b hb))).trans e,J3,rv.append (.cons r9 .nil),w9⟩;have ep:p=(s2.heap.objs.size,lobj (its++[z]) n'):=by simpa using hp
    rw[ep];exact ⟨e9,pD.2.1,pD.2.2.1,pD.2.2.2.1,λv z=>nomatch z⟩
 exact codeAny_compStart_list loop (T.self _ _ _ _ _ st3 loop)
theorem bQ (own capN:List Str) (cap:List Nat) (hi:PI X tg iter wi) (hg:∀Z,PG (rN X own capN scope Z) tg g) (hf:∀Z,PF (rN X own capN scope Z) ifs tf) (he:∀Z,PE (rN X own capN scope Z) elt te)
  (h1:JG scope own capN=true:=by decide +kernel) (h2:vO X.env capN=true:=by rfl) (hcap:rE X capN cap:=by rfl) (hc:X.calm=true:=by rfl) (hs:∀x,foldedSetIterable iter X.env x=pure x:=by intro _;rfl) :
  PE X (.ListComp elt [⟨tg,iter,ifs,0⟩] scope pos) (xF wi own.length cap g tf te):=by
 intro pins s σ H Q I h;rw[eval_ListComp];refine vM (use:=none) hc (Bk.of h1 h2) hcap hi hg hf he hs I h λD C s' H' I' fC hm q=>?_
 obtain ⟨m,hm⟩:=hm;refine ⟨m,hm,λh' hs'=>?_⟩;obtain ⟨f0,f1,f2,f3,f4,f5⟩:=fC;exact ⟨.ref D,H',I'.turned (t':=s'.toks) (λb o hb e=>(hs'.2 b hb).trans e) f0 f1 f3 f4 f5,rfl,q⟩
theorem rR (i:Nat) (own capN:List Str) (cap:List Nat) {x:Str} {pos' spos:Pos} (hN:X.N.Nodup) (hi':X.N[i]?=some x) (hx:X.env.scope.names.lookup x=some .local) (hi:PI X tg iter wi) (hg:∀Z,PG (rN X own capN scope Z) tg g) (hf:∀Z,PF (rN X own capN scope Z) ifs tf) (he:∀Z,PE (rN X own capN scope Z) elt te)
  (h1:JG scope own capN=true:=by decide +kernel) (h2:vO X.env capN=true:=by rfl) (hcap:rE X capN cap:=by rfl) (hc:X.calm=true:=by rfl) (hs:∀x,foldedSetIterable iter X.env x=pure x:=by intro _;rfl)
  (hsw:swapsWith (.ListComp elt [⟨tg,iter,ifs,0⟩] scope pos) (some (.Name x pos')) spos.line X.env=pure true:=by rfl) :
  PS X (.Assign [.Name x pos'] (.ListComp elt [⟨tg,iter,ifs,0⟩] scope pos) spos) (D5 (xF wi own.length cap g tf te) (Aj i)):=by
 intro pins s σ H D I h;rw[exec_Assign_Name_used _ _ _ _ hsw];refine wpAny_bind (wpAny_standAt (wpAny_bind ?_));rw[arm_evalThenUse_ListComp];refine wpAny_bind (vM (Q:=λv H1=>D.nx (σ.set i (some v)) H1) (use:=some _) hc (Bk.of h1 h2) hcap hi hg hf he hs I h λL C s' H' I' fC hm q=>?_);obtain ⟨m,hm⟩:=hm;obtain ⟨f0,f1,f2,f3,f4,f5⟩:=fC;refine wpAny_assign_Name (vk I' hN hi' (.inl hx) (v:=.ref L) rfl (λs'' I'' ⟨a,sb,ha⟩=>?_) (.inr hx))
 have hCa:C≠a:=by
  rcases ha with e | e
  ·rw[e];exact f1
  ·exact (f4 x a e).symm
 refine ⟨m,hm.at' λo e=>(sb.2 C hCa).trans e,λh' hs'=>?_⟩;have I3:=I''.turned (h':=h') (t':=s''.toks) (λb o hb e=>(hs'.2 b hb).trans e) f0 f1 f3 f4 f5;exact wpAny_pure (wpAny_pure ⟨_,H',I3,q⟩)
end
section
variable {K:FG9} {a:Addr} {xs:List V} {g:TG} {tf:TT} {te:TE} {Q:VK} {σ₀:St} {H:Hp}
theorem gD (Pv:Nat->List V->Hp->Prop) (hz:xs.length<=sizeLine) (h0:Pv 0 [] H) (hl:∀i ys H,i<=xs.length->Pv i ys H->bB K H a xs)
  (hs:∀i x ys H,xs[i]?=some x->ys.length<=i->Pv i ys H->lC σ₀ g tf te x H (λy H'=>Pv (i+1) (ys++[y]) H') (λH'=>Pv (i+1) ys H'))
  (hd:∀ys H,ys.length<=xs.length->Pv xs.length ys H->∀p,H p=none->Q (.ref p) (upd H p (.lst ys))):lI (DQ K a) σ₀ g tf te Q H:=by
 refine ⟨λi m ys H=>m=xs.length - i/\i<=xs.length/\ys.length<=i/\Pv i ys H,⟨xs.length,by simp,bJ _,bJ _,h0⟩,?_⟩;rintro i m ys H ⟨rfl,hi,hy,p⟩;have q:=hl i ys H hi p;by_cases hlt:i < xs.length
 ·refine .inr ⟨⟨xs,xs[i],q,by simp [hlt]⟩,by lia,λy H'=>Pv (i+1) (ys++[y]) H',λH'=>Pv (i+1) ys H',λy H' p'=>⟨xs.length - (i+1),by lia,rfl,hlt,by rw[aG,cp];lia,p'⟩,λH' p'=>⟨xs.length - (i+1),by lia,rfl,hlt,by lia,p'⟩,λx H' y=>?_⟩;obtain ⟨e,y⟩:=y;subst e;exact hs i x ys _ (y xs q) hy p
 ·have e:i=xs.length:=by lia
  subst e;exact .inl ⟨⟨xs,q,ay _⟩,by lia,hd ys H hy p⟩
theorem uv (Pv:Nat->List V->Hp->Prop) (hz:xs.length<=sizeLine) (h0:Pv 0 [] H) (hl:∀i ys H,i<=xs.length->Pv i ys H->iP K H a xs)
  (hs:∀i x ys H,xs[i]?=some x->ys.length<=i->Pv i ys H->lC σ₀ g tf te x H (λy H'=>Pv (i+1) (ys++[y]) H') (λH'=>Pv (i+1) ys H'))
  (hd:∀ys H,ys.length<=xs.length->Pv xs.length ys H->∀p,H p=none->Q (.ref p) (upd H p (.lst ys))):lI (JL K a) σ₀ g tf te Q H:=by
 refine ⟨λi m ys H=>m=xs.length - i/\i<=xs.length/\ys.length<=i/\Pv i ys H,⟨xs.length,by simp,bJ _,bJ _,h0⟩,?_⟩;rintro i m ys H ⟨rfl,hi,hy,p⟩;have q:=hl i ys H hi p;by_cases hlt:i < xs.length
 ·refine .inr ⟨⟨xs,xs[i],q,by simp [hlt]⟩,by lia,λy H'=>Pv (i+1) (ys++[y]) H',λH'=>Pv (i+1) ys H',λy H' p'=>⟨xs.length - (i+1),by lia,rfl,hlt,by rw[aG,cp];lia,p'⟩,λH' p'=>⟨xs.length - (i+1),by lia,rfl,hlt,by lia,p'⟩,λx H' y=>?_⟩;obtain ⟨e,y⟩:=y;subst e;exact hs i x ys _ (y xs q) hy p
 ·have e:i=xs.length:=by lia
  subst e;exact .inl ⟨⟨xs,q,ay _⟩,by lia,hd ys H hy p⟩
theorem lh {lo:Int} (Pv:Nat->List V->Hp->Prop) (hz:n<=sizeLine) (h0:Pv 0 [] H)
  (hs:∀i ys H,i < n->ys.length<=i->Pv i ys H->lC σ₀ g tf te (.int (lo+i)) H (λy H'=>Pv (i+1) (ys++[y]) H') (λH'=>Pv (i+1) ys H'))
  (hd:∀ys H,ys.length<=n->Pv n ys H->∀p,H p=none->Q (.ref p) (upd H p (.lst ys))):lI (AD lo n) σ₀ g tf te Q H:=by
 refine ⟨λi m ys H=>m=n - i/\i<=n/\ys.length<=i/\Pv i ys H,⟨n,by simp,bJ _,bJ _,h0⟩,?_⟩;rintro i m ys H ⟨rfl,hi,hy,p⟩;by_cases hlt:i < n
 ·refine .inr ⟨hlt,by lia,λy H'=>Pv (i+1) (ys++[y]) H',λH'=>Pv (i+1) ys H',λy H' p'=>⟨n - (i+1),by lia,rfl,hlt,by rw[aG,cp];lia,p'⟩,λH' p'=>⟨n - (i+1),by lia,rfl,hlt,by lia,p'⟩,λx H' y=>?_⟩;obtain ⟨e,y⟩:=y;subst e y;exact hs i ys _ hlt hy p
 ·have e:i=n:=by lia
  subst e;exact .inl ⟨ay _,by lia,hd ys H hy p⟩
end
open Nm
def jK (i j:Int):Prop:=HS i j\/∃m n,Sz m i/\Sz n j/\m+n<=1000000
def mG (i j:Int):Prop:=j≠0/\Sz 8999 j
theorem uD (h:Sz k i):Builtin.Int.intBits i<=k:=by
 unfold Builtin.Int.intBits;by_cases e:i=0
 ·subst e;simp
 ·have e':(i == 0)=false:=by simpa using e
  rw[e'];have hn:i.natAbs≠0:=by lia
  have:=(Nat.log2_lt hn).mpr h;simp only[cE,if_false]
  lia
theorem jK.ok (h:jK i j):IntMulOk i j:=by
 rcases h with h | ⟨m,n,h1,h2,h3⟩
 ·exact h.ok
 ·have e:(2:Nat)^20=1048576:=by decide
  exact .of_bits (by have:=uD h1;lia) (by have:=uD h2;lia)
section
variable {X:Cx} {a b:Expr} {ta tb:TE} {pos:Pos}
theorem eD:so X (binaryOp .Mult) (rI jK λi j=>.int (i*j)):=JE λ_ _ _ _ _ _ _ hc q=>mul_int q hc.ok
theorem iG:so X (binaryOp .FloorDiv) (rI mG λi j=>.int (i.fdiv j)):=JE λi j _ _ _ _ _ hc q=>by
 refine floordiv_int hc.1 q (.inl (PyProof.noPylong_of_log2 ?_));have hn:j.natAbs≠0:=by have:=hc.1;lia
 have:=(Nat.log2_lt hn).mpr hc.2
 lia
def Im (t u:TS):TS:=λD σ H=>∃N:St->Hp->Prop,t { D with nx:=N } σ H/\∀σ' H',N σ' H'->u D σ' H'
theorem d8 {st:Stmt} (h1:PS X st t) (h2:xv X rest u):xv X (st :: rest) (Im t u):=by
 intro pins s σ H D I h;obtain ⟨N,h,k⟩:=h;refine wpAny_execs_cons (eI (h1 pins s σ H { D with nx:=N } I h) λf s1 q=>?_);cases f with
 | next =>
  obtain ⟨σ',H',I',q⟩:=q;exact h2 pins s1 σ' H' D I' (k _ _ q)
 | ret v=>exact q
 | brk=>exact q
 | cont=>exact q
def Fu (K:FG9):V->V->Hp->VK->Prop:=λo i H Q=>∃p xs k v,o=.ref p/\i=.int k/\bB K H p xs/\Aw xs k=some v/\Q v H
theorem Dj:Ju X (Fu X.K):=by
 intro pins s σ H o i ov iv Q I ro ri h;obtain ⟨p,xs,k,z,rfl,rfl,hq,he,q⟩:=h;cases ro;obtain ⟨t,rfl⟩:=ri;obtain ⟨its,r,pl,hz⟩:=I.list hq;obtain ⟨j,h1,h2,h3,h4,h5⟩:=xj he;obtain ⟨w,ew,rw'⟩:=r.get h2;have hl:=r.length;have hn:=tZ;have fin:EP X pins σ Q w s:=⟨z,H,I,rw',q⟩;by_cases h0:0<=k
 ·have hj:k.toNat=j:=by
   rw[seqIndex_of h0 h5] at h1;exact bR h1
  exact wpAny_getItem_list pl.isList h0 (by lia) (by rw[hj];simpa using ew) fin
 ·have hj:(k+(its.toArray.size:Int)).toNat=j:=by
   rw[seqIndex_neg (by lia) h4] at h1;rw[aE,<- hl];exact bR h1
  exact wpAny_getItem_list_neg pl.isList (by lia) (by rw[aE] <;> lia) (by lia) (by rw[hj];simpa using ew) fin
def zc (K:FG9) (T:String):V->Hp->VK->Prop:=λx H Q=>∃t b,qr K H x t/\PySem.W.kitOne K t (.type T)=some b/\Q (.bl b) H
theorem tF {c:Str} {T:String} {p p2:Pos} (hg:Gl X "isinstance") (hm:X.mg "isinstance"=none) (hb:bootBuiltins c=some (.type T)) (hmc:X.mg c=none) (ha:PE X a ta) (hgc:Gl X c:=by rfl) (hn:c≠"__name__":=by decide)
  (hd:(c == ("__debug__":Str))=false:=by decide) (he:starEach [a,.Name c p2] X.env=[(false,eval a X.env),(false,eval (.Name c p2) X.env)]:=by rfl)
  (hpl:(backTo pos (starEach [.Name c p2] X.env)).any (·.1)=false:=by rfl) (he2:starEach [.Name c p2] X.env=[(false,eval (.Name c p2) X.env)]:=by rfl):PE X (.Call (.Name "isinstance" p) [a,.Name c p2] [] pos) (HX (zc X.K T) ta):=by
 intro pins s σ H Q I h;refine wpAny_Call_Name_kw (ij I hg hm PyProof.Rows.boot_isinstance ?_);have hA:PA X [a,.Name c p2] (je ta (je (tC (.ty T)) wo)):=aa ha (aa (Ac hgc hmc hb rfl hn hd) ae he2) (by rw[he,he2])
 have hq:je ta (je (tC (.ty T)) wo) σ H (λvs H1=>∃x,vs=[x,.ty T]/\zc X.K T x H1 Q):=by
  show ta σ H λx H1=>∃x',[x,V.ty T]=[x',V.ty T]/\zc X.K T x' H1 Q
  have e:(λx H1=>∃x',[x,V.ty T]=[x',V.ty T]/\zc X.K T x' H1 Q)=λx H1=>zc X.K T x H1 Q:=by
   funext x H1;apply propext;constructor
   ·rintro ⟨x',e,q⟩;cases e;exact q
   ·intro q;exact ⟨x,rfl,q⟩
  rw[e];exact h
 refine PyProof.Rows.callWith_builtin1 (eI (hA pos pins s σ H _ I hq) λus s1 ⟨vs,H1,I1,r1,x,e,q1⟩=>?_) (by rw[he,he2]) hpl;subst e;obtain ⟨u,w',rfl,ru,rt⟩:=vals2 r1;cases rt;obtain ⟨t,bb,ty,ek,q⟩:=q1;exact vE I1 ru ty ek λtk=>⟨.bl bb,H1,I1.tok tk,rfl,q⟩
end
structure Kind (α:Type) [DecidableEq α] where
 R:FG9->Hp->V->α->Prop
 d:Nat
 inj:∀{X:Cx} {pins:List (Addr×Obj)} {σ:St} {H:Hp} {s:Shared} {x:V} {a b:α},Inv X pins σ H s->R X.K H x a->R X.K H x b->a=b
 rc:∀{X:Cx} {pins:List (Addr×Obj)} {σ:St} {H:Hp} {s:Shared} {x y:V} {v u:Value} {a b:α} {A:Around},Inv X pins σ H s->RelV x v->RelV y u->R X.K H x a->R X.K H y b->A.units+d < cLine->SeqAt.RcAt A s v u (decide (a=b))
 ne:∀{X:Cx} {pins:List (Addr×Obj)} {σ:St} {H:Hp} {s:Shared} {x y:V} {v u:Value} {a b:α} {A:Around},Inv X pins σ H s->RelV x v->RelV y u->R X.K H x a->R X.K H y b->A.units+d < cLine->SeqAt.RcNeAt A s v u (!decide (a=b))
 eq:∀{X:Cx} {pins:List (Addr×Obj)} {σ:St} {H:Hp} {s:Shared} {x y:V} {v u:Value} {a b:α} {A:Around},Inv X pins σ H s->RelV x v->RelV y u->R X.K H x a->R X.K H y b->A.units+d < cLine->SeqAt.EqAt A s v u (decide (a=b))
def EO:Kind Int where
 R:=λ_ _ x i=>x=.int i
 d:=0
 inj:=λ_ h1 h2=>by rw[h1] at h2;cases h2;rfl
 rc:=λ{X pins σ H s x y v u a b A} I rx ry h1 h2 _=>by
  subst h1 h2;obtain ⟨t,rfl⟩:=rx;obtain ⟨t',rfl⟩:=ry;have q:=SeqAt.RcAt.int_int (A:=A) (s:=s) a t b t';rwa [eG] at q
 ne:=λ{X pins σ H s x y v u a b A} I rx ry h1 h2 _=>by
  subst h1 h2;obtain ⟨t,rfl⟩:=rx;obtain ⟨t',rfl⟩:=ry;have q:=SeqAt.RcNeAt.int_int (A:=A) (s:=s) a t b t';rwa [eG] at q
 eq:=λ{X pins σ H s x y v u a b A} I rx ry h1 h2 _=>by
  subst h1 h2;obtain ⟨t,rfl⟩:=rx;obtain ⟨t',rfl⟩:=ry;have q:=SeqAt.EqAt.int_int (A:=A) (s:=s) a t b t';rwa [eG] at q
theorem ig {α β:Type} {F:α->β->Prop}:∀{l1:List α} {l2:List β} {i:Nat} (_:Paired F l1 l2) (h1:i < l1.length) (h2:i < l2.length),F l1[i] l2[i]
 | _,_,_,.nil,h1,_=>absurd h1 (Nat.not_lt_zero _)
 | _,_,0,.cons r _,_,_=>r
 | _,_,i+1,.cons _ t,h1,h2=>ig (i:=i) t (Nat.lt_of_succ_lt_succ h1) (Nat.lt_of_succ_lt_succ h2)
theorem jk {α β:Type} {F:α->β->Prop} (hF:∀a b x,F a x->F b x->a=b):∀{l1 l2:List α} {l:List β},Paired F l1 l->Paired F l2 l->l1=l2
 | _,_,_,.nil,.nil=>rfl
 | _,_,_,.cons r t,.cons r' t'=>by rw[hF _ _ _ r r',jk hF t t']
theorem oV {α:Type} [DecidableEq α] (as bs:List α) (h:as.length=bs.length):(List.range as.length).all (λj=>decide (as[j]?=bs[j]?))=decide (as=bs):=by
 rw[lM,rH,decide_eq_true_iff];constructor
 ·intro q;apply gU;intro i;by_cases hi:i < as.length
  ·exact of_decide_eq_true (q i (nO.mpr hi))
  ·rw[b7 (by lia),b7 (by lia)]
 ·rintro rfl i _;simp
section
variable {α:Type} [DecidableEq α] (k:Kind α)
theorem Kind.items {X:Cx} {pins:List (Addr×Obj)} {σ:St} {H:Hp} {s:Shared} {A:Around} (I:Inv X pins σ H s) (hA:A.units+k.d < cLine) {xs ys:List V} {us ws:List Value} {as bs:List α}
  (rx:bV xs us) (ry:bV ys ws) (ha:Paired (λa x=>k.R X.K H x a) as xs) (hb:Paired (λa x=>k.R X.K H x a) bs ys) :
  ∀j (h1:j < us.toArray.size) (h2:j < ws.toArray.size),SeqAt.EqAt A s us.toArray[j] ws.toArray[j] (decide (as[j]?=bs[j]?)):=λj h1 h2=>by
 have l1:j < us.length:=by simpa using h1
 have l2:j < ws.length:=by simpa using h2
 have e1:=rx.length;have e2:=ry.length;have e3:=ha.length;have e4:=hb.length;obtain ⟨u,hu,ru⟩:=rx.get (i:=j) (x:=xs[j]'(by lia)) (by simp);obtain ⟨w,hw,rw'⟩:=ry.get (i:=j) (x:=ys[j]'(by lia)) (by simp);have q:=k.eq (A:=A) I ru rw' (ig ha (by lia) (by lia)) (ig hb (by lia) (by lia)) hA
 have eu:us.toArray[j]=u:=by
  have:=hu;rw[ao l1] at this;simpa using this
 have ew:ws.toArray[j]=w:=by
  have:=hw;rw[ao l2] at this;simpa using this
 rw[eu,ew,ao (show j < as.length by lia),ao (show j < bs.length by lia)];have e5:decide (some as[j]=some bs[j])=decide (as[j]=bs[j]):=by simp
 rw[e5];exact q
theorem wk {α:Type} [DecidableEq α] (as bs:List α) {n m:Nat} (h1:as.length=n) (h2:bs.length=m):((List.range (min n m)).all (λj=>decide (as[j]?=bs[j]?)) && n == m)=decide (as=bs):=by
 subst h1 h2;by_cases e:as.length=bs.length
 ·rw[show min as.length bs.length=as.length by lia,oV as bs e];simp [e]
 ·have h1:(as.length == bs.length)=false:=by simpa using e
  rw[h1,Bool.and_false];exact (decide_eq_false λz=>e (by rw[z])).symm
def JY:Kind (List α) where
 R:=λK H x as=>∃p xs,x=.ref p/\iP K H p xs/\Paired (λa x=>k.R K H x a) as xs
 d:=k.d+1
 inj:=λ{X pins σ H s x a b} I h1 h2=>by
  obtain ⟨p,xs,rfl,hp,pa⟩:=h1;obtain ⟨q,ys,e,hq,pb⟩:=h2;cases e;have e:=I.tuple_inj hp hq;subst e;exact jk (F:=λa x=>k.R X.K H x a) (λa b x=>k.inj I) pa pb
 rc:=λ{X pins σ H s x y v u a b A} I rx ry h1 h2 hA=>by
  obtain ⟨p,xs,rfl,hp,pa⟩:=h1;obtain ⟨q,ys,rfl,hq,pb⟩:=h2;cases rx;cases ry;obtain ⟨us,r1,t1,_⟩:=I.tuple hp;obtain ⟨ws,r2,t2,_⟩:=I.tuple hq;have z:=SeqAt.RcAt.tuples (A:=A) (e:=λj=>decide (a[j]?=b[j]?)) (show s.heap.IsTuple p us.toArray from t1) (show s.heap.IsTuple q ws.toArray from t2) (by lia) (k.items (A:=A.in1) I (by show A.units+1+k.d < cLine;lia) r1 r2 pa pb);rwa [wk a b (by rw[pa.length,r1.length];simp) (by rw[pb.length,r2.length];simp)] at z
 ne:=λ{X pins σ H s x y v u a b A} I rx ry h1 h2 hA=>by
  obtain ⟨p,xs,rfl,hp,pa⟩:=h1;obtain ⟨q,ys,rfl,hq,pb⟩:=h2;cases rx;cases ry;obtain ⟨us,r1,t1,_⟩:=I.tuple hp;obtain ⟨ws,r2,t2,_⟩:=I.tuple hq;have z:=SeqAt.RcNeAt.tuples (A:=A) (e:=λj=>decide (a[j]?=b[j]?)) (show s.heap.IsTuple p us.toArray from t1) (show s.heap.IsTuple q ws.toArray from t2) (by lia) (k.items (A:=A.in1) I (by show A.units+1+k.d < cLine;lia) r1 r2 pa pb);rwa [wk a b (by rw[pa.length,r1.length];simp) (by rw[pb.length,r2.length];simp)] at z
 eq:=λ{X pins σ H s x y v u a b A} I rx ry h1 h2 hA=>by
  obtain ⟨p,xs,rfl,hp,pa⟩:=h1;obtain ⟨q,ys,rfl,hq,pb⟩:=h2;cases rx;cases ry;by_cases e:p=q
  ·subst e;have e:=I.tuple_inj hp hq;subst e;rw[jk (F:=λa x=>k.R X.K H x a) (λa b x=>k.inj I) pa pb,decide_eq_true rfl];exact SeqAt.EqAt.same _
  ·obtain ⟨us,r1,t1,_⟩:=I.tuple hp;obtain ⟨ws,r2,t2,_⟩:=I.tuple hq;have z:=SeqAt.RcAt.tuples (A:=A) (e:=λj=>decide (a[j]?=b[j]?)) (show s.heap.IsTuple p us.toArray from t1) (show s.heap.IsTuple q ws.toArray from t2) (by lia) (k.items (A:=A.in1) I (by show A.units+1+k.d < cLine;lia) r1 r2 pa pb);rw[wk a b (by rw[pa.length,r1.length];simp) (by rw[pb.length,r2.length];simp)] at z;exact .of_refs e z
theorem zw {X:Cx} {pins:List (Addr×Obj)} {σ:St} {H:Hp} {s:Shared} {p q:Addr} {xs ys:List V} {a b:List α} {A:Around} (I:Inv X pins σ H s) (hp:bB X.K H p xs) (hq:bB X.K H q ys)
  (pa:Paired (λa x=>k.R X.K H x a) a xs) (pb:Paired (λa x=>k.R X.K H x a) b ys) (hA:A.units+(k.d+1) < cLine) :
  SeqAt.RcAt A s (.ref p) (.ref q) (decide (a=b))/\SeqAt.RcNeAt A s (.ref p) (.ref q) (!decide (a=b)):=by
 obtain ⟨us,r1,t1,_⟩:=I.list hp;obtain ⟨ws,r2,t2,_⟩:=I.list hq;have l1:=r1.length;have l2:=r2.length;have l3:=pa.length;have l4:=pb.length;by_cases e:us.length=ws.length
 ·have it:=k.items (A:=A.in1) I (by show A.units+1+k.d < cLine;lia) r1 r2 pa pb;have z:=SeqAt.RcAt.lists (A:=A) (e:=λj=>decide (a[j]?=b[j]?)) t1.isList t2.isList (by simpa using e) (by lia) it;have z2:=SeqAt.RcNeAt.lists (A:=A) (e:=λj=>decide (a[j]?=b[j]?)) t1.isList t2.isList (by simpa using e) (by lia) it;have e1:us.toArray.size=a.length:=by rw[aE];lia
  rw[e1,oV a b (by lia)] at z z2;exact ⟨z,z2⟩
 ·have hne:¬a=b:=λz=>e (by have:=congrArg List.length z;lia)
  rw[decide_eq_false hne];exact ⟨SeqAt.RcAt.lists_lengths t1.isList t2.isList (by simpa using e) (by lia),SeqAt.RcNeAt.lists_lengths t1.isList t2.isList (by simpa using e) (by lia)⟩
def Ja:Kind (List α) where
 R:=λK H x as=>∃p xs,x=.ref p/\bB K H p xs/\Paired (λa x=>k.R K H x a) as xs
 d:=k.d+1
 inj:=λ{X pins σ H s x a b} I h1 h2=>by
  obtain ⟨p,xs,rfl,hp,pa⟩:=h1;obtain ⟨q,ys,e,hq,pb⟩:=h2;cases e;have e:=I.list_inj hp hq;subst e;exact jk (F:=λa x=>k.R X.K H x a) (λa b x=>k.inj I) pa pb
 rc:=λ{X pins σ H s x y v u a b A} I rx ry h1 h2 hA=>by
  obtain ⟨p,xs,rfl,hp,pa⟩:=h1;obtain ⟨q,ys,rfl,hq,pb⟩:=h2;cases rx;cases ry;exact (zw k I hp hq pa pb hA).1
 ne:=λ{X pins σ H s x y v u a b A} I rx ry h1 h2 hA=>by
  obtain ⟨p,xs,rfl,hp,pa⟩:=h1;obtain ⟨q,ys,rfl,hq,pb⟩:=h2;cases rx;cases ry;exact (zw k I hp hq pa pb hA).2
 eq:=λ{X pins σ H s x y v u a b A} I rx ry h1 h2 hA=>by
  obtain ⟨p,xs,rfl,hp,pa⟩:=h1;obtain ⟨q,ys,rfl,hq,pb⟩:=h2;cases rx;cases ry;by_cases e:p=q
  ·subst e;have e:=I.list_inj hp hq;subst e;rw[jk (F:=λa x=>k.R X.K H x a) (λa b x=>k.inj I) pa pb,decide_eq_true rfl];exact SeqAt.EqAt.same _
  ·exact .of_refs e (zw k I hp hq pa pb hA).1
def Kind.via {β:Type} [DecidableEq β] (f:β->α) (fi:∀a b,f a=f b->a=b) (R':FG9->Hp->V->β->Prop) (im:∀{K H x b},R' K H x b->k.R K H x (f b)):Kind β where
 R:=R'
 d:=k.d
 inj:=λI h1 h2=>fi _ _ (k.inj I (im h1) (im h2))
 rc:=λ{X pins σ H s x y v u a b A} I rx ry h1 h2 hA=>by
  have z:=k.rc (A:=A) I rx ry (im h1) (im h2) hA;rwa [decide_eq_decide.mpr (show f a=f b↔a=b from ⟨fi a b,λe=>by rw[e]⟩)] at z
 ne:=λ{X pins σ H s x y v u a b A} I rx ry h1 h2 hA=>by
  have z:=k.ne (A:=A) I rx ry (im h1) (im h2) hA;rwa [decide_eq_decide.mpr (show f a=f b↔a=b from ⟨fi a b,λe=>by rw[e]⟩)] at z
 eq:=λ{X pins σ H s x y v u a b A} I rx ry h1 h2 hA=>by
  have z:=k.eq (A:=A) I rx ry (im h1) (im h2) hA;rwa [decide_eq_decide.mpr (show f a=f b↔a=b from ⟨fi a b,λe=>by rw[e]⟩)] at z
end
def zQ (K:FG9) (H:Hp) (x:V) (n:Int×Int):Prop:=∃p,x=.ref p/\iP K H p [.int n.1,.int n.2]
def JZ:Kind (Int×Int):=(JY EO).via (λn=>[n.1,n.2]) (λa b e=>by cases a;cases b;simp at e;rw[e.1,e.2]) zQ λ⟨p,e,h⟩=>⟨p,_,e,h,.cons rfl (.cons rfl .nil)⟩
def JV (K:FG9):R2:=λx y H Q=>∃(α:Type) (_:DecidableEq α) (k:Kind α) (a b:α),k.d<=50/\k.R K H x a/\k.R K H y b/\Q (.bl (decide (a=b))) H
def JU (K:FG9):R2:=λx y H Q=>∃(α:Type) (_:DecidableEq α) (k:Kind α) (a b:α),k.d<=50/\k.R K H x a/\k.R K H y b/\Q (.bl (!decide (a=b))) H
theorem CP (hu:X.A.units+50 < cLine):so X (compareOp .Eq) (JV X.K):=by
 intro pins s σ H x y v u Q I rx ry h;obtain ⟨α,_,k,a,b,hd,ha,hb,q⟩:=h;exact k.rc (A:=X.A) I rx ry ha hb (by lia) _ _ _ _ ⟨.bl (decide (a=b)),H,I,rfl,q⟩
theorem zj (hu:X.A.units+50 < cLine):so X (compareOp .NotEq) (JU X.K):=by
 intro pins s σ H x y v u Q I rx ry h;obtain ⟨α,_,k,a,b,hd,ha,hb,q⟩:=h;exact k.ne (A:=X.A) I rx ry ha hb (by lia) _ _ _ _ ⟨.bl (!decide (a=b)),H,I,rfl,q⟩
theorem Dd (hr:ik k A):A.units+50 < cLine:=by have:=hr.units;lia
def Inner (H:Hp) (p q:Addr):Prop:=∃a b c:Int,H p=some (.lst [.int a,.int b,.int c,.ref q])
def cb (p:Addr) (H H':Hp):Prop:=(∀b o,H b=some o->b≠p->H' b=some o)/\∀q,Inner H p q->Inner H' p q
theorem cb.refl (H:Hp):cb p H H:=⟨λ_ _ h _=>h,λ_ h=>h⟩
theorem cb.trans (a:cb p H H1) (b:cb p H1 H2):cb p H H2:=⟨λc o h n=>b.1 c o (a.1 c o h n) n,λq h=>b.2 q (a.2 q h)⟩
theorem Inner.inj (h:Inner H p q) (h':Inner H p q'):q=q':=by
 obtain ⟨a,b,c,e⟩:=h;obtain ⟨a',b',c',e'⟩:=h';rw[e] at e';have:=HO.lst.inj (bR e');simp at this;exact this.2.2.2
theorem cb.set (h:H p=some (.lst [.int a,.int b,.int c,.ref q])):cb p H (upd H p (.lst [.int a',.int b',.int c',.ref q])) :=
 ⟨λb u h n=>by rw[aN n];exact h,λq' h'=>by
  rw[(Inner.inj ⟨a,b,c,h⟩ h').symm];exact ⟨a',b',c',aJ⟩⟩
theorem aH.upto (h:aH H H'):cb p H H':=⟨λb o e _=>h b o e,λq ⟨a,b,c,e⟩=>⟨a,b,c,h _ _ e⟩⟩
theorem aH.new (h:H p=Option.none):aH H (upd H p o):=λb u e=>by rw[aN (dA e h)];exact e
theorem aH.sqt {K:FG9} (e:aH H H') (h:iP K H a xs):iP K H' a xs:=by
 rcases h with (h | ⟨o,h⟩) | h
 ·exact .inl (.inl (e _ _ h))
 ·exact .inl (.inr ⟨o,e _ _ h⟩)
 ·exact .inr h
theorem aH.num {K:FG9} (e:aH H H') (h:zQ K H x n):zQ K H' x n:=by obtain ⟨p,q,r⟩:=h;exact ⟨p,q,e.sqt r⟩
section
variable {σ:St} {H:Hp} {D:Ends}
theorem aZ {t:TS} (e:σ0=σ) (h:t D σ H):t D σ0 H:=by rw[e];exact h
theorem Gg (h:t { D with nx:=u D } σ H):Io t u D σ H:=h
theorem Eh (h:D.nx σ H):Fl D σ H:=h
theorem GB {g:TG} (h:te σ H λx H1=>g x σ H1 D.nx):D5 te g D σ H:=h
theorem CF (h:Q (σ.set i (some v)) H):Aj i v σ H Q:=h
theorem Gh (h:te σ H D.rt):Ip te D σ H:=h
theorem Gv (h:c σ H λb H1=>if b=true then t D σ H1 else u D σ H1):Iw c t u D σ H:=h
theorem Er (h:te σ H λ_ H1=>D.nx σ H1):Fo te D σ H:=h
theorem Gi (h:ta σ H λvs H1=>∃v w,vs=[v,w]/\D.nx ((σ.set i (some v)).set j (some w)) H1):Iq i j ta D σ H:=h
theorem Ew 
  (h:to σ H λo H1=>ti σ H1 λi H2=>tget o i H2 λx H3=>te σ H3 λy H4=>tip x y H4 λz H5=>tset o i z H5 λH6=>D.nx σ H6):Fp to ti te tget tip tset D σ H:=h
theorem Gu (h:Q (.int (f i j)) H):ipI f (.int i) (.int j) H Q:=⟨i,j,rfl,rfl,h⟩
theorem Gx {g:TG} (h:wi σ H λJ H1=>∃W:Nat->Nat->St->Hp->Prop,(∃m,W 0 m σ H1)/\∀i m σ H,W i m σ H →
  (J.stop i H/\D.nx σ H)\/(J.go i H/\∃N:St->Hp->Prop,(∀σ' H',N σ' H'->∃m',m' < m/\W (i+1) m' σ' H')/\∀x H',J.yld i H x H'->g x σ H' λσ2 H2=>tb { D with nx:=N,ct:=N,bk:=D.nx } σ2 H2)):Iy wi g tb D σ H:=h
variable {Q:VK} {QA:List V->Hp->Prop} {QB:Bool->Hp->Prop}
theorem Gd (e:σ[i]?=some (some v)) (h:Q v H):F1 i σ H Q:=⟨v,e,h⟩
theorem JS (h:Q v H):tC v σ H Q:=h
theorem IK (h:ta σ H λx H1=>tb σ H1 λy H2=>r x y H2 Q):Ir r ta tb σ H Q:=h
theorem IG (h:ta σ H λx H1=>r x H1 Q):HX r ta σ H Q:=h
theorem IP {g:Int->Int->V} (h:Q (g i j) H):Ft g (.int i) (.int j) H Q:=⟨i,j,rfl,rfl,h⟩
theorem ie {g:Int->Int->V} (hc:C i j) (h:Q (g i j) H):rI C g (.int i) (.int j) H Q:=⟨i,j,rfl,rfl,hc,h⟩
theorem JT {g:Int->V} (h:Q (g i) H):rU g (.int i) H Q:=⟨i,rfl,h⟩
theorem GA (h:Q (.bl (decide (i=j))) H):JW (.int i) (.int j) H Q:=⟨rfl,by
 have e:decide (V.int i=V.int j)=decide (i=j):=by simp
 rw[e];exact h⟩
theorem Gq (h:Q (.bl (!decide (i=j))) H):rNe (.int i) (.int j) H Q:=⟨rfl,by
 have e:decide (V.int i=V.int j)=decide (i=j):=by simp
 rw[e];exact h⟩
theorem Gz (h:Q (.bl (decide (i=j))) H):JW (.str i) (.str j) H Q:=⟨rfl,by
 have e:decide (V.str i=V.str j)=decide (i=j):=by simp
 rw[e];exact h⟩
theorem Ed (h:t σ H λx H'=>∃k,x=.bl k/\QB k H'):Fi t σ H QB:=h
theorem IH (h:t σ H λx H'=>∃k,x=.bl k/\QB k H'):tB t σ H QB:=h
theorem GC (h:t σ H λc H1=>if c=true then u σ H1 QB else QB false H1):Iz t u σ H QB:=h
theorem IJ (h:t σ H λc H1=>if c=true then QB true H1 else u σ H1 QB):tOr t u σ H QB:=h
theorem Gj (h:t σ H λc H1=>QB (!c) H1):Iu t σ H QB:=h
theorem Ex (h:t σ H λx H1=>∃c,x=.bl c/\if c=true then u σ H1 Q else Q (.bl false) H1):Fq t u σ H Q:=h
theorem Eg (h:t σ H λx H1=>∃c,x=.bl c/\Q (.bl (!c)) H1):Fk t σ H Q:=h
theorem F9 (h:QB true H):Ij σ H QB:=h
theorem Gk (h:QA [] H):wo σ H QA:=h
theorem Es (h:ta σ H λx H1=>tr σ H1 λxs H2=>QA (x :: xs) H2):je ta tr σ H QA:=h
theorem Eu (h:t σ H λvs H1=>sp vs H1 Q E):BQ sp [] E t σ H Q:=by
 have e:(λvs H1=>sp (vs++[]) H1 Q E)=λvs H1=>sp vs H1 Q E:=by funext vs H1;rw[dU]
 show t σ H λvs H1=>sp (vs++[]) H1 Q E
 rw[e];exact h
theorem IL (h:t σ H λvs H1=>r vs H1 Q):JR r t σ H Q:=h
theorem zb {K:FG9} (hx:iP K H p xs) (e:Aw xs i=some v) (h:Q v H):GG K (.ref p) (.int i) H Q:=⟨p,xs,i,v,rfl,rfl,hx,e,h⟩
theorem bT {K:FG9} (hx:bB K H p xs) (e:Aw xs i=some v) (h:Q v H):GH K (.ref p) (.int i) H Q:=⟨p,xs,i,v,rfl,rfl,hx,e,h⟩
theorem Ep {K:FG9} (hx:bB K H p xs) (e:Aw xs i=some v) (h:Q v H):Fu K (.ref p) (.int i) H Q:=⟨p,xs,i,v,rfl,rfl,hx,e,h⟩
theorem dE (hx:H p=some (.lst xs)) (e:Bv xs.length i=some j) (ey:xs.set j v=ys) (h:QH (upd H p (.lst ys))):Fs (.ref p) (.int i) v H QH:=⟨p,xs,i,j,rfl,rfl,hx,e,by rw[ey];exact h⟩
theorem En (h:to σ H λo H1=>ti σ H1 λi H2=>t o i v H2 λH3=>QS σ H3):Ji to ti t v σ H QS:=h
theorem CG (h:t v σ H λσ' H'=>u r σ' H' QS):FE t u (v :: r) σ H QS:=⟨v,r,rfl,h⟩
theorem Eo (h:QS σ H):Jj [] σ H QS:=⟨rfl,h⟩
theorem Em {K:FG9} (hx:iP K H a xs) (hl:xs.length=n) (h:t xs σ H QS):Hv K n t (.ref a) σ H QS:=⟨a,xs,rfl,hx,hl,h⟩
theorem II (h:te σ H λx H1=>tl σ H1 λl H2=>th σ H2 λu H3=>r x l u H3 Q):tSl r te tl th σ H Q:=h
theorem AS (h:QO none H):zV σ H QO:=h
theorem Ef (h:t σ H λx H1=>∃i,x=.int i/\QO (some i) H1):Fj t σ H QO:=h
variable {R:It->Hp->Prop} {K:FG9}
theorem CC (h:tl σ H λx H1=>∃a,x=.ref a/\(∃xs,bB K H1 a xs)/\R (DQ K a) H1):Dc K tl σ H R:=h
theorem El (h:tl σ H λx H1=>∃a,x=.ref a/\(∃xs,iP K H1 a xs)/\R (JL K a) H1):Jf K tl σ H R:=h
theorem CB (h:ta σ H λvs H1=>∃j:Int,vs=[.int j]/\-(2^62)<=j/\j < 2^62/\R (AD 0 j.toNat) H1):FA ta σ H R:=h
theorem Et {g:TG} (e:yU k cap σ=σ₀) (h:wi σ H λJ H1=>lI J σ₀ g tf te Q H1):xF wi k cap g tf te σ H Q:=by
 unfold xF;rw[e];exact h
theorem Ec {g:TG} {NY:V->Hp->Prop} (h:g x σ H λσ2 H2=>tf σ2 H2 λb H3=>if b=true then te σ2 H3 NY else NN H3):lC σ g tf te x H NY NN:=h
theorem IM (h:to σ H λx H1=>JQ K T x H1/\t σ H1 λxs H2=>r x xs H2 Q):tBM K T r to t σ H Q:=h
def Jv (Q:VK) (xs:List V) (H:Hp):Prop:=xs.length<=sizeLine/\∀p,H p=none->Q (.ref p) (upd H p (.tup xs))
def Jw (Q:VK) (xs:List V) (H:Hp):Prop:=xs.length<=sizeLine/\∀p,H p=none->Q (.ref p) (upd H p (.lst xs))
theorem Ge (h:t σ H (Jv Q)):Ik t σ H Q:=h
theorem Gs (h:t σ H (Jw Q)):Iv t σ H Q:=h
theorem fM (h:Nat.ble n 1000=true):n<=sizeLine:=aU (bp (Nat.le_of_ble_eq_true h))
theorem bx {xs:List V} (h:∀p H',aH H H'->H' p=some (.tup xs)->Q (.ref p) H') (hl:Nat.ble xs.length 1000=true:=by rfl):Jv Q xs H :=
 ⟨fM hl,λp hp=>h p _ (aH.new hp) aJ⟩
theorem cS {xs:List V} (h:∀p H',aH H H'->H p=none->H' p=some (.lst xs)->Q (.ref p) H') (hl:Nat.ble xs.length 1000=true:=by rfl):Jw Q xs H :=
 ⟨fM hl,λp hp=>h p _ (aH.new hp) hp aJ⟩
theorem Jc {A B:Prop} (h:B):if (!true)=true then A else B:=Ho h
theorem Jd {A B:Prop} (h:A):if (!false)=true then A else B:=Jb h
def WB (tb:TS) (D:Ends) (Pv:St->Hp->Prop) (μ:St->Hp->Nat) (n:Nat) (σ:St) (H:Hp):Prop:=∃N:St->Hp->Prop,(∀σ' H',N σ' H'->∃m',m' < n/\(m'=μ σ' H'/\Pv σ' H'))/\tb { D with nx:=N,ct:=N,bk:=D.nx } σ H
theorem IF (h:tb { D with nx:=λσ' H'=>Pv σ' H'/\μ σ' H' < n,ct:=λσ' H'=>Pv σ' H'/\μ σ' H' < n,bk:=D.nx } σ H):WB tb D Pv μ n σ H :=
 ⟨_,λσ' H' ⟨p,l⟩=>⟨_,l,rfl,p⟩,h⟩
theorem zT (Pv:St->Hp->Prop) (μ:St->Hp->Nat) (h0:Pv σ H) (hs:∀σ H,Pv σ H->c σ H λb H1=>if b=true then WB tb D Pv μ (μ σ H) σ H1 else D.nx σ H1):BO c tb D σ H:=by
 refine ⟨λm σ H=>m=μ σ H/\Pv σ H,⟨_,rfl,h0⟩,?_⟩;rintro m σ H ⟨rfl,p⟩;exact hs σ H p
end
def eQ (H:Hp) (p:Addr):Prop:=∃(q:Addr) (a b c:Int) (cs:List Int),H p=some (.lst [.int a,.int b,.int c,.ref q])/\H q=some (.lst (cs.map V.int))/\0<=a/\0<=c/\c<=(cs.length:Int)/\∀x∈cs,(0:Int)<=x
theorem Bq {H:Hp} {cs:List Int} (hp:H p=some (.lst [.int a,.int b,.int c,.ref q])) (hq:H q=some (.lst (cs.map V.int))):q≠p:=λe=>by
 rw[e,hp] at hq;have h:=HO.lst.inj (bR hq);cases cs with
 | nil=>cases h
 | cons x1 cs=>cases cs with
  | nil=>cases h
  | cons x2 cs=>cases cs with
   | nil=>cases h
   | cons x3 cs=>cases cs with
    | nil=>cases h
    | cons x4 cs=>simp at h
theorem eQ.same (h:eQ H p) (e:aH H H'):eQ H' p:=by obtain ⟨q,a,b,c,cs,h1,h2,r⟩:=h;exact ⟨q,a,b,c,cs,e _ _ h1,e _ _ h2,r⟩
theorem cb.tup {H H':Hp} {p r:Addr} {xs:List V} (u:cb p H H') (B:eQ H p) (h:H r=some (.tup xs)):H' r=some (.tup xs):=by
 obtain ⟨q,a,b,c,cs,h1,_⟩:=B;exact u.1 r _ h λe=>by rw[e,h1] at h;cases h
theorem cb.other (u:cb p H H') (n:r≠p) (h:H r=some o):H' r=some o:=u.1 r _ h n
theorem eQ.inner (h:eQ H p):∃q,Inner H p q/\∃xs,H q=some (.lst xs):=by obtain ⟨q,a,b,c,cs,h1,h2,_⟩:=h;exact ⟨q,⟨a,b,c,h1⟩,_,h2⟩
theorem eQ.upd (h:eQ H p) (hi:Inner H p q) (n1:r≠p) (n2:r≠q):eQ (L2.upd H r o) p:=by
 obtain ⟨q',a,b,c,cs,h1,h2,z⟩:=h;have e:q'=q:=Inner.inj ⟨a,b,c,h1⟩ hi;subst e;exact ⟨q',a,b,c,cs,by rw[aN n1.symm];exact h1,by rw[aN n2.symm];exact h2,z⟩
theorem Inner.upd (hi:Inner H p q) (n1:r≠p):Inner (L2.upd H r o) p q:=by obtain ⟨a,b,c,h⟩:=hi;exact ⟨a,b,c,by rw[aN n1.symm];exact h⟩
def D7:Sp:=λvs H Q _=>∃p n,vs=[.ref p,.int n]/\eQ H p/\0 < n/\n < 2^64/\∀v H',0<=v->v < n->eQ H' p->cb p H H'->Q (.int v) H'
inductive Co (K:FG9) (vs:List V) (H:Hp) (Q:VK) (E9:XK):Prop
 | mk (a:Addr) (ns:List Int):vs=[.ref a]->bB K H a (ns.map V.int)->ns.length<=63->(∀p H',H p=none->eQ H' p->aH H H'->Q (.ref p) H')->Co K vs H Q E9
inductive sS (K:FG9) (vs:List V) (H:Hp) (Q:VK) (E9:XK):Prop
 | mk (a:Addr) (ns:List Int):vs=[.ref a]->bB K H a (ns.map V.int)->ns.length<=63->(∀H',Q (.bl true) H')->sS K vs H Q E9
def F6:Sp:=λvs H Q _=>∃t b,vs=[.int t,.int b]/\0 < b/\Sz 8999 b/\∀r H',aH H H'->H' r=some (.tup [.int (lo t b),.int (hi t b)])->Q (.ref r) H'
def IA:Sp:=λvs H Q _=>∃a b,vs=[.int a,.int b]/\Q (.int (g a b)) H
def AN:Sp:=λvs H Q _=>∃t b,vs=[.int t,.int b]/\b≠0/\Sz 8999 b/\∀r H',aH H H'->H' r=some (.tup [.int (lo (if b < 0 then -t else t) (if b < 0 then -b else b)),.int (hi (if b < 0 then -t else t) (if b < 0 then -b else b))])->Q (.ref r) H'
def FH (a b c d:Int):Int:=a*d+c*b
def Ds (a _b c _d:Int):Int:=a*c
def Cp (K:FG9) (f:Int->Int->Int->Int->Int):Sp:=λvs H Q _=>∃p q a b c d,vs=[.ref p,.ref q]/\iP K H p [.int a,.int b]/\iP K H q [.int c,.int d]/\0 < b/\0 < d/\Sz 4000 a/\Sz 4000 b/\Sz 4000 c/\Sz 4000 d /\
 ∀r H',aH H H'->H' r=some (.tup [.int (lo (f a b c d) (b*d)),.int (hi (f a b c d) (b*d))])->Q (.ref r) H'
theorem b6 {α β:Type} {F:α->β->Prop}:∀{l1 l1':List α} {l2 l2':List β},Paired F l1 l2->Paired F l1' l2'->Paired F (l1++l1') (l2++l2')
 | _,_,_,_,.nil,h=>h
 | _,_,_,_,.cons r t,h=>.cons r (b6 t h)
theorem bF {h:Heap} (ha:h.get? a=some o) (hb:h.get? b=some u) (hc:o.cls≠u.cls):a≠b:=λe=>by
 subst e;rw[ha] at hb;cases hb;exact hc rfl
theorem dN (h:a≠b):Value.type a≠Value.type b:=λe=>h (by injection e)
theorem vf {z TI TO i1 i2 l1 l2:Addr} (hz:IsZip h z TI TO f0) (hTI:IsPair h TI (.ref i1) (.ref i2)) (hTO:IsPair h TO a b)
  (h1:h.IsListIter i1 l1 k1) (h2:h.IsListIter i2 l2 k2) (hl1:h.IsList l1 xs) (hl2:h.IsList l2 ys) (hT:TI≠TO) (hi:i1≠i2):ZipApart z TI TO i1 i2 l1 l2:=by
 obtain ⟨o1,g1,c1,_⟩:=h1;obtain ⟨o2,g2,c2,_⟩:=h2;obtain ⟨p1,q1,d1,_⟩:=hl1;obtain ⟨p2,q2,d2,_⟩:=hl2;refine ⟨bF hTI hz ?_,bF hTO hz ?_,bF g1 hz ?_,bF g2 hz ?_,hT,bF hTI g1 ?_,bF hTI g2 ?_,bF hTO g1 ?_,bF hTO g2 ?_,hi,bF q1 hz ?_,bF q1 hTO ?_,bF q1 g1 ?_,bF q1 g2 ?_,bF q2 hz ?_,bF q2 hTO ?_,bF q2 g1 ?_,bF q2 g2 ?_⟩
 all_goals first
  | (rw[d1];first | (rw[c1];exact dN (by decide)) | (rw[c2];exact dN (by decide)) | exact dN (by decide))
  | (rw[d2];first | (rw[c1];exact dN (by decide)) | (rw[c2];exact dN (by decide)) | exact dN (by decide))
  | (rw[c1];exact dN (by decide))
  | (rw[c2];exact dN (by decide))
  | exact dN (by decide)
def JK (K : FG9) (l1 l2 : Addr) : It :=
  ⟨λi H => ∃ xs ys x y, bB K H l1 xs /\ bB K H l2 ys /\ xs[i]? = some x /\ ys[i]? = some y,
   λi H v H' => ∃ p x y, v = .ref p /\ H p = none /\ H' = upd H p (.tup [x, y]) /\ (∀ xs, bB K H l1 xs → xs[i]? = some x) /\ ∀ ys, bB K H l2 ys → ys[i]? = some y,
   λi H => ∃ xs ys, bB K H l1 xs /\ bB K H l2 ys /\ (xs.length ≤ i \/ ys.length ≤ i)⟩
def tnZ (z TI TO i1 i2 l1 l2:Addr) (i:Nat) (h:Heap):Prop:=IsZip h z TI TO .none/\IsPair h TI (.ref i1) (.ref i2)/\(∃a b,IsPair h TO a b)/\h.IsListIter i1 l1 i/\h.IsListIter i2 l2 i
theorem BL {P:Program} {w:World} {K:FG9} {elts:List Expr} {kk:Nat} {tpos:Pos} (z TI TO i1 i2 l1 l2:Addr) (hT:TI≠TO) (hi:i1≠i2):Turn P w K (.Tuple elts kk tpos) (JK K l1 l2) [z,TI,TO,i1,i2] z (tnZ z TI TO i1 i2 l1 l2) where
 mem:=by simp
 obj:=λi h st b hb=>by
  obtain ⟨hz,hTI,⟨a,c,hTO⟩,⟨o1,g1,c1,d1⟩,⟨o2,g2,c2,d2⟩⟩:=st;simp only[az,aB,or_false] at hb;rcases hb with rfl | rfl | rfl | rfl | rfl
  ·exact ⟨_,hz,λv q=>nomatch q⟩
  ·exact ⟨_,hTI,λv q=>nomatch q⟩
  ·exact ⟨_,hTO,λv q=>nomatch q⟩
  ·exact ⟨o1,g1,λv q=>by rw[d1] at q;cases q⟩
  ·exact ⟨o2,g2,λv q=>by rw[d2] at q;cases q⟩
 keep:=λi h h' st k=>by
  obtain ⟨hz,hTI,⟨a,c,hTO⟩,h1,h2⟩:=st;exact ⟨k z (by simp) _ hz,k TI (by simp) _ hTI,⟨a,c,k TO (by simp) _ hTO⟩,h1.at λo e=>k i1 (by simp) o e,h2.at λo e=>k i2 (by simp) o e⟩
 item:=by
  intro X hP hw hK hc i pins s σ H E I hf st hg;subst hP hw hK;obtain ⟨hz,hTI,⟨a,c,hTO⟩,h1,h2⟩:=st;obtain ⟨xs,ys,x,y,qx,qy,ex,ey⟩:=hg;obtain ⟨us,rx,px,_⟩:=I.list qx;obtain ⟨ws,ry,py,_⟩:=I.list qy;obtain ⟨u,eu,ru⟩:=rx.get ex;obtain ⟨v,ev,rv⟩:=ry.get ey;have D:=vf hz hTI hTO h1 h2 px.isList py.isList hT hi;refine wpAny_pyNext_zip_item D hz hTI hTO h1 h2 px.isList py.isList (x:=u) (y:=v) (by simpa using eu) (by simpa using ev) λh' a1 a2 a3 a4 a5 a6 hk=>?_
  refine ⟨_,rfl,wpAny_letOwnedTupleGo_zip a1 λh'' hz'' hs=>?_⟩;have hT0:H s.heap.objs.size=none:=I.hok.fresh (ay _);have zne:s.heap.objs.size≠z:=fV (Heap.lt_size hz)
  have up:∀b o,b∉[z,TO,i1,i2]->s.heap.get? b=some o->h''.get? b=some o:=λb o hb e=>by
   simp only[az,aB,or_false,not_or] at hb;exact (hs.2 b hb.1).trans (hk b o hb.1 hb.2.1 hb.2.2.1 hb.2.2.2 e)
  have fx:∀b∈[z,TO,i1,i2],ip X pins H b:=λb hb=>hf b (by
   simp only[az,aB,or_false] at hb ⊢;rcases hb with rfl | rfl | rfl | rfl <;> simp)
  have nx:∀b o,H b=some o->b∉[z,TO,i1,i2]:=λb o e hb=>by
   have:=(fx b hb).1;rw[this] at e;cases e
  have nT:∀{b:Addr} {o:HO},H b=some o->b≠s.heap.objs.size:=λe q=>by rw[q,hT0] at e;cases e
  have tup:h''.get? s.heap.objs.size=some { cls:=.type "tuple",data:=.seq #[u,v] }:=(hs.2 _ zne).trans a5
  have I2:Inv X pins σ (upd H s.heap.objs.size (.tup [x,y])) { s with heap:=h'' }:=by
   refine I.step (g':=s.gens) (d':=s.drawn) (t':=s.toks) (ch:=[z,TO,i1,i2]) (λb hb=>?_) (λb o _ _ hb e _=>up b o hb e) (λb o _ _ hb e _=>⟨o.slots,up b o hb e⟩) (λb o hb e n=>?_)
    (λb o hb e=>⟨o,up b o hb e⟩) (λb q e=>by rw[aN (nT e)];exact e) (λb o q e=>by rw[aN (nT e)];exact e) (λb q e=>⟨#[],by rw[aN (nT e),e];simp⟩) (λm hm=>?_) (λb o e=>?_) I.bare
   ·obtain ⟨_,f1,_,f3,f4,f5⟩:=fx b hb;exact ⟨f3,f1,f4,f5⟩
   ·rw[aN (bw (Heap.lt_size e))];exact n
   ·obtain ⟨o,es,ep,ho,r⟩:=hm;exact ⟨o,es,ep,up _ o (λz=>(fx _ z).2.1 rfl) ho,r⟩
   ·by_cases hb:b=s.heap.objs.size
    ·subst hb;rw[aJ] at e;cases e;exact ⟨fM rfl,[u,v],.cons ru (.cons rv .nil),⟨_,tup,rfl,_,rfl⟩⟩
    ·rw[aN hb] at e;refine (I.hok b o e).stay (λc v' hc q=>up c v' ?_ q) (λc q=>by rw[aN (nT q)];exact q) λc xs q=>by rw[aN (nT q)];exact q
     rcases hc with rfl | hc
     ·exact nx _ _ e
     ·exact nx _ _ hc
  refine ⟨.ref s.heap.objs.size,_,I2,rfl,⟨_,x,y,rfl,hT0,rfl,λxs' q=>by rw[I.list_inj q qx];exact ex,λys' q=>by rw[I.list_inj q qy];exact ey⟩,?_,λb hb=>?_⟩
  ·refine ⟨hz'',(hs.2 _ D.TIz).trans (hk _ _ D.TIz D.TITO D.TIi1 D.TIi2 hTI),⟨_,_,(hs.2 _ D.TOz).trans a2⟩,a3.at λo e=>(hs.2 _ D.i1z).trans e,a4.at λo e=>(hs.2 _ D.i2z).trans e⟩
  ·obtain ⟨o,e,_⟩:∃o,s.heap.get? b=some o/\True:=by
    obtain ⟨o1,g1,_⟩:=h1;obtain ⟨o2,g2,_⟩:=h2;simp only[az,aB,or_false] at hb;rcases hb with rfl | rfl | rfl | rfl | rfl
    ·exact ⟨_,hz,trivial⟩
    ·exact ⟨_,hTI,trivial⟩
    ·exact ⟨_,hTO,trivial⟩
    ·exact ⟨_,g1,trivial⟩
    ·exact ⟨_,g2,trivial⟩
   rw[aN (bw (Heap.lt_size e))];exact (hf b hb).1
 done:=by
  intro X hP hw hK hc i pins s σ H E I hf st hg;subst hP hw hK;obtain ⟨hz,hTI,⟨a,c,hTO⟩,h1,h2⟩:=st;obtain ⟨xs,ys,qx,qy,hend⟩:=hg;obtain ⟨us,rx,px,_⟩:=I.list qx;obtain ⟨ws,ry,py,_⟩:=I.list qy;have lx:=rx.length;have ly:=ry.length;have D:=vf hz hTI hTO h1 h2 px.isList py.isList hT hi
  refine wpAny_pyNext_zip_end (I.ok.hd hc) D hz hTI hTO h1 h2 px.isList py.isList (by
   rcases hend with q | q
   ·exact .inl (by simp;lia)
   ·exact .inr (by simp;lia)) λh' hk=>⟨rfl,?_⟩
  have up:∀b o,b∉[z,TO,i1,i2]->s.heap.get? b=some o->h'.get? b=some o:=λb o hb e=>by
   simp only[az,aB,or_false,not_or] at hb;exact hk b o hb.1 hb.2.1 hb.2.2.1 hb.2.2.2 e
  have fx:∀b∈[z,TO,i1,i2],ip X pins H b:=λb hb=>hf b (by
   simp only[az,aB,or_false] at hb ⊢;rcases hb with rfl | rfl | rfl | rfl <;> simp)
  have nx:∀b o,H b=some o->b∉[z,TO,i1,i2]:=λb o e hb=>by
   have:=(fx b hb).1;rw[this] at e;cases e
  refine I.step (g':=s.gens) (d':=s.drawn) (t':=s.toks) (ch:=[z,TO,i1,i2]) (λb hb=>?_) (λb o _ _ hb e _=>up b o hb e) (λb o _ _ hb e _=>⟨o.slots,up b o hb e⟩) (λb o hb e n=>n)
   (λb o hb e=>⟨o,up b o hb e⟩) (λb q e=>e) (λb o q e=>e) (λb q e=>⟨#[],by rw[e];simp⟩) (λm hm=>?_) (λb o e=>?_) I.bare
  ·obtain ⟨_,f1,_,f3,f4,f5⟩:=fx b hb;exact ⟨f3,f1,f4,f5⟩
  ·obtain ⟨o,es,ep,ho,r⟩:=hm;exact ⟨o,es,ep,up _ o (λz=>(fx _ z).2.1 rfl) ho,r⟩
  ·refine (I.hok b o e).stay (λc v' hc q=>up c v' ?_ q) (λc q=>q) λc xs q=>q
   rcases hc with rfl | hc
   ·exact nx _ _ e
   ·exact nx _ _ hc
 self:=λ_ _ _ _ _ st h=>wpAny_pyIter_zip st.1 h
section
variable {X:Cx}
def Je (K:FG9) (ta:TA):TI:=λσ H R=>ta σ H λvs H1=>∃l1 l2,vs=[.ref l1,.ref l2]/\(∃xs,bB K H1 l1 xs)/\(∃ys,bB K H1 l2 ys)/\R (JK K l1 l2) H1
theorem EC {a b:Expr} {ta:TA} {p pos tpos:Pos} {elts:List Expr} {kk:Nat} (hg:Gl X "zip") (hm:X.mg "zip"=none) (ha:PA X [a,b] ta) (hs:starEach [a,b] X.env=[(false,eval a X.env),(false,eval b X.env)]:=by rfl) (hs2:starEach [b] X.env=[(false,eval b X.env)]:=by rfl) :
  PI X (.Tuple elts kk tpos) (.Call (.Name "zip" p) [a,b] [] pos) (Je X.K ta):=by
 intro pins s σ H R I h;refine Call_ (ij I hg hm boot_zip (PyProof.Rows.callWith_type1 (eI (ha pos pins s σ H _ I h) λus s1 ⟨vs,H1,I1,r1,q1⟩=>?_) (by rw[hs,hs2]) (by rw[hs2];rfl)));obtain ⟨l1,l2,e,⟨xs,qx⟩,⟨ys,qy⟩,q⟩:=q1;subst e;obtain ⟨u,v,rfl,ru,rv⟩:=vals2 r1;cases ru;cases rv;obtain ⟨us,rx,px,_⟩:=I1.list qx;obtain ⟨ws,ry,py,_⟩:=I1.list qy;refine call_zip_2 px.isList py.isList λh' a1 a2 a3 a4 a5 a6 hk=>wpAny_pyIter_zip a1 ?_
 have I2:Inv X pins σ H1 { s1 with heap:=h' }:=I1.kept (t':=s1.toks) hk;refine ⟨_,[s1.heap.objs.size+4,s1.heap.objs.size+2,s1.heap.objs.size+3,s1.heap.objs.size,s1.heap.objs.size+1],_,_,H1,rfl,I2,BL (s1.heap.objs.size+4) (s1.heap.objs.size+2) (s1.heap.objs.size+3) s1.heap.objs.size (s1.heap.objs.size+1) l1 l2 (bw (dm _)) (bw (dm _)),⟨a1,a2,⟨_,_,a3⟩,a4,a5⟩,λb hb=>?_,q⟩
 have hb':s1.heap.objs.size<=b:=by
  simp only[az,aB,or_false] at hb;rcases hb with rfl | rfl | rfl | rfl | rfl <;> first | exact fJ _ _ | exact ay _
 exact I1.fpOk hb' (I1.hok.fresh hb')
theorem DH (hc:X.calm=true):mF X (.builtin "all") (λxs H Q=>∃(p:Addr) (bs:List Bool),xs=[.ref p]/\bB X.K H p (bs.map V.bl)/\Q (.bl (bs.all id)) H):=by
 intro pins s σ H xs us Q I r h;obtain ⟨p,bs,rfl,hp,q⟩:=h;obtain ⟨u,rfl,ru⟩:=vals1 r;cases ru;obtain ⟨vs,rv,pl,hz⟩:=I.list hp
 have hb:PyProof.Rows.LSm.BoolsAre vs bs:=by
  clear q hp pl hz
  induction bs generalizing vs with
  | nil=>cases rv;exact .nil
  | cons b bs ih =>
   rw[cQ] at rv;cases rv with
   | cons r1 r2=>cases r1;exact .cons b (ih _ r2)
 have hlt:p < s.heap.objs.size:=by obtain ⟨_,e,_⟩:=pl.isList;exact Heap.lt_size e
 refine call_all_walk (wpAny_pyIter_list pl.isList ?_)
 refine ⟨s.heap.objs.size,[s.heap.objs.size,p],[s.heap.objs.size],vs.toArray.size,_,_,λi=>(bs[i]?).getD true,rfl,Walks.list (A:=X.A.in1) (I.ok.hd hc) _ p (bw hlt) vs.toArray,
  ⟨⟨_,Heap.get?_push_size _ rfl,rfl,rfl⟩,pl.isList.push _⟩,λi v s' Q' E' hP hQ=>?_,λh' tk hk=>?_⟩
 ·obtain ⟨b,e,rfl⟩:=hb.get i v (by simpa using hP);simp only[e,Option.getD_some] at hQ;exact wpAny_truthy_bool hQ
 ·have e:((List.range vs.toArray.size).all λi=>(bs[i]?).getD true)=bs.all id:=by
   rw[aE,hb.length];exact PyProof.Rows.LSm.range_all bs
  rw[e];exact ⟨.bl _,H,I.kept (t':=tk) (PyProof.Rows.LSm.kept_iter hk),rfl,q⟩
theorem DG (hc:X.calm=true):mF X (.builtin "sum") (λxs H Q=>∃(p:Addr) (ns:List Int),xs=[.ref p]/\bB X.K H p (ns.map V.int)/\Q (.int ns.sum) H):=by
 intro pins s σ H xs us Q I r h;obtain ⟨p,ns,rfl,hp,q⟩:=h;obtain ⟨u,rfl,ru⟩:=vals1 r;cases ru;obtain ⟨vs,rv,pl,_⟩:=I.list hp;have hi:IntsAre vs ns:=intsAre_of rv;obtain ⟨xs,hx⟩:=hi.allInts.items;have hl':s.heap.IsList p (intItems xs):=hx ▸ pl.isList;refine sum_intListG (I.ok.hd hc) hl' λh' tk t' hk=>?_
 have e1:ns=xs.toList.map (·.1):=by
  rw[<- nums_intItems,<- hx];exact (show numsOf vs.toArray.toList=ns from hi.numsOf).symm
 have e2:preSum (numAt xs) xs.size=ns.sum:=by
  rw[preSum_eq,aw (by simp),e1]
 rw[e2];exact ⟨.int _,H,I.kept (t':=tk) hk,⟨_,rfl⟩,q⟩
end
section
variable {K:FG9} {l1 l2:Addr} {xs ws:List V} {g:TG} {tf:TT} {te:TE} {Q:VK} {σ₀:St} {H:Hp}
theorem DF (Pv:Nat->List V->Hp->Prop) (hz:xs.length<=sizeLine) (hw:ws.length=xs.length) (h0:Pv 0 [] H) (hl:∀i ys H,i<=xs.length->Pv i ys H->bB K H l1 xs/\bB K H l2 ws)
  (hs:∀i x y ys H p,xs[i]?=some x->ws[i]?=some y->ys.length<=i->Pv i ys H->H p=none->lC σ₀ g tf te (.ref p) (upd H p (.tup [x,y])) (λy H'=>Pv (i+1) (ys++[y]) H') (λH'=>Pv (i+1) ys H'))
  (hd:∀ys H,ys.length<=xs.length->Pv xs.length ys H->∀p,H p=none->Q (.ref p) (upd H p (.lst ys))):lI (JK K l1 l2) σ₀ g tf te Q H:=by
 refine ⟨λi m ys H=>m=xs.length - i/\i<=xs.length/\ys.length<=i/\Pv i ys H,⟨xs.length,by simp,bJ _,bJ _,h0⟩,?_⟩;rintro i m ys H ⟨rfl,hi,hy,p⟩;obtain ⟨q1,q2⟩:=hl i ys H hi p;by_cases hlt:i < xs.length
 ·refine .inr ⟨⟨xs,ws,xs[i],ws[i]'(by lia),q1,q2,by simp [hlt],by simp⟩,by lia,λy H'=>Pv (i+1) (ys++[y]) H',λH'=>Pv (i+1) ys H',λy H' p'=>⟨xs.length - (i+1),by lia,rfl,hlt,by rw[aG,cp];lia,p'⟩,λH' p'=>⟨xs.length - (i+1),by lia,rfl,hlt,by lia,p'⟩,λx H' y=>?_⟩;obtain ⟨r,x',y',rfl,hr,rfl,e1,e2⟩:=y;exact hs i x' y' ys _ r (e1 xs q1) (e2 ws q2) hy p hr
 ·have e:i=xs.length:=by lia
  subst e;exact .inl ⟨⟨xs,ws,q1,q2,.inl (ay _)⟩,by lia,hd ys H hy p⟩
end
section
variable {X:Cx}
theorem z9 (K:FG9) (n:Nat) {es:List Expr} {k:Nat} {pos:Pos} {t:By} (h:Ia X es t) (hK:X.K=K:=by rfl) (hc:X.calm=true:=by rfl)
  (hn:(assignEach es X.env).length=n:=by rfl) (hst:(assignEach es X.env).findIdx? (·.1)=none:=by rfl):PG X (.Tuple es k pos) (Hv K n t):=by subst hK;exact p6 hc h hn hst
theorem oP (K:FG9) (hK:X.K=K):Jx X (GG K):=by subst hK;exact bX
theorem oQ (K:FG9) (hK:X.K=K):Jx X (GH K):=by subst hK;exact bz
theorem tD (K:FG9) {tg l:Expr} {tl:TE} (hl:PE X l tl) (hK:X.K=K:=by rfl):PI X tg l (Dc K tl):=by subst hK;exact bW hl
end
theorem de {X:Cx} {e e':Expr} {es:List Expr} {te:TE} {t:TA} (h:e=e') (ha:PE X e' te) (hr:PA X es t) (hs:∀l,starEach (e' :: l) X.env=(false,eval e' X.env) :: starEach l X.env:=by intro _;rfl):PA X (e :: es) (je te t):=by subst h;exact aa ha hr (hs _)
section
variable {σ:St} {H:Hp} {D:Ends} {Q:VK}
theorem fu (hl:H l=some (.lst xs)) (hz:xs.length < sizeLine) (h:Q .non (upd H l (.lst (xs++[y])))):z8 (.ref l) [y] H Q:=⟨l,xs,y,rfl,rfl,hl,hz,h⟩
theorem Ek {K:FG9} (h:ta σ H λvs H1=>∃l1 l2,vs=[.ref l1,.ref l2]/\(∃xs,bB K H1 l1 xs)/\(∃ys,bB K H1 l2 ys)/\R (JK K l1 l2) H1):Je K ta σ H R:=h
theorem ic (h1:H l=some (.lst xs)) (h2:H b=some (.lst zs)) (hz:xs.length+zs.length<=sizeLine) (h:∀p H',aH H H'->H p=none->H' p=some (.lst (xs++zs))->Q (.ref p) H'):IT (.ref l) (.ref b) H Q :=
 ⟨l,b,xs,zs,rfl,rfl,h1,h2,hz,λp hp=>h p _ (aH.new hp) hp aJ⟩
theorem CA {K:FG9} {lo hi:Option Int} (h1:bB K H a xs) (h:∀p H',aH H H'->H p=none->H' p=some (.lst (rM xs lo hi))->Q (.ref p) H'):IQ K (.ref a) lo hi H Q :=
 ⟨a,xs,rfl,h1,λp hp=>h p _ (aH.new hp) hp aJ⟩
theorem fk {xs:List α} {i:Int} (h0:0<=i) (h1:i < xs.length):∃v,Aw xs i=some v/\v∈xs/\xs[i.toNat]?=some v:=by
 have hj:i.toNat < xs.length:=by lia
 refine ⟨xs[i.toNat],?_,a8 hj,by simp [hj]⟩;have:=cM (xs:=xs) (j:=i.toNat) (v:=xs[i.toNat]) (by simp [hj]);rwa [Int.toNat_of_nonneg h0] at this
end
theorem cu {α β:Type} {F:α->β->Prop}:∀{l1:List α} {l2:List β} {y:β},Paired F l1 l2->y∈l2->∃x∈l1,F x y
 | _,_,_,.nil,h=>nomatch h
 | _,_,_,.cons r t,h=>by
  rcases az.mp h with rfl | h
  ·exact ⟨_,cD,r⟩
  ·obtain ⟨x,hx,q⟩:=cu t h;exact ⟨x,bD _ hx,q⟩
theorem cO {F:α->β->Prop} {l1:List α} {l2:List β} {i:Nat} {y:β} (h:Paired F l1 l2) (e:l2[i]?=some y):∃x,l1[i]?=some x/\F x y:=by
 have hl:=h.length;have hi:i < l2.length:=(aF.mp e).1;refine ⟨l1[i]'(by lia),by simp,?_⟩;have:=ig h (i:=i) (by lia) hi;have e2:l2[i]=y:=(aF.mp e).2;rwa [e2] at this
def yI (n:Int×Int):Prop:=0 < n.2/\Int.gcd n.1 n.2=1/\Sz 8000 n.1/\Sz 8000 n.2
theorem take_snoc {α:Type} {l:List α} {v:α} (h:l[i]?=some v):l.take (i+1)=l.take i++[v]:=by rw[List.take_add_one,h];rfl
theorem aH.after (s:aH H H') (h:H r=Option.none):aH H (upd H' r o):=λb u e=>by rw[aN (dA e h)];exact s b u e
theorem cb.after (s:cb b H H') (h:H r=Option.none):cb b H (upd H' r o):=⟨λc u e n=>by rw[aN (dA e h)];exact s.1 c u e n,λq hi=>(s.2 q hi).upd λz=>by obtain ⟨_,_,_,e⟩:=hi;rw[<- z,h] at e;cases e⟩
theorem cb.same (s:cb b H H') (e:aH H' H''):cb b H H'':=s.trans e.upto
theorem xk {α:Type} {Pr:α->Prop} {l:List α} {a:α} (h:∀n∈l,Pr n) (ha:Pr a):∀n∈l++[a],Pr n:=λn hn=>by
 rcases ar.mp hn with hn | hn
 ·exact h n hn
 ·have e:n=a:=by simpa using hn
  rw[e];exact ha
abbrev uK (h:Heap) (z TI TO:Addr) (f0 f1:Value):Prop:=h.get? z=some { cls:=.type "zip",dict:=none,data:=.fields #[f0,f1,.bool false,.ref TI,.ref TO],slots:=#[] }
section
variable {prog:Program} {w:World} {A:Around} {E:Value->Shared->Prop} {s:Shared}
theorem zK (e:s.heap.get? a=some o) (h:Q (some o) s):wpAny (model prog w) A (loadIfAlive a) Q E s:=by
 intro Γ p hp;show Sem.wp _ _ (.loadIfAlive a .pure) _ _ _ _
 simp only[Sem.wp_loadIfAlive,e];exact wpAny_pure h Γ p hp
theorem tJ {z TI TO T:Addr} (zr:uK s.heap z TI TO (rawInt T) (.bool b1)) (al:s.heap.get? T=some o)
  (h:∀h',uK h' z TI TO (rawInt T) (.bool true)->Heap.SameBut z s.heap h'->Q false { s with heap:=h' }):wpAny (model prog w) A (Builtin.SmallTypes.ownedTupleIsFree (.ref z)) Q E s:=by
 unfold Builtin.SmallTypes.ownedTupleIsFree;refine wpAny_bind (wpAny_field zr rfl (x:=rawInt T) rfl ?_);refine wpAny_bind (zK (a:=T) al ?_);refine wpAny_bind (wpAny_field zr rfl (x:=.bool b1) rfl ?_);cases b1 with
 | true=>exact wpAny_pure (h _ zr (.refl ..))
 | false=>exact wpAny_bind (wpAny_setField_rec zr (by simp) λh' zr' sb=>wpAny_pure (h h' zr' sb))
theorem Bh {z TI TO T i1 i2 l1 l2:Addr} {Q:Value->Shared->Prop} (D:ZipApart z TI TO i1 i2 l1 l2) (zr:uK s.heap z TI TO (rawInt T) (.bool b1)) (al:s.heap.get? T=some o)
  (pt:IsPair s.heap TI (.ref i1) (.ref i2)) (j1:s.heap.IsListIter i1 l1 k1) (j2:s.heap.IsListIter i2 l2 k2) (m1:s.heap.IsList l1 us) (m2:s.heap.IsList l2 ws) (eu:us[k1]?=some u) (ev:ws[k2]?=some v)
  (hQ:∀h',uK h' z TI TO (rawInt T) (.bool true)->h'.IsListIter i1 l1 (k1+1)->h'.IsListIter i2 l2 (k2+1)->IsPair h' s.heap.objs.size u v->(∀c o,c≠z->c≠i1->c≠i2->s.heap.get? c=some o->h'.get? c=some o)->Q (.ref s.heap.objs.size) { s with heap:=h' }) :
  wpAny (model prog w) A (Builtin.«zip.__next__» ⟨[.ref z],[]⟩) (λfin s'=>∃v,fin=.done (.ret v)/\Q v s') E s:=by
 change wpAny _ _ (field (Value.ref z) 2 >>= _) _ _ s
 refine wpAny_bind (wpAny_field zr rfl (x:=.bool false) rfl ?_)
 change wpAny _ _ (field (Value.ref z) 3 >>= _) _ _ s
 refine wpAny_bind (wpAny_field zr rfl (x:=.ref TI) rfl (wpAny_bind (wpAny_seqItems pt rfl ?_)))
 change wpAny _ _ (Builtin.SmallTypes.ownedTupleIsFree (Value.ref z) >>= _) _ _ s
 refine wpAny_bind (tJ zr al λg1 zr1 sb1=>?_);simp only[cE,if_false];refine wpAny_bind ?_;rw[<- Array.forIn_toList];simp only[gF,fK];have j1':=j1.extBut sb1.extBut D.i1z;have m1':=m1.extBut sb1.extBut D.l1z;refine wpAny_bind (wpAny_bind (wpAny_holding ?_))
 change wpAny _ _ (Builtin.SmallTypes.nextOf (Value.ref i1) >>= _) _ _ _
 refine wpAny_bind (wpAny_nextOf_list_item j1' m1' eu λg2 j1a sb2=>wpAny_pure ?_);refine wpAny_pure ?_;have j2':=(j2.extBut sb1.extBut D.i2z).extBut sb2.extBut D.i12.symm;have m2':=(m2.extBut sb1.extBut D.l2z).extBut sb2.extBut D.l2i1;refine wpAny_bind (wpAny_bind (wpAny_holding ?_))
 change wpAny _ _ (Builtin.SmallTypes.nextOf (Value.ref i2) >>= _) _ _ _
 refine wpAny_bind (wpAny_nextOf_list_item j2' m2' ev λg3 j2a sb3=>wpAny_pure ?_);refine wpAny_pure (wpAny_pure ?_);refine wpAny_bind (wpAny_newTuple (hsz:=fM rfl) ?_);have sz:g3.objs.size=s.heap.objs.size:=by rw[sb3.1,sb2.1,sb1.1]
 have up:∀c o,c≠z->c≠i1->c≠i2->s.heap.get? c=some o->g3.get? c=some o:=λc o c1 c2 c3 e=>sb3.extBut _ _ c3 (sb2.extBut _ _ c2 (sb1.extBut _ _ c1 e))
 have zr3:uK g3 z TI TO (rawInt T) (.bool true):=sb3.extBut _ _ D.i2z.symm (sb2.extBut _ _ D.i1z.symm zr1);refine wpAny_pure ⟨_,rfl,?_⟩
 change Q (.ref g3.objs.size) { s with heap:=g3.push { cls:=.type "tuple",data:=.seq #[u,v] } }
 have last:=hQ (g3.push { cls:=.type "tuple",data:=.seq #[u,v] }) (Heap.get?_push_of_some _ zr3) ((j1a.extBut sb3.extBut D.i12).at λo e=>Heap.get?_push_of_some _ e) (j2a.at λo e=>Heap.get?_push_of_some _ e)
  (by rw[<- sz];exact Heap.get?_push_size _ rfl) λc o c1 c2 c3 e=>Heap.get?_push_of_some _ (up c o c1 c2 c3 e)
 rw[sz];exact last
theorem CW {z TI TO T i1 i2 l1 l2:Addr} (hh:A.handled=none) (D:ZipApart z TI TO i1 i2 l1 l2) (zr:uK s.heap z TI TO (rawInt T) (.bool b1)) (al:s.heap.get? T=some o)
  (pt:IsPair s.heap TI (.ref i1) (.ref i2)) (j1:s.heap.IsListIter i1 l1 k1) (m1:s.heap.IsList l1 us) (eu:us[k1]?=none)
  (hE:∀h' e,(∀c o,c≠z->c≠i1->c≠i2->s.heap.get? c=some o->h'.get? c=some o)->(∃o,h'.get? e=some o/\o.cls=.type "StopIteration")->E (.ref e) { s with heap:=h' }) :
  wpAny (model prog w) A (Builtin.«zip.__next__» ⟨[.ref z],[]⟩) Q E s:=by
 change wpAny _ _ (field (Value.ref z) 2 >>= _) _ _ s
 refine wpAny_bind (wpAny_field zr rfl (x:=.bool false) rfl ?_)
 change wpAny _ _ (field (Value.ref z) 3 >>= _) _ _ s
 refine wpAny_bind (wpAny_field zr rfl (x:=.ref TI) rfl (wpAny_bind (wpAny_seqItems pt rfl ?_)))
 change wpAny _ _ (Builtin.SmallTypes.ownedTupleIsFree (Value.ref z) >>= _) _ _ s
 refine wpAny_bind (tJ zr al λg1 zr1 sb1=>?_);simp only[cE,if_false];refine wpAny_bind ?_;rw[<- Array.forIn_toList];simp only[gF,fK];refine wpAny_bind (wpAny_bind (wpAny_holding ?_))
 change wpAny _ _ (Builtin.SmallTypes.nextOf (Value.ref i1) >>= _) _ _ _
 exact wpAny_bind (wpAny_nextOf_list_end hh (j1.extBut sb1.extBut D.i1z) (m1.extBut sb1.extBut D.l1z) eu λg2 e xb he=>hE g2 e (λc o c1 c2 _ q=>xb _ _ c2 (sb1.extBut _ _ c1 q)) he)
theorem A8 {z TI TO T i1 i2 l1 l2:Addr} (D:ZipApart z TI TO i1 i2 l1 l2) (zr:uK s.heap z TI TO (rawInt T) (.bool b1)) (al:s.heap.get? T=some o)
  (pt:IsPair s.heap TI (.ref i1) (.ref i2)) (j1:s.heap.IsListIter i1 l1 k1) (j2:s.heap.IsListIter i2 l2 k2) (m1:s.heap.IsList l1 us) (m2:s.heap.IsList l2 ws) (eu:us[k1]?=some u) (ev:ws[k2]?=some v)
  (hQ:∀h',uK h' z TI TO (rawInt T) (.bool true)->h'.IsListIter i1 l1 (k1+1)->h'.IsListIter i2 l2 (k2+1)->IsPair h' s.heap.objs.size u v->(∀c o,c≠z->c≠i1->c≠i2->s.heap.get? c=some o->h'.get? c=some o)->Q (some (.ref s.heap.objs.size)) { s with heap:=h' }) :
  wpAny (model prog w) A (pyNext (.ref z)) Q E s:=by
 have ty:s.TypeIs (.ref z) "zip":=⟨_,zr,rfl⟩;unfold pyNext;refine wpAny_bind (wpAny_attempt (wpAny_callSpecial?_slot (name:=Str.ofString "__next__") ty ko (wpAny_call_entry ko ty PySem.F.entry_zip_next ?_ (JB _))));exact Bh D zr al pt j1 j2 m1 m2 eu ev λh' a1 a2 a3 a4 a5=>wpAny_pure (hQ h' a1 a2 a3 a4 a5)
theorem A5 {z TI TO T i1 i2 l1 l2:Addr} (hh:A.handled=none) (D:ZipApart z TI TO i1 i2 l1 l2) (zr:uK s.heap z TI TO (rawInt T) (.bool b1)) (al:s.heap.get? T=some o)
  (pt:IsPair s.heap TI (.ref i1) (.ref i2)) (j1:s.heap.IsListIter i1 l1 k1) (m1:s.heap.IsList l1 us) (eu:us[k1]?=none)
  (hQ:∀h',(∀c o,c≠z->c≠i1->c≠i2->s.heap.get? c=some o->h'.get? c=some o)->Q none { s with heap:=h' }):wpAny (model prog w) A (pyNext (.ref z)) Q E s:=by
 have ty:s.TypeIs (.ref z) "zip":=⟨_,zr,rfl⟩;unfold pyNext;refine wpAny_bind (wpAny_attempt (wpAny_callSpecial?_slot (name:=Str.ofString "__next__") ty ko (wpAny_call_entry ko ty PySem.F.entry_zip_next ?_ (JB _))));refine CW hh D zr al pt j1 m1 eu λh' e kk ⟨oe,he,hc⟩=>?_
 exact wpAny_bind (wpAny_isInstance (T:="StopIteration") (b:=true) ⟨oe,he,hc⟩ isSubtype_stop (wpAny_pure (hQ _ kk)))
end
section
variable {X:Cx} {pins:List (Addr×Obj)} {σ:St} {H:Hp} {s:Shared}
theorem Inv.moved {ch:List Addr} (I:Inv X pins σ H s) (fx:∀b∈ch,ip X pins H b) (up:∀b o,b∉ch->s.heap.get? b=some o->h'.get? b=some o) (hg:AllBare g') :
  Inv X pins σ H { s with heap:=h',gens:=g',drawn:=d',toks:=t' }:=by
 have nx:∀b o,H b=some o->b∉ch:=λb o e hb=>by have:=(fx b hb).1;rw[this] at e;cases e
 refine I.step (ch:=ch) (λb hb=>?_) (λb o _ _ hb e _=>up b o hb e) (λb o _ _ hb e _=>⟨o.slots,up b o hb e⟩) (λb o hb e n=>n) (λb o hb e=>⟨o,up b o hb e⟩) (λb q e=>e) (λb o q e=>e) (λb q e=>⟨#[],by rw[e];simp⟩) (λm hm=>?_) (λb o e=>?_) hg
 ·obtain ⟨_,f1,_,f3,f4,f5⟩:=fx b hb;exact ⟨f3,f1,f4,f5⟩
 ·obtain ⟨o,es,ep,ho,r⟩:=hm;exact ⟨o,es,ep,up _ o (λz=>(fx _ z).2.1 rfl) ho,r⟩
 ·refine (I.hok b o e).stay (λc v' hc q=>up c v' ?_ q) (λc q=>q) λc xs q=>q
  rcases hc with rfl | hc
  ·exact nx _ _ e
  ·exact nx _ _ hc
theorem Inv.track (I:Inv X pins σ H s) (fp:ip X pins H p) (new:eK X.prog X.w (upd H p o) s.heap p o):Inv X pins σ (upd H p o) s:=by
 have nt:∀{b:Addr} {u:HO},H b=some u->b≠p:=λe z=>by rw[z,fp.1] at e;cases e
 refine I.step (h':=s.heap) (g':=s.gens) (d':=s.drawn) (t':=s.toks) (ch:=[p]) (λb hb=>?_) (λb o _ _ _ e _=>e) (λb o _ _ _ e _=>⟨o.slots,e⟩) (λb o hb e n=>?_) (λb o _ e=>⟨o,e⟩) (λb q e=>by rw[aN (nt e)];exact e) (λb o q e=>by rw[aN (nt e)];exact e)
  (λb q e=>⟨#[],by rw[aN (nt e),e];simp⟩) (λm hm=>hm) (λb u e=>?_) I.bare
 ·have e:b=p:=by simpa using hb
  subst e;obtain ⟨_,f1,_,f3,f4,f5⟩:=fp;exact ⟨f3,f1,f4,f5⟩
 ·rw[aN λz=>hb (by simp [z])];exact n
 ·by_cases hb:b=p
  ·subst hb;rw[aJ] at e;cases e;exact new
  ·rw[aN hb] at e;exact (I.hok b u e).stay (λc v _ q=>q) (λc q=>by rw[aN (nt q)];exact q) λc xs q=>by rw[aN (nt q)];exact q
end
def FN (H:Hp) (p:V×V) (x:V):Prop:=∃T,x=.ref T/\H T=some (.tup [p.1,p.2])
theorem FN.same (h:FN H p x) (e:aH H H'):FN H' p x:=by obtain ⟨T,q,g⟩:=h;exact ⟨T,q,e _ _ g⟩
def Zst (h:Heap) (z TI TO:Addr) (base:Nat):Prop:=(∃a b,IsPair h TO a b)/\(IsZip h z TI TO .none\/∃(T:Addr) (b1:Bool) (o:Obj),uK h z TI TO (rawInt T) (.bool b1)/\h.get? T=some o/\@LE.le Nat instLENat base T)
theorem wa {z TI TO i1 i2 l1 l2:Addr} (hz:uK h z TI TO f0 f1) (hTI:IsPair h TI (.ref i1) (.ref i2)) (hTO:IsPair h TO a b) (h1:h.IsListIter i1 l1 k1) (h2:h.IsListIter i2 l2 k2) (hl1:h.IsList l1 xs) (hl2:h.IsList l2 ys) (hT:TI≠TO) (hi:i1≠i2):ZipApart z TI TO i1 i2 l1 l2:=by
 obtain ⟨o1,g1,c1,_⟩:=h1;obtain ⟨o2,g2,c2,_⟩:=h2;obtain ⟨p1,q1,d1,_⟩:=hl1;obtain ⟨p2,q2,d2,_⟩:=hl2;have zt:Value.type "zip"≠.type "tuple":=dN (by decide);have it:Value.type "list_iterator"≠.type "tuple":=dN (by decide);have iz:Value.type "list_iterator"≠.type "zip":=dN (by decide);have lz:Value.type "list"≠.type "zip":=dN (by decide);have lt:Value.type "list"≠.type "tuple":=dN (by decide);have li:Value.type "list"≠.type "list_iterator":=dN (by decide)
 exact ⟨bF hTI hz zt.symm,bF hTO hz zt.symm,bF g1 hz (by rw[c1];exact iz),bF g2 hz (by rw[c2];exact iz),hT,bF hTI g1 (by rw[c1];exact it.symm),bF hTI g2 (by rw[c2];exact it.symm),bF hTO g1 (by rw[c1];exact it.symm),bF hTO g2 (by rw[c2];exact it.symm),hi,
  bF q1 hz (by rw[d1];exact lz),bF q1 hTO (by rw[d1];exact lt),bF q1 g1 (by rw[d1,c1];exact li),bF q1 g2 (by rw[d1,c2];exact li),bF q2 hz (by rw[d2];exact lz),bF q2 hTO (by rw[d2];exact lt),bF q2 g1 (by rw[d2,c1];exact li),bF q2 g2 (by rw[d2,c2];exact li)⟩
section
variable {X:Cx} {pins:List (Addr×Obj)} {σ:St}
theorem ip.heap (f:ip X pins H b) (e:H' b=none):ip X pins H' b:=⟨e,f.2⟩
structure xo where
 z:Addr
 TI:Addr
 TO:Addr
 i1:Addr
 i2:Addr
 S:Addr
 base:Nat
def xo.all (a:xo):List Addr:=[a.z,a.TI,a.TO,a.i1,a.i2,a.S]
structure xo.Ok (a:xo):Prop where
 tt:a.TI≠a.TO
 ii:a.i1≠a.i2
 Sz:a.S≠a.z
 STI:a.S≠a.TI
 STO:a.S≠a.TO
 Si1:a.S≠a.i1
 Si2:a.S≠a.i2
 lt:∀b∈a.all,@LT.lt Nat instLTNat b a.base
structure Ff (X:Cx) (pins:List (Addr×Obj)) (σ:St) (H1:Hp) (a:xo) (l1 l2:Addr) (i:Nat) (H:Hp) (s:Shared):Prop where
 inv:Inv X pins σ H s
 same:aH H1 H
 fps:∀b∈a.all,ip X pins H b
 sz:a.base<=s.heap.objs.size
 zst:Zst s.heap a.z a.TI a.TO a.base
 pt:IsPair s.heap a.TI (.ref a.i1) (.ref a.i2)
 j1:s.heap.IsListIter a.i1 l1 i
 j2:s.heap.IsListIter a.i2 l2 i
variable {a:xo} {l1 l2:Addr} {H1 H:Hp} {s:Shared} {i:Nat} {xs ys:List V}
theorem Ff.push (L:Ff X pins σ H1 a l1 l2 i H s) (O:a.Ok) (k:∀b o,b≠a.S->s.heap.get? b=some o->h'.get? b=some o) (hz:h'.objs.size=s.heap.objs.size):Ff X pins σ H1 a l1 l2 i H { s with heap:=h' }:=by
 refine ⟨L.inv.moved (g':=s.gens) (d':=s.drawn) (t':=s.toks) (ch:=[a.S]) (λb hb=>?_) (λb o hb e=>k b o (λz=>hb (by simp [z])) e) L.inv.bare,L.same,L.fps,by show a.base<=h'.objs.size;rw[hz];exact L.sz,?_,k _ _ O.STI.symm L.pt,L.j1.at λo e=>k _ o O.Si1.symm e,L.j2.at λo e=>k _ o O.Si2.symm e⟩
 ·have e:b=a.S:=by simpa using hb
  rw[e];exact L.fps _ (by simp [xo.all])
 ·obtain ⟨⟨c,d,z0⟩,z4⟩:=L.zst;refine ⟨⟨c,d,k _ _ O.STO.symm z0⟩,?_⟩;rcases z4 with z1 | ⟨T,b1,o,z1,z2,z3⟩
  ·exact .inl (k _ _ O.Sz.symm z1)
  ·refine .inr ⟨T,b1,o,k _ _ O.Sz.symm z1,k _ _ (λe=>?_) z2,z3⟩;have:=O.lt a.S (by simp [xo.all]);rw[<- e] at this;exact absurd this (Nat.not_lt.mpr z3)
theorem BG (O:a.Ok) (q1:bB X.K H1 l1 xs) (q2:bB X.K H1 l2 ys) (ex:xs[i]?=some x) (ey:ys[i]?=some y) (L:Ff X pins σ H1 a l1 l2 i H s)
  (hQ:∀s',Ff X pins σ H1 a l1 l2 (i+1) (upd H s.heap.objs.size (.tup [x,y])) s'->(∀c o,c∉[a.z,a.TO,a.i1,a.i2]->s.heap.get? c=some o->s'.heap.get? c=some o)->H s.heap.objs.size=none->Q (some (.ref s.heap.objs.size)) s'):wpAny (model X.prog X.w) A' (pyNext (.ref a.z)) Q E s:=by
 obtain ⟨I,sm,fps,sz,zst,pt,j1,j2⟩:=id L;obtain ⟨us,ru,pu,_⟩:=I.list (sm.seq q1);obtain ⟨ws,rw',pw,_⟩:=I.list (sm.seq q2);obtain ⟨u,eu,r1⟩:=ru.get ex;obtain ⟨v,ev,r2⟩:=rw'.get ey;have fx:∀b∈[a.z,a.TO,a.i1,a.i2],ip X pins H b:=λb hb=>fps b (by simp only[xo.all,az,aB,or_false] at hb ⊢;rcases hb with e | e | e | e <;> simp [e])
 have hT0:H s.heap.objs.size=none:=I.hok.fresh (ay _);have fT:ip X pins H s.heap.objs.size:=I.fpOk (ay _) hT0;have lt:∀b∈a.all,b≠s.heap.objs.size:=λb hb e=>by have:=O.lt b hb;rw[e] at this;exact absurd this (Nat.not_lt.mpr sz)
 have fin:∀h',(∀c o,c∉[a.z,a.TO,a.i1,a.i2]->s.heap.get? c=some o->h'.get? c=some o)->IsPair h' s.heap.objs.size u v->IsPair h' a.TI (.ref a.i1) (.ref a.i2)->h'.IsListIter a.i1 l1 (i+1)->h'.IsListIter a.i2 l2 (i+1)->Zst h' a.z a.TI a.TO a.base →
   Q (some (.ref s.heap.objs.size)) { s with heap:=h' }:=λh' up pr pt' j1' j2' zst'=>by
  have I2:Inv X pins σ H { s with heap:=h' }:=I.moved (g':=s.gens) (d':=s.drawn) (t':=s.toks) fx up I.bare;have I3:Inv X pins σ (upd H s.heap.objs.size (.tup [x,y])) { s with heap:=h' }:=I2.track fT ⟨fM rfl,[u,v],.cons r1 (.cons r2 .nil),⟨_,pr,rfl,_,rfl⟩⟩;refine hQ _ ⟨I3,sm.trans (aH.new hT0),λb hb=>(fps b hb).heap (by rw[aN (lt b hb)];exact (fps b hb).1),?_,zst',pt',j1',j2'⟩ up hT0;exact ak sz (aU (Heap.lt_size pr))
 obtain ⟨⟨c,d,z0⟩,z4⟩:=zst;rcases z4 with z1 | ⟨T,b1,o,z1,z2,z3⟩
 ·have D:=wa z1 pt z0 j1 j2 pu.isList pw.isList O.tt O.ii;refine wpAny_pyNext_zip_item D z1 pt z0 j1 j2 pu.isList pw.isList (x:=u) (y:=v) (by simpa using eu) (by simpa using ev) λh' a1 a2 a3 a4 a5 a6 hk=>?_
  have up:∀c o,c∉[a.z,a.TO,a.i1,a.i2]->s.heap.get? c=some o->h'.get? c=some o:=λc o hc e=>by
   simp only[az,aB,or_false,not_or] at hc;exact hk c o hc.1 hc.2.1 hc.2.2.1 hc.2.2.2 e
  exact fin h' up a5 (hk _ _ D.TIz D.TITO D.TIi1 D.TIi2 pt) a3 a4 ⟨⟨_,_,a2⟩,.inr ⟨s.heap.objs.size,false,_,a1,a5,sz⟩⟩
 ·have D:=wa z1 pt z0 j1 j2 pu.isList pw.isList O.tt O.ii;refine A8 D z1 z2 pt j1 j2 pu.isList pw.isList (u:=u) (v:=v) (by simpa using eu) (by simpa using ev) λh' a1 a3 a4 a5 hk=>?_
  have up:∀c o,c∉[a.z,a.TO,a.i1,a.i2]->s.heap.get? c=some o->h'.get? c=some o:=λc o hc e=>by
   simp only[az,aB,or_false,not_or] at hc;exact hk c o hc.1 hc.2.2.1 hc.2.2.2 e
  have Tn:∀b∈a.all,T≠b:=λb hb e=>by have:=O.lt b hb;rw[<- e] at this;exact absurd this (Nat.not_lt.mpr z3)
  exact fin h' up a5 (hk _ _ D.TIz D.TIi1 D.TIi2 pt) a3 a4 ⟨⟨_,_,hk _ _ D.TOz D.TOi1 D.TOi2 z0⟩,.inr ⟨T,true,o,a1,hk _ _ (Tn _ (by simp [xo.all])) (Tn _ (by simp [xo.all])) (Tn _ (by simp [xo.all])) z2,z3⟩⟩
theorem BF (hh:A'.handled=none) (O:a.Ok) (q1:bB X.K H1 l1 xs) (q2:bB X.K H1 l2 ys) (hi:xs.length<=i) (L:Ff X pins σ H1 a l1 l2 i H s)
  (hQ:∀s',Inv X pins σ H s'->(∀c o,c∉[a.z,a.TO,a.i1,a.i2]->s.heap.get? c=some o->s'.heap.get? c=some o)->Q none s'):wpAny (model X.prog X.w) A' (pyNext (.ref a.z)) Q E s:=by
 obtain ⟨I,sm,fps,sz,zst,pt,j1,j2⟩:=id L;obtain ⟨us,ru,pu,_⟩:=I.list (sm.seq q1);obtain ⟨ws,rw',pw,_⟩:=I.list (sm.seq q2);have lx:=ru.length;have none1:us.toArray[i]?=none:=by simp;lia
 have fx:∀b∈[a.z,a.TO,a.i1,a.i2],ip X pins H b:=λb hb=>fps b (by simp only[xo.all,az,aB,or_false] at hb ⊢;rcases hb with e | e | e | e <;> simp [e])
 have fin:∀h',(∀c o,c∉[a.z,a.TO,a.i1,a.i2]->s.heap.get? c=some o->h'.get? c=some o)->Q none { s with heap:=h' }:=λh' up=>hQ _ (I.moved (g':=s.gens) (d':=s.drawn) (t':=s.toks) fx up I.bare) up
 obtain ⟨⟨c,d,z0⟩,z4⟩:=zst;rcases z4 with z1 | ⟨T,b1,o,z1,z2,z3⟩
 ·have D:=wa z1 pt z0 j1 j2 pu.isList pw.isList O.tt O.ii;refine wpAny_pyNext_zip_end hh D z1 pt z0 j1 j2 pu.isList pw.isList (.inl none1) λh' hk=>fin h' λc o hc e=>?_
  simp only[az,aB,or_false,not_or] at hc;exact hk c o hc.1 hc.2.1 hc.2.2.1 hc.2.2.2 e
 ·have D:=wa z1 pt z0 j1 j2 pu.isList pw.isList O.tt O.ii;refine A5 hh D z1 z2 pt j1 pu.isList none1 λh' hk=>fin h' λc o hc e=>?_
  simp only[az,aB,or_false,not_or] at hc;exact hk c o hc.1 hc.2.2.1 hc.2.2.2 e
theorem BI (hh:A'.handled=none) (O:a.Ok) (hz:xs.length<=sizeLine) (hl:ys.length=xs.length) (q1:bB X.K H1 l1 xs) (q2:bB X.K H1 l2 ys)
  (fin:∀s' H' ts acc c,Inv X pins σ H' s'->aH H1 H'->ip X pins H' a.S->s'.heap.get? a.S=some (lobj acc c)->bV ts acc->Paired (FN H') (xs.zip ys) ts->R (.ok (.ret .none)) s') :
  ∀(k i:Nat) (s:Shared) (H:Hp) (ts:List V) (acc:List Value) (c:Nat),xs.length - i=k->i<=xs.length->Ff X pins σ H1 a l1 l2 i H s->s.heap.get? a.S=some (lobj acc c)->bV ts acc->Paired (FN H) ((xs.zip ys).take i) ts →
   codeAny (model X.prog X.w) A' (.builtin "list.extend.loop" ⟨[.ref a.S,.ref a.z,.none],[]⟩) R s:=by
 have Sn:a.S∉[a.z,a.TO,a.i1,a.i2]:=λh=>by
  simp only[az,aB,or_false] at h;rcases h with e | e | e | e
  ·exact O.Sz e
  ·exact O.STO e
  ·exact O.Si1 e
  ·exact O.Si2 e
 intro k
 induction k with
 | zero =>
  intro i s H ts acc c hk hi L gS rv prs;have e:i=xs.length:=by lia
  refine codeAny_builtin HU ?_;rw[Around.under_plainId iJ _]
  change wpAny _ A'.in1 (pyNext (Value.ref a.z) >>= _) _ _ s
  refine wpAny_bind (BF hh O q1 q2 (by lia) L λs' I' up=>wpAny_pure (fin s' H ts acc c I' L.same (L.fps _ (by simp [xo.all])) (up _ _ Sn gS) rv ?_));rwa [aw (by rw[uN];lia)] at prs
 | succ k ih =>
  intro i s H ts acc c hk hi L gS rv prs;have hlt:i < xs.length:=by lia
  have lt:=prs.length;have la:=rv.length;refine codeAny_builtin HU ?_;rw[Around.under_plainId iJ _]
  change wpAny _ A'.in1 (pyNext (Value.ref a.z) >>= _) _ _ s
  refine wpAny_bind (BG O q1 q2 (x:=xs[i]) (y:=ys[i]'(by lia)) (by simp [hlt]) (by simp) L λs' L' up hT=>?_);have gS':=up _ _ Sn gS
  change wpAny _ A'.in1 (updateSeq a.S (·.push (Value.ref s.heap.objs.size)) >>= _) _ _ s'
  have small:acc.length<=sizeLine:=by
   rw[dq,uN] at lt
   lia
  refine wpAny_bind (wpAny_updateSeq gS' rfl (wpAny_pure ⟨plainId_quiet iJ _,?_⟩) (by rw[aE];exact small) (by
   show (acc.toArray.push (Value.ref s.heap.objs.size)).size<=sizeLine+1
   rw[Array.size_push,aE]
   lia))
  have gS2:=iw gS' (λb=>b.push (Value.ref s.heap.objs.size));have e2:(acc.toArray.push (Value.ref s.heap.objs.size))=(acc++[Value.ref s.heap.objs.size]).toArray:=by simp
  rw[e2] at gS2;refine ih (i+1) _ (upd H s.heap.objs.size (.tup [xs[i],ys[i]'(by lia)])) (ts++[.ref s.heap.objs.size]) (acc++[.ref s.heap.objs.size]) _ (by lia) hlt (L'.push O (λb o hb e=>(Heap.get?_update_other _ _ (Ne.symm hb)).trans e) (Heap.size_update ..)) gS2 (rv.append (show bV [V.ref s.heap.objs.size] [Value.ref s.heap.objs.size] from .cons rfl .nil)) ?_;have zp:(xs.zip ys)[i]?=some (xs[i],ys[i]'(by lia)):=by simp [HV,hlt]
  rw[take_snoc zp];exact (Paired.imp' (λ_ _ z=>z.same (aH.new hT)) prs).snoc ⟨_,rfl,aJ⟩
theorem yP:typeLookup (.type "zip") "__len__"=pure Option.none:=by rw[typeLookup_type,builtinLookup_eq_fast];kernel_rfl
theorem xC:typeLookup (.type "zip") "__length_hint__"=pure Option.none:=by rw[typeLookup_type,builtinLookup_eq_fast];kernel_rfl
theorem BH (hh:A'.handled=none) (O:a.Ok) (hz:xs.length<=sizeLine) (hl:ys.length=xs.length) (q1:bB X.K H1 l1 xs) (q2:bB X.K H1 l2 ys) (L:Ff X pins σ H1 a l1 l2 0 H s) (gS:s.heap.get? a.S=some (lobj [] 0)) (z0:IsZip s.heap a.z a.TI a.TO .none)
  (fin:∀s' H' ts acc c,Inv X pins σ H' s'->aH H1 H'->ip X pins H' a.S->s'.heap.get? a.S=some (lobj acc c)->bV ts acc->Paired (FN H') (xs.zip ys) ts->R (.ok (.ret .none)) s') :
  wpAny (model X.prog X.w) A'.in1 (Builtin.«list.__init__» ⟨[.ref a.S,.ref a.z],[]⟩) (λfl s'=>match fl with | .done f=>R (.ok f) s' | .again c'=>c'.quiet=true/\codeAny (model X.prog X.w) A' c' R s') (λe s'=>R (.error e) s') s:=by
 change wpAny _ A'.in1 (do let old <- Builtin.List.listItems (Value.ref a.S);Builtin.List.listUpdate (Value.ref a.S) (λ_=>#[]);letGo old.toList.reverse;Builtin.List.listExtendWith (Value.ref a.S) (Value.ref a.z) Value.none) _ _ s
 refine wpAny_bind ?_;unfold Builtin.List.listItems;refine wpAny_bind (wpAny_seqItems gS rfl (wpAny_pure ?_))
 change wpAny _ A'.in1 (updateSeq a.S (λ_=>#[]) >>= λ_=>letGo (#[]:Array Value).toList.reverse >>= λ_=>Builtin.List.listExtendWith (Value.ref a.S) (Value.ref a.z) Value.none) _ _ s
 refine wpAny_bind (wpAny_updateSeq gS rfl ?_);have g1:=iw gS (λ_=>(#[]:Array Value));obtain ⟨n1,g1⟩:∃n1,(s.heap.update a.S (Obj.mapSeq λ_=>(#[]:Array Value))).get? a.S=some (lobj [] n1):=⟨_,g1⟩;have L1:=L.push (h':=s.heap.update a.S (Obj.mapSeq λ_=>(#[]:Array Value))) O (λb o hb e=>(Heap.get?_update_other _ _ (Ne.symm hb)).trans e) (Heap.size_update ..);have z1:IsZip (s.heap.update a.S (Obj.mapSeq λ_=>(#[]:Array Value))) a.z a.TI a.TO .none:=(Heap.get?_update_other _ _ O.Sz).trans z0;refine wpAny_bind (wpAny_letGo ?_);unfold Builtin.List.listExtendWith;have ty:Shared.TypeIs { s with heap:=s.heap.update a.S (Obj.mapSeq λ_=>(#[]:Array Value)) } (.ref a.z) "zip":=⟨_,z1,rfl⟩;refine wpAny_bind (wpAny_typeOf ty ?_);have h1:Builtin.List.listSameRef (.ref a.S) (.ref a.z)=false:=by simp [Builtin.List.listSameRef,O.Sz]
 have h2:(Value.type "zip" == Value.type "list")=false:=by decide
 have h3:(Value.type "zip" == Value.type "tuple")=false:=by decide
 simp only[h1,h2,h3,Bool.or_false,cE,if_false];refine wpAny_bind (wpAny_pyIter_zip z1 (wpAny_bind (wpAny_holding ?_)));unfold Builtin.List.listLengthHint;refine wpAny_bind (wpAny_specialOf ty yP ?_)
 change wpAny _ A'.in1 (specialOf (Value.ref a.z) (Str.ofString "__length_hint__") >>= _) _ _ _
 refine wpAny_bind (wpAny_specialOf ty xC (wpAny_pure ?_))
 change wpAny _ A'.in1 (rule "list.extend.makes-room" >>= λ_=>Builtin.List.listTouch (Value.ref a.S) >>= λ_=>again (.builtin "list.extend.loop" ⟨[Value.ref a.S,Value.ref a.z,Value.none],[]⟩)) _ _ _
 refine wpAny_bind (wpAny_rule (wpAny_bind ?_))
 change wpAny _ A'.in1 (updateSeq a.S (·.push Value.none) >>= λ_=>updateSeq a.S (·.pop)) _ _ _
 refine wpAny_bind (wpAny_updateSeq g1 rfl ?_);have g2:=iw g1 (λb=>b.push Value.none);obtain ⟨n2,g2⟩:∃n2,((s.heap.update a.S (Obj.mapSeq λ_=>(#[]:Array Value))).update a.S (Obj.mapSeq λb=>b.push Value.none)).get? a.S=some (lobj [Value.none] n2):=⟨_,g2⟩;have L2:=L1.push (h':=(s.heap.update a.S (Obj.mapSeq λ_=>(#[]:Array Value))).update a.S (Obj.mapSeq λb=>b.push Value.none)) O (λb o hb e=>(Heap.get?_update_other _ _ (Ne.symm hb)).trans e) (Heap.size_update ..);refine wpAny_updateSeq g2 rfl ?_ (fM rfl);have g3:=iw g2 (λb=>b.pop);have L3:=L2.push (h':=((s.heap.update a.S (Obj.mapSeq λ_=>(#[]:Array Value))).update a.S (Obj.mapSeq λb=>b.push Value.none)).update a.S (Obj.mapSeq λb=>b.pop)) O (λb o hb e=>(Heap.get?_update_other _ _ (Ne.symm hb)).trans e) (Heap.size_update ..);exact wpAny_pure ⟨plainId_quiet iJ _,BI hh O hz hl q1 q2 fin _ 0 _ H [] [] _ rfl (bJ _) L3 g3 .nil .nil⟩
end
section
variable {X:Cx}
theorem FW (n:Nat):xo.Ok ⟨n+4,n+2,n+3,n,n+1,n+5,n+5+1⟩:=by
 have ne:∀p q:Nat,p≠q->@Ne Addr p q:=λ_ _ h=>h
 refine ⟨ne (n+2) (n+3) (by lia),ne n (n+1) (by lia),ne (n+5) (n+4) (by lia),ne (n+5) (n+2) (by lia),ne (n+5) (n+3) (by lia),ne (n+5) n (by lia),ne (n+5) (n+1) (by lia),λb hb=>?_⟩;have hb':b∈[n+4,n+2,n+3,n,n+1,n+5]:=hb;show @LT.lt Nat instLTNat b (n+5+1)
 simp only[az,aB,or_false] at hb';rcases hb' with e | e | e | e | e | e <;> (rw[e];exact aW (dm _) (by lia))
def xE (K:FG9) (ta:TA):TE:=λσ H Q=>ta σ H λvs H1=>∃(l1 l2:Addr) (xs ys:List V),vs=[.ref l1,.ref l2]/\bB K H1 l1 xs/\bB K H1 l2 ys/\ys.length=xs.length /\
 ∀L ts H',aH H1 H'->H1 L=none->H' L=some (.lst ts)->Paired (FN H') (xs.zip ys) ts->Q (.ref L) H'
theorem zg {e1 e2:Expr} {ta:TA} {p p2 pos pos2:Pos} (hg:Gl X "list") (hm:X.mg "list"=none) (hg2:Gl X "zip") (hm2:X.mg "zip"=none) (ha:PA X [e1,e2] ta) (hc:X.calm=true:=by rfl)
  (hs:starEach [e1,e2] X.env=[(false,eval e1 X.env),(false,eval e2 X.env)]:=by rfl) (hs2:starEach [e2] X.env=[(false,eval e2 X.env)]:=by rfl)
  (hs3:starEach [Expr.Call (.Name "zip" p2) [e1,e2] [] pos2] X.env=[(false,eval (.Call (.Name "zip" p2) [e1,e2] [] pos2) X.env)]:=by rfl) :
  PE X (.Call (.Name "list" p) [.Call (.Name "zip" p2) [e1,e2] [] pos2] [] pos) (xE X.K ta):=by
 intro pins s σ H Q I h;refine wpAny_Call_Name_kw (ij I hg hm boot_list ?_);refine PyProof.Rows.callWith_type1 ?_ (by rw[hs3];rfl) rfl;rw[hs3];show wpAny _ _ (spliced ((false,eval (.Call (.Name "zip" p2) [e1,e2] [] pos2) X.env) :: [])) _ _ s
 refine Calls.spliced_cons ?_;refine Call_ (ij I hg2 hm2 boot_zip (PyProof.Rows.callWith_type1 (eI (ha pos2 pins s σ H _ I h) λus s1 ⟨vs,H1,I1,r1,q1⟩=>?_) (by rw[hs,hs2]) (by rw[hs2];rfl)));obtain ⟨l1,l2,xs,ys,e,qx,qy,hl,q⟩:=q1;subst e;obtain ⟨u,v,rfl,ru,rv⟩:=vals2 r1;cases ru;cases rv;obtain ⟨us,rx,px,hz⟩:=I1.list qx;obtain ⟨ws,ry,py,_⟩:=I1.list qy;refine call_zip_2 px.isList py.isList λh' a1 a2 a3 a4 a5 a6 hk=>?_
 refine Calls.spliced_nil ?_;have I2:Inv X pins σ H1 { s1 with heap:=h' }:=I1.kept (t':=s1.toks) hk;have up:∀b o,h'.get? b=some o->(h'.push { cls:=.type "list",data:=.seq #[] }).get? b=some o:=λb o e=>Heap.get?_push_of_some _ e
 have O:xo.Ok ⟨s1.heap.objs.size+4,s1.heap.objs.size+2,s1.heap.objs.size+3,s1.heap.objs.size,s1.heap.objs.size+1,h'.objs.size,h'.objs.size+1⟩:=by
  rw[a6];exact FW s1.heap.objs.size
 have old:∀b∈(xo.mk (s1.heap.objs.size+4) (s1.heap.objs.size+2) (s1.heap.objs.size+3) s1.heap.objs.size (s1.heap.objs.size+1) h'.objs.size (h'.objs.size+1)).all,s1.heap.objs.size<=b:=λb hb=>by
  rw[a6] at hb;simp only[xo.all,az,aB,or_false] at hb;rcases hb with rfl | rfl | rfl | rfl | rfl | rfl <;> first | exact fJ _ _ | exact ay _
 have gS:(h'.push { cls:=.type "list",data:=.seq #[] }).get? h'.objs.size=some (lobj [] 0):=Heap.get?_push_size _ rfl;refine callType_codes (Q₁:=λob t=>ob=.ref h'.objs.size/\t={ s1 with heap:=h'.push { cls:=.type "list",data:=.seq #[] } }) PySem.F.called_list (PySem.F.typeCall_list_1 _) PySem.F.entry_list_init (code_list_new _ ⟨rfl,rfl⟩) λob t ht=>?_
 obtain ⟨rfl,rfl⟩:=ht;refine ⟨⟨_,gS,rfl⟩,PySem.F.args_list_init_2 _ _,?_⟩
 have L:Ff X pins σ H1 ⟨s1.heap.objs.size+4,s1.heap.objs.size+2,s1.heap.objs.size+3,s1.heap.objs.size,s1.heap.objs.size+1,h'.objs.size,h'.objs.size+1⟩ l1 l2 0 H1 { s1 with heap:=h'.push { cls:=.type "list",data:=.seq #[] } } :=
  ⟨I2.kept (t':=s1.toks) up,aH.refl _,λb hb=>I1.fpOk (old b hb) (I1.hok.fresh (old b hb)),by rw[Heap.size_push];exact ay _,⟨⟨_,_,up _ _ a3⟩,.inl (up _ _ a1)⟩,up _ _ a2,a4.at λo e=>up _ o e,a5.at λo e=>up _ o e⟩
 refine BH (A':=X.A.in1) (I.ok.hd hc) O hz hl qx qy L gS (up _ _ a1) λs' H' ts acc c I' sm fS gS' vs' prs=>⟨rfl,?_⟩
 have nS:H1 h'.objs.size=none:=I1.hok.fresh (old _ (by simp [xo.all]));have lt:=prs.length;rw[uN] at lt;exact ⟨.ref h'.objs.size,_,I'.track (o:=.lst ts) fS ⟨by lia,acc,c,vs',gS'⟩,rfl,q _ ts _ (sm.trans (aH.new fS.1)) nS aJ (Paired.imp' (λ_ _ z=>z.same (aH.new fS.1)) prs)⟩
end
end L2
namespace Nm
def qh:List Int->Int->Int
 | [],m=>m
 | b :: r,m=>qh r (m*(b / g m b))
theorem oO (hm:0 < m) (hb:0 < b):0 < m*(b / g m b):=pM hm (zz (t:=m) hb)
theorem wW:b∣m*(b / g m b):=by
 have h1:=tY m b;refine ⟨lo m b,?_⟩;have h2:b / g m b*g m b=b:=qj m b
 calc m*(b / g m b)=lo m b*g m b*(b / g m b):=by rw[h1]
  _=lo m b*(b / g m b*g m b):=by rw[iS,iD (g m b)]
  _=b*lo m b:=by rw[h2,iD]
theorem yj:∀{bs:List Int} {m:Int},0 < m->(∀b∈bs,0 < b)->0 < qh bs m
 | [],_,hm,_=>hm
 | b :: r,m,hm,h=>yj (bs:=r) (oO hm (h b cD)) λc hc=>h c (bD _ hc)
theorem ym:∀{bs:List Int} {m:Int},m∣qh bs m
 | [],_=>Int.dvd_refl _
 | b :: r,m=>Int.dvd_trans (Int.dvd_mul_right m _) (ym (bs:=r))
theorem yk:∀{bs:List Int} {m b:Int},b∈bs->b∣qh bs m
 | c :: r,m,b,h=>by
  rcases az.mp h with rfl | h
  ·exact Int.dvd_trans wW (ym (bs:=r))
  ·exact yk (bs:=r) h
end Nm
namespace L2
open PySem PySem.Spec PyProof.Rows Nm
def zN (K:FG9) (H:Hp) (p:Addr) (ns:List (Int×Int)):Prop:=∃xs,H p=some (.lst xs)/\Paired (λn x=>zQ K H x n) ns xs
theorem zN.same {K:FG9} (h:zN K H p ns) (e:aH H H'):zN K H' p ns:=by obtain ⟨xs,g,q⟩:=h;exact ⟨xs,e _ _ g,Paired.imp' (λ_ _ z=>e.num z) q⟩
def xW (K:FG9) (T:String):V->Hp->VK->Prop:=λx H Q=>zc K T x H Q\/∃a xs b,x=.ref a/\iP K H a xs/\PySem.W.kitOne K (.type "tuple") (.type T)=some b/\Q (.bl b) H
theorem vD:∀{bs:List Int} {m b:Int},qh (bs++[b]) m=qh bs m*(b / g (qh bs m) b)
 | [],_,_=>rfl
 | c :: r,m,b=>vD (bs:=r)
def eH (ns:List (Int×Int)) (B:Int):List Int:=ns.map λn=>n.1*(B / n.2)
def iI (ns:List (Int×Int)):Int:=qh (ns.map (·.2)) 1
def Dx (ns ms:List (Int×Int)):Int:=(List.zipWith (λx y=>x*y) (eH ns (iI ns)) (eH ms (iI ms))).sum
theorem yC (h:n∈ns):n.2∣iI ns:=yk (ba.mpr ⟨n,h,rfl⟩)
theorem za {K:FG9} (h:ta σ H λvs H1=>∃(l1 l2:Addr) (xs ys:List V),vs=[.ref l1,.ref l2]/\bB K H1 l1 xs/\bB K H1 l2 ys/\ys.length=xs.length /\
 ∀L ts H',aH H1 H'->H1 L=none->H' L=some (.lst ts)->Paired (FN H') (xs.zip ys) ts->Q (.ref L) H'):xE K ta σ H Q:=h
theorem J0 (hb:0 < b) (h:Sz k b):Sz k (g m b):=h.le (by
 have h1:(g m b).natAbs=Int.gcd m b:=by unfold g;simp
 rw[h1];exact iQ (by lia) (by have:=dS (a:=m) (b:=b);exact eF.mpr this |> λz=>by simpa using z))
theorem DZ {ts us:List Int} {i:Nat} (h:((ts.map V.int).zip (us.map V.int))[i]?=some pq):∃t u,ts[i]?=some t/\us[i]?=some u/\pq=(.int t,.int u):=by
 rw[HV,aY,aY] at h;obtain ⟨h1,h2⟩:=h;cases e1:ts[i]? with
 | none=>rw[e1] at h1;cases h1
 | some t =>
  cases e2:us[i]? with
  | none=>rw[e2] at h2;cases h2
  | some u =>
   rw[e1] at h1;rw[e2] at h2;refine ⟨t,u,rfl,rfl,?_⟩;cases pq;simp at h1 h2;rw[h1,h2]
inductive vo (K:FG9) (vs:List V) (H:Hp) (Q:VK) (E9:XK):Prop
 | mk (p:Addr) (ns:List (Int×Int)):vs=[.ref p,.int ns.length]->zN K H p ns->ns.length<=1000->(∀n∈ns,yI n)->(∀H',aH H H'->Q (.bl true) H')->vo K vs H Q E9
theorem EG {X:Cx} {a:Expr} {ta:TE} {pos:Pos} {c:Str} {T:String} {p p2:Pos} (hg:Gl X "isinstance") (hm:X.mg "isinstance"=none) (hb:bootBuiltins c=some (.type T)) (hmc:X.mg c=none) (ha:PE X a ta) (hgc:Gl X c:=by rfl) (hn:c≠"__name__":=by decide)
  (hd:(c == ("__debug__":Str))=false:=by decide) (he:starEach [a,.Name c p2] X.env=[(false,eval a X.env),(false,eval (.Name c p2) X.env)]:=by rfl)
  (hpl:(backTo pos (starEach [.Name c p2] X.env)).any (·.1)=false:=by rfl) (he2:starEach [.Name c p2] X.env=[(false,eval (.Name c p2) X.env)]:=by rfl):PE X (.Call (.Name "isinstance" p) [a,.Name c p2] [] pos) (HX (xW X.K T) ta):=by
 intro pins s σ H Q I h;refine wpAny_Call_Name_kw (ij I hg hm PyProof.Rows.boot_isinstance ?_);have hA:PA X [a,.Name c p2] (je ta (je (tC (.ty T)) wo)):=aa ha (aa (Ac hgc hmc hb rfl hn hd) ae he2) (by rw[he,he2])
 have hq:je ta (je (tC (.ty T)) wo) σ H (λvs H1=>∃x,vs=[x,.ty T]/\xW X.K T x H1 Q):=by
  show ta σ H λx H1=>∃x',[x,V.ty T]=[x',V.ty T]/\xW X.K T x' H1 Q
  have e:(λx H1=>∃x',[x,V.ty T]=[x',V.ty T]/\xW X.K T x' H1 Q)=λx H1=>xW X.K T x H1 Q:=by
   funext x H1;apply propext;constructor
   ·rintro ⟨x',e,q⟩;cases e;exact q
   ·intro q;exact ⟨x,rfl,q⟩
  rw[e];exact h
 refine PyProof.Rows.callWith_builtin1 (eI (hA pos pins s σ H _ I hq) λus s1 ⟨vs,H1,I1,r1,x,e,q1⟩=>?_) (by rw[he,he2]) hpl;subst e;obtain ⟨u,w',rfl,ru,rt⟩:=vals2 r1;cases rt;rcases q1 with ⟨t,bb,ty,ek,q⟩ | ⟨ad,xs,bb,rfl,hs,ek,q⟩
 ·exact vE I1 ru ty ek λtk=>⟨.bl bb,H1,I1.tok tk,rfl,q⟩
 ·cases ru;obtain ⟨its,_,⟨o,g1,g2,_⟩,_⟩:=I1.tuple hs;exact cm PySem.W.kitx_tuple I1.kIn ⟨o,g1,g2⟩ ek (λz=>nomatch z) λtk=>⟨.bl bb,H1,I1.tok tk,rfl,q⟩
theorem y9 (h:H l=some (.lst [x])) (hk:k<=1000) (q:∀p H',aH H H'->H p=none->H' p=some (.lst (List.replicate k x))->Q (.ref p) H'):IS (.ref l) (.int k) H Q :=
 ⟨l,k,[x],rfl,rfl,h,by lia,by lia,aU (bp (by simp;lia)),λp hp=>q p _ (aH.new hp) hp (by rw[aJ];simp)⟩
theorem DD {k:Nat} (h:k<=xs.length):rM xs none (some (k:Int))=xs.take k:=by
 unfold rM;rw[HT.Cu,HT.Eb,Nat.min_eq_left h];simp
theorem oh {α β:Type} {F:α->β->Prop} {x:α} {y:β} (h:F x y):∀m:Nat,Paired F (List.replicate m x) (List.replicate m y)
 | 0=>.nil
 | m+1=>.cons h (oh h m)
theorem dQ (h:a < n):Bv n (a:Int)=some a:=by
 unfold Bv;rw[if_pos (by lia),if_pos (by lia),Int.toNat_natCast]
def Ey (K:FG9):List V->Hp->VK->Prop:=λxs H Q=>∃p ys,xs=[.ref p]/\(bB K H p ys\/iP K H p ys)/\∀l,H l=none->Q (.ref l) (upd H l (.lst ys))
theorem j8 (K:FG9) (hK:X.K=K):mF X (.type "list") (Ey K):=by subst hK;exact pj
theorem aH.none (s:aH H H') (h:H' l=Option.none):H l=Option.none:=by
 cases e:H l with
 | none=>rfl
 | some o=>have:=s _ _ e;rw[h] at this;cases this
theorem BR (h:b.natAbs<=1000000):Sz 20 b:=bu h (by decide)
theorem cb.none (u:cb b H H') (B:eQ H' b) (h:H' l=Option.none):H l=Option.none:=by
 cases e:H l with
 | none=>rfl
 | some o =>
  by_cases z:l=b
  ·obtain ⟨_,_,_,_,_,e2,_⟩:=B;rw[<- z,h] at e2;cases e2
  ·have:=u.1 l o e z;rw[h] at this;cases this
end L2
namespace Nm
def nm (q:Rat):Int×Int:=(q.num,(q.den:Int))
theorem kM (q:Rat):0 < (nm q).2:=by have:=q.den_pos;show 0 < (q.den:Int);lia
theorem zm (q:Rat):Int.gcd (nm q).1 (nm q).2=1:=q.reduced
theorem GV (h:nm p=nm q):p=q:=by
 have h1:p.num=q.num:=congrArg Prod.fst h;have h2:(p.den:Int)=q.den:=congrArg Prod.snd h;exact Rat.ext h1 (by lia)
theorem mL (q:Rat):(q.num:Rat)=q*(q.den:Rat):=by
 have h:=Rat.num_divInt_den q;rw[Rat.divInt_eq_div] at h
 have hd:((q.den:Int):Rat)≠0:=by
  intro z;have z:=rF.mp z;have:=q.den_pos
  lia
 have e:((q.den:Int):Rat)=(q.den:Rat):=cK _
 calc (q.num:Rat)=(q.num:Rat) / ((q.den:Int):Rat)*((q.den:Int):Rat):=(yM hd).symm
  _=q*(q.den:Rat):=by rw[h,e]
theorem IY (hb:0 < b) (hg:Int.gcd a b=1) (e:q*(b:Rat)=(a:Rat)):(a,b)=nm q:=by
 have h1:a*(q.den:Int)=q.num*b:=by
  apply i8.mp;rw[bA,bA,<- e,mL,cK];grind
 obtain ⟨e1,e2⟩:=uniq hb (kM q) hg (zm q) h1;exact Prod.ext e1 e2
theorem wV {t b:Int} (hb:0 < b) (e:q*(b:Rat)=(t:Rat)):(lo t b,hi t b)=nm q:=by
 refine IY (zz hb) (yi (by lia)) ?_;have h:=zx t b;have hb':(b:Rat)≠0:=λz=>by have:=rF.mp z;lia
 have h2:((lo t b:Int):Rat)*(b:Rat)=(t:Rat)*((hi t b:Int):Rat):=by rw[<- bA,h,bA]
 rw[<- e] at h2;have h3:(q*((hi t b:Int):Rat) - ((lo t b:Int):Rat))*(b:Rat)=0:=by grind
 rcases Rat.mul_eq_zero.mp h3 with h4 | h4
 ·grind
 ·exact absurd h4 hb'
def Fr (M V:Nat) (q:Rat):Prop:=∃z:Int,q*(M:Rat)=(z:Rat)/\z.natAbs<=V*M
theorem Fr.mono (h:Fr M V q) (l:V<=V'):Fr M V' q:=by obtain ⟨z,e,b⟩:=h;exact ⟨z,e,ak b (aP _ l)⟩
theorem Fr.scale (h:Fr M V q) (k:Nat):Fr (M*k) V q:=by
 obtain ⟨z,e,b⟩:=h;refine ⟨z*k,?_,?_⟩
 ·rw[DR,bA,<- e,cK,Rat.mul_assoc]
 ·rw[gZ,jd,<- cP];exact aP _ b
theorem Fr.scaleL (h:Fr M V q) (k:Nat):Fr (k*M) V q:=by rw[c7];exact h.scale k
theorem Fr.dvd (h:Fr M V q) (d:M∣N):Fr N V q:=by obtain ⟨k,rfl⟩:=d;exact h.scale k
theorem Fr.add (h:Fr M V p) (h':Fr M W q):Fr M (V+W) (p+q):=by
 obtain ⟨z,e,b⟩:=h;obtain ⟨z',e',b'⟩:=h';refine ⟨z+z',by rw[DS,<- e,<- e',Rat.add_mul],?_⟩;rw[pL];have:=Int.natAbs_add_le z z'
 lia
theorem Fr.mul (h:Fr M V p) (h':Fr N W q):Fr (M*N) (V*W) (p*q):=by
 obtain ⟨z,e,b⟩:=h;obtain ⟨z',e',b'⟩:=h';refine ⟨z*z',?_,?_⟩
 ·rw[DR,bA,<- e,<- e'];grind
 ·rw[gZ]
  calc z.natAbs*z'.natAbs<=(V*M)*(W*N):=aR b b'
   _=V*W*(M*N):=by rw[cP,Nat.mul_left_comm M,<- cP]
theorem Fr.zero:Fr M V 0:=⟨0,by simp,by simp⟩
theorem Fr.int {i:Int} (h:i.natAbs<=V):Fr M V (i:Rat):=⟨i*M,by rw[bA,cK],by rw[gZ,jd];exact aP _ h⟩
theorem Fr.den (h:Fr M V q):(q.den:Int)∣(M:Int):=by
 obtain ⟨z,e,b⟩:=h
 have h1:q.num*(M:Int)=z*(q.den:Int):=by
  apply i8.mp;rw[bA,bA,<- e,mL,cK,cK];grind
 have h2:(q.den:Int)∣q.num*(M:Int):=⟨z,by rw[h1,iD]⟩;exact kZ (by rw[iE];exact zm q) h2
theorem Fr.den_le (h:Fr M V q) (hM:0 < M):q.den<=M:=iQ hM (rJ.mp h.den)
theorem Fr.num_le (h:Fr M V q) (hM:0 < M):q.num.natAbs<=V*M:=by
 have hd:=h.den;obtain ⟨z,e,b⟩:=h;obtain ⟨k,hk⟩:=rJ.mp hd;have hk0:k≠0:=λz=>by rw[z,AF] at hk;lia
 have h1:z=q.num*(k:Int):=by
  apply i8.mp;rw[bA,<- e,mL,cK,hk,DR];grind
 rw[h1] at b;exact ak (jY (by lia)) b
theorem Fr.own (q:Rat) (h:q.num.natAbs<=V):Fr q.den V q:=⟨q.num,(mL q).symm,ak h (ju _ q.den_pos)⟩
theorem Fr.sz (h:Fr M V q) (hM:0 < M) (h1:M<=2^k) (h2:V<=2^j):Sz (j+k+1) (nm q).1/\Sz (k+1) (nm q).2:=by
 constructor
 ·show q.num.natAbs < 2^(j+k+1)
  have h3:=h.num_le hM;have h4:V*M<=2^j*2^k:=aR h2 h1;rw[mS,bK];have:=Nat.two_pow_pos (j+k);rw[bK] at this
  lia
 ·show (q.den:Int).natAbs < 2^(k+1)
  have h3:=h.den_le hM;rw[jd,mS];have:=Nat.two_pow_pos k
  lia
theorem Fr.sum {M V:Nat}:∀{l:List Rat},(∀x∈l,Fr M V x)->Fr M (l.length*V) l.sum
 | [],_=>by simp;exact Fr.zero
 | x :: r,h=>by
  rw[List.sum_cons,du,Nat.succ_mul,sI];exact (h x (.head _)).add (Fr.sum λy hy=>h y (.tail _ hy))
def cy (xs ys:List Rat):Rat:=(List.zipWith (λx y=>x*y) xs ys).sum
theorem Fr.dot (h:∀x∈xs,Fr M V x) (h':∀y∈ys,Fr N W y):Fr (M*N) (xs.length*(V*W)) (cy xs ys):=by
 have q:=Fr.sum (M:=M*N) (V:=V*W) (l:=List.zipWith (λx y=>x*y) xs ys) λz hz=>by
  obtain ⟨i,hi,e⟩:=mH hz;rw[v8] at e;rw[<- e];exact (h _ (a8 _)).mul (h' _ (a8 _))
 exact q.mono (aP _ (by rw[d6];lia))
theorem wX:∀{bs:List Int} {m M:Int},0 < m->m∣M->(∀b∈bs,0 < b/\b∣M)->qh bs m∣M
 | [],_,_,_,h,_=>h
 | b :: r,m,M,hm,h,hb=>by
  have b1:=hb b cD;refine wX (bs:=r) (oO hm b1.1) ?_ λc hc=>hb c (bD _ hc)
  have gp:0 < g m b:=t7 (by lia);have e1:=tY m b;have e2:=qj m b;obtain ⟨u,hu⟩:=h;obtain ⟨v,hv⟩:=b1.2
  have h3:lo m b*u=hi m b*v:=by
   apply FU (show g m b≠0 by lia)
   calc lo m b*u*g m b=lo m b*g m b*u:=by rw[iS,iD u,<- iS]
    _=m*u:=by rw[e1]
    _=M:=hu.symm
    _=b*v:=hv
    _=hi m b*g m b*v:=by rw[e2]
    _=hi m b*v*g m b:=by rw[iS,iD (g m b),<- iS]
  have h4:hi m b∣lo m b*u:=⟨v,h3⟩;have h5:hi m b∣u:=kZ (by rw[iE];exact yi (by lia)) h4;obtain ⟨w,hw⟩:=h5;refine ⟨w,?_⟩;show M=m*hi m b*w
  rw[hu,hw,iS]
theorem xg (hb:0 < b) (d:a∣b) (h:Sz k b):Sz k a:=h.le (iQ (by lia) (eF.mpr d))
end Nm
namespace Nm
def Dr (W:Nat) (x:Rat):Prop:=x.num.natAbs<=W/\x.den<=W
def vv:List Nat->Nat
 | []=>1
 | a :: r=>a*vv r
theorem vq:∀{l:List Nat},(∀a∈l,0 < a)->0 < vv l
 | [],_=>Nat.one_pos
 | a :: r,h=>dH (h a (.head _)) (vq λb hb=>h b (.tail _ hb))
theorem vt:∀{l:List Nat} {a:Nat},a∈l->a∣vv l
 | b :: r,a,h=>by
  rcases az.mp h with rfl | h
  ·exact AG ..
  ·exact yK (vt h) (cV ..)
theorem xY {k:Nat}:∀{l:List Nat},(∀a∈l,a<=2^k)->vv l<=2^(k*l.length)
 | [],_=>by simp [vv]
 | a :: r,h=>by
  rw[du,Nat.mul_succ,bK,c7 (2^(k*r.length))];exact aR (h a (.head _)) (xY λb hb=>h b (.tail _ hb))
def GF (M V:Nat) (rows:LR9):Prop:=∀xs∈rows,∀x∈xs,Fr M V x
def fH (rows:LR9) (w:Nat):LR9:=(List.range w).map λj=>rows.map λxs=>xs.getD j 0
theorem hR:(fH rows w).length=w:=by simp [fH]
theorem vh:∀ys∈fH rows w,ys.length=rows.length:=λys hy=>by
 obtain ⟨j,_,rfl⟩:=ba.mp hy;exact av ..
theorem getD_map {α:Type} {l:List α} {f:α->Rat} (h:i < l.length):(l.map f).getD i 0=f l[i]:=by
 rw[aA,aY,ao h];rfl
end Nm
namespace L2
open PySem PySem.Spec PyProof.Rows Nm
theorem cb.sqt {K:FG9} (u:cb b H H') (B:eQ H b) (h:iP K H a xs):iP K H' a xs:=by
 rcases h with (h | ⟨o,h⟩) | h
 ·exact .inl (.inl (u.tup B h))
 ·exact .inl (.inr ⟨o,u.other (λz=>by obtain ⟨_,_,_,_,_,e,_⟩:=B;rw[z,e] at h;cases h) h⟩)
 ·exact .inr h
theorem BZ {K:FG9} (h:iP K H a xs) (hl:H l=some (.lst ys)):iP K (upd H l o) a xs:=by
 rcases h with (h | ⟨o,h⟩) | h
 ·exact .inl (.inl (by rw[aN λz=>by rw[z,hl] at h;cases h];exact h))
 ·exact .inl (.inr ⟨o,by rw[aN λz=>by rw[z,hl] at h;cases h];exact h⟩)
 ·exact .inr h
def bL (K:FG9) (H:Hp) (q:Rat) (x:V):Prop:=zQ K H x (nm q)
section
variable {K:FG9} {H H':Hp} {q:Rat} {x:V} {b l p:Addr} {qs:List Rat}
theorem bL.same (h:bL K H q x) (e:aH H H'):bL K H' q x:=e.num h
theorem bL.upto (h:bL K H q x) (u:cb b H H') (B:eQ H b):bL K H' q x:=by obtain ⟨p,e,s⟩:=h;exact ⟨p,e,u.sqt B s⟩
theorem bL.updL (h:bL K H q x) (hl:H l=some (.lst ys)):bL K (upd H l o) q x:=by obtain ⟨p,e,s⟩:=h;exact ⟨p,e,BZ s hl⟩
theorem bL.mk (h:H r=some (.tup [.int a,.int c])) (e:(a,c)=nm q):bL K H q (.ref r):=⟨r,rfl,by rw[<- e];exact iP.of h⟩
def cB (K:FG9) (H:Hp) (p:Addr) (qs:List Rat):Prop:=∃xs,H p=some (.lst xs)/\Paired (bL K H) qs xs
theorem cB.same (h:cB K H p qs) (e:aH H H'):cB K H' p qs:=by obtain ⟨xs,g,r⟩:=h;exact ⟨xs,e _ _ g,Paired.imp' (λ_ _ z=>z.same e) r⟩
theorem cB.upto (h:cB K H p qs) (u:cb b H H') (B:eQ H b) (n:p≠b):cB K H' p qs:=by obtain ⟨xs,g,r⟩:=h;exact ⟨xs,u.other n g,Paired.imp' (λ_ _ z=>z.upto u B) r⟩
theorem cB.updL (h:cB K H p qs) (hl:H l=some (.lst ys)) (n:p≠l):cB K (upd H l o) p qs:=by obtain ⟨xs,g,r⟩:=h;exact ⟨xs,by rw[aN n];exact g,Paired.imp' (λ_ _ z=>z.updL hl) r⟩
theorem qC {α β γ:Type} {F:α->β->Prop} {f:γ->α}:∀{l:List γ} {l2:List β},Paired (λc x=>F (f c) x) l l2->Paired F (l.map f) l2
 | _,_,.nil=>.nil
 | _,_,.cons r t=>.cons r (qC t)
theorem cB.rowK (h:cB K H p qs):zN K H p (qs.map nm):=by obtain ⟨xs,g,r⟩:=h;exact ⟨xs,g,qC (F:=λn x=>zQ K H x n) r⟩
def dG (K:FG9) (H0 H:Hp) (qs:List Rat) (x:V):Prop:=∃q,x=V.ref q/\H0 q=none/\cB K H q qs
def bO (K:FG9) (H0 H:Hp) (p:Addr) (rows:LR9):Prop:=∃xs,H p=some (.lst xs)/\Paired (dG K H0 H) rows xs/\V.ref p∉xs
theorem mX {rows:LR9} (h:∃H2,H2 p=none/\Paired (dG K H0 H2) rows ys):V.ref p∉ys:=λhm=>by
 obtain ⟨H2,e,pr⟩:=h;obtain ⟨qs,_,q,z,_,xs,g,_⟩:=cu pr hm;cases z;rw[e] at g;cases g
variable {H0:Hp} {rows:LR9}
theorem dG.same (h:dG K H0 H qs x) (e:aH H H'):dG K H0 H' qs x:=by obtain ⟨q,a,b,c⟩:=h;exact ⟨q,a,b,c.same e⟩
theorem dG.upto (h:dG K H0 H qs x) (u:cb b H H') (B:eQ H b) (nb:H0 b≠none):dG K H0 H' qs x:=by obtain ⟨q,a,c,d⟩:=h;exact ⟨q,a,c,d.upto u B λz=>nb (by rw[<- z];exact c)⟩
theorem dG.weak (h:dG K H0 H qs x) (e:aH H1 H0):dG K H1 H qs x:=by obtain ⟨q,a,b,c⟩:=h;exact ⟨q,a,e.none b,c⟩
theorem bO.same (h:bO K H0 H p rows) (e:aH H H'):bO K H0 H' p rows:=by obtain ⟨xs,g,r,n⟩:=h;exact ⟨xs,e _ _ g,Paired.imp' (λ_ _ z=>z.same e) r,n⟩
theorem bO.upto (h:bO K H0 H p rows) (u:cb b H H') (B:eQ H b) (n:p≠b) (nb:H0 b≠none):bO K H0 H' p rows:=by obtain ⟨xs,g,r,nn⟩:=h;exact ⟨xs,u.other n g,Paired.imp' (λ_ _ z=>z.upto u B nb) r,nn⟩
theorem bO.weak (h:bO K H0 H p rows) (e:aH H1 H0):bO K H1 H p rows:=by obtain ⟨xs,g,r,n⟩:=h;exact ⟨xs,g,Paired.imp' (λ_ _ z=>z.weak e) r,n⟩
end
def C9:Kind Rat:=JZ.via nm (λ_ _ e=>GV e) (λK H x q=>bL K H q x) id
def C6:Kind (List Rat):=Ja C9
def zy:Kind (LR9):=Ja C6
theorem cB.kind {K:FG9} (h:cB K H p qs):C6.R K H (.ref p) qs:=by obtain ⟨xs,g,q⟩:=h;exact ⟨p,xs,rfl,bB.of g,q⟩
theorem bO.kind {K:FG9} (h:bO K H0 H p rows):zy.R K H (.ref p) rows:=by obtain ⟨xs,g,q,_⟩:=h;exact ⟨p,xs,rfl,bB.of g,Paired.imp' (λ_ _ ⟨q,a,_,c⟩=>by rw[a];exact c.kind) q⟩
def rZ (x:Rat):Prop:=Sz 4000 (nm x).1/\Sz 4000 (nm x).2
def Fits (l:List Rat):Prop:=∃M V:Nat,0 < M/\M<=2^900/\V<=2^900/\∀x∈l,Fr M V x
theorem Fits.szn (h:Fits l) (hx:x∈l):rZ x:=by
 obtain ⟨M,V,h0,h1,h2,h3⟩:=h;obtain ⟨a,b⟩:=(h3 x hx).sz h0 h1 h2;exact ⟨a.mono (by decide),b.mono (by decide)⟩
theorem Fits.ok (h:Fits l) (hx:x∈l):yI (nm x):=⟨kM x,zm x,(h.szn hx).1.mono (by decide),(h.szn hx).2.mono (by decide)⟩
theorem zD {M V:Nat} (h0:0 < M) (h1:M<=2^1800) (h2:V<=2^1810) (h:Fr M V x):rZ x:=by
 obtain ⟨a,b⟩:=h.sz h0 h1 h2;exact ⟨a.mono (by decide),b.mono (by decide)⟩
inductive pS (K:FG9) (f:Rat->Rat->Rat) (vs:List V) (H:Hp) (Q:VK) (E9:XK):Prop
 | mk (u v:V) (x y:Rat):vs=[u,v]->bL K H x u->bL K H y v->rZ x->rZ y->(∀r H',aH H H'->bL K H' (f x y) (.ref r)->Q (.ref r) H')->pS K f vs H Q E9
section
variable {K:FG9} {vs:List V} {H:Hp} {Q:VK} {E:XK}
theorem CQ (hf:∀x y:Rat,(f x y)*(((nm x).2*(nm y).2:Int):Rat)=((F (nm x).1 (nm x).2 (nm y).1 (nm y).2:Int):Rat)) (h:pS K f vs H Q E):Cp K F vs H Q E:=by
 obtain ⟨u,v,x,y,rfl,⟨p,rfl,hp⟩,⟨q,rfl,hq⟩,⟨s1,s2⟩,⟨s3,s4⟩,k⟩:=h;refine ⟨p,q,_,_,_,_,rfl,hp,hq,kM x,kM y,s1,s2,s3,s4,λr H' s g=>k r H' s (bL.mk g ?_)⟩;exact wV (pM (kM x) (kM y)) (hf x y)
theorem tQ (x:Rat):(((nm x).1:Int):Rat)=x*(((nm x).2:Int):Rat):=by
 show (x.num:Rat)=x*(((x.den:Nat):Int):Rat)
 rw[mL,cK]
theorem Ay (h:pS K (λx y=>x+y) vs H Q E):Cp K FH vs H Q E:=CQ (λx y=>by
 unfold FH;rw[DS,bA,bA,bA,tQ,tQ];grind) h
theorem Ag (h:pS K (λx y=>x*y) vs H Q E):Cp K Ds vs H Q E:=CQ (λx y=>by
 unfold Ds;rw[bA,bA,tQ,tQ];grind) h
end
def Br (M:Int) (ns:List (Int×Int)):Prop:=0 < M/\Sz 4400 M/\∀n∈ns,0 < n.2/\n.2∣M/\Sz 4400 n.1
theorem Br.bot (h:Br M ns):0 < iI ns/\Sz 4400 (iI ns):=by
 have hb:∀b∈ns.map (·.2),0 < b/\b∣M:=λb hb=>by
  obtain ⟨n,hn,rfl⟩:=ba.mp hb;exact ⟨(h.2.2 n hn).1,(h.2.2 n hn).2.1⟩
 exact ⟨yj (by decide) λb q=>(hb b q).1,xg h.1 (wX (by decide) (Int.one_dvd _) hb) h.2.1⟩
inductive Ck (K:FG9) (vs:List V) (H:Hp) (Q:VK) (E9:XK):Prop
 | mk (p:Addr) (bs:List Int) (M:Int):vs=[.ref p]->bB K H p (bs.map V.int)->0 < M->Sz 4400 M->((∀b∈bs,0 < b/\b∣M))->Q (.int (qh bs 1)) H->Ck K vs H Q E9
inductive Cm (K:FG9) (vs:List V) (H:Hp) (Q:VK) (E9:XK):Prop
 | mk (p:Addr) (ns:List (Int×Int)) (M:Int):vs=[.ref p]->zN K H p ns->ns.length<=1000->Br M ns->(∀H',aH H H'->Q (.int (iI ns)) H')->Cm K vs H Q E9
inductive xH (K:FG9) (vs:List V) (H:Hp) (Q:VK) (E9:XK):Prop
 | mk (p:Addr) (ns:List (Int×Int)) (M:Int) (B:Int):vs=[.ref p,.int B]->zN K H p ns->ns.length<=1000->Br M ns->0 < B->Sz 4400 B->(∀r H',H r=none->aH H H'->H' r=some (.lst ((eH ns B).map V.int))->Q (.ref r) H')->xH K vs H Q E9
theorem xD (h:Br M ns) (hB:0 < B) (sB:Sz 4400 B) (ht:t∈eH ns B):Sz 8800 t:=by
 obtain ⟨n,hn,rfl⟩:=ba.mp ht;have hp:=h.2.2 n hn
 have sq:Sz 4400 (B / n.2):=sB.le (by
  rw[HW (by lia)];exact Nat.div_le_self ..)
 exact (hp.2.2.mul sq).mono (by lia)
theorem oz (h:(nm x).2∣B):(((nm x).1*(B / (nm x).2):Int):Rat)=x*(B:Rat):=by
 obtain ⟨k,rfl⟩:=h;have hp:=kM x;rw[Int.mul_ediv_cancel_left _ (by lia),bA,bA,tQ];grind
theorem yo {B C:Int}:∀{xs ys:List Rat},(∀x∈xs,(nm x).2∣B)->(∀y∈ys,(nm y).2∣C)->(((List.zipWith (λx y=>x*y) (eH (xs.map nm) B) (eH (ys.map nm) C)).sum:Int):Rat)=cy xs ys*((B:Rat)*(C:Rat))
 | [],ys,_,_=>by simp [eH,cy]
 | x :: xs,[],_,_=>by simp [eH,cy]
 | x :: xs,y :: ys,h1,h2=>by
  have ih:=yo (B:=B) (C:=C) (xs:=xs) (ys:=ys) (λz hz=>h1 z (.tail _ hz)) (λz hz=>h2 z (.tail _ hz));have e1:=oz (h1 x (.head _));have e2:=oz (h2 y (.head _));have e3:(List.zipWith (λx y=>x*y) (eH ((x :: xs).map nm) B) (eH ((y :: ys).map nm) C)).sum=((nm x).1*(B / (nm x).2))*((nm y).1*(C / (nm y).2))+(List.zipWith (λx y=>x*y) (eH (xs.map nm) B) (eH (ys.map nm) C)).sum:=rfl;have e4:cy (x :: xs) (y :: ys)=x*y+cy xs ys:=rfl;rw[e3,e4,DS,bA,ih,e1,e2];grind
theorem EZ (h1:0 < iI (xs.map nm)) (h2:0 < iI (ys.map nm)):(lo (Dx (xs.map nm) (ys.map nm)) (iI (xs.map nm)*iI (ys.map nm)),hi (Dx (xs.map nm) (ys.map nm)) (iI (xs.map nm)*iI (ys.map nm)))=nm (cy xs ys):=by
 refine wV (pM h1 h2) ?_;unfold Dx;rw[yo (λx hx=>yC (ba.mpr ⟨x,hx,rfl⟩)) (λx hx=>yC (ba.mpr ⟨x,hx,rfl⟩)),bA]
inductive xG (K:FG9) (vs:List V) (H:Hp) (Q:VK) (E9:XK):Prop
 | mk (p:Addr) (w:Nat) (H0:Hp) (rows:LR9):vs=[.ref p,.int w]->bO K H0 H p rows->rows.length<=1000->w<=1000->(∀xs∈rows,xs.length=w)->(∀r H',H r=none->aH H H'->bO K H H' r (fH rows w)->Q (.ref r) H')->xG K vs H Q E9
inductive sR (K:FG9) (vs:List V) (H:Hp) (Q:VK) (E9:XK):Prop
 | mk (b:Addr) (w:Nat):vs=[.ref b,.int w]->eQ H b->1<=w->w<=1000000->(∀r x H',Dr (max w 6) x->bL K H' x (.ref r)->eQ H' b->cb b H H'->Q (.ref r) H')->sR K vs H Q E9
inductive xP (K:FG9) (vs:List V) (H:Hp) (Q:VK) (E9:XK):Prop
 | mk (b:Addr) (m w:Nat):vs=[.ref b,.int m,.int w]->eQ H b->m<=1000->1<=w->w<=1000000->(∀r xs H',H r=none->cB K H' r xs->xs.length=m->(∀x∈xs,Dr (max w 6) x)->eQ H' b->cb b H H'->Q (.ref r) H')->xP K vs H Q E9
inductive xK (K:FG9) (vs:List V) (H:Hp) (Q:VK) (E9:XK):Prop
 | mk (p q:Addr) (xs ys:List Rat):vs=[.ref p,.ref q]->cB K H p xs->cB K H q ys->ys.length=xs.length->xs.length<=1000->(∀x∈xs,rZ x)->(∀y∈ys,rZ y)->(∀r H',H r=none->aH H H'->cB K H' r (List.zipWith (λx y=>x+y) xs ys)->Q (.ref r) H')->xK K vs H Q E9
inductive Cn (K:FG9) (vs:List V) (H:Hp) (Q:VK) (E9:XK):Prop
 | mk (u:V) (q:Addr) (c:Rat) (ys:List Rat):vs=[u,.ref q]->bL K H c u->rZ c->cB K H q ys->ys.length<=1000->(∀y∈ys,rZ y)->(∀r H',H r=none->aH H H'->cB K H' r (ys.map λy=>c*y)->Q (.ref r) H')->Cn K vs H Q E9
section
variable {K:FG9} {a:Addr} {xs:List V} {g:TG} {tf:TT} {te:TE} {Q:VK} {σ₀:St} {H:Hp} {α β:Type}
theorem dj {F:Hp->α->V->Prop} (G:Hp->β->V->Prop) (f:α->β) (hx:H a=some (.lst xs)) (pf:Paired (F H) as xs) (hl:as.length<=1000)
  (hF:∀{H H' c x},F H c x->aH H H'->F H' c x) (hG:∀{H H' c x},G H c x->aH H H'->G H' c x)
  (hs:∀(i:Nat) c x H' NY NN,as[i]?=some c->aH H H'->F H' c x->(∀y H2,aH H' H2->G H2 (f c) y->NY y H2)->lC σ₀ g tf te x H' NY NN)
  (hd:∀ys H' p,H p=none->aH H H'->H' p=some (.lst ys)->Paired (G H') (as.map f) ys->(∃H2,H2 p=none/\Paired (G H2) (as.map f) ys)->Q (.ref p) H'):lI (DQ K a) σ₀ g tf te Q H:=by
 have lx:=pf.length;refine gD (K:=K) (xs:=xs) (λi ys H'=>aH H H'/\Paired (G H') ((as.take i).map f) ys) (aU (bp (by lia))) ⟨aH.refl _,.nil⟩ (λi ys H' _ ⟨s,_⟩=>bB.of (s _ _ hx)) ?_ ?_
 ·rintro i x ys H' hx' hlen ⟨s,pr⟩;obtain ⟨c,ec,hc⟩:=cO pf hx';refine hs i c x H' _ _ ec s (hF hc s) λy H2 s2 gy=>⟨s.trans s2,?_⟩
  rw[take_snoc ec,cF];exact b6 (Paired.imp' (λ_ _ z=>hG z s2) pr) (.cons gy .nil)
 ·rintro ys H' hy ⟨s,pr⟩ p hp;rw[aw (by lia)] at pr;exact hd ys _ p (s.none hp) (s.trans (aH.new hp)) aJ (Paired.imp' (λ_ _ z=>hG z (aH.new hp)) pr) ⟨H',hp,pr⟩
theorem gC (G:Hp->β->V->Prop) (f:Nat->β) (hl:n<=1000) (hG:∀{H H' c x},G H c x->aH H H'->G H' c x)
  (hs:∀(i:Nat) H' NY NN,i < n->aH H H'->(∀y H2,aH H' H2->G H2 (f i) y->NY y H2)->lC σ₀ g tf te (.int i) H' NY NN)
  (hd:∀ys H' p,H p=none->aH H H'->H' p=some (.lst ys)->Paired (G H') ((List.range n).map f) ys->(∃H2,H2 p=none/\Paired (G H2) ((List.range n).map f) ys)->Q (.ref p) H'):lI (AD 0 n) σ₀ g tf te Q H:=by
 refine lh (λi ys H'=>aH H H'/\Paired (G H') ((List.range i).map f) ys) (aU (bp (by lia))) ⟨aH.refl _,.nil⟩ ?_ ?_
 ·rintro i ys H' hi hlen ⟨s,pr⟩;rw[sJ];refine hs i H' _ _ hi s λy H2 s2 gy=>⟨s.trans s2,?_⟩
  rw[uM,cF];exact b6 (Paired.imp' (λ_ _ z=>hG z s2) pr) (.cons gy .nil)
 ·rintro ys H' hy ⟨s,pr⟩ p hp;exact hd ys _ p (s.none hp) (s.trans (aH.new hp)) aJ (Paired.imp' (λ_ _ z=>hG z (aH.new hp)) pr) ⟨H',hp,pr⟩
theorem qo (G:Hp->β->V->Prop) (C:β->Prop) (hB:eQ H b) (hl:n<=1000) (hG:∀{H' H'' c x},G H' c x->cb b H' H''->eQ H' b->G H'' c x)
  (hs:∀(i:Nat) H' NY NN,i < n->cb b H H'->eQ H' b->(∀y c H2,cb b H' H2->eQ H2 b->C c->G H2 c y->NY y H2)->lC σ₀ g tf te (.int i) H' NY NN)
  (hd:∀ys cs H' p,H p=none->cb b H H'->eQ H' b->H' p=some (.lst ys)->cs.length=n->(∀c∈cs,C c)->Paired (G H') cs ys->(∃H2,H2 p=none/\Paired (G H2) cs ys)->Q (.ref p) H'):lI (AD 0 n) σ₀ g tf te Q H:=by
 refine lh (λi ys H'=>cb b H H'/\eQ H' b/\∃cs,cs.length=i/\(∀c∈cs,C c)/\Paired (G H') cs ys) (aU (bp (by lia))) ⟨(aH.refl _).upto,hB,[],rfl,(λ_ z=>nomatch z),.nil⟩ ?_ ?_
 ·rintro i ys H' hi hlen ⟨u,B,cs,lc,hc,pr⟩;rw[sJ];refine hs i H' _ _ hi u B λy c H2 u2 B2 cc gy=>⟨u.trans u2,B2,cs++[c],by simp [lc],xk hc cc,b6 (Paired.imp' (λ_ _ z=>hG z u2 B) pr) (.cons gy .nil)⟩
 ·rintro ys H' hy ⟨u,B,cs,lc,hc,pr⟩ p hp;have s:aH H' (upd H' p (.lst ys)):=aH.new hp;exact hd ys cs _ p (u.none B hp) (u.same s) (B.same s) aJ lc hc (Paired.imp' (λ_ _ z=>hG z s.upto B) pr) ⟨H',hp,pr⟩
end
section
variable {X:Cx}
theorem dC {g:TG} {tb:TS} {D:Ends} (Pv:Nat->St->Hp->Prop) (h0:Pv 0 σ H)
  (hs:∀(i:Nat) σ H,i < n->Pv i σ H->g (.int i) σ H λσ2 H2=>tb { D with nx:=Pv (i+1),ct:=Pv (i+1),bk:=D.nx } σ2 H2) (hd:∀σ H,Pv n σ H->D.nx σ H) :
  ∃W:Nat->Nat->St->Hp->Prop,(∃m,W 0 m σ H)/\∀i m σ H,W i m σ H →
   ((AD 0 n).stop i H/\D.nx σ H)\/((AD 0 n).go i H/\∃N:St->Hp->Prop,(∀σ' H',N σ' H'->∃m',m' < m/\W (i+1) m' σ' H')/\∀x H',(AD 0 n).yld i H x H'->g x σ H' λσ2 H2=>tb { D with nx:=N,ct:=N,bk:=D.nx } σ2 H2) :=
 Bn (lo:=0) Pv h0 (λi σ H hi p=>by rw[sJ];exact hs i σ H hi p) hd
theorem kj:mF X (.type "int") (λxs H Q=>∃b:Bool,xs=[.bl b]/\Q (.int (if b=true then 1 else 0)) H):=by
 intro pins s σ H xs us Q I r h;obtain ⟨b,rfl,q⟩:=h;obtain ⟨u,rfl,ru⟩:=vals1 r;cases ru;exact call_int_bool ⟨.int _,H,I.tok _,⟨_,rfl⟩,q⟩
theorem uW (K:FG9) (hK:X.K=K):mF X (.builtin "len") (λxs H Q=>∃p ys,xs=[.ref p]/\(bB K H p ys\/iP K H p ys)/\Q (.int ys.length) H):=by subst hK;exact bq
theorem CK {st:Stmt}:PS X st (λ_ _ _=>False):=λ_ _ _ _ _ _ h=>h.elim
end
theorem C1 {t b:Int} (hb:0 < b) (h1:t.natAbs<=W) (h2:b.natAbs<=W):∃q:Rat,(lo t b,hi t b)=nm q/\Dr W q/\q*(b:Rat)=(t:Rat):=by
 have hb':(b:Rat)≠0:=λz=>by have:=rF.mp z;lia
 have e:(t:Rat) / (b:Rat)*(b:Rat)=t:=yM hb';have h:=wV hb e;refine ⟨_,h,⟨?_,?_⟩,e⟩
 ·have:=congrArg Prod.fst h;have z:=lo_le (t:=t) (b:=b) (by lia);show ((nm ((t:Rat) / (b:Rat))).1).natAbs<=W
  rw[<- this];exact ak z h1
 ·have:=congrArg Prod.snd h;have z:=FD (t:=t) (b:=b) (by lia);have hd:(((t:Rat) / (b:Rat)).den:Int)=hi t b:=this.symm;have hp:=zz (t:=t) hb
  lia
theorem DP {K:FG9} (h:Paired (bL K H) qs xs) (hj:j < qs.length):∃v,Aw xs (j:Int)=some v/\bL K H (qs.getD j 0) v:=by
 have hl:=h.length;refine ⟨xs[j]'(by lia),cM (by simp),?_⟩;have:=ig h (i:=j) hj (by lia);rwa [aA,ao hj]
theorem qk {xs ys:List Rat} (h1:i < xs.length) (h2:i < ys.length):cy (xs.take (i+1)) (ys.take (i+1))=cy (xs.take i) (ys.take i)+xs.getD i 0*ys.getD i 0:=by
 have e1:xs[i]?=some (xs.getD i 0):=by rw[aA,ao h1];rfl
 have e2:ys[i]?=some (ys.getD i 0):=by rw[aA,ao h2];rfl
 unfold cy;rw[take_snoc e1,take_snoc e2,xA (by simp;lia),List.sum_append];simp [jL]
theorem getD_mem {xs:List Rat} (h:i < xs.length):xs.getD i 0∈xs:=by
 rw[aA,ao h];exact a8 h
theorem ve {xs ys:List Rat} (h:ys.length=xs.length):List.zipWith (λx y=>x+y) xs ys=(List.range xs.length).map λi=>xs.getD i 0+ys.getD i 0:=by
 apply gU;intro i;rw[di,aY];by_cases hi:i < xs.length
 ·rw[fG hi,ao hi,ao (show i < ys.length by lia)];simp [aA,ao hi,ao (show i < ys.length by lia)]
 ·rw[b7 (show (List.range xs.length).length<=i by simp;lia),b7 (show xs.length<=i by lia)];rfl
theorem eQ.at (B:eQ H b):H b≠none:=by obtain ⟨_,_,_,_,_,e,_⟩:=B;rw[e];simp
theorem Inner.at (B:eQ H b) (i:Inner H b q):H q≠none:=by
 obtain ⟨q',i',xs,e⟩:=B.inner;rw[<- Inner.inj i' i,e];simp
theorem dz {F:α->β->Prop} {l1:List α} {l2:List β} (h:Paired F l1 l2) (hi:i < l1.length):∃x y,l1[i]?=some x/\l2[i]?=some y/\x∈l1/\F x y:=by
 have hl:=h.length;exact ⟨l1[i],l2[i]'(by lia),by simp,by simp,a8 _,ig h hi (by lia)⟩
section
variable {α β:Type} [DecidableEq α] [DecidableEq β] (k1:Kind α) (k2:Kind β)
theorem pO {X:Cx} {pins:List (Addr×Obj)} {σ:St} {H:Hp} {s:Shared} {A:Around} (I:Inv X pins σ H s) (h1:A.units+k1.d < cLine) (h2:A.units+k2.d < cLine) {x y z w:V} {us ws:List Value} {a b:α×β}
  (rx:bV [x,y] us) (ry:bV [z,w] ws) (a1:k1.R X.K H x a.1) (a2:k2.R X.K H y a.2) (b1:k1.R X.K H z b.1) (b2:k2.R X.K H w b.2) :
  ∀j (h1:j < us.toArray.size) (h2:j < ws.toArray.size),SeqAt.EqAt A s us.toArray[j] ws.toArray[j] (if j=0 then decide (a.1=b.1) else decide (a.2=b.2)):=λj l1 l2=>by
 obtain ⟨u1,u2,rfl,r1,r2⟩:=vals2 rx;obtain ⟨w1,w2,rfl,q1,q2⟩:=vals2 ry;have hj:j < 2:=by simpa using l1
 rcases sG j 1 with h | h
 ·have e:j=0:=by lia
  subst e;exact k1.eq (A:=A) I r1 q1 a1 b1 h1
 ·have e:j=1:=by lia
  subst e;exact k2.eq (A:=A) I r2 q2 a2 b2 h2
theorem we {a b:α×β}:(List.range 2).all (λj=>if j=0 then decide (a.1=b.1) else decide (a.2=b.2))=decide (a=b):=by
 have e:List.range 2=[0,1]:=rfl;rw[e];simp only[yL,List.all_nil,Bool.and_true,if_true,Nat.one_ne_zero,if_false];rw[<- DX];exact decide_eq_decide.mpr ⟨λ⟨h1,h2⟩=>Prod.ext h1 h2,λh=>by rw[h];exact ⟨rfl,rfl⟩⟩
def C8:Kind (α×β) where
 R:=λK H x a=>∃p u v,x=.ref p/\iP K H p [u,v]/\k1.R K H u a.1/\k2.R K H v a.2
 d:=max k1.d k2.d+1
 inj:=λ{X pins σ H s x a b} I h1 h2=>by
  obtain ⟨p,u,v,rfl,hp,a1,a2⟩:=h1;obtain ⟨q,u',v',e,hq,b1,b2⟩:=h2;cases e;have e:=I.tuple_inj hp hq;cases e;exact Prod.ext (k1.inj I a1 b1) (k2.inj I a2 b2)
 rc:=λ{X pins σ H s x y v u a b A} I rx ry h1 h2 hA=>by
  obtain ⟨p,x1,x2,rfl,hp,a1,a2⟩:=h1;obtain ⟨q,y1,y2,rfl,hq,b1,b2⟩:=h2;cases rx;cases ry;obtain ⟨us,r1,t1,_⟩:=I.tuple hp;obtain ⟨ws,r2,t2,_⟩:=I.tuple hq;have l1:=r1.length;have l2:=r2.length;have z:=SeqAt.RcAt.tuples (A:=A) (e:=λj=>if j=0 then decide (a.1=b.1) else decide (a.2=b.2)) (show s.heap.IsTuple p us.toArray from t1) (show s.heap.IsTuple q ws.toArray from t2) (by lia) (pO k1 k2 (A:=A.in1) I (by show A.units+1+k1.d < cLine;lia) (by show A.units+1+k2.d < cLine;lia) r1 r2 a1 a2 b1 b2);have e1:us.toArray.size=2:=by rw[aE,<- l1];rfl
  have e2:ws.toArray.size=2:=by rw[aE,<- l2];rfl
  rw[e1,e2,jM,we] at z;simpa using z
 ne:=λ{X pins σ H s x y v u a b A} I rx ry h1 h2 hA=>by
  obtain ⟨p,x1,x2,rfl,hp,a1,a2⟩:=h1;obtain ⟨q,y1,y2,rfl,hq,b1,b2⟩:=h2;cases rx;cases ry;obtain ⟨us,r1,t1,_⟩:=I.tuple hp;obtain ⟨ws,r2,t2,_⟩:=I.tuple hq;have l1:=r1.length;have l2:=r2.length;have z:=SeqAt.RcNeAt.tuples (A:=A) (e:=λj=>if j=0 then decide (a.1=b.1) else decide (a.2=b.2)) (show s.heap.IsTuple p us.toArray from t1) (show s.heap.IsTuple q ws.toArray from t2) (by lia) (pO k1 k2 (A:=A.in1) I (by show A.units+1+k1.d < cLine;lia) (by show A.units+1+k2.d < cLine;lia) r1 r2 a1 a2 b1 b2);have e1:us.toArray.size=2:=by rw[aE,<- l1];rfl
  have e2:ws.toArray.size=2:=by rw[aE,<- l2];rfl
  rw[e1,e2,jM,we] at z;simpa using z
 eq:=λ{X pins σ H s x y v u a b A} I rx ry h1 h2 hA=>by
  obtain ⟨p,x1,x2,rfl,hp,a1,a2⟩:=h1;obtain ⟨q,y1,y2,rfl,hq,b1,b2⟩:=h2;cases rx;cases ry;by_cases e:p=q
  ·subst e;have e:=I.tuple_inj hp hq;cases e;have e2:a=b:=Prod.ext (k1.inj I a1 b1) (k2.inj I a2 b2);rw[decide_eq_true e2];exact SeqAt.EqAt.same _
  ·obtain ⟨us,r1,t1,_⟩:=I.tuple hp;obtain ⟨ws,r2,t2,_⟩:=I.tuple hq;have l1:=r1.length;have l2:=r2.length;have z:=SeqAt.RcAt.tuples (A:=A) (e:=λj=>if j=0 then decide (a.1=b.1) else decide (a.2=b.2)) (show s.heap.IsTuple p us.toArray from t1) (show s.heap.IsTuple q ws.toArray from t2) (by lia) (pO k1 k2 (A:=A.in1) I (by show A.units+1+k1.d < cLine;lia) (by show A.units+1+k2.d < cLine;lia) r1 r2 a1 a2 b1 b2);have e1:us.toArray.size=2:=by rw[aE,<- l1];rfl
   have e2:ws.toArray.size=2:=by rw[aE,<- l2];rfl
   rw[e1,e2,jM,we] at z;exact .of_refs e (by simpa using z)
end
theorem Av (h1:-(2^64) < i) (h2:i < 2^64):jK i j:=.inl (.inl ⟨h1,h2⟩)
theorem E3 (h1:-(2^64) < j) (h2:j < 2^64):jK i j:=.inl (.inr ⟨h1,h2⟩)
def Ie (K : FG9) (l : Addr) : It :=
  ⟨λi H => ∃ xs x, bB K H l xs /\ xs[i]? = some x,
   λi H v H' => ∃ p x, v = .ref p /\ H p = none /\ H' = upd H p (.tup [.int i, x]) /\ ∀ xs, bB K H l xs → xs[i]? = some x,
   λi H => ∃ xs, bB K H l xs /\ xs.length ≤ i⟩
def tnE (e it l:Addr) (i:Nat) (h:Heap):Prop:=(∃old,IsEnum h e it i old)/\h.IsListIter it l i
theorem AJ {P:Program} {w:World} {K:FG9} {elts:List Expr} {kk:Nat} {tpos:Pos} (e it l:Addr) (hei:e≠it):Turn P w K (.Tuple elts kk tpos) (Ie K l) [e,it] e (tnE e it l) where
 mem:=by simp
 obj:=λi h st b hb=>by
  obtain ⟨⟨old,he⟩,⟨o1,g1,c1,d1⟩⟩:=st;simp only[az,aB,or_false] at hb;rcases hb with rfl | rfl
  ·exact ⟨_,he,λv q=>nomatch q⟩
  ·exact ⟨o1,g1,λv q=>by rw[d1] at q;cases q⟩
 keep:=λi h h' st k=>by
  obtain ⟨⟨old,he⟩,h1⟩:=st;exact ⟨⟨old,k e (by simp) _ he⟩,h1.at λo q=>k it (by simp) o q⟩
 item:=by
  intro X hP hw hK hc i pins s σ H E I hf st hg;subst hP hw hK;obtain ⟨⟨old,he⟩,h1⟩:=st;obtain ⟨xs,x,qx,ex⟩:=hg;obtain ⟨us,rx,px,_⟩:=I.list qx;obtain ⟨u,eu,ru⟩:=rx.get ex;refine wpAny_pyNext_enum_item he h1 px.isList (x:=u) (by simpa using eu) hei λh' a1 a2 a3 a4 hk=>?_
  refine ⟨_,rfl,wpAny_letOwnedTupleGo_enum a1 λh'' he'' hs=>?_⟩;have hT0:H s.heap.objs.size=none:=I.hok.fresh (ay _);have ene:s.heap.objs.size≠e:=fV (Heap.lt_size he)
  have up:∀b o,b∉[e,it]->s.heap.get? b=some o->h''.get? b=some o:=λb o hb q=>by
   simp only[az,aB,or_false,not_or] at hb;exact (hs.2 b hb.1).trans (hk b o hb.1 hb.2 q)
  have tup:h''.get? s.heap.objs.size=some { cls:=.type "tuple",data:=.seq #[.int i s.toks,u] }:=(hs.2 _ ene).trans a3;have I1:Inv X pins σ H { s with heap:=h'',toks:=s.toks+1 }:=I.moved (g':=s.gens) (d':=s.drawn) (t':=s.toks+1) (ch:=[e,it]) hf up I.bare;have fT:ip X pins H s.heap.objs.size:=I.fpOk (ay _) hT0;have I2:=I1.track (o:=.tup [.int i,x]) fT ⟨fM rfl,[.int i s.toks,u],.cons ⟨_,rfl⟩ (.cons ru .nil),⟨_,tup,rfl,_,rfl⟩⟩;refine ⟨.ref s.heap.objs.size,_,I2,rfl,⟨_,x,rfl,hT0,rfl,λxs' q=>by rw[I.list_inj q qx];exact ex⟩,?_,λb hb=>?_⟩
  ·exact ⟨⟨_,by simpa using he''⟩,a2.at λo q=>(hs.2 _ hei.symm).trans q⟩
  ·rw[aN]
   ·exact (hf b hb).1
   ·obtain ⟨o1,g1,_⟩:=h1;simp only[az,aB,or_false] at hb;rcases hb with rfl | rfl
    ·exact ene.symm
    ·exact bw (Heap.lt_size g1)
 done:=by
  intro X hP hw hK hc i pins s σ H E I hf st hg;subst hP hw hK;obtain ⟨⟨old,he⟩,h1⟩:=st;obtain ⟨xs,qx,hend⟩:=hg;obtain ⟨us,rx,px,_⟩:=I.list qx;have lx:=rx.length;refine wpAny_pyNext_enum_end (I.ok.hd hc) he h1 px.isList (by simp;lia) λh' hk=>⟨rfl,?_⟩
  exact I.moved (g':=s.gens) (d':=s.drawn) (t':=s.toks) (ch:=[e,it]) hf (λb o hb q=>hk b o (λz=>hb (by simp [z])) q) I.bare
 self:=λ_ _ _ _ _ st h=>let ⟨⟨_,he⟩,_⟩:=st;wpAny_pyIter_enum he h
section
variable {X:Cx}
def FC (K:FG9) (ta:TA):TI:=λσ H R=>ta σ H λvs H1=>∃l,vs=[.ref l]/\(∃xs,bB K H1 l xs)/\R (Ie K l) H1
theorem ED {a:Expr} {ta:TA} {p pos tpos:Pos} {elts:List Expr} {kk:Nat} (hg:Gl X "enumerate") (hm:X.mg "enumerate"=none) (ha:PA X [a] ta) (hs:starEach [a] X.env=[(false,eval a X.env)]:=by rfl) :
  PI X (.Tuple elts kk tpos) (.Call (.Name "enumerate" p) [a] [] pos) (FC X.K ta):=by
 intro pins s σ H R I h;refine Call_ (ij I hg hm boot_enumerate (PyProof.Rows.callWith_type1 (eI (ha pos pins s σ H _ I h) λus s1 ⟨vs,H1,I1,r1,q1⟩=>?_) (by rw[hs];rfl) rfl));obtain ⟨l,e,⟨xs,qx⟩,q⟩:=q1;subst e;obtain ⟨u,rfl,ru⟩:=vals1 r1;cases ru;obtain ⟨us,rx,px,_⟩:=I1.list qx;refine call_enumerate_list px.isList λh' a1 a2 a3 hk=>wpAny_pyIter_enum a1 ?_
 have I2:Inv X pins σ H1 { s1 with heap:=h' }:=I1.kept (t':=s1.toks) hk;refine ⟨_,[s1.heap.objs.size+1,s1.heap.objs.size],_,_,H1,rfl,I2,AJ (s1.heap.objs.size+1) s1.heap.objs.size l (Nat.succ_ne_self _),⟨⟨_,a1⟩,a2⟩,λb hb=>?_,q⟩
 have hb':s1.heap.objs.size<=b:=by
  simp only[az,aB,or_false] at hb;rcases hb with rfl | rfl <;> first | exact pK _ | exact ay _
 exact I1.fpOk hb' (I1.hok.fresh hb')
end
theorem CD {K:FG9} (h:ta σ H λvs H1=>∃l,vs=[.ref l]/\(∃xs,bB K H1 l xs)/\R (Ie K l) H1):FC K ta σ H R:=h
theorem Dp {K:FG9} {g:TG} {tb:TS} {D:Ends} (Pv:Nat->St->Hp->Prop) (h0:Pv 0 σ H) (hl:∀i σ H,i<=xs.length->Pv i σ H->bB K H l xs)
  (hs:∀i x σ H p,xs[i]?=some x->Pv i σ H->H p=none->g (.ref p) σ (upd H p (.tup [.int i,x])) λσ2 H2=>tb { D with nx:=Pv (i+1),ct:=Pv (i+1),bk:=D.nx } σ2 H2) (hd:∀σ H,Pv xs.length σ H->D.nx σ H) :
  ∃W:Nat->Nat->St->Hp->Prop,(∃m,W 0 m σ H)/\∀i m σ H,W i m σ H →
   ((Ie K l).stop i H/\D.nx σ H)\/((Ie K l).go i H/\∃N:St->Hp->Prop,(∀σ' H',N σ' H'->∃m',m' < m/\W (i+1) m' σ' H')/\∀x H',(Ie K l).yld i H x H'->g x σ H' λσ2 H2=>tb { D with nx:=N,ct:=N,bk:=D.nx } σ2 H2):=by
 refine ⟨λi m σ H=>m=xs.length - i/\i<=xs.length/\Pv i σ H,⟨xs.length,by simp,bJ _,h0⟩,?_⟩;rintro i m σ H ⟨rfl,hi,p⟩;have q1:=hl i σ H hi p;by_cases hlt:i < xs.length
 ·refine .inr ⟨⟨xs,xs[i],q1,by simp [hlt]⟩,Pv (i+1),λσ' H' p'=>⟨xs.length - (i+1),by lia,rfl,hlt,p'⟩,λx H' y=>?_⟩;obtain ⟨r,x',rfl,hr,rfl,e1⟩:=y;exact hs i x' σ _ r (e1 xs q1) p hr
 ·have e:i=xs.length:=by lia
  subst e;exact .inl ⟨⟨xs,q1,ay _⟩,hd σ H p⟩
section
variable {X:Cx}
theorem Ab (K:FG9) {e:Expr} {f:Str} {pos:Pos} {ta:TE} (he:PE X e ta) (hb:attributeBase e f X.env (eval e X.env)=eval e X.env) (hK:X.K=K:=by rfl):PE X (.Attribute e f pos) (F3 K ta f):=by subst hK;exact eX he hb
end
theorem Gy {K:FG9} (h:ta σ H λx H1=>∃a C dx fs v,x=.ref a/\H1 a=some (.ins C dx fs)/\BB K C/\gR K C f/\fs.lookup f=some v/\Q v H1):F3 K ta f σ H Q:=h
theorem Ee {K:FG9} (h:tv σ H λy H1=>ta σ H1 λx H2=>∃a C dx fs,x=.ref a/\H2 a=some (.ins C dx fs)/\BB K C/\gR K C f/\fs.length < 1000 /\
 D.nx σ (upd H2 a (.ins C dx (bI f y fs)))):IE K ta tv f D σ H:=h
theorem Ei (h:ta σ H λx H1=>∃a dx fs,x=.ref a/\H1 a=some (.ins C dx fs)/\fs.lookup m=none /\
 t σ H1 λvs H2=>sp (x :: vs) H2 Q E):Fm C m sp [] E ta t σ H Q:=by
 have e:(λ(x:V) H1=>∃a dx fs,x=.ref a/\H1 a=some (.ins C dx fs)/\fs.lookup m=none/\t σ H1 λvs H2=>sp (x :: (vs++[])) H2 Q E)=λx H1=>∃a dx fs,x=.ref a/\H1 a=some (.ins C dx fs)/\fs.lookup m=none/\t σ H1 λvs H2=>sp (x :: vs) H2 Q E:=by
  funext x H1;simp only[dU]
 show ta σ H (λ(x:V) H1=>∃a dx fs,x=.ref a/\H1 a=some (.ins C dx fs)/\fs.lookup m=none/\t σ H1 λvs H2=>sp (x :: (vs++[])) H2 Q E)
 rw[e];exact h
theorem Ej (h:t σ H λvs H1=>∀x dx,H1 x=none->H1 dx=none->dx≠x →
 sp (.ref x :: vs) (upd (upd H1 dx (.own x)) x (.ins C dx [])) (λv H2=>v=.non/\Q (.ref x) H2) E):Fn C sp [] E t σ H Q:=by
 have e:(λvs (H1:Hp)=>∀x dx,H1 x=none->H1 dx=none->dx≠x->sp (.ref x :: (vs++[])) (upd (upd H1 dx (.own x)) x (.ins C dx [])) (λv H2=>v=.non/\Q (.ref x) H2) E)=λvs H1=>∀x dx,H1 x=none->H1 dx=none->dx≠x->sp (.ref x :: vs) (upd (upd H1 dx (.own x)) x (.ins C dx [])) (λv H2=>v=.non/\Q (.ref x) H2) E:=by
  funext vs H1;simp only[dU]
 show t σ H (λvs (H1:Hp)=>∀x dx,H1 x=none->H1 dx=none->dx≠x->sp (.ref x :: (vs++[])) (upd (upd H1 dx (.own x)) x (.ins C dx [])) (λv H2=>v=.non/\Q (.ref x) H2) E)
 rw[e];exact h
def xt (x:Addr) (H H':Hp):Prop:=∀b o,H b=some o->b≠x->H' b=some o
theorem xt.upd:xt x H (L2.upd H x o):=λb u h n=>by rw[aN n];exact h
def nI (H:Hp) (x:Addr):Prop:=∃C dx fs,H x=some (.ins C dx fs)
section
variable {K:FG9} {H H' H0:Hp} {q:Rat} {v:V} {x p:Addr} {qs:List Rat} {rows:LR9}
theorem bL.exc (h:bL K H q v) (e:xt x H H') (hx:nI H x):bL K H' q v:=by
 obtain ⟨C,dx,fs,hx⟩:=hx;obtain ⟨r,er,s⟩:=h;refine ⟨r,er,?_⟩;rcases s with (h | ⟨o,h⟩) | h
 ·exact .inl (.inl (e _ _ h λz=>by rw[z,hx] at h;cases h))
 ·exact .inl (.inr ⟨o,e _ _ h λz=>by rw[z,hx] at h;cases h⟩)
 ·exact .inr h
theorem cB.exc (h:cB K H p qs) (e:xt x H H') (hx:nI H x):cB K H' p qs:=by
 obtain ⟨xs,g,r⟩:=h;have hx':=hx;obtain ⟨C,dx,fs,hx⟩:=hx;exact ⟨xs,e _ _ g (λz=>by rw[z,hx] at g;cases g),Paired.imp' (λ_ _ z=>z.exc e hx') r⟩
theorem dG.exc (h:dG K H0 H qs v) (e:xt x H H') (hx:nI H x):dG K H0 H' qs v:=by obtain ⟨q,a,b,c⟩:=h;exact ⟨q,a,b,c.exc e hx⟩
theorem bO.exc (h:bO K H0 H p rows) (e:xt x H H') (hx:nI H x):bO K H0 H' p rows:=by
 obtain ⟨xs,g,r,n⟩:=h;have hx':=hx;obtain ⟨C,dx,fs,hx⟩:=hx;exact ⟨xs,e _ _ g (λz=>by rw[z,hx] at g;cases g),Paired.imp' (λ_ _ z=>z.exc e hx') r,n⟩
end
def iF (a b c:Addr) (n i o:Nat):List (Str×V):=bI "outs" (.int o) (bI "look" (.ref c) (bI "ins" (.int i) (bI "put" (.ref b) (bI "states" (.int n) (bI "move" (.ref a) [])))))
section
variable {a b c:Addr} {n i o:Nat}
theorem sO:(iF a b c n i o).lookup ("outs":Str)=some (.int o):=by
 unfold iF;rw[aS,if_pos rfl]
theorem BW:(iF a b c n i o).lookup ("look":Str)=some (.ref c):=by
 unfold iF;rw[aS,if_neg (by decide +kernel),aS,if_pos rfl]
theorem wt:(iF a b c n i o).lookup ("ins":Str)=some (.int i):=by
 unfold iF;rw[aS,if_neg (by decide +kernel),aS,if_neg (by decide +kernel),aS,if_pos rfl]
theorem zW:(iF a b c n i o).lookup ("put":Str)=some (.ref b):=by
 unfold iF;rw[aS,if_neg (by decide +kernel),aS,if_neg (by decide +kernel),aS,if_neg (by decide +kernel),aS,if_pos rfl]
theorem nQ:(iF a b c n i o).lookup ("states":Str)=some (.int n):=by
 unfold iF;rw[aS,if_neg (by decide +kernel),aS,if_neg (by decide +kernel),aS,if_neg (by decide +kernel),aS,if_neg (by decide +kernel),aS,if_pos rfl]
theorem BV:(iF a b c n i o).lookup ("move":Str)=some (.ref a):=by
 unfold iF;rw[aS,if_neg (by decide +kernel),aS,if_neg (by decide +kernel),aS,if_neg (by decide +kernel),aS,if_neg (by decide +kernel),aS,if_neg (by decide +kernel),aS,if_pos rfl]
theorem BU {m:Str} (h1:¬m="outs") (h2:¬m="look") (h3:¬m="ins") (h4:¬m="put") (h5:¬m="states") (h6:¬m="move"):(iF a b c n i o).lookup m=none:=by
 unfold iF;rw[aS,if_neg h1,aS,if_neg h2,aS,if_neg h3,aS,if_neg h4,aS,if_neg h5,aS,if_neg h6];rfl
theorem AK:(iF a b c n i o).lookup ("moved":Str)=none:=BU (by decide +kernel) (by decide +kernel) (by decide +kernel) (by decide +kernel) (by decide +kernel) (by decide +kernel)
theorem BS:(iF a b c n i o).lookup ("seen":Str)=none:=BU (by decide +kernel) (by decide +kernel) (by decide +kernel) (by decide +kernel) (by decide +kernel) (by decide +kernel)
end
theorem c9 {k:Str} {v:V}:∀{l:List (Str×V)},(bI k v l).length<=l.length+1
 | []=>ay _
 | (x,y) :: r=>by
  unfold bI
  split
  ·simp
  ·have:=c9 (k:=k) (v:=v) (l:=r);simp only[du]
   lia
structure dD (mv pt lk:LR9):Prop where
 n8:mv.length<=8
 i4:pt.length<=4
 o4:lk.length<=4
 mw:∀xs∈mv,xs.length=mv.length
 pw:∀xs∈pt,xs.length=mv.length
 lw:∀xs∈lk,xs.length=mv.length
def vX (mv pt lk:LR9):Prop:=∃M V:Nat,0 < M/\M<=2^800/\V<=2^400/\GF M V mv/\GF M V pt/\GF M V lk
def jx (K:FG9) (H0 H:Hp) (C p:Addr) (mv pt lk:LR9):Prop:=∃dx a b c,H p=some (.ins C dx (iF a b c mv.length pt.length lk.length))/\H0 a=none/\H0 b=none/\H0 c=none/\bO K H0 H a mv/\bO K H0 H b pt/\bO K H0 H c lk
section
variable {K:FG9} {H H' H0 H1:Hp} {C p b:Addr} {mv pt lk:LR9}
theorem jx.same (h:jx K H0 H C p mv pt lk) (e:aH H H'):jx K H0 H' C p mv pt lk:=by obtain ⟨dx,a,b,c,g,n1,n2,n3,g1,g2,g3⟩:=h;exact ⟨dx,a,b,c,e _ _ g,n1,n2,n3,g1.same e,g2.same e,g3.same e⟩
theorem jx.upto (h:jx K H0 H C p mv pt lk) (u:cb b H H') (B:eQ H b) (nb:H0 b≠none):jx K H0 H' C p mv pt lk:=by
 obtain ⟨dx,a,b',c,g,n1,n2,n3,g1,g2,g3⟩:=h;refine ⟨dx,a,b',c,u.other (λz=>by obtain ⟨_,_,_,_,_,e,_⟩:=B;rw[z,e] at g;cases g) g,n1,n2,n3,g1.upto u B (λz=>nb (by rw[<- z];exact n1)) nb,g2.upto u B (λz=>nb (by rw[<- z];exact n2)) nb,g3.upto u B (λz=>nb (by rw[<- z];exact n3)) nb⟩
theorem jx.weak (h:jx K H0 H C p mv pt lk) (e:aH H1 H0):jx K H1 H C p mv pt lk:=by obtain ⟨dx,a,b,c,g,n1,n2,n3,g1,g2,g3⟩:=h;exact ⟨dx,a,b,c,g,e.none n1,e.none n2,e.none n3,g1.weak e,g2.weak e,g3.weak e⟩
theorem vX.fits (h:vX mv pt lk) (hl:∀x∈l,(∃xs∈mv,x∈xs)\/(∃xs∈pt,x∈xs)\/(∃xs∈lk,x∈xs)\/x=0):Fits l:=by
 obtain ⟨M,V,h0,h1,h2,h3,h4,h5⟩:=h;refine ⟨M,V,h0,ak h1 (aD (by decide) (by decide)),ak h2 (aD (by decide) (by decide)),λx hx=>?_⟩;rcases hl x hx with ⟨xs,a,b⟩ | ⟨xs,a,b⟩ | ⟨xs,a,b⟩ | rfl
 ·exact h3 xs a x b
 ·exact h4 xs a x b
 ·exact h5 xs a x b
 ·exact Fr.zero
end
def AL:Sp:=λvs H Q _=>∃i:Int,vs=[.int i]/\Q (.bl true) H
def AO (K:FG9):Sp:=λvs H Q _=>∃x n,vs=[x]/\zQ K H x n/\yI n/\∀H',aH H H'->Q (.bl true) H'
inductive zX (vs:List V) (H:Hp) (Q:VK) (E9:XK):Prop
 | mk (p:Addr) (xs:List V) (a m:Int):vs=[.ref p,.int a,.int m]->H p=some (.lst xs)->(xs.length:Int)<=m->Q .non H->zX  vs H Q E9
inductive z5 (K:FG9) (vs:List V) (H:Hp) (Q:VK) (E9:XK):Prop
 | mk (p:Addr) (H0:Hp) (rows:LR9) (w:Nat):vs=[.ref p,.int w]->bO K H0 H p rows->rows.length<=1000->w<=1000->((∀xs∈rows,xs.length=w/\∀x∈xs,yI (nm x)))->(∀r H',H r=none->aH H H'->bO K H H' r rows->Q (.ref r) H')->z5 K vs H Q E9
def Ig (rows:LR9):Prop:=∀xs∈rows,∀x∈xs,yI (nm x)
inductive zZ (K:FG9) (C:Addr) (vs:List V) (H:Hp) (Q:VK) (E9:XK):Prop
 | mk (x dx p q r:Addr) (Hb H0 H1 H2:Hp) (mv pt lk:LR9):vs=[.ref x,.ref p,.ref q,.ref r]->Hb x=none->Hb dx=none->dx≠x->H=upd (upd Hb dx (.own x)) x (.ins C dx [])->bO K H0 Hb p mv->bO K H1 Hb q pt->bO K H2 Hb r lk->dD mv pt lk->Ig mv->Ig pt->Ig lk->(∀H',aH Hb H'->jx K Hb H' C x mv pt lk->Q .non H')->zZ K C vs H Q E9
def cg (mv pt:LR9) (st pu:List Rat):List Rat:=List.zipWith (λline col=>cy (line++col) (st++pu)) mv (fH pt mv.length)
def seenQ (lk:LR9) (st:List Rat):List Rat:=lk.map λxs=>cy xs st
theorem vX.ok (h:vX mv pt lk):Ig mv/\Ig pt/\Ig lk :=
 ⟨λxs hx x hx'=>(h.fits (l:=xs) λy hy=>.inl ⟨xs,hx,hy⟩).ok hx',λxs hx x hx'=>(h.fits (l:=xs) λy hy=>.inr (.inl ⟨xs,hx,hy⟩)).ok hx',λxs hx x hx'=>(h.fits (l:=xs) λy hy=>.inr (.inr (.inl ⟨xs,hx,hy⟩))).ok hx'⟩
def dk (K:FG9) (A:Addr->Prop) (H:Hp) (n:Nat) (C:Rat->Prop) (x:V):Prop:=∃q qs,x=V.ref q/\A q/\cB K H q qs/\qs.length=n/\∀y∈qs,C y
section
variable {K:FG9} {A A':Addr->Prop} {H H' H0:Hp} {n:Nat} {C C':Rat->Prop} {x v:V} {q b l p:Addr} {xs zs:List V} {y:Rat} {o:HO}
theorem dk.same (h:dk K A H n C x) (e:aH H H'):dk K A H' n C x:=by obtain ⟨q,qs,a,c,r,z⟩:=h;exact ⟨q,qs,a,c,r.same e,z⟩
theorem dk.upto (h:dk K A H n C x) (u:cb b H H') (B:eQ H b) (nb:¬A b):dk K A H' n C x:=by obtain ⟨q,qs,a,c,r,z⟩:=h;exact ⟨q,qs,a,c,r.upto u B (λe=>nb (by rw[<- e];exact c)),z⟩
theorem dk.other (h:dk K A H n C x) (hl:H l=some (.lst zs)) (nl:¬A l):dk K A (upd H l o) n C x:=by obtain ⟨q,qs,a,c,r,z⟩:=h;exact ⟨q,qs,a,c,r.updL hl (λe=>nl (by rw[<- e];exact c)),z⟩
theorem dk.weak (h:dk K A H n C x) (w:∀q,A q->A' q) (wc:∀y,C y->C' y):dk K A' H n C' x:=by obtain ⟨q,qs,a,c,r,l,z⟩:=h;exact ⟨q,qs,a,w q c,r,l,λy hy=>wc y (z y hy)⟩
theorem tH {α β:Type} {F:α->β->Prop} {a:α} {b:β} (h:F a b):∀{l1:List α} {l2:List β} (j:Nat),Paired F l1 l2->Paired F (l1.set j a) (l2.set j b)
 | _,_,_,.nil=>.nil
 | _,_,0,.cons _ t=>.cons h t
 | _,_,j+1,.cons r t=>.cons r (tH h j t)
theorem dk.put (h:dk K A H n C x) (hq:H q=some (.lst zs)) (hv:bL K H y v) (hc:C y) (j:Nat):dk K A (upd H q (.lst (zs.set j v))) n C x:=by
 obtain ⟨q1,qs,rfl,a,⟨zs1,g1,pr⟩,l1,c1⟩:=h;by_cases e:q1=q
 ·subst e;rw[hq] at g1;cases g1;refine ⟨q1,qs.set j y,rfl,a,⟨_,aJ,tH (hv.updL hq) j (Paired.imp' (λ_ _ z=>z.updL hq) pr)⟩,by rw[lK];exact l1,λz hz=>?_⟩;rcases df hz with hz | rfl
  ·exact c1 z hz
  ·exact hc
 ·exact ⟨q1,qs,rfl,a,⟨zs1,by rw[aN e];exact g1,Paired.imp' (λ_ _ z=>z.updL hq) pr⟩,l1,c1⟩
theorem dk.at (h:dk K A H n C x):∃q zs qs,x=V.ref q/\A q/\H q=some (.lst zs)/\zs.length=n/\Paired (bL K H) qs zs/\qs.length=n/\∀y∈qs,C y:=by obtain ⟨q,qs,a,c,⟨zs,g,pr⟩,l,z⟩:=h;exact ⟨q,zs,qs,a,c,g,by rw[<- pr.length];exact l,pr,l,z⟩
end
theorem mh {i:Int} (h:i.natAbs<=W) (hW:1<=W):Dr W (i:Rat):=⟨h,hW⟩
def Jz (K:FG9) (A:Addr->Prop) (H:Hp) (n:Nat) (C:Rat->Prop) (p:Addr) (m:Nat):Prop:=∃us,H p=some (.lst us)/\us.length=m/\¬A p/\∀x∈us,dk K A H n C x
structure vb (A:Addr->Prop) (m p l b q0:Addr):Prop where
 am:¬A m
 ap:¬A p
 al:¬A l
 ab:¬A b
 aq:¬A q0
 mb:m≠b
 pb:p≠b
 lb:l≠b
 mp:m≠p
 ml:m≠l
 mq:m≠q0
theorem Am {M:Nat} {z:Int} (h:z.natAbs<=2):Fr 1 2 (z:Rat):=Fr.int h
theorem xf {z:Int} (hz:z.natAbs<=2) (ha:Fr M W a) (hc:Fr M W c):Fr M (3*W) (a+(z:Rat)*c):=by
 have h:=(Am (M:=M) hz).mul hc;rw[v7] at h;exact (ha.add h).mono (by lia)
theorem wq {z:Int} (h:z.natAbs<=1000):rZ (z:Rat):=zD (M:=1) (V:=1000) (by decide) (nM) (ak (show 1000<=2^10 by decide) (aD (by decide) (by decide))) (Fr.int h)
theorem sN {z:Int} (hz:z.natAbs<=2) (hc:Fr M W c) (h0:0 < M) (h1:M<=2^800) (hW:W<=2^140):rZ ((z:Rat)*c):=by
 have h:=(Am (M:=M) hz).mul hc;rw[v7] at h;refine zD h0 (ak h1 (aD (by decide) (by decide))) (ak (d4 2 hW) ?_) h;rw[show 2*2^140=2^141 by rw[mS,c7]];exact aD (by decide) (by decide)
def fI (A:Addr->Prop) (b m:Addr) (H H':Hp):Prop:=∀c u,H c=some u->c≠b->¬A c->c≠m->H' c=some u
theorem fI.same (h:fI A b m H H1) (s:aH H1 H2):fI A b m H H2:=λc u e n1 n2 n3=>s _ _ (h c u e n1 n2 n3)
theorem fI.upto (h:fI A b m H H1) (s:cb b H1 H2):fI A b m H H2:=λc u e n1 n2 n3=>s.1 _ _ (h c u e n1 n2 n3) n1
theorem fI.upd (h:fI A b m H H1) (hq:A q\/q=m):fI A b m H (L2.upd H1 q o):=λc u e n1 n2 n3=>by
 rw[aN]
 ·exact h c u e n1 n2 n3
 ·rintro rfl;rcases hq with hq | hq
  ·exact n2 hq
  ·exact n3 hq
theorem fI.new (h:fI A b m H H1) (hA:∀q,H q=none->A q) (B:eQ H1 b) (hm:H1 m≠none) (hr:H1 r=none):A r:=by
 by_cases z:A r
 ·exact z
 ·cases e:H r with
  | none=>exact hA r e
  | some u =>
   have:=h r u e (λy=>B.at (by rw[<- y];exact hr)) z (λy=>hm (by rw[<- y];exact hr));rw[hr] at this;cases this
structure AB (K:FG9) (A:Addr->Prop) (n:Nat) (C:Rat->Prop) (r p b q0:Addr) (us:List V) (H0 H:Hp):Prop where
 gr:H r=some (.lst us)
 ru:∀x∈us,dk K A H n C x
 rp:dk K A H n C (.ref p)
 bag:eQ H b
 inn:Inner H b q0
 up:cb b H0 H
section
variable {K:FG9} {A:Addr->Prop} {n:Nat} {C:Rat->Prop} {r p b q0:Addr} {us:List V} {H0 H H':Hp} {y:Rat} {v:V}
theorem AB.same (h:AB K A n C r p b q0 us H0 H) (e:aH H H'):AB K A n C r p b q0 us H0 H':=⟨e _ _ h.gr,λx hx=>(h.ru x hx).same e,h.rp.same e,h.bag.same e,(e.upto (p:=b)).2 _ h.inn,h.up.same e⟩
theorem AB.upto (h:AB K A n C r p b q0 us H0 H) (u:cb b H H') (B:eQ H' b) (nb:¬A b) (rb:r≠b):AB K A n C r p b q0 us H0 H':=⟨u.other rb h.gr,λx hx=>(h.ru x hx).upto u h.bag nb,h.rp.upto u h.bag nb,B,u.2 _ h.inn,h.up.trans u⟩
theorem AB.put (h:AB K A n C r p b q0 us H0 H) (ap:A p) (nr:¬A r) (nb:¬A b) (nq:¬A q0) (hp:H0 p=none) (hv:bL K H y v) (hc:C y) (j:Nat):∃zs,H p=some (.lst zs)/\zs.length=n/\AB K A n C r p b q0 us H0 (upd H p (.lst (zs.set j v))):=by
 obtain ⟨q,zs,qs,e,a,g,l,_⟩:=h.rp.at;cases e;have ne:∀{z},¬A z->z≠p:=λh e=>h (by rw[e];exact ap)
 exact ⟨zs,g,l,by rw[aN (ne nr)];exact h.gr,λx hx=>(h.ru x hx).put g hv hc j,h.rp.put g hv hc j,h.bag.upd h.inn (ne nb).symm (ne nq).symm,h.inn.upd (ne nb).symm,h.up.after hp⟩
end
theorem tq {K:FG9} (h:∀x∈us,dk K A H n C x):∃rows:LR9,Paired (λqs x=>∃q,x=V.ref q/\A q/\cB K H q qs) rows us/\rows.length=us.length/\∀qs∈rows,qs.length=n/\∀y∈qs,C y:=by
 induction us with
 | nil=>exact ⟨[],.nil,rfl,λ_ z=>nomatch z⟩
 | cons u us ih =>
  obtain ⟨rows,pr,l,hr⟩:=ih λx hx=>h x (.tail _ hx)
  obtain ⟨q,qs,e,a,r,l1,c⟩:=h u (.head _);refine ⟨qs :: rows,.cons ⟨q,e,a,r⟩ pr,by simp [l],λzs hz=>?_⟩;rcases az.mp hz with rfl | hz
  ·exact ⟨l1,c⟩
  ·exact hr zs hz
theorem y8 {K:FG9} {rows:LR9} (pr:Paired (λqs x=>∃q,x=V.ref q/\A q/\cB K H q qs) rows us) (h:∀qs∈rows,qs.length=n/\∀y∈qs,C y):∀x∈us,dk K A H n C x:=λx hx=>by
 obtain ⟨qs,hq,q,e,a,r⟩:=cu pr hx;exact ⟨q,qs,e,a,r,(h qs hq).1,(h qs hq).2⟩
theorem vF {n:Nat}:∀{rows:LR9},(∀xs∈rows,xs.length=n)->rows.flatten.length=rows.length*n
 | [],_=>by simp
 | xs :: rows,h=>by
  rw[jN,aG,h xs (.head _),vF λys hy=>h ys (.tail _ hy),du,Nat.succ_mul,sI]
theorem z7 {rows:LR9} (h:∀qs∈rows,qs.length=n/\∀y∈qs,Dr (2^c) y):∃M:Nat,0 < M/\M<=2^(c*(rows.length*n))/\∀qs∈rows,∀y∈qs,Fr M (2^c) y:=by
 have fl:rows.flatten.length=rows.length*n:=vF λys hy=>(h ys hy).1
 have hm:∀a∈rows.flatten.map (·.den),0 < a/\a<=2^c:=λa ha=>by
  obtain ⟨y,hy,rfl⟩:=ba.mp ha;obtain ⟨qs,hq,hy⟩:=List.mem_flatten.mp hy;exact ⟨y.den_pos,((h qs hq).2 y hy).2⟩
 refine ⟨vv (rows.flatten.map (·.den)),vq λa ha=>(hm a ha).1,?_,λqs hq y hy=>?_⟩
 ·have:=xY (k:=c) (l:=rows.flatten.map (·.den)) λa ha=>(hm a ha).2
  rwa [av,fl] at this
 ·exact (Fr.own y ((h qs hq).2 y hy).1).dvd (vt (ba.mpr ⟨y,List.mem_flatten.mpr ⟨qs,hq,hy⟩,rfl⟩))
theorem eE {K:FG9} (h:Jz K A H n C p m) (w:∀q,A q->H0 q=none):∃rows,bO K H0 H p rows/\rows.length=m/\∀qs∈rows,qs.length=n/\∀y∈qs,C y:=by
 obtain ⟨us,g,l,a,r⟩:=h;obtain ⟨rows,pr,lr,hr⟩:=tq r;refine ⟨rows,⟨us,g,Paired.imp' (λ_ _ ⟨q,e,aq,rq⟩=>⟨q,e,w q aq,rq⟩) pr,λhm=>?_⟩,by rw[lr,l],hr⟩;obtain ⟨q,_,e,aq,_⟩:=r _ hm;cases e;exact a aq
theorem fI.trans (h:fI A b m H H1) (h':fI A b m H1 H2):fI A b m H H2:=λc u e n1 n2 n3=>h' c u (h c u e n1 n2 n3) n1 n2 n3
theorem Cy {K:FG9} {rows:LR9} (pr:Paired (dG K H0 H) rows us) (h:∀qs∈rows,qs.length=n/\∀y∈qs,C y) (w:∀q,V.ref q∈us->H0 q=none->H q≠none->A q):∀x∈us,dk K A H n C x:=λx hx=>by
 obtain ⟨qs,hq,q,e,a,r⟩:=cu pr hx;subst e;exact ⟨q,qs,rfl,w q hx a (by obtain ⟨_,g,_⟩:=r;rw[g];simp),r,(h qs hq).1,(h qs hq).2⟩
def AM:Sp:=λvs H Q _=>∃b,vs=[.ref b]/\eQ H b/\∀r (n i o w:Nat) H',H' r=some (.tup [.int n,.int i,.int o,.int w])->n<=5->i<=4->o<=4->(w=4\/w=9\/(w=1000000/\n<=2))->(n=5->i<=2/\o<=2)->eQ H' b->cb b H H'->Q (.ref r) H'
def cR (K:FG9) (H0 H:Hp) (r:Addr) (mv pt lk:LR9):Prop:=∃m p l,H r=some (.tup [.ref m,.ref p,.ref l])/\H0 m=none/\H0 p=none/\H0 l=none/\bO K H0 H m mv/\bO K H0 H p pt/\bO K H0 H l lk
section
variable {K:FG9} {H H' H0 H1:Hp} {r b:Addr} {mv pt lk:LR9}
theorem cR.same (h:cR K H0 H r mv pt lk) (e:aH H H'):cR K H0 H' r mv pt lk:=by obtain ⟨m,p,l,g,n1,n2,n3,g1,g2,g3⟩:=h;exact ⟨m,p,l,e _ _ g,n1,n2,n3,g1.same e,g2.same e,g3.same e⟩
theorem cR.upto (h:cR K H0 H r mv pt lk) (u:cb b H H') (B:eQ H b) (nb:H0 b≠none):cR K H0 H' r mv pt lk:=by
 obtain ⟨m,p,l,g,n1,n2,n3,g1,g2,g3⟩:=h;exact ⟨m,p,l,u.tup B g,n1,n2,n3,g1.upto u B (λz=>nb (by rw[<- z];exact n1)) nb,g2.upto u B (λz=>nb (by rw[<- z];exact n2)) nb,g3.upto u B (λz=>nb (by rw[<- z];exact n3)) nb⟩
theorem cR.weak (h:cR K H0 H r mv pt lk) (e:∀q,H0 q=none->H1 q=none):cR K H1 H r mv pt lk:=by
 obtain ⟨m,p,l,g,n1,n2,n3,⟨x1,y1,z1,w1⟩,⟨x2,y2,z2,w2⟩,⟨x3,y3,z3,w3⟩⟩:=h;exact ⟨m,p,l,g,e _ n1,e _ n2,e _ n3,⟨x1,y1,Paired.imp' (λ_ _ ⟨q,a,b,c⟩=>⟨q,a,e _ b,c⟩) z1,w1⟩,⟨x2,y2,Paired.imp' (λ_ _ ⟨q,a,b,c⟩=>⟨q,a,e _ b,c⟩) z2,w2⟩,⟨x3,y3,Paired.imp' (λ_ _ ⟨q,a,b,c⟩=>⟨q,a,e _ b,c⟩) z3,w3⟩⟩
end
inductive sQ (K:FG9) (C:Addr) (vs:List V) (H:Hp) (Q:VK) (E9:XK):Prop
 | mk (r:Addr) (H0:Hp) (mv pt lk:LR9):vs=[.ref r]->cR K H0 H r mv pt lk->dD mv pt lk->vX mv pt lk->(∀x H',H x=none->aH H H'->jx K H H' C x mv pt lk->Q (.ref x) H')->sQ K C vs H Q E9
def nextK (mv pt:LR9) (st pu:List Rat) (k:Nat):List Rat:=List.zipWith (λline col=>cy (line++col.take k) (st++pu.take k)) mv (fH pt mv.length)
theorem eO {st pu:List Rat}:(nextK mv pt st pu k).length=mv.length:=by unfold nextK;rw[d6,hR];lia
theorem kf {st pu:List Rat} (h1:pt.length<=k) (h2:pu.length<=k):nextK mv pt st pu k=cg mv pt st pu:=by
 unfold nextK cg;apply gU;intro i;rw[di,di];cases e1:mv[i]? with
 | none=>rfl
 | some line =>
  cases e2:(fH pt mv.length)[i]? with
  | none=>rfl
  | some col =>
   have:=vh col (aj e2);show some _=some _
   rw[aw (by lia),aw h2]
theorem zU (h:i < w):(fH rows w)[i]?=some (rows.map λxs=>xs.getD i 0):=by
 unfold fH;rw[aY,fG h];rfl
theorem tR {st pu:List Rat}:nextK mv pt st pu 0=mv.map λxs=>cy xs st:=by
 unfold nextK;apply gU;intro i;rw[di,aY];by_cases hi:i < mv.length
 ·rw[zU hi,ao hi];simp
 ·rw[b7 (by lia)];rfl
theorem tT {st pu:List Rat} (hi:i < mv.length):(nextK mv pt st pu k).getD i 0=cy (mv[i]++(pt.map λxs=>xs.getD i 0).take k) (st++pu.take k):=by
 rw[aA];unfold nextK;rw[di,ao hi,zU hi];rfl
theorem mi (h:as.length=xs.length):cy (as++bs) (xs++ys)=cy as xs+cy bs ys:=by
 unfold cy;rw[xA h,List.sum_append]
theorem tS {st pu:List Rat} (hm:∀xs∈mv,xs.length=st.length) (h1:k < pt.length) (h2:k < pu.length) (hw:(pt[k]).length=mv.length) :
  List.zipWith (λx y=>x+y) (nextK mv pt st pu k) ((pt[k]).map λy=>pu[k]*y)=nextK mv pt st pu (k+1):=by
 have l1:((pt[k]).map λy=>pu[k]*y).length=mv.length:=by rw[av,hw]
 rw[ve (by rw[l1,eO])];apply gU;intro i;rw[aY,eO];by_cases hi:i < mv.length
 ·have e0:(nextK mv pt st pu (k+1))[i]?=some ((nextK mv pt st pu (k+1)).getD i 0):=by
   rw[aA,ao (by rw[eO];exact hi)];rfl
  rw[fG hi,e0,tT hi];have ll:=hm mv[i] (a8 hi);have ec:(pt.map λxs=>xs.getD i 0)[k]?=some ((pt[k]).getD i 0):=by rw[aY,ao h1];rfl
  have ep:pu[k]?=some pu[k]:=ao h2
  have e3:((pt[k]).map λy=>pu[k]*y).getD i 0=pu[k]*(pt[k]).getD i 0:=by
   rw[getD_map (by rw[hw];exact hi),aA,ao (by rw[hw];exact hi)];rfl
  show some ((nextK mv pt st pu k).getD i 0+((pt[k]).map λy=>pu[k]*y).getD i 0)=some _
  rw[tT hi,e3,take_snoc ec,take_snoc ep,mi ll,mi ll,mi (by rw[dq,dq,av];lia)];have:cy [(pt[k]).getD i 0] [pu[k]]=(pt[k]).getD i 0*pu[k]:=by simp [cy,jL]
  rw[this];congr 1;grind
 ·rw[b7 (by simpa using hi),b7 (by rw[eO];lia)];rfl
theorem EF {X:Cx} (K:FG9) {a:Expr} {ta:TE} {pos:Pos} {c:Str} {T:String} {p p2:Pos} (hg:Gl X "isinstance") (hm:X.mg "isinstance"=none) (hb:bootBuiltins c=some (.type T)) (hmc:X.mg c=none) (ha:PE X a ta) (hK:X.K=K:=by rfl) (hgc:Gl X c:=by rfl) (hn:c≠"__name__":=by decide)
  (hd:(c == ("__debug__":Str))=false:=by decide) (he:starEach [a,.Name c p2] X.env=[(false,eval a X.env),(false,eval (.Name c p2) X.env)]:=by rfl)
  (hpl:(backTo pos (starEach [.Name c p2] X.env)).any (·.1)=false:=by rfl) (he2:starEach [.Name c p2] X.env=[(false,eval (.Name c p2) X.env)]:=by rfl):PE X (.Call (.Name "isinstance" p) [a,.Name c p2] [] pos) (HX (zc K T) ta):=by
 subst hK;exact tF hg hm hb hmc ha hgc hn hd he hpl he2
theorem kg {st pu:List Rat}:(cg mv pt st pu).length=mv.length:=by unfold cg;rw[d6,hR];lia
def rD (J:Addr->Prop) (H H':Hp):Prop:=∀c u,H c=some u->(J c->∀xs,u≠.lst xs)->H' c=some u
section
variable {K:FG9} {J J':Addr->Prop} {H H' H1 H0:Hp} {C p b x:Addr} {mv pt lk rows:LR9} {qs:List Rat}
theorem rD.set (h:H p=some (.lst xs)) (hJ:J p):rD J H (upd H p (.lst ys)):=λc u e n=>by
 by_cases z:c=p
 ·subst z;rw[h] at e;cases e;exact absurd rfl (n hJ xs)
 ·rw[aN z];exact e
theorem rD.sqt (k:rD J H H') (h:iP K H a xs):iP K H' a xs:=by
 rcases h with (h | ⟨o,h⟩) | h
 ·exact .inl (.inl (k _ _ h λ_ _ z=>nomatch z))
 ·exact .inl (.inr ⟨o,k _ _ h λ_ _ z=>nomatch z⟩)
 ·exact .inr h
theorem bL.keepL {x:V} (h:bL K H q x) (k:rD J H H'):bL K H' q x:=by obtain ⟨p,e,s⟩:=h;exact ⟨p,e,k.sqt s⟩
theorem cB.keepL (h:cB K H p qs) (k:rD J H H') (n:¬J p):cB K H' p qs:=by obtain ⟨xs,g,r⟩:=h;exact ⟨xs,k _ _ g λz=>absurd z n,Paired.imp' (λ_ _ z=>z.keepL k) r⟩
theorem bO.keepL (h:bO K H0 H p rows) (k:rD J H H') (n:H0 p=none) (hJ:∀q,H0 q=none->¬J q):bO K H0 H' p rows:=by obtain ⟨xs,g,r,nn⟩:=h;exact ⟨xs,k _ _ g λz=>absurd z (hJ p n),Paired.imp' (λ_ _ ⟨q,a,b,c⟩=>⟨q,a,b,c.keepL k (hJ q b)⟩) r,nn⟩
end
def mD (k j:Nat) (l:List Rat):Prop:=∃M V:Nat,0 < M/\M<=2^k/\V<=2^j/\∀x∈l,Fr M V x
section
variable {k j k' j':Nat} {l xs ys:List Rat} {x y:Rat}
theorem mD.szn (h:mD k j l) (hx:x∈l) (hk:k+j<=3950:=by decide):rZ x:=by
 obtain ⟨M,V,h0,h1,h2,h3⟩:=h;obtain ⟨a,b⟩:=(h3 x hx).sz h0 h1 h2;exact ⟨a.mono (by lia),b.mono (by lia)⟩
theorem mD.rowM (h:mD k j l) (hk:k+j<=4200:=by decide):∃M,Br M (l.map nm):=by
 obtain ⟨M,V,h0,h1,h2,h3⟩:=h;refine ⟨M,by lia,?_,λn hn=>?_⟩
 ·show ((M:Nat):Int).natAbs < 2^4400
  rw[jd];exact bu h1 (vZ (by decide) (by lia))
 ·obtain ⟨x,hx,rfl⟩:=ba.mp hn;obtain ⟨a,_⟩:=(h3 x hx).sz h0 h1 h2;exact ⟨kM x,(h3 x hx).den,a.mono (by lia)⟩
theorem mD.one (h:mD k j l) (hx:x∈l):mD k j [x]:=by
 obtain ⟨M,V,h0,h1,h2,h3⟩:=h;exact ⟨M,V,h0,h1,h2,λy hy=>by rw[aQ.mp hy];exact h3 x hx⟩
theorem Dw (h:mD k j xs) (h':mD k' j' ys) (hl:xs.length<=1000) (i:Nat) (hk:(k+k')+(j+j')<=3930:=by decide):rZ (cy (xs.take i) (ys.take i)):=by
 obtain ⟨M,V,h0,h1,h2,h3⟩:=h;obtain ⟨N,W,k0,k1,k2,k3⟩:=h'
 have e:1000*(V*W)<=2^(10+(j+j')):=by
  rw[bK 2 10];exact aR (by decide) (ak (aR h2 k2) (by rw[<- bK];exact ay _))
 obtain ⟨a,b⟩:=((Fr.dot (λx hx=>h3 x (dI hx)) (λy hy=>k3 y (dI hy))).mono (aP _ (show (xs.take i).length<=1000 by rw[dq];lia))).sz (dH h0 k0) (ak (aR h1 k1) (by rw[<- bK];exact ay _)) e;exact ⟨a.mono (by lia),b.mono (by lia)⟩
theorem CU (hx:mD k j [x]) (hy:mD k' j' [y]) (hk:(k+k')+(j+j')<=3930:=by decide):rZ (x*y):=by
 obtain ⟨M,V,h0,h1,h2,h3⟩:=hx;obtain ⟨N,W,k0,k1,k2,k3⟩:=hy;obtain ⟨a,b⟩:=((h3 x (.head _)).mul (k3 y (.head _))).sz (dH h0 k0) (ak (aR h1 k1) (by rw[<- bK];exact ay _)) (ak (aR h2 k2) (by rw[<- bK];exact ay _));exact ⟨a.mono (by lia),b.mono (by lia)⟩
def rO (xs ys:List Rat):Prop:=∃k j k' j':Nat,mD k j xs/\mD k' j' ys/\(k+k')+(j+j')<=3930
end
def Kc (mv pt lk:LR9):Prop:=∃M V:Nat,0 < M/\M<=2^400/\V<=2^120/\GF M V mv/\GF M V pt/\GF M V lk
inductive wz (K:FG9) (vs:List V) (H:Hp) (Q:VK) (E9:XK):Prop
 | mk (p q:Addr) (xs ys:List Rat):vs=[.ref p,.ref q]->cB K H p xs->cB K H q ys->ys.length=xs.length->xs.length<=1000->rO xs ys->(∀r H',aH H H'->bL K H' (cy xs ys) (.ref r)->Q (.ref r) H')->wz K vs H Q E9
inductive wu (K:FG9) (vs:List V) (H:Hp) (Q:VK) (E9:XK):Prop
 | mk (p q:Addr) (H0:Hp) (rows:LR9) (ys:List Rat):vs=[.ref p,.ref q]->bO K H0 H p rows->cB K H q ys->rows.length<=1000->ys.length<=1000->((∀xs∈rows,xs.length=ys.length/\rO xs ys))->(∀r H',H r=none->aH H H'->cB K H' r (rows.map λxs=>cy xs ys)->Q (.ref r) H')->wu K vs H Q E9
def oA (mv pt:LR9) (st:List Rat) (pus:LR9) (k:Nat):List Rat:=(pus.take k).foldl (cg mv pt) st
def dR (mv pt:LR9) (st:List Rat) (pus:LR9):LR9:=(List.range (pus.length+1)).map (oA mv pt st pus)
section
variable {mv pt lk pus:LR9} {st:List Rat} {k:Nat}
theorem BY:oA mv pt st pus 0=st:=rfl
theorem ka (h:pus[k]?=some pu):oA mv pt st pus (k+1)=cg mv pt (oA mv pt st pus k) pu:=by
 unfold oA;rw[take_snoc h,List.foldl_append];rfl
theorem ks (h:st.length=mv.length):∀{k:Nat},k<=pus.length->(oA mv pt st pus k).length=mv.length
 | 0,_=>h
 | k+1,hk=>by rw[ka (ao (show k < pus.length by lia)),kg]
theorem k9:(dR mv pt st pus).length=pus.length+1:=by unfold dR;rw[av,cw]
theorem DE (h:st.length=mv.length):∀xs∈dR mv pt st pus,xs.length=mv.length:=λxs hx=>by
 obtain ⟨k,hk,rfl⟩:=ba.mp hx;exact ks h (by have:=nO.mp hk;lia)
theorem mQ (h:k<=pus.length):(dR mv pt st pus)[k]?=some (oA mv pt st pus k):=by
 unfold dR;rw[aY,fG (by lia)];rfl
theorem rQ (h:GF M W rows):GF M W (fH rows w):=λys hy y hy'=>by
 obtain ⟨j,_,rfl⟩:=ba.mp hy;obtain ⟨xs,hx,rfl⟩:=ba.mp hy';rw[aA];cases e:xs[j]? with
 | none=>exact Fr.zero
 | some z=>exact h xs hx z (aj e)
end
def jy (K:FG9) (H:Hp) (l:Addr) (H':Hp) (xs:List Rat) (x:V):Prop:=∃q,x=.ref q/\H q=none/\q≠l/\cB K H' q xs
section
variable {K:FG9} {H H' H2:Hp} {l:Addr} {xs:List Rat} {x:V}
theorem jy.same (h:jy K H l H' xs x) (e:aH H' H2):jy K H l H2 xs x:=by obtain ⟨q,a,b,c,d⟩:=h;exact ⟨q,a,b,c,d.same e⟩
theorem jy.upd {ys:List V} {o:HO} (h:jy K H l H' xs x) (hl:H' l=some (.lst ys)):jy K H l (upd H' l o) xs x:=by obtain ⟨q,a,b,c,d⟩:=h;exact ⟨q,a,b,c,d.updL hl c⟩
theorem jy.rowF (h:jy K H l H' xs x):dG K H H' xs x:=by obtain ⟨q,a,b,_,d⟩:=h;exact ⟨q,a,b,d⟩
theorem vp (e:aH H H') (n:H l=none):aH H (upd H' l o):=λb u h=>by
 rw[aN (λz=>by rw[z,n] at h;cases h)];exact e b u h
theorem tu:∀{rows:LR9} {ys:List V},Paired (jy K H l H') rows ys->V.ref l∉ys
 | _,_,.nil=>by simp
 | _,_,.cons ⟨q,a,_,c,_⟩ r=>by
  intro hm;rcases az.mp hm with e | hm
  ·rw[a] at e;cases e;exact c rfl
  ·exact tu r hm
end
theorem IC {i:Int} (h:i=0\/i=1):Fr 1 1 (i:Rat):=Fr.int (by rcases h with rfl | rfl <;> decide)
end L2
namespace L2
def cJ:Nat->(Nat->Rat)->Rat
 | 0,_=>0
 | k+1,f=>cJ k f+f k
theorem c8 {f g:Nat->Rat}:∀{k:Nat},(∀j,j < k->f j=g j)->cJ k f=cJ k g
 | 0,_=>rfl
 | k+1,h=>by
  show cJ k f+f k=cJ k g+g k
  rw[c8 λj hj=>h j (by lia),h k (by lia)]
theorem sP {f g:Nat->Rat}:∀{k:Nat},cJ k (λj=>f j+g j)=cJ k f+cJ k g
 | 0=>by show (0:Rat)=0+0;grind
 | k+1=>by
  show cJ k (λj=>f j+g j)+_=(cJ k f+f k)+(cJ k g+g k)
  rw[sP];grind
theorem jf {f:Nat->Rat} {c:Rat}:∀{k:Nat},cJ k (λj=>c*f j)=c*cJ k f
 | 0=>by show (0:Rat)=c*0;grind
 | k+1=>by
  show cJ k (λj=>c*f j)+_=c*(cJ k f+f k)
  rw[jf];grind
theorem jb {f:Nat->Rat}:∀{k:Nat},(∀j,j < k->f j=0)->cJ k f=0
 | 0,_=>rfl
 | k+1,h=>by
  show cJ k f+f k=0
  rw[jb λj hj=>h j (by lia),h k (by lia)];grind
theorem pQ {f:Nat->Nat->Rat} {m:Nat}:∀{k:Nat},cJ k (λi=>cJ m (f i))=cJ m (λj=>cJ k λi=>f i j)
 | 0=>(jb λ_ _=>rfl).symm
 | k+1=>by
  show cJ k (λi=>cJ m (f i))+cJ m (f k)=cJ m (λj=>cJ k (λi=>f i j)+f k j)
  rw[pQ,sP]
end L2
namespace L2
open Nm
def HG (rows:LR9) (i c:Nat):Rat:=(rows.getD i []).getD c 0
section
variable {ls ls0:List (List Int)} {k t n P c:Nat} {b d:Int} {ps:List Nat}
theorem Jq {x:Int} (h:(x:Rat)=0):x=0:=by
 have:(x:Rat)=((0:Int):Rat):=h;exact i8.mp this
end
def Tp (M W:Nat) (q:Rat):Prop:=∃z:Int,q*(M:Rat)=(z:Rat)/\z.natAbs<=W
theorem Tp.of {M V W:Nat} (h:Fr M V q) (hW:V*M<=W):Tp M W q:=by obtain ⟨z,a,b⟩:=h;exact ⟨z,a,ak b hW⟩
section
variable {rows:LR9} {n w i c:Nat} {xs:List Rat}
theorem BM (h:Tp M W x):(nm x).2∣(M:Int):=by
 obtain ⟨z,e,b⟩:=h
 exact Fr.den (V:=z.natAbs) (M:=M) ⟨z,e,by
  rcases Nat.eq_zero_or_pos M with h | h
  ·subst h;have:(z:Rat)=0:=by rw[<- e];simp
   rw[Jq this];simp
  ·exact ju _ h⟩
theorem FZ (h:Tp M W x) (h0:0 < M) (hB:0 < B) (d1:(nm x).2∣B) (d2:B∣(M:Int)):∃t:Int,x*(B:Rat)=(t:Rat)/\t.natAbs<=W:=by
 obtain ⟨z,e,b⟩:=h;obtain ⟨s,es⟩:=d2;refine ⟨(nm x).1*(B / (nm x).2),(oz d1).symm,?_⟩
 have s0:0 < s:=by
  rcases Int.lt_trichotomy s 0 with h | h | h
  ·have:=Int.mul_neg_of_pos_of_neg hB h
   lia
  ·rw[h] at es;lia
  ·exact h
 have e2:(((nm x).1*(B / (nm x).2)*s:Int):Rat)=(z:Rat):=by
  rw[bA,oz d1,<- e,<- cK,es,bA];grind
 have e3:=i8.mp e2;have:((nm x).1*(B / (nm x).2)).natAbs*s.natAbs=z.natAbs:=by rw[<- gZ,e3]
 have h1:1<=s.natAbs:=by lia
 have:=ju ((nm x).1*(B / (nm x).2)).natAbs h1
 lia
end
open PySem PySem.Spec PyProof.Rows
theorem tI {α β:Type} {F:α->β->Prop}:∀{l1:List α} {l2:List β} (_:Paired F l1 l2) (i:Nat) {x:α} {y:β},F x y->Paired F (l1.set i x) (l2.set i y)
 | _,_,.nil,_,_,_,_=>.nil
 | _,_,.cons _ r,0,_,_,h=>.cons h r
 | _,_,.cons a r,i+1,_,_,h=>.cons a (tI r i h)
section
variable {rows rs rs':LR9} {n P w a:Nat} {ps:List Nat}
end
theorem F4 (h:Tp M W x) (h0:0 < M) (h1:M<=2^3995) (h2:W<=2^3995):rZ x:=by
 refine ⟨?_,?_⟩
 ·obtain ⟨s,e,b⟩:=FZ h h0 (kM x) (Int.dvd_refl _) (BM h);have e2:(((nm x).1:Int):Rat)=(s:Rat):=by rw[<- e];exact mL x
  rw[i8.mp e2];exact bu (ak b h2) (vZ (by decide) (by decide))
 ·have:=iQ h0 (rJ.mp (BM h));show ((x.den:Nat):Int).natAbs < _
  rw[jd];exact bu (ak this h1) (vZ (by decide) (by decide))
section
variable {R rows:LR9} {ps:List Nat} {n a j:Nat}
theorem ui:∀{xs ys:List Rat},xs.length=ys.length->cy xs ys=cJ xs.length λc=>xs.getD c 0*ys.getD c 0:=by
 intro xs ys h
 have key:∀k,k<=xs.length->cy (xs.take k) (ys.take k)=cJ k λc=>xs.getD c 0*ys.getD c 0:=by
  intro k
  induction k with
  | zero=>intro _;rfl
  | succ k ih =>
   intro hk;rw[qk (by lia) (by lia),ih (by lia)];rfl
 have:=key xs.length (ay _);rwa [aw (ay _),aw (by lia)] at this
end
def G9:Kind Str where
 R:=λ_ _ x i=>x=.str i
 d:=0
 inj:=λ_ h1 h2=>by rw[h1] at h2;cases h2;rfl
 rc:=λ{X pins σ H s x y v u a b A} I rx ry h1 h2 _=>by
  subst h1 h2;obtain ⟨t,rfl⟩:=rx;obtain ⟨t',rfl⟩:=ry;have q:=SeqAt.RcAt.str_str (A:=A) (s:=s) a t b t';rwa [eG] at q
 ne:=λ{X pins σ H s x y v u a b A} I rx ry h1 h2 _=>by
  subst h1 h2;obtain ⟨t,rfl⟩:=rx;obtain ⟨t',rfl⟩:=ry;have q:=SeqAt.RcNeAt.str_str (A:=A) (s:=s) a t b t';rwa [eG] at q
 eq:=λ{X pins σ H s x y v u a b A} I rx ry h1 h2 _=>by
  subst h1 h2;obtain ⟨t,rfl⟩:=rx;obtain ⟨t',rfl⟩:=ry;have q:=SeqAt.EqAt.str_str (A:=A) (s:=s) a t b t';rwa [eG] at q
theorem E2 {q:Rat} (h:q.den<=9):q.den∣2520:=by
 have:=q.den_pos;generalize q.den=d at h this;have:d=1\/d=2\/d=3\/d=4\/d=5\/d=6\/d=7\/d=8\/d=9:=by lia
 rcases this with rfl | rfl | rfl | rfl | rfl | rfl | rfl | rfl | rfl <;> decide
theorem uh (h:Dr 9 q) (hM:2520∣M):Fr M 9 q:=(Fr.own q h.1).dvd (yK (E2 h.2) hM)
theorem CZ:((List.range n).map λ_=>(0:Rat))=List.replicate n 0:=by rw[DV,cw]
def F5 (K:FG9):Sp:=λvs H Q _=>∃m:Nat,vs=[.int m]/\m<=100/\∀r H',H r=none->aH H H'->cB K H' r (List.replicate m 0)->Q (.ref r) H'
theorem Fr.up {M V M' V':Nat} (h:Fr M V x) (hd:M∣M') (hv:V<=V'):Fr M' V' x:=(h.dvd hd).mono hv
def Bs (K:FG9) (P:Addr->Prop) (H:Hp) (xs:List Rat) (v:V):Prop:=∃q,v=.ref q/\P q/\cB K H q xs
section
variable {K:FG9} {P:Addr->Prop} {H H':Hp} {xs:List Rat} {v:V} {b l:Addr}
theorem Bs.updL (h:Bs K P H xs v) (hl:H l=some (.lst ys)) (nb:∀q,P q->q≠l):Bs K P (upd H l o) xs v:=by obtain ⟨q,a,c,d⟩:=h;exact ⟨q,a,c,d.updL hl (nb q c)⟩
theorem bO.ofE {rows:LR9} (g:H l=some (.lst us)) (h:Paired (Bs K P H) rows us) (h0:∀q,P q->H0 q=none) (hn:∀q,P q->q≠l):bO K H0 H l rows :=
 ⟨us,g,Paired.imp' (λ_ _ ⟨q,a,c,d⟩=>⟨q,a,h0 q c,d⟩) h,λz=>by
  obtain ⟨_,_,q,e,c,_⟩:=cu h z;cases e;exact hn _ c rfl⟩
end
theorem qD {α β:Type} {F G:α->β->Prop}:∀{l1:List α} {l2:List β},(∀a b,b∈l2->F a b->G a b)->Paired F l1 l2->Paired G l1 l2
 | _,_,_,.nil=>.nil
 | _,_,h,.cons a r=>.cons (h _ _ (by simp) a) (qD (λx y hy=>h x y (by simp [hy])) r)
section
variable {rows rows' R R':LR9} {n w W:Nat} {ps ps':List Nat}
end
def DN (mv:LR9) (x:List Rat):List Rat:=mv.map λxs=>cy xs x
section
variable {mv pt R R' S X Y:LR9} {n t m i c:Nat} {ps ps':List Nat} {a:Nat->Nat->Rat}
theorem GR:(DN mv x).length=mv.length:=av ..
end
theorem bO.toE {K:FG9} (h:bO K H0 H l rows):∃us,H l=some (.lst us)/\Paired (Bs K (λq=>H0 q=none/\q≠l) H) rows us:=by
 obtain ⟨us,g,pr,nn⟩:=h;exact ⟨us,g,qD (λxs v hv ⟨q,e,a,b⟩=>⟨q,e,⟨a,λz=>nn (by rw[<- z,<- e];exact hv)⟩,b⟩) pr⟩
theorem p9 {α:Type} {v:α}:∀{l:List α},l.Nodup->v∉l->∀j,(l.set j v).Nodup
 | [],_,_,_=>gX
 | a :: l,h,hn,0=>by
  rw[cT] at h;rw[List.set_cons_zero,cT];exact ⟨λz=>hn (.tail _ z),h.2⟩
 | a :: l,h,hn,j+1=>by
  rw[cT] at h;rw[List.set_cons_succ,cT];refine ⟨λz=>?_,p9 h.2 (λz=>hn (.tail _ z)) j⟩;rcases df z with z | z
  ·exact h.1 z
  ·exact hn (by rw[z];exact .head _)
structure gv (K:FG9) (A:Addr->Prop) (H:Hp) (n:Nat) (C:V->Rat->Prop) (m p l b q0:Addr) (us ws vs:List V):Prop where
 bag:eQ H b
 inn:Inner H b q0
 gm:H m=some (.lst us)
 gp:H p=some (.lst ws)
 gl:H l=some (.lst vs)
 lm:us.length=n
 row:∀x∈us++vs++ws,dk K A H n (C x) x
 nd:(us++vs++ws).Nodup
section
variable {K:FG9} {A:Addr->Prop} {H H':Hp} {n:Nat} {C C':V->Rat->Prop} {m p l b q0 q:Addr} {us ws vs zs:List V} {y:Rat} {v:V}
theorem gv.same (h:gv K A H n C m p l b q0 us ws vs) (e:aH H H'):gv K A H' n C m p l b q0 us ws vs :=
 ⟨h.bag.same e,(e.upto (p:=b)).2 _ h.inn,e _ _ h.gm,e _ _ h.gp,e _ _ h.gl,h.lm,λx hx=>(h.row x hx).same e,h.nd⟩
theorem gv.upto (h:gv K A H n C m p l b q0 us ws vs) (M:vb A m p l b q0) (u:cb b H H') (B':eQ H' b):gv K A H' n C m p l b q0 us ws vs :=
 ⟨B',u.2 _ h.inn,u.other M.mb h.gm,u.other M.pb h.gp,u.other M.lb h.gl,h.lm,λx hx=>(h.row x hx).upto u h.bag M.ab,h.nd⟩
theorem gv.weak (h:gv K A H n C m p l b q0 us ws vs) (w:∀x∈us++vs++ws,∀y,C x y->C' x y):gv K A H n C' m p l b q0 us ws vs :=
 ⟨h.bag,h.inn,h.gm,h.gp,h.gl,h.lm,λx hx=>(h.row x hx).weak (λ_ z=>z) (w x hx),h.nd⟩
theorem gv.put (h:gv K A H n C m p l b q0 us ws vs) (M:vb A m p l b q0) (aq:A q) (hq:H q=some (.lst zs)) (hv:bL K H y v) (hc:C (.ref q) y) (j:Nat):gv K A (upd H q (.lst (zs.set j v))) n C m p l b q0 us ws vs:=by
 have ne:∀{z},¬A z->z≠q:=λh e=>h (by rw[e];exact aq)
 refine ⟨h.bag.upd h.inn (ne M.ab).symm (ne M.aq).symm,h.inn.upd (ne M.ab).symm,by rw[aN (ne M.am)];exact h.gm,by rw[aN (ne M.ap)];exact h.gp,by rw[aN (ne M.al)];exact h.gl,h.lm,λx hx=>?_,h.nd⟩;by_cases e:x=.ref q
 ·subst e;exact (h.row _ hx).put hq hv hc j
 ·obtain ⟨q1,qs,rfl,a1,r1,l1,c1⟩:=h.row x hx;exact ⟨q1,qs,rfl,a1,r1.updL hq (λz=>e (by rw[z])),l1,c1⟩
theorem gv.set (h:gv K A H n C m p l b q0 us ws vs) (M:vb A m p l b q0) (hx:dk K A H n (C v) v) (hn:v∉us++vs++ws) (j:Nat):gv K A (upd H m (.lst (us.set j v))) n C m p l b q0 (us.set j v) ws vs:=by
 have mem:∀x∈us.set j v++vs++ws,x=v\/x∈us++vs++ws:=λx hx=>by
  rcases ar.mp hx with hx | hx
  ·rcases ar.mp hx with hx | hx
   ·rcases df hx with hx | hx
    ·exact .inr (by simp [hx])
    ·exact .inl hx
   ·exact .inr (by simp [hx])
  ·exact .inr (by simp [hx])
 refine ⟨h.bag.upd h.inn M.mb M.mq,h.inn.upd M.mb,aJ,by rw[aN M.mp.symm];exact h.gp,by rw[aN M.ml.symm];exact h.gl,by rw[lK];exact h.lm,λx hx'=>?_,?_⟩
 ·rcases mem x hx' with rfl | hx'
  ·exact hx.other h.gm M.am
  ·exact (h.row x hx').other h.gm M.am
 ·have nd:=h.nd;rw[cx] at nd hn ⊢;obtain ⟨n1,n2,n3⟩:=bo.mp nd;refine bo.mpr ⟨?_,n2,λa ha c hc=>?_⟩
  ·rcases sG j us.length with z | z
   ·exact p9 n1 (λz'=>hn (ar.mpr (.inl z'))) j
   ·rw[List.set_eq_of_length_le z];exact n1
  ·rcases df ha with ha | rfl
   ·exact n3 a ha c hc
   ·exact λz=>hn (ar.mpr (.inr (by rw[z];exact hc)))
end
theorem An (h0:0 < M) (h1:M<=2^800) (hW:W<=2^140) (h:Fr M W x):rZ x :=
 zD h0 (ak h1 (aD (by decide) (by decide))) (ak hW (aD (by decide) (by decide))) h
theorem kL {α:Type} {l:List α} {v:α} (h:l.Nodup) (hn:v∉l):(l++[v]).Nodup:=bo.mpr ⟨h,by simp,λa ha c hc=>by rw[aQ.mp hc];exact λz=>hn (by rw[<- z];exact ha)⟩
section
variable {K:FG9} {a:Addr} {xs:List V} {g:TG} {tf:TT} {te:TE} {Q:VK} {σ₀:St} {H:Hp} {α β:Type}
theorem vN (G:Hp->β->V->Prop) (C:β->Prop) (hB:eQ H b) (hl:n<=1000) (hG:∀{H' H'' c x},G H' c x->cb b H' H''->eQ H' b->G H'' c x)
  (hA:∀{H' c x},G H' c x->∃q,x=V.ref q/\H' q≠none)
  (hs:∀(i:Nat) H' NY NN,i < n->cb b H H'->eQ H' b->(∀y c H2,cb b H' H2->eQ H2 b->C c->G H2 c y->(∃q,y=V.ref q/\H' q=none)->NY y H2)->lC σ₀ g tf te (.int i) H' NY NN)
  (hd:∀ys cs H' p,H p=none->cb b H H'->eQ H' b->H' p=some (.lst ys)->cs.length=n->ys.Nodup->(∀c∈cs,C c)->Paired (G H') cs ys->(∃H2,H2 p=none/\Paired (G H2) cs ys)->Q (.ref p) H'):lI (AD 0 n) σ₀ g tf te Q H:=by
 refine lh (λi ys H'=>cb b H H'/\eQ H' b/\∃cs,cs.length=i/\ys.Nodup/\(∀c∈cs,C c)/\Paired (G H') cs ys) (aU (bp (by lia))) ⟨(aH.refl _).upto,hB,[],rfl,gX,(λ_ z=>nomatch z),.nil⟩ ?_ ?_
 ·rintro i ys H' hi hlen ⟨u,B,cs,lc,nd,hc,pr⟩;rw[sJ];refine hs i H' _ _ hi u B λy c H2 u2 B2 cc gy ⟨q,ey,nq⟩=>⟨u.trans u2,B2,cs++[c],by simp [lc],kL nd (λz=>by obtain ⟨c',_,gc⟩:=cu pr z;obtain ⟨q',e',h'⟩:=hA gc;rw[ey] at e';cases e';exact h' nq),xk hc cc,b6 (Paired.imp' (λ_ _ z=>hG z u2 B) pr) (.cons gy .nil)⟩
 ·rintro ys H' hy ⟨u,B,cs,lc,nd,hc,pr⟩ p hp;have s:aH H' (upd H' p (.lst ys)):=aH.new hp;exact hd ys cs _ p (u.none B hp) (u.same s) (B.same s) aJ lc nd hc (Paired.imp' (λ_ _ z=>hG z s.upto B) pr) ⟨H',hp,pr⟩
end
structure zO (K:FG9) (A:Addr->Prop) (n:Nat) (C:Rat->Prop) (m p l b q0:Addr) (us ws vs:List V) (H0 H:Hp):Prop where
 mix:gv K A H n (λ_=>C) m p l b q0 us ws vs
 gp:H p=some (.lst ws)
 gl:H l=some (.lst vs)
 kp:fI A b m H0 H
section
variable {K:FG9} {A:Addr->Prop} {n:Nat} {C:Rat->Prop} {m p l b q0 q:Addr} {us ws vs:List V} {H0 H H':Hp} {y:Rat} {v:V}
theorem zO.same (h:zO K A n C m p l b q0 us ws vs H0 H) (e:aH H H'):zO K A n C m p l b q0 us ws vs H0 H':=⟨h.mix.same e,e _ _ h.gp,e _ _ h.gl,h.kp.same e⟩
theorem zO.upto (h:zO K A n C m p l b q0 us ws vs H0 H) (M:vb A m p l b q0) (u:cb b H H') (B:eQ H' b):zO K A n C m p l b q0 us ws vs H0 H':=⟨h.mix.upto M u B,u.other M.pb h.gp,u.other M.lb h.gl,h.kp.upto u⟩
theorem zO.row (h:zO K A n C m p l b q0 us ws vs H0 H) (hx:x∈ws\/x∈vs):dk K A H n C x:=h.mix.row x (by rcases hx with hx | hx <;> simp [hx])
theorem zO.put (h:zO K A n C m p l b q0 us ws vs H0 H) (M:vb A m p l b q0) (hx:V.ref q∈ws\/V.ref q∈vs) (hv:bL K H y v) (hc:C y) (j:Nat):∃zs,H q=some (.lst zs)/\zs.length=n/\zO K A n C m p l b q0 us ws vs H0 (upd H q (.lst (zs.set j v))):=by
 obtain ⟨q',zs,qs,e,a,g,lz,_⟩:=(h.row hx).at;cases e;have ne:∀{z},¬A z->z≠q:=λh e=>h (by rw[e];exact a)
 exact ⟨zs,g,lz,h.mix.put M a g hv hc j,by rw[aN (ne M.ap)];exact h.gp,by rw[aN (ne M.al)];exact h.gl,h.kp.upd (.inl a)⟩
end
inductive xN (K:FG9) (vs:List V) (H:Hp) (Q:VK) (E9:XK):Prop
 | mk (b:Addr) (n w:Nat) (way first:Int):vs=[.ref b,.int n,.int way,.int first,.int w]->eQ H b->n<=8->1<=w->w<=1000000->(∀r us H',H r=none->H' r=some (.lst us)->us.length=n->us.Nodup->(∀x∈us,dk K (λq=>H q=none/\q≠r) H' n (Dr (max w 6)) x)->eQ H' b->cb b H H'->Q (.ref r) H')->xN K vs H Q E9
def PtF (n i o w c:Nat) (mv pt lk:LR9):Prop:=∃M V1:Nat,0 < M/\GF M V1 mv/\GF M V1 pt/\GF M V1 lk/\((w<=9/\M=2520/\V1=9^3*9)\/(9 < w/\M<=2^(c*((n+i+o)*n))/\V1=9^3*2^c))
inductive xO (K:FG9) (vs:List V) (H:Hp) (Q:VK) (E9:XK):Prop
 | mk (b:Addr) (n:Nat):vs=[.ref b,.int n]->eQ H b->1<=n->n<=8->(∀r mv pt lk H',cR K H H' r mv pt lk->mv.length=n->pt.length=1->lk.length=1->dD mv pt lk->GF 1 1 mv->GF 1 1 pt->GF 1 1 lk->eQ H' b->cb b H H'->Q (.ref r) H')->xO K vs H Q E9
def D6 (K:FG9):Sp:=λvs H Q _=>∃b:Addr,vs=[.ref b]/\eQ H b /\
 ∀r mv pt lk H',cR K H H' r mv pt lk->6<=mv.length->dD mv pt lk->GF 1 (9^3) mv->GF 1 (9^3) pt->GF 1 (9^3) lk->eQ H' b->cb b H H'->Q (.ref r) H'
section
variable {rows fs ls:LR9} {n r M W Wv Wb k P:Nat} {Pm Y Z B E a:Nat->Nat->Rat} {d:Rat} {ps:List Nat} {rs:LR9}
end
section
variable {rows R R1 R2 mv pt:LR9} {n r M V1 W W' Wv Wb k P:Nat} {Pm Y Z B E a:Nat->Nat->Rat} {d:Rat} {ps ps1 ps2:List Nat} {rs:LR9}
theorem pR {f:Nat->Rat} {a:Nat}:∀{b:Nat},cJ (a+b) f=cJ a f+cJ b λt=>f (a+t)
 | 0=>by show cJ a f=cJ a f+0;grind
 | b+1=>by
  show cJ (a+b) f+f (a+b)=_+(cJ b _+f (a+b))
  rw[pR];grind
end
section
variable {K:FG9} {a:Addr} {xs:List V} {g:TG} {tf:TT} {te:TE} {Q:VK} {σ₀:St} {H:Hp} {α β:Type}
theorem vL {F:Hp->α->V->Prop} (G:Hp->β->V->Prop) (f:α->β) (hx:H a=some (.lst xs)) (pf:Paired (F H) as xs) (hl:as.length<=1000)
  (hF:∀{H H' c x},F H c x->aH H H'->F H' c x) (hG:∀{H H' c x},G H c x->aH H H'->G H' c x) (hA:∀{H' c x},G H' c x->∃q,x=V.ref q/\H' q≠none)
  (hs:∀(i:Nat) c x H' NY NN,as[i]?=some c->aH H H'->F H' c x->(∀y H2,aH H' H2->G H2 (f c) y->(∃q,y=V.ref q/\H' q=none)->NY y H2)->lC σ₀ g tf te x H' NY NN)
  (hd:∀ys H' p,H p=none->aH H H'->H' p=some (.lst ys)->ys.Nodup->(∀y∈ys,∃q,y=V.ref q/\H q=none/\q≠p)->Paired (G H') (as.map f) ys->Q (.ref p) H'):lI (DQ K a) σ₀ g tf te Q H:=by
 have lx:=pf.length;refine gD (K:=K) (xs:=xs) (λi ys H'=>aH H H'/\ys.Nodup/\(∀y∈ys,∃q,y=V.ref q/\H q=none)/\Paired (G H') ((as.take i).map f) ys) (aU (bp (by lia))) ⟨aH.refl _,gX,(λ_ z=>nomatch z),.nil⟩ (λi ys H' _ ⟨s,_⟩=>bB.of (s _ _ hx)) ?_ ?_
 ·rintro i x ys H' hx' hlen ⟨s,nd,hn,pr⟩;obtain ⟨c,ec,hc⟩:=cO pf hx';refine hs i c x H' _ _ ec s (hF hc s) λy H2 s2 gy ⟨q,ey,nq⟩=>⟨s.trans s2,kL nd (λz=>?_),xk hn ⟨q,ey,s.none nq⟩,?_⟩
  ·obtain ⟨c',_,gc⟩:=cu pr z;obtain ⟨q',e',h'⟩:=hA gc;rw[ey] at e';cases e';exact h' nq
  ·rw[take_snoc ec,cF];exact b6 (Paired.imp' (λ_ _ z=>hG z s2) pr) (.cons gy .nil)
 ·rintro ys H' hy ⟨s,nd,hn,pr⟩ p hp;rw[aw (by lia)] at pr;refine hd ys _ p (s.none hp) (s.trans (aH.new hp)) aJ nd (λy hy=>?_) (Paired.imp' (λ_ _ z=>hG z (aH.new hp)) pr);obtain ⟨q,e,nq⟩:=hn y hy;refine ⟨q,e,nq,λz=>?_⟩;obtain ⟨c',_,gc⟩:=cu pr hy;obtain ⟨q',e',h'⟩:=hA gc;rw[e] at e';cases e';exact h' (by rw[z];exact hp)
end
structure JH (K:FG9) (H0 H:Hp) (n:Nat) (fd:Addr) (L:List (Addr×List V)):Prop where
 gf:H fd=some (.lst (L.map λe=>V.ref e.1))
 nf:H0 fd=none
 ls:∀e∈L,H0 e.1=none/\e.1≠fd/\H e.1=some (.lst e.2)
 nd:(L.map λe=>e.1).Nodup
 rows:∀e∈L,∀x∈e.2,dk K (λq=>(H0 q=none/\q≠fd)/\q∉L.map λe=>e.1) H n (Fr 1 1) x
 rd:(L.flatMap λe=>e.2).Nodup
section
variable {K:FG9} {H0 H H1:Hp} {n:Nat} {fd q:Addr} {L:List (Addr×List V)} {us:List V}
theorem JH.snoc (h:JH K H0 H n fd L) (s0:aH H0 H) (s:aH H H1) (hq:H q=none) (gq:H1 q=some (.lst us)) (nd:us.Nodup) (hr:∀x∈us,dk K (λz=>H z=none/\z≠q) H1 n (Fr 1 1) x):JH K H0 (upd H1 fd (.lst ((L.map λe=>V.ref e.1)++[.ref q]))) n fd (L++[(q,us)]):=by
 have qf:q≠fd:=λz=>by rw[z,h.gf] at hq;cases hq
 have old:∀{z},z∈(L.map λe=>e.1)->H z≠none:=λhz=>by
  obtain ⟨e,he,rfl⟩:=ba.mp hz;rw[(h.ls e he).2.2];exact λz=>nomatch z
 have g1:=s _ _ h.gf;refine ⟨by rw[aJ,cF];rfl,h.nf,λe he=>?_,?_,λe he x hx=>?_,?_⟩
 ·rcases ar.mp he with he | he
  ·obtain ⟨a,b,c⟩:=h.ls e he;exact ⟨a,b,by rw[aN b];exact s _ _ c⟩
  ·rw[aQ.mp he];exact ⟨s0.none hq,qf,by rw[aN qf];exact gq⟩
 ·rw[cF];exact kL h.nd λz=>old z hq
 ·have key:dk K (λz=>(H0 z=none/\z≠fd)/\z∉(L++[(q,us)]).map λe=>e.1) H1 n (Fr 1 1) x:=by
   rcases ar.mp he with he | he
   ·obtain ⟨z,qs,e1,⟨e2,e3⟩,e4,e5⟩:=h.rows e he x hx;refine ⟨z,qs,e1,⟨e2,λhz=>?_⟩,e4.same s,e5⟩;rw[cF] at hz;rcases ar.mp hz with hz | hz
    ·exact e3 hz
    ·have hz:z=q:=aQ.mp hz;obtain ⟨_,gg,_⟩:=e4;rw[hz,hq] at gg;cases gg
   ·rw[aQ.mp he] at hx;refine (hr x hx).weak (λz hz=>⟨⟨s0.none hz.1,λy=>by rw[y] at hz;rw[h.gf] at hz;exact absurd hz.1 (λw=>nomatch w)⟩,λy=>?_⟩) (λ_ w=>w);rw[cF] at y;rcases ar.mp y with y | y
    ·exact old y hz.1
    ·exact hz.2 (aQ.mp y)
  exact key.other g1 (λz=>z.1.2 rfl)
 ·rw[List.flatMap_append];refine bo.mpr ⟨h.rd,by simpa using nd,λx hx y hy z=>?_⟩;obtain ⟨e,he,hx⟩:=List.mem_flatMap.mp hx;obtain ⟨w,qs,e1,_,⟨_,gg,_⟩,_⟩:=h.rows e he x hx;obtain ⟨w',_,e1',⟨hw,_⟩,_⟩:=hr y (by simpa using hy);rw[<- z,e1] at e1';cases e1';rw[hw] at gg;cases gg
end
def dX (mv:LR9):Nat->List Rat->List Rat
 | 0,x=>x
 | t+1,x=>DN mv (dX mv t x)
section
variable {mv pt lk pus:LR9} {st pu go:List Rat} {n t T c:Nat}
theorem mJ (h:st.length=mv.length):∀t,(dX mv t st).length=mv.length
 | 0=>h
 | _+1=>GR
theorem IW (wm:∀xs∈mv,xs.length=mv.length) (h:st.length=mv.length) (hc:c < mv.length):(DN mv st).getD c 0=cJ mv.length λj=>HG mv c j*st.getD j 0:=by
 have e:(DN mv st).getD c 0=cy mv[c] st:=by
  unfold DN;rw[aA,aY,ao hc];rfl
 have wc:=wm _ (a8 hc);rw[e,ui (by lia),wc];refine c8 λj _=>?_
 unfold HG;rw[aA (l:=mv),ao hc];rfl
end
structure Ib (mv pt:LR9) (st pu:List Rat):Prop where
 f2:∀xs∈mv,rO xs st
 part:∀kk,∀x∈nextK mv pt st pu kk,rZ x
 su:∀u∈pu,rZ u
 sp:∀row∈pt,∀y∈row,rZ y
 mul:∀u∈pu,∀row∈pt,∀y∈row,rZ (u*y)
inductive xM (K:FG9) (vs:List V) (H:Hp) (Q:VK) (E9:XK):Prop
 | mk (r s u:Addr) (H0:Hp) (mv pt lk:LR9) (st pu:List Rat):vs=[.ref r,.ref s,.ref u]->cR K H0 H r mv pt lk->dD mv pt lk->cB K H s st->cB K H u pu->st.length=mv.length->pu.length=pt.length->Ib mv pt st pu->(∀t H',H t=none->aH H H'->cB K H' t (cg mv pt st pu)->Q (.ref t) H')->xM K vs H Q E9
structure Bd (mv pt:LR9) (M1 M2 V a1 a2 c:Nat):Prop where
 m1:0 < M1
 m2:0 < M2
 b1:M1<=2^a1
 b2:M2<=2^a2
 gm:GF M1 V mv
 gp:GF M2 V pt
 vc:(mv.length+4)*V<=2^c
section
variable {mv pt lk pus:LR9} {st pu go:List Rat} {M1 M2 V a1 a2 c N Np p t T ν:Nat}
theorem Bd.v1 (B:Bd mv pt M1 M2 V a1 a2 c):V<=2^c:=ak (fW _ (by lia)) B.vc
theorem w5 (h0:0 < M) (h1:M<=2^a) (h2:W<=2^b) (hab:a+b<=3990) (h:Fr M W x):rZ x:=by
 refine F4 (Tp.of h (ay _)) h0 (ak h1 (aD (by decide) (by lia))) ?_;refine ak (aR h2 h1) ?_;rw[<- bK];exact aD (by decide) (by lia)
theorem Bd.next (B:Bd mv pt M1 M2 V a1 a2 c) (D:dD mv pt lk) (ls:st.length=mv.length) (lu:pu.length=pt.length) (N0:0 < N) (dv:M2*Np∣M1*N) (hs:∀x∈st,Fr N (2^p) x) (hu:∀x∈pu,Fr Np (2^p) x) (hN:N<=2^ν) (sz:a1+ν+c+p<=3900) (sp2:a2+c<=3900):Ib mv pt st pu/\∀x∈cg mv pt st pu,Fr (M1*N) (2^(c+p)) x:=by
 have V1:=B.v1;have i4:=D.i4;have MN0:0 < M1*N:=dH B.m1 N0;have MN:M1*N<=2^(a1+ν):=by rw[bK];exact aR B.b1 hN
 have Np0:0 < Np:=by
  rcases Nat.eq_zero_or_pos Np with z | z
  ·rw[z,AF] at dv;have:=Nat.eq_zero_of_zero_dvd dv
   lia
  ·exact z
 have NpMN:Np<=M1*N:=ak (fW _ B.m2) (iQ MN0 dv)
 have one:∀u∈pu,∀row∈pt,∀y∈row,Fr (M1*N) (V*2^p) (u*y):=λu hu' row hr y hy=>by
  have:=(B.gp row hr y hy).mul (hu u hu');rw[Rat.mul_comm];exact this.dvd dv
 have part:∀kk,kk<=pt.length->∀x∈nextK mv pt st pu kk,Fr (M1*N) (2^(c+p)) x:=λkk hkk x hx=>by
  obtain ⟨j,hj,e⟩:=mH hx;rw[eO] at hj;have e2:=tT (mv:=mv) (pt:=pt) (st:=st) (pu:=pu) (k:=kk) hj;rw[aA,ao (by rw[eO];exact hj)] at e2;have e3:x=cy (mv[j]++(pt.map λxs=>xs.getD j 0).take kk) (st++pu.take kk):=by rw[<- e,<- e2];rfl
  have wj:=D.mw _ (a8 hj);rw[e3,mi (by lia)];have f1:=Fr.dot (B.gm _ (a8 hj)) hs;rw[wj] at f1
  have f2:Fr (M1*N) (4*(V*2^p)) (cy ((pt.map λxs=>xs.getD j 0).take kk) (pu.take kk)):=by
   have hc:∀y∈(pt.map λxs=>xs.getD j 0).take kk,Fr M2 V y:=λy hy=>by
    obtain ⟨xs,hxs,rfl⟩:=ba.mp (dI hy);rw[aA];cases e:xs[j]? with
    | none=>exact Fr.zero
    | some z=>exact B.gp xs hxs z (aj e)
   have:=Fr.dot (ys:=pu.take kk) hc (λy hy=>hu y (dI hy));refine (this.dvd dv).mono (aP _ ?_);rw[dq,av]
   lia
  refine (f1.add f2).mono ?_;rw[<- pL,bK,<- cP];exact aP _ B.vc
 have szb:∀{x:Rat},Fr (M1*N) (2^(c+p)) x->rZ x:=λh=>w5 MN0 MN (ay _) (by lia) h
 have all:∀kk,∀x∈nextK mv pt st pu kk,Fr (M1*N) (2^(c+p)) x:=λkk x hx=>by
  rcases sG pt.length kk with z | z
  ·have e:nextK mv pt st pu kk=nextK mv pt st pu pt.length:=(kf (by lia) (by lia)).trans (kf (ay _) (by lia)).symm;rw[e] at hx;exact part _ (ay _) x hx
  ·exact part kk z x hx
 refine ⟨⟨λxs hx=>⟨a1,c,ν,p,⟨M1,V,B.m1,B.b1,V1,B.gm xs hx⟩,⟨N,2^p,N0,hN,ay _,hs⟩,by lia⟩,λkk x hx=>szb (all kk x hx),λu hu'=>?_,λrow hr y hy=>?_,λu hu' row hr y hy=>szb ((one u hu' row hr y hy).mono (by rw[bK];exact aP _ V1))⟩,λx hx=>?_⟩
 ·exact w5 Np0 (ak NpMN MN) (ay _) (by lia) (hu u hu')
 ·exact w5 B.m2 B.b2 V1 (by lia) (B.gp row hr y hy)
 ·rw[<- kf (k:=pt.length) (ay _) (by lia)] at hx;exact all _ x hx
end
section
variable {mv pt lk pus:LR9} {st pu go:List Rat} {M1 M2 V a1 a2 c N Np p t T ν k:Nat}
theorem tx (h:M<=2^a) (hN:N<=2^ν):M^t*N<=2^(a*t+ν):=by
 rw[bK,Nat.pow_mul];exact aR (Nat.pow_le_pow_left h t) hN
theorem Bd.states (B:Bd mv pt M1 M2 V a1 a2 c) (D:dD mv pt lk) (ls:st.length=mv.length) (wp:∀xs∈pus,xs.length=pt.length) (N0:0 < N) (hN:N<=2^ν) (dv:M2*Np∣N) (hs:∀x∈st,Fr N (2^p) x) (hu:∀xs∈pus,∀x∈xs,Fr Np (2^p) x) (sz:a1*(pus.length+1)+ν+c*(pus.length+1)+p<=3900) (sp2:a2+c<=3900):∀k,k<=pus.length->(∀x∈oA mv pt st pus k,Fr (M1^k*N) (2^(c*k+p)) x)/\∀pu,pus[k]?=some pu->Ib mv pt (oA mv pt st pus k) pu:=by
 have key:∀k,k<=pus.length->(∀x∈oA mv pt st pus k,Fr (M1^k*N) (2^(c*k+p)) x)->∀pu,pus[k]?=some pu->Ib mv pt (oA mv pt st pus k) pu/\∀x∈cg mv pt (oA mv pt st pus k) pu,Fr (M1*(M1^k*N)) (2^(c+(c*k+p))) x:=λk hk f pu hpu=>by
  have mp:=aj hpu;have kl:=(aF.mp hpu).1;have e1:a1*(k+1)<=a1*(pus.length+1):=d4 _ (by lia);have e2:c*(k+1)<=c*(pus.length+1):=d4 _ (by lia);rw[pI,Nat.mul_one] at e1 e2;refine B.next D (ks ls hk) (wp pu mp) (dH (Nat.pow_pos B.m1) N0) ?_ f (λx hx=>(hu pu mp x hx).mono (aD (by decide) (Nat.le_add_left _ _))) (tx B.b1 hN) (by lia) sp2;exact yK dv (yK (cV _ _) (cV _ _))
 have fr:∀k,k<=pus.length->∀x∈oA mv pt st pus k,Fr (M1^k*N) (2^(c*k+p)) x:=by
  intro k
  induction k with
  | zero =>
   intro _ x hx;rw[Nat.pow_zero,v7,AF,Nat.zero_add];exact hs x hx
  | succ k ih =>
   intro hk x hx;have e:=ao (show k < pus.length by lia);rw[ka e] at hx;have:=(key k (by lia) (ih (by lia)) _ e).2 x hx;rw[<- cP,c7 M1,<- mS,show c+(c*k+p)=c*(k+1)+p by rw[pI];lia] at this;exact this
 exact λk hk=>⟨fr k hk,λpu hpu=>(key k hk (fr k hk) pu hpu).1⟩
theorem GK (gm:GF M1 V mv) (wm:∀xs∈mv,xs.length=mv.length) (vc:(mv.length+4)*V<=2^c) (ls:st.length=mv.length) (hs:∀x∈st,Fr N (2^p) x):∀t,∀x∈dX mv t st,Fr (M1^t*N) (2^(c*t+p)) x:=by
 intro t
 induction t with
 | zero =>
  intro x hx;rw[Nat.pow_zero,v7,AF,Nat.zero_add];exact hs x hx
 | succ t ih =>
  intro x hx;obtain ⟨row,hr,rfl⟩:=ba.mp (show x∈mv.map λxs=>cy xs (dX mv t st) from hx);have f:=Fr.dot (gm row hr) ih;rw[<- cP,c7 M1,<- mS] at f;refine f.mono ?_;rw[wm row hr,<- cP,show c*(t+1)+p=c+(c*t+p) by rw[pI];lia,bK 2 c];exact aP _ (ak (aP V (show mv.length<=mv.length+4 by lia)) vc)
end
section
variable {X:Cx}
end
inductive xJ (K:FG9) (vs:List V) (H:Hp) (Q:VK) (E9:XK):Prop
 | mk (b r:Addr) (T w:Nat) (H0:Hp) (mv pt lk:LR9):vs=[.ref b,.ref r,.int T,.int w]->T<=100->1<=w->w<=1000->eQ H b->H0 b≠none->cR K H0 H r mv pt lk->dD mv pt lk->(∀p pus H',H p=none->bO K H H' p pus->pus.length=T->(∀xs∈pus,xs.length=pt.length/\∀x∈xs,Dr (max w 6) x)->eQ H' b->cb b H H'->Q (.ref p) H')->xJ K vs H Q E9
theorem yh (ws vs:List V) (M1 M2 M3:Nat):∃μ:V->Nat,(∀x∈ws,μ x=M2)/\(∀x∈vs,x∉ws->μ x=M3)/\(∀x,x∉ws->x∉vs->μ x=M1)/\∀x,μ x=M1\/μ x=M2\/μ x=M3:=by
 classical
 refine ⟨λx=>if x∈ws then M2 else if x∈vs then M3 else M1,λx h=>if_pos h,λx h h'=>?_,λx h h'=>?_,λx=>?_⟩
 ·show (if x∈ws then M2 else if x∈vs then M3 else M1)=M3
  rw[if_neg h',if_pos h]
 ·show (if x∈ws then M2 else if x∈vs then M3 else M1)=M1
  rw[if_neg h,if_neg h']
 ·show (if x∈ws then M2 else if x∈vs then M3 else M1)=M1\/(if x∈ws then M2 else if x∈vs then M3 else M1)=M2\/(if x∈ws then M2 else if x∈vs then M3 else M1)=M3
  by_cases h:x∈ws
  ·rw[if_pos h];exact .inr (.inl rfl)
  ·rw[if_neg h];by_cases h':x∈vs
   ·rw[if_pos h'];exact .inr (.inr rfl)
   ·rw[if_neg h'];exact .inl rfl
theorem gv.apart {K:FG9} (h:gv K A H n C m p l b q0 us ws vs):(∀x∈us,x∉ws/\x∉vs)/\∀x∈vs,x∉ws:=by
 obtain ⟨n1,n2,n3⟩:=bo.mp h.nd;obtain ⟨n4,n5,n6⟩:=bo.mp n1;exact ⟨λx hx=>⟨λz=>n3 x (ar.mpr (.inl hx)) x z rfl,λz=>n6 x hx x z rfl⟩,λx hx z=>n3 x (ar.mpr (.inr hx)) x z rfl⟩
theorem gv.fr3 {K:FG9} (h:gv K A H n (λ_=>Dr (2^c)) m p l b q0 us ws vs):∃M1 M2 M3,0 < M1/\0 < M2/\0 < M3/\M1<=2^(c*(n*n))/\M2<=2^(c*(ws.length*n))/\M3<=2^(c*(vs.length*n))/\(∀x∈us,dk K A H n (Fr M1 (2^c)) x)/\(∀x∈ws,dk K A H n (Fr M2 (2^c)) x)/\∀x∈vs,dk K A H n (Fr M3 (2^c)) x:=by
 have one:∀l:List V,(∀x∈l,x∈us++vs++ws)->∃M,0 < M/\M<=2^(c*(l.length*n))/\∀x∈l,dk K A H n (Fr M (2^c)) x:=λl hl=>by
  obtain ⟨ra,pa,la,ha⟩:=tq λx hx=>h.row x (hl x hx)
  obtain ⟨M,m0,m1,m2⟩:=z7 (c:=c) (n:=n) (rows:=ra) ha;exact ⟨M,m0,by rw[la] at m1;exact m1,y8 pa λqs hq=>⟨(ha qs hq).1,m2 qs hq⟩⟩
 obtain ⟨M1,a1,a2,a3⟩:=one us λx hx=>by simp [hx]
 obtain ⟨M2,b1,b2,b3⟩:=one ws λx hx=>by simp [hx]
 obtain ⟨M3,c1,c2,c3⟩:=one vs λx hx=>by simp [hx]
 rw[h.lm] at a2;exact ⟨M1,M2,M3,a1,b1,c1,a2,b2,c2,a3,b3,c3⟩
def JI (n i o w c:Nat) (mv pt lk:LR9):Prop:=∃M1 M2 M3 V1:Nat,0 < M1/\0 < M2/\0 < M3/\GF M1 V1 mv/\GF M2 V1 pt/\GF M3 V1 lk/\((w<=9/\M1=2520/\M2=2520/\M3=2520/\V1=9^3*9)\/(9 < w/\M1<=2^(c*(n*n))/\M2<=2^(c*(i*n))/\M3<=2^(c*(o*n))/\V1=9^3*2^c))
inductive vm (K:FG9) (vs:List V) (H:Hp) (Q:VK) (E9:XK):Prop
 | mk (b:Addr) (n i o w c:Nat):vs=[.ref b,.int n,.int i,.int o,.int w]->eQ H b->n<=8->i<=4->o<=4->1<=w->w<=1000000->max w 6<=2^c->c<=20->c*((n+i+o)*n)<=800->(∀r mv pt lk H',cR K H H' r mv pt lk->mv.length=n->pt.length=i->lk.length=o->dD mv pt lk->JI n i o w c mv pt lk->eQ H' b->cb b H H'->Q (.ref r) H')->vm K vs H Q E9
def Rg (mv pt:LR9) (w:Nat):Prop:=(w<=9/\Bd mv pt 1 1 (9^3) 0 0 14)\/(w<=9/\mv.length<=5/\Bd mv pt 2520 2520 (9^3*9) 12 12 16)\/(w=1000/\mv.length<=2/\∃M1 M2,Bd mv pt M1 M2 (9^3*2^20) 80 160 33)
theorem zA {M V:Nat} (h:GF M V l) (k:Nat):GF (k*M) V l:=λxs hx x hx'=>(h xs hx x hx').scaleL k
theorem JI.n {n i o w c:Nat} (h:JI n i o w c mv pt lk):PtF n i o w c mv pt lk:=by
 obtain ⟨M1,M2,M3,V1,a1,a2,a3,f1,f2,f3,hc⟩:=h;rcases hc with ⟨w9,rfl,rfl,rfl,e⟩ | ⟨w9,e1,e2,e3,e⟩
 ·exact ⟨2520,V1,by decide,f1,f2,f3,.inl ⟨w9,rfl,e⟩⟩
 ·refine ⟨M1*M2*M3,V1,dH (dH a1 a2) a3,?_,?_,?_,.inr ⟨w9,?_,e⟩⟩
  ·have:=zA f1 (M2*M3);rwa [show M2*M3*M1=M1*M2*M3 by rw[c7 (M2*M3),cP]] at this
  ·have:=zA f2 (M1*M3);rwa [show M1*M3*M2=M1*M2*M3 by rw[cP,c7 M3,cP]] at this
  ·exact zA f3 (M1*M2)
  ·refine ak (aR (aR e1 e2) e3) ?_;rw[<- bK,<- bK,show c*((n+i+o)*n)=c*(n*n)+c*(i*n)+c*(o*n) by rw[pL,pL,pI,pI]];exact ay _
theorem oS:cy (x :: xs) (y :: ys)=x*y+cy xs ys:=by
 unfold cy;rw[bN,List.sum_cons]
theorem mP:cy [] ys=0:=rfl
theorem Ao:cy xs []=0:=by
 unfold cy;rw[List.zipWith_nil_right];rfl
theorem rY:∀{P p q:List Rat},p.length=q.length->cy P (List.zipWith (λu v=>u+v) p q)=cy P p+cy P q
 | [],_,_,_=>by rw[mP,mP,mP,jL]
 | a :: P,[],[],_=>by rw[List.zipWith_nil_right,Ao,jL]
 | a :: P,x :: p,y :: q,h=>by
  rw[bN,oS,oS,oS,rY (P:=P) (by simpa using h)];grind
theorem BE {α β:Type} {f g:α->β->Rat}:∀{A:List α} {B:List β},List.zipWith (λl c=>f l c+g l c) A B=List.zipWith (λu v=>u+v) (List.zipWith f A B) (List.zipWith g A B)
 | [],_=>by simp
 | _ :: _,[]=>by simp
 | a :: A,b :: B=>by rw[bN,bN,bN,bN,BE (A:=A) (B:=B)]
section
variable {mv pt lk ps qs:LR9} {a b p q:List Rat} {c:Rat} {k:Nat}
theorem vC (h1:a.length=b.length) (h2:p.length=q.length):cg mv pt (List.zipWith (λu v=>u+v) a b) (List.zipWith (λu v=>u+v) p q)=List.zipWith (λu v=>u+v) (cg mv pt a p) (cg mv pt b q):=by
 unfold cg;rw[<- BE];congr 1;funext line col;rw[<- xA h1,rY (by rw[aG,aG,h1,h2])]
end
open PySem.MeetsSeq
section
variable {α β γ:Type} [DecidableEq α] [DecidableEq β] [DecidableEq γ] (k1:Kind α) (k2:Kind β) (k3:Kind γ)
theorem vals3 (r:bV [x,y,z] us):∃u v w,us=[u,v,w]/\RelV x u/\RelV y v/\RelV z w:=by
 cases r with
 | cons a r=>cases r with
  | cons b r=>cases r with
   | cons c r=>cases r;exact ⟨_,_,_,rfl,a,b,c⟩
def e3 (a b:α×β×γ) (j:Nat):Bool:=if j=0 then decide (a.1=b.1) else if j=1 then decide (a.2.1=b.2.1) else decide (a.2.2=b.2.2)
theorem lN {X:Cx} {pins:List (Addr×Obj)} {σ:St} {H:Hp} {s:Shared} {A:Around} (I:Inv X pins σ H s) (h1:A.units+k1.d < cLine) (h2:A.units+k2.d < cLine) (h3:A.units+k3.d < cLine) {x y z x' y' z':V} {us ws:List Value} {a b:α×β×γ}
  (rx:bV [x,y,z] us) (ry:bV [x',y',z'] ws) (a1:k1.R X.K H x a.1) (a2:k2.R X.K H y a.2.1) (a3:k3.R X.K H z a.2.2) (b1:k1.R X.K H x' b.1) (b2:k2.R X.K H y' b.2.1) (b3:k3.R X.K H z' b.2.2) :
  ∀j (h1:j < us.toArray.size) (h2:j < ws.toArray.size),SeqAt.EqAt A s us.toArray[j] ws.toArray[j] (e3 a b j):=λj l1 l2=>by
 obtain ⟨u1,u2,u3,rfl,r1,r2,r3⟩:=vals3 rx;obtain ⟨w1,w2,w3,rfl,q1,q2,q3⟩:=vals3 ry;have hj:j < 3:=by simpa using l1
 rcases (show j=0\/j=1\/j=2 by lia) with rfl | rfl | rfl
 ·exact k1.eq (A:=A) I r1 q1 a1 b1 h1
 ·exact k2.eq (A:=A) I r2 q2 a2 b2 h2
 ·exact k3.eq (A:=A) I r3 q3 a3 b3 h3
theorem pP {a b:α×β×γ}:(List.range 3).all (e3 a b)=decide (a=b):=by
 have e:List.range 3=[0,1,2]:=rfl;rw[e];simp only[yL,List.all_nil,Bool.and_true];show (decide (a.1=b.1) && (decide (a.2.1=b.2.1) && decide (a.2.2=b.2.2)))=_
 rw[<- DX,<- DX];exact decide_eq_decide.mpr ⟨λ⟨h1,h2,h3⟩=>Prod.ext h1 (Prod.ext h2 h3),λh=>by rw[h];exact ⟨rfl,rfl,rfl⟩⟩
def IZ:Kind (α×β×γ) where
 R:=λK H x a=>∃p u v w,x=.ref p/\iP K H p [u,v,w]/\k1.R K H u a.1/\k2.R K H v a.2.1/\k3.R K H w a.2.2
 d:=max k1.d (max k2.d k3.d)+1
 inj:=λ{X pins σ H s x a b} I h1 h2=>by
  obtain ⟨p,u,v,w,rfl,hp,a1,a2,a3⟩:=h1;obtain ⟨q,u',v',w',e,hq,b1,b2,b3⟩:=h2;cases e;have e:=I.tuple_inj hp hq;cases e;exact Prod.ext (k1.inj I a1 b1) (Prod.ext (k2.inj I a2 b2) (k3.inj I a3 b3))
 rc:=λ{X pins σ H s x y v u a b A} I rx ry h1 h2 hA=>by
  obtain ⟨p,x1,x2,x3,rfl,hp,a1,a2,a3⟩:=h1;obtain ⟨q,y1,y2,y3,rfl,hq,b1,b2,b3⟩:=h2;cases rx;cases ry;obtain ⟨us,r1,t1,_⟩:=I.tuple hp;obtain ⟨ws,r2,t2,_⟩:=I.tuple hq;have l1:=r1.length;have l2:=r2.length;have z:=SeqAt.RcAt.tuples (A:=A) (e:=e3 a b) (show s.heap.IsTuple p us.toArray from t1) (show s.heap.IsTuple q ws.toArray from t2) (by lia) (lN k1 k2 k3 (A:=A.in1) I (by show A.units+1+k1.d < cLine;lia) (by show A.units+1+k2.d < cLine;lia) (by show A.units+1+k3.d < cLine;lia) r1 r2 a1 a2 a3 b1 b2 b3);have e1:us.toArray.size=3:=by rw[aE,<- l1];rfl
  have e2:ws.toArray.size=3:=by rw[aE,<- l2];rfl
  rw[e1,e2,jM,pP] at z;simpa using z
 ne:=λ{X pins σ H s x y v u a b A} I rx ry h1 h2 hA=>by
  obtain ⟨p,x1,x2,x3,rfl,hp,a1,a2,a3⟩:=h1;obtain ⟨q,y1,y2,y3,rfl,hq,b1,b2,b3⟩:=h2;cases rx;cases ry;obtain ⟨us,r1,t1,_⟩:=I.tuple hp;obtain ⟨ws,r2,t2,_⟩:=I.tuple hq;have l1:=r1.length;have l2:=r2.length;have z:=SeqAt.RcNeAt.tuples (A:=A) (e:=e3 a b) (show s.heap.IsTuple p us.toArray from t1) (show s.heap.IsTuple q ws.toArray from t2) (by lia) (lN k1 k2 k3 (A:=A.in1) I (by show A.units+1+k1.d < cLine;lia) (by show A.units+1+k2.d < cLine;lia) (by show A.units+1+k3.d < cLine;lia) r1 r2 a1 a2 a3 b1 b2 b3);have e1:us.toArray.size=3:=by rw[aE,<- l1];rfl
  have e2:ws.toArray.size=3:=by rw[aE,<- l2];rfl
  rw[e1,e2,jM,pP] at z;simpa using z
 eq:=λ{X pins σ H s x y v u a b A} I rx ry h1 h2 hA=>by
  obtain ⟨p,x1,x2,x3,rfl,hp,a1,a2,a3⟩:=h1;obtain ⟨q,y1,y2,y3,rfl,hq,b1,b2,b3⟩:=h2;cases rx;cases ry;by_cases e:p=q
  ·subst e;have e:=I.tuple_inj hp hq;cases e;have e2:a=b:=Prod.ext (k1.inj I a1 b1) (Prod.ext (k2.inj I a2 b2) (k3.inj I a3 b3));rw[decide_eq_true e2];exact SeqAt.EqAt.same _
  ·obtain ⟨us,r1,t1,_⟩:=I.tuple hp;obtain ⟨ws,r2,t2,_⟩:=I.tuple hq;have l1:=r1.length;have l2:=r2.length;have z:=SeqAt.RcAt.tuples (A:=A) (e:=e3 a b) (show s.heap.IsTuple p us.toArray from t1) (show s.heap.IsTuple q ws.toArray from t2) (by lia) (lN k1 k2 k3 (A:=A.in1) I (by show A.units+1+k1.d < cLine;lia) (by show A.units+1+k2.d < cLine;lia) (by show A.units+1+k3.d < cLine;lia) r1 r2 a1 a2 a3 b1 b2 b3);have e1:us.toArray.size=3:=by rw[aE,<- l1];rfl
   have e2:ws.toArray.size=3:=by rw[aE,<- l2];rfl
   rw[e1,e2,jM,pP] at z;exact .of_refs e (by simpa using z)
end
section
variable {K:FG9} {H:Hp} {a:Addr} {xs:List V} {g:TG} {tf:TT} {te:TE} {Q:VK} {σ₀:St} {α:Type}
theorem zI {F:Hp->α->V->Prop} (f:α->List Rat) (hx:H a=some (.lst xs)) (pf:Paired (F H) as xs) (hl:as.length<=1000)
  (hF:∀{H H' c x},F H c x->aH H H'->F H' c x)
  (hs:∀(i:Nat) c x H' NY NN,as[i]?=some c->aH H H'->F H' c x->(∀q H2,aH H' H2->H' q=none->cB K H2 q (f c)->NY (.ref q) H2)->lC σ₀ g tf te x H' NY NN)
  (hd:∀ys H' p,H p=none->aH H H'->H' p=some (.lst ys)->ys.Nodup->Paired (dG K H H') (as.map f) ys->V.ref p∉ys->Q (.ref p) H'):lI (DQ K a) σ₀ g tf te Q H:=by
 have lx:=pf.length;refine gD (K:=K) (xs:=xs) (λi ys H'=>aH H H'/\Paired (dG K H H') ((as.take i).map f) ys/\ys.Nodup/\∀y∈ys,∃q,y=V.ref q/\H' q≠none) (aU (bp (by lia))) ⟨aH.refl _,.nil,gX,(λ_ h=>nomatch h)⟩ (λi ys H' _ ⟨s,_⟩=>bB.of (s _ _ hx)) ?_ ?_
 ·rintro i x ys H' hx' hlen ⟨s,pr,nd,ne⟩;obtain ⟨c,ec,fc⟩:=cO pf hx';refine hs i c x H' _ _ ec s (hF fc s) λq H2 s2 nq R=>⟨s.trans s2,?_,?_,λy hy=>?_⟩
  ·rw[take_snoc ec,cF];exact b6 (Paired.imp' (λ_ _ z=>dG.same z s2) pr) (.cons ⟨q,rfl,s.none nq,R⟩ .nil)
  ·refine bo.mpr ⟨nd,by simp,λa ha b hb z=>?_⟩;rw[aQ.mp hb] at z;obtain ⟨q',e,h⟩:=ne a ha;rw[z] at e;cases e;exact h nq
  ·rcases ar.mp hy with hy | hy
   ·obtain ⟨q',e,h⟩:=ne y hy;exact ⟨q',e,λz=>h (s2.none z)⟩
   ·obtain ⟨_,gg,_⟩:=R;exact ⟨q,aQ.mp hy,by rw[gg];exact λz=>nomatch z⟩
 ·rintro ys H' hy ⟨s,pr,nd,ne⟩ p hp;rw[aw (by lia)] at pr;refine hd ys _ p (s.none hp) (s.trans (aH.new hp)) aJ nd (Paired.imp' (λ_ _ z=>dG.same z (aH.new hp)) pr) λz=>?_
  obtain ⟨q,e,h⟩:=ne _ z;cases e;exact h hp
end
section
variable {mv pt lk F R:LR9} {n m:Nat} {ps:List Nat} {x:Nat->Rat} {st pu:List Rat}
end
inductive fL {α:Type}:Sem α->Prop
 | pure (a:α):fL (.pure a)
 | raise (e:Value):fL (.raise e)
 | uns (w:String):fL (.unsupported w)
 | rule {t:String} {k:Unit->Sem α} (h:∀u,fL (k u)):fL (.rule t k)
 | load {a:Addr} {p:Option Value} {k:Obj->Sem α} (h:∀o,fL (k o)):fL (.load a p k)
 | update {a:Addr} {p:Option Value} {f:Obj->Obj} {k:Unit->Sem α} (hf:∀o,(f o).dict=o.dict) (h:∀u,fL (k u)):fL (.update a p f k)
 | alloc {o:Obj} {k:Addr->Sem α} (h:∀a,fL (k a)):fL (.alloc o k)
 | alive {a:Addr} {k:Option Obj->Sem α} (h:∀o,fL (k o)):fL (.loadIfAlive a k)
 | stack {k:List (Code×Pos)->Sem α} (h:∀l,fL (k l)):fL (.stack k)
 | reg {a:Addr} {k:Unit->Sem α}:fL (.register a k)
 | ask {k:Setting->Sem α} (h:∀x,fL (k x)):fL (.ask k)
theorem fL.bind {m:Sem α} {f:α->Sem β} (hm:fL m) (hf:∀a,fL (f a)):fL (m >>= f):=by
 show fL (Sem.bind m f)
 induction hm with
 | pure a=>exact hf a
 | raise e=>exact .raise e
 | uns w=>exact .uns w
 | rule _ ih=>exact .rule λu=>ih u
 | load _ ih=>exact .load λu=>ih u
 | update hg _ ih=>exact .update hg λu=>ih u
 | alloc _ ih=>exact .alloc λu=>ih u
 | alive _ ih=>exact .alive λu=>ih u
 | stack _ ih=>exact .stack λu=>ih u
 | reg=>exact .reg
 | ask _ ih=>exact .ask λu=>ih u
def fQ (e:Addr) (d:Option Addr) (h:Heap):Prop:=e < h.objs.size/\∀o,h.objs[e]?=some o->o.dict=d
theorem fQ.get (x:fQ e d h) (q:h.get? e=some o):o.dict=d:=by
 unfold Heap.get? at q
 split at q
 ·cases q
 ·exact x.2 o q
theorem fQ.of (q:h.get? e=some o):fQ e o.dict h:=by
 refine ⟨Heap.lt_size q,λo' q'=>?_⟩;unfold Heap.get? at q
 split at q
 ·cases q
 ·rw[q'] at q;cases q;rfl
theorem fQ.update (x:fQ e d h) (hf:∀o,(f o).dict=o.dict):fQ e d (h.update a f):=by
 obtain ⟨objs,l⟩:=h;refine ⟨by show e < (objs.modify a f).size;rw[Array.size_modify];exact x.1,λo q=>?_⟩;have q:(objs.modify a f)[e]?=some o:=q;rw[Array.getElem?_modify] at q
 split at q
 ·obtain ⟨o',q',rfl⟩:=Option.map_eq_some_iff.mp q;rw[hf];exact x.2 o' q'
 ·exact x.2 o q
theorem fQ.push (x:fQ e d h):fQ e d (h.push o):=by
 obtain ⟨objs,l⟩:=h;refine ⟨by show e < (objs.push o).size;rw[Array.size_push];exact pJ x.1,λo' q=>?_⟩;have q:(objs.push o)[e]?=some o':=q;rw[Array.getElem?_push,if_neg (bw x.1)] at q;exact x.2 o' q
section
variable {M:Model} {e:Addr} {d:Option Addr}
theorem D0 {t:Sem α} (ht:fL t) {Q:α->Pos->Shared->Prop}:∀{p:Pos} {s:Shared},Sem.wp M Γ t Q E p s->fQ e d s.heap →
  Sem.wp M Γ t (λa p s'=>Q a p s'/\fQ e d s'.heap) (λv p s'=>E v p s'/\fQ e d s'.heap) p s:=by
 induction ht with
 | pure a=>exact λh x=>⟨h,x⟩
 | raise v=>exact λh x=>⟨h,x⟩
 | uns w=>exact λh _=>h
 | reg=>exact λh _=>h
 | rule _ ih=>exact λh x=>ih () h x
 | load _ ih=>exact λ⟨o,ho,h⟩ x=>⟨o,ho,ih o h x⟩
 | update hf _ ih=>exact λ⟨ha,h⟩ x=>⟨ha,ih () h (x.update hf)⟩
 | alloc _ ih=>exact λh x=>ih _ h x.push
 | alive _ ih=>exact λh x=>ih _ h x
 | stack _ ih=>exact λh x=>ih _ h x
 | ask _ ih=>exact λh x=>ih _ h x
theorem kr {t:Sem α} (ht:fL t) {Q:α->Shared->Prop} (h:wpAny M A t Q E s) (x:fQ e d s.heap) :
  wpAny M A t (λa s'=>Q a s'/\fQ e d s'.heap) (λv s'=>E v s'/\fQ e d s'.heap) s:=λΓ p hΓ=>D0 ht (h Γ p hΓ) x
end
theorem Dz (a:Addr) (p:Option Value):fL (Sem.load a p Sem.pure):=.load λo=>.pure o
theorem yt (v:Value):fL (fieldsOf v):=by
 unfold fieldsOf;cases v <;> try exact .uns _
 refine fL.bind (Dz _ _) λo=>?_
 cases o.data <;> first | exact .pure _ | exact .uns _
theorem oU (v:Value) (i:Nat):fL (field v i):=by
 unfold field;refine fL.bind (yt v) λvs=>?_
 split
 ·exact .pure _
 ·exact .uns _
theorem tX (f:Array Value->Array Value) (o:Obj):(o.mapFields f).dict=o.dict:=by
 obtain ⟨c,d,dt,sl⟩:=o;cases dt <;> rfl
theorem mj (v:Value) (i:Nat) (x:Value):fL (setField v i x):=by
 unfold setField;cases v <;> try exact .uns _
 show fL (updateField _ i x)
 unfold updateField;refine fL.bind (Dz _ _) λo=>?_
 cases o.data <;> try exact .uns _
 dsimp only
 split
 ·exact .update (λo=>tX _ o) λu=>.pure u
 ·exact .uns _
theorem k6 (e:Value) (f:Option Addr):fL (setFlight e f):=by
 unfold setFlight;refine fL.bind (oU e 1) λtb=>?_
 split
 ·exact mj _ _ _
 ·exact .pure _
theorem Bp (env:Env) (l:List Env):fL (behindIsImport env l):=by
 unfold behindIsImport
 split
 ·exact .pure _
 ·split
  ·exact .pure _
  ·exact fL.bind (oU _ _) λ_=>.pure _
theorem E1 (env:Env) (b:Bool):∀l:List Env,fL (keptBack env b l)
 | []=>by
  simp only[keptBack]
  split
  ·exact .pure _
  ·refine fL.bind ?_ λ_=>.pure _
   unfold underTheClaimsCaller;exact fL.bind (.stack λl=>.pure l) λ_=>.pure _
 | _ :: _=>.pure _
theorem yp:∀l:List Env,fL (readyFrames l)
 | []=>.pure _
 | env :: outer=>by
  unfold readyFrames
  split
  ·refine fL.bind (Dz _ _) λo=>?_
   split
   ·exact .pure _
   ·refine fL.bind (Bp _ _) λb=>fL.bind (E1 _ _ _) λv=>fL.bind (.update (λ_=>rfl) λu=>.pure u) λ_=>yp outer
  ·exact .uns _
theorem zH (env:Env):fL (PySem.frameOf env):=by
 unfold PySem.frameOf;refine fL.bind (fL.bind (.stack λl=>.pure l) λ_=>.pure _) λl=>fL.bind ?_ λo=>?_
 ·unfold frameObject
  split
  ·exact .pure _
  ·exact fL.bind (yp _) λ_=>.pure _
 ·cases o
  ·exact .uns _
  ·exact .pure _
theorem Dy (f:Addr) (b:Bool):fL (entryPlaceOf f b):=by
 unfold entryPlaceOf;refine fL.bind (.stack λl=>.pure l) λl=>?_
 split <;> exact .pure _
theorem DA (a b c d e:Value) (l:List Value):fL (EntryCells.newEntry a b c d e l):=by
 unfold EntryCells.newEntry newFields;generalize ([a,b,c,d,e]++if l.isEmpty then List.replicate 6 Value.none else l).toArray=vs;have fin:fL (newObjAsIs (.type "traceback") (.fields vs)):=fL.bind (.alloc λa=>.pure a) λ_=>.pure _
 unfold newObj
 dsimp only
 split
 ·exact fL.bind (.uns _) λ_=>fin
 ·exact fin
theorem Ap (e:Value) (env:Env):fL (noteFrame e env):=by
 unfold noteFrame
 split
 ·refine fL.bind (oU e 1) λh=>?_
  have last:∀f:Addr,fL (do setField e 1 (<- EntryCells.newEntry h (<- PySem.frameOf env) .none (rawInt f) .none (<- entryPlaceOf f (h != .none)))):=λf =>
   fL.bind (zH env) λ_=>fL.bind (Dy _ _) λ_=>fL.bind (DA _ _ _ _ _ _) λ_=>mj _ _ _
  split
  ·refine fL.bind (oU _ _) λv=>?_
   split
   ·exact .pure _
   ·exact fL.bind (mj _ _ _) λ_=>last _
  ·exact last _
 ·exact .uns _
theorem zG (env:Env) (e:Value):fL (leaving env e):=fL.bind (Ap e env) λ_=>k6 e none
theorem eK.there (x:eK P w H h a o):∃u,h.get? a=some u:=by
 cases o with
 | lst xs=>obtain ⟨_,_,_,_,e⟩:=x;exact ⟨_,e⟩
 | tup xs=>obtain ⟨_,_,_,o,e,_⟩:=x;exact ⟨_,e⟩
 | dK kvs=>obtain ⟨_,_,_,_,o,_,_,e,_⟩:=x;exact ⟨_,e⟩
 | dT kvs=>obtain ⟨_,_,_,_,o,_,_,e,_⟩:=x;exact ⟨_,e⟩
 | set S n=>obtain ⟨o,_,_,_,e,_⟩:=x;exact ⟨_,e⟩
 | ins C dx fs=>obtain ⟨_,_,_,e,_⟩:=x;exact ⟨_,e⟩
 | own y=>exact x
 | xd fs=>obtain ⟨_,⟨_,_,_,e,_⟩,_⟩:=x;exact ⟨_,e⟩
 | rng lo hi=>obtain ⟨_,_,_,e⟩:=x;exact ⟨_,e⟩
 | frz ob u=>obtain ⟨e,_⟩:=x;exact ⟨_,e⟩
 | tbl ps=>exact ⟨_,(show h.get? a=some _ from x)⟩
 | met f y=>exact ⟨_,(show h.get? a=some _ from x)⟩
 | ext φ=>exact x.2.1
section
variable {P:Program} {w:World} {fs:List Addr} {H H1 H2:Hp} {h0 h1 h2 B:Heap}
theorem Dq (U:Un fs [] H H1 h0 h1) (ok:qv P w H1 h1) (hB1:B.StaysIn h1) (hB2:B.StaysIn h2) (up:h1.UpToSlots h2)
  (c1:∀b u,H1 b=some u->∃o,B.get? b=some o) (c2:∀b o,h0.get? b=some o->b∉fs->∃o',B.get? b=some o')
  (hf:∀b∈fs,H b=none) (hd:∀b∈fs,∀o,h0.get? b=some o->∀vs,o.data≠.fields vs):Un fs [] H H1 h0 h2/\qv P w H1 h2:=by
 have same:∀b o,h1.get? b=some o->(∃o',B.get? b=some o')->h2.get? b=some o:=λb o e ⟨o',eb⟩=>by
  have z:=hB1 _ _ eb;rw[e] at z;cases z;exact hB2 _ _ eb
 have slot:∀b o,h0.get? b=some o->b∈fs->∃sl,h2.get? b=some { o with slots:=sl }:=λb o e hb=>by
  obtain ⟨sl,e1⟩:=U.slot b o e (hf b hb) hb (by simp);obtain ⟨sl2,e2⟩:=up b _ e1 (hd b hb o e);exact ⟨sl2,e2⟩
 refine ⟨⟨λb o e n hb hx=>same b o (U.keep b o e n hb hx) (c2 b o e hb),λb o e n hb _=>slot b o e hb,U.free,λb o e hx=>?_,U.tups,U.frzs,U.tbls⟩,λa o e=>?_⟩
 ·by_cases hb:b∈fs
  ·obtain ⟨sl,q⟩:=slot b o e hb;exact ⟨_,q⟩
  ·obtain ⟨o',q⟩:=c2 b o e hb;exact ⟨o',hB2 _ _ q⟩
 ·refine (ok a o e).stay (λb u hb q=>same b u q ?_) (λ_ q=>q) λ_ _ q=>q
  rcases hb with z | z
  ·rw[z];exact c1 a o e
  ·exact c1 b _ z
end
structure JA (P:Program) (w:World) (outer:List Env) (H:Hp) (s:Shared) (H':Hp) (ea t:Addr) (cls:Value) (B:Heap) (s':Shared):Prop where
 os:s'.os=s.os
 bare:AllBare s'.gens
 un:Un (rW outer) [] H H' s.heap s'.heap
 hok:qv P w H' s'.heap
 fly:Heap.FlyingW B outer ea cls (.ref t) s'.heap
 c1:∀b u,H' b=some u->∃o,B.get? b=some o
 c2:∀b o,s.heap.get? b=some o->b∉rW outer->∃o',B.get? b=some o'
structure Fly (P:Program) (w:World) (outer:List Env) (H:Hp) (s:Shared) (H':Hp) (ea t:Addr) (cls:Value) (dx:Option Addr) (B:Heap) (s':Shared):Prop extends JA P w outer H s H' ea t cls B s' where
 dct:fQ ea dx s'.heap
def FQ (P:Program) (w:World):Bu:=λouter H s E e s'=>∃ea t cls dx H' B,e=.ref ea/\Fly P w outer H s H' ea t cls dx B s'/\E cls dx H'
section
variable {P:Program} {w:World} {K:FG9} {mg:Str->Option Value} {base:Heap} {N:List Str} {qual:Str} {scope:Scope} {f:Addr} {cd:Value} {A:Around} {outer:List Env} {s:Shared} {H:Hp} {E:XK}
theorem Dm (hf:env.frame=some L):rW (env :: outer)=L :: rW outer:=by unfold rW;rw[mI,hf]
theorem BJ {σ:St} (I:Inv (uV (FQ P w) P w K mg base N qual scope f cd A outer s H E) pins σ H1 s1)
  (hx:Heap.MadeExcOf s1.heap h' e cls vs) (hE:E cls none H1):(uV (FQ P w) P w K mg base N qual scope f cd A outer s H E).xe (.ref e) { s1 with heap:=h' }:=by
 have hfr:(A.deeper (envOfC qual scope s.heap.objs.size f cd)).frames=some (envOfC qual scope s.heap.objs.size f cd :: outer):=I.ok.frames;have hstk:s1.heap.FunFrames base (envOfC qual scope s.heap.objs.size f cd :: outer):=I.stack;have nL:∀b o,s.heap.get? b=some o->b≠s.heap.objs.size:=λb o q=>bw (Heap.lt_size q)
 have hD:fQ e none h':=by
  obtain ⟨t,q,_⟩:=hx.there;exact fQ.of q
 refine wpAny_mono (kr (e:=e) (d:=none) (zG _ _) (wpAny_leaves_madeW (E:=λ_ _=>False) (Q:=λ_ s2=>∃t,JA P w outer H s H1 e t cls (PySem.W.hideAll s1.heap (rW (envOfC qual scope s.heap.objs.size f cd :: outer))) s2)
  (base:=PySem.W.hideAll s1.heap (rW (envOfC qual scope s.heap.objs.size f cd :: outer))) (h:=s1.heap) (L:=s.heap.objs.size) hfr rfl (λb o q=>yN _ q)
  (PySem.W.funFrames_hide hstk λenv he b hb=>yO.mpr ⟨env,he,hb⟩) hx λh2 t x1 x2 x3 x4=>?_) hD) (λ_ s2 ⟨⟨t,F⟩,dc⟩=>⟨e,t,cls,none,H1,_,rfl,⟨F,dc⟩,hE⟩) (λ_ _ z=>z.1.elim)
 have c1:∀b u,H1 b=some u->∃o,(PySem.W.hideAll s1.heap (rW (envOfC qual scope s.heap.objs.size f cd :: outer))).get? b=some o:=λb u q=>by
  obtain ⟨o,e⟩:=(I.hok b u q).there
  exact ⟨o,xy _ e λz=>by
   have:=I.stkFree b z;rw[q] at this;cases this⟩
 have c2:∀b o,s.heap.get? b=some o->b∉rW outer->∃o',(PySem.W.hideAll s1.heap (rW (envOfC qual scope s.heap.objs.size f cd :: outer))).get? b=some o':=λb o q hb=>by
  obtain ⟨o',e⟩:=I.base.there b o q (aB);refine ⟨o',xy _ e λz=>?_⟩;rw[Dm (L:=s.heap.objs.size) rfl] at z;rcases az.mp z with z | z
  ·exact nL b o q z
  ·exact hb z
 have hU:Un (rW outer) [] H H1 s.heap s1.heap:=I.base
 obtain ⟨U2,ok2⟩:=Dq hU I.hok (λb o q=>yN _ q) x1.1 ((Heap.UpToSlots.of_keeps hx.keeps).trans x4) c1 c2 I.ok.frf (λb hb o q=>by
  obtain ⟨_,o',e',d⟩:=I.ok.funs.mem hb;have e':s.heap.get? b=some o':=e';rw[q] at e';cases e';exact d)
 exact ⟨t,I.os,I.bare,U2,ok2,x1,c1,c2⟩
end
def Throws (X:Cx) (E:XK):Prop:=∀(pins:List (Addr×Obj)) (σ:St) (H:Hp) (s:Shared) (h':Heap) (e:Addr) (cls:Value) (vs:List Value),Inv X pins σ H s->Heap.MadeExcOf s.heap h' e cls vs->E cls none H->X.xe (.ref e) { s with heap:=h' }
theorem yS {K:FG9} :
  Throws (uV (FQ P w) P w K mg base N qual scope f cd A outer s H E) E:=λ_ _ _ _ _ _ _ _ I hx hE=>BJ I hx hE
def F2 (C:Addr) (E:XK):TS:=λ_ _ H=>E (.ref C) none H
abbrev BK:List Value:=[.type "ValueError",.type "Exception",.type "BaseException",.type "object"]
theorem EU {K:FG9} (X':K.In h) (hk:PySem.W.excIn K C BK "ValueError.__new__"=true) :
  ∃bm N nm q bs hdct sn sub ab col dd k0 k1 k2 k3 k5 mN,h.get? C=some (excClassObj nm q C N bs bm hdct sn sub ab col dd k0 k1 k2 k3 k5 "ValueError.__new__")/\h.Ns N mN/\mN "__init__"=none/\OwnTail h BK bm:=by
 unfold PySem.W.excIn at hk
 split at hk
 ·rename_i dd cd sl ho
  split at hk
  ·rename_i C' bm k0 k1 k2 k3 n k5 hm hs
   simp only[cH,beq_iff_eq,Bool.not_eq_true'] at hk;obtain ⟨⟨⟨⟨⟨rfl,rfl⟩,hdel⟩,ht⟩,hok⟩,hni⟩:=hk;obtain ⟨nm,bs,mro,ns,qn,hd',sn,sub,ab,col,del⟩:=cd
   dsimp only at hm hdel hok hni
   subst hm hdel
   have hsl:sl=#[k0,k1,k2,k3,some (.builtin "ValueError.__new__"),k5]:=by
    obtain ⟨l⟩:=sl;simp only at hs;rw[hs]
   subst hsl;exact ⟨bm,ns,nm,qn,bs,hd',sn,sub,ab,col,dd,k0,k1,k2,k3,k5,_,X' _ _ ho,.of_isNs (PySem.W.isNs_of_in X' hok),PySem.W.nsMap_none_of_in X' hok hni,PySem.W.tail_of_in X' ht⟩
  ·cases hk
 ·cases hk
theorem AV {X:Cx} {E:XK} {x:Str} {C:Addr} {np cpos pos:Pos} (hx:Throws X E) (hc:X.calm=true) (hg:Gl X x) (hm:X.mg x=some (.ref C)) (hk:PySem.W.excIn X.K C BK "ValueError.__new__"=true)
  (hd:(x == ("__debug__":Str))=false:=by decide):PS X (.Raise (some (.Call (.Name x np) [] [] cpos)) none pos) (F2 C E):=by
 intro pins s σ H D I h;have O:=EU I.kIn hk;obtain ⟨tl,N,nm,q,bs,hdct,sn,sub,ab,col,dd,k0,k1,k2,k3,k5,mN,hC,hN,hni,T⟩:=O
 refine wpAny_Raise_call_subT (C:=C) (nm:=nm) (q:=q) (N:=N) (bs:=bs) (bm:=tl) (hdct:=hdct) (sn:=sn) (sub:=sub) (ab:=ab) (col:=col) (dd:=dd) (k0:=k0) (k1:=k1) (k2:=k2) (k3:=k3) (k5:=k5)
  FT (mN:=mN) (T.hasType FT.hasBase) (I.ok.hd hc) rfl hni (mO I hg hm ⟨rfl,?_⟩ hd)
 exact evalArgs_empty ⟨rfl,bJ _,hC,hN,T,λh' e hm=>hx pins σ H s h' e _ _ I hm h⟩
abbrev Cx.tr (X:Cx) (pn:List (Addr×Obj)) (xe:Value->Shared->Prop):Cx:={ X with pn:=pn,xe:=xe }
abbrev Cx.sm (X:Cx) (ea:Addr):Cx:={ X with A:=X.A.mark (some (.ref ea)),calm:=false,xe:=λ_ _=>False }
section
variable {X:Cx} {pins:List (Addr×Obj)} {σ:St} {H H':Hp} {s:Shared}
theorem Inv.tr (I:Inv X pins σ H s) (xe:Value->Shared->Prop):Inv (X.tr (X.pn++pins) xe) [] σ H s :=
 ⟨⟨I.ok.mod,I.ok.kind,I.ok.glob,I.ok.blt,I.ok.above,I.ok.inj,I.ok.has,I.ok.cab,I.ok.hd,I.ok.frames,I.ok.stk,I.ok.exf,I.ok.bs,I.ok.bsz,I.ok.noex,I.ok.exfs,I.ok.funs,I.ok.frf⟩,
  I.os,I.bare,I.base,I.loc,I.cell,I.free,I.freeC,λp hp=>I.pin p (by simpa using hp),I.hok,I.len⟩
theorem Inv.untr (I:Inv (X.tr (X.pn++pins) xe) ps σ H s):Inv X pins σ H s :=
 ⟨⟨I.ok.mod,I.ok.kind,I.ok.glob,I.ok.blt,I.ok.above,I.ok.inj,I.ok.has,I.ok.cab,I.ok.hd,I.ok.frames,I.ok.stk,I.ok.exf,I.ok.bs,I.ok.bsz,I.ok.noex,I.ok.exfs,I.ok.funs,I.ok.frf⟩,
  I.os,I.bare,I.base,I.loc,I.cell,I.free,I.freeC,λp hp=>I.pin p (lJ _ hp),I.hok,I.len⟩
theorem Inv.sm (I:Inv X pins σ H s) (ea:Addr):Inv (X.sm ea) pins σ H s :=
 ⟨⟨I.ok.mod,I.ok.kind,I.ok.glob,I.ok.blt,I.ok.above,I.ok.inj,I.ok.has,I.ok.cab,λz=>Bool.noConfusion z,I.ok.frames,I.ok.stk,I.ok.exf,I.ok.bs,I.ok.bsz,I.ok.noex,I.ok.exfs,I.ok.funs,I.ok.frf⟩,
  I.os,I.bare,I.base,I.loc,I.cell,I.free,I.freeC,I.pin,I.hok,I.len⟩
theorem Inv.forget (ok:X.Ok) (I:Inv (X.sm ea) pins σ H s) (hn:h'.Ns X.env.locals m') (hs:Heap.SameBut X.env.locals s.heap h') :
  Inv X pins (List.replicate X.N.length none) H { s with heap:=h',toks:=t' }:=by
 have neL:∀b o,X.s₀.heap.get? b=some o->b≠X.env.locals:=λb o e=>bw (aW (Heap.lt_size e) ok.above)
 refine ⟨ok,I.os,I.bare,⟨λb o e n hb hx=>(hs.2 b (neL b o e)).trans (I.base.keep b o e n hb hx),λb o e n hb hx=>?_,I.base.free,λb o e hx=>?_,I.base.tups,I.base.frzs,I.base.tbls⟩,⟨m',hn,λi x v e1 e2 e3=>?_⟩,λx c e=>?_,I.free,I.freeC,λp hp=>?_,λb u e=>?_,aT⟩
 ·obtain ⟨sl,e1⟩:=I.base.slot b o e n hb hx;exact ⟨sl,(hs.2 b (neL b o e)).trans e1⟩
 ·obtain ⟨o',e1⟩:=I.base.there b o e hx;exact ⟨o',(hs.2 b (neL b o e)).trans e1⟩
 ·rw[jv] at e2
  split at e2 <;> cases e2
 ·obtain ⟨v,z⟩:=I.cell x c e;exact ⟨v,z.sameBut hs (I.cne x c e)⟩
 ·obtain ⟨e,n,ne,nf,d⟩:=I.pin p hp;exact ⟨(hs.2 p.1 ne).trans e,n,ne,nf,d⟩
 ·have fr:H X.env.locals=none:=I.free;refine (I.hok b u e).stay (λc v hc q=>(hs.2 c ?_).trans q) (λ_ q=>q) λ_ _ q=>q
  rintro rfl;rcases hc with z | z
  ·rw[<- z,fr] at e;cases e
  ·rw[fr] at z;cases z
theorem Inv.trackO (I:Inv X pins σ H s) (hn:H a=none) (new:eK X.prog X.w (upd H a o) s.heap a o) (n0:X.s₀.heap.get? a=none) (nL:a≠X.env.locals) (nC:∀x c,X.env.cells.lookup x=some c->c≠a)
  (nP:∀p∈X.pn++pins,p.1≠a):Inv X pins σ (upd H a o) s:=by
 have ne:∀b u,H b=some u->b≠a:=λb u q=>dA q hn
 refine ⟨I.ok,I.os,I.bare,⟨I.base.keep,I.base.slot,λb ob e n hx=>?_,I.base.there,λb xs q=>?_,λb ob u q=>?_,λb ps q=>?_⟩,I.loc,I.cell,?_,λx c e=>?_,λp hp=>?_,λb u e=>?_,I.len⟩
 ·rw[aN (λz=>by rw[z,n0] at e;cases e)];exact I.base.free b ob e n hx
 ·have q':=I.base.tups b xs q;rw[aN (ne _ _ q')];exact q'
 ·have q':=I.base.frzs b ob u q;rw[aN (ne _ _ q')];exact q'
 ·obtain ⟨m,q'⟩:=I.base.tbls b ps q;exact ⟨m,by rw[aN (ne _ _ q')];exact q'⟩
 ·rw[aN (Ne.symm nL)];exact I.free
 ·rw[aN (nC x c e)];exact I.freeC x c e
 ·obtain ⟨e,n,r⟩:=I.pin p hp;exact ⟨e,by rw[aN (nP p hp)];exact n,r⟩
 ·by_cases hb:b=a
  ·subst hb;rw[aJ] at e;cases e;exact new
  ·rw[aN hb] at e;exact (I.hok b u e).stay (λc v _ q=>q) (λc q=>by rw[aN (ne _ _ q)];exact q) λc xs q=>by rw[aN (ne _ _ q)];exact q
end
def Du (a:Addr) (cls:Value) (dx:Option Addr):HO:=.ext λh=>∃o vs,h.get? a=some o/\o.cls=cls/\o.data=.fields vs/\o.dict=dx
def AA (CX:Bu) (X:Cx) (E:St->XK):Prop:=∀(pins:List (Addr×Obj)) (σ:St) (H:Hp) (s:Shared) (e:Value) (s':Shared),Inv X pins σ H s->CX X.stack H s (E σ) e s'->X.xe e s'
def BP (sp:Sp) (dvs:List V) (E:St->XK) (t:TA):TE:=λσ H Q=>t σ H λvs H1=>sp (vs++dvs) H1 Q (E σ)
section
variable {X:Cx} {CX:Bu} {k:Nat} {f C:Addr} {fd:FuncData} {ps:List Str} {sp:Sp} {dvs:List V} {ds:List Value} {E:St->XK} {x n:Str} {p pos hpos np:Pos} {e:Expr} {es:List Expr} {t:TA}
theorem CO (F:cC X.prog X.w X.K X.mg X.base CX k f fd ps sp) (hr:ik k X.A) (hg:Gl X x) (hm:X.mg x=some (.ref f)) (hk:PySem.W.keepIn X.K (.ref f)=true) (hb:Binds X.K fd ps ds) (hd:bV dvs ds) (hx:AA CX X E)
  (ha:PA X (e :: es) t) (hdb:(x == ("__debug__":Str))=false:=by decide) (he:starEach (e :: es) X.env=(false,eval e X.env) :: starEach es X.env:=by rfl) (hpl:(backTo pos (starEach es X.env)).any (·.1)=false:=by rfl) :
  PE X (.Call (.Name x p) (e :: es) [] pos) (BP sp dvs E t):=by
 intro pins s σ H Q I h;refine wpAny_Call_Name_kw (mO I hg hm ?_ hdb);refine nK (h₀:=X.base) I.ok.mod.kin hk (eI (ha pos pins s σ H _ I h) λus s1 ⟨vs,H1,I1,r,q⟩=>⟨I1.kIn,?_⟩) he hpl;have r2:bV (vs++dvs) (us++ds):=r.append hd;have hl:(us++ds).length=ps.length:=by rw[<- r2.length];exact F.len _ _ _ _ q
 refine wpAny_call (codeAny_mono (F.run X.A X.stack s1 H1 ⟨us,[]⟩ (us++ds) (vs++dvs) Q (E σ) hr I1.env0 (hb s1 us I1.kIn hl) r2 q) λr s' hq=>?_);cases r with
 | error e=>exact hx pins σ H1 s1 e s' I1 hq
 | ok fl =>
  cases fl with
  | ret u=>exact I1.after hq
  | next=>exact False.elim hq
  | brk=>exact False.elim hq
  | cont=>exact False.elim hq
structure vd (X:Cx) (pins:List (Addr×Obj)) (σ:St) (H0:Hp) (s0:Shared) (H':Hp) (ea t:Addr) (cls:Value) (dx:Option Addr) (B:Heap) (s1:Shared):Prop where
 I:Inv X pins σ H0 s0
 F:Fly X.prog X.w X.stack H0 s0 H' ea t cls dx B s1
section
variable {pins:List (Addr×Obj)} {σ:St} {H0 H':Hp} {s0 s1:Shared} {ea tt:Addr} {cls:Value} {dx:Option Addr} {B h:Heap}
theorem vd.inv (L:vd X pins σ H0 s0 H' ea tt cls dx B s1) (fl:Heap.FlyingW B X.stack ea cls (.ref tt) h) (up:s1.heap.UpToSlots h):Inv X pins σ H' { s1 with heap:=h }:=by
 obtain ⟨U,ok⟩:=Dq L.F.un L.F.hok L.F.fly.1 fl.1 up L.F.c1 L.F.c2 L.I.stkFree (λb hb o q=>by
  obtain ⟨_,o',e',d⟩:=L.I.stack.mem hb;rw[q] at e';cases e';exact d)
 have os:s1.os=s0.os:=L.F.os;have bare:AllBare s1.gens:=L.F.bare;obtain ⟨hh,g,d,t,os'⟩:=s1
 dsimp only at os bare
 subst os;exact Inv.call (s:=s0) (h':=h) (g':=g) (d':=d) (t':=t) (ch:=[]) L.I U ok bare (λb z=>absurd z (by simp))
theorem vd.new (L:vd X pins σ H0 s0 H' ea tt cls dx B s1):s0.heap.get? ea=none:=by
 obtain ⟨_,n,fr,oe,vs,T,oT,ts,he,hc,hd,_⟩:=L.F.fly;cases q:s0.heap.get? ea with
 | none=>rfl
 | some o =>
  by_cases hb:ea∈rW X.stack
  ·obtain ⟨_,o',e',d⟩:=fr.mem hb;rw[he] at e';cases e';exact absurd hd (d vs)
  ·obtain ⟨o',e'⟩:=L.F.c2 ea o q hb;rw[n] at e';cases e'
theorem vd.none_ (L:vd X pins σ H0 s0 H' ea tt cls dx B s1):H' ea=none:=by
 cases q:H' ea with
 | none=>rfl
 | some u =>
  obtain ⟨o,e⟩:=L.F.c1 ea u q;rw[L.F.fly.2.1] at e;cases e
theorem vd.track (L:vd X pins σ H0 s0 H' ea tt cls dx B s1) (hex:X.ex=[]) (fl:Heap.FlyingW B X.stack ea cls (.ref tt) h) (up:s1.heap.UpToSlots h) (dc:fQ ea dx h):Inv X pins σ (upd H' ea (Du ea cls dx)) { s1 with heap:=h }:=by
 have nw:=L.new;have some_ne:∀b o,s0.heap.get? b=some o->b≠ea:=λb o q z=>by rw[z,nw] at q;cases q
 refine (L.inv fl up).trackO L.none_ ?_ ?_ ?_ (λx c e=>?_) (λp hp=>?_)
 ·obtain ⟨_,_,_,oe,vs,T,oT,ts,he,hc,hd,_⟩:=fl;exact ⟨⟨oe,vs,he,hc.1,hd,dc.get he⟩,⟨oe,he⟩,λh1 h2 ⟨o,vs,a,b⟩ k=>⟨o,vs,k o a,b⟩⟩
 ·cases q:X.s₀.heap.get? ea with
  | none=>rfl
  | some o =>
   obtain ⟨o',e'⟩:=L.I.base.there ea o q (by rw[hex];exact aB);rw[nw] at e';cases e'
 ·obtain ⟨m,⟨o,_,_,ho,_⟩,_⟩:=L.I.loc;exact Ne.symm (some_ne _ o ho)
 ·obtain ⟨v,o,ho,_⟩:=L.I.cell x c e;exact some_ne _ o ho
 ·exact some_ne _ _ (L.I.pin p hp).1
end
def HB (X:Cx) (hs:List ExceptHandler) (hr:Ends->St->Value->Option Addr->Hp->Prop):Prop :=
 ∀(pins:List (Addr×Obj)) (σ:St) (H0:Hp) (s0:Shared) (H':Hp) (ea tt:Addr) (cls:Value) (dx:Option Addr) (B:Heap) (s1:Shared) (h:Heap) (D:Ends),vd X pins σ H0 s0 H' ea tt cls dx B s1->Heap.FlyingW B X.stack ea cls (.ref tt) h->s1.heap.UpToSlots h->fQ ea dx h →
  hr D σ cls dx H'->wpAny (model X.prog X.w) X.A (handleBy (.ref ea) X.env hs) (SP X pins D) X.xe { s1 with heap:=h }
def F8 (D:Ends):Ends:={ nx:=λ_ _=>False,rt:=D.rt }
def Jh:Ends->St->Value->Option Addr->Hp->Prop:=λ_ _ _ _ _=>False
theorem Hu:HB X [] Jh:=λ_ _ _ _ _ _ _ _ _ _ _ _ _ _ _ _ _ z=>False.elim z
def hAs (K:FG9) (C:Addr) (i:Nat) (ts:Addr->TS) (hr:Ends->St->Value->Option Addr->Hp->Prop):Ends->St->Value->Option Addr->Hp->Prop:=λD σ cls dx H =>
 (PySem.W.exmOne K cls (.ref C)=some true/\∀ea,H ea=none->ts ea (F8 D) (σ.set i (some (.ref ea))) (upd H ea (Du ea cls dx)))\/(PySem.W.exmOne K cls (.ref C)=some false/\hr D σ cls dx H)
theorem Jg {i:Nat} {b₀:Stmt} {suite:List Stmt} {rest:List ExceptHandler} {ts:Addr->TS} {hr:Ends->St->Value->Option Addr->Hp->Prop} (hex:X.ex=[]) (hg:Gl X x) (hm:X.mg x=some (.ref C)) (nd:X.N.Nodup) (hi:X.N[i]?=some n)
  (hl:X.env.scope.names.lookup n=some .local) (hs:∀ea,xv (X.sm ea) (b₀ :: suite) (ts ea)) (hrest:HB X rest hr) (hdb:(x == ("__debug__":Str))=false:=by decide) :
  HB X (.ExceptHandler (some (.Name x np)) (some n) (b₀ :: suite) hpos :: rest) (hAs X.K C i ts hr):=by
 intro pins σ H0 s0 H' ea tt cls dx B s1 h D L fl up dc hq;have J:=L.inv fl up;refine wpAny_handleBy_cons (codeAny_handlers_test (mO (X:=X.sm ea) (J.sm ea) hg hm ?_ hdb)) (by intro q;cases q)
 have LT:PySem.W.Looks (model X.prog X.w) h (typeOf (.ref ea)) cls:=by
  obtain ⟨o,e,c⟩:=fl.there;exact c ▸ (PySem.W.Looks.ld e).andThen .now
 rcases hq with ⟨hb,hts⟩ | ⟨hb,hq⟩
 ·refine (PySem.W.exm_one (show X.K.In h from J.kIn) LT hb) _ _ _ _ (λ_ _ q=>q) ?_;refine codeAny_handlers_suite_as ?_;refine wpAny_mono (kr (e:=ea) (d:=dx) (k6 _ _) (lands_againW (E:=λ_ _=>False) (Q:=λ_ s2=>∃h6,s2={ s1 with heap:=h6 }/\Heap.FlyingW B X.stack ea cls (.ref tt) h6/\h.UpToSlots h6) fl λh6 fl6 up6=>⟨h6,rfl,fl6,up6⟩) dc) ?_ (λ_ _ z=>z.1.elim);rintro _ _ ⟨⟨h6,rfl,fl6,up6⟩,dc6⟩;have J6:=(L.track hex fl6 (up.trans up6) dc6).sm ea;refine lO (X:=X.sm ea) J6 nd hi (.inl hl) (show RelV (.ref ea) (.ref ea) from rfl) (λs' I'=>?_) (.inr hl);refine wpAny_mono (hs ea pins s' _ _ _ I' (hts ea L.none_)) (λf s2 hsp=>?_) λ_ _ z=>False.elim z
  cases f with
  | next=>obtain ⟨_,_,_,z⟩:=hsp;exact False.elim z
  | brk=>obtain ⟨_,_,_,z⟩:=hsp;exact False.elim z
  | cont=>obtain ⟨_,_,_,z⟩:=hsp;exact False.elim z
  | ret u =>
   obtain ⟨v,σ',H2,J2,rv,q⟩:=hsp;obtain ⟨m,hn,_⟩:=id J2.loc;refine wpAny_nameGoes hl hn (by rw[L.I.ok.kind];rfl) λh' m' hn' hs'=>?_
   exact ⟨v,_,H2,J2.forget L.I.ok hn' hs',rv,q⟩
 ·refine (PySem.W.exm_one (show X.K.In h from J.kIn) LT hb) _ _ _ _ (λ_ _ q=>q) ?_;exact hrest pins σ H0 s0 H' ea tt cls dx B s1 h D L fl up dc hq
def Il (hr:Ends->St->Value->Option Addr->Hp->Prop) (tb:(St->XK)->TS):TS:=λD σ H=>tb (hr D) D σ H
theorem GJ (hst:X.stack=X.env :: X.outer) (hfr:X.env.frame=some X.env.locals)
  (hb:∀pn xe E,AA (FQ X.prog X.w) (X.tr pn xe) E->xv (X.tr pn xe) body (tb E)) (hh:HB X (h₀ :: hs) hr):PS X (.Try body (h₀ :: hs) [] [] pos) (Il hr tb):=by
 intro pins s σ H D I h;refine wpAny_Try_except ?_;refine wpAny_mono (hb (X.pn++pins) (λe s1=>∃σ' H0 s0 H' ea t cls dx B,e=.ref ea/\vd X pins σ' H0 s0 H' ea t cls dx B s1/\hr D σ' cls dx H') (hr D) ?_ [] s σ H D (I.tr _) h) (λf s1 hsp=>?_) (λe s1 hx=>?_)
 ·rintro ps σ' H1 s1 e s' J ⟨ea,t,cls,dx,H',B,rfl,F,hE⟩;exact ⟨σ',H1,s1,H',ea,t,cls,dx,B,rfl,⟨J.untr,F⟩,hE⟩
 ·cases f with
  | next=>obtain ⟨σ',H',J,q⟩:=hsp;exact wpAny_execs_nil ⟨σ',H',J.untr,q⟩
  | brk=>obtain ⟨σ',H',J,q⟩:=hsp;exact ⟨σ',H',J.untr,q⟩
  | cont=>obtain ⟨σ',H',J,q⟩:=hsp;exact ⟨σ',H',J.untr,q⟩
  | ret u=>obtain ⟨v,σ',H',J,r,q⟩:=hsp;exact ⟨v,σ',H',J.untr,r,q⟩
 ·obtain ⟨σ',H0,s0,H',ea,t,cls,dx,B,rfl,L,hq⟩:=hx;have hfrm:X.A.frames=some (X.env :: X.outer):=by rw[<- hst];exact L.I.ok.frames
  have fl:Heap.FlyingW B (X.env :: X.outer) ea cls (.ref t) s1.heap:=by rw[<- hst];exact L.F.fly
  refine wpAny_mono (kr (e:=ea) (d:=dx) (Ap _ _) (wpAny_looks_onW (E:=λ_ _=>False) (Q:=λ_ s2=>∃h4,s2={ s1 with heap:=h4 }/\Heap.HeldW B (X.env :: X.outer) ea cls (.ref t) X.env.locals h4/\s1.heap.UpToSlots h4) hfrm hfr fl λh4 held up4=>⟨h4,rfl,held,up4⟩) L.F.dct) ?_ (λ_ _ z=>z.1.elim);rintro _ _ ⟨⟨h4,rfl,held,up4⟩,dc4⟩;refine wpAny_mono (kr (e:=ea) (d:=dx) (k6 _ _) (wpAny_landsW (E:=λ_ _=>False) (Q:=λ_ s2=>∃h5,s2={ s1 with heap:=h5 }/\Heap.FlyingW B (X.env :: X.outer) ea cls (.ref t) h5/\h4.UpToSlots h5) held λh5 fl5 up5=>⟨h5,rfl,fl5,up5⟩) dc4) ?_ (λ_ _ z=>z.1.elim);rintro _ _ ⟨⟨h5,rfl,fl5,up5⟩,dc5⟩;exact hh pins σ' H0 s0 H' ea t cls dx B s1 h5 D L (by rw[hst];exact fl5) (up4.trans up5) dc5 hq
end
section
variable {K:FG9} {x t:Value} {Hh:Heap->Prop}
theorem EN (ty:∀(M:Model) (h:Heap),Hh h->PySem.W.Looks M h (typeOf x) t) (e:PySem.W.kitOne K t c=some true):Answers (λs=>K.In s.heap/\Hh s.heap) x c true:=by
 rintro dep tk prog w A R ⟨h0,gs,dr,tt,os⟩ ⟨⟨kin,p⟩,hq⟩;have lt:=ty (model prog w) h0 p;unfold PySem.W.kitOne at e;unfold Builtin.«isinstance.nested»;refine wpAny_bind (rG lt ?_);rcases Ii (t == c) with q | q
 ·rw[q];exact wpAny_bind (wpAny_rule (wpAny_pure (hq tt)))
 ·rw[q] at e ⊢;obtain ⟨a1,a2,a3⟩:=PySem.W.kit_cls (M:=model prog w) kin e;rw[if_neg aM];refine wpAny_bind (rG a1 ?_);rw[if_pos (beq_self_eq_true _)]
  k_delta "plainIsInstance"
  refine wpAny_bind (wpAny_bind (rG a2 ?_));rw[if_neg (by simp)];refine wpAny_bind (rG (lt.andThen a3) ?_)
  first | exact wpAny_pure (wpAny_pure (hq tt)) | (rw[if_pos rfl];first | exact wpAny_pure (wpAny_pure (hq tt)) | exact wpAny_pure (hq tt) | exact wpAny_bind (wpAny_pure (wpAny_pure (hq tt))))
end
open PySem.W
section
variable {prog:Program} {w:World} {A:Around} {E:Value->Shared->Prop} {h:Heap} {g:Array GenState} {d:Drawn} {t:Nat} {os:OsState} {a C:Addr} {o:Obj} {od:Option Obj} {K:Frag}
theorem HK (X:K.In h) (I:InstAt h a o C od) (hm:mroIn K C (.type "BaseException")=some true) (hq:Q () ⟨h,g,d,t,os⟩) :
  wpAny M A (checkBuiltinCall "BaseException.__getattribute__" ⟨[.ref a,nv],[]⟩) Q E ⟨h,g,d,t,os⟩:=by
 have b1:builtinKind "BaseException.__getattribute__"=some .slot:=by decide +kernel
 have b2:splitId "BaseException.__getattribute__"=some ("BaseException","__getattribute__"):=by decide +kernel
 have b3:=F.args_bexc_ga (.ref a) nv;have LI:Looks M h (isInstance (.ref a) (.type "BaseException")) true:=I.type.andThen (looks_mroIn X hm);simp only[checkBuiltinCall,b1,b2];refine wpAny_bind (Looks.at LI ?_)
 (repeat (first | assumption | wp_step))
theorem ES (X:K.In h) (I:InstAt h a o C od) (hm:mroIn K C (.type "BaseException")=some true) (hm2:mroIn K C (.type "object")=some true) (hc:(clsIn K C).isSome=true)
  (ha:findIn K (.ref C) "__class__"=some (some (.builtin "object.__class__"))) (hn:specialIn K (.builtin "object.__class__") "__get__"=some (some (.builtin "getset_descriptor.__get__"))) (htk:takesIn K (.builtin "object.__class__")=some true)
  (hq:R (.ok (.ret (.ref C))) ⟨h,g,d,t,os⟩):codeAny (model prog w) A (.call (.builtin "BaseException.__getattribute__") ⟨[.ref a,.str "__class__" tk],[]⟩) R ⟨h,g,d,t,os⟩:=by
 have hf:findObj K C od "__class__"=some (.bind (.builtin "getset_descriptor.__get__") (.builtin "object.__class__")):=by
  obtain ⟨cd,hc⟩:=pN.mp hc;unfold findObj;rw[hc,Option.bind_some,ha,Option.bind_some];simp [hn,htk]
 have L0:=I.type (M:=model prog w);have L1:=looks_find (M:=model prog w) X I hf;refine codeAny_call_builtin (by decide +kernel) F.entry_bexc_ga (HK X I hm ?_);unfold Builtin.«object.__getattribute__»;refine wpAny_bind (wpAny_pure ?_)
 dsimp only
 refine wpAny_bind (m:=Builtin.ObjectAttr.attrName (.str "__class__" tk)) (wpAny_pure ?_);refine wpAny_bind (Looks.at L0 ?_);refine wpAny_bind (Looks.at L1 ?_)
 dsimp only
 unfold Builtin.ObjectAttr.bindTo;refine wpAny_bind (wpAny_holding (wpAny_call (class_get (s:=⟨h,g,d,t,os⟩) (ox:=o) (od:=od) X I hm2 ?_)));exact wpAny_pure hq
theorem Bo (X:K.In h) (I:InstAt h a o C od) (hga:findIn K (.ref C) "__getattribute__"=some (some (.builtin "BaseException.__getattribute__"))) (hgt:findIn K (.ref C) "__getattr__"=some none)
  (hm:mroIn K C (.type "BaseException")=some true) (hm2:mroIn K C (.type "object")=some true) (hc:(clsIn K C).isSome=true)
  (ha:findIn K (.ref C) "__class__"=some (some (.builtin "object.__class__"))) (hn:specialIn K (.builtin "object.__class__") "__get__"=some (some (.builtin "getset_descriptor.__get__"))) (htk:takesIn K (.builtin "object.__class__")=some true)
  (hq:Q (some (.ref C)) ⟨h,g,d,t+1,os⟩):wpAny (model prog w) A (getAttr? (.ref a) "__class__") Q E ⟨h,g,d,t,os⟩:=by
 have L0:=I.type (M:=model prog w);have L1:=looks_findIn (M:=model prog w) X hga;have L2:=looks_findIn (M:=model prog w) X hgt;unfold getAttr? getAttrBy? getAttrBy;refine wpAny_bind (wpAny_mkText (wpAny_bind (wpAny_attempt (wpAny_holding (wpAny_bind (Looks.at L0 (wpAny_bind (Looks.at L1 ?_))))))))
 have ne:(onTheHeap (Value.ref C) && Value.builtin "BaseException.__getattribute__" == Value.builtin "object.__getattribute__")=false:=by
  rw[show (Value.builtin "BaseException.__getattribute__" == Value.builtin "object.__getattribute__")=false by decide +kernel,Bool.and_false]
 dsimp only
 rw[ne,if_neg aM];unfold getAttrByItsOwn;refine wpAny_bind (show wpAny _ _ (typeLookup (.ref C) "__getattr__") _ _ _ from Looks.at L2 (wpAny_bind (wpAny_attempt (wpAny_holding ?_))));unfold callGetattribute boundAndCalled;rw[Bool.false_and,if_neg aM];have fb:bindSpecial (.builtin "BaseException.__getattribute__") (.ref a)=pure (.builtin "BaseException.__getattribute__",[.ref a]):=F.excAttr_ValueError.ga.bind (.ref a);rw[fb];refine wpAny_bind (wpAny_pure (wpAny_call (ES X I hm hm2 hc ha hn htk ?_)));exact wpAny_pure (wpAny_pure hq)
end
structure JN (K:Frag) (C:Addr):Prop where
 ga:findIn K (.ref C) "__getattribute__"=some (some (.builtin "BaseException.__getattribute__"))
 gt:findIn K (.ref C) "__getattr__"=some none
 mb:mroIn K C (.type "BaseException")=some true
 mo:mroIn K C (.type "object")=some true
 hd:hasDictIn K C=true
 ca:findIn K (.ref C) "__class__"=some (some (.builtin "object.__class__"))
 sg:specialIn K (.builtin "object.__class__") "__get__"=some (some (.builtin "getset_descriptor.__get__"))
 tk:takesIn K (.builtin "object.__class__")=some true
theorem JN.obj {K:Frag} (e:JN K C):∃c d cd sl,K.lookup C=some ⟨c,d,.cls cd,sl⟩:=by
 obtain ⟨cd,hc,_⟩:=any_some e.hd;unfold clsIn at hc
 split at hc
 ·exact ⟨_,_,_,_,by assumption⟩
 ·cases hc
theorem C5 {K:Frag} {a C:Addr} (e:JN K C):KitX K (.ref a) (.ref C) (λh=>∃o,InstAt h a o C none) where
 ty:=λ_ _ _ ⟨_,I⟩=>I.type
 it:=λ_ _ X _=>by
  obtain ⟨c,d,cd,sl,lk⟩:=e.obj;intro A' Q' E' s' k q;unfold isType loadHead;exact wpAny_bind (wpAny_loadPart (k _ _ (X _ _ lk)) (wpAny_pure q))
 ne:=λh tp dd its n sl X htp=>by
  obtain ⟨c,d,cd,sl',lk⟩:=e.obj;rcases Ii (Value.ref C == Value.ref tp) with q | q
  ·have z:C=tp:=Value.ref.inj (beq_iff_eq.mp q);subst z;rw[X _ _ lk] at htp;cases htp
  ·exact q
 ca:=λ{prog w A E Q s} X ⟨_,I⟩ k=>by
  obtain ⟨cd,hc,_⟩:=any_some e.hd;obtain ⟨h,g,d,t,os⟩:=s;exact Bo X I e.ga e.gt e.mb e.mo (by rw[hc];rfl) e.ca e.sg e.tk k
theorem Dt {σ:St} (I:Inv X pins σ H s) (e:H a=some (Du a (.ref C) none)):∃o,InstAt s.heap a o C none:=by
 obtain ⟨⟨o,vs,g,c,d,dd⟩,_⟩:=(show eK X.prog X.w H s.heap a (Du a (.ref C) none) from I.hok a _ e);obtain ⟨oc,od,dt,sl⟩:=o
 dsimp only at c d dd
 subst c d dd;exact ⟨_,g,rfl,rfl,trivial⟩
section
variable {X:Cx} {pins:List (Addr×Obj)} {σ:St} {H:Hp} {s:Shared}
theorem Hs (I:Inv X pins σ H s) (e:H a=some (Du a cls dx)) (k:PySem.W.kitOne X.K cls c=some true) (h:∀tk,Q (.bool true) { s with toks:=tk }) :
  wpAny (model X.prog X.w) A (call (.builtin "isinstance") [.ref a,c]) Q E s:=by
 obtain ⟨p,_⟩:=(show eK X.prog X.w H s.heap a (Du a cls dx) from I.hok a _ e)
 refine call_isinstance (S:=λ_ R s=>(X.K.In s.heap/\∃o vs,s.heap.get? a=some o/\o.cls=cls/\o.data=.fields vs/\o.dict=dx)/\∀tk,R (.ok (.ret (.bool true))) { s with toks:=tk })
  (λprog w A R s hs=>isinstance_outer (EN (Hh:=λh=>∃o vs,h.get? a=some o/\o.cls=cls/\o.data=.fields vs/\o.dict=dx) (λM h ⟨o,_,e1,e2,_⟩=>?_) k 0 _ prog w A R s hs) (λz=>nomatch z)) ⟨⟨I.kIn,p⟩,h⟩
 exact e2 ▸ (PySem.W.Looks.ld e1).andThen .now
def AU (K:FG9) (c:Value):V->Hp->VK->Prop:=λx H Q=>∃a cls dx,x=.ref a/\H a=some (Du a cls dx)/\((PySem.W.kitOne K cls c=some true/\Q (.bl true) H)\/∃C b,cls=.ref C/\dx=none/\JN K C/\PySem.W.kitOne K cls c=some b/\Q (.bl b) H)
theorem ER {K:FG9} (h:ta σ H λx H1=>AU K c x H1 Q):je ta (je (tC cv) wo) σ H (λvs H1=>∃x,vs=[x,cv]/\AU K c x H1 Q):=by
 show ta σ H λx H1=>∃x',[x,cv]=[x',cv]/\AU K c x' H1 Q
 have e:(λx H1=>∃x',[x,cv]=[x',cv]/\AU K c x' H1 Q)=λx H1=>AU K c x H1 Q:=by
  funext x H1;exact propext ⟨λ⟨x',e,q⟩=>by cases e;exact q,λq=>⟨x,rfl,q⟩⟩
 rw[e];exact h
theorem EH {a:Expr} {ta:TE} {pos:Pos} {c:Str} {C:Addr} {p p2:Pos} (hg:Gl X "isinstance") (hm:X.mg "isinstance"=none) (hgc:Gl X c) (hmc:X.mg c=some (.ref C)) (ha:PE X a ta)
  (hd:(c == ("__debug__":Str))=false:=by decide) (he:starEach [a,.Name c p2] X.env=[(false,eval a X.env),(false,eval (.Name c p2) X.env)]:=by rfl)
  (hpl:(backTo pos (starEach [.Name c p2] X.env)).any (·.1)=false:=by rfl) (he2:starEach [.Name c p2] X.env=[(false,eval (.Name c p2) X.env)]:=by rfl):PE X (.Call (.Name "isinstance" p) [a,.Name c p2] [] pos) (HX (AU X.K (.ref C)) ta):=by
 intro pins s σ H Q I h;refine wpAny_Call_Name_kw (ij I hg hm PyProof.Rows.boot_isinstance ?_);have hA:PA X [a,.Name c p2] (je ta (je (tC (.ref C)) wo)):=aa ha (aa (oE hgc hmc rfl hd) ae he2) (by rw[he,he2]);refine PyProof.Rows.callWith_builtin1 (eI (hA pos pins s σ H _ I (ER h)) λus s1 ⟨vs,H1,I1,r1,x,e,q1⟩=>?_) (by rw[he,he2]) hpl;subst e;obtain ⟨u,w',rfl,ru,rt⟩:=vals2 r1;cases rt;obtain ⟨ea,cls,dx,rfl,ee,⟨ek,q⟩ | ⟨C',b,rfl,rfl,ex,ek,q⟩⟩:=q1
 ·cases ru;exact Hs I1 ee ek λtk=>⟨.bl true,H1,I1.tok tk,rfl,q⟩
 ·cases ru;exact cm (C5 ex) I1.kIn (Dt I1 ee) ek (λz=>nomatch z) λtk=>⟨.bl b,H1,I1.tok tk,rfl,q⟩
end
theorem CH (h:t σ H λvs H1=>sp vs H1 Q (E σ)):BP sp [] E t σ H Q:=by
 show t σ H λvs H1=>sp (vs++[]) H1 Q (E σ)
 simpa only [dU] using h
theorem Gf (h:tb (hr D) D σ H):Il hr tb D σ H:=h
section
variable {P:Program} {w:World} {K:FG9} {mg:Str->Option Value} {base:Heap}
theorem Bt.okX {st:Stmt} (F:Bt K x qual st f fd) (S:br N ps (aL st)) (len:∀vs H Q E,sp vs H Q E->vs.length=ps.length)
  (hbody:∀(cdv:Value) (A:Around) (outer:List Env) (s:Shared) (H:Hp) (vs:List V) (Q:VK) (E:XK),ik k (A.deeper (envOfC qual (aL st) s.heap.objs.size f cdv))->sp vs H Q E →
   ∃t,xv (uV (FQ P w) P w K mg base N qual (aL st) f cdv A outer s H E) (fD st) t/\t { nx:=λ_ H'=>Q .non H',rt:=Q } (start N vs) H):cC P w K mg base (FQ P w) (k+1) f fd ps sp:=by
 obtain ⟨oc,od,kV,doc,pm,an,cdv,ct,osl,rfl,lk,hcd⟩:=F.ex;exact FG lk hcd S len λA outer s H vs Q E hr hsp=>hbody cdv A outer s H vs Q E hr hsp
end
section
variable {inv mv pt lk rows:LR9} {n:Nat} {own pu:List Rat}
end
inductive vn (K:FG9) (C:Addr) (vs:List V) (H:Hp) (Q:VK) (E9:XK):Prop
 | mk (x p q:Addr) (H0:Hp) (mv pt lk:LR9) (st pu:List Rat):vs=[.ref x,.ref p,.ref q]->jx K H0 H C x mv pt lk->dD mv pt lk->cB K H p st->cB K H q pu->st.length=mv.length->pu.length=pt.length->(∀l:List Rat,(∀y∈l,(∃xs∈mv,y∈xs)\/(∃xs∈pt,y∈xs)\/y=0)->rO l (st++pu))->(∀r H',H r=none->aH H H'->cB K H' r (cg mv pt st pu)->Q (.ref r) H')->vn K C vs H Q E9
inductive xI (K:FG9) (C:Addr) (vs:List V) (H:Hp) (Q:VK) (E9:XK):Prop
 | mk (x p:Addr) (H0:Hp) (mv pt lk:LR9) (st:List Rat):vs=[.ref x,.ref p]->jx K H0 H C x mv pt lk->dD mv pt lk->cB K H p st->st.length=mv.length->(∀xs∈lk,rO xs st)->(∀r H',H r=none->aH H H'->cB K H' r (L2.seenQ lk st)->Q (.ref r) H')->xI K C vs H Q E9
section
variable {rows R mv pt:LR9} {ps:List Nat} {n:Nat}
end
section
variable {mv pt lk R:LR9} {ps:List Nat} {M1 M2 V a1 a2 c q E N w n:Nat}
end
theorem qA {f:Nat->Rat}:∀k,cJ (k+1) f=f 0+cJ k λi=>f (i+1)
 | 0=>by show (0:Rat)+f 0=f 0+0;grind
 | k+1=>by
  show cJ (k+1) f+f (k+1)=_
  rw[qA k];show _=f 0+(cJ k (λi=>f (i+1))+f (k+1))
  grind
def D8 (K:FG9):Sp:=λvs H Q _=>∃b:Addr,vs=[.ref b]/\eQ H b /\
 ∀t r (w:Nat) mv pt lk H',H' t=some (.tup [.ref r,.int w])->cR K H H' r mv pt lk->dD mv pt lk->Kc mv pt lk->Rg mv pt w->Rg (fH mv mv.length) lk w->1<=w->w<=1000->eQ H' b->cb b H H'->Q (.ref t) H'
def Kd (K:FG9) (H:Hp) (fl:Addr) (H':Hp) (qs:List Rat) (x:V):Prop:=∃q,x=V.ref q/\H q=none/\q≠fl/\cB K H' q qs
def DO (mv pt lk pus:LR9) (i:Nat):LR9:=(List.range i).map λk=>lk.map λxs=>cy xs (oA mv pt (List.replicate mv.length 0) pus (k+1))
theorem EL:DO mv pt lk pus (i+1)=DO mv pt lk pus i++[lk.map λxs=>cy xs (oA mv pt (List.replicate mv.length 0) pus (i+1))]:=by
 unfold DO;rw[uM,cF];rfl
inductive zY (K:FG9) (vs:List V) (H:Hp) (Q:VK) (E9:XK):Prop
 | mk (r p:Addr) (H0 H1:Hp) (mv pt lk pus:LR9):vs=[.ref r,.ref p]->cR K H0 H r mv pt lk->dD mv pt lk->bO K H1 H p pus->pus.length<=100->(∀xs∈pus,xs.length=pt.length)->(∀k pu,pus[k]?=some pu->Ib mv pt (oA mv pt (List.replicate mv.length 0) pus k) pu)->(∀k,k<=pus.length->∀ys∈lk,rO ys (oA mv pt (List.replicate mv.length 0) pus k))->(∀q H',H q=none->aH H H'->bO K H H' q (DO mv pt lk pus pus.length)->Q (.ref q) H')->zY K vs H Q E9
section
variable {mv pt lk R U pus rows inv:LR9} {ps pu:List Nat} {M1 M2 V a1 a2 c q E m e w T b Np:Nat}
end
abbrev xu (h:Heap) (z TI TO:Addr) (f0 f1:Value):Prop :=
 h.get? z=some { cls:=.type "zip",dict:=none,data:=.fields #[f0,f1,.bool false,.ref TI,.ref TO],slots:=#[] }
def Fx (f0:Value):Prop:=f0=.none\/∃T:Addr,f0=rawInt T
section
variable {prog:Program} {w:World} {A:Around} {E:Value->Shared->Prop} {s:Shared} {z TI TO i1 i2 l1 l2:Addr} {k:Nat} {xs ys:Array Value} {a b x y f0 f1:Value}
theorem zS (hz:xu s.heap z TI TO f0 f1) (hf:Fx f0)
  (h1:R true s) (h2:∀h' f,xu h' z TI TO f0 f->Heap.SameBut z s.heap h'->R false { s with heap:=h' }):wpAny (model prog w) A (Builtin.SmallTypes.ownedTupleIsFree (.ref z)) R E s:=by
 unfold Builtin.SmallTypes.ownedTupleIsFree;rcases hf with rfl | ⟨T,rfl⟩
 ·exact wpAny_bind (wpAny_field hz rfl (x:=.none) rfl (wpAny_pure h1))
 refine wpAny_bind (wpAny_field hz rfl (x:=rawInt T) rfl ?_);show wpAny _ _ (loadIfAlive _ >>= _) _ _ _
 refine wpAny_bind (λΓ p _=>?_);unfold loadIfAlive;rw[Sem.wp_loadIfAlive];show wpAny _ _ _ _ _ _
 cases e:s.heap.get? (T:Int).toNat with
 | none=>exact wpAny_pure h1
 | some o =>
  refine wpAny_bind (wpAny_field hz rfl (x:=f1) rfl ?_);show wpAny _ _ (if _ then _ else _) _ _ _
  split
  ·exact wpAny_bind (wpAny_setField_rec hz (by simp) λh' hz' hs'=>wpAny_pure (h2 h' (.bool true) hz' hs'))
  ·exact wpAny_pure (h2 s.heap f1 hz ⟨rfl,λ_ _=>rfl⟩)
def J9 (s:Shared) (z TI TO i1 i2 l1 l2:Addr) (k:Nat) (x y:Value) (h':Heap):Prop :=
 (∃f0 f1,Fx f0/\xu h' z TI TO f0 f1)/\(∃a b,IsPair h' TO a b)/\h'.IsListIter i1 l1 (k+1)/\h'.IsListIter i2 l2 (k+1)/\IsPair h' s.heap.objs.size x y/\h'.objs.size=s.heap.objs.size+1 /\
   (∀c o,c≠z->c≠TO->c≠i1->c≠i2->s.heap.get? c=some o->h'.get? c=some o)
theorem DY {Q:Value->Shared->Prop} (D:ZipApart z TI TO i1 i2 l1 l2)
  (hz:xu s.heap z TI TO f0 f1) (hf:Fx f0) (hTI:IsPair s.heap TI (.ref i1) (.ref i2)) (hTO:IsPair s.heap TO a b)
  (h1:s.heap.IsListIter i1 l1 k) (h2:s.heap.IsListIter i2 l2 k) (hl1:s.heap.IsList l1 xs) (hl2:s.heap.IsList l2 ys) (hx:xs[k]?=some x) (hy:ys[k]?=some y)
  (hQ:∀h',J9 s z TI TO i1 i2 l1 l2 k x y h'->Q (.ref s.heap.objs.size) { s with heap:=h' }) :
  wpAny (model prog w) A (Builtin.«zip.__next__» ⟨[.ref z],[]⟩) (λfin s'=>∃v,fin=.done (.ret v)/\Q v s') E s:=by
 show wpAny _ _ (field (.ref z) 2 >>= _) _ _ _
 refine wpAny_bind (wpAny_field hz rfl (x:=.bool false) rfl ?_);show wpAny _ _ (field (.ref z) 3 >>= _) _ _ _
 refine wpAny_bind (wpAny_field hz rfl (x:=.ref TI) rfl ?_);refine wpAny_bind (wpAny_seqItems hTI rfl ?_);show wpAny _ _ (Builtin.SmallTypes.ownedTupleIsFree (.ref z) >>= _) _ _ _
 refine wpAny_bind (zS hz hf ?_ λh₀ f hz₀ hs₀=>?_)
 ·simp only[if_true];refine wpAny_bind (wpAny_rule ?_);refine wpAny_bind (wpAny_field hz rfl (x:=.ref TO) rfl ?_);refine wpAny_bind (wpAny_setField_rec hz (by simp) λh₁ hz₁ hs₁=>?_);replace hz₁:xu h₁ z TI TO .ellipsis f1:=hz₁;refine wpAny_bind ?_;simp only[List.zipIdx_cons,List.zipIdx_nil,gF,fK];refine wpAny_bind (wpAny_bind (wpAny_onRaise ?_));show wpAny _ _ (Builtin.SmallTypes.nextOf (.ref i1) >>= _) _ _ _
  refine wpAny_bind (wpAny_nextOf_list_item (h1.extBut hs₁.extBut D.i1z) (hl1.extBut hs₁.extBut D.l1z) hx λh₂ h1₂ hs₂=>wpAny_pure ?_);have hTO₂:IsPair h₂ TO a b:=hs₂.extBut _ _ D.TOi1 (hs₁.extBut _ _ D.TOz hTO);refine wpAny_bind (wpAny_seqItems hTO₂ rfl ?_);refine wpAny_bind (wpAny_updateSeq_pair hTO₂ λh₃ hTO₃ hs₃=>?_);replace hTO₃:IsPair h₃ TO x b:=hTO₃;refine wpAny_bind (wpAny_letGo (wpAny_pure ?_));refine wpAny_bind (wpAny_bind (wpAny_onRaise ?_));show wpAny _ _ (Builtin.SmallTypes.nextOf (.ref i2) >>= _) _ _ _
  refine wpAny_bind (wpAny_nextOf_list_item (((h2.extBut hs₁.extBut D.i2z).extBut hs₂.extBut D.i12.symm).extBut hs₃.extBut D.TOi2.symm)
   (((hl2.extBut hs₁.extBut D.l2z).extBut hs₂.extBut D.l2i1).extBut hs₃.extBut D.l2TO) hy λh₄ h2₄ hs₄=>wpAny_pure ?_)
  have hTO₄:IsPair h₄ TO x b:=hs₄.extBut _ _ D.TOi2 hTO₃;refine wpAny_bind (wpAny_seqItems hTO₄ rfl ?_);refine wpAny_bind (wpAny_updateSeq_pair hTO₄ λh₅ hTO₅ hs₅=>?_);replace hTO₅:IsPair h₅ TO x y:=hTO₅;refine wpAny_bind (wpAny_letGo (wpAny_pure (wpAny_pure ?_)));refine wpAny_bind (wpAny_seqItems hTO₅ rfl ?_);refine wpAny_bind (wpAny_newTuple ?_);have hsz:h₅.objs.size=s.heap.objs.size:=by rw[hs₅.1,hs₄.1,hs₃.1,hs₂.1,hs₁.1]
  have hz₅:xu h₅ z TI TO .ellipsis f1:=hs₅.extBut _ _ D.TOz.symm (hs₄.extBut _ _ D.i2z.symm (hs₃.extBut _ _ D.TOz.symm (hs₂.extBut _ _ D.i1z.symm hz₁)))
  have hk₅:∀c o,c≠z->c≠TO->c≠i1->c≠i2->s.heap.get? c=some o->h₅.get? c=some o:=λc o c1 c2 c3 c4 e =>
   hs₅.extBut _ _ c2 (hs₄.extBut _ _ c4 (hs₃.extBut _ _ c2 (hs₂.extBut _ _ c3 (hs₁.extBut _ _ c1 e))))
  have h1₅:h₅.IsListIter i1 l1 (k+1):=((h1₂.extBut hs₃.extBut D.TOi1.symm).extBut hs₄.extBut D.i12).extBut hs₅.extBut D.TOi1.symm;have h2₅:h₅.IsListIter i2 l2 (k+1):=h2₄.extBut hs₅.extBut D.TOi2.symm;have hzlt:z < h₅.objs.size:=Heap.lt_size hz₅;show wpAny _ _ (Builtin.SmallTypes.ownedTupleHandOut (.ref z) (.ref h₅.objs.size) >>= _) _ _ _
  refine wpAny_bind ?_;unfold Builtin.SmallTypes.ownedTupleHandOut;have hz₆:xu (h₅.push { cls:=.type "tuple",data:=.seq #[x,y] }) z TI TO .ellipsis f1:=Heap.get?_push_of_some _ hz₅;refine wpAny_bind (wpAny_setField_rec hz₆ (by simp) λh₇ hz₇ hs₇=>?_);replace hz₇:xu h₇ z TI TO (rawInt h₅.objs.size) f1:=hz₇;refine wpAny_setField_rec hz₇ (by simp) λh₈ hz₈ hs₈=>?_
  replace hz₈:xu h₈ z TI TO (rawInt h₅.objs.size) (.bool false):=hz₈;have up:∀c o,c≠z->h₅.get? c=some o->h₈.get? c=some o:=λc o c1 e=>hs₈.extBut _ _ c1 (hs₇.extBut _ _ c1 (Heap.get?_push_of_some _ e))
  have hT₈:IsPair h₈ h₅.objs.size x y:=hs₈.extBut _ _ (fV hzlt) (hs₇.extBut _ _ (fV hzlt) (Heap.get?_push_size _ rfl));have hz8:h₈.objs.size=h₅.objs.size+1:=by rw[hs₈.1,hs₇.1,Heap.size_push]
  rw[hsz] at hz₈ hT₈ hz8;refine wpAny_pure ⟨_,rfl,?_⟩;show Q (.ref h₅.objs.size) _
  rw[hsz];exact hQ h₈ ⟨⟨_,_,.inr ⟨_,rfl⟩,hz₈⟩,⟨_,_,up _ _ D.TOz hTO₅⟩,h1₅.at λo e=>up _ o D.i1z e,h2₅.at λo e=>up _ o D.i2z e,hT₈,hz8,λc o c1 c2 c3 c4 e=>up c o c1 (hk₅ c o c1 c2 c3 c4 e)⟩
 ·simp only[cE,if_false];refine wpAny_bind ?_;simp only[List.forIn_toArray,gF,fK];refine wpAny_bind (wpAny_bind (wpAny_holding ?_));show wpAny _ _ (Builtin.SmallTypes.nextOf (.ref i1) >>= _) _ _ _
  refine wpAny_bind (wpAny_nextOf_list_item (h1.extBut hs₀.extBut D.i1z) (hl1.extBut hs₀.extBut D.l1z) hx λh₂ h1₂ hs₂=>wpAny_pure (wpAny_pure ?_));refine wpAny_bind (wpAny_bind (wpAny_holding ?_));show wpAny _ _ (Builtin.SmallTypes.nextOf (.ref i2) >>= _) _ _ _
  refine wpAny_bind (wpAny_nextOf_list_item ((h2.extBut hs₀.extBut D.i2z).extBut hs₂.extBut D.i12.symm) ((hl2.extBut hs₀.extBut D.l2z).extBut hs₂.extBut D.l2i1) hy λh₄ h2₄ hs₄=>wpAny_pure (wpAny_pure (wpAny_pure ?_)));show wpAny _ _ (newTuple [x,y] >>= _) _ _ _
  refine wpAny_bind (wpAny_newTuple ?_);have hsz:h₄.objs.size=s.heap.objs.size:=by rw[hs₄.1,hs₂.1,hs₀.1]
  refine wpAny_pure ⟨_,rfl,?_⟩;show Q (.ref h₄.objs.size) _
  rw[hsz];have hk:∀c o,c≠z->c≠i1->c≠i2->s.heap.get? c=some o->(h₄.push { cls:=.type "tuple",data:=.seq #[x,y] }).get? c=some o:=λc o c1 c2 c3 e=>Heap.get?_push_of_some _ (hs₄.extBut _ _ c3 (hs₂.extBut _ _ c2 (hs₀.extBut _ _ c1 e)))
  refine hQ _ ⟨⟨_,_,hf,Heap.get?_push_of_some _ (hs₄.extBut _ _ D.i2z.symm (hs₂.extBut _ _ D.i1z.symm hz₀))⟩,⟨_,_,hk _ _ D.TOz D.TOi1 D.TOi2 hTO⟩,(h1₂.extBut hs₄.extBut D.i12).at λo e=>Heap.get?_push_of_some _ e,h2₄.at λo e=>Heap.get?_push_of_some _ e,?_,by rw[Heap.size_push,hsz],λc o c1 _ c3 c4 e=>hk c o c1 c3 c4 e⟩;rw[<- hsz];exact Heap.get?_push_size _ rfl
theorem FV (hh:A.handled=none) (D:ZipApart z TI TO i1 i2 l1 l2)
  (hz:xu s.heap z TI TO f0 f1) (hf:Fx f0) (hTI:IsPair s.heap TI (.ref i1) (.ref i2)) (hTO:IsPair s.heap TO a b)
  (h1:s.heap.IsListIter i1 l1 k) (h2:s.heap.IsListIter i2 l2 k) (hl1:s.heap.IsList l1 xs) (hl2:s.heap.IsList l2 ys) (hend:xs[k]?=none\/ys[k]?=none)
  (hE:∀h' e,(∀c o,c≠z->c≠TO->c≠i1->c≠i2->s.heap.get? c=some o->h'.get? c=some o)->(∃o,h'.get? e=some o/\o.cls=.type "StopIteration")->E (.ref e) { s with heap:=h' }) :
  wpAny (model prog w) A (Builtin.«zip.__next__» ⟨[.ref z],[]⟩) Q E s:=by
 show wpAny _ _ (field (.ref z) 2 >>= _) _ _ _
 refine wpAny_bind (wpAny_field hz rfl (x:=.bool false) rfl ?_);show wpAny _ _ (field (.ref z) 3 >>= _) _ _ _
 refine wpAny_bind (wpAny_field hz rfl (x:=.ref TI) rfl ?_);refine wpAny_bind (wpAny_seqItems hTI rfl ?_);show wpAny _ _ (Builtin.SmallTypes.ownedTupleIsFree (.ref z) >>= _) _ _ _
 refine wpAny_bind (zS hz hf ?_ λh₀ f hz₀ hs₀=>?_)
 ·simp only[if_true];refine wpAny_bind (wpAny_rule ?_);refine wpAny_bind (wpAny_field hz rfl (x:=.ref TO) rfl ?_);refine wpAny_bind (wpAny_setField_rec hz (by simp) λh₁ hz₁ hs₁=>?_);replace hz₁:xu h₁ z TI TO .ellipsis f1:=hz₁;refine wpAny_bind ?_;simp only[List.zipIdx_cons,List.zipIdx_nil,gF,fK];refine wpAny_bind (wpAny_bind (wpAny_onRaise ?_));show wpAny _ _ (Builtin.SmallTypes.nextOf (.ref i1) >>= _) _ _ _
  cases hx:xs[k]? with
  | none =>
   refine wpAny_bind (wpAny_nextOf_list_end hh (h1.extBut hs₁.extBut D.i1z) (hl1.extBut hs₁.extBut D.l1z) hx λh₂ e hs₂ he=>?_);obtain ⟨oe,hoe,hce⟩:=he;have hz₂:xu h₂ z TI TO .ellipsis f1:=hs₂ _ _ D.i1z.symm hz₁;have hez:e≠z:=λx=>by subst x;rw[hz₂] at hoe;cases hoe;simp at hce
   refine wpAny_setField_rec hz₂ (by simp) λh₃ _ hs₃=>hE h₃ e (λc o c1 _ c3 _ x=>hs₃.extBut _ _ c1 (hs₂ _ _ c3 (hs₁.extBut _ _ c1 x))) ⟨oe,hs₃.extBut _ _ hez hoe,hce⟩
  | some x =>
   have hy:ys[k]?=none:=by rcases hend with h | h;rw[hx] at h;cases h;exact h
   refine wpAny_bind (wpAny_nextOf_list_item (h1.extBut hs₁.extBut D.i1z) (hl1.extBut hs₁.extBut D.l1z) hx λh₂ h1₂ hs₂=>wpAny_pure ?_);have hTO₂:IsPair h₂ TO a b:=hs₂.extBut _ _ D.TOi1 (hs₁.extBut _ _ D.TOz hTO);refine wpAny_bind (wpAny_seqItems hTO₂ rfl ?_);refine wpAny_bind (wpAny_updateSeq_pair hTO₂ λh₃ hTO₃ hs₃=>?_);refine wpAny_bind (wpAny_letGo (wpAny_pure ?_));refine wpAny_bind (wpAny_bind (wpAny_onRaise ?_));show wpAny _ _ (Builtin.SmallTypes.nextOf (.ref i2) >>= _) _ _ _
   refine wpAny_bind (wpAny_nextOf_list_end hh (((h2.extBut hs₁.extBut D.i2z).extBut hs₂.extBut D.i12.symm).extBut hs₃.extBut D.TOi2.symm)
    (((hl2.extBut hs₁.extBut D.l2z).extBut hs₂.extBut D.l2i1).extBut hs₃.extBut D.l2TO) hy λh₄ e hs₄ he=>?_)
   obtain ⟨oe,hoe,hce⟩:=he;have hz₄:xu h₄ z TI TO .ellipsis f1:=hs₄ _ _ D.i2z.symm (hs₃.extBut _ _ D.TOz.symm (hs₂.extBut _ _ D.i1z.symm hz₁));have hez:e≠z:=λx=>by subst x;rw[hz₄] at hoe;cases hoe;simp at hce
   refine wpAny_setField_rec hz₄ (by simp) λh₅ _ hs₅=>hE h₅ e (λc o c1 c2 c3 c4 x=>hs₅.extBut _ _ c1 (hs₄ _ _ c4 (hs₃.extBut _ _ c2 (hs₂.extBut _ _ c3 (hs₁.extBut _ _ c1 x))))) ⟨oe,hs₅.extBut _ _ hez hoe,hce⟩
 ·simp only[cE,if_false];refine wpAny_bind ?_;simp only[List.forIn_toArray,gF,fK];refine wpAny_bind (wpAny_bind (wpAny_holding ?_));show wpAny _ _ (Builtin.SmallTypes.nextOf (.ref i1) >>= _) _ _ _
  cases hx:xs[k]? with
  | none=>exact wpAny_bind (wpAny_nextOf_list_end hh (h1.extBut hs₀.extBut D.i1z) (hl1.extBut hs₀.extBut D.l1z) hx λh₂ e hs₂ he=>hE h₂ e (λc o c1 _ c3 _ x=>hs₂ _ _ c3 (hs₀.extBut _ _ c1 x)) he)
  | some x =>
   have hy:ys[k]?=none:=by rcases hend with h | h;rw[hx] at h;cases h;exact h
   refine wpAny_bind (wpAny_nextOf_list_item (h1.extBut hs₀.extBut D.i1z) (hl1.extBut hs₀.extBut D.l1z) hx λh₂ h1₂ hs₂=>wpAny_pure (wpAny_pure ?_));refine wpAny_bind (wpAny_bind (wpAny_holding ?_));show wpAny _ _ (Builtin.SmallTypes.nextOf (.ref i2) >>= _) _ _ _
   exact wpAny_bind (wpAny_nextOf_list_end hh ((h2.extBut hs₀.extBut D.i2z).extBut hs₂.extBut D.i12.symm) ((hl2.extBut hs₀.extBut D.l2z).extBut hs₂.extBut D.l2i1) hy λh₄ e hs₄ he=>hE h₄ e (λc o c1 _ c3 c4 x=>hs₄ _ _ c4 (hs₂.extBut _ _ c3 (hs₀.extBut _ _ c1 x))) he)
theorem AH (D:ZipApart z TI TO i1 i2 l1 l2)
  (hz:xu s.heap z TI TO f0 f1) (hf:Fx f0) (hTI:IsPair s.heap TI (.ref i1) (.ref i2)) (hTO:IsPair s.heap TO a b)
  (h1:s.heap.IsListIter i1 l1 k) (h2:s.heap.IsListIter i2 l2 k) (hl1:s.heap.IsList l1 xs) (hl2:s.heap.IsList l2 ys) (hx:xs[k]?=some x) (hy:ys[k]?=some y)
  (hQ:∀h',J9 s z TI TO i1 i2 l1 l2 k x y h'->Q (.ref s.heap.objs.size) { s with heap:=h' }):wpAny (model prog w) A (Builtin.SmallTypes.nextOf (.ref z)) Q E s:=by
 have hT:s.TypeIs (.ref z) "zip":=⟨_,hz,rfl⟩;unfold Builtin.SmallTypes.nextOf
 exact wpAny_bind (wpAny_callSpecial?_slot (name:=Str.ofString "__next__") hT F.slot_zip_next
  (wpAny_call_entry F.slot_zip_next hT F.entry_zip_next (DY D hz hf hTI hTO h1 h2 hl1 hl2 hx hy λh' q=>wpAny_pure (hQ h' q)) (F.args_zip_next_1 _)))
theorem EV (D:ZipApart z TI TO i1 i2 l1 l2) (hn:e∉[z,TO,i1,i2]) (he:IsEnum s.heap e z k old)
  (hz:xu s.heap z TI TO f0 f1) (hf:Fx f0) (hTI:IsPair s.heap TI (.ref i1) (.ref i2)) (hTO:IsPair s.heap TO a b)
  (h1:s.heap.IsListIter i1 l1 k) (h2:s.heap.IsListIter i2 l2 k) (hl1:s.heap.IsList l1 xs) (hl2:s.heap.IsList l2 ys) (hx:xs[k]?=some x) (hy:ys[k]?=some y)
  (hQ:∀h₁ h',J9 s z TI TO i1 i2 l1 l2 k x y h₁->IsEnumOut h' e z ((k:Int)+1) (.ref s.heap.objs.size) (s.heap.objs.size+1) →
   h'.get? (s.heap.objs.size+1)=some { cls:=.type "tuple",data:=.seq #[.int k s.toks,.ref s.heap.objs.size] } →
   (∀c o,c≠e->h₁.get? c=some o->h'.get? c=some o)->Q (some (.ref (s.heap.objs.size+1))) { s with heap:=h',toks:=s.toks+1 }) :
  wpAny (model prog w) A (pyNext (.ref e)) Q E s:=by
 have hT:s.TypeIs (.ref e) "enumerate":=⟨_,he,rfl⟩;simp only[az,aB,or_false,not_or] at hn;unfold pyNext
 refine wpAny_bind (wpAny_attempt (wpAny_callSpecial?_slot (name:=Str.ofString "__next__") hT F.slot_enumerate_next
  (wpAny_call_entry F.slot_enumerate_next hT F.entry_enumerate_next ?_ (F.args_enumerate_next_1 _))))
 show wpAny _ _ (field (.ref e) 2 >>= _) _ _ _
 refine wpAny_bind (wpAny_field he rfl (x:=.ref z) rfl ?_);refine wpAny_bind (AH D hz hf hTI hTO h1 h2 hl1 hl2 hx hy λh₁ q=>?_);obtain ⟨_,_,_,_,_,sz1,kp⟩:=id q;have he₁:IsEnum h₁ e z k old:=kp _ _ hn.1 hn.2.1 hn.2.2.1 hn.2.2.2 he;show wpAny _ _ (field (.ref e) 3 >>= _) _ _ _
 refine wpAny_bind (wpAny_field he₁ rfl (x:=rawInt k) rfl ?_);show wpAny _ _ (field (.ref e) 4 >>= _) _ _ _
 refine wpAny_bind (wpAny_field he₁ rfl (x:=.none) rfl ?_);show wpAny _ _ (mkInt k >>= _) _ _ _
 refine wpAny_bind (wpAny_mkInt ?_);show wpAny _ _ (setField (.ref e) 3 (rawInt ((k:Int)+1)) >>= _) _ _ _
 refine wpAny_bind (wpAny_setField_rec he₁ (by simp) λh₂ he₂ hs₂=>?_);replace he₂:IsEnum h₂ e z ((k:Int)+1) old:=he₂;show wpAny _ _ (setField (.ref e) 4 .none >>= _) _ _ _
 refine wpAny_bind (wpAny_setField_rec he₂ (by simp) λh₃ he₃ hs₃=>?_);replace he₃:IsEnum h₃ e z ((k:Int)+1) old:=he₃;show wpAny _ _ (newTuple [.int k _,.ref s.heap.objs.size] >>= _) _ _ _
 refine wpAny_bind (wpAny_newTuple ?_);have hsz:h₃.objs.size=s.heap.objs.size+1:=by rw[hs₃.1,hs₂.1,<- sz1]
 have he₄:IsEnum (h₃.push { cls:=.type "tuple",data:=.seq #[.int k s.toks,.ref s.heap.objs.size] }) e z ((k:Int)+1) old:=Heap.get?_push_of_some _ he₃;have hel:e < s.heap.objs.size+1:=pJ (Heap.lt_size he);have ht₄:(h₃.push { cls:=.type "tuple",data:=.seq #[.int k s.toks,.ref s.heap.objs.size] }).get? (s.heap.objs.size+1)=some { cls:=.type "tuple",data:=.seq #[.int k s.toks,.ref s.heap.objs.size] }:=by rw[<- hsz];exact Heap.get?_push_size _ rfl
 have hk₄:∀c o,c≠e->h₁.get? c=some o->(h₃.push { cls:=.type "tuple",data:=.seq #[.int k s.toks,.ref s.heap.objs.size] }).get? c=some o:=λc o c1 y=>Heap.get?_push_of_some _ (hs₃.extBut _ _ c1 (hs₂.extBut _ _ c1 y))
 generalize (h₃.push { cls:=.type "tuple",data:=.seq #[.int k s.toks,.ref s.heap.objs.size] })=h₄ at he₄ ht₄ hk₄ ⊢;refine wpAny_bind ?_;unfold Builtin.SmallTypes.ownedTupleIsFree;refine wpAny_bind (wpAny_field he₄ rfl (x:=.none) rfl (wpAny_pure ?_));simp only[if_true];refine wpAny_bind (wpAny_rule ?_);refine wpAny_bind (wpAny_field he₄ rfl (x:=old) rfl ?_);refine wpAny_bind (wpAny_setField_rec he₄ (by simp) λh₅ he₅ hs₅=>?_);replace he₅:IsEnum h₅ e z ((k:Int)+1) (.ref s.heap.objs.size):=he₅;refine wpAny_bind ?_;unfold Builtin.SmallTypes.ownedTupleHandOut;refine wpAny_bind (wpAny_setField_rec he₅ (by simp) λh₆ he₆ hs₆=>?_);replace he₆:IsEnumOut h₆ e z ((k:Int)+1) (.ref s.heap.objs.size) h₃.objs.size:=he₆;refine wpAny_setField_rec he₆ (by simp) λh₇ he₇ hs₇=>?_
 replace he₇:IsEnumOut h₇ e z ((k:Int)+1) (.ref s.heap.objs.size) h₃.objs.size:=he₇;rw[hsz] at he₇;refine wpAny_bind (wpAny_letGo (wpAny_pure ⟨_,rfl,wpAny_pure ?_⟩));show Q (some (.ref h₃.objs.size)) _
 rw[hsz];have up:∀c o,c≠e->h₄.get? c=some o->h₇.get? c=some o:=λc o c1 y=>hs₇.extBut _ _ c1 (hs₆.extBut _ _ c1 (hs₅.extBut _ _ c1 y))
 exact hQ h₁ h₇ q he₇ (up _ _ (fV hel) ht₄) λc o c1 y=>up c o c1 (hk₄ c o c1 y)
theorem HH (hh:A.handled=none) (D:ZipApart z TI TO i1 i2 l1 l2) (he:IsEnum s.heap e z k old)
  (hz:xu s.heap z TI TO f0 f1) (hf:Fx f0) (hTI:IsPair s.heap TI (.ref i1) (.ref i2)) (hTO:IsPair s.heap TO a b)
  (h1:s.heap.IsListIter i1 l1 k) (h2:s.heap.IsListIter i2 l2 k) (hl1:s.heap.IsList l1 xs) (hl2:s.heap.IsList l2 ys) (hend:xs[k]?=none\/ys[k]?=none)
  (hQ:∀h',(∀c o,c≠z->c≠TO->c≠i1->c≠i2->s.heap.get? c=some o->h'.get? c=some o)->Q none { s with heap:=h' }):wpAny (model prog w) A (pyNext (.ref e)) Q E s:=by
 have hT:s.TypeIs (.ref e) "enumerate":=⟨_,he,rfl⟩;have hZ:s.TypeIs (.ref z) "zip":=⟨_,hz,rfl⟩;unfold pyNext
 refine wpAny_bind (wpAny_attempt (wpAny_callSpecial?_slot (name:=Str.ofString "__next__") hT F.slot_enumerate_next
  (wpAny_call_entry F.slot_enumerate_next hT F.entry_enumerate_next ?_ (F.args_enumerate_next_1 _))))
 show wpAny _ _ (field (.ref e) 2 >>= _) _ _ _
 refine wpAny_bind (wpAny_field he rfl (x:=.ref z) rfl ?_);refine wpAny_bind ?_;unfold Builtin.SmallTypes.nextOf
 refine wpAny_bind (wpAny_callSpecial?_slot (name:=Str.ofString "__next__") hZ F.slot_zip_next
  (wpAny_call_entry F.slot_zip_next hZ F.entry_zip_next (FV hh D hz hf hTI hTO h1 h2 hl1 hl2 hend λh' e hk he'=>?_) (F.args_zip_next_1 _)))
 obtain ⟨o,ho,hc⟩:=he';refine wpAny_bind (wpAny_isInstance (T:="StopIteration") (b:=true) ⟨o,ho,hc⟩ isSubtype_stop ?_);exact wpAny_pure (hQ _ hk)
end
theorem xB {z TI TO i1 i2 l1 l2:Addr} (hz:xu h z TI TO f0 f1) (hTI:IsPair h TI (.ref i1) (.ref i2)) (hTO:IsPair h TO a b)
  (h1:h.IsListIter i1 l1 k1) (h2:h.IsListIter i2 l2 k2) (hl1:h.IsList l1 xs) (hl2:h.IsList l2 ys) (hT:TI≠TO) (hi:i1≠i2):ZipApart z TI TO i1 i2 l1 l2:=by
 obtain ⟨o1,g1,c1,_⟩:=h1;obtain ⟨o2,g2,c2,_⟩:=h2;obtain ⟨p1,q1,d1,_⟩:=hl1;obtain ⟨p2,q2,d2,_⟩:=hl2;refine ⟨bF hTI hz ?_,bF hTO hz ?_,bF g1 hz ?_,bF g2 hz ?_,hT,bF hTI g1 ?_,bF hTI g2 ?_,bF hTO g1 ?_,bF hTO g2 ?_,hi,bF q1 hz ?_,bF q1 hTO ?_,bF q1 g1 ?_,bF q1 g2 ?_,bF q2 hz ?_,bF q2 hTO ?_,bF q2 g1 ?_,bF q2 g2 ?_⟩
 all_goals first
  | (rw[d1];first | (rw[c1];exact dN (by decide)) | (rw[c2];exact dN (by decide)) | exact dN (by decide))
  | (rw[d2];first | (rw[c1];exact dN (by decide)) | (rw[c2];exact dN (by decide)) | exact dN (by decide))
  | (rw[c1];exact dN (by decide))
  | (rw[c2];exact dN (by decide))
  | exact dN (by decide)
def Ic (K : FG9) (l1 l2 : Addr) : It :=
  ⟨λi H => ∃ xs ys x y, bB K H l1 xs /\ bB K H l2 ys /\ xs[i]? = some x /\ ys[i]? = some y,
   λi H v H' => ∃ p q x y, v = .ref p /\ H q = none /\ H p = none /\ p ≠ q /\ H' = upd (upd H q (.tup [x, y])) p (.tup [.int i, .ref q]) /\ (∀ xs, bB K H l1 xs → xs[i]? = some x) /\ ∀ ys, bB K H l2 ys → ys[i]? = some y,
   λi H => ∃ xs ys, bB K H l1 xs /\ bB K H l2 ys /\ (xs.length ≤ i \/ ys.length ≤ i)⟩
def tnQ (e z TI TO i1 i2 l1 l2:Addr) (i:Nat) (h:Heap):Prop:=(∃old,IsEnum h e z i old)/\(∃f0 f1,Fx f0/\xu h z TI TO f0 f1)/\IsPair h TI (.ref i1) (.ref i2)/\(∃a b,IsPair h TO a b)/\h.IsListIter i1 l1 i/\h.IsListIter i2 l2 i
theorem Jn {e z TI TO i1 i2 l1 l2:Addr} (st:tnQ e z TI TO i1 i2 l1 l2 i h):e∉[z,TI,TO,i1,i2]:=by
 obtain ⟨⟨old,he⟩,⟨f0,f1,hf,hz⟩,hTI,⟨a,c,hTO⟩,⟨o1,g1,c1,d1⟩,⟨o2,g2,c2,d2⟩⟩:=st;simp only[az,aB,or_false,not_or];exact ⟨bF he hz (dN (by decide)),bF he hTI (dN (by decide)),bF he hTO (dN (by decide)),bF he g1 (by rw[c1];exact dN (by decide)),bF he g2 (by rw[c2];exact dN (by decide))⟩
theorem D4 {P:Program} {w:World} {K:FG9} {elts:List Expr} {kk:Nat} {tpos:Pos} (e z TI TO i1 i2 l1 l2:Addr) (hT:TI≠TO) (hi:i1≠i2):Turn P w K (.Tuple elts kk tpos) (Ic K l1 l2) [e,z,TI,TO,i1,i2] e (tnQ e z TI TO i1 i2 l1 l2) where
 mem:=by simp
 obj:=λi h st b hb=>by
  obtain ⟨⟨old,he⟩,⟨f0,f1,hf,hz⟩,hTI,⟨a,c,hTO⟩,⟨o1,g1,c1,d1⟩,⟨o2,g2,c2,d2⟩⟩:=st;simp only[az,aB,or_false] at hb;rcases hb with rfl | rfl | rfl | rfl | rfl | rfl
  ·exact ⟨_,he,λv q=>nomatch q⟩
  ·exact ⟨_,hz,λv q=>nomatch q⟩
  ·exact ⟨_,hTI,λv q=>nomatch q⟩
  ·exact ⟨_,hTO,λv q=>nomatch q⟩
  ·exact ⟨o1,g1,λv q=>by rw[d1] at q;cases q⟩
  ·exact ⟨o2,g2,λv q=>by rw[d2] at q;cases q⟩
 keep:=λi h h' st k=>by
  obtain ⟨⟨old,he⟩,⟨f0,f1,hf,hz⟩,hTI,⟨a,c,hTO⟩,h1,h2⟩:=st;exact ⟨⟨old,k e (by simp) _ he⟩,⟨f0,f1,hf,k z (by simp) _ hz⟩,k TI (by simp) _ hTI,⟨a,c,k TO (by simp) _ hTO⟩,h1.at λo e=>k i1 (by simp) o e,h2.at λo e=>k i2 (by simp) o e⟩
 item:=by
  intro X hP hw hK hc i pins s σ H E I hf st hg;subst hP hw hK;have hn:=Jn st;obtain ⟨⟨old,he⟩,⟨f0,f1,hf0,hz⟩,hTI,⟨a,c,hTO⟩,h1,h2⟩:=st;obtain ⟨xs,ys,x,y,qx,qy,ex,ey⟩:=hg;obtain ⟨us,rx,px,_⟩:=I.list qx;obtain ⟨ws,ry,py,_⟩:=I.list qy;obtain ⟨u,eu,ru⟩:=rx.get ex;obtain ⟨v,ev,rv⟩:=ry.get ey;have D:=xB hz hTI hTO h1 h2 px.isList py.isList hT hi;simp only[az,aB,or_false,not_or] at hn;obtain ⟨n1,n2,n3,n4,n5⟩:=hn;refine EV D (by simp [n1,n3,n4,n5]) he hz hf0 hTI hTO h1 h2 px.isList py.isList (x:=u) (y:=v) (by simpa using eu) (by simpa using ev) λh₁ h' q heo tp kp=>?_
  obtain ⟨⟨g0,g1,fg,hz'⟩,⟨a',b',hTO'⟩,h1',h2',pr,sz,kq⟩:=q;refine ⟨_,rfl,wpAny_letOwnedTupleGo_enum heo λh'' he'' hs=>?_⟩;have hT0:H s.heap.objs.size=none:=I.hok.fresh (ay _);have hT1:H (s.heap.objs.size+1)=none:=I.hok.fresh (pK _);have elt:e < s.heap.objs.size:=Heap.lt_size he;have u1:∀b o,b≠e->h₁.get? b=some o->h''.get? b=some o:=λb o hb q=>(hs.2 b hb).trans (kp b o hb q)
  have up:∀b o,b∉[e,z,TI,TO,i1,i2]->s.heap.get? b=some o->h''.get? b=some o:=λb o hb q=>by
   simp only[az,aB,or_false,not_or] at hb;exact u1 b o hb.1 (kq b o hb.2.1 hb.2.2.2.1 hb.2.2.2.2.1 hb.2.2.2.2.2 q)
  have tup:h''.get? s.heap.objs.size=some { cls:=.type "tuple",data:=.seq #[u,v] }:=u1 _ _ (fV elt) pr;have tup2:h''.get? (s.heap.objs.size+1)=some { cls:=.type "tuple",data:=.seq #[.int i s.toks,.ref s.heap.objs.size] }:=(hs.2 _ (fV (pJ elt))).trans tp;have I1:Inv X pins σ H { s with heap:=h'',toks:=s.toks+1 }:=I.moved (g':=s.gens) (d':=s.drawn) (t':=s.toks+1) (ch:=[e,z,TI,TO,i1,i2]) hf up I.bare;have I2:=I1.track (o:=.tup [x,y]) (I.fpOk (ay _) hT0) ⟨fM rfl,[u,v],.cons ru (.cons rv .nil),⟨_,tup,rfl,_,rfl⟩⟩;have ne:s.heap.objs.size+1≠s.heap.objs.size:=Nat.succ_ne_self _;have hT2:(upd H s.heap.objs.size (.tup [x,y])) (s.heap.objs.size+1)=none:=by rw[aN ne];exact hT1
  have I3:=I2.track (o:=.tup [.int i,.ref s.heap.objs.size]) (I.fpOk (pK _) hT2) ⟨fM rfl,[.int i s.toks,.ref s.heap.objs.size],.cons ⟨_,rfl⟩ (.cons rfl .nil),⟨_,tup2,rfl,_,rfl⟩⟩;refine ⟨.ref (s.heap.objs.size+1),_,I3,rfl,⟨_,_,x,y,rfl,hT0,hT1,ne,rfl,λxs' q=>by rw[I.list_inj q qx];exact ex,λys' q=>by rw[I.list_inj q qy];exact ey⟩,?_,λb hb=>?_⟩
  ·exact ⟨⟨_,by simpa using he''⟩,⟨g0,g1,fg,u1 _ _ (Ne.symm n1) hz'⟩,u1 _ _ (Ne.symm n2) (kq _ _ D.TIz D.TITO D.TIi1 D.TIi2 hTI),⟨a',b',u1 _ _ (Ne.symm n3) hTO'⟩,h1'.at λo q=>u1 _ o (Ne.symm n4) q,h2'.at λo q=>u1 _ o (Ne.symm n5) q⟩
  ·have lt:b < s.heap.objs.size:=by
    obtain ⟨o1,g1,_⟩:=h1;obtain ⟨o2,g2,_⟩:=h2;simp only[az,aB,or_false] at hb;rcases hb with rfl | rfl | rfl | rfl | rfl | rfl
    ·exact elt
    ·exact Heap.lt_size hz
    ·exact Heap.lt_size hTI
    ·exact Heap.lt_size hTO
    ·exact Heap.lt_size g1
    ·exact Heap.lt_size g2
   rw[aN (bw (pJ lt)),aN (bw lt)];exact (hf b hb).1
 done:=by
  intro X hP hw hK hc i pins s σ H E I hf st hg;subst hP hw hK;obtain ⟨⟨old,he⟩,⟨f0,f1,hf0,hz⟩,hTI,⟨a,c,hTO⟩,h1,h2⟩:=st;obtain ⟨xs,ys,qx,qy,hend⟩:=hg;obtain ⟨us,rx,px,_⟩:=I.list qx;obtain ⟨ws,ry,py,_⟩:=I.list qy;have lx:=rx.length;have ly:=ry.length;have D:=xB hz hTI hTO h1 h2 px.isList py.isList hT hi
  refine HH (I.ok.hd hc) D he hz hf0 hTI hTO h1 h2 px.isList py.isList (by
   rcases hend with q | q
   ·exact .inl (by simp;lia)
   ·exact .inr (by simp;lia)) λh' hk=>⟨rfl,?_⟩
  exact I.moved (g':=s.gens) (d':=s.drawn) (t':=s.toks) (ch:=[e,z,TI,TO,i1,i2]) hf (λb o hb q=>by
   simp only[az,aB,or_false,not_or] at hb;exact hk b o hb.2.1 hb.2.2.2.1 hb.2.2.2.2.1 hb.2.2.2.2.2 q) I.bare
 self:=λ_ _ _ _ _ st h=>let ⟨⟨_,he⟩,_⟩:=st;wpAny_pyIter_enum he h
theorem tW (z TI TO:Addr) (f0:Value) :
  Meets (Builtin.«enumerate.__new__» ⟨[.type "enumerate",.ref z],[]⟩) (λ_ R s=>IsZip s.heap z TI TO f0 /\
   R (.ok (.ret (.ref s.heap.objs.size))) { s with heap:=s.heap.push { cls:=.type "enumerate",data:=.fields #[.none,.bool false,.ref z,rawInt 0,.none,.none] } }) :=
 .of_wp λprog w A R s h=>by
  obtain ⟨hp,g,d,tk,os⟩:=s;obtain ⟨hl,h⟩:=h;have hsub:=sub_enumerate;have hL:IsZip (Shared.heap ⟨hp,g,d,tk,os⟩) z TI TO f0:=hl
  wp_walk using wpAny_loadPart' hl
  refine wpAny_stack_any λst=>wpAny_pure ?_
  split
  ·rename_i c _ _ _ _ _
   cases (c == Value.type "enumerate")
   ·wp_walk using wpAny_loadPart' hl,wpAny_pyIter_zip hL
    exact ⟨_,rfl,h⟩
   ·wp_walk using wpAny_loadPart' hl,wpAny_pyIter_zip hL
    exact ⟨_,rfl,h⟩
  ·wp_walk using wpAny_loadPart' hl,wpAny_pyIter_zip hL
   exact ⟨_,rfl,h⟩
theorem uY {z TI TO:Addr} (hz:IsZip s.heap z TI TO f0)
  (h:∀h',IsEnum h' s.heap.objs.size z 0 .none->(∀b o,s.heap.get? b=some o->h'.get? b=some o)->Q (.ref s.heap.objs.size) { s with heap:=h' }) :
  wpAny (model prog w) A (call (.type "enumerate") [.ref z]) Q E s:=by
 refine callType_new F.called_enumerate (by decide) (F.typeCall_enumerate_1 _) (F.newCall_enumerate_1 _) (λobj=>F.args_object_init_2 obj _) F.entry_enumerate_new (tW z TI TO f0) ⟨hz,?_⟩;have he:IsEnum (s.heap.push { cls:=.type "enumerate",data:=.fields #[.none,.bool false,.ref z,rawInt 0,.none,.none] }) s.heap.objs.size z 0 .none:=Heap.get?_push_size _ rfl;exact ⟨⟨_,he,rfl⟩,h _ he λb o x=>Heap.get?_push_of_some _ x⟩
section
variable {X:Cx}
def iEz (K:FG9) (ta:TA):TI:=λσ H R=>ta σ H λvs H1=>∃l1 l2,vs=[.ref l1,.ref l2]/\(∃xs,bB K H1 l1 xs)/\(∃ys,bB K H1 l2 ys)/\R (Ic K l1 l2) H1
theorem IU {a b:Expr} {ta:TA} {p pos p' pos' tpos:Pos} {elts:List Expr} {kk:Nat} (hg':Gl X "enumerate") (hm':X.mg "enumerate"=none) (hg:Gl X "zip") (hm:X.mg "zip"=none) (ha:PA X [a,b] ta) (hs:starEach [a,b] X.env=[(false,eval a X.env),(false,eval b X.env)]:=by rfl) (hs2:starEach [b] X.env=[(false,eval b X.env)]:=by rfl)
  (hs3:starEach [.Call (.Name "zip" p) [a,b] [] pos] X.env=[(false,eval (.Call (.Name "zip" p) [a,b] [] pos) X.env)]:=by rfl) :
  PI X (.Tuple elts kk tpos) (.Call (.Name "enumerate" p') [.Call (.Name "zip" p) [a,b] [] pos] [] pos') (iEz X.K ta):=by
 intro pins s σ H R I h;refine Call_ (ij I hg' hm' boot_enumerate (PyProof.Rows.callWith_type1 ?_ (by rw[hs3];rfl) rfl));rw[hs3];show wpAny _ _ (spliced ((false,eval _ X.env) :: backTo pos' (starEach [] X.env))) _ _ s
 refine Calls.spliced_cons (Call_ (ij I hg hm boot_zip (PyProof.Rows.callWith_type1 (eI (ha pos pins s σ H _ I h) λus s1 ⟨vs,H1,I1,r1,q1⟩=>?_) (by rw[hs,hs2]) (by rw[hs2];rfl))));obtain ⟨l1,l2,e,⟨xs,qx⟩,⟨ys,qy⟩,q⟩:=q1;subst e;obtain ⟨u,v,rfl,ru,rv⟩:=vals2 r1;cases ru;cases rv;obtain ⟨us,rx,px,_⟩:=I1.list qx;obtain ⟨ws,ry,py,_⟩:=I1.list qy;refine call_zip_2 px.isList py.isList λh' a1 a2 a3 a4 a5 a6 hk=>Calls.spliced_nil ?_
 refine uY (s:={ s1 with heap:=h' }) a1 λh'' he hk'=>wpAny_pyIter_enum he ?_
 have sz:h'.objs.size=s1.heap.objs.size+5:=a6;have I2:Inv X pins σ H1 { s1 with heap:=h'' }:=I1.kept (t':=s1.toks) λb o x=>hk' b o (hk b o x)
 refine ⟨_,[h'.objs.size,s1.heap.objs.size+4,s1.heap.objs.size+2,s1.heap.objs.size+3,s1.heap.objs.size,s1.heap.objs.size+1],_,_,H1,rfl,I2,D4 h'.objs.size (s1.heap.objs.size+4) (s1.heap.objs.size+2) (s1.heap.objs.size+3) s1.heap.objs.size (s1.heap.objs.size+1) l1 l2 (bw (dm _)) (bw (dm _)),⟨⟨_,he⟩,⟨_,_,.inl rfl,hk' _ _ a1⟩,hk' _ _ a2,⟨_,_,hk' _ _ a3⟩,a4.at λo x=>hk' _ o x,a5.at λo x=>hk' _ o x⟩,λb hb=>?_,q⟩
 have hb':s1.heap.objs.size<=b:=by
  simp only[az,aB,or_false] at hb;rcases hb with rfl | rfl | rfl | rfl | rfl | rfl <;> first | exact fJ _ _ | exact ay _ | (rw[sz];exact fJ _ _)
 exact I1.fpOk hb' (I1.hok.fresh hb')
end
theorem Gw {K:FG9} (h:ta σ H λvs H1=>∃l1 l2,vs=[.ref l1,.ref l2]/\(∃xs,bB K H1 l1 xs)/\(∃ys,bB K H1 l2 ys)/\R (Ic K l1 l2) H1):iEz K ta σ H R:=h
theorem HF {K:FG9} {g:TG} {tb:TS} {D:Ends} (Pv:Nat->St->Hp->Prop) (hw:ws.length=xs.length) (h0:Pv 0 σ H) (hl:∀i σ H,i<=xs.length->Pv i σ H->bB K H l1 xs/\bB K H l2 ws)
  (hs:∀i x y σ H p q,xs[i]?=some x->ws[i]?=some y->Pv i σ H->H q=none->H p=none->p≠q->g (.ref p) σ (upd (upd H q (.tup [x,y])) p (.tup [.int i,.ref q])) λσ2 H2=>tb { D with nx:=Pv (i+1),ct:=Pv (i+1),bk:=D.nx } σ2 H2) (hd:∀σ H,Pv xs.length σ H->D.nx σ H) :
  ∃W:Nat->Nat->St->Hp->Prop,(∃m,W 0 m σ H)/\∀i m σ H,W i m σ H →
   ((Ic K l1 l2).stop i H/\D.nx σ H)\/((Ic K l1 l2).go i H/\∃N:St->Hp->Prop,(∀σ' H',N σ' H'->∃m',m' < m/\W (i+1) m' σ' H')/\∀x H',(Ic K l1 l2).yld i H x H'->g x σ H' λσ2 H2=>tb { D with nx:=N,ct:=N,bk:=D.nx } σ2 H2):=by
 refine ⟨λi m σ H=>m=xs.length - i/\i<=xs.length/\Pv i σ H,⟨xs.length,by simp,bJ _,h0⟩,?_⟩;rintro i m σ H ⟨rfl,hi,p⟩;obtain ⟨q1,q2⟩:=hl i σ H hi p;by_cases hlt:i < xs.length
 ·refine .inr ⟨⟨xs,ws,xs[i],ws[i]'(by lia),q1,q2,by simp [hlt],by simp⟩,Pv (i+1),λσ' H' p'=>⟨xs.length - (i+1),by lia,rfl,hlt,p'⟩,λx H' y=>?_⟩;obtain ⟨r,q,x',y',rfl,hq,hr,ne,rfl,e1,e2⟩:=y;exact hs i x' y' σ _ r q (e1 xs q1) (e2 ws q2) p hq hr ne
 ·have e:i=xs.length:=by lia
  subst e;exact .inl ⟨⟨xs,ws,q1,q2,.inl (ay _)⟩,hd σ H p⟩
theorem DB:∀(n:Nat) (v:Nat->Nat->Rat),∃(k:Nat) (d:Nat->Rat),k<=n/\∀j,j < n->v k j=cJ k λi=>d i*v i j
 | 0,_=>⟨0,λ_=>0,ay _,λj hj=>absurd hj (Nat.not_lt_zero _)⟩
 | n+1,v=>by
  by_cases h:∀j,j < n+1->v 0 j=0
  ·exact ⟨0,λ_=>0,bJ _,λj hj=>h j hj⟩
  obtain ⟨j0,h⟩:=Classical.not_forall.mp h;obtain ⟨lj,hz⟩:=Classical.not_imp.mp h
  let r:Nat->Rat:=λi=>v (i+1) j0 / v 0 j0
  let u:Nat->Nat->Rat:=λi j=>v (i+1) j - r i*v 0 j
  obtain ⟨k,d,hk,e⟩:=DB n λi j=>u i (if j=j0 then n else j)
  have rz:∀i,r i*v 0 j0=v (i+1) j0:=λi=>yM hz
  have all:∀j,j < n+1->u k j=cJ k λi=>d i*u i j:=λj hj=>by
   by_cases e1:j=j0
   ·subst e1;have z:∀i,u i j=0:=λi=>by show v (i+1) j - r i*v 0 j=0;rw[rz];grind
    rw[z k,jb λi _=>by rw[z i,sC]]
   ·by_cases e2:j=n
    ·have:=e j0 (by lia);simp only[if_true] at this;rw[e2];exact this
    ·have:=e j (by lia);simp only[if_neg e1] at this;exact this
  refine ⟨k+1,λi=>if i=0 then r k - cJ k (λi=>d i*r i) else d (i - 1),by lia,λj hj=>?_⟩;have:=all j hj;rw[qA];simp only[if_true,Nat.add_one_ne_zero,if_false,Nat.add_sub_cancel]
  have e3:(cJ k λi=>d i*u i j)=(cJ k λi=>d i*v (i+1) j) - (cJ k λi=>d i*r i)*v 0 j:=by
   have e4:(cJ k λi=>d i*u i j)=cJ k λi=>d i*v (i+1) j+(- v 0 j)*(d i*r i):=c8 λi _=>by show d i*(v (i+1) j - r i*v 0 j)=_;grind
   rw[e4,sP,jf];grind
  rw[e3] at this;have e5:u k j=v (k+1) j - r k*v 0 j:=rfl;rw[e5] at this;grind
theorem Cz {u:Nat->Nat->Rat} {A:Nat->Nat->Rat} {l:Nat->Rat} (hu:∀t j,j < n->u (t+1) j=cJ n λi=>A j i*u t i) (h0:∀t,t < n->(cJ n λj=>l j*u t j)=0):∀t,(cJ n λj=>l j*u t j)=0:=by
 obtain ⟨k,d,hk,e⟩:=DB n u
 have go:∀s j,j < n->u (k+s) j=cJ k λi=>d i*u (i+s) j:=λs=>by
  induction s with
  | zero=>exact e
  | succ s ih =>
   intro j hj;rw[<- Nat.add_assoc,hu _ j hj,c8 λi hi=>by rw[ih i hi,<- jf]];rw[pQ];refine c8 λi _=>?_
   rw[<- Nat.add_assoc,hu _ j hj,<- jf];exact c8 λc _=>by grind
 intro t
 induction t using Nat.strongRecOn with
 | ind t ih =>
  by_cases ht:t < n
  ·exact h0 t ht
  obtain ⟨s,rfl⟩:∃s,t=k+s:=⟨t - k,by lia⟩;rw[c8 λj hj=>by rw[go s j hj,<- jf],pQ];refine jb λi hi=>?_
  have:(cJ n λj=>l j*(d i*u (i+s) j))=d i*cJ n λj=>l j*u (i+s) j:=by
   rw[<- jf];exact c8 λj _=>by grind
  rw[this,ih (i+s) (by lia),sC]
theorem vG {c:Rat}:∀{P p:List Rat},cy P (p.map λu=>c*u)=c*cy P p
 | [],_=>by rw[mP,mP,sC]
 | a :: P,[]=>by rw[List.map_nil,Ao,sC]
 | a :: P,x :: p=>by
  rw[cQ,oS,oS,vG (P:=P)];grind
theorem Fg {α β:Type} {f:α->β->Rat} {c:Rat}:∀{A:List α} {B:List β},List.zipWith (λl x=>c*f l x) A B=(List.zipWith f A B).map λu=>c*u
 | [],_=>by simp
 | _ :: _,[]=>by simp
 | a :: A,b :: B=>by rw[bN,bN,cQ,Fg (A:=A) (B:=B)]
section
variable {mv pt lk ps qs:LR9} {a b p q:List Rat} {c:Rat} {k:Nat}
theorem CV:cg mv pt (a.map λu=>c*u) (p.map λu=>c*u)=(cg mv pt a p).map λu=>c*u:=by
 unfold cg;rw[<- Fg];congr 1;funext line col;rw[<- cF,vG]
theorem Cs (h1:a.length=b.length):L2.seenQ lk (List.zipWith (λu v=>u+v) a b)=List.zipWith (λu v=>u+v) (L2.seenQ lk a) (L2.seenQ lk b):=by
 unfold L2.seenQ
 induction lk with
 | nil=>rfl
 | cons l r ih=>rw[cQ,cQ,cQ,bN,ih,rY h1]
theorem Ea:L2.seenQ lk (a.map λu=>c*u)=(L2.seenQ lk a).map λu=>c*u:=by
 unfold L2.seenQ;rw[mT];exact d5 λl _=>vG
end
def gW (n:Nat):List Rat:=List.replicate n 0
def oR (mv pt:LR9):Nat->List Rat->List Rat
 | 0,a=>a
 | t+1,a=>cg mv pt (oR mv pt t a) (gW pt.length)
def tw (mv pt lk:LR9) (t:Nat):LR9:=lk.map λl=>pt.map λp=>cy l (oR mv pt t p)
theorem oq:(gW n).length=n:=aT ..
theorem GU (h:x∈gW n):x=0:=iR h
theorem J7:∀{a:List Rat},(a.map λu=>0*u)=gW a.length
 | []=>rfl
 | x :: a=>by rw[cQ,J7,sv];rfl
theorem zL:∀{a:List Rat},List.zipWith (λu v=>u+v) a (gW a.length)=a
 | []=>rfl
 | x :: a=>by
  show List.zipWith (λu v=>u+v) (x :: a) (0 :: gW a.length)=_
  rw[bN,zL,jL]
theorem CT:∀{a:List Rat},List.zipWith (λu v=>u+v) (gW a.length) a=a
 | []=>rfl
 | x :: a=>by
  show List.zipWith (λu v=>u+v) (0 :: gW a.length) (x :: a)=_
  rw[bN,CT,Rat.zero_add]
theorem IX:List.zipWith (λu v=>u+v) (gW n) (gW n)=gW n:=by
 have:=zL (a:=gW n);rwa [oq] at this
theorem yf:((gW n).map λu=>c*u)=gW n:=by
 unfold gW;rw[List.map_replicate,sC]
section
variable {mv pt lk puts:LR9} {a b u l:List Rat} {c:Rat} {t k:Nat}
theorem ou (h:a.length=mv.length):∀{t:Nat},(oR mv pt t a).length=mv.length
 | 0=>h
 | t+1=>kg
theorem zE (la:a.length=mv.length) (lb:b.length=mv.length):∀{t:Nat},oR mv pt t (List.zipWith (λu v=>u+v) a b)=List.zipWith (λu v=>u+v) (oR mv pt t a) (oR mv pt t b)
 | 0=>rfl
 | t+1=>by
  show cg mv pt (oR mv pt t _) _=_
  rw[zE la lb,<- IX,vC (by rw[ou la,ou lb]) rfl];rfl
theorem Dn:∀{t:Nat},oR mv pt t (a.map λu=>c*u)=(oR mv pt t a).map λu=>c*u
 | 0=>rfl
 | t+1=>by
  show cg mv pt (oR mv pt t _) _=(cg mv pt (oR mv pt t a) _).map _
  rw[Dn,<- CV,yf]
theorem FF:oR mv pt t (gW mv.length)=gW mv.length:=by
 have h:gW mv.length=(gW mv.length).map λu=>0*u:=yf.symm
 rw[h,Dn,J7,<- h,ou oq]
theorem Al:∀{t:Nat},oR mv pt (t+1) a=oR mv pt t (cg mv pt a (gW pt.length))
 | 0=>rfl
 | t+1=>by
  show cg mv pt (oR mv pt (t+1) a) _=cg mv pt (oR mv pt t _) _
  rw[Al]
theorem yT {m:Nat}:∀{t:Nat},t<=m->oA mv pt a (List.replicate m (gW pt.length)) t=oR mv pt t a
 | 0,_=>rfl
 | t+1,h=>by
  rw[ka (pu:=gW pt.length) (by rw[jv,if_pos (by lia)]),yT (by lia)];rfl
theorem z6:L2.seenQ lk (gW k)=gW lk.length:=by
 have h:gW k=(gW k).map λu=>0*u:=yf.symm
 rw[h,Ea,J7];unfold L2.seenQ;rw[av]
theorem Ez:fH (pt.map λp=>L2.seenQ lk (oR mv pt t p)) lk.length=tw mv pt lk t:=by
 unfold fH tw;apply gU;intro i;rw[aY,aY];by_cases hi:i < lk.length
 ·rw[fG hi,ao hi];show some _=some _
  congr 1
  dsimp only
  rw[mT];refine d5 λp _=>?_
  show (L2.seenQ lk (oR mv pt t p)).getD i 0=_
  unfold L2.seenQ;rw[aA,aY,ao hi];rfl
 ·rw[b7 (by simpa using hi),b7 (by lia)];rfl
theorem Ae (D:dD mv pt lk) (hu:u.length=pt.length):∀{k:Nat},k<=pt.length->cy l (oR mv pt t (nextK mv pt (gW mv.length) u k))=cy ((pt.map λp=>cy l (oR mv pt t p)).take k) (u.take k)
 | 0,_=>by
  have e:nextK mv pt (gW mv.length) u 0=gW mv.length:=by
   rw[tR];exact z6 (lk:=mv)
  rw[e,FF,nN,nN,mP];have:=vG (c:=0) (P:=l) (p:=gW mv.length);rw[yf,sv] at this;exact this
 | k+1,hk=>by
  have kp:k < pt.length:=by lia
  have ku:k < u.length:=by lia
  have hw:=D.pw _ (a8 kp);rw[<- tS (λxs hx=>by rw[D.mw xs hx,oq]) kp ku hw,zE eO (by rw[av,hw]),Dn,rY (by rw[av,ou eO,ou hw]),vG,Ae D hu (by lia),qk (by rw[av];exact kp) ku];congr 1;rw[aA,aA,aY,ao kp,ao ku];exact Rat.mul_comm ..
theorem F7 (D:dD mv pt lk) (hu:u.length=pt.length):L2.seenQ lk (oR mv pt t (cg mv pt (gW mv.length) u))=(tw mv pt lk t).map λxs=>cy xs u:=by
 unfold tw L2.seenQ;rw[mT];refine d5 λl _=>?_
 have:=Ae (t:=t) (l:=l) D hu (ay _);rw[kf (ay _) (by lia),aw (by rw[av];lia),aw (by lia)] at this;exact this
theorem BX (ls:a.length=mv.length) (hu:u.length=pt.length):cg mv pt a u=List.zipWith (λu v=>u+v) (cg mv pt a (gW pt.length)) (cg mv pt (gW mv.length) u):=by
 rw[<- vC (by rw[ls,oq]) (by rw[hu,oq])];have e1:=zL (a:=a);have e2:=CT (a:=u);rw[ls] at e1;rw[hu] at e2;rw[e1,e2]
def IB (mv pt lk puts:LR9) (t:Nat):Nat->List Rat
 | 0=>gW lk.length
 | s+1=>List.zipWith (λu v=>u+v) (IB mv pt lk puts t s) ((tw mv pt lk (t - 1 - s)).map λxs=>cy xs (puts.getD s []))
theorem Cr (D:dD mv pt lk) (hp:∀xs∈puts,xs.length=pt.length):∀{s:Nat},s<=t->s<=puts.length->IB mv pt lk puts t s=L2.seenQ lk (oR mv pt (t - s) (oA mv pt (gW mv.length) puts s))
 | 0,_,_=>by rw[BY,FF,z6];rfl
 | s+1,h1,h2=>by
  have hs:s < puts.length:=by lia
  have es:=ao hs;have hw:=hp _ (a8 hs);have ln:=ks (pt:=pt) (pus:=puts) (st:=gW mv.length) (mv:=mv) oq (k:=s) (by lia);rw[ka es,BX ln hw,zE kg kg,<- Al,Cs (by rw[ou ln,ou kg]),F7 D hw];show List.zipWith _ (IB mv pt lk puts t s) _=_
  rw[Cr D hp (by lia) (by lia),show t - (s+1)+1=t - s by lia,show t - 1 - s=t - (s+1) by lia,aA,es];rfl
end
def vY (K:FG9) (H0 H:Hp) (g:LR9) (v:V):Prop:=∃q,v=V.ref q/\H0 q=none/\bO K H0 H q g
def Jy (K:FG9) (H0 H:Hp) (p:Addr) (gs:List (LR9)):Prop:=∃vs,H p=some (.lst vs)/\Paired (vY K H0 H) gs vs
section
variable {K:FG9} {Hc Hc' H H' H0 He:Hp} {g:LR9} {gs:List (LR9)} {vs:List V} {v:V} {p q b:Addr}
theorem vY.same (h:vY K H0 H g v) (e:aH H H'):vY K H0 H' g v:=by obtain ⟨q,a,b,c⟩:=h;exact ⟨q,a,b,c.same e⟩
theorem Jy.same (h:Jy K H0 H p gs) (e:aH H H'):Jy K H0 H' p gs:=by obtain ⟨vs,a,b⟩:=h;exact ⟨vs,e _ _ a,Paired.imp' (λ_ _ z=>z.same e) b⟩
end
def AE (K:FG9) (H:Hp) (l:Addr) (H':Hp) (ps:LR9) (v:V):Prop:=∃q Hq,v=V.ref q/\aH H Hq/\Hq l≠none/\Hq q=none/\bO K Hq H' q ps
section
variable {K:FG9} {l:Addr} {H H1 H':Hp} {ps:LR9} {v:V}
theorem AE.same (h:AE K H l H1 ps v) (e:aH H1 H'):AE K H l H' ps v:=by obtain ⟨q,Hq,a,b,c,d,g⟩:=h;exact ⟨q,Hq,a,b,c,d,g.same e⟩
theorem AE.upd {xs ys:List V} (h:AE K H l H1 ps v) (g0:H1 l=some (.lst xs)):AE K H l (upd H1 l (.lst ys)) ps v:=by obtain ⟨q,Hq,a,b,x,d,g⟩:=h;exact ⟨q,Hq,a,b,x,d,g.keepL (rD.set (J:=(λk=>k=l)) g0 rfl) d (λq' h z=>x (by rw[<- z];exact h))⟩
theorem AE.toF (h:AE K H l H1 ps v):vY K H H1 ps v:=by obtain ⟨q,Hq,a,b,_,d,g⟩:=h;exact ⟨q,a,b.none d,g.weak b⟩
end
theorem mD.app0 (h:mD k j l):mD k j (l++gW n):=by obtain ⟨M,V,a,b,c,d⟩:=h;exact ⟨M,V,a,b,c,λx hx=>(ar.mp hx).elim (d x) λz=>by rw[GU z];exact Fr.zero⟩
def fv (mv pt lk:LR9) (T:Nat):List (LR9):=(List.range T).map (tw mv pt lk)
section
variable {mv pt lk mv1 pt1 lk1 mv2 pt2 lk2:LR9} {a p1 p2 l1 l2:List Rat}
theorem Jo:cy a (gW n)=0:=by
 have:=vG (c:=0) (P:=a) (p:=gW n);rw[yf,sv] at this;exact this
theorem A9 (wm:∀xs∈mv,xs.length=mv.length) (la:a.length=mv.length):cg mv pt a (gW pt.length)=DN mv a:=by
 have lt:(fH pt mv.length).length=mv.length:=hR;unfold cg DN;apply BD
 ·rw[d6,av,lt,jM]
 intro i h1 h2;rw[av] at h2;rw[v8,iC,mi (by rw[wm _ (a8 h2)];exact la.symm),Jo,jL]
theorem t8 (wm:∀xs∈mv,xs.length=mv.length) (la:a.length=mv.length):∀t,oR mv pt t a=dX mv t a
 | 0=>rfl
 | t+1=>by
  show cg mv pt (oR mv pt t a) _=DN mv (dX mv t a)
  rw[t8 wm la t,A9 wm (mJ la t)]
theorem CL (wm:∀xs∈mv,xs.length=mv.length) (la:a.length=mv.length) (t:Nat) (hc:c < mv.length):(dX mv (t+1) a).getD c 0=cJ mv.length λj=>HG mv c j*(dX mv t a).getD j 0:=IW wm (mJ la t) hc
theorem Jm (w1:∀xs∈mv1,xs.length=mv1.length) (w2:∀xs∈mv2,xs.length=mv2.length) (e1:p1.length=mv1.length) (e2:p2.length=mv2.length) (f1:l1.length=mv1.length) (f2:l2.length=mv2.length)
  (h:∀t,t < mv1.length+mv2.length->cy l1 (dX mv1 t p1)=cy l2 (dX mv2 t p2)):∀t,cy l1 (dX mv1 t p1)=cy l2 (dX mv2 t p2):=by
 have key:∀t,(cJ (mv1.length+mv2.length) λj=>(if j < mv1.length then l1.getD j 0 else - l2.getD (j - mv1.length) 0)*(if j < mv1.length then (dX mv1 t p1).getD j 0 else (dX mv2 t p2).getD (j - mv1.length) 0))=cy l1 (dX mv1 t p1) - cy l2 (dX mv2 t p2):=λt=>by
  rw[pR,ui (by rw[mJ e1];exact f1),ui (by rw[mJ e2];exact f2),f1,f2];have a1:(cJ mv1.length λj=>(if j < mv1.length then l1.getD j 0 else - l2.getD (j - mv1.length) 0)*(if j < mv1.length then (dX mv1 t p1).getD j 0 else (dX mv2 t p2).getD (j - mv1.length) 0))=cJ mv1.length λc=>l1.getD c 0*(dX mv1 t p1).getD c 0:=c8 λj hj=>by rw[if_pos hj,if_pos hj]
  have a2:(cJ mv2.length λj=>(if mv1.length+j < mv1.length then l1.getD (mv1.length+j) 0 else - l2.getD (mv1.length+j - mv1.length) 0)*(if mv1.length+j < mv1.length then (dX mv1 t p1).getD (mv1.length+j) 0 else (dX mv2 t p2).getD (mv1.length+j - mv1.length) 0))=(-1)*cJ mv2.length λc=>l2.getD c 0*(dX mv2 t p2).getD c 0:=by
   rw[<- jf];exact c8 λj _=>by rw[if_neg (by lia),if_neg (by lia),JC];grind
  rw[a1,a2];grind
 intro t
 have:=Cz (n:=mv1.length+mv2.length) (u:=λt j=>if j < mv1.length then (dX mv1 t p1).getD j 0 else (dX mv2 t p2).getD (j - mv1.length) 0)
  (A:=λj i=>if j < mv1.length then (if i < mv1.length then HG mv1 j i else 0) else if i < mv1.length then 0 else HG mv2 (j - mv1.length) (i - mv1.length))
  (l:=λj=>if j < mv1.length then l1.getD j 0 else - l2.getD (j - mv1.length) 0) (λt j hj=>?_) (λt ht=>by rw[key,h t ht];grind) t
 ·rw[key] at this;grind
 ·rw[pR];by_cases y:j < mv1.length
  ·simp only[if_pos y];rw[CL w1 e1 t y,c8 (f:=λi=>(if i < mv1.length then HG mv1 j i else 0)*(if i < mv1.length then (dX mv1 t p1).getD i 0 else (dX mv2 t p2).getD (i - mv1.length) 0)) (g:=λi=>HG mv1 j i*(dX mv1 t p1).getD i 0) (λi hi=>by rw[if_pos hi,if_pos hi])];rw[jb (k:=mv2.length) (λi _=>by rw[if_neg (by lia),sv]),jL]
  ·simp only[if_neg y];rw[CL w2 e2 t (show j - mv1.length < mv2.length by lia),jb (k:=mv1.length) (λi hi=>by rw[if_pos hi,sv]),Rat.zero_add];exact c8 λi _=>by rw[if_neg (by lia),if_neg (by lia),JC]
theorem Fv (hi:i < lk.length) (hj:j < pt.length):((tw mv pt lk t).getD i []).getD j 0=cy lk[i] (oR mv pt t pt[j]):=by
 have e:(tw mv pt lk t).getD i []=pt.map λp=>cy lk[i] (oR mv pt t p):=by
  unfold tw;rw[aA,aY,ao hi];rfl
 rw[e,aA,aY,ao hj];rfl
theorem GI (D:dD mv pt lk):tw mv pt lk t=lk.map λl=>(pt.map (dX mv t)).map λx=>cy l x:=by
 unfold tw;refine d5 λl _=>?_
 rw[mT];exact d5 λp hp=>by rw[t8 D.mw (D.pw p hp)];rfl
theorem EA (D1:dD mv1 pt1 lk1) (D2:dD mv2 pt2 lk2) (hp:pt1.length=pt2.length) (hl:lk1.length=lk2.length) (h:∀t,t < mv1.length+mv2.length->tw mv1 pt1 lk1 t=tw mv2 pt2 lk2 t) (t:Nat):tw mv1 pt1 lk1 t=tw mv2 pt2 lk2 t:=by
 unfold tw;apply BD
 ·rw[av,av,hl]
 intro i h1 h2;rw[av] at h1 h2;rw[iC,iC];apply BD
 ·rw[av,av,hp]
 intro j h3 h4;rw[av] at h3 h4;rw[iC,iC,t8 D1.mw (D1.pw _ (a8 h3)),t8 D2.mw (D2.pw _ (a8 h4))];refine Jm D1.mw D2.mw (D1.pw _ (a8 h3)) (D2.pw _ (a8 h4)) (D1.lw _ (a8 h1)) (D2.lw _ (a8 h2)) (λs hs=>?_) t;have:=congrArg (λg=>(g.getD i []).getD j 0) (h s hs);simp only[Fv h1 h3,Fv h2 h4,t8 D1.mw (D1.pw _ (a8 h3)),t8 D2.mw (D2.pw _ (a8 h4))] at this;exact this
theorem EM (D1:dD mv1 pt1 lk1) (D2:dD mv2 pt2 lk2) (hp:pt1.length=pt2.length) (hl:lk1.length=lk2.length) (h:∀t,t < mv1.length+mv2.length->tw mv1 pt1 lk1 t=tw mv2 pt2 lk2 t) (w:∀xs∈puts,xs.length=pt1.length) (ht:t<=puts.length) :
  L2.seenQ lk1 (oA mv1 pt1 (gW mv1.length) puts t)=L2.seenQ lk2 (oA mv2 pt2 (gW mv2.length) puts t):=by
 have e1:=Cr (t:=t) D1 w (ay _) ht;have e2:=Cr (t:=t) D2 (λxs hx=>by rw[w xs hx,hp]) (ay _) ht;rw[Nat.sub_self] at e1 e2
 have e3:∀s,IB mv1 pt1 lk1 puts t s=IB mv2 pt2 lk2 puts t s:=λs=>by
  induction s with
  | zero=>show gW _=gW _;rw[hl]
  | succ s ih=>show List.zipWith _ _ _=List.zipWith _ _ _;rw[ih,EA D1 D2 hp hl h]
 rw[e3 t] at e1;exact e1.symm.trans e2
end
section
variable {α:Type} [DecidableEq α]
def rV : List α → List α → Option Nat
  | a :: as, b :: bs => if a = b then (rV as bs).map (· + 1) else some 0
  | _, _ => none
theorem Ak:∀{as:List α},rV as as=none
 | []=>rfl
 | a :: as=>by unfold rV;rw[if_pos rfl,Ak];rfl
theorem yn {a b:α}:∀{as bs:List α} {i:Nat},as[i]?=some a->bs[i]?=some b->as.take i=bs.take i->a≠b->rV as bs=some i
 | [],_,_,h,_,_,_=>by cases h
 | _ :: _,[],_,_,h,_,_=>by cases h
 | x :: as,y :: bs,0,h1,h2,_,ne=>by
  cases h1;cases h2;unfold rV;rw[if_neg ne]
 | x :: as,y :: bs,i+1,h1,h2,ht,ne=>by
  rw[fF,fF] at ht;injection ht with e1 e2
  unfold rV;rw[if_pos e1,yn (by simpa using h1) (by simpa using h2) e2 ne];rfl
theorem kY:∀{as bs:List α},as.length=bs.length->as≠bs->∃i a b,rV as bs=some i/\as[i]?=some a/\bs[i]?=some b/\a≠b/\as.take i=bs.take i
 | [],[],_,h=>absurd rfl h
 | x :: as,y :: bs,hl,ne=>by
  by_cases e:x=y
  ·subst e;obtain ⟨i,a,b,h1,h2,h3,h4,h5⟩:=kY (as:=as) (bs:=bs) (by simpa using hl) (λz=>ne (by rw[z]));exact ⟨i+1,a,b,by unfold rV;rw[if_pos rfl,h1];rfl,by simpa using h2,by simpa using h3,h4,by rw[fF,fF,h5]⟩
  ·exact ⟨0,x,y,by unfold rV;rw[if_neg e],rfl,rfl,e,rfl⟩
end
theorem mK {F:α->β->Prop} {l1:List α} {l2:List β} {i:Nat} {x:α} (h:Paired F l1 l2) (e:l1[i]?=some x):∃y,l2[i]?=some y/\F x y:=by
 obtain ⟨x',y,e1,e2,_,f⟩:=dz h (aF.mp e).1;rw[e] at e1;cases e1;exact ⟨y,e2,f⟩
def Jk:Option Nat->V
 | none=>.non
 | some i=>.int (i:Nat)
abbrev KAt {α:Type} [DecidableEq α] (κ:Kind α) (K:FG9) (H:Hp) (a:α) (v:V):Prop:=∀H',aH H H'->κ.R K H' v a
inductive Cf (K:FG9) (vs:List V) (H:Hp) (Q:VK) (E9:XK):Prop
 | mk (α:Type) (dα:DecidableEq α) (κ:Kind α) (p q:Addr) (us ws:List V) (as bs:List α):vs=[.ref p,.ref q]->H p=some (.lst us)->H q=some (.lst ws)->Paired (KAt κ K H) as us->Paired (KAt κ K H) bs ws->as.length=bs.length->κ.d<=50->(∀H',aH H H'->Q (Jk (rV as bs)) H')->Cf K vs H Q E9
def Bw (gs hs:List (LR9)):Option (Nat×Nat×Nat) :=
 match rV gs hs with
 | none=>none
 | some t=>match rV (gs.getD t []) (hs.getD t []) with
  | none=>none
  | some l=>match rV ((gs.getD t []).getD l []) ((hs.getD t []).getD l []) with
   | none=>none
   | some p=>some (t,l,p)
def FR (H:Hp) (v:V):Option (Nat×Nat×Nat)->Prop
 | none=>v=.non
 | some (t,l,p)=>∃r,v=.ref r/\H r=some (.tup [.int (t:Nat),.int (l:Nat),.int (p:Nat)])
theorem FR.same (h:FR H v o) (s:aH H H'):FR H' v o:=by
 cases o with
 | none=>exact h
 | some x=>obtain ⟨r,a,b⟩:=h;exact ⟨r,a,s _ _ b⟩
theorem getD_some {α:Type} {l:List α} {a d:α} (h:l[i]?=some a):l.getD i d=a:=by rw[aA,h];rfl
theorem Ax:Bw gs gs=none:=by unfold Bw;rw[Ak]
theorem DK {g h:LR9} (g1:gs[t]?=some g) (h1:hs[t]?=some h) (e1:gs.take t=hs.take t) (g2:g[l]?=some x) (h2:h[l]?=some y) (e2:g.take l=h.take l) (g3:x[p]?=some a) (h3:y[p]?=some b) (e3:x.take p=y.take p) (ne:a≠b):Bw gs hs=some (t,l,p):=by
 have n3:x≠y:=λz=>by rw[z,h3] at g3;cases g3;exact ne rfl
 have n2:g≠h:=λz=>by rw[z,h2] at g2;cases g2;exact n3 rfl
 unfold Bw;rw[yn g1 h1 e1 n2];show (match rV (gs.getD t []) (hs.getD t []) with | none=>none | some l=>_)=_
 rw[getD_some g1,getD_some h1,yn g2 h2 e2 n3];show (match rV (g.getD l []) (h.getD l []) with | none=>none | some p=>_)=_
 rw[getD_some g2,getD_some h2,yn g3 h3 e3 ne]
theorem zd {T t:Nat} {g:LR9} (e:(fv mv pt lk T)[t]?=some g):g.length=lk.length/\∀xs∈g,xs.length=pt.length:=by
 obtain ⟨z,_,rfl⟩:=ba.mp (aj e);exact ⟨av ..,λxs hx=>by obtain ⟨l,_,rfl⟩:=ba.mp hx;exact av ..⟩
def Sh7 (gs hs:List (LR9)):Prop:=gs.length=hs.length/\∀(t:Nat) (g h:LR9),gs[t]?=some g->hs[t]?=some h->g.length=h.length/\∀(l:Nat) (x y:List Rat),g[l]?=some x->h[l]?=some y->x.length=y.length
theorem yX (e1:pt.length=pt2.length) (e2:lk.length=lk2.length):Sh7 (fv mv pt lk T) (fv mv2 pt2 lk2 T):=by
 refine ⟨by unfold fv;rw[av,av],λt g h eg eh=>?_⟩;obtain ⟨a1,a2⟩:=zd eg;obtain ⟨b1,b2⟩:=zd eh;exact ⟨by lia,λl x y ex ey=>by rw[a2 x (aj ex),b2 y (aj ey),e1]⟩
def JM (mv pt:LR9) (st pu:List Rat):Prop:=∀l:List Rat,(∀y∈l,(∃xs∈mv,y∈xs)\/(∃xs∈pt,y∈xs)\/y=0)->rO l (st++pu)
def Bx (mv pt lk:LR9) (T:Nat):Prop:=∀p∈pt,∀t,t<=T->JM mv pt (dX mv t p) (gW pt.length)/\(∀l∈lk,rO l (dX mv t p))/\∀l∈mv,rO l (dX mv t p)
structure B7 (mv pt lk:LR9) (M1 M2 M3 V a1 a2 c:Nat):Prop where
 m1:0 < M1
 m2:0 < M2
 m3:0 < M3
 b1:M1<=2^a1
 b2:M2<=2^a2
 b3:M3<=2^a2
 gm:GF M1 V mv
 gp:GF M2 V pt
 gl:GF M3 V lk
 vc:(mv.length+4)*V<=2^c
theorem FX {M1 M2 M3 V a1 a2 c T:Nat} (B:B7 mv pt lk M1 M2 M3 V a1 a2 c) (D:dD mv pt lk) (sz:(a1+c)*(T+3)+2*a2<=3900):Bx mv pt lk T:=λp hp t ht=>by
 have V1:V<=2^c:=ak (fW _ (by lia)) B.vc;have f:=GK (N:=M2) (p:=c) B.gm D.mw B.vc (D.pw p hp) (λx hx=>Fr.up (B.gp p hp x hx) (Nat.dvd_refl _) V1) t;have e1:(a1+c)*(t+3)<=(a1+c)*(T+3):=d4 _ (by lia);rw[show (a1+c)*(t+3)=a1*t+c*t+3*a1+3*c by rw[pI,pL,pL];lia] at e1;have N0:0 < M1^t*M2:=dH (Nat.pow_pos B.m1) B.m2;have Nb:M1^t*M2<=2^(a1*t+a2):=tx B.b1 B.b2;have fs:mD (a1*t+a2) (c*t+c) (dX mv t p):=⟨_,_,N0,Nb,ay _,f⟩;refine ⟨λl hl=>⟨a1+a2,c,_,_,⟨M1*M2,V,dH B.m1 B.m2,by rw[bK];exact aR B.b1 B.b2,V1,λx hx=>?_⟩,fs.app0,by lia⟩,λl hl=>⟨a2,c,_,_,⟨M3,V,B.m3,B.b3,V1,B.gl l hl⟩,fs,by lia⟩,λl hl=>⟨a1,c,_,_,⟨M1,V,B.m1,B.b1,V1,B.gm l hl⟩,fs,by lia⟩⟩;rcases hl x hx with ⟨xs,hxs,h⟩ | ⟨xs,hxs,h⟩ | rfl
 ·exact (B.gm xs hxs x h).dvd (AG ..)
 ·exact (B.gp xs hxs x h).dvd (cV ..)
 ·exact Fr.zero
inductive Cj (K:FG9) (C:Addr) (vs:List V) (H:Hp) (Q:VK) (E9:XK):Prop
 | mk (x s p:Addr) (H0 H1:Hp) (mv pt lk pus:LR9) (st:List Rat):vs=[.ref x,.ref s,.ref p]->jx K H0 H C x mv pt lk->dD mv pt lk->cB K H s st->st.length=mv.length->bO K H1 H p pus->pus.length<=100->(∀xs∈pus,xs.length=pt.length)->(∀k pu,pus[k]?=some pu->JM mv pt (oA mv pt st pus k) pu)->(∀r H',H r=none->aH H H'->bO K H H' r (dR mv pt st pus)->Q (.ref r) H')->Cj K C vs H Q E9
inductive Cd (K:FG9) (C:Addr) (vs:List V) (H:Hp) (Q:VK) (E9:XK):Prop
 | mk (x s p:Addr) (H0 H1:Hp) (mv pt lk pus:LR9) (st:List Rat):vs=[.ref x,.ref s,.ref p]->jx K H0 H C x mv pt lk->dD mv pt lk->cB K H s st->st.length=mv.length->bO K H1 H p pus->pus.length<=100->(∀xs∈pus,xs.length=pt.length)->(∀k pu,pus[k]?=some pu->JM mv pt (oA mv pt st pus k) pu)->(∀xs∈dR mv pt st pus,∀l∈lk,rO l xs)->(∀r H',H r=none->aH H H'->bO K H H' r ((dR mv pt st pus).map (L2.seenQ lk))->Q (.ref r) H')->Cd K C vs H Q E9
inductive Ca (K:FG9) (C:Addr) (vs:List V) (H:Hp) (Q:VK) (E9:XK):Prop
 | mk (x:Addr) (T:Nat) (H0:Hp) (mv pt lk:LR9):vs=[.ref x,.int T]->jx K H0 H C x mv pt lk->dD mv pt lk->T<=16->Bx mv pt lk T->(∀r H',H r=none->aH H H'->Jy K H H' r (fv mv pt lk T)->Q (.ref r) H')->Ca K C vs H Q E9
inductive Cq (K:FG9) (C cN:Addr) (vs:List V) (H:Hp) (Q:VK) (E:XK):Prop
 | mk (x y:Addr) (H0 H1:Hp) (mv pt lk mv2 pt2 lk2:LR9):vs=[.ref x,.ref y]->jx K H0 H C x mv pt lk->jx K H1 H C y mv2 pt2 lk2->dD mv pt lk->dD mv2 pt2 lk2->Bx mv pt lk (mv.length+mv2.length)->Bx mv2 pt2 lk2 (mv.length+mv2.length) →
   (¬(pt.length=pt2.length/\lk.length=lk2.length)->E (.ref cN) none H)->(pt.length=pt2.length->lk.length=lk2.length->∀v H',aH H H'->FR H' v (Bw (fv mv pt lk (mv.length+mv2.length)) (fv mv2 pt2 lk2 (mv.length+mv2.length)))->Q v H')->Cq K C cN vs H Q E
inductive Cc (K:FG9) (vs:List V) (H:Hp) (Q:VK) (E9:XK):Prop
 | mk (x:Addr) (T:Nat) (H0:Hp) (mv pt lk:LR9):vs=[.ref x,.int T]->cR K H0 H x mv pt lk->dD mv pt lk->T<=16->Bx mv pt lk T->(∀r H',H r=none->aH H H'->Jy K H H' r (fv mv pt lk T)->Q (.ref r) H')->Cc K vs H Q E9
inductive Cg (K:FG9) (vs:List V) (H:Hp) (Q:VK) (E9:XK):Prop
 | mk (x y:Addr) (H0 H1:Hp) (mv pt lk mv2 pt2 lk2:LR9):vs=[.ref x,.ref y]->cR K H0 H x mv pt lk->cR K H1 H y mv2 pt2 lk2->dD mv pt lk->dD mv2 pt2 lk2->Bx mv pt lk (mv.length+mv2.length)->Bx mv2 pt2 lk2 (mv.length+mv2.length)->pt.length=pt2.length->lk.length=lk2.length →
   (∀v H',aH H H'->FR H' v (Bw (fv mv pt lk (mv.length+mv2.length)) (fv mv2 pt2 lk2 (mv.length+mv2.length)))->Q v H')->Cg K vs H Q E9
inductive yV (K:FG9) (C:Addr) (vs:List V) (H:Hp) (Q:VK) (E9:XK):Prop
 | mk (x y:Addr) (H0 H1:Hp) (mv pt lk mv2 pt2 lk2:LR9):vs=[.ref x,.ref y]->jx K H0 H C x mv pt lk->jx K H1 H C y mv2 pt2 lk2->dD mv pt lk->dD mv2 pt2 lk2->Bx mv pt lk (mv.length+mv2.length)->Bx mv2 pt2 lk2 (mv.length+mv2.length) →
   (¬(pt.length=pt2.length/\lk.length=lk2.length)->∀t H',aH H H'->H' t=some (.tup [.str "no",.bl true])->Q (.ref t) H')->(pt.length=pt2.length->lk.length=lk2.length->∀t u H',aH H H'->H' t=some (.tup [.str "told",u])->FR H' u (Bw (fv mv pt lk (mv.length+mv2.length)) (fv mv2 pt2 lk2 (mv.length+mv2.length)))->Q (.ref t) H')->yV K C vs H Q E9
section
variable {prog:Program} {w:World} {A:Around} {E:Value->Shared->Prop} {s:Shared}
theorem t9 {it t:Addr} {items:Array Value} (hne:t≠it):∀(n i:Nat) (s:Shared) (Q:List Value->Shared->Prop),s.heap.IsListIter it t i->s.heap.IsList t items->i+n<=items.size →
  (∀h',h'.IsListIter it t (i+n)->Heap.SameBut it s.heap h'->Q ((items.toList.drop i).take n) { s with heap:=h' })->wpAny (model prog w) A (draw (.ref it) n) Q E s
 | 0,i,s,Q,hit,_,_,hQ=>by
  show wpAny _ _ (pure []) Q E s
  exact wpAny_pure (by simpa using hQ s.heap hit (Heap.SameBut.refl ..))
 | n+1,i,s,Q,hit,ht,hle,hQ=>by
  have hlt:i < items.size:=by lia
  show wpAny _ _ (pyNext (.ref it) >>= _) Q E s
  refine wpAny_bind (wpAny_pyNext_list_item hit ht (x:=items[i]) (by simp [hlt]) λh₁ hit₁ hs₁=>?_);refine wpAny_bind (wpAny_holding (t9 hne n (i+1) _ _ hit₁ (ht.extBut hs₁.extBut hne) (by lia) λh₂ hit₂ hs₂=>wpAny_pure ?_));have hd:items.toList.drop i=items[i] :: items.toList.drop (i+1):=by simp [cI,hlt]
  have:=hQ h₂ (by rw[show i+(n+1)=i+1+n by lia];exact hit₂) (hs₁.trans hs₂);rw[hd,fF] at this;exact this
theorem wb (hh:A.handled=none) (ht:s.heap.IsList t items)
  (hn:targets.length=items.size) (hstar:targets.findIdx? (·.1)=none)
  (h:∀h',Heap.ExtBut s.heap.objs.size s.heap h'->wpAny (model prog w) A (assignInOrder (targets.map (·.2)) items.toList) Q E { s with heap:=h' }) :
  wpAny (model prog w) A (unpack (.ref t) targets) Q E s:=by
 unfold unpack;rw[hn,hstar];refine wpAny_bind (wpAny_holding ?_);have hlt:t≠s.heap.objs.size:=by obtain ⟨o,ho,_⟩:=ht;exact bw (Heap.lt_size ho)
 unfold unpackItems;refine wpAny_bind ?_;unfold notIterableAtAll;refine wpAny_bind (wpAny_specialOf ht.typeIs F.slot_list_iter.lookup ?_);refine wpAny_pure ?_;simp only[cE,if_false];refine wpAny_bind (wpAny_holding (wpAny_pyIter_list ht ?_));refine wpAny_bind (wpAny_holding (t9 hlt items.size 0 _ _ ⟨_,Heap.get?_push_size _ rfl,rfl,rfl⟩ (ht.push _) (by lia) λh₁ hit₁ hs₁=>?_))
 have hall:List.take items.size (List.drop 0 items.toList)=items.toList:=by
  rw[List.drop_zero];exact aw (by simp)
 rw[hall];rw[if_neg (by simp)];have ht₁:h₁.IsList t items:=(ht.push _).extBut hs₁.extBut hlt;refine wpAny_bind (wpAny_holding (wpAny_pyNext_list_end hh hit₁ ht₁ (by simp) λh₂ he₂=>?_));simp only[Option.isSome_none,cE,if_false];exact wpAny_pure (h h₂ λb o hb e=>he₂ b o hb (hs₁.extBut b o hb (Heap.get?_push_of_some _ e)))
end
section
variable {X:Cx}
def J5 (K:FG9) (n:Nat) (t:By):TG:=λv σ H Q=>∃a xs,v=.ref a/\bB K H a xs/\xs.length=n/\t xs σ H Q
theorem CN {es:List Expr} {k:Nat} {pos:Pos} {t:By} {n:Nat} (hc:X.calm=true) (h:Ia X es t)
  (hn:(assignEach es X.env).length=n:=by rfl) (hst:(assignEach es X.env).findIdx? (·.1)=none:=by rfl):PG X (.Tuple es k pos) (J5 X.K n t):=by
 intro pins s σ H v u Q I r hw;obtain ⟨a,xs,e1,hq,hl,hw⟩:=hw;subst e1;cases r;obtain ⟨its,rv,ht,hz⟩:=I.list hq;rw[PyProof.Rows.assign_Tuple];refine wpAny_bind (wpAny_standAt (wb (I.ok.hd hc) ht.isList (by simp [hn,<- hl,rv.length]) hst λh' hx=>?_));have I1:Inv X pins σ H { s with heap:=h' }:=I.kept (t':=s.toks) λb o e=>hx b o (bw (Heap.lt_size e)) e
 exact h pins _ σ H xs _ Q I1 (by simpa using rv) hw
end
theorem CM (ht:t<=3) (hW:W<=2^40):9*(9^t*W)<=2^140:=by
 have h1:9^t<=9^3:=aD (by decide) ht;have h2:9^t*W<=9^3*2^40:=aR h1 hW;have h3:9*(9^3*2^40)<=2^140:=by decide +kernel
 lia
inductive yW (K:FG9) (xs:List V) (H:Hp) (Q:VK) (E9:XK):Prop
 | mk (b m p l q0:Addr) (n V1:Nat) (μ:V->Nat) (A:Addr->Prop) (us ws vs:List V):xs=[.ref b,.ref m,.ref p,.ref l]->vb A m p l b q0->gv K A H n (λx=>Fr (μ x) V1) m p l b q0 us ws vs->n<=8->ws.length<=4->vs.length<=4->(∀x,0 < μ x)->(∀x,μ x<=2^800)->(∃M,∀x,x∉ws->x∉vs->μ x=M)->V1<=2^40->(∀q,H q=none->A q)->(∀r us' H',H' r=some (.tup [.ref m,.ref p,.ref l])->gv K A H' n (λx=>Fr (μ x) (9^3*V1)) m p l b q0 us' ws vs->fI A b m H H'->Q (.ref r) H')->yW K xs H Q E9
inductive Ci (K:FG9) (vs:List V) (H:Hp) (Q:VK) (E9:XK):Prop
 | mk (p:Addr) (H0:Hp) (rows:LR9):vs=[.ref p]->bO K H0 H p rows->rows.length<=1000->(∀xs∈rows,xs.length<=1000)->(∀r us H',H r=none->aH H H'->H' r=some (.lst us)->us.Nodup->Paired (dG K H H') rows us->V.ref r∉us->Q (.ref r) H')->Ci K vs H Q E9
def A7 (H:Hp) (m p l:Addr) (q:Addr):Prop:=H q=none/\q≠m/\q≠p/\q≠l
structure X7 (K:FG9) (H Hj:Hp) (m p l b q0:Addr) (N:V->Nat) (C:V->Rat->Prop) (us ws vs:List V):Prop where
 bag:eQ Hj b
 inn:Inner Hj b q0
 gm:Hj m=some (.lst us)
 gp:Hj p=some (.lst ws)
 gl:Hj l=some (.lst vs)
 row:∀x∈us++vs++ws,dk K (A7 H m p l) Hj (N x) (C x) x
 nd:(us++vs++ws).Nodup
 kp:∀c u,H c=some u->c≠b->Hj c=some u
section
variable {K:FG9} {H Hj Hk:Hp} {m p l b q0 q:Addr} {N N':V->Nat} {C C':V->Rat->Prop} {us ws vs zs:List V} {y:Rat} {v:V}
abbrev Fe (H:Hp) (m p l b q0:Addr):Prop:=vb (A7 H m p l) m p l b q0
theorem GW (hB:eQ H b) (I:Inner H b q0) (hm:H m=none) (hp:H p=none) (hl:H l=none) (mp:m≠p) (ml:m≠l):Fe H m p l b q0:=by
 obtain ⟨_,_,_,_,_,gb,_⟩:=id hB;have hb:H b≠none:=by rw[gb];exact λz=>nomatch z
 have hq:H q0≠none:=by
  obtain ⟨q,_,_,_,cs,gb,gq,_⟩:=hB;obtain ⟨_,_,_,e⟩:=I;rw[gb] at e;cases e;rw[gq];exact λz=>nomatch z
 exact ⟨λz=>z.2.1 rfl,λz=>z.2.2.1 rfl,λz=>z.2.2.2 rfl,λz=>hb z.1,λz=>hq z.1,λz=>hb (by rw[<- z];exact hm),λz=>hb (by rw[<- z];exact hp),λz=>hb (by rw[<- z];exact hl),mp,ml,λz=>hq (by rw[<- z];exact hm)⟩
theorem X7.same (h:X7 K H Hj m p l b q0 N C us ws vs) (e:aH Hj Hk):X7 K H Hk m p l b q0 N C us ws vs :=
 ⟨h.bag.same e,(e.upto (p:=b)).2 _ h.inn,e _ _ h.gm,e _ _ h.gp,e _ _ h.gl,λx hx=>(h.row x hx).same e,h.nd,λc u a b=>e _ _ (h.kp c u a b)⟩
theorem X7.upto (h:X7 K H Hj m p l b q0 N C us ws vs) (M:Fe H m p l b q0) (u:cb b Hj Hk) (B':eQ Hk b):X7 K H Hk m p l b q0 N C us ws vs :=
 ⟨B',u.2 _ h.inn,u.other M.mb h.gm,u.other M.pb h.gp,u.other M.lb h.gl,λx hx=>(h.row x hx).upto u h.bag M.ab,h.nd,λc o a b=>u.1 _ _ (h.kp c o a b) b⟩
theorem X7.weak (h:X7 K H Hj m p l b q0 N C us ws vs) (w:∀x∈us++vs++ws,N x=N' x/\∀y,C x y->C' x y):X7 K H Hj m p l b q0 N' C' us ws vs :=
 ⟨h.bag,h.inn,h.gm,h.gp,h.gl,λx hx=>by rw[<- (w x hx).1];exact (h.row x hx).weak (λ_ z=>z) (w x hx).2,h.nd,h.kp⟩
theorem X7.ne (M:Fe H m p l b q0) (aq:A7 H m p l q):b≠q/\q0≠q/\m≠q/\p≠q/\l≠q:=⟨λe=>M.ab (by rw[e];exact aq),λe=>M.aq (by rw[e];exact aq),λe=>aq.2.1 e.symm,λe=>aq.2.2.1 e.symm,λe=>aq.2.2.2 e.symm⟩
theorem X7.rowed (h:X7 K H Hj m p l b q0 N C us ws vs) (M:Fe H m p l b q0) (aq:A7 H m p l q) (hq:Hj q=some (.lst zs)) (hn:dk K (A7 H m p l) (upd Hj q (.lst o)) (N' (.ref q)) (C (.ref q)) (.ref q)) (e:∀x,x≠.ref q->N' x=N x):X7 K H (upd Hj q (.lst o)) m p l b q0 N' C us ws vs:=by
 obtain ⟨n1,n2,n3,n4,n5⟩:=X7.ne M aq;refine ⟨h.bag.upd h.inn n1.symm n2.symm,h.inn.upd n1.symm,by rw[aN n3];exact h.gm,by rw[aN n4];exact h.gp,by rw[aN n5];exact h.gl,λx hx=>?_,h.nd,λc u a b=>?_⟩
 ·by_cases z:x=.ref q
  ·subst z;exact hn
  ·rw[e x z];obtain ⟨q1,qs,rfl,a1,r1,l1,c1⟩:=h.row x hx;exact ⟨q1,qs,rfl,a1,r1.updL hq (λz'=>z (by rw[z'])),l1,c1⟩
 ·rw[aN (λz=>by rw[z,aq.1] at a;cases a)];exact h.kp c u a b
theorem X7.app (h:X7 K H Hj m p l b q0 N C us ws vs) (M:Fe H m p l b q0) (hx:V.ref q∈us++vs++ws) (hq:Hj q=some (.lst zs)) (hv:bL K Hj y v) (hc:C (.ref q) y) (e1:N' (.ref q)=N (.ref q)+1) (e:∀x,x≠.ref q->N' x=N x):X7 K H (upd Hj q (.lst (zs++[v]))) m p l b q0 N' C us ws vs:=by
 obtain ⟨q1,qs,e9,a1,⟨zs1,g1,pr⟩,l1,c1⟩:=h.row _ hx;cases e9;rw[hq] at g1;cases g1;refine h.rowed M a1 hq ⟨q,qs++[y],rfl,a1,⟨_,aJ,b6 (Paired.imp' (λ_ _ z=>z.updL hq) pr) (.cons (hv.updL hq) .nil)⟩,by rw[aG,l1,e1];rfl,λz hz=>?_⟩ e;rcases ar.mp hz with hz | hz
 ·exact c1 z hz
 ·rw[aQ.mp hz];exact hc
theorem X7.put (h:X7 K H Hj m p l b q0 N C us ws vs) (M:Fe H m p l b q0) (hx:V.ref q∈us++vs++ws) (hq:Hj q=some (.lst zs)) (hv:bL K Hj y v) (hc:C (.ref q) y) (j:Nat):X7 K H (upd Hj q (.lst (zs.set j v))) m p l b q0 N C us ws vs:=by
 have r:=h.row _ hx;obtain ⟨q1,qs,e9,a1,_⟩:=id r;cases e9;exact h.rowed M a1 hq (r.put hq hv hc j) λ_ _=>rfl
theorem X7.moved (h:X7 K H Hj m p l b q0 N C us ws vs) (M:Fe H m p l b q0) (hm:H m=none) (hx:∀x∈us',x∈us\/dk K (A7 H m p l) Hj (N x) (C x) x) (nd:(us'++vs++ws).Nodup):X7 K H (upd Hj m (.lst us')) m p l b q0 N C us' ws vs:=by
 refine ⟨h.bag.upd h.inn M.mb M.mq,h.inn.upd M.mb,aJ,by rw[aN M.mp.symm];exact h.gp,by rw[aN M.ml.symm];exact h.gl,λx hx'=>?_,nd,λc u a b=>?_⟩
 ·have:dk K (A7 H m p l) Hj (N x) (C x) x:=by
   rcases ar.mp hx' with z | z
   ·rcases ar.mp z with z | z
    ·rcases hx x z with z | z
     ·exact h.row x (by simp [z])
     ·exact z
    ·exact h.row x (by simp [z])
   ·exact h.row x (by simp [z])
  exact this.other h.gm M.am
 ·rw[aN (λz=>by rw[z,hm] at a;cases a)];exact h.kp c u a b
theorem X7.mix (h:X7 K H Hj m p l b q0 N C us ws vs) (e:∀x∈us++vs++ws,N x=n) (lm:us.length=n):gv K (A7 H m p l) Hj n C m p l b q0 us ws vs:=⟨h.bag,h.inn,h.gm,h.gp,h.gl,lm,λx hx=>by have:=h.row x hx;rwa [e x hx] at this,h.nd⟩
end
section
variable {K:FG9} {H Hj Hk:Hp} {m p l b q0 q r:Addr} {N N':V->Nat} {us ws vs zs:List V} {μ:V->Nat} {M1 M2 M3 V9 n:Nat}
structure HR (μ:V->Nat) (ws vs:List V) (M1 M2 M3 V9:Nat):Prop where
 e2:∀x∈ws,μ x=M2
 e3:∀x∈vs,x∉ws->μ x=M3
 e1:∀x,x∉ws->x∉vs->μ x=M1
 e4:∀x,μ x=M1\/μ x=M2\/μ x=M3
 p1:0 < M1/\M1<=2^800
 p2:0 < M2/\M2<=2^800
 p3:0 < M3/\M3<=2^800
 v4:V9<=2^40
theorem CY (Y:gv K A Hj n (λx=>Fr (μ x) V9) m p l b q0 us ws vs) (U:HR μ ws vs M1 M2 M3 M) (MA:vb A m p l b q0) (hA:∀q,A q->H q=none) (hm:H m=none) (hp:H p=none) (hl:H l=none) (n8:n<=8) (i4:ws.length<=4) (o4:vs.length<=4) (g:Hj r=some (.tup [.ref m,.ref p,.ref l])) :
  ∃mv pt lk,cR K H Hj r mv pt lk/\dD mv pt lk/\mv.length=n/\pt.length=ws.length/\lk.length=vs.length/\GF M1 V9 mv/\GF M2 V9 pt/\GF M3 V9 lk:=by
 obtain ⟨yp1,yp2⟩:=Y.apart;obtain ⟨mv,Gm,lmv,hmv⟩:=eE (H0:=H) (n:=n) (C:=Fr M1 V9) (m:=n) ⟨us,Y.gm,Y.lm,MA.am,λx hx=>by have:=Y.row x (by simp [hx]);rwa [U.e1 x (yp1 x hx).1 (yp1 x hx).2] at this⟩ hA;obtain ⟨pt,Gp,lpt,hpt⟩:=eE (H0:=H) (n:=n) (C:=Fr M2 V9) (m:=ws.length) ⟨ws,Y.gp,rfl,MA.ap,λx hx=>by have:=Y.row x (by simp [hx]);rwa [U.e2 x hx] at this⟩ hA;obtain ⟨lk,Gl,llk,hlk⟩:=eE (H0:=H) (n:=n) (C:=Fr M3 V9) (m:=vs.length) ⟨vs,Y.gl,rfl,MA.al,λx hx=>by have:=Y.row x (by simp [hx]);rwa [U.e3 x hx (yp2 x hx)] at this⟩ hA;exact ⟨mv,pt,lk,⟨m,p,l,g,hm,hp,hl,Gm,Gp,Gl⟩,⟨by lia,by lia,by lia,λxs hx=>by rw[(hmv xs hx).1,lmv],λxs hx=>by rw[(hpt xs hx).1,lmv],λxs hx=>by rw[(hlk xs hx).1,lmv]⟩,lmv,lpt,llk,λxs hx=>(hmv xs hx).2,λxs hx=>(hpt xs hx).2,λxs hx=>(hlk xs hx).2⟩
theorem zo (h:X7 K H Hj m p l b q0 N (λx=>Fr (μ x) V9) us ws vs) (MA:Fe H m p l b q0) (U:HR μ ws vs M1 M2 M3 V9) (eN:∀x∈us++vs++ws,N x=n) (lm:us.length=n) (I0:Inner H b q0) (hm:H m=none) (hp:H p=none) (hl:H l=none) (n8:n<=8) (i4:ws.length<=4) (o4:vs.length<=4)
  (k:∀r mv pt lk H',cR K H H' r mv pt lk->dD mv pt lk->mv.length=n->pt.length=ws.length->lk.length=vs.length->GF M1 (9^3*V9) mv->GF M2 (9^3*V9) pt->GF M3 (9^3*V9) lk->eQ H' b->cb b H H'->Q (.ref r) H'):yW K [.ref b,.ref m,.ref p,.ref l] Hj Q E9:=by
 have X:=h.mix eN lm
 have p1:∀x,0 < μ x:=λx=>by
  rcases U.e4 x with e | e | e
  ·rw[e];exact U.p1.1
  ·rw[e];exact U.p2.1
  ·rw[e];exact U.p3.1
 have p2:∀x,μ x<=2^800:=λx=>by
  rcases U.e4 x with e | e | e
  ·rw[e];exact U.p1.2
  ·rw[e];exact U.p2.2
  ·rw[e];exact U.p3.2
 refine ⟨b,m,p,l,q0,n,V9,μ,A7 H m p l,us,ws,vs,rfl,MA,X,n8,i4,o4,p1,p2,⟨M1,U.e1⟩,U.v4,λq hq=>⟨?_,(λz=>by rw[z,h.gm] at hq;cases hq),(λz=>by rw[z,h.gp] at hq;cases hq),(λz=>by rw[z,h.gl] at hq;cases hq)⟩,λr us' H' g Y kp=>?_⟩
 ·cases e:H q with
  | none=>rfl
  | some u =>
   have:=h.kp q u e (λz=>h.bag.at (by rw[<- z];exact hq));rw[hq] at this;cases this
 ·obtain ⟨mv,pt,lk,P,D,a1,a2,a3,b1,b2,b3⟩:=CY (H:=H) Y U MA (λq z=>z.1) hm hp hl n8 i4 o4 g;exact k r mv pt lk H' P D a1 a2 a3 b1 b2 b3 Y.bag ⟨λc u e n1=>kp c u (h.kp c u e n1) n1 (λz=>by have:=z.1;rw[e] at this;cases this) (λz=>by rw[z,hm] at e;cases e),λq h9=>by rw[<- Inner.inj I0 h9];exact Y.inn⟩
def C3 (K:FG9) (H H':Hp) (rows:LR9) (r:Addr) (us:List V):Prop:=H r=none/\H' r=some (.lst us)/\us.Nodup/\Paired (dG K H H') rows us/\V.ref r∉us/\aH H H'
def Ke (K:FG9) (H:Hp) (mv pt lk:LR9):Nat->List V->Hp->Prop
 | 0,ys,H'=>ys=[]/\H'=H
 | 1,ys,H'=>∃m us,ys=[.ref m]/\C3 K H H' mv m us
 | 2,ys,H'=>∃m us p ws Ha,ys=[.ref m,.ref p]/\C3 K H Ha mv m us/\C3 K Ha H' pt p ws
 | _,ys,H'=>∃m us p ws l vs Ha Hb,ys=[.ref m,.ref p,.ref l]/\C3 K H Ha mv m us/\C3 K Ha Hb pt p ws/\C3 K Hb H' lk l vs
theorem C3.in (h:C3 K H H' rows r us):∀x∈us,∃q qs,x=V.ref q/\H q=none/\q≠r/\qs∈rows/\cB K H' q qs:=λx hx=>by
 obtain ⟨i,hi,e⟩:=mH hx;obtain ⟨xs,ex,q,e1,nq,R⟩:=cO h.2.2.2.1 (aF.mpr ⟨hi,e⟩);exact ⟨q,xs,e1,nq,λz=>h.2.2.2.2.1 (by rw[<- z,<- e1];exact hx),aj ex,R⟩
theorem cB.some' (h:cB K H q xs):H q≠none:=by obtain ⟨_,g,_⟩:=h;rw[g];exact λz=>nomatch z
theorem FK (hB:eQ H b) (I0:Inner H b q0) (D:dD mv pt lk) (c1:C3 K H Ha mv m us) (c2:C3 K Ha Hb pt p ws) (c3:C3 K Hb H' lk l vs) (g1:GF O1 V0 mv) (g2:GF O2 V0 pt) (g3:GF O3 V0 lk) (d1:O1∣M1) (d2:O2∣M2) (d3:O3∣M3) (hV:V0<=V9) (q1:0 < M1/\M1<=2^800) (q2:0 < M2/\M2<=2^800) (q3:0 < M3/\M3<=2^800) (v4:V9<=2^40) :
  Fe H m p l b q0/\∃μ,HR μ ws vs M1 M2 M3 V9/\X7 K H H' m p l b q0 (λ_=>mv.length) (λx=>Fr (μ x) V9) us ws vs:=by
 obtain ⟨m0,gm,nm1,_,mu1,s1⟩:=id c1;obtain ⟨p0,gp,nm2,_,mu2,s2⟩:=id c2;obtain ⟨l0,gl,nm3,_,mu3,s3⟩:=id c3;have mp:m≠p:=λz=>by rw[z,p0] at gm;cases gm
 have ml:m≠l:=λz=>by rw[z] at gm;have:=s2 _ _ gm;rw[l0] at this;cases this
 have i1:∀x∈us,∃q qs,x=V.ref q/\A7 H m p l q/\qs∈mv/\cB K Ha q qs:=λx hx=>by
  obtain ⟨q,qs,e,n,nr,mq,R⟩:=c1.in x hx;exact ⟨q,qs,e,⟨n,nr,λz=>R.some' (by rw[z];exact p0),λz=>(R.same s2).some' (by rw[z];exact l0)⟩,mq,R⟩
 have i2:∀x∈ws,∃q qs,x=V.ref q/\A7 H m p l q/\Ha q=none/\qs∈pt/\cB K Hb q qs:=λx hx=>by
  obtain ⟨q,qs,e,n,nr,mq,R⟩:=c2.in x hx;exact ⟨q,qs,e,⟨s1.none n,(λz=>by rw[z,gm] at n;cases n),nr,λz=>R.some' (by rw[z];exact l0)⟩,n,mq,R⟩
 have i3:∀x∈vs,∃q qs,x=V.ref q/\A7 H m p l q/\Hb q=none/\qs∈lk/\cB K H' q qs:=λx hx=>by
  obtain ⟨q,qs,e,n,nr,mq,R⟩:=c3.in x hx;exact ⟨q,qs,e,⟨s1.none (s2.none n),(λz=>by rw[z,s2 _ _ gm] at n;cases n),(λz=>by rw[z,gp] at n;cases n),nr⟩,n,mq,R⟩
 have ap:∀x∈us,x∉ws/\x∉vs:=λx hx=>by
  obtain ⟨q,qs,e,_,_,R⟩:=i1 x hx;refine ⟨λz=>?_,λz=>?_⟩
  ·obtain ⟨q',_,e',_,n,_⟩:=i2 x z;rw[e] at e';cases e';exact R.some' n
  ·obtain ⟨q',_,e',_,n,_⟩:=i3 x z;rw[e] at e';cases e';exact (R.same s2).some' n
 have ap2:∀x∈vs,x∉ws:=λx hx z=>by
  obtain ⟨q,qs,e,_,_,_,R⟩:=i2 x z;obtain ⟨q',_,e',_,n,_⟩:=i3 x hx;rw[e] at e';cases e';exact R.some' n
 obtain ⟨μ,e2,e3,e1,e4⟩:=yh ws vs M1 M2 M3;have s13:=(s1.trans s2).trans s3;refine ⟨GW hB I0 m0 (s1.none p0) (s1.none (s2.none l0)) mp ml,μ,⟨e2,e3,e1,e4,q1,q2,q3,v4⟩,⟨hB.same s13,(s13.upto (p:=b)).2 _ I0,(s2.trans s3) _ _ gm,s3 _ _ gp,gl,λx hx=>?_,?_,λc u a _=>s13 _ _ a⟩⟩
 ·rcases ar.mp hx with hx | hx
  ·rcases ar.mp hx with hx | hx
   ·obtain ⟨q,qs,e,a,mq,R⟩:=i1 x hx;refine ⟨q,qs,e,a,R.same (s2.trans s3),D.mw qs mq,λy hy=>?_⟩;rw[e1 x (ap x hx).1 (ap x hx).2];exact Fr.up (g1 qs mq y hy) d1 hV
   ·obtain ⟨q,qs,e,a,_,mq,R⟩:=i3 x hx;refine ⟨q,qs,e,a,R,D.lw qs mq,λy hy=>?_⟩;rw[e3 x hx (ap2 x hx)];exact Fr.up (g3 qs mq y hy) d3 hV
  ·obtain ⟨q,qs,e,a,_,mq,R⟩:=i2 x hx;refine ⟨q,qs,e,a,R.same s3,D.pw qs mq,λy hy=>?_⟩;rw[e2 x hx];exact Fr.up (g2 qs mq y hy) d2 hV
 ·refine bo.mpr ⟨bo.mpr ⟨nm1,nm3,λa ha c hc z=>(ap a ha).2 (by rw[z];exact hc)⟩,nm2,λa ha c hc z=>?_⟩;rcases ar.mp ha with ha | ha
  ·exact (ap a ha).1 (by rw[z];exact hc)
  ·exact ap2 a ha (by rw[z];exact hc)
end
def mU (S:List V) (n:Nat) (x:V):Nat:=if x∈S then n+1 else n
theorem jc (h:q∉S):mU (S++[q]) n q=mU S n q+1/\∀x,x≠q->mU (S++[q]) n x=mU S n x:=by
 unfold mU;refine ⟨by rw[if_pos (by simp),if_neg h],λx hx=>?_⟩;by_cases y:x∈S
 ·rw[if_pos (by simp [y]),if_pos y]
 ·rw[if_neg (by simp [y,hx]),if_neg y]
theorem kK {α:Type}:∀{l:List α} {i:Nat} {x:α},l[i]?=some x->l.Nodup->x∉l.take i
 | [],_,_,h,_=>by cases h
 | a :: l,0,x,_,_=>by simp
 | a :: l,i+1,x,h,nd=>by
  obtain ⟨n1,n2⟩:=cT.mp nd;have h:l[i]?=some x:=by simpa using h
  rw[fF,az];rintro (z | z)
  ·exact n1 (by rw[<- z];exact aj h)
  ·exact kK h n2 z
theorem qB {α β:Type} {F:α->β->Prop} {a:α} {b:β} (h:F a b):∀n,Paired F (List.replicate n a) (List.replicate n b)
 | 0=>.nil
 | n+1=>.cons h (qB h n)
theorem ph {K:FG9} (h:Ke K H mv pt lk i ys H'):aH H H':=by
 match i,h with
 | 0,⟨_,e⟩=>rw[e];exact aH.refl _
 | 1,⟨_,_,_,c⟩=>exact c.2.2.2.2.2
 | 2,⟨_,_,_,_,_,_,c,d⟩=>exact c.2.2.2.2.2.trans d.2.2.2.2.2
 | _+3,⟨_,_,_,_,_,_,_,_,_,c,d,e⟩=>exact (c.2.2.2.2.2.trans d.2.2.2.2.2).trans e.2.2.2.2.2
section
variable {K:FG9} {H Hj:Hp} {m p l b q0 q:Addr} {N:V->Nat} {C:V->Rat->Prop} {us ws vs:List V}
theorem X7.new (h:X7 K H Hj m p l b q0 N C us ws vs) (hq:Hj q=none):A7 H m p l q:=by
 refine ⟨?_,(λz=>by rw[z,h.gm] at hq;cases hq),(λz=>by rw[z,h.gp] at hq;cases hq),(λz=>by rw[z,h.gl] at hq;cases hq)⟩;cases e:H q with
 | none=>rfl
 | some u =>
  have:=h.kp q u e (λz=>h.bag.at (by rw[<- z];exact hq));rw[hq] at this;cases this
theorem X7.out (h:X7 K H Hj m p l b q0 N C us ws vs) (hq:Hj q=none):V.ref q∉us++vs++ws:=λz=>by
 obtain ⟨q1,qs,e,_,R,_⟩:=h.row _ z;cases e;exact R.some' hq
theorem HR.dv (U:HR μ ws vs (2520*O1) (2520*O2) (2520*O3) V9) (x:V):2520∣μ x:=by
 rcases U.e4 x with e | e | e <;> rw[e] <;> exact AG ..
theorem zF (h:Dr (max 4 6) x) (d:2520∣M) (hW:9<=W):Fr M W x:=(uh ⟨ak h.1 (by decide),ak h.2 (by decide)⟩ d).mono hW
end
structure G7 (mv pt lk:LR9) (O1 O2 O3 V0:Nat):Prop where
 o1:0 < O1/\O1<=2^160
 o2:0 < O2/\O2<=2^160
 o3:0 < O3/\O3<=2^160
 v0:V0<=2^30
 g1:GF O1 V0 mv
 g2:GF O2 V0 pt
 g3:GF O3 V0 lk
theorem A4 (h:0 < O/\O<=2^160):0 < 2520*O/\2520*O<=2^800:=by
 refine ⟨by lia,ak (aR (show 2520<=2^12 by decide) h.2) ?_⟩;rw[<- bK];exact aD (by decide) (by decide)
inductive Ce (K:FG9) (vs:List V) (H:Hp) (Q:VK) (E9:XK):Prop
 | mk (b r:Addr) (H0:Hp) (mv pt lk:LR9) (O1 O2 O3 V0:Nat):vs=[.ref b,.ref r]->eQ H b->cR K H0 H r mv pt lk->dD mv pt lk->G7 mv pt lk O1 O2 O3 V0 →
   (∀r' mv2 pt2 lk2 H',cR K H H' r' mv2 pt2 lk2->dD mv2 pt2 lk2->mv2.length<=mv.length+1->GF (2520*O1) (9^3*(V0+9)) mv2->GF (2520*O2) (9^3*(V0+9)) pt2->GF (2520*O3) (9^3*(V0+9)) lk2->eQ H' b->cb b H H'->Q (.ref r') H')->Ce K vs H Q E9
def JO (mv pt lk:LR9) (O1 O2 O3 V0:Nat):Prop:=G7 mv pt lk O1 O2 O3 V0/\∃a1 a2 v,O1<=2^a1/\O2<=2^a2/\O3<=2^a2/\V0<=2^v/\((mv.length<=8/\a1=0/\a2=0/\v=10)\/(mv.length<=5/\a1=12/\a2=12/\v=13)\/(mv.length<=2/\a1=80/\a2=160/\v=30))
def lH (mv pt lk:LR9) (T:Nat):Prop:=∃M1 M2 M3 V a1 a2 c,B7 mv pt lk M1 M2 M3 V a1 a2 c/\a1<=92/\a2<=172/\c<=45/\(a1+c)*(T+3)<=2500
theorem lH.z (h:lH mv pt lk T) (D:dD mv pt lk):Bx mv pt lk T:=by
 obtain ⟨M1,M2,M3,V,a1,a2,c,B,h1,h2,h3,h4⟩:=h;exact FX B D (by lia)
theorem lH.sf (h:lH mv pt lk T):vX mv pt lk:=by
 obtain ⟨M1,M2,M3,V,a1,a2,c,B,h1,h2,h3,h4⟩:=h;have V1:V<=2^400:=ak (ak (fW _ (by lia)) B.vc) (aD (by decide) (by lia));refine ⟨M1*M2*M3,V,dH (dH B.m1 B.m2) B.m3,?_,V1,λxs hx x hx'=>(B.gm xs hx x hx').dvd ⟨M2*M3,by rw[cP]⟩,λxs hx x hx'=>(B.gp xs hx x hx').dvd ⟨M1*M3,by rw[c7 M1 M2,cP]⟩,λxs hx x hx'=>(B.gl xs hx x hx').dvd ⟨M1*M2,by rw[c7]⟩⟩;refine ak (aR (aR B.b1 B.b2) B.b3) ?_;rw[<- bK,<- bK];exact aD (by decide) (by lia)
theorem JP {n V v:Nat} (hn:n<=8) (hV:V<=2^v):(n+4)*V<=2^(v+4):=by
 rw[bK,c7 (2^v)];exact aR (show n+4<=2^4 by lia) hV
theorem tU (C:JO mv pt lk O1 O2 O3 V0) (hn:n<=mv.length+1\/n<=3) (h8:n<=8):lH mv pt lk (mv.length+n):=by
 obtain ⟨G,a1,a2,v,b1,b2,b3,bv,hc⟩:=C;refine ⟨O1,O2,O3,V0,a1,a2,v+4,⟨G.o1.1,G.o2.1,G.o3.1,b1,b2,b3,G.g1,G.g2,G.g3,JP (by lia) bv⟩,by lia,by lia,by lia,?_⟩;rcases hc with ⟨h,rfl,rfl,rfl⟩ | ⟨h,rfl,rfl,rfl⟩ | ⟨h,rfl,rfl,rfl⟩ <;> lia
theorem zJ (h:O<=2^a):2520*O<=2^(a+12):=by
 rw[bK,c7];exact aR h (by decide)
theorem HM (h:W<=2^v) (hv:10<=v):9^3*(W+9)<=2^(v+11):=by
 have h2:2^10<=2^v:=aD (by decide) hv;have h3:2^(v+11)=2^v*2048:=by rw[bK]
 rw[h3]
 lia
theorem Af (C:JO mv pt lk O1 O2 O3 V0) (hn:mv2.length<=mv.length+1) (h8:mv2.length<=8) (f1:GF (2520*O1) (9^3*(V0+9)) mv2) (f2:GF (2520*O2) (9^3*(V0+9)) pt2) (f3:GF (2520*O3) (9^3*(V0+9)) lk2):lH mv2 pt2 lk2 (mv.length+mv2.length):=by
 obtain ⟨G,a1,a2,v,b1,b2,b3,bv,hc⟩:=C;have:=G.o1.1;have:=G.o2.1;have:=G.o3.1;refine ⟨2520*O1,2520*O2,2520*O3,9^3*(V0+9),a1+12,a2+12,v+11+4,⟨by lia,by lia,by lia,zJ b1,zJ b2,zJ b3,f1,f2,f3,JP h8 (HM bv (by lia))⟩,by lia,by lia,by lia,?_⟩;rcases hc with ⟨h,rfl,rfl,rfl⟩ | ⟨h,rfl,rfl,rfl⟩ | ⟨h,rfl,rfl,rfl⟩ <;> lia
theorem Fy (P:JI n i o 4 c mv2 pt2 lk2) (ln:mv2.length=n) (hn:n<=3) (hT:T<=11):lH mv2 pt2 lk2 T:=by
 obtain ⟨M1,M2,M3,V1,a1,a2,a3,f1,f2,f3,hc⟩:=P;rcases hc with ⟨_,rfl,rfl,rfl,rfl⟩ | ⟨z,_⟩
 ·exact ⟨2520,2520,2520,9^3*9,12,12,13+4,⟨a1,a2,a3,by decide,by decide,by decide,f1,f2,f3,JP (by lia) (by decide)⟩,by decide,by decide,by decide,by lia⟩
 ·lia
inductive Cb (K:FG9) (vs:List V) (H:Hp) (Q:VK) (E9:XK):Prop
 | mk (b r:Addr) (H0:Hp) (mv pt lk:LR9) (O1 O2 O3 V0:Nat):vs=[.ref b,.ref r]->eQ H b->H0 b≠none->cR K H0 H r mv pt lk->dD mv pt lk->JO mv pt lk O1 O2 O3 V0 →
   (∀r' mv2 pt2 lk2 H',cR K H H' r' mv2 pt2 lk2->dD mv2 pt2 lk2->lH mv pt lk (mv.length+mv2.length)->lH mv2 pt2 lk2 (mv.length+mv2.length)->eQ H' b->cb b H H'->Q (.ref r') H')->Cb K vs H Q E9
theorem HR.all (U:HR μ ws vs M1 M2 M3 V9) (x:V):0 < μ x/\μ x<=2^800:=by
 rcases U.e4 x with e | e | e <;> rw[e]
 ·exact U.p1
 ·exact U.p2
 ·exact U.p3
theorem BN {K:FG9} (g:H t=some (.tup [.int 1,.int (1+v)])) (h0:0<=v) (h1:v < 3):∃y:Rat,bL K H y (.ref t)/\∀M,2520∣M->Fr M 9 y:=by
 rcases (show v=0\/v=1\/v=2 by lia) with rfl | rfl | rfl
 ·exact ⟨1,bL.mk g rfl,λM d=>uh ⟨by decide,by decide⟩ d⟩
 ·exact ⟨1 / 2,bL.mk g (by decide +kernel),λM d=>uh ⟨by decide +kernel,by decide +kernel⟩ d⟩
 ·exact ⟨1 / 3,bL.mk g (by decide +kernel),λM d=>uh ⟨by decide +kernel,by decide +kernel⟩ d⟩
theorem rX (h:Fr M W x) (h0:0 < M) (h1:M<=2^800) (h2:W<=2^40):rZ x:=w5 h0 h1 h2 (by decide) h
abbrev HY:Kind (Int×Int×Int):=IZ EO EO EO
def R3 (K:FG9) (H:Hp) (x:V):Option (Option (Int×Int×Int))->Prop
 | none=>x=.bl true
 | some none=>x=.non
 | some (some a)=>HY.R K H x a
theorem R3.tup {X:Cx} {pins:List (Addr×Obj)} {σ:St} {H:Hp} {s:Shared} {x:V} {v:Value} {a:Int×Int×Int} (I:Inv X pins σ H s) (rx:RelV x v) (h:R3 X.K H x (some (some a))):∃p items,v=.ref p/\s.heap.IsTuple p items:=by
 obtain ⟨p,u,w,z,rfl,hp,_⟩:=h;cases rx;obtain ⟨_,_,pt,_⟩:=I.tuple hp;exact ⟨p,_,rfl,pt⟩
def G5:Kind (Option (Option (Int×Int×Int))) where
 R:=R3
 d:=HY.d
 inj:=λ{X pins σ H s x a b} I h1 h2=>by
  match a,b,h1,h2 with
  | none,none,_,_=>rfl
  | some none,some none,_,_=>rfl
  | some (some a),some (some b),h1,h2=>rw[HY.inj I h1 h2]
  | none,some none,h1,h2=>rw[show x=.bl true from h1] at h2;cases (show V.bl true=.non from h2)
  | some none,none,h1,h2=>rw[show x=.non from h1] at h2;cases (show V.non=.bl true from h2)
  | none,some (some _),h1,h2=>obtain ⟨p,_,_,_,e,_⟩:=h2;rw[show x=.bl true from h1] at e;cases e
  | some none,some (some _),h1,h2=>obtain ⟨p,_,_,_,e,_⟩:=h2;rw[show x=.non from h1] at e;cases e
  | some (some _),none,h1,h2=>obtain ⟨p,_,_,_,e,_⟩:=h1;rw[show x=.bl true from h2] at e;cases e
  | some (some _),some none,h1,h2=>obtain ⟨p,_,_,_,e,_⟩:=h1;rw[show x=.non from h2] at e;cases e
 rc:=λ{X pins σ H s x y v u a b A} I rx ry h1 h2 hA=>by
  have hu:A.units < cLine:=bu (fJ _ _) hA
  match a,b,h1,h2 with
  | none,none,h1,h2 =>
   cases (show x=.bl true from h1);cases (show y=.bl true from h2);cases (show v=.bool true from rx);cases (show u=.bool true from ry);exact SeqAt.RcAt.bool_bool true true
  | some none,some none,h1,h2 =>
   cases (show x=.non from h1);cases (show y=.non from h2);cases (show v=.none from rx);cases (show u=.none from ry);exact SeqAt.RcAt.none_none
  | some (some a),some (some b),h1,h2 =>
   have q:=HY.rc (A:=A) I rx ry h1 h2 hA;have e:decide (some (some a)=some (some b))=decide (a=b):=by simp
   rw[e];exact q
  | none,some none,h1,h2 =>
   cases (show x=.bl true from h1);cases (show y=.non from h2);cases (show v=.bool true from rx);cases (show u=.none from ry);exact SeqAt.RcAt.bool_none true
  | some none,none,h1,h2 =>
   cases (show x=.non from h1);cases (show y=.bl true from h2);cases (show v=.none from rx);cases (show u=.bool true from ry);exact SeqAt.RcAt.none_bool true
  | none,some (some b),h1,h2 =>
   cases (show x=.bl true from h1);cases (show v=.bool true from rx);obtain ⟨p,items,rfl,pt⟩:=R3.tup I ry h2;exact SeqAt.RcAt.bool_tuple true pt hu
  | some none,some (some b),h1,h2 =>
   cases (show x=.non from h1);cases (show v=.none from rx);obtain ⟨p,items,rfl,pt⟩:=R3.tup I ry h2;exact SeqAt.RcAt.none_tuple pt hu
  | some (some a),none,h1,h2 =>
   cases (show y=.bl true from h2);cases (show u=.bool true from ry);obtain ⟨p,items,rfl,pt⟩:=R3.tup I rx h1;exact SeqAt.RcAt.tuple_bool true pt hu
  | some (some a),some none,h1,h2 =>
   cases (show y=.non from h2);cases (show u=.none from ry);obtain ⟨p,items,rfl,pt⟩:=R3.tup I rx h1;exact SeqAt.RcAt.tuple_none pt hu
 ne:=λ{X pins σ H s x y v u a b A} I rx ry h1 h2 hA=>by
  have hu:A.units < cLine:=bu (fJ _ _) hA
  match a,b,h1,h2 with
  | none,none,h1,h2 =>
   cases (show x=.bl true from h1);cases (show y=.bl true from h2);cases (show v=.bool true from rx);cases (show u=.bool true from ry);exact SeqAt.RcNeAt.bool_bool true true
  | some none,some none,h1,h2 =>
   cases (show x=.non from h1);cases (show y=.non from h2);cases (show v=.none from rx);cases (show u=.none from ry);exact SeqAt.RcNeAt.none_none
  | some (some a),some (some b),h1,h2 =>
   have q:=HY.ne (A:=A) I rx ry h1 h2 hA;have e:decide (some (some a)=some (some b))=decide (a=b):=by simp
   rw[e];exact q
  | none,some none,h1,h2 =>
   cases (show x=.bl true from h1);cases (show y=.non from h2);cases (show v=.bool true from rx);cases (show u=.none from ry);exact SeqAt.RcNeAt.bool_none true
  | some none,none,h1,h2 =>
   cases (show x=.non from h1);cases (show y=.bl true from h2);cases (show v=.none from rx);cases (show u=.bool true from ry);exact SeqAt.RcNeAt.none_bool true
  | none,some (some b),h1,h2 =>
   cases (show x=.bl true from h1);cases (show v=.bool true from rx);obtain ⟨p,items,rfl,pt⟩:=R3.tup I ry h2;exact SeqAt.RcNeAt.bool_tuple true pt hu
  | some none,some (some b),h1,h2 =>
   cases (show x=.non from h1);cases (show v=.none from rx);obtain ⟨p,items,rfl,pt⟩:=R3.tup I ry h2;exact SeqAt.RcNeAt.none_tuple pt hu
  | some (some a),none,h1,h2 =>
   cases (show y=.bl true from h2);cases (show u=.bool true from ry);obtain ⟨p,items,rfl,pt⟩:=R3.tup I rx h1;exact SeqAt.RcNeAt.tuple_bool true pt hu
  | some (some a),some none,h1,h2 =>
   cases (show y=.non from h2);cases (show u=.none from ry);obtain ⟨p,items,rfl,pt⟩:=R3.tup I rx h1;exact SeqAt.RcNeAt.tuple_none pt hu
 eq:=λ{X pins σ H s x y v u a b A} I rx ry h1 h2 hA=>by
  have hu:A.units < cLine:=bu (fJ _ _) hA
  match a,b,h1,h2 with
  | none,none,h1,h2 =>
   cases (show x=.bl true from h1);cases (show y=.bl true from h2);cases (show v=.bool true from rx);cases (show u=.bool true from ry);exact SeqAt.EqAt.bool_bool true true
  | some none,some none,h1,h2 =>
   cases (show x=.non from h1);cases (show y=.non from h2);cases (show v=.none from rx);cases (show u=.none from ry);exact SeqAt.EqAt.same _
  | some (some a),some (some b),h1,h2 =>
   have q:=HY.eq (A:=A) I rx ry h1 h2 hA;have e:decide (some (some a)=some (some b))=decide (a=b):=by simp
   rw[e];exact q
  | none,some none,h1,h2 =>
   cases (show x=.bl true from h1);cases (show y=.non from h2);cases (show v=.bool true from rx);cases (show u=.none from ry);exact SeqAt.EqAt.bool_none true
  | some none,none,h1,h2 =>
   cases (show x=.non from h1);cases (show y=.bl true from h2);cases (show v=.none from rx);cases (show u=.bool true from ry);exact SeqAt.EqAt.none_bool true
  | none,some (some b),h1,h2 =>
   cases (show x=.bl true from h1);cases (show v=.bool true from rx);obtain ⟨p,items,rfl,pt⟩:=R3.tup I ry h2;exact SeqAt.EqAt.bool_tuple true pt hu
  | some none,some (some b),h1,h2 =>
   cases (show x=.non from h1);cases (show v=.none from rx);obtain ⟨p,items,rfl,pt⟩:=R3.tup I ry h2;exact SeqAt.EqAt.none_tuple pt hu
  | some (some a),none,h1,h2 =>
   cases (show y=.bl true from h2);cases (show u=.bool true from ry);obtain ⟨p,items,rfl,pt⟩:=R3.tup I rx h1;exact SeqAt.EqAt.tuple_bool true pt hu
  | some (some a),some none,h1,h2 =>
   cases (show y=.non from h2);cases (show u=.none from ry);obtain ⟨p,items,rfl,pt⟩:=R3.tup I rx h1;exact SeqAt.EqAt.tuple_none pt hu
def FP (H:Hp) (v:V):Option (Option (Nat×Nat×Nat))->Prop
 | none=>∃t,v=.ref t/\H t=some (.tup [.str "no",.bl true])
 | some o=>∃t u,v=.ref t/\H t=some (.tup [.str "told",u])/\FR H u o
def EY:Option (Option (Nat×Nat×Nat))->Str×Option (Option (Int×Int×Int))
 | none=>("no",none)
 | some o=>("told",some (o.map λ(t,l,p)=>((t:Int),(l:Int),(p:Int))))
theorem FP.same (h:FP H v x) (s:aH H H'):FP H' v x:=by
 match x,h with
 | none,⟨t,e,g⟩=>exact ⟨t,e,s _ _ g⟩
 | some o,⟨t,u,e,g,a⟩=>exact ⟨t,u,e,s _ _ g,a.same s⟩
theorem Jr {K:FG9} (h:FR H u o):R3 K H u (some (o.map λ(t,l,p)=>((t:Int),(l:Int),(p:Int)))):=by
 match o,h with
 | none,h=>exact h
 | some (t,l,p),⟨r,e,g⟩=>exact ⟨r,_,_,_,e,iP.of g,rfl,rfl,rfl⟩
theorem FP.kind {K:FG9} (h:FP H v x):(C8 G9 G5).R K H v (EY x):=by
 match x,h with
 | none,⟨t,e,g⟩=>exact ⟨t,_,_,e,iP.of g,rfl,rfl⟩
 | some o,⟨t,u,e,g,a⟩=>exact ⟨t,_,_,e,iP.of g,rfl,Jr a⟩
theorem rT {α:Type} [DecidableEq α]:∀{as bs:List α},rV as bs=rV bs as
 | [],[]=>rfl
 | [],_ :: _=>rfl
 | _ :: _,[]=>rfl
 | a :: as,b :: bs=>by
  unfold rV;by_cases e:a=b
  ·rw[if_pos e,if_pos e.symm,rT]
  ·rw[if_neg e,if_neg λz=>e z.symm]
theorem Fb:Bw gs hs=Bw hs gs:=by
 unfold Bw;rw[rT];cases rV hs gs with
 | none=>rfl
 | some t =>
  show (match rV (gs.getD t []) (hs.getD t []) with | none=>none | some l=>_)=(match rV (hs.getD t []) (gs.getD t []) with | none=>none | some l=>_)
  rw[rT];cases rV (hs.getD t []) (gs.getD t []) with
  | none=>rfl
  | some l =>
   show (match rV ((gs.getD t []).getD l []) ((hs.getD t []).getD l []) with | none=>none | some p=>_)=(match rV ((hs.getD t []).getD l []) ((gs.getD t []).getD l []) with | none=>none | some p=>_)
   rw[rT]
theorem E8 (sh:Sh7 gs hs) (h:Bw gs hs=none):gs=hs:=by
 apply Classical.byContradiction;intro ne;obtain ⟨t,g,h1,ft,eg,eh,n1,t1⟩:=kY sh.1 ne;obtain ⟨le1,sh1⟩:=sh.2 t g h1 eg eh;obtain ⟨l,x,y,fl,ex,ey,n2,t2⟩:=kY le1 n1;obtain ⟨p,a,b,fp,ea,eb,n3,t3⟩:=kY (sh1 l x y ex ey) n2;rw[DK eg eh t1 ex ey t2 ea eb t3 n3] at h;cases h
theorem Fw:ow (FQ P w) X E0:=by
 rintro pins σ H1 s1 e s' I ⟨ea,t,cls,dx,H',B,rfl,F,hE⟩;exact hE.elim
theorem HJ (D:dD mv pt lk) (h1:Rg mv pt w) (h2:Rg (fH mv mv.length) lk w):∃O1 O2 O3 V0,JO mv pt lk O1 O2 O3 V0:=by
 have n8:=D.n8;have et:(fH mv mv.length).length=mv.length:=hR;have up:∀{M V V':Nat} {rows:LR9},GF M V rows->V<=V'->GF M V' rows:=λh hv xs hx x hx'=>(h xs hx x hx').mono hv
 have q0:∀{M:Nat},0 < M->M<=2^12->0 < M/\M<=2^160:=λh0 h=>⟨h0,ak h (aD (by decide) (by decide))⟩
 rcases h1 with ⟨w1,B⟩ | ⟨w1,n5,B⟩ | ⟨w1,n2,M1,M2,B⟩
 ·rcases h2 with ⟨_,C⟩ | ⟨_,m5,C⟩ | ⟨w2,_⟩
  ·exact ⟨1,1,1,9^3,⟨q0 (by decide) (by decide),q0 (by decide) (by decide),q0 (by decide) (by decide),by decide,B.gm,B.gp,C.gp⟩,0,0,10,by decide,by decide,by decide,by decide,.inl ⟨n8,rfl,rfl,rfl⟩⟩
  ·exact ⟨1,1,2520,9^3*9,⟨q0 (by decide) (by decide),q0 (by decide) (by decide),q0 (by decide) (by decide),by decide,up B.gm (by decide),up B.gp (by decide),C.gp⟩,12,12,13,by decide,by decide,by decide,by decide,.inr (.inl ⟨by lia,rfl,rfl,rfl⟩)⟩
  ·lia
 ·rcases h2 with ⟨_,C⟩ | ⟨_,m5,C⟩ | ⟨w2,_⟩
  ·exact ⟨2520,2520,1,9^3*9,⟨q0 (by decide) (by decide),q0 (by decide) (by decide),q0 (by decide) (by decide),by decide,B.gm,B.gp,up C.gp (by decide)⟩,12,12,13,by decide,by decide,by decide,by decide,.inr (.inl ⟨n5,rfl,rfl,rfl⟩)⟩
  ·exact ⟨2520,2520,2520,9^3*9,⟨q0 (by decide) (by decide),q0 (by decide) (by decide),q0 (by decide) (by decide),by decide,B.gm,B.gp,C.gp⟩,12,12,13,by decide,by decide,by decide,by decide,.inr (.inl ⟨n5,rfl,rfl,rfl⟩)⟩
  ·lia
 ·rcases h2 with ⟨w2,_⟩ | ⟨w2,_⟩ | ⟨w2,m2,N1,N2,C⟩
  ·lia
  ·lia
  ·exact ⟨M1,M2,N2,9^3*2^20,⟨⟨B.m1,ak B.b1 (aD (by decide) (by decide))⟩,⟨B.m2,B.b2⟩,⟨C.m2,C.b2⟩,by decide,B.gm,B.gp,C.gp⟩,80,160,30,B.b1,B.b2,C.b2,by decide,.inr (.inr ⟨n2,rfl,rfl,rfl⟩)⟩
theorem C2 (N:lH mv pt lk T) (D:dD mv pt lk) (w1:w<=1000) (lp:pus.length=6) (hp:∀xs∈pus,xs.length=pt.length/\∀x∈xs,Dr (max w 6) x) :
  (∀(k:Nat) pu,pus[k]?=some pu->Ib mv pt (oA mv pt (List.replicate mv.length 0) pus k) pu)/\∀k,k<=pus.length->∀ys∈lk,rO ys (oA mv pt (List.replicate mv.length 0) pus k):=by
 obtain ⟨M1,M2,M3,V,a1,a2,c,B,h1,h2,h3,h4⟩:=N;have i4:=D.i4;obtain ⟨Np,p0,p1,p2⟩:=z7 (c:=10) (n:=pt.length) (rows:=pus) λxs hx=>⟨(hp xs hx).1,λx hx'=>⟨ak ((hp xs hx).2 x hx').1 (by lia),ak ((hp xs hx).2 x hx').2 (by lia)⟩⟩
 have p3:Np<=2^240:=ak p1 (aD (by decide) (by rw[lp];lia));have Bd':Bd mv pt M1 M2 V a1 a2 c:=⟨B.m1,B.m2,B.b1,B.b2,B.gm,B.gp,B.vc⟩;have N0:0 < M2*Np:=dH B.m2 p0;have Nb:M2*Np<=2^(a2+240):=by rw[bK];exact aR B.b2 p3
 have V1:V<=2^c:=ak (fW _ (by lia)) B.vc;have st:=Bd'.states (st:=List.replicate mv.length 0) (pus:=pus) (p:=10) D aT (λxs hx=>(hp xs hx).1) N0 Nb (Nat.dvd_refl _) (λx hx=>by rw[iR hx];exact Fr.zero) p2 (by rw[lp];lia) (by lia);refine ⟨λk pu e=>(st k (aU (aF.mp e).1)).2 pu e,λk hk ys hy=>?_⟩;have e1:a1*k<=92*6:=aR h1 (by lia);have e2:c*k<=45*6:=aR h3 (by lia);exact ⟨a2,c,a1*k+(a2+240),c*k+10,⟨M3,V,B.m3,B.b3,V1,B.gl ys hy⟩,⟨M1^k*(M2*Np),2^(c*k+10),dH (Nat.pow_pos B.m1) N0,tx B.b1 Nb,ay _,(st k hk).1⟩,by lia⟩
theorem GX (D1:dD mv pt lk) (D2:dD mv2 pt2 lk2) (e1:pt.length=pt2.length) (e2:lk.length=lk2.length) (h:fv mv pt lk (mv.length+mv2.length)=fv mv2 pt2 lk2 (mv.length+mv2.length)) (w:∀xs∈pus,xs.length=pt.length):DO mv pt lk pus pus.length=DO mv2 pt2 lk2 pus pus.length:=by
 have h':∀t,t < mv.length+mv2.length->tw mv pt lk t=tw mv2 pt2 lk2 t:=λt ht=>by
  have:=congrArg (λg=>g[t]?) h;unfold fv at this;simp only[aY,fG ht] at this;exact bR this
 unfold DO;refine d5 λk hk=>?_
 exact EM D1 D2 e1 e2 h' w (t:=k+1) (by have:=nO.mp hk;lia)
section
variable {K:FG9} {C x y:Addr} {H H0 H1:Hp} {mv pt lk mv2 pt2 lk2:LR9} {xd:Option (Option (Nat×Nat×Nat))} {Q:VK} {E9:XK}
theorem EX (h:EY xd=EY (some none)):xd=some none:=by
 match xd,h with
 | none,h=>have:=congrArg Prod.snd h;simp [EY] at this
 | some none,_=>rfl
 | some (some _),h=>have:=congrArg Prod.snd h;simp [EY] at this
abbrev o7 (mv pt lk mv2 pt2 lk2:LR9):Option (Nat×Nat×Nat):=Bw (fv mv pt lk (mv.length+mv2.length)) (fv mv2 pt2 lk2 (mv.length+mv2.length))
def Js (mv pt lk mv2 pt2 lk2:LR9) (xd:Option (Option (Nat×Nat×Nat))):Prop:=(pt.length=pt2.length/\lk.length=lk2.length/\xd=some (o7 mv pt lk mv2 pt2 lk2))\/(¬(pt.length=pt2.length/\lk.length=lk2.length)/\xd=none)
theorem Js.swap (h:Js mv pt lk mv2 pt2 lk2 xd):Js mv2 pt2 lk2 mv pt lk xd:=by
 rcases h with ⟨a,b,c⟩ | ⟨a,b⟩
 ·exact .inl ⟨a.symm,b.symm,by rw[c];unfold o7;rw[Fb,sI]⟩
 ·exact .inr ⟨λz=>a ⟨z.1.symm,z.2.symm⟩,b⟩
theorem Fh (S1:jx K H0 H C x mv pt lk) (S2:jx K H1 H C y mv2 pt2 lk2) (D1:dD mv pt lk) (D2:dD mv2 pt2 lk2) (Z1:Bx mv pt lk (mv.length+mv2.length)) (Z2:Bx mv2 pt2 lk2 (mv.length+mv2.length)) (hx:Js mv pt lk mv2 pt2 lk2 xd) (k:∀v H',aH H H'->FP H' v xd->Q v H'):yV K C [.ref x,.ref y] H Q E9:=by
 refine ⟨x,y,H0,H1,mv,pt,lk,mv2,pt2,lk2,rfl,S1,S2,D1,D2,Z1,Z2,λno t H' s g=>k _ _ s ?_,λe1 e2 t u H' s g a=>k _ _ s ?_⟩
 ·rcases hx with ⟨a,b,_⟩ | ⟨_,e⟩
  ·exact absurd ⟨a,b⟩ no
  ·rw[e];exact ⟨t,rfl,g⟩
 ·rcases hx with ⟨_,_,e⟩ | ⟨z,_⟩
  ·rw[e];exact ⟨t,u,rfl,g,a⟩
  ·exact absurd ⟨e1,e2⟩ z
end
end L2
open L2
local macro_rules | `(tactic| walk_at "hl") => `(tactic| first | (show _ ≤ sizeLine; with_unfolding_all decide) | (with_unfolding_all exact (by decide)))
local macro_rules | `(tactic| walk_at "sq") => `(tactic| first | with_reducible assumption | with_reducible exact iP.of (by assumption) | with_reducible exact bB.of (by assumption) | with_reducible exact iP.of aJ | with_reducible exact bB.of aJ | assumption)
local macro_rules | `(tactic| walk_at "sc") => `(tactic| first | (with_reducible show (0 : Int) < _; decide) | with_reducible exact E3 (by decide) (by decide) | with_reducible exact Av (by decide) (by decide) | with_reducible exact cpow_of (by decide) (by decide) (by decide))
local macro_rules | `(tactic| walk_at "rd") => `(tactic| first
  | with_reducible refine Gg ?_
  | with_reducible refine Eh ?_
  | with_reducible refine GB ?_
  | with_reducible refine CF ?_
  | ((with_reducible refine' Gd ?hx1 ?_); (case hx1 => with_unfolding_all rfl))
  | with_reducible refine JS ?_
  | with_reducible refine IK ?_
  | with_reducible refine IP ?_
  | with_reducible refine IG ?_
  | with_reducible refine JT ?_
  | with_reducible refine GA ?_
  | with_reducible refine Gq ?_
  | with_reducible refine Gz ?_
  | with_reducible refine rd_neS ?_
  | with_reducible refine rd_eqB ?_
  | with_reducible refine rd_neB ?_
  | with_reducible refine Ek ?_
  | with_reducible refine za ?_
  | with_reducible refine Gy ?_
  | with_reducible refine Ee ?_
  | with_reducible refine Ei ?_
  | with_reducible refine Ej ?_
  | with_reducible refine CD ?_
  | with_reducible refine Gw ?_
  | with_reducible refine Ed ?_
  | with_reducible refine IH ?_
  | with_reducible refine Gh ?_
  | with_reducible refine rd_retN ?_
  | with_reducible refine Gv ?_
  | with_reducible refine GC ?_
  | with_reducible refine IJ ?_
  | with_reducible refine Gj ?_
  | with_reducible refine Ex ?_
  | with_reducible refine rd_orV ?_
  | with_reducible refine Eg ?_
  | with_reducible refine rd_ifE ?_
  | with_reducible refine F9 ?_
  | with_reducible refine Ho ?_
  | with_reducible refine Jb ?_
  | with_reducible refine Jc ?_
  | with_reducible refine Jd ?_
  | with_reducible refine IF ?_
  | with_reducible refine Gk ?_
  | with_reducible refine Es ?_
  | with_reducible refine Ge ?_
  | with_reducible refine Gs ?_
  | with_reducible refine Eu ?_
  | with_reducible refine IL ?_
  | with_reducible refine Er ?_
  | with_reducible refine Gi ?_
  | with_reducible refine Ew ?_
  | ((with_reducible refine' rd_aug ?hx1 ?_); (case hx1 => with_unfolding_all rfl))
  | with_reducible refine Gu ?_
  | with_reducible refine En ?_
  | with_reducible refine CG ?_
  | with_reducible refine Eo ?_
  | with_reducible refine II ?_
  | with_reducible refine AS ?_
  | with_reducible refine Ef ?_
  | with_reducible refine Gx ?_
  | with_reducible refine CC ?_
  | with_reducible refine El ?_
  | with_reducible refine CB ?_
  | with_reducible refine rd_iRng2 ?_
  | ((with_reducible refine' Et ?hx1 ?_); (case hx1 => with_unfolding_all rfl))
  | with_reducible refine Ec ?_
  | with_reducible refine IM ?_
  | with_reducible refine rd_bm0 ?_
  | with_reducible refine rd_brk ?_
  | ((with_reducible refine' Em ?hx1 ?hx2 ?_); (case hx1 => walk_at "sq"); (case hx2 => with_unfolding_all rfl))
  | with_reducible refine rd_cont ?_
  | ((with_reducible refine' ie ?hx1 ?_); (case hx1 => walk_at "sc"))
  | ((with_reducible refine' zb ?hx1 ?hx2 ?_); (case hx1 => walk_at "sq"); (case hx2 => with_unfolding_all rfl))
  | ((with_reducible refine' bT ?hx1 ?hx2 ?_); (case hx1 => walk_at "sq"); (case hx2 => with_unfolding_all rfl))
  | ((with_reducible refine' Ep ?hx1 ?hx2 ?_); (case hx1 => walk_at "sq"); (case hx2 => with_unfolding_all rfl))
  | ((with_reducible refine' dE ?hx1 ?hx2 ?hx3 ?_); (case hx1 => with_reducible first | assumption | exact aJ); (case hx2 => with_unfolding_all rfl); (case hx3 => with_unfolding_all rfl))
  | with_reducible refine ⟨_, rfl, ?_⟩
  | with_reducible refine ⟨_, _, rfl, ?_⟩)
local macro_rules | `(tactic| walk_at "w") => `(tactic| repeat walk_at "rd")
local macro_rules | `(tactic| walk_at "d") => `(tactic| exact ⟨rfl,rfl,rfl,by decide +kernel,rfl,by decide +kernel,by decide +kernel⟩)
namespace Lw
open PySem PySem.Spec PyProof.Rows L2 Nm
local macro_rules | `(tactic| exists $e) => `(tactic| (walk_at "w";refine $e))
set_option maxHeartbeats 4000000
def top (i:Nat):Stmt:=PySem.Challenge.pw_helmsum_k77_apart.main.body.getD i (.Pass ⟨0,0,0,0⟩)
abbrev nZ:Stmt:=top 38
abbrev lU:Stmt:=top 39
abbrev iT:Stmt:=top 52
abbrev l7:Stmt:=top 54
abbrev nX:Stmt:=top 40
abbrev nV:Stmt:=top 41
abbrev lX:Stmt:=top 46
abbrev lW:Stmt:=top 42
abbrev p4:Stmt:=top 47
abbrev kC:Stmt:=top 49
abbrev ib:Stmt:=top 55
abbrev jT:Stmt:=top 43
abbrev nW:Stmt:=top 44
abbrev lZ:Stmt:=top 48
abbrev kz:Stmt:=top 50
abbrev jR:Stmt:=top 56
abbrev jU:Stmt:=top 51
abbrev kE:Stmt:=top 63
abbrev kB:Stmt:=top 64
abbrev lQ:Stmt:=top 31
abbrev nU:Stmt:=top 9
abbrev ia:Stmt:=top 10
abbrev lS:Stmt:=top 12
abbrev tj:Stmt:=top 15
abbrev jQ:Stmt:=top 32
abbrev c6:Stmt:=inClass (top 33) 0
abbrev l5:Stmt:=top 57
abbrev nY:Stmt:=top 45
abbrev pZ:Stmt:=top 53
abbrev jS:Stmt:=top 61
abbrev kG:Stmt:=top 62
abbrev ky:Stmt:=top 19
abbrev gH:Stmt:=top 11
abbrev iN:Stmt:=top 16
abbrev lR:Stmt:=top 17
abbrev sY:Stmt:=top 13
abbrev pX:Stmt:=top 18
abbrev pY:Stmt:=top 21
abbrev eL:Stmt:=inClass (top 33) 2
abbrev jP:Stmt:=top 22
abbrev d7:Stmt:=inClass (top 33) 1
abbrev tm:Stmt:=top 24
abbrev jO:Stmt:=top 25
abbrev sX:Stmt:=top 26
abbrev ji:Stmt:=top 35
abbrev wK:Stmt:=top 36
abbrev lT:Stmt:=top 65
abbrev lV:Stmt:=top 58
abbrev lY:Stmt:=top 59
abbrev kD:Stmt:=top 60
abbrev Ct:Stmt:=top 66
set_option genInjectivity false in
set_option genSizeOf false in
structure Ads where
 uJ:Addr
 uu:FuncData
 qZ:Addr
 qM:FuncData
 pA:Addr
 oX:FuncData
 rC:Addr
 qT:FuncData
 uH:Addr
 uq:FuncData
 uF:Addr
 uk:FuncData
 rj:Addr
 qP:FuncData
 rh:Addr
 qO:FuncData
 vW:Addr
 vK:FuncData
 pE:Addr
 o6:FuncData
 kn:Addr
 ki:FuncData
 nG:Addr
 m9:FuncData
 uG:Addr
 uo:FuncData
 rA:Addr
 qR:FuncData
 pB:Addr
 oY:FuncData
 nE:Addr
 m6:FuncData
 nH:Addr
 ng:FuncData
 pG:Addr
 o9:FuncData
 pC:Addr
 oZ:FuncData
 qV:Addr
 qI:FuncData
 uE:Addr
 uj:FuncData
 km:Addr
 kh:FuncData
 qX:Addr
 qK:FuncData
 yG:Addr
 yx:FuncData
 nD:Addr
 m4:FuncData
 gQ:Addr
 gP:FuncData
 rB:Addr
 qS:FuncData
 uI:Addr
 ur:FuncData
 vV:Addr
 vJ:FuncData
 nF:Addr
 m7:FuncData
 pH:Addr
 pe:FuncData
 pk:Addr
 oW:FuncData
 jH:Addr
 jF:FuncData
 lG:Addr
 lF:FuncData
 qW:Addr
 qJ:FuncData
 yF:Addr
 yw:FuncData
 vT:Addr
 vH:FuncData
 vU:Addr
 vI:FuncData
 j9:Addr
 j7:FuncData
 nB:Addr
 mZ:FuncData
 jt:Addr
 js:FuncData
 yH:Addr
 yy:FuncData
 nA:Addr
 mY:FuncData
 yE:Addr
 yu:FuncData
 mC:Addr
 my:FuncData
 Az:Addr
 Au:FuncData
 qY:Addr
 qL:FuncData
 rg:Addr
 qN:FuncData
 rk:Addr
 qQ:FuncData
 pF:Addr
 o8:FuncData
 FL:Addr
 FJ:FuncData
 a_NOUGHT:Addr
 t_MOST_STATES:Tok
 t_MOST_PUTS:Tok
 t_MOST_LOOKS:Tok
 a_System:Addr
 a_SumError:Addr
 a_NoFit:Addr
structure Txt (K:W.Frag) (mg:Str->Option Value) (Z:Ads):Prop where
 md:Df K mg "_law_bag" nZ ["_law_script"] Z.uJ Z.uu
 aI:Df K mg "_law_take" lU ["_law_bag_here","_law_many"] Z.qZ Z.qM
 j3:Df K mg "_law_sizes" iT ["_law_bag_here"] Z.pA Z.oX
 gO:Df K mg "_law_line" l7 ["_law_bag_here","_law_n"] Z.rC Z.qT
 gA:Df K mg "_law_low" nX ["_law_top","_law_bottom"] Z.uH Z.uq
 ff:Df K mg "_law_sum" nV ["_law_one","_law_other_here"] Z.uF Z.uk
 iY:Df K mg "_law_plus" lX ["_law_one","_law_other_here"] Z.rj Z.qP
 fB:Df K mg "_law_prod" lW ["_law_one","_law_other_here"] Z.rh Z.qO
 kW:Df K mg "_law_by" p4 ["_law_by_here","_law_row_here"] Z.vW Z.vK
 dY:Df K mg "_law_mixed" kC ["_law_bag_here","_law_move_here","_law_put","_law_look"] Z.pE Z.o6
 gM:Df K mg "_law_two_lines" ib ["_law_bag_here"] Z.kn Z.ki
 fj:Df K mg "_law_number" jT ["_law_bag_here","_law_wide"] Z.nG Z.m9
 fh:Df K mg "_law_row" nW ["_law_bag_here","_law_many","_law_wide"] Z.uG Z.uo
 kU:Df K mg "_law_move" lZ ["_law_bag_here","_law_n","_law_way","_law_first_here","_law_wide"] Z.rA Z.qR
 fP:Df K mg "_law_parts" kz ["_law_bag_here","_law_n","_law_ins","_law_outs","_law_wide"] Z.pB Z.oY
 jq:Df K mg "_law_system" jR ["_law_bag_here"] Z.nE Z.m6
 dB:Df K mg "_law_copied" jU ["_law_grid"] Z.nH Z.ng
 j5:Df K mg "_law_grown" kE ["_law_bag_here","_law_parts_here"] Z.pG Z.o9
 j4:Df K mg "_law_other" kB ["_law_bag_here","_law_parts_here"] Z.pC Z.oZ
 gK:Df K mg "want_list" lQ ["thing","at","most"] Z.qV Z.qI
 jD:Df K mg "is_whole" nU ["thing"] Z.uE Z.uj
 dO:Df K mg "common_divisor" ia ["one","other"] Z.km Z.kh
 kP:Df K mg "is_number" lS ["thing"] Z.qX Z.qK
 qe:Df K mg "is_row" tj ["thing","many"] Z.yG Z.yx
 eZ:Df K mg "copied_rows" jQ ["things","wide"] Z.nD Z.m4
 jG:Binds K Z.gP ["self","move","put","look"] []
 jJ:Bt K "__init__" "System.__init__" c6 Z.gQ Z.gP
 iZ:Df K mg "_law_made" l5 ["_law_parts_here"] Z.rB Z.qS
 jE:Df K mg "_law_dot" nY ["_law_one","_law_other_here"] Z.uI Z.ur
 jr:Df K mg "_law_on" pZ ["_law_grid","_law_row_here"] Z.vV Z.vJ
 gN:Df K mg "_law_pulses" jS ["_law_parts_here","_law_steps"] Z.nF Z.m7
 j6:Df K mg "_law_first" kG ["_law_one","_law_other_here"] Z.pH Z.pe
 jZ:Df K mg "nought_row" ky ["many"] Z.pk Z.oW
 fY:Df K mg "common_multiple" gH ["wholes"] Z.jH Z.jF
 fA:Df K mg "common_bottom" iN ["row"] Z.lG Z.lF
 iW:Df K mg "tops_over" lR ["row","bottom"] Z.qW Z.qJ
 qd:Df K mg "lowest" sY ["top","bottom"] Z.yF Z.yw
 kO:Df K mg "row_dot" pX ["one","other"] Z.vT Z.vH
 ot:Df K mg "grid_on" pY ["grid","row"] Z.vU Z.vI
 me:Fd K Z.a_System "seen" Z.j9
 nk:Binds K Z.j7 ["self","state"] []
 nJ:Bt K "seen" "System.seen" eL Z.j9 Z.j7
 gL:Df K mg "grid_turned" jP ["grid","wide"] Z.nB Z.mZ
 lE:Fd K Z.a_System "moved" Z.jt
 mB:Binds K Z.js ["self","state","puts"] []
 mE:Bt K "moved" "System.moved" d7 Z.jt Z.js
 qg:Df K mg "course" tm ["system","start","puts"] Z.yH Z.yy
 jo:Df K mg "looks_along" jO ["system","start","puts"] Z.nA Z.mY
 mM:Df K mg "pulses" sX ["system","steps"] Z.yE Z.yu
 eJ:Df K mg "first_unlike" ji ["one","other"] Z.mC Z.my
 fe:Df K mg "apart" wK ["one","other"] Z.Az Z.Au
 iX:Df K mg "_law_told" lT ["_law_one","_law_other_here"] Z.qY Z.qL
 kR:Df K mg "_law_puts" lV ["_law_bag_here","_law_parts_here","_law_steps","_law_wide"] Z.rg Z.qN
 kS:Df K mg "_law_next" lY ["_law_parts_here","_law_state","_law_puts_here"] Z.rk Z.qQ
 iq:Df K mg "_law_looks" kD ["_law_parts_here","_law_puts_here"] Z.pF Z.o8
 FO:Bt K "law" "law" Ct Z.FL Z.FJ
 abs:mg "abs"=none
 len:mg "len"=none
 min:mg "min"=none
 int:mg "int"=none
 range:mg "range"=none
 list:mg "list"=none
 isinstance:mg "isinstance"=none
 bool:mg "bool"=none
 tuple:mg "tuple"=none
 all:mg "all"=none
 enumerate:mg "enumerate"=none
 zip:mg "zip"=none
 sum:mg "sum"=none
 mg_NOUGHT:mg "NOUGHT"=some (.ref Z.a_NOUGHT)
 sq_NOUGHT:∀H,iP K H Z.a_NOUGHT [.int 0,.int 1]
 mg_MOST_STATES:mg "MOST_STATES"=some (.int 8 Z.t_MOST_STATES)
 mg_MOST_PUTS:mg "MOST_PUTS"=some (.int 4 Z.t_MOST_PUTS)
 mg_MOST_LOOKS:mg "MOST_LOOKS"=some (.int 4 Z.t_MOST_LOOKS)
 mg_System:mg "System"=some (.ref Z.a_System)
 cl_System:BB K Z.a_System
 na_move:gR K Z.a_System "move"
 na_states:gR K Z.a_System "states"
 na_put:gR K Z.a_System "put"
 na_ins:gR K Z.a_System "ins"
 na_look:gR K Z.a_System "look"
 na_outs:gR K Z.a_System "outs"
 mk_System:Mk K Z.a_System Z.gQ
 mg_SumError:mg "SumError"=some (.ref Z.a_SumError)
 mg_NoFit:mg "NoFit"=some (.ref Z.a_NoFit)
 ex_NoFit:W.excIn K Z.a_NoFit BK "ValueError.__new__"=true
 xm_NoFit_NoFit:W.exmOne K (.ref Z.a_NoFit) (.ref Z.a_NoFit)=some true
 ki_NoFit_SumError:W.kitOne K (.ref Z.a_NoFit) (.ref Z.a_SumError)=some true
section
variable {P:Program} {w:World} {K:W.Frag} {mg:Str->Option Value} {base:Heap} {Z:Ads}
theorem xT:br ["_law_script"] ["_law_script"] (aL nZ):=by walk_at "d"
theorem yd (T:Txt K mg Z):cC P w K mg base gV 1 Z.uJ Z.uu ["_law_script"] (Co K):=by
 refine T.md.F.ok xT (λvs H Q E h=>?_) (λcdv A outer s H vs Q E hr h=>?_)
 ·obtain ⟨a,ns,rfl,_⟩:=h;rfl
 ·obtain ⟨a,ns,rfl,hS,hlen,k⟩:=h;refine ⟨_,(ax (be (dM (aa ag (aa ag (aa ag (aa (bQ ["_law_cell"] [] [] (bW (tE wB (pv 0) wM (wL ag))) (λ_=>(aK (i:=0) (show ND9 ["_law_cell"] by decide +kernel))) (λ_=>b0) (λ_=>(bE uB (by rfl) T.abs PyProof.Rows.boot_abs (aa (pv 0) ae)))) ae))))))),?_⟩;refine aZ (σ:=[some (.ref a)]) rfl ?_;exists ⟨a,_,rfl,hS,λl hl=>?_⟩;have hcl:(rM (ns.map V.int) none (some 63)).length<=63:=ak (qU _ _ _) (by simpa using hlen);refine ⟨l,rfl,⟨_,bB.of aJ⟩,?_⟩;refine gD (K:=K) (a:=l) (xs:=rM (ns.map V.int) none (some 63)) (λi ys H'=>H'=upd H l (.lst (rM (ns.map V.int) none (some 63)))/\∃cs:List Int,ys=cs.map V.int/\∀x∈cs,0<=x) (ak hcl (by decide)) ⟨rfl,[],rfl,λ_ z=>nomatch z⟩ (λi ys H' _ ⟨e,_⟩=>by subst e;exact bB.of aJ) ?_ ?_
  ·rintro i x ys H' hx hi ⟨rfl,cs,rfl,hcs⟩
   obtain ⟨z,rfl⟩:∃z,x=V.int z:=by
    have hm:x∈ns.map V.int:=List.mem_of_mem_drop (dI (aj hx));obtain ⟨z,_,e⟩:=ba.mp hm;exact ⟨z,e.symm⟩
   exists ⟨rfl,cs++[if z < 0 then -z else z],by simp,λx hx=>?_⟩;rcases ar.mp hx with hx | hx
   ·exact hcs x hx
   ·have e:x=if z < 0 then -z else z:=by simpa using hx
    subst e
    split <;> lia
  ·rintro ys H' hy ⟨rfl,cs,rfl,hcs⟩ p hp;exists ⟨by show 4<=sizeLine;decide,λb hb=>?_⟩;have n1:b≠p:=λz=>by rw[z,aJ] at hb;cases hb
   have hb1:(upd H l (.lst (rM (ns.map V.int) none (some 63)))) b=none:=by rw[aN n1] at hb;exact hb
   have s1:aH H (upd H l (.lst (rM (ns.map V.int) none (some 63)))):=aH.new hl;refine k b _ (s1.free hb1) ⟨p,0,1234567891,0,cs,aJ,by rw[aN n1.symm];exact aJ,by decide,by decide,by lia,hcs⟩ ((s1.trans (aH.new hp)).trans (aH.new hb))
theorem eB:br ["_law_bag_here","_law_many","_law_more","_law_cell","_law_value","_law_first_here","_law_second"] ["_law_bag_here","_law_many"] (aL lU):=by walk_at "d"
theorem aO (T:Txt K mg Z):cC P w K mg base gV 1 Z.qZ Z.qM ["_law_bag_here","_law_many"] D7:=by
 refine T.aI.F.ok eB (λvs H Q E h=>?_) (λcdv A outer s H vs Q E hr h=>?_)
 ·obtain ⟨p,n,rfl,_⟩:=h;rfl
 ·obtain ⟨p,n,rfl,⟨q,a,b,c,cs,hp,hq,ha,hc,hcl,hcs⟩,hn,hn2,k⟩:=h;have nqp:q≠p:=Bq hp hq
  refine ⟨_,(d8 (cG (aX dh (bg bz (pv 0) ag) ag (bf _)) (ai (aV (i:=2) eB.nd rfl (Or.inl rfl) ag)
   (d8 (cG (aX mV (bg bz (pv 0) ag) (bE bq (by rfl) T.len bc (aa (bg bz (pv 0) ag) ae)) (bf _)) (ai (aV (i:=3) eB.nd rfl (Or.inl rfl) (bg bz (bg bz (pv 0) ag) (bg bz (pv 0) ag)))
   (ai (EB (pv 0) ag Dj ag Ht set_list)
   (ai (cG (aX vA (pv 3) ag (bf _)) (ax (dJ (pv 3) (eV (pv 0) ag set_list))) bH)
   (ax (aV (i:=2) eB.nd rfl (Or.inl rfl) (bC d9 (bC jW (pv 3) ag) ag)))))) bH)
   (ax (dJ (bC jW (bC d9 (bC eD (bg bz (pv 0) ag) ag) (pv 2)) ag) (eV (pv 0) ag set_list))))) bH)
   (ai (cG (aX oH (bg bz (pv 0) ag) ag (bf _)) (ai (aV (i:=4) eB.nd rfl (Or.inl rfl) (bC jW (bg bz (pv 0) ag) (pv 1)))
   (ai (dJ (bC iG (bg bz (pv 0) ag) (pv 1)) (eV (pv 0) ag set_list))
   (ax (be (pv 4))))) bH)
   (ai (aV (i:=5) eB.nd rfl (Or.inl rfl) (bC jW (bC eD (bg bz (pv 0) ag) ag) ag))
   (ai (aV (i:=6) eB.nd rfl (Or.inl rfl) (bC jW (bC eD (pv 5) ag) ag))
   (ai (cG (aX oH (pv 1) ag (bf _)) (ax (be (bC jW (bC d9 (bC eD (pv 6) ag) (pv 5)) (pv 1)))) bH)
   (ax (be (bC jW (bC iG (pv 6) ag) (pv 1))))))))),?_⟩
  refine aZ (σ:=[some (.ref p),some (.int n),none,none,none,none,none]) rfl ?_;refine ⟨λσ' H'=>∃(x y:Option V) (a' b' c':Int),σ'=[some (.ref p),some (.int n),x,y,none,none,none]/\H' p=some (.lst [.int a',.int b',.int c',.ref q])/\0<=a'/\0<=c'/\c'<=cs.length/\cb p H H',?_,?_⟩
  ·exists eP (λh0=>?_) (λh0=>?_)
   ·exists ⟨λσ' H'=>∃(m:Int) (y:Option V) (a' c':Int),σ'=[some (.ref p),some (.int n),some (.int m),y,none,none,none]/\H' p=some (.lst [.int a',.int b,.int c',.ref q])/\0<=a'/\0<=c'/\c'<=cs.length/\cb p H H',?_,?_⟩
    ·exists ⟨_,_,rfl,.inl (bB.of hq),?_⟩;exists eP (λh1=>?_) (λh1=>?_)
     ·have h1':c < cs.length:=by simpa using of_decide_eq_true h1
      obtain ⟨z,hz⟩:∃z,cs[c.toNat]?=some z:=⟨_,ao (by lia)⟩;have hz0:0<=z:=hcs z (aj hz);exists bT (bB.of hq) (v:=.int z) ?_ ?_
      ·have:=cM (xs:=cs.map V.int) (j:=c.toNat) (v:=.int z) (by rw[aY,hz];rfl);rwa [Int.toNat_of_nonneg hc] at this
      exists eP (λh2=>?_) (λh2=>?_)
      ·exists ⟨_,_,z,c+1,rfl,aJ,hz0,by lia,by lia,(cb.set hp).trans (cb.set aJ)⟩
      ·exists ⟨_,_,a,c+1,rfl,aJ,ha,by lia,by lia,cb.set hp⟩
     ·exists ⟨_,_,a,c,rfl,hp,ha,hc,hcl,cb.refl _⟩
    ·rintro σ' H' ⟨m,y,a',c',rfl,hp',ha',hc',hcl',u'⟩;exists ⟨_,_,a',_,c',rfl,aJ,ha',hc',hcl',u'.trans (cb.set hp')⟩
   ·exists ⟨_,_,a,b,c,rfl,hp,ha,hc,hcl,cb.refl _⟩
  ·rintro σ' H' ⟨x,y,a',b',c',rfl,hp',ha',hc',hcl',u'⟩;have hq':H' q=some (.lst (cs.map V.int)):=u'.1 q _ hq nqp
   have sn:Sz 8999 n:=by
    show n.natAbs < 2^8999
    exact aW (show n.natAbs < 2^64 by lia) (aD (by decide) (by decide))
   exists eP (λh0=>?_) (λh0=>?_)
   ·exists ie (show (0:Int) < n from hn) ?_;exists ie (show mG _ _ from ⟨by lia,sn⟩) ?_;exists k _ _ (ja _ (by lia)) (fX _ hn) ⟨q,_,b',c',cs,aJ,by rw[aN nqp];exact hq',?_,hc',hcl',hcs⟩ (u'.trans (cb.set hp'));rw[bS _ (by lia)];exact Int.ediv_nonneg ha' (by lia)
   ·exists eP (λh1=>?_) (λh1=>?_)
    ·exists ie (show (0:Int) < n from hn) ?_;exact k _ _ (ja _ (by lia)) (fX _ hn) ⟨q,a',b',c',cs,hp',hq',ha',hc',hcl',hcs⟩ u'
    ·exists ie (show mG _ _ from ⟨by decide,by show (3:Nat) < 2^8999;exact aW (show 3 < 2^2 by decide) (aD (by decide) (by decide))⟩) ?_;exists ie (show (0:Int) < n from hn) ?_;exact k _ _ (ja _ (by lia)) (fX _ hn) ⟨q,a',b',c',cs,hp',hq',ha',hc',hcl',hcs⟩ u'
theorem uZ:∃x1 x2 x3 x4 x5 x6 x7 x8 x9 x10 x11 x12 x13 x14 x15 x16:Expr,x1=(Expr.Constant (Const.int 0) 0 ⟨235,16,235,17⟩)/\x2=(Expr.Constant (Const.int 1) 0 ⟨235,19,235,20⟩)/\x3=(Expr.Constant (Const.int 1) 0 ⟨235,22,235,23⟩)/\x4=(Expr.Constant (Const.int 1) 0 ⟨235,25,235,26⟩)/\x5=(Expr.Constant (Const.int 2) 0 ⟨235,28,235,29⟩)/\x6=(Expr.Constant (Const.int 2) 0 ⟨235,31,235,32⟩)/\x7=(Expr.Constant (Const.int 3) 0 ⟨235,34,235,35⟩)/\x8=(Expr.Constant (Const.int 4) 0 ⟨235,37,235,38⟩)/\x9=(Expr.Constant (Const.int 0) 0 ⟨236,17,236,18⟩)/\x10=(Expr.Constant (Const.int 1) 0 ⟨236,20,236,21⟩)/\x11=(Expr.Constant (Const.int 1) 0 ⟨236,23,236,24⟩)/\x12=(Expr.Constant (Const.int 1) 0 ⟨236,26,236,27⟩)/\x13=(Expr.Constant (Const.int 2) 0 ⟨236,29,236,30⟩)/\x14=(Expr.Constant (Const.int 2) 0 ⟨236,32,236,33⟩)/\x15=(Expr.Constant (Const.int 3) 0 ⟨236,35,236,36⟩)/\x16=(Expr.Constant (Const.int 4) 0 ⟨236,38,236,39⟩)/\fD iT=[ (Stmt.Assign (targets:=[(Expr.Name "_law_n" ⟨232,4,232,10⟩)]) (value:=(Expr.Call (func:=(Expr.Name "_law_take" ⟨232,13,232,22⟩)) (args:=[ (Expr.Name "_law_bag_here" ⟨232,23,232,36⟩),(Expr.Constant (Const.int 5) 0 ⟨232,38,232,39⟩)]) (keywords:=[]) (pos:=⟨232,13,232,40⟩))) (pos:=⟨232,4,232,40⟩)),(Stmt.If (test:=(Expr.Compare (left:=(Expr.Call (func:=(Expr.Name "_law_take" ⟨233,7,233,16⟩)) (args:=[ (Expr.Name "_law_bag_here" ⟨233,17,233,30⟩),(Expr.Constant (Const.int 8) 0 ⟨233,32,233,33⟩)]) (keywords:=[]) (pos:=⟨233,7,233,34⟩))) (ops:=[PySem.CmpOp.Eq]) (comparators:=[(Expr.Constant (Const.int 7) 0 ⟨233,38,233,39⟩)]) (pos:=⟨233,7,233,39⟩))) (body:=[ (Stmt.Assign (targets:=[(Expr.Name "_law_n" ⟨234,8,234,14⟩)]) (value:=(Expr.Constant (Const.int 5) 0 ⟨234,17,234,18⟩)) (pos:=⟨234,8,234,18⟩))]) (orelse:=[]) (pos:=⟨233,4,234,18⟩)),(Stmt.Assign (targets:=[(Expr.Name "_law_ins" ⟨235,4,235,12⟩)]) (value:=(Expr.Subscript (value:=(Expr.List (elts:=[x1,x2,x3,x4,x5,x6,x7,x8]) (pos:=⟨235,15,235,39⟩))) (slice:=(Expr.Call (func:=(Expr.Name "_law_take" ⟨235,40,235,49⟩)) (args:=[ (Expr.Name "_law_bag_here" ⟨235,50,235,63⟩),(Expr.Constant (Const.int 8) 0 ⟨235,65,235,66⟩)]) (keywords:=[]) (pos:=⟨235,40,235,67⟩))) (pos:=⟨235,15,235,68⟩))) (pos:=⟨235,4,235,68⟩)),(Stmt.Assign (targets:=[(Expr.Name "_law_outs" ⟨236,4,236,13⟩)]) (value:=(Expr.Subscript (value:=(Expr.List (elts:=[x9,x10,x11,x12,x13,x14,x15,x16]) (pos:=⟨236,16,236,40⟩))) (slice:=(Expr.Call (func:=(Expr.Name "_law_take" ⟨236,41,236,50⟩)) (args:=[ (Expr.Name "_law_bag_here" ⟨236,51,236,64⟩),(Expr.Constant (Const.int 8) 0 ⟨236,66,236,67⟩)]) (keywords:=[]) (pos:=⟨236,41,236,68⟩))) (pos:=⟨236,16,236,69⟩))) (pos:=⟨236,4,236,69⟩)),(Stmt.If (test:=(Expr.Compare (left:=(Expr.Name "_law_n" ⟨237,7,237,13⟩)) (ops:=[PySem.CmpOp.Eq]) (comparators:=[(Expr.Constant (Const.int 5) 0 ⟨237,17,237,18⟩)]) (pos:=⟨237,7,237,18⟩))) (body:=[ (Stmt.Assign (targets:=[ (Expr.Tuple (elts:=[(Expr.Name "_law_ins" ⟨238,8,238,16⟩),(Expr.Name "_law_outs" ⟨238,18,238,27⟩)]) (k:=0) (pos:=⟨238,8,238,27⟩))]) (value:=(Expr.Tuple (elts:=[ (Expr.Call (func:=(Expr.Name "min" ⟨238,31,238,34⟩)) (args:=[ (Expr.Name "_law_ins" ⟨238,35,238,43⟩),(Expr.Constant (Const.int 2) 0 ⟨238,45,238,46⟩)]) (keywords:=[]) (pos:=⟨238,31,238,47⟩)),(Expr.Call (func:=(Expr.Name "min" ⟨238,49,238,52⟩)) (args:=[ (Expr.Name "_law_outs" ⟨238,53,238,62⟩),(Expr.Constant (Const.int 2) 0 ⟨238,64,238,65⟩)]) (keywords:=[]) (pos:=⟨238,49,238,66⟩))]) (k:=0) (pos:=⟨238,30,238,67⟩))) (pos:=⟨238,8,238,67⟩))]) (orelse:=[]) (pos:=⟨237,4,238,67⟩)),(Stmt.Assign (targets:=[(Expr.Name "_law_wide" ⟨239,4,239,13⟩)]) (value:=(Expr.Subscript (value:=(Expr.List (elts:=[ (Expr.Constant (Const.int 4) 0 ⟨239,17,239,18⟩),(Expr.Constant (Const.int 4) 0 ⟨239,20,239,21⟩),(Expr.Constant (Const.int 9) 0 ⟨239,23,239,24⟩),(Expr.Constant (Const.int 1000000) 0 ⟨239,26,239,33⟩)]) (pos:=⟨239,16,239,34⟩))) (slice:=(Expr.Call (func:=(Expr.Name "_law_take" ⟨239,35,239,44⟩)) (args:=[ (Expr.Name "_law_bag_here" ⟨239,45,239,58⟩),(Expr.Constant (Const.int 4) 0 ⟨239,60,239,61⟩)]) (keywords:=[]) (pos:=⟨239,35,239,62⟩))) (pos:=⟨239,16,239,63⟩))) (pos:=⟨239,4,239,63⟩)),(Stmt.If (test:=(Expr.Compare (left:=(Expr.Name "_law_wide" ⟨240,7,240,16⟩)) (ops:=[PySem.CmpOp.Gt]) (comparators:=[(Expr.Constant (Const.int 9) 0 ⟨240,19,240,20⟩)]) (pos:=⟨240,7,240,20⟩))) (body:=[ (Stmt.Assign (targets:=[(Expr.Name "_law_n" ⟨241,8,241,14⟩)]) (value:=(Expr.Call (func:=(Expr.Name "min" ⟨241,17,241,20⟩)) (args:=[ (Expr.Name "_law_n" ⟨241,21,241,27⟩),(Expr.Constant (Const.int 2) 0 ⟨241,29,241,30⟩)]) (keywords:=[]) (pos:=⟨241,17,241,31⟩))) (pos:=⟨241,8,241,31⟩))]) (orelse:=[]) (pos:=⟨240,4,241,31⟩)),(Stmt.Return (value:=(some (Expr.Tuple (elts:=[ (Expr.Name "_law_n" ⟨242,12,242,18⟩),(Expr.Name "_law_ins" ⟨242,20,242,28⟩),(Expr.Name "_law_outs" ⟨242,30,242,39⟩),(Expr.Name "_law_wide" ⟨242,41,242,50⟩)]) (k:=0) (pos:=⟨242,11,242,51⟩)))) (pos:=⟨242,4,242,51⟩))]:=⟨_,_,_,_,_,_,_,_,_,_,_,_,_,_,_,_,rfl,rfl,rfl,rfl,rfl,rfl,rfl,rfl,rfl,rfl,rfl,rfl,rfl,rfl,rfl,rfl,by with_unfolding_all rfl⟩
theorem dg:br ["_law_bag_here","_law_n","_law_ins","_law_outs","_law_wide"] ["_law_bag_here"] (aL iT):=by walk_at "d"
theorem uR (T:Txt K mg Z):cC P w K mg base gV 2 Z.pA Z.oX ["_law_bag_here"] AM:=by
 refine T.j3.F.ok dg (λvs H Q E h=>?_) (λcdv A outer s H vs Q E hr h=>?_)
 ·obtain ⟨b,rfl,_⟩:=h;rfl
 ·obtain ⟨b,rfl,hB,k⟩:=h;obtain ⟨x1,x2,x3,x4,x5,x6,x7,x8,x9,x10,x11,x12,x13,x14,x15,x16,hx1,hx2,hx3,hx4,hx5,hx6,hx7,hx8,hx9,hx10,hx11,hx12,hx13,hx14,hx15,hx16,hbd⟩:=uZ;rw[hbd]
  refine ⟨_,(ai (aV (i:=1) dg.nd rfl (Or.inl rfl) (cn (aO T) hr T.aI (aa (pv 0) (aa ag ae))))
   (d8 (cG (aX dh (cn (aO T) hr T.aI (aa (pv 0) (aa ag ae))) ag (bf _)) (ax (aV (i:=1) dg.nd rfl (Or.inl rfl) ag)) bH)
   (ai (aV (i:=2) dg.nd rfl (Or.inl rfl) (bg bz (dM (de hx1 ag (de hx2 ag (de hx3 ag (de hx4 ag (de hx5 ag (de hx6 ag (de hx7 ag (de hx8 ag ae))))))))) (cn (aO T) hr T.aI (aa (pv 0) (aa ag ae)))))
   (ai (aV (i:=3) dg.nd rfl (Or.inl rfl) (bg bz (dM (de hx9 ag (de hx10 ag (de hx11 ag (de hx12 ag (de hx13 ag (de hx14 ag (de hx15 ag (de hx16 ag ae))))))))) (cn (aO T) hr T.aI (aa (pv 0) (aa ag ae)))))
   (d8 (cG (aX dh (pv 1) ag (bf _)) (ax (CJ (i:=2) (j:=3) rfl dg.nd rfl rfl (by decide) rfl rfl (aa (bE (mR rfl) (by rfl) T.min PyProof.Rows.boot_min (aa (pv 2) (aa ag ae))) (aa (bE (mR rfl) (by rfl) T.min PyProof.Rows.boot_min (aa (pv 3) (aa ag ae))) ae)) rfl)) bH)
   (ai (aV (i:=4) dg.nd rfl (Or.inl rfl) (bg bz (dM (aa ag (aa ag (aa ag (aa ag ae))))) (cn (aO T) hr T.aI (aa (pv 0) (aa ag ae)))))
   (d8 (cG (aX oH (pv 4) ag (bf _)) (ax (aV (i:=1) dg.nd rfl (Or.inl rfl) (bE (mR rfl) (by rfl) T.min PyProof.Rows.boot_min (aa (pv 1) (aa ag ae))))) bH)
   (ax (be (bU (aa (pv 1) (aa (pv 2) (aa (pv 3) (aa (pv 4) ae)))))))))))))),?_⟩
  refine aZ (σ:=[some (.ref b),none,none,none,none]) rfl ?_;exists ⟨b,5,rfl,hB,by decide,by decide,λn H1 n0 n1 B1 u1=>?_⟩;obtain ⟨n,rfl⟩:=bM n0;exists ⟨λσ' H'=>(∃n:Nat,σ'=[some (.ref b),some (.int n),none,none,none]/\n<=5)/\eQ H' b/\cb b H H',?_,?_⟩
  ·exists ⟨b,8,rfl,B1,by decide,by decide,λv H2 v0 v1 B2 u2=>?_⟩;exists eP (λ_=>?_) (λ_=>?_)
   ·exists ⟨⟨5,rfl,by decide⟩,B2,u1.trans u2⟩
   ·exists ⟨⟨n,rfl,by lia⟩,B2,u1.trans u2⟩
  clear n0 n1 u1 B1;rintro σ' H1 ⟨⟨n,rfl,n5⟩,B1,u1⟩;exists cS λl0 H2 s2 n2 g2=>?_
  exists ⟨b,8,rfl,B1.same s2,by decide,by decide,λv H3 v0 v1 B3 u3=>?_⟩;have g3:=u3.other (λz=>B1.at (by rw[<- z];exact n2)) g2;obtain ⟨x,ex,mx,_⟩:=fk (xs:=[V.int 0,V.int 1,V.int 1,V.int 1,V.int 2,V.int 2,V.int 3,V.int 4]) v0 (by simpa using v1)
  obtain ⟨i,rfl,hi⟩:∃z:Nat,x=.int z/\z<=4:=by
   simp only[az,aB,or_false] at mx;rcases mx with rfl | rfl | rfl | rfl | rfl | rfl | rfl | rfl
   ·exact ⟨0,rfl,by decide⟩
   ·exact ⟨1,rfl,by decide⟩
   ·exact ⟨1,rfl,by decide⟩
   ·exact ⟨1,rfl,by decide⟩
   ·exact ⟨2,rfl,by decide⟩
   ·exact ⟨2,rfl,by decide⟩
   ·exact ⟨3,rfl,by decide⟩
   ·exact ⟨4,rfl,by decide⟩
  exists bT (bB.of g3) ex ?_;clear ex mx g3 g2;exists cS λl1 H4 s4 n4 g4=>?_
  exists ⟨b,8,rfl,B3.same s4,by decide,by decide,λt H5 t0 t1 B5 u5=>?_⟩;have g5:=u5.other (λz=>B3.at (by rw[<- z];exact n4)) g4;obtain ⟨x,ex,mx,_⟩:=fk (xs:=[V.int 0,V.int 1,V.int 1,V.int 1,V.int 2,V.int 2,V.int 3,V.int 4]) t0 (by simpa using t1)
  obtain ⟨o,rfl,ho⟩:∃z:Nat,x=.int z/\z<=4:=by
   simp only[az,aB,or_false] at mx;rcases mx with rfl | rfl | rfl | rfl | rfl | rfl | rfl | rfl
   ·exact ⟨0,rfl,by decide⟩
   ·exact ⟨1,rfl,by decide⟩
   ·exact ⟨1,rfl,by decide⟩
   ·exact ⟨1,rfl,by decide⟩
   ·exact ⟨2,rfl,by decide⟩
   ·exact ⟨2,rfl,by decide⟩
   ·exact ⟨3,rfl,by decide⟩
   ·exact ⟨4,rfl,by decide⟩
  exists bT (bB.of g5) ex ?_;clear ex mx g5 g4;have u15:=(((u1.same s2).trans u3).same s4).trans u5;exists ⟨λσ' H'=>(∃i o:Nat,σ'=[some (.ref b),some (.int n),some (.int i),some (.int o),none]/\i<=4/\o<=4/\(n=5->i<=2/\o<=2))/\eQ H' b/\cb b H H',?_,?_⟩
  ·exists eP (λh0=>?_) (λh0=>?_)
   ·exists ⟨⟨min i 2,min o 2,?_,by lia,by lia,λ_=>⟨by lia,by lia⟩⟩,B5,u15⟩;have e1:(if (2:Int) < (i:Int) then (2:Int) else (i:Int))=((min i 2:Nat):Int):=by split <;> lia
    have e2:(if (2:Int) < (o:Int) then (2:Int) else (o:Int))=((min o 2:Nat):Int):=by split <;> lia
    rw[<- e1,<- e2];rfl
   ·exists ⟨⟨i,o,rfl,hi,ho,λz=>absurd (decide_eq_true (show (n:Int)=5 by lia)) h0⟩,B5,u15⟩
  clear hi ho u15 B5 u5 u3 u1;rintro σ' H5 ⟨⟨i,o,rfl,hi,ho,h5⟩,B5,u5⟩;exists cS λl2 H6 s6 n6 g6=>?_
  exists ⟨b,4,rfl,B5.same s6,by decide,by decide,λv H7 v0 v1 B7 u7=>?_⟩;have g7:=u7.other (λz=>B5.at (by rw[<- z];exact n6)) g6;obtain ⟨x,ex,mx,_⟩:=fk (xs:=[V.int 4,V.int 4,V.int 9,V.int 1000000]) v0 (by simpa using v1)
  obtain ⟨w,rfl,hw⟩:∃w:Nat,x=.int w/\(w=4\/w=9\/w=1000000):=by
   simp only[az,aB,or_false] at mx;rcases mx with rfl | rfl | rfl | rfl
   ·exact ⟨4,rfl,.inl rfl⟩
   ·exact ⟨4,rfl,.inl rfl⟩
   ·exact ⟨9,rfl,.inr (.inl rfl)⟩
   ·exact ⟨1000000,rfl,.inr (.inr rfl)⟩
  exists bT (bB.of g7) ex ?_;have u07:=(u5.same s6).trans u7;exists ⟨λσ' H'=>(∃n:Nat,σ'=[some (.ref b),some (.int n),some (.int i),some (.int o),some (.int w)]/\n<=5/\(w=4\/w=9\/(w=1000000/\n<=2))/\(n=5->i<=2/\o<=2))/\eQ H' b/\cb b H H',?_,?_⟩
  ·exists eP (λh0=>?_) (λh0=>?_)
   ·exists ⟨⟨min n 2,?_,by lia,by lia,λz=>by lia⟩,B7,u07⟩;have e1:(if (2:Int) < (n:Int) then (2:Int) else (n:Int))=((min n 2:Nat):Int):=by split <;> lia
    rw[<- e1];rfl
   ·exists ⟨⟨n,rfl,n5,?_,h5⟩,B7,u07⟩;rcases hw with z | z | z
    ·exact .inl z
    ·exact .inr (.inl z)
    ·exact absurd (decide_eq_true (show (9:Int) < (w:Int) by lia)) h0
  ·clear h5 n5;rintro σ' H8 ⟨⟨n',rfl,n5,hwn,h5⟩,B8,u8⟩;exists bx λr H9 s9 g9=>?_
   exact k r n' i o w H9 g9 n5 hi ho hwn h5 (B8.same s9) (u8.same s9)
theorem fq:br ["_law_bag_here","_law_n","_law_move_here","_law_at","_law_put","_law_first_here","_law_look"] ["_law_bag_here","_law_n"] (aL l7):=by walk_at "d"
theorem kJ (T:Txt K mg Z):cC P w K mg base gV 2 Z.rC Z.qT ["_law_bag_here","_law_n"] (xO K):=by
 refine T.gO.F.ok fq (λvs H Q E h=>?_) (λcdv A outer s H vs Q E hr h=>?_)
 ·obtain ⟨b,n,rfl,_⟩:=h;rfl
 ·obtain ⟨b,n,rfl,hB,n1,n8,k⟩:=h
  refine ⟨_,(ai (rR 2 ["_law_i"] ["_law_n"] [1] fq.nd rfl rfl (bP rfl T.range (aa (pv 1) ae)) (λ_=>(aK (i:=0) (show ND9 ["_law_i","_law_n"] by decide +kernel) rfl (Or.inr rfl) (Or.inl rfl))) (λ_=>b0) (λ_=>(bQ ["_law_j"] ["_law_i"] [0] (bP rfl T.range (aa (pv 1) ae)) (λ_=>(aK (i:=0) (show ND9 ["_law_j","_law_i"] by decide +kernel))) (λ_=>b0) (λ_=>(bU (aa (fw kj (by rfl) T.int PyProof.Rows.boot_int (aa (gI dh (pv 0) (bC d9 (pv 1) ag) (bf _)) ae)) (aa ag ae)))))))
   (ai (dJ (bQ ["_law_j"] ["_law_bag_here"] [0] (bP rfl T.range (aa (pv 1) ae)) (λ_=>(aK (i:=0) (show ND9 ["_law_j","_law_bag_here"] by decide +kernel))) (λ_=>b0) (λ_=>(bU (aa (bC jV (cn (aO T) hr T.aI (aa (pv 1) (aa ag ae))) ag) (aa ag ae))))) (eV (pv 2) (bC jV (pv 1) ag) set_list))
   (ai (aV (i:=3) fq.nd rfl (Or.inr rfl) (bg bz (dM (aa (bC jV (pv 1) ag) (aa (cn (aO T) hr T.aI (aa (pv 0) (aa (pv 1) ae))) ae))) (cn (aO T) hr T.aI (aa (pv 0) (aa ag ae)))))
   (ai (aV (i:=4) fq.nd rfl (Or.inl rfl) (dM (aa (bQ ["_law_j"] ["_law_at"] [3] (bP rfl T.range (aa (pv 1) ae)) (λ_=>(aK (i:=0) (show ND9 ["_law_j","_law_at"] by decide +kernel))) (λ_=>b0) (λ_=>(bU (aa (fw kj (by rfl) T.int PyProof.Rows.boot_int (aa (gI dh (pv 0) (pv 1) (bf _)) ae)) (aa ag ae))))) ae)))
   (ai (aV (i:=5) fq.nd rfl (Or.inr rfl) (bg bz (dM (aa ag (aa ag (aa (cn (aO T) hr T.aI (aa (pv 0) (aa (pv 1) ae))) ae)))) (cn (aO T) hr T.aI (aa (pv 0) (aa ag ae)))))
   (ai (aV (i:=6) fq.nd rfl (Or.inl rfl) (dM (aa (bQ ["_law_j"] ["_law_first_here"] [5] (bP rfl T.range (aa (pv 1) ae)) (λ_=>(aK (i:=0) (show ND9 ["_law_j","_law_first_here"] by decide +kernel))) (λ_=>b0) (λ_=>(bU (aa (fw kj (by rfl) T.int PyProof.Rows.boot_int (aa (gI dh (pv 0) (pv 1) (bf _)) ae)) (aa ag ae))))) ae)))
   (ax (be (bU (aa (pv 2) (aa (pv 4) (aa (pv 6) ae)))))))))))),?_⟩
  refine aZ (σ:=[some (.ref b),some (.int n),none,none,none,none,none]) rfl ?_
  have bit:∀{z:Int},∀y∈(List.range n).map (λ(j:Nat)=>(((if decide ((j:Int)=z)=true then 1 else 0:Int)):Rat)),Fr 1 1 y:=λy hy=>by
   obtain ⟨j,_,rfl⟩:=ba.mp hy;exact IC (by split <;> simp)
  exists ⟨by lia,by lia,?_⟩;refine gC (n:=n) (dG K H) (λ(i:Nat)=>(List.range n).map λ(j:Nat)=>(((if decide ((j:Int)=(i:Int)+1)=true then 1 else 0:Int)):Rat)) (by lia) (λa b=>a.same b) ?_ ?_
  ·rintro i Hb NY NN hi sa k1;exists ⟨by lia,by lia,?_⟩;refine gC (n:=n) (bL K) (λ(j:Nat)=>(((if decide ((j:Int)=(i:Int)+1)=true then 1 else 0:Int)):Rat)) (by lia) (λa b=>a.same b) ?_ ?_
   ·rintro j Hz NY2 NN2 hj sz k2;exists bx λt Hy sy gy=>?_
    exact k2 _ _ sy (bL.mk gy rfl)
   ·rintro ys Hz t ht sz g pr nx;exact k1 _ _ sz ⟨t,rfl,sa.none ht,ys,g,pr⟩
  rintro ys H1 mm hm s1 g1 pr1 nx1;have G1:bO K H H1 mm ((List.range n).map λ(i:Nat)=>(List.range n).map λ(j:Nat)=>(((if decide ((j:Int)=(i:Int)+1)=true then 1 else 0:Int)):Rat)):=⟨ys,g1,pr1,mX nx1⟩;clear g1 pr1 nx1;have B1:=hB.same s1;have mb:mm≠b:=λz=>hB.at (by rw[<- z];exact hm)
  obtain ⟨q0,I0,xq,gq0⟩:=hB.inner;have mq:mm≠q0:=λz=>by rw[<- z,hm] at gq0;cases gq0
  exists ⟨by lia,by lia,?_⟩;refine qo (n:=n) (b:=b) (bL K) (Fr 1 1) B1 (by lia) (λa u B=>a.upto u B) ?_ ?_
  ·rintro j Ha NY NN hj ua Ba k1;exists ⟨b,3,rfl,Ba,by decide,by decide,λv Hb v0 v1 Bb ub=>?_⟩;exists bx λt Hc sc gc=>?_
   exact k1 _ ((v - 1:Int):Rat) _ (ub.same sc) (Bb.same sc) (Fr.int (by lia)) (bL.mk gc rfl)
  rintro ys2 cs H2 q2 hq2 u2 B2 g2 lc hc pr2 _;have u02:=(s1.upto (p:=b)).trans u2;have nq2:H q2=none:=s1.none hq2;obtain ⟨us,gu,pu⟩:=(G1.upto u2 B1 mb hB.at).toE;have lu:=pu.length;rw[av,cw] at lu
  have q2m:q2≠mm:=λz=>by
   obtain ⟨_,gg,_⟩:=id G1;rw[z,gg] at hq2;cases hq2
  walk_at "w";rw[show ((n:Int) - 1)=((n - 1:Nat):Int) by lia];refine dE gu (dQ (by lia)) rfl ?_;have G3:bO K H (upd H2 mm (.lst (us.set (n - 1) (.ref q2)))) mm (((List.range n).map λ(i:Nat)=>(List.range n).map λ(j:Nat)=>(((if decide ((j:Int)=(i:Int)+1)=true then 1 else 0:Int)):Rat)).set (n - 1) cs):=bO.ofE aJ (tI (Paired.imp' (λ_ _ z=>Bs.updL z gu (λq h=>h.2)) pu) (n - 1) ⟨q2,rfl,⟨nq2,q2m⟩,cB.updL ⟨ys2,g2,pr2⟩ gu q2m⟩) (λq h=>h.1) (λq h=>h.2);have B3:eQ (upd H2 mm (.lst (us.set (n - 1) (.ref q2)))) b:=B2.upd (u02.2 _ I0) mb mq;have u03:cb b H (upd H2 mm (.lst (us.set (n - 1) (.ref q2)))):=u02.after hm;obtain ⟨mv,emv⟩:∃mv,mv=((List.range n).map λ(i:Nat)=>(List.range n).map λ(j:Nat)=>(((if decide ((j:Int)=(i:Int)+1)=true then 1 else 0:Int)):Rat)).set (n - 1) cs:=⟨_,rfl⟩;have lmv:mv.length=n:=by rw[emv,lK,av,cw]
  have hmv:∀xs∈mv,xs.length=n/\∀y∈xs,Fr 1 1 y:=λxs hx=>by
   rw[emv] at hx;rcases df hx with hx | rfl
   ·obtain ⟨i,_,rfl⟩:=ba.mp hx;exact ⟨by rw[av,cw],bit⟩
   ·exact ⟨lc,hc⟩
  rw[<- emv] at G3;generalize upd H2 mm (.lst (us.set (n - 1) (.ref q2)))=H3 at G3 B3 u03 ⊢;clear emv pu gu G1 u2 pr2 g2 B2;exists ⟨b,n,rfl,B3,by lia,by lia,λa1 H4 a10 a11 B4 u4=>?_⟩;exists cS λl1 H5 s5 nl1 g5=>?_
  exists ⟨b,2,rfl,B4.same s5,by decide,by decide,λv H6 v0 v1 B6 u6=>?_⟩;have g6:=u6.other (λz=>B4.at (by rw[<- z];exact nl1)) g5;obtain ⟨x,ex,mx,_⟩:=fk (xs:=[V.int ((n:Int) - 1),V.int a1]) v0 (by simpa using v1)
  obtain ⟨at',rfl⟩:∃a:Int,x=.int a:=by
   simp only[az,aB,or_false] at mx;rcases mx with rfl | rfl
   ·exact ⟨_,rfl⟩
   ·exact ⟨_,rfl⟩
  exists bT (bB.of g6) ex ?_;have u36:=(u4.same s5).trans u6;have G6:=G3.upto u36 B3 mb hB.at;have u06:=u03.trans u36;clear ex mx g6 g5 G3 u4 u6;exists ⟨by lia,by lia,?_⟩;refine gC (n:=n) (bL K) (λ(j:Nat)=>(((if decide ((j:Int)=at')=true then 1 else 0:Int)):Rat)) (by lia) (λa b=>a.same b) ?_ ?_
  ·rintro j Hz NY2 NN2 hj sz k2;exists bx λt Hy sy gy=>?_
   exact k2 _ _ sy (bL.mk gy rfl)
  rintro ys7 H7 q7 hq7 s7 g7 pr7 _;have R7:cB K H7 q7 _:=⟨ys7,g7,pr7⟩;exists cS λp8 H8 s8 n8' g8=>?_
  have s68:=s7.trans s8;have q78:q7≠p8:=λz=>by rw[z,n8'] at g7;cases g7
  have np8:H p8=none:=u06.none B6 (s7.none n8');have nq7:H q7=none:=u06.none B6 hq7
  have GP:bO K H H8 p8 [(List.range n).map λ(j:Nat)=>(((if decide ((j:Int)=at')=true then 1 else 0:Int)):Rat)]:=⟨_,g8,.cons ⟨q7,rfl,nq7,R7.same s8⟩ .nil,λz=>by
   rw[aQ] at z;cases z;exact q78 rfl⟩
  have B8:=B6.same s68;have u08:=u06.same s68;have G8:=G6.same s68;have pb:p8≠b:=λz=>hB.at (by rw[<- z];exact np8)
  exists ⟨b,n,rfl,B8,by lia,by lia,λa2 H9 a20 a21 B9 u9=>?_⟩;exists cS λl2 Ha sa nl2 ga=>?_
  exists ⟨b,3,rfl,B9.same sa,by decide,by decide,λv' Hb v0' v1' Bb ub=>?_⟩;have gb:=ub.other (λz=>B9.at (by rw[<- z];exact nl2)) ga;obtain ⟨x,ex,mx,_⟩:=fk (xs:=[V.int 0,V.int 0,V.int a2]) v0' (by simpa using v1')
  obtain ⟨fi,rfl⟩:∃a:Int,x=.int a:=by
   simp only[az,aB,or_false] at mx;rcases mx with rfl | rfl | rfl
   ·exact ⟨_,rfl⟩
   ·exact ⟨_,rfl⟩
   ·exact ⟨_,rfl⟩
  exists bT (bB.of gb) ex ?_;have u8b:=(u9.same sa).trans ub;have Gb:=G8.upto u8b B8 mb hB.at;have GPb:=GP.upto u8b B8 pb hB.at;have u0b:=u08.trans u8b;clear ex mx gb ga G8 GP u9 ub;exists ⟨by lia,by lia,?_⟩;refine gC (n:=n) (bL K) (λ(j:Nat)=>(((if decide ((j:Int)=fi)=true then 1 else 0:Int)):Rat)) (by lia) (λa b=>a.same b) ?_ ?_
  ·rintro j Hz NY2 NN2 hj sz k2;exists bx λt Hy sy gy=>?_
   exact k2 _ _ sy (bL.mk gy rfl)
  rintro ysc Hc qc hqc sc gc prc _;have Rc:cB K Hc qc _:=⟨ysc,gc,prc⟩;exists cS λpd Hd sd nd gd=>?_
  have sbd:=sc.trans sd;have qcd:qc≠pd:=λz=>by rw[z,nd] at gc;cases gc
  have npd:H pd=none:=u0b.none Bb (sc.none nd);have nqc:H qc=none:=u0b.none Bb hqc
  have GL:bO K H Hd pd [(List.range n).map λ(j:Nat)=>(((if decide ((j:Int)=fi)=true then 1 else 0:Int)):Rat)]:=⟨_,gd,.cons ⟨qc,rfl,nqc,Rc.same sd⟩ .nil,λz=>by
   rw[aQ] at z;cases z;exact qcd rfl⟩
  exists bx λr He se ge=>?_
  have sbe:=sbd.trans se;refine k r mv _ _ He ⟨mm,p8,pd,ge,hm,np8,npd,Gb.same sbe,GPb.same sbe,GL.same se⟩ lmv rfl rfl ⟨by lia,by simp,by simp,λxs hx=>by rw[(hmv xs hx).1,lmv],λxs hx=>?_,λxs hx=>?_⟩ (λxs hx=>(hmv xs hx).2) (λxs hx=>?_) (λxs hx=>?_) (Bb.same sbe) (u0b.same sbe)
  ·rw[aQ.mp hx,av,cw,lmv]
  ·rw[aQ.mp hx,av,cw,lmv]
  ·rw[aQ.mp hx];exact bit
  ·rw[aQ.mp hx];exact bit
theorem jz:br ["_law_top","_law_bottom","_law_one","_law_other_here"] ["_law_top","_law_bottom"] (aL nX):=by walk_at "d"
theorem jC (T:Txt K mg Z):cC P w K mg base gV 1 Z.uH Z.uq ["_law_top","_law_bottom"] F6:=by
 refine T.gA.F.ok jz (λvs H Q E h=>?_) (λcdv A outer s H vs Q E hr h=>?_)
 ·obtain ⟨t,b,rfl,_⟩:=h;rfl
 ·obtain ⟨t,b,rfl,hb,hs,k⟩:=h
  refine ⟨_,(ai (aV (i:=2) jz.nd rfl (Or.inl rfl) (bE uB (by rfl) T.abs PyProof.Rows.boot_abs (aa (pv 0) ae)))
   (ai (aV (i:=3) jz.nd rfl (Or.inl rfl) (pv 1))
   (ai (xX PassesOwn.never (aX vw (pv 2) ag (bf _))
    (ax (CJ (i:=2) (j:=3) rfl jz.nd rfl rfl (by decide) rfl rfl (aa (bC jW (pv 3) (pv 2)) (aa (pv 2) ae)) rfl)))
   (ax (be (bU (aa (bC iG (pv 0) (pv 3)) (aa (bC iG (pv 1) (pv 3)) ae)))))))),?_⟩
  refine aZ (σ:=[some (.int t),some (.int b),none,none]) rfl ?_;walk_at "w"
  refine zT (λσ' H'=>∃(u v:Int),σ'=[some (.int t),some (.int b),some (.int u),some (.int v)]/\H'=H/\0<=u/\0 < v/\Int.gcd u v=Int.gcd t b) (λσ' _=>match σ' with | [_,_,some (.int u),_]=>u.natAbs | _=>0) ⟨_,b,rfl,rfl,by split <;> lia,hb,by
   split
   ·rw[Int.neg_gcd]
   ·rfl⟩ ?_
  rintro σ' H' ⟨u,v,rfl,rfl,hu,hv,hg⟩;exists eP (λh=>?_) (λh=>?_)
  ·have hu0:u≠0:=λz=>by subst z;simp at h
   exists ie (show (0:Int) < u by lia) ?_;walk_at "w";have h1:=ja v hu0;have h2:=fX v (show 0 < u by lia);exact ⟨⟨v % u,u,rfl,rfl,h1,by lia,by rw[iE,Dl,iE];exact hg⟩,by show (v % u).natAbs < u.natAbs;lia⟩
  ·have hu0:u=0:=by
    by_cases z:u=0
    ·exact z
    ·exfalso;apply h;simp [z]
   subst hu0
   have e:v=g t b:=by
    unfold g;rw[<- hg,Int.gcd_zero_left]
    lia
   have hgs:Sz 8999 v:=hs.le (by
    rw[e];have h1:(g t b).natAbs=Int.gcd t b:=by unfold g;simp
    rw[h1];exact iQ (by lia) (by have:=dS (a:=t) (b:=b);exact eF.mpr this |> λz=>by simpa using z))
   exists ie (show mG _ _ from ⟨by lia,hgs⟩) ?_;exists ie (show mG _ _ from ⟨by lia,hgs⟩) ?_;exists bx λr H' s' h'=>?_
   rw[bS _ (by lia),bS _ (by lia),e] at h';exact k r H' s' h'
theorem xR:br ["_law_one","_law_other_here"] ["_law_one","_law_other_here"] (aL nV):=by walk_at "d"
theorem iH (T:Txt K mg Z):cC P w K mg base gV 2 Z.uF Z.uk ["_law_one","_law_other_here"] (pS K (λx y=>x+y)):=by
 refine T.ff.F.ok xR (λvs H Q E h=>?_) (λcdv A outer s H vs Q E hr h=>?_)
 ·obtain ⟨p,q,a,b,c,d,rfl,hp,hq,hb,hd,sa,sb,sc,sd,k⟩:=Ay h;rfl
 ·obtain ⟨p,q,a,b,c,d,rfl,hp,hq,hb,hd,sa,sb,sc,sd,k⟩:=Ay h;refine ⟨_,(ax (be (cn (jC T) hr T.gA (aa (bC d9 (bC eD (bg bX (pv 0) ag) (bg bX (pv 1) ag)) (bC eD (bg bX (pv 1) ag) (bg bX (pv 0) ag))) (aa (bC eD (bg bX (pv 0) ag) (bg bX (pv 1) ag)) ae))))),?_⟩;refine aZ (σ:=[some (.ref p),some (.ref q)]) rfl ?_;have hbd:0 < b*d:=pM hb hd;have sbd:Sz 8999 (b*d):=(sb.mul sd).mono (by decide);exists ie (show jK _ _ from .inr ⟨_,_,sa,sd,by decide⟩) ?_;exists ie (show jK _ _ from .inr ⟨_,_,sc,sb,by decide⟩) ?_;exists ie (show jK _ _ from .inr ⟨_,_,sb,sd,by decide⟩) ?_;walk_at "w";exists ⟨_,_,rfl,hbd,sbd,k⟩
theorem wI:br ["_law_one","_law_other_here"] ["_law_one","_law_other_here"] (aL lX):=by walk_at "d"
theorem oM (T:Txt K mg Z):cC P w K mg base gV 3 Z.rj Z.qP ["_law_one","_law_other_here"] (xK K):=by
 refine T.iY.F.ok wI (λvs H Q E h=>?_) (λcdv A outer s H vs Q E hr h=>?_)
 ·obtain ⟨p,q,xs,ys,rfl,_⟩:=h;rfl
 ·obtain ⟨p,q,xs,ys,rfl,hp,hq,hl,hz,h1,h2,kk⟩:=h;refine ⟨_,(ax (be (bQ ["_law_k"] ["_law_one","_law_other_here"] [0,1] (bP rfl T.range (aa (bE bq (by rfl) T.len bc (aa (pv 0) ae)) ae)) (λ_=>(aK (i:=0) (show ND9 ["_law_k","_law_one","_law_other_here"] by decide +kernel))) (λ_=>b0) (λ_=>(cn (iH T) hr T.ff (aa (bg (oQ K (by rfl)) (pv 1) (pv 0)) (aa (bg (oQ K (by rfl)) (pv 2) (pv 0)) ae))))))),?_⟩;refine aZ (σ:=[some (.ref p),some (.ref q)]) rfl ?_;obtain ⟨us,gu,qu⟩:=id hp;obtain ⟨ws,gw,qw⟩:=id hq;have lu:=qu.length;exists ⟨_,_,rfl,.inl (bB.of gu),?_⟩;exists ⟨by lia,by lia,?_⟩;refine gC (n:=us.length) (bL K) (λi=>xs.getD i 0+ys.getD i 0) (by lia) (λa b=>a.same b) ?_ ?_
  ·rintro i H' NY NN hi s k1;have ix:i < xs.length:=by lia
   have iy:i < ys.length:=by lia
   obtain ⟨vx,ex,nx⟩:=DP (Paired.imp' (λ_ _ z=>z.same s) qu) ix;obtain ⟨vy,ey,ny⟩:=DP (Paired.imp' (λ_ _ z=>z.same s) qw) iy;exists bT (bB.of (s _ _ gu)) ex ?_;exists bT (bB.of (s _ _ gw)) ey ?_;exists ⟨_,_,_,_,rfl,nx,ny,h1 _ (getD_mem ix),h2 _ (getD_mem iy),λr3 H3 s3 n3=>k1 _ _ s3 n3⟩
  ·rintro ys' H' l hl' s g pr nx;exact kk l H' hl' s ⟨ys',g,by rw[ve (by lia)];rw[<- lu] at pr;exact pr⟩
theorem wH:br ["_law_one","_law_other_here"] ["_law_one","_law_other_here"] (aL lW):=by walk_at "d"
theorem iV (T:Txt K mg Z):cC P w K mg base gV 2 Z.rh Z.qO ["_law_one","_law_other_here"] (pS K (λx y=>x*y)):=by
 refine T.fB.F.ok wH (λvs H Q E h=>?_) (λcdv A outer s H vs Q E hr h=>?_)
 ·obtain ⟨p,q,a,b,c,d,rfl,hp,hq,hb,hd,sa,sb,sc,sd,k⟩:=Ag h;rfl
 ·obtain ⟨p,q,a,b,c,d,rfl,hp,hq,hb,hd,sa,sb,sc,sd,k⟩:=Ag h;refine ⟨_,(ax (be (cn (jC T) hr T.gA (aa (bC eD (bg bX (pv 0) ag) (bg bX (pv 1) ag)) (aa (bC eD (bg bX (pv 0) ag) (bg bX (pv 1) ag)) ae))))),?_⟩;refine aZ (σ:=[some (.ref p),some (.ref q)]) rfl ?_;have hbd:0 < b*d:=pM hb hd;have sbd:Sz 8999 (b*d):=(sb.mul sd).mono (by decide);exists ie (show jK _ _ from .inr ⟨_,_,sa,sc,by decide⟩) ?_;exists ie (show jK _ _ from .inr ⟨_,_,sb,sd,by decide⟩) ?_;walk_at "w";exists ⟨_,_,rfl,hbd,sbd,k⟩
theorem y7:br ["_law_by_here","_law_row_here"] ["_law_by_here","_law_row_here"] (aL p4):=by walk_at "d"
theorem tO (T:Txt K mg Z):cC P w K mg base gV 3 Z.vW Z.vK ["_law_by_here","_law_row_here"] (Cn K):=by
 refine T.kW.F.ok y7 (λvs H Q E h=>?_) (λcdv A outer s H vs Q E hr h=>?_)
 ·obtain ⟨u,q,c,ys,rfl,_⟩:=h;rfl
 ·obtain ⟨u,q,c,ys,rfl,hc,sc,hq,hz,h2,kk⟩:=h;refine ⟨_,(ax (be (bQ ["_law_one"] ["_law_by_here"] [0] (bW (pv 1)) (λ_=>(aK (i:=0) (show ND9 ["_law_one","_law_by_here"] by decide +kernel))) (λ_=>b0) (λ_=>(cn (iV T) hr T.fB (aa (pv 1) (aa (pv 0) ae))))))),?_⟩;refine aZ (σ:=[some u,some (.ref q)]) rfl ?_;obtain ⟨us,gu,qu⟩:=id hq;exists ⟨⟨_,bB.of gu⟩,?_⟩;refine dj (K:=K) (F:=bL K) (bL K) (λy=>c*y) gu qu hz (λa b=>a.same b) (λa b=>a.same b) ?_ ?_
  ·rintro i y x H' NY NN en s hx k;exists ⟨_,_,_,_,rfl,hc.same s,hx,sc,h2 y (aj en),λr H2 s2 h2'=>k _ _ s2 h2'⟩
  ·rintro ys' H' r hr s g pr nx;exact kk r H' hr s ⟨ys',g,pr⟩
theorem cY:br ["_law_bag_here","_law_move_here","_law_put","_law_look","_law_n","_law_turn","_law_i","_law_j","_law_by_here","_law_less","_law_row_here"] ["_law_bag_here","_law_move_here","_law_put","_law_look"] (aL kC):=by walk_at "d"
theorem fO (T:Txt K mg Z):cC P w K mg base gV 4 Z.pE Z.o6 ["_law_bag_here","_law_move_here","_law_put","_law_look"] (yW K):=by
 refine T.dY.F.ok cY (λvs H Q E h=>?_) (λcdv A outer s H vs Q E hr h=>?_)
 ·obtain ⟨b,m,p,l,q0,n,WV,μ,A,us,ws,vs,rfl,_⟩:=h;rfl
 ·obtain ⟨b,m,p,l,q0,n,WV,μ,A,us,ws,vs,rfl,MA,X,n8,i4,o4,M0,M1,⟨M,eM⟩,V1,hA,k⟩:=h
  refine ⟨_,(ai (aV (i:=4) cY.nd rfl (Or.inl rfl) (bE bq (by rfl) T.len bc (aa (pv 1) ae)))
   (ai (cG (PW.pt (oC (aX mV (pv 4) ag (bf _)) (kH (aX dh (cn (aO T) hr T.aI (aa (pv 0) (aa ag ae))) ag (bf _))))) (ax (be (bU (aa (pv 1) (aa (pv 2) (aa (pv 3) ae)))))) bH)
   (ai (cZ PassesOwn.never rfl (bP rfl T.range (aa (bC d9 ag (cn (aO T) hr T.aI (aa (pv 0) (aa ag ae)))) ae)) (aK (i:=5) cY.nd)
    (ai (aV (i:=6) cY.nd rfl (Or.inl rfl) (cn (aO T) hr T.aI (aa (pv 0) (aa (pv 4) ae))))
   (ai (aV (i:=7) cY.nd rfl (Or.inl rfl) (bC jW (bC d9 (bC d9 (pv 6) ag) (cn (aO T) hr T.aI (aa (pv 0) (aa (bC jV (pv 4) ag) ae)))) (pv 4)))
   (ai (aV (i:=8) cY.nd rfl (Or.inl rfl) (bU (aa (bg bz (dM (aa ag (aa (xZ sL ag) (aa ag (aa (xZ sL ag) ae))))) (cn (aO T) hr T.aI (aa (pv 0) (aa ag ae)))) (aa ag ae))))
   (ai (aV (i:=9) cY.nd rfl (Or.inl rfl) (bU (aa (bC jV ag (bg bX (pv 8) ag)) (aa ag ae))))
   (ai (dJ (cn (oM T) hr T.iY (aa (bg bz (pv 1) (pv 6)) (aa (cn (tO T) hr T.kW (aa (pv 8) (aa (bg bz (pv 1) (pv 7)) ae))) ae))) (eV (pv 1) (pv 6) set_list))
   (ai (cZ PassesOwn.never rfl (bW (bC jl (pv 1) (pv 3))) (aK (i:=10) cY.nd)
    (ax (dJ (cn (iH T) hr T.ff (aa (bg bz (pv 10) (pv 7)) (aa (cn (iV T) hr T.fB (aa (pv 9) (aa (bg bz (pv 10) (pv 6)) ae))) ae))) (eV (pv 10) (pv 7) set_list))))
   (ax (cZ PassesOwn.never rfl (bW (pv 2)) (aK (i:=10) cY.nd)
    (ax (dJ (cn (iH T) hr T.ff (aa (bg bz (pv 10) (pv 6)) (aa (cn (iV T) hr T.fB (aa (pv 8) (aa (bg bz (pv 10) (pv 7)) ae))) ae))) (eV (pv 10) (pv 6) set_list))))))))))))
   (ax (be (bU (aa (pv 1) (aa (pv 2) (aa (pv 3) ae))))))))),?_⟩
  refine aZ (σ:=[some (.ref b),some (.ref m),some (.ref p),some (.ref l),none,none,none,none,none,none,none]) rfl ?_;have done:∀r us' H' t,t<=3->H' r=some (.tup [.ref m,.ref p,.ref l])->gv K A H' n (λx=>Fr (μ x) (9^t*WV)) m p l b q0 us' ws vs->fI A b m H H'->Q (.ref r) H':=λr us' H' t ht g x kp=>k r us' H' g (x.weak λ_ _ y h=>h.mono (aP _ (aD (by decide) ht))) kp
  have X0:gv K A H n (λx=>Fr (μ x) (9^0*WV)) m p l b q0 us ws vs:=X.weak λ_ _ y h=>h.mono (by simp)
  clear X k;have gu:=X0.gm;have lu:=X0.lm;exists ⟨_,_,rfl,.inl (bB.of gu),?_⟩;rw[lu];clear gu lu;have kp0:fI A b m H H:=λ_ _ h _ _ _=>h
  exists eP (λh0=>?_) (λh0=>?_)
  ·exists bx λr H' s' g'=>?_
   exact done r us H' 0 (by decide) g' (X0.same s') (kp0.same s')
  have n2:2<=n:=by
   rcases sG n 2 with z | z
   ·exact absurd (decide_eq_true (show (n:Int) < 2 by lia)) h0
   ·exact z
  exists ⟨b,2,rfl,X0.bag,by decide,by decide,λv H1 v0 v1 B1 u1=>?_⟩;have X1:=X0.upto MA u1 B1;have kp1:=kp0.upto u1;exists eP (λh1=>?_) (λh1=>?_)
  ·exists bx λr H' s' g'=>?_
   exact done r us H' 0 (by decide) g' (X1.same s') (kp1.same s')
  exists ⟨b,3,rfl,B1,by decide,by decide,λc H2 c0 c1 B2 u2=>?_⟩;have X2:=X1.upto MA u2 B2;have kp2:=kp1.upto u2;clear X0 X1 kp0 kp1 u1 u2 B1;exists ⟨by lia,by lia,?_⟩;refine dC (n:=(1+c).toNat) (λt σ' H'=>∃(x1 x2 x3 x4 x5 x6:Option V) (us:List V),σ'=[some (.ref b),some (.ref m),some (.ref p),some (.ref l),some (.int n),x1,x2,x3,x4,x5,x6]/\gv K A H' n (λx=>Fr (μ x) (9^t*WV)) m p l b q0 us ws vs/\fI A b m H H') ⟨none,none,none,none,none,none,us,rfl,X2,kp2⟩ ?_ ?_
  ·rintro t σ' H' ht ⟨x1,x2,x3,x4,x5,x6,us,rfl,X,kp⟩;have t3:t<=2:=by lia
   exists ⟨b,n,rfl,X.bag,by lia,by lia,λii Ha i0 i1 Ba ua=>?_⟩;obtain ⟨ii,rfl⟩:=bM i0;have Xa:=X.upto MA ua Ba;have kpa:=kp.upto ua;exists ⟨b,_,rfl,Ba,by lia,by lia,λd Hb d0 d1 Bb ub=>?_⟩;have Xb:=Xa.upto MA ub Bb;have kpb:=kpa.upto ub;exists ie (show (0:Int) < n by lia) ?_;have j0:=ja ((ii:Int)+1+d) (show (n:Int)≠0 by lia);have j1:=fX ((ii:Int)+1+d) (show (0:Int) < n by lia);generalize ((ii:Int)+1+d) % (n:Int)=jj at j0 j1 ⊢;obtain ⟨jj,rfl⟩:=bM j0;exists cS λl0 Hc sc nc gc=>?_
   exists ⟨b,4,rfl,Bb.same sc,by decide,by decide,λv' Hd v0' v1' Bd ud=>?_⟩;have gd:=ud.other (λz=>Bb.at (by rw[<- z];exact nc)) gc;obtain ⟨x,ex,mx,_⟩:=fk (xs:=[V.int 1,V.int (-1),V.int 2,V.int (-2)]) v0' (by simpa using v1')
   obtain ⟨z,rfl,hz⟩:∃z:Int,x=.int z/\z.natAbs<=2:=by
    simp only[az,aB,or_false] at mx;rcases mx with rfl | rfl | rfl | rfl
    ·exact ⟨1,rfl,by decide⟩
    ·exact ⟨-1,rfl,by decide⟩
    ·exact ⟨2,rfl,by decide⟩
    ·exact ⟨-2,rfl,by decide⟩
   have Xd:=(Xb.same sc).upto MA ud Bd;have kpd:=(kpb.same sc).upto ud;exists bT (bB.of gd) ex ?_;exists bx λbt He se ge=>?_
   exists bx λlt Hf sf gf=>?_
   have Xf:=(Xd.same se).same sf;have kpf:=(kpd.same se).same sf;have nb:bL K Hf ((z:Int):Rat) (.ref bt):=bL.mk (sf _ _ ge) rfl;have nl:bL K Hf ((0 - z:Int):Rat) (.ref lt):=bL.mk gf rfl;clear X Xa Xb Xd kp kpa kpb kpd ua ub ud sc gc gd ex mx ge gf se sf Ba Bb Bd nc;have gu:=Xf.gm;have lu:=Xf.lm
   have ru:∀x∈us,dk K A Hf n (Fr M (9^t*WV)) x:=λx hx=>by
    have:=Xf.row x (by simp [hx]);rwa [eM x (Xf.apart.1 x hx).1 (Xf.apart.1 x hx).2] at this
   have hM:0 < M/\M<=2^800:=by
    have hx:us[ii]'(by lia)∈us:=a8 _;have:=eM _ (Xf.apart.1 _ hx).1 (Xf.apart.1 _ hx).2;rw[<- this];exact ⟨M0 _,M1 _⟩
   have e1:us[ii]?=some (us[ii]'(by lia)):=by simp
   have e2:us[jj]?=some (us[jj]'(by lia)):=by simp
   obtain ⟨q1,z1,qs1,w1,a1,g1,k1,p1,l1,c1⟩:=(ru _ (aj e1)).at;obtain ⟨q2,z2,qs2,w2,a2,g2,k2,p2,l2,c2⟩:=(ru _ (aj e2)).at;rw[w1] at e1;rw[w2] at e2;generalize eW:9^t*WV=W at *
   have W9:9*W<=2^140:=by rw[<- eW];exact CM (by lia) V1
   have sz9M:∀{x:Rat} {U:Nat},U<=9*W->Fr M U x->rZ x:=λhU h=>An hM.1 hM.2 (ak hU W9) h
   have sz9:∀{x:Rat} {U:Nat} {v:V},U<=9*W->Fr (μ v) U x->rZ x:=λhU h=>An (M0 _) (M1 _) (ak hU W9) h
   exists bT (bB.of gu) (cM e1) ?_;exists bT (bB.of gu) (cM e2) ?_;exists ⟨_,q2,_,qs2,rfl,nb,wq (by lia),⟨z2,g2,p2⟩,by lia,λy hy=>sz9M (by lia) (c2 y hy),λr1 Hg n1 sg R1=>?_⟩;exists ⟨q1,r1,qs1,_,rfl,⟨z1,sg _ _ g1,Paired.imp' (λ_ _ y=>y.same sg) p1⟩,R1,by rw[av,l1,l2],by lia,λy hy=>sz9M (by lia) (c1 y hy),λy hy=>?_,λr2 Hh n2' sh R2=>?_⟩
   ·obtain ⟨y',hy',rfl⟩:=ba.mp hy;exact sN hz (c2 y' hy') hM.1 hM.2 (by lia)
   have sfh:=sg.trans sh
   have new:V.ref r2∉us++vs++ws:=λz=>by
    obtain ⟨q',_,_,e',_,g',_⟩:=((Xf.same sg).row _ z).at;cases e';rw[n2'] at g';cases g'
   have Xh:=(Xf.same sfh).weak (C':=λx y=>(x∈ws->Fr (μ x) W y)/\Fr (μ x) (3*W) y) λx _ y h=>⟨λ_=>h,h.mono (by lia)⟩
   have kph:=kpf.same sfh;have guh:=sfh _ _ gu;have ar2:A r2:=(kpf.same sg).new hA (Xf.same sg).bag (by rw[sg _ _ gu];simp) n2'
   have rp2:dk K A Hh n (λy=>(V.ref r2∈ws->Fr (μ (.ref r2)) W y)/\Fr (μ (.ref r2)) (3*W) y) (.ref r2):=by
    rw[eM (.ref r2) (λz=>new (ar.mpr (.inr z))) (λz=>new (ar.mpr (.inl (ar.mpr (.inr z)))))];refine ⟨r2,_,rfl,ar2,R2,by rw[d6,av];lia,λy hy=>⟨λz=>absurd (ar.mpr (.inr z)) new,?_⟩⟩;obtain ⟨j',hj',e⟩:=mH hy;rw[v8,iC] at e;rw[<- e];exact xf hz (c1 _ (a8 _)) (c2 _ (a8 _))
   exists dE guh (dQ (by lia)) rfl ?_;have Xi:=Xh.set MA rp2 new ii;have kpi:=kph.upd (o:=.lst (us.set ii (.ref r2))) (q:=m) (.inr rfl);have nli:bL K (upd Hh m (.lst (us.set ii (.ref r2)))) ((0 - z:Int):Rat) (.ref lt):=(nl.same sfh).updL guh;have nbi:bL K (upd Hh m (.lst (us.set ii (.ref r2)))) ((z:Int):Rat) (.ref bt):=(nb.same sfh).updL guh;generalize upd Hh m (.lst (us.set ii (.ref r2)))=Hi at Xi kpi nli nbi ⊢;generalize us.set ii (.ref r2)=um at Xi;clear nb nl Xf kpf gu ru e1 e2 g1 p1 g2 p2 R1 R2 Xh kph guh rp2 sg sh sfh new;have gm:=Xi.gm;have lm:=Xi.lm;have gl:=Xi.gl;have nd:=Xi.nd;obtain ⟨nd1,nd2,nd3⟩:=bo.mp nd;exists ic gm gl (aU (bp (by lia))) λcl Hj sj nj gj=>?_
   have kpj:=kpi.same sj
   have rows:∀x∈um++vs,∀q,x=V.ref q->q≠cl:=λx hx q e y=>by
    obtain ⟨q',zs,_,e',_,g',_⟩:=(Xi.row x (ar.mpr (.inl hx))).at;rw[e] at e';cases e';rw[y,nj] at g';cases g'
   have Xj:=(Xi.same sj).weak (C':=λx y=>(x∈ws->Fr (μ x) W y)/\(x∈(um++vs).drop 0->Fr (μ x) (3*W) y)/\Fr (μ x) (9*W) y) λx _ y h=>⟨h.1,λ_=>h.2,h.2.mono (by lia)⟩
   have lj:bL K Hj ((0 - z:Int):Rat) (.ref lt):=nli.same sj;have bj:bL K Hj ((z:Int):Rat) (.ref bt):=nbi.same sj;clear Xi kpi nli nbi;refine ⟨_,rfl,⟨_,bB.of gj⟩,?_⟩;refine ed (K:=K) (a:=cl) (xs:=um++vs) (λs σ' H'=>∃x6:Option V,σ'=[some (.ref b),some (.ref m),some (.ref p),some (.ref l),some (.int n),some (.int t),some (.int ii),some (.int jj),some (.ref bt),some (.ref lt),x6]/\gv K A H' n (λx y=>(x∈ws->Fr (μ x) W y)/\(x∈(um++vs).drop s->Fr (μ x) (3*W) y)/\Fr (μ x) (9*W) y) m p l b q0 um ws vs/\fI A b m H H'/\H' cl=some (.lst (um++vs))/\bL K H' ((0 - z:Int):Rat) (.ref lt)/\bL K H' ((z:Int):Rat) (.ref bt)) ⟨_,rfl,Xj,kpj,gj,lj,bj⟩ (λs σ' H' _ ⟨_,_,_,_,e,_⟩=>bB.of e) ?_ ?_
   ·rintro s x σ' Hk hx ⟨y6,rfl,Xk,kpk,gk,lk,bk⟩;have hs:s < (um++vs).length:=(aF.mp hx).1;have mx:=aj hx
    have xd:x∈(um++vs).drop s:=by
     rw[cI hs,(aF.mp hx).2];exact .head _
    have xd2:x∉(um++vs).drop (s+1):=λz=>by
     have:=nd1.sublist (List.drop_sublist s _);rw[cI hs,cT,(aF.mp hx).2] at this;exact this.1 z
    have xw:x∉ws:=λz=>nd3 x mx x z rfl
    have rx:=Xk.row x (ar.mpr (.inl mx));obtain ⟨q,zs,qs,rfl,aq,gq,lq,pq,lq2,cq⟩:=rx.at;have qcl:=rows _ mx q rfl;obtain ⟨vj,ej,nj'⟩:=DP pq (j:=jj) (by lia);obtain ⟨vi,ei,ni'⟩:=DP pq (j:=ii) (by lia);have cj:=(cq _ (getD_mem (xs:=qs) (i:=jj) (by lia))).2.1 xd;have ci:=(cq _ (getD_mem (xs:=qs) (i:=ii) (by lia))).2.1 xd;exists bT (bB.of gq) ej ?_;exists bT (bB.of gq) ei ?_;exists ⟨_,_,_,_,rfl,lk,ni',wq (by lia),sz9 (by lia) ci,λr3 Hl sl n3=>?_⟩;exists ⟨_,_,_,_,rfl,nj'.same sl,n3,sz9 (by lia) cj,sN (by lia) ci (M0 _) (M1 _) (by lia),λr4 Hm sm n4=>?_⟩;have slm:=sl.trans sm;exists dE (slm _ _ gq) (dQ (by lia)) rfl ?_;refine ⟨_,rfl,?_,(kpk.same slm).upd (.inl aq),by rw[aN qcl.symm];exact slm _ _ gk,(lk.same slm).updL (slm _ _ gq),(bk.same slm).updL (slm _ _ gq)⟩;refine ((Xk.same slm).weak λx' _ y h=>⟨h.1,λz=>h.2.1 ?_,h.2.2⟩).put MA aq (slm _ _ gq) n4 ⟨λz=>absurd z xw,λz=>absurd z xd2,?_⟩ jj
    ·rw[cI hs];exact .tail _ z
    ·exact (xf (by lia) cj ci).mono (by lia)
   ·rintro σ' Hk ⟨y6,rfl,Xk,kpk,gk,lk,bk⟩;have gp:=Xk.gp;have Xk2:=Xk.weak (C':=λx y=>(x∈ws.drop 0->Fr (μ x) W y)/\Fr (μ x) (9*W) y) λx _ y h=>⟨λz=>h.1 (by simpa using z),h.2.2⟩
    clear Xk;exists ⟨⟨_,bB.of gp⟩,?_⟩;refine ed (K:=K) (a:=p) (xs:=ws) (λs σ' H'=>∃x6:Option V,σ'=[some (.ref b),some (.ref m),some (.ref p),some (.ref l),some (.int n),some (.int t),some (.int ii),some (.int jj),some (.ref bt),some (.ref lt),x6]/\gv K A H' n (λx y=>(x∈ws.drop s->Fr (μ x) W y)/\Fr (μ x) (9*W) y) m p l b q0 um ws vs/\fI A b m H H'/\bL K H' ((z:Int):Rat) (.ref bt)) ⟨_,rfl,Xk2,kpk,bk⟩ (λs σ' H' _ ⟨_,_,X,_⟩=>bB.of X.gp) ?_ ?_
    ·rintro s x σ' Hl hx ⟨w6,rfl,Xl,kpl,bl⟩;have hs:s < ws.length:=(aF.mp hx).1;have mx:=aj hx
     have xd:x∈ws.drop s:=by
      rw[cI hs,(aF.mp hx).2];exact .head _
     have xd2:x∉ws.drop (s+1):=λz=>by
      have:=nd2.sublist (List.drop_sublist s _);rw[cI hs,cT,(aF.mp hx).2] at this;exact this.1 z
     have rx:=Xl.row x (ar.mpr (.inr mx));obtain ⟨q,zs,qs,rfl,aq,gq,lq,pq,lq2,cq⟩:=rx.at;obtain ⟨vj,ej,nj'⟩:=DP pq (j:=jj) (by lia);obtain ⟨vi,ei,ni'⟩:=DP pq (j:=ii) (by lia);have cj:=(cq _ (getD_mem (xs:=qs) (i:=jj) (by lia))).1 xd;have ci:=(cq _ (getD_mem (xs:=qs) (i:=ii) (by lia))).1 xd;exists bT (bB.of gq) ei ?_;exists bT (bB.of gq) ej ?_;exists ⟨_,_,_,_,rfl,bl,nj',wq (by lia),sz9 (by lia) cj,λr3 Hm sm n3=>?_⟩;exists ⟨_,_,_,_,rfl,ni'.same sm,n3,sz9 (by lia) ci,sN (by lia) cj (M0 _) (M1 _) (by lia),λr4 Hn sn n4=>?_⟩;have smn:=sm.trans sn;exists dE (smn _ _ gq) (dQ (by lia)) rfl ?_;refine ⟨_,rfl,?_,(kpl.same smn).upd (.inl aq),(bl.same smn).updL (smn _ _ gq)⟩;refine ((Xl.same smn).weak λx' _ y h=>⟨λz=>h.1 ?_,h.2⟩).put MA aq (smn _ _ gq) n4 ⟨λz=>absurd z xd2,?_⟩ ii
     ·rw[cI hs];exact .tail _ z
     ·exact (xf (by lia) ci cj).mono (by lia)
    ·rintro σ' Hl ⟨w6,rfl,Xl,kpl,bl⟩;refine ⟨_,_,_,_,_,_,um,rfl,Xl.weak λ_ _ y h=>h.2.mono ?_,kpl⟩;rw[<- eW,mS,c7 (9^t) 9,cP];exact ay _
  ·rintro σ' H' ⟨x1,x2,x3,x4,x5,x6,us',rfl,X,kp⟩;exists bx λr H2' s' g'=>?_
   exact done r us' H2' _ (by lia) g' (X.same s') (kp.same s')
theorem cL:br ["_law_bag_here","_law_one","_law_other_here","_law_ahead","_law_behind","_law_found","_law_k"] ["_law_bag_here"] (aL ib):=by walk_at "d"
theorem oJ (T:Txt K mg Z):cC P w K mg base gV 5 Z.kn Z.ki ["_law_bag_here"] (D6 K):=by
 refine T.gM.F.ok cL (λvs H Q E h=>?_) (λcdv A outer s H vs Q E hr h=>?_)
 ·obtain ⟨b,rfl,_⟩:=h;rfl
 ·obtain ⟨b,rfl,hB,k⟩:=h
  refine ⟨_,(ai (aV (i:=1) cL.nd rfl (Or.inl rfl) (cn (kJ T) hr T.gO (aa (pv 0) (aa ag ae))))
   (ai (aV (i:=2) cL.nd rfl (Or.inl rfl) (cn (kJ T) hr T.gO (aa (pv 0) (aa (bC d9 ag (cn (aO T) hr T.aI (aa (pv 0) (aa ag ae)))) ae))))
   (ai (aV (i:=3) cL.nd rfl (Or.inr rfl) (bC zi (dM (aa (bU (aa ag (aa ag ae))) ae)) ag))
   (ai (aV (i:=4) cL.nd rfl (Or.inr rfl) (bC zi (dM (aa (bU (aa ag (aa ag ae))) ae)) (bE bq (by rfl) T.len bc (aa (bg bX (pv 2) ag) ae))))
   (ai (aV (i:=5) cL.nd rfl (Or.inl rfl) (dM ae))
   (ai (cZ PassesOwn.never rfl (bP rfl T.range (aa ag ae)) (aK (i:=6) cL.nd)
    (ax (fU (oG b8 bZ bY fz (pv 5) (aa (bC jl (bQ ["_law_row_here"] ["_law_behind"] [4] (bW (bg bX (pv 1) (pv 6))) (λ_=>(aK (i:=0) (show ND9 ["_law_row_here","_law_behind"] by decide +kernel))) (λ_=>b0) (λ_=>(bC jl (pv 0) (pv 1)))) (bQ ["_law_row_here"] ["_law_ahead"] [3] (bW (bg bX (pv 2) (pv 6))) (λ_=>(aK (i:=0) (show ND9 ["_law_row_here","_law_ahead"] by decide +kernel))) (λ_=>b0) (λ_=>(bC jl (pv 1) (pv 0))))) ae)))))
   (ax (be (cn (fO T) hr T.dY (aa (pv 0) (aa (bg bz (pv 5) ag) (aa (bg bz (pv 5) ag) (aa (bg bz (pv 5) ag) ae))))))))))))),?_⟩
  refine aZ (σ:=[some (.ref b),none,none,none,none,none,none]) rfl ?_;obtain ⟨q0,I0,xq,gq0⟩:=hB.inner;exists ⟨b,3,rfl,hB,by decide,by decide,λr1 mv1 pt1 lk1 H1 P1 lm1 lp1 ll1 D1 fm1 fp1 fl1 B1 u1=>?_⟩;exists ⟨b,3,rfl,B1,by decide,by decide,λv H2 v0 v1 B2 u2=>?_⟩;obtain ⟨v,rfl⟩:=bM v0;have u02:=u1.trans u2;walk_at "w";rw[show ((3:Int)+(v:Int))=((3+v:Nat):Int) by lia];refine ⟨b,3+v,rfl,B2,by lia,by lia,λr2 mv2 pt2 lk2 H3 P2 lm2 lp2 ll2 D2 fm2 fp2 fl2 B3 u3=>?_⟩;have u03:=u02.trans u3;have P1c:=(P1.upto (u2.trans u3) B1 hB.at);have P2c:cR K H H3 r2 mv2 pt2 lk2:=P2.weak λq h=>u02.none B2 h
  exists bx λt0 H4 s4 g4=>?_
  exists cS λa1 H5 s5 n5 g5=>?_
  exists y9 (k:=3) g5 (by decide) λah H6 s6 n6 g6=>?_
  have s36:=(s4.trans s5).trans s6;obtain ⟨m1,p1,l1,gt1,m1n,p1n,l1n,Gm1,Gp1,Gl1⟩:=P1c.same s36;obtain ⟨m2,p2,l2,gt2,m2n,p2n,l2n,Gm2,Gp2,Gl2⟩:=P2c.same s36;have N0:bL K H6 0 (V.ref t0):=bL.mk (q:=0) ((s5.trans s6) _ _ g4) rfl;exists bx λt1 H7 s7 g7=>?_
  exists cS λa2 H8 s8 n8' g8=>?_
  have s68:=s7.trans s8;have gt2':=s68 _ _ gt2;obtain ⟨um2,gm2,qm2,_⟩:=id (Gm2.same s68);have lum2:=qm2.length;exists ⟨_,_,rfl,.inl (bB.of gm2),?_⟩;rw[<- lum2,lm2];exists y9 (k:=3+v) g8 (by lia) λbh H9 s9 n9 g9=>?_
  have s69:=s68.trans s9;have s39:=s36.trans s69;have N1:bL K H9 0 (V.ref t1):=bL.mk (q:=0) ((s8.trans s9) _ _ g7) rfl;have u09:=u03.same s39;have B9:=B3.same s39;have g6':=s69 _ _ g6;have N0':=N0.same s69;exists cS λfd H10 s10 n10 g10=>?_
  have X1:∀i:Nat,i < 3->∃q1 R1 q2 R2,[V.ref m1,V.ref p1,V.ref l1][i]?=some (V.ref q1)/\bO K H H9 q1 R1/\(∀xs∈R1,xs.length=3/\∀y∈xs,Fr 1 1 y)/\[V.ref m2,V.ref p2,V.ref l2][i]?=some (V.ref q2)/\bO K H H9 q2 R2/\(∀xs∈R2,xs.length=3+v/\∀y∈xs,Fr 1 1 y)/\R1.length<=100/\R2.length<=100/\[6+v,2,2][i]?=some (R1.length+R2.length):=λi hi=>by
   rcases (show i=0\/i=1\/i=2 by lia) with rfl | rfl | rfl
   ·exact ⟨m1,mv1,m2,mv2,rfl,Gm1.same s69,λxs hx=>⟨by rw[D1.mw xs hx,lm1],fm1 xs hx⟩,rfl,Gm2.same s69,λxs hx=>⟨by rw[D2.mw xs hx,lm2],fm2 xs hx⟩,by lia,by lia,by rw[lm1,lm2,show 3+(3+v)=6+v by lia];rfl⟩
   ·exact ⟨p1,pt1,p2,pt2,rfl,Gp1.same s69,λxs hx=>⟨by rw[D1.pw xs hx,lm1],fp1 xs hx⟩,rfl,Gp2.same s69,λxs hx=>⟨by rw[D2.pw xs hx,lm2],fp2 xs hx⟩,by lia,by lia,by rw[lp1,lp2];rfl⟩
   ·exact ⟨l1,lk1,l2,lk2,rfl,Gl1.same s69,λxs hx=>⟨by rw[D1.lw xs hx,lm1],fl1 xs hx⟩,rfl,Gl2.same s69,λxs hx=>⟨by rw[D2.lw xs hx,lm2],fl2 xs hx⟩,by lia,by lia,by rw[ll1,ll2];rfl⟩
  exists ⟨by decide,by decide,?_⟩;refine dC (n:=3) (λi σ' H'=>aH H9 H'/\∃x6 L,σ'=[some (.ref b),some (.ref r1),some (.ref r2),some (.ref ah),some (.ref bh),some (.ref fd),x6]/\JH K H9 H' (6+v) fd L/\L.length=i/\∀(j:Nat) (e:Addr×List V),L[j]?=some e->[6+v,2,2][j]?=some e.2.length) ⟨s10,none,[],rfl,⟨g10,n10,(λ_ z=>nomatch z),gX,(λ_ z=>nomatch z),gX⟩,rfl,λj e h=>by simp at h⟩ ?_ ?_
  ·rintro i σ' H' hi ⟨s',x6,L,rfl,T,lL,hL⟩;obtain ⟨q1,R1,q2,R2,e1,G1,w1,e2,G2,w2,b1,b2,hlen⟩:=X1 i hi;have gt1':=s' _ _ (s69 _ _ gt1);have gt2'':=s' _ _ (s69 _ _ gt2);obtain ⟨ux1,gx1,qx1,_⟩:=id (G1.same s');have gb:=s' _ _ g9;have ga:=s' _ _ g6';exists ⟨.inl ⟨rfl,_,bB.of T.gf⟩,?_⟩;exists zb (iP.of gt1') (cM e1) ?_;exists ⟨⟨_,bB.of gx1⟩,?_⟩;refine vL (K:=K) (F:=dG K H) (λH'' c x=>∃q,x=V.ref q/\cB K H'' q c) (λr=>r++List.replicate (3+v) 0) gx1 qx1 (by lia) (λa b=>a.same b) (λa b=>by obtain ⟨q,e,r⟩:=a;exact ⟨q,e,r.same b⟩) (λa=>by obtain ⟨q,e,_,gg,_⟩:=a;exact ⟨q,e,by rw[gg];exact λz=>nomatch z⟩) ?_ ?_
   ·rintro j ns x Hi NY NN en si ⟨q,rfl,_,zs,gz,qz⟩ k1;have ws:=(w1 ns (aj en)).1;have lz:=qz.length;exists ic gz (si _ _ gb) (aU (bp (by rw[aT];lia))) λc Hj sj nj gj=>?_
    exact k1 _ _ sj ⟨c,rfl,_,gj,b6 (Paired.imp' (λ_ _ z=>z.same sj) qz) (oh (((N1.same s').same si).same sj) _)⟩ ⟨c,rfl,nj⟩
   rintro ys1 Ha c1 hc1 sa ga1 nd1 ne1 pr1;obtain ⟨ux2,gx2,qx2,_⟩:=id ((G2.same s').same sa);have gt2a:=sa _ _ gt2'';exists zb (iP.of gt2a) (cM e2) ?_;exists ⟨⟨_,bB.of gx2⟩,?_⟩;refine vL (K:=K) (F:=dG K H) (λH'' c x=>∃q,x=V.ref q/\cB K H'' q c) (λr=>List.replicate 3 0++r) gx2 qx2 (by lia) (λa b=>a.same b) (λa b=>by obtain ⟨q,e,r⟩:=a;exact ⟨q,e,r.same b⟩) (λa=>by obtain ⟨q,e,_,gg,_⟩:=a;exact ⟨q,e,by rw[gg];exact λz=>nomatch z⟩) ?_ ?_
   ·rintro j ns x Hi NY NN en si ⟨q,rfl,_,zs,gz,qz⟩ k1;have ws:=(w2 ns (aj en)).1;have lz:=qz.length;exists ic ((sa.trans si) _ _ ga) gz (aU (bp (by rw[aT];lia))) λc Hj sj nj gj=>?_
    exact k1 _ _ sj ⟨c,rfl,_,gj,b6 (oh ((((N0'.same s').same sa).same si).same sj) _) (Paired.imp' (λ_ _ z=>z.same sj) qz)⟩ ⟨c,rfl,nj⟩
   rintro ys2 Hb c2 hc2 sb gb2 nd2 ne2 pr2;have sab:=sa.trans sb;have ly1:=pr1.length;have ly2:=pr2.length;rw[av] at ly1 ly2;exists ic (sb _ _ ga1) gb2 (aU (bp (by lia))) λqn Hc sc nc gc=>?_
   have sac:=sab.trans sc;have gfc:=sac _ _ T.gf;exists fu gfc (bp (by rw[av];lia)) ?_
   have rP:∀{c:List Rat} {x:V},(∃q,x=V.ref q/\cB K Hb q c)->(∃q,x=V.ref q/\H' q=none)->c.length=6+v->(∀y∈c,Fr 1 1 y)->dk K (λz=>H' z=none/\z≠qn) Hc (6+v) (Fr 1 1) x:=λ⟨q,e,r⟩ ⟨q',e',nq⟩ hl hf=>by
    rw[e] at e';cases e';exact ⟨q,_,e,⟨nq,λz=>by obtain ⟨_,gg,_⟩:=r;rw[z,nc] at gg;cases gg⟩,r.same sc,hl,hf⟩
   refine ⟨(s'.trans sac).after n10,some (.int i),L++[(qn,ys1++ys2)],rfl,T.snoc s' sac (sab.none nc) gc ?_ (λx hx=>?_),by rw[aG,cp,lL],λj e he=>?_⟩
   ·refine bo.mpr ⟨nd1,nd2,λx hx y hy z=>?_⟩;obtain ⟨_,_,q,e,_,gg,_⟩:=cu pr1 hx;obtain ⟨q',e',nq,_⟩:=ne2 y hy;rw[<- z,e] at e';cases e';rw[nq] at gg;cases gg
   ·rcases ar.mp hx with hx | hx
    ·obtain ⟨c,mc,q,e,r⟩:=cu pr1 hx;obtain ⟨ns,mn,rfl⟩:=ba.mp mc;obtain ⟨q',e',nq,_⟩:=ne1 x hx;refine rP ⟨q,e,r.same sb⟩ ⟨q',e',nq⟩ (by rw[aG,aT,(w1 ns mn).1];lia) λy hy=>?_
     rcases ar.mp hy with hy | hy
     ·exact (w1 ns mn).2 y hy
     ·rw[(List.mem_replicate.mp hy).2];exact Fr.zero
    ·obtain ⟨c,mc,q,e,r⟩:=cu pr2 hx;obtain ⟨ns,mn,rfl⟩:=ba.mp mc;obtain ⟨q',e',nq,_⟩:=ne2 x hx;refine rP ⟨q,e,r⟩ ⟨q',e',sa.none nq⟩ (by rw[aG,aT,(w2 ns mn).1];lia) λy hy=>?_
     rcases ar.mp hy with hy | hy
     ·rw[(List.mem_replicate.mp hy).2];exact Fr.zero
     ·exact (w2 ns mn).2 y hy
   ·rcases sG j L.length with z | z
    ·rw[oy z] at he;exact hL j e he
    ·have hj:=(aF.mp he).1;rw[aG,cp] at hj;have ej:j=L.length:=by lia
     subst ej;rw[gY (ay _),Nat.sub_self] at he;cases he;rw[lL,hlen,aG,ly1,ly2]
  ·rintro σ' H' ⟨s',x6,L,rfl,T,lL,hL⟩
   obtain ⟨⟨m,us⟩,⟨p,ws⟩,⟨l,vs⟩,rfl⟩:∃a b c,L=[a,b,c]:=by
    rcases L with _ | ⟨a,_ | ⟨b,_ | ⟨c,_ | ⟨d,L⟩⟩⟩⟩
    ·cases lL
    ·cases lL
    ·cases lL
    ·exact ⟨a,b,c,rfl⟩
    ·simp at lL
   have lu:us.length=6+v:=by have:=hL 0 _ rfl;simpa using this.symm
   have lw:ws.length=2:=by have:=hL 1 _ rfl;simpa using this.symm
   have lv:vs.length=2:=by have:=hL 2 _ rfl;simpa using this.symm
   have gf:=T.gf;obtain ⟨mn,mf,gm⟩:=T.ls (m,us) (by simp);obtain ⟨pn,pf,gp⟩:=T.ls (p,ws) (by simp);obtain ⟨ln,lf,gl⟩:=T.ls (l,vs) (by simp);have nd:=T.nd;have rw':=T.rows;have rd:=T.rd;clear T hL;have gf:H' fd=some (.lst [.ref m,.ref p,.ref l]):=gf;have nd:[m,p,l].Nodup:=nd;have rd:(us++(ws++(vs++[]))).Nodup:=rd;have u0':=u09.same s';have B':=B9.same s';have hm0:H m=none:=u09.none B9 mn;have hp0:H p=none:=u09.none B9 pn;have hl0:H l=none:=u09.none B9 ln;obtain ⟨A,eA⟩:∃A:Addr->Prop,A=λq=>H q=none/\q≠m/\q≠p/\q≠l:=⟨_,rfl⟩
   have mkA:∀{q},H q=none->q≠m->q≠p->q≠l->A q:=λh1 h2 h3 h4=>by rw[eA];exact ⟨h1,h2,h3,h4⟩
   have unA:∀{q},A q->H q=none/\q≠m/\q≠p/\q≠l:=λh=>by rw[eA] at h;exact h
   have nb:∀{q},H q=none->q≠b:=λh z=>hB.at (by rw[<- z];exact h)
   have MA:vb A m p l b q0:=⟨λz=>(unA z).2.1 rfl,λz=>(unA z).2.2.1 rfl,λz=>(unA z).2.2.2 rfl,λz=>hB.at (unA z).1,(λz=>by have z1:=(unA z).1;rw[gq0] at z1;cases z1),nb hm0,nb hp0,nb hl0,by intro z;subst z;simp at nd,by intro z;subst z;simp at nd,λz=>by rw[<- z,hm0] at gq0;cases gq0⟩;have X:gv K A H' (6+v) (λ_=>Fr 1 1) m p l b q0 us ws vs:=⟨B',u0'.2 _ I0,gm,gp,gl,lu,λx hx=>?_,?_⟩
   ·exists ⟨b,m,p,l,q0,6+v,1,λ_=>1,A,us,ws,vs,rfl,MA,X,by lia,by lia,by lia,λ_=>Nat.zero_lt_one,λ_=>nM,⟨1,λ_ _ _=>rfl⟩,by decide,λq hq=>?_,λr us' H'' g Y kp=>?_⟩
    ·exact mkA (u0'.none B' hq) (λz=>by rw[z,gm] at hq;cases hq) (λz=>by rw[z,gp] at hq;cases hq) (λz=>by rw[z,gl] at hq;cases hq)
    ·obtain ⟨mv,Gm,lmv,hmv⟩:=eE (H0:=H) (n:=6+v) (C:=Fr 1 (9^3*1)) (m:=6+v) ⟨us',Y.gm,Y.lm,MA.am,λx hx=>Y.row x (by simp [hx])⟩ λq h=>(unA h).1
     obtain ⟨pt,Gp,lpt,hpt⟩:=eE (H0:=H) (n:=6+v) (C:=Fr 1 (9^3*1)) (m:=2) ⟨ws,Y.gp,lw,MA.ap,λx hx=>Y.row x (by simp [hx])⟩ λq h=>(unA h).1
     obtain ⟨lk,Gl,llk,hlk⟩:=eE (H0:=H) (n:=6+v) (C:=Fr 1 (9^3*1)) (m:=2) ⟨vs,Y.gl,lv,MA.al,λx hx=>Y.row x (by simp [hx])⟩ λq h=>(unA h).1
     refine k r mv pt lk H'' ⟨m,p,l,g,hm0,hp0,hl0,Gm,Gp,Gl⟩ (by lia) ⟨by lia,by lia,by lia,λxs hx=>by rw[(hmv xs hx).1,lmv],λxs hx=>by rw[(hpt xs hx).1,lmv],λxs hx=>by rw[(hlk xs hx).1,lmv]⟩ (λxs hx=>(hmv xs hx).2) (λxs hx=>(hpt xs hx).2) (λxs hx=>(hlk xs hx).2) Y.bag ⟨λc' u e n1=>kp c' u (u0'.1 _ _ e n1) n1 (λz=>by have:=(unA z).1;rw[e] at this;cases this) (λz=>by rw[z,hm0] at e;cases e),λq h=>by rw[<- Inner.inj I0 h];exact Y.inn⟩
   ·have hx:∃e∈[(m,us),(p,ws),(l,vs)],x∈e.2:=by
     rcases ar.mp hx with hx | hx
     ·rcases ar.mp hx with hx | hx
      ·exact ⟨(m,us),by simp,hx⟩
      ·exact ⟨(l,vs),by simp,hx⟩
     ·exact ⟨(p,ws),by simp,hx⟩
    obtain ⟨e,he,hx⟩:=hx;refine (rw' e he x hx).weak (λq hq=>?_) (λ_ w=>w);obtain ⟨⟨h1,_⟩,h2⟩:=hq;have h2:q∉[m,p,l]:=h2;simp only[az,aB,or_false,not_or] at h2;exact mkA (u09.none B9 h1) h2.1 h2.2.1 h2.2.2
   ·rw[dU] at rd
    have e:(us++vs++ws).Perm (us++(ws++vs)):=by
     rw[cx];exact List.Perm.append_left _ List.perm_append_comm
    exact e.nodup_iff.mpr rd
theorem lP:br ["_law_bag_here","_law_wide","_law_way"] ["_law_bag_here","_law_wide"] (aL jT):=by walk_at "d"
theorem jn (T:Txt K mg Z):cC P w K mg base gV 2 Z.nG Z.m9 ["_law_bag_here","_law_wide"] (sR K):=by
 refine T.fj.F.ok lP (λvs H Q E h=>?_) (λcdv A outer s H vs Q E hr h=>?_)
 ·obtain ⟨b,w,rfl,_⟩:=h;rfl
 ·obtain ⟨b,w,rfl,hB,w0,w1,k⟩:=h
  refine ⟨_,(ai (aV (i:=2) lP.nd rfl (Or.inl rfl) (cn (aO T) hr T.aI (aa (pv 0) (aa ag ae))))
   (ai (cG (aX mV (pv 2) ag (bf _)) (ax (be (bU (aa ag (aa ag ae))))) bH)
   (ai (cG (aX mV (pv 2) ag (bf _)) (ax (be (bU (aa (bC jV (cn (aO T) hr T.aI (aa (pv 0) (aa ag ae))) ag) (aa ag ae))))) bH)
   (ai (cG (aX dh (pv 2) ag (bf _)) (ax (be (cn (jC T) hr T.gA (aa (bC jV (cn (aO T) hr T.aI (aa (pv 0) (aa ag ae))) ag) (aa (bC d9 ag (cn (aO T) hr T.aI (aa (pv 0) (aa ag ae)))) ae))))) bH)
   (ax (be (cn (jC T) hr T.gA (aa (bC jV (cn (aO T) hr T.aI (aa (pv 0) (aa (bC d9 (bC eD ag (pv 1)) ag) ae))) (pv 1)) (aa (bC d9 ag (cn (aO T) hr T.aI (aa (pv 0) (aa (pv 1) ae)))) ae))))))))),?_⟩
  refine aZ (σ:=[some (.ref b),some (.int w),none]) rfl ?_;exists ⟨b,8,rfl,hB,by decide,by decide,λv H1 v0 v1 B1 u1=>?_⟩;exists eP (λh0=>?_) (λh0=>?_)
  ·exists bx λr H2 s2 g2=>?_
   exact k r 0 _ ⟨bJ _,by show 1<=_;lia⟩ (bL.mk g2 rfl) (B1.same s2) (u1.same s2)
  exists eP (λh1=>?_) (λh1=>?_)
  ·exists ⟨b,7,rfl,B1,by decide,by decide,λa H2 a0 a1 B2 u2=>?_⟩;exists bx λr H3 s3 g3=>?_
   exact k r ((a - 3:Int):Rat) _ ⟨by show (a - 3).natAbs<=_;lia,by show 1<=_;lia⟩ (bL.mk g3 rfl) (B2.same s3) ((u1.trans u2).same s3)
  exists eP (λh2=>?_) (λh2=>?_)
  ·exists ⟨b,13,rfl,B1,by decide,by decide,λa H2 a0 a1 B2 u2=>?_⟩;exists ⟨b,6,rfl,B2,by decide,by decide,λc H3 c0 c1 B3 u3=>?_⟩;exists ⟨_,_,rfl,by lia,(BR (by lia)).mono (by decide),λr H4 s4 g4=>?_⟩;obtain ⟨q,e,d,_⟩:=C1 (t:=a - 6) (b:=1+c) (W:=max w 6) (by lia) (by lia) (by lia);exact k r q _ d (bL.mk g4 e) (B3.same s4) (((u1.trans u2).trans u3).same s4)
  exists ⟨b,_,rfl,B1,by lia,by lia,λa H2 a0 a1 B2 u2=>?_⟩;exists ⟨b,_,rfl,B2,by lia,by lia,λc H3 c0 c1 B3 u3=>?_⟩;exists ⟨_,_,rfl,by lia,(BR (by lia)).mono (by decide),λr H4 s4 g4=>?_⟩;obtain ⟨q,e,d,_⟩:=C1 (t:=a - w) (b:=1+c) (W:=max w 6) (by lia) (by lia) (by lia);exact k r q _ d (bL.mk g4 e) (B3.same s4) (((u1.trans u2).trans u3).same s4)
theorem xS:br ["_law_bag_here","_law_many","_law_wide"] ["_law_bag_here","_law_many","_law_wide"] (aL nW):=by walk_at "d"
theorem jB (T:Txt K mg Z):cC P w K mg base gV 3 Z.uG Z.uo ["_law_bag_here","_law_many","_law_wide"] (xP K):=by
 refine T.fh.F.ok xS (λvs H Q E h=>?_) (λcdv A outer s H vs Q E hr h=>?_)
 ·obtain ⟨b,m,w,rfl,_⟩:=h;rfl
 ·obtain ⟨b,m,w,rfl,hB,hm,w0,w1,k⟩:=h;refine ⟨_,(ax (be (bQ ["_law_k"] ["_law_bag_here","_law_wide"] [0,2] (bP rfl T.range (aa (pv 1) ae)) (λ_=>(aK (i:=0) (show ND9 ["_law_k","_law_bag_here","_law_wide"] by decide +kernel))) (λ_=>b0) (λ_=>(cn (jn T) hr T.fj (aa (pv 1) (aa (pv 2) ae))))))),?_⟩;refine aZ (σ:=[some (.ref b),some (.int m),some (.int w)]) rfl ?_;exists ⟨by lia,by lia,?_⟩;refine qo (n:=m) (bL K) (Dr (max w 6)) hB hm (λa u B=>a.upto u B) ?_ ?_
  ·rintro i H' NY NN hi u B k1;exists ⟨b,w,rfl,B,w0,w1,λr x H2 hx h2 B2 u2=>k1 _ x _ u2 B2 hx h2⟩
  ·rintro ys cs H' p hp u B g lc hc pr nx;exact k p cs H' hp ⟨ys,g,pr⟩ lc hc B u
theorem gG:br ["_law_bag_here","_law_n","_law_way","_law_first_here","_law_wide","_law_move_here","_law_i","_law_row_here","_law_j"] ["_law_bag_here","_law_n","_law_way","_law_first_here","_law_wide"] (aL lZ):=by walk_at "d"
theorem wU (T:Txt K mg Z):cC P w K mg base gV 4 Z.rA Z.qR ["_law_bag_here","_law_n","_law_way","_law_first_here","_law_wide"] (xN K):=by
 refine T.kU.F.ok gG (λvs H Q E h=>?_) (λcdv A outer s H vs Q E hr h=>?_)
 ·obtain ⟨b,n,w,way,first,rfl,_⟩:=h;rfl
 ·obtain ⟨b,n,w,way,first,rfl,hB,n8,w0,w1,k⟩:=h
  refine ⟨_,(ai (aV (i:=5) gG.nd rfl (Or.inl rfl) (dM ae))
   (ai (cZ PassesOwn.never rfl (bP rfl T.range (aa (pv 1) ae)) (aK (i:=6) gG.nd)
    (ai (aV (i:=7) gG.nd rfl (Or.inl rfl) (cn (jB T) hr T.fh (aa (pv 0) (aa (pv 1) (aa (pv 4) ae)))))
   (ai (cZ PassesOwn.never rfl (bP rfl T.range (aa (pv 1) ae)) (aK (i:=8) gG.nd)
    (d8 (cG (PW.pt (eU (aX dh (pv 2) ag (bf _)) (fR (aX oH (cn (aO T) hr T.aI (aa (pv 0) (aa ag ae))) ag (bf _))))) (ax (dJ (bU (aa ag (aa ag ae))) (eV (pv 7) (pv 8) set_list))) bH)
   (d8 (cG (PW.pt (eU (aX dh (pv 2) ag (bf _)) (fR (aX mV (bC d9 (pv 6) ag) (pv 1) (bf _))))) (ax (dJ (bU (aa (fw kj (by rfl) T.int PyProof.Rows.boot_int (aa (gI dh (pv 8) (bC d9 (pv 6) ag) (bf _)) ae)) (aa ag ae))) (eV (pv 7) (pv 8) set_list))) bH)
   (d8 (cG (PW.pt (oC (PW.pt (eU (aX dh (pv 2) ag (bf _)) (eU (aX vA (pv 6) (pv 3) (bf _)) (fR (aX mV (pv 8) (pv 3) (bf _)))))) (kH (PW.pt (eU (aX dh (pv 2) ag (bf _)) (eU (aX mV (pv 6) (pv 3) (bf _)) (fR (aX vA (pv 8) (pv 3) (bf _))))))))) (ax (dJ (bU (aa ag (aa ag ae))) (eV (pv 7) (pv 8) set_list))) bH)
   (ax (cG (aX dh (pv 2) ag (bf _)) (ax (dJ (bU (aa (bC eD (bg bz (dM (aa ag (aa ag (aa (xZ sL ag) (aa ag ae))))) (bC jW (pv 3) ag)) (fw kj (by rfl) T.int PyProof.Rows.boot_int (aa (gI dh (pv 6) (pv 8) (bf _)) ae))) (aa ag ae))) (eV (pv 7) (pv 8) set_list))) bH))))))
   (ax (fU (oG b8 bZ bY fz (pv 5) (aa (pv 7) ae)))))))
   (ax (be (pv 5))))),?_⟩
  refine aZ (σ:=[some (.ref b),some (.int n),some (.int way),some (.int first),some (.int w),none,none,none,none]) rfl ?_;have W1:1<=max w 6:=by lia
  exists cS λr H1 s1 n1 g1=>?_
  have rb:r≠b:=λz=>hB.at (by rw[<- z];exact n1)
  obtain ⟨q0,I0,xs0,gq0⟩:=hB.inner;have I1:Inner H1 b q0:=(s1.upto (p:=b)).2 _ I0;obtain ⟨A,eA⟩:∃A:Addr->Prop,A=λq=>H q=none/\q≠r:=⟨_,rfl⟩
  have nb:¬A b:=by rw[eA];exact λz=>hB.at z.1
  have nr:¬A r:=by rw[eA];exact λz=>z.2 rfl
  have nq:¬A q0:=by rw[eA];exact λz=>by have z1:=z.1;rw[gq0] at z1;cases z1
  have rq:r≠q0:=λz=>by rw[<- z,n1] at gq0;cases gq0
  exists ⟨by lia,by lia,?_⟩;refine dC (n:=n) (λi σ' H'=>∃(x1 x2 x3:Option V) (us:List V),σ'=[some (.ref b),some (.int n),some (.int way),some (.int first),some (.int w),some (.ref r),x1,x2,x3]/\H' r=some (.lst us)/\us.length=i/\us.Nodup/\(∀x∈us,dk K A H' n (Dr (max w 6)) x)/\eQ H' b/\Inner H' b q0/\cb b H H') ⟨none,none,none,[],rfl,g1,rfl,gX,(λ_ z=>nomatch z),hB.same s1,I1,s1.upto⟩ ?_ ?_
  ·rintro i σ' H' hi ⟨x1,x2,x3,us,rfl,gu,lu,nd,ru,B',I',u'⟩;exists ⟨b,n,w,rfl,B',by lia,w0,w1,λp xs Ha np Ra la da Ba ua=>?_⟩;have hp0:H p=none:=u'.none B' np
   have pn:V.ref p∉us:=λz=>by
    obtain ⟨q',_,_,e',_,g',_⟩:=(ru _ z).at;cases e';rw[np] at g';cases g'
   have ap':H p=none/\p≠r:=⟨hp0,λz=>by rw[z,gu] at np;cases np⟩;have ap:A p:=by rw[eA];exact ap'
   have X0:AB K A n (Dr (max w 6)) r p b q0 us H Ha:=⟨ua.other rb gu,λx hx=>(ru x hx).upto ua B' nb,⟨p,xs,rfl,ap,Ra,la,da⟩,Ba,ua.2 _ I',u'.trans ua⟩;clear ru Ra gu;exists ⟨by lia,by lia,?_⟩;refine dC (n:=n) (λj σ' H'=>(∃x3,σ'=[some (.ref b),some (.int n),some (.int way),some (.int first),some (.int w),some (.ref r),some (.int i),some (.ref p),x3])/\AB K A n (Dr (max w 6)) r p b q0 us H H') ⟨⟨_,rfl⟩,X0⟩ ?_ ?_
   ·rintro j σ' Hj hj ⟨⟨x3,rfl⟩,X⟩;exists ⟨λσ' H'=>σ'=[some (.ref b),some (.int n),some (.int way),some (.int first),some (.int w),some (.ref r),some (.int i),some (.ref p),some (.int j)]/\AB K A n (Dr (max w 6)) r p b q0 us H H',?_,?_⟩
    ·exists eP (λ_=>?_) (λ_=>?_)
     ·exists ⟨b,3,rfl,X.bag,by decide,by decide,λd Hd d0 d1 Bd ud=>?_⟩;replace X:=X.upto ud Bd nb rb
      repeat' (first | walk_at "rd" | refine eP (λ_=>?_) (λ_=>?_))
      all_goals first
       | exact ⟨rfl,X⟩
       | (refine bx λt Hb sb gb=>?_;walk_at "w";obtain ⟨zs,gz,lz,Xz⟩:=(X.same sb).put ap nr nb nq hp0 (bL.mk (q:=0) gb rfl) (mh (i:=0) (bJ _) W1) j;refine dE gz (dQ (by lia)) rfl ?_;exact ⟨rfl,Xz⟩)
     ·exists ⟨rfl,X⟩
    clear X;rintro σ' Hj ⟨rfl,X⟩;refine ⟨λσ' H'=>σ'=[some (.ref b),some (.int n),some (.int way),some (.int first),some (.int w),some (.ref r),some (.int i),some (.ref p),some (.int j)]/\AB K A n (Dr (max w 6)) r p b q0 us H H',?_,?_⟩
    ·repeat' (first | walk_at "rd" | refine eP (λ_=>?_) (λ_=>?_))
     all_goals first
      | exact ⟨rfl,X⟩
      | (refine bx λt Hb sb gb=>?_;walk_at "w";obtain ⟨zs,gz,lz,Xz⟩:=(X.same sb).put ap nr nb nq hp0 (bL.mk (q:=((if decide ((j:Int)=(i:Int)+1)=true then (1:Int) else 0:Int):Rat)) gb rfl) (mh (by split <;> lia) W1) j;refine dE gz (dQ (by lia)) rfl ?_;exact ⟨rfl,Xz⟩)
    clear X;rintro σ' Hj ⟨rfl,X⟩;refine ⟨λσ' H'=>σ'=[some (.ref b),some (.int n),some (.int way),some (.int first),some (.int w),some (.ref r),some (.int i),some (.ref p),some (.int j)]/\AB K A n (Dr (max w 6)) r p b q0 us H H',?_,?_⟩
    ·repeat' (first | walk_at "rd" | refine eP (λ_=>?_) (λ_=>?_))
     all_goals first
      | exact ⟨rfl,X⟩
      | (refine bx λt Hb sb gb=>?_;walk_at "w";obtain ⟨zs,gz,lz,Xz⟩:=(X.same sb).put ap nr nb nq hp0 (bL.mk (q:=0) gb rfl) (mh (i:=0) (bJ _) W1) j;refine dE gz (dQ (by lia)) rfl ?_;exact ⟨rfl,Xz⟩)
    clear X;rintro σ' Hj ⟨rfl,X⟩;exists eP (λ_=>?_) (λ_=>?_)
    ·exists cS λl0 Hc sc nc gc=>?_
     walk_at "w";obtain ⟨x,ex,mx,_⟩:=fk (xs:=[V.int 2,V.int 1,V.int (-1),V.int 0]) (i:=first % 4) (ja _ (by decide)) (by have:=fX first (show (0:Int) < 4 by decide);simpa using this)
     obtain ⟨z,rfl,hz⟩:∃z:Int,x=.int z/\z.natAbs<=2:=by
      simp only[az,aB,or_false] at mx;rcases mx with rfl | rfl | rfl | rfl
      ·exact ⟨2,rfl,by decide⟩
      ·exact ⟨1,rfl,by decide⟩
      ·exact ⟨-1,rfl,by decide⟩
      ·exact ⟨0,rfl,by decide⟩
     refine bT (bB.of gc) ex ?_;exists ie (Av (by lia) (by lia)) ?_;exists bx λt Hb sb gb=>?_
     walk_at "w";obtain ⟨zs,gz,lz,Xz⟩:=((X.same sc).same sb).put ap nr nb nq hp0 (bL.mk (q:=((z*(if decide ((i:Int)=(j:Int))=true then (1:Int) else 0):Int):Rat)) gb rfl) (mh (by split <;> lia) W1) j;refine dE gz (dQ (by lia)) rfl ?_;exact ⟨⟨_,rfl⟩,Xz⟩
    ·exists ⟨⟨_,rfl⟩,X⟩
   ·rintro σ' Hj ⟨⟨x3,rfl⟩,X⟩;exists ⟨.inl ⟨rfl,_,bB.of X.gr⟩,?_⟩;exists fu X.gr (bp (by lia)) ?_;refine ⟨_,_,_,us++[.ref p],rfl,aJ,by simp [lu],kL nd pn,λx hx=>?_,X.bag.upd X.inn rb rq,X.inn.upd rb,X.up.after n1⟩;rcases ar.mp hx with hx | hx
    ·exact (X.ru x hx).other X.gr nr
    ·have e:x=V.ref p:=by simpa using hx
     rw[e];exact X.rp.other X.gr nr
  ·rintro σ' H' ⟨x1,x2,x3,us,rfl,gu,lu,nd,ru,B',I',u'⟩;exists k r us H' n1 gu lu nd (by rw[eA] at ru;exact ru) B' u'
theorem cW:br ["_law_bag_here","_law_n","_law_ins","_law_outs","_law_wide","_law_way","_law_first_here","_law_move_here","_law_put","_law_look","_law_k","_law_row_here"] ["_law_bag_here","_law_n","_law_ins","_law_outs","_law_wide"] (aL kz):=by walk_at "d"
theorem jX (T : Txt K mg Z) : cC P w K mg base gV 5 Z.pB Z.oY ["_law_bag_here", "_law_n", "_law_ins", "_law_outs", "_law_wide"] (vm K) := by
  have jI := aO (P := P) (w := w) (base := base) T;have yJ := wU (P := P) (w := w) (base := base) T;have uL := jB (P := P) (w := w) (base := base) T;have xp := fO (P := P) (w := w) (base := base) T;refine T.fP.F.ok cW (λvs H Q E h => ?_) (λcdv A outer s H vs Q E hr h => ?_)
  · obtain ⟨b, n, i, o, w, c, rfl, _⟩ := h;rfl
  · obtain ⟨b, n, i, o, w, c, rfl, hB, n8, i4, o4, w0, w1, hc, hc20, hcM, k⟩ := h
    refine ⟨_, (ai (aV (i := 5) cW.nd rfl (Or.inl rfl) (cn jI hr T.aI (aa (pv 0) (aa ag ae))))
      (ai (aV (i := 6) cW.nd rfl (Or.inl rfl) (cn jI hr T.aI (aa (pv 0) (aa (bC d9 (pv 1) ag) ae))))
      (ai (aV (i := 7) cW.nd rfl (Or.inl rfl) (cn yJ hr T.kU (aa (pv 0) (aa (pv 1) (aa (pv 5) (aa (pv 6) (aa (pv 4) ae)))))))
      (ai (rR 8 ["_law_k"] ["_law_bag_here", "_law_n", "_law_wide"] [0, 1, 4] cW.nd rfl rfl (bP rfl T.range (aa (pv 2) ae)) (λ_ => (aK (i := 0) (show List.Nodup (α := PySem.Str) ["_law_k", "_law_bag_here", "_law_n", "_law_wide"] by decide +kernel))) (λ_ => b0) (λ_ => (cn uL hr T.fh (aa (pv 1) (aa (pv 2) (aa (pv 3) ae))))))
      (ai (rR 9 ["_law_k"] ["_law_bag_here", "_law_n", "_law_wide"] [0, 1, 4] cW.nd rfl rfl (bP rfl T.range (aa (pv 3) ae)) (λ_ => (aK (i := 0) (show List.Nodup (α := PySem.Str) ["_law_k", "_law_bag_here", "_law_n", "_law_wide"] by decide +kernel))) (λ_ => b0) (λ_ => (cn uL hr T.fh (aa (pv 1) (aa (pv 2) (aa (pv 3) ae))))))
      (ai (cZ PassesOwn.never rfl (bP rfl T.range (aa (pv 1) ae)) (aK (i := 10) cW.nd)
        (ai (cZ PassesOwn.never rfl (bW (pv 8)) (aK (i := 11) cW.nd)
        (ax (cG (PW.pt (oC (PW.pt (eU (aX dh (pv 5) ag (bf _)) (fR (aX vA (pv 10) (pv 6) (bf _))))) (kH (PW.pt (eU (aX dh (pv 5) ag (bf _)) (eU (aX mV (bC d9 (pv 10) ag) (pv 1) (bf _)) (fR (aX dh (cn jI hr T.aI (aa (pv 0) (aa ag ae))) ag (bf _))))))))) (ax (dJ (bU (aa ag (aa ag ae))) (eV (pv 11) (pv 10) set_list))) bH)))
      (ax (cZ PassesOwn.never rfl (bW (pv 9)) (aK (i := 11) cW.nd)
        (ax (cG (PW.pt (oC (PW.pt (eU (aX dh (pv 5) ag (bf _)) (fR (aX vA (pv 10) (pv 6) (bf _))))) (kH (PW.pt (eU (aX dh (pv 5) ag (bf _)) (eU (aX oH (pv 10) ag (bf _)) (fR (aX dh (cn jI hr T.aI (aa (pv 0) (aa ag ae))) ag (bf _))))))))) (ax (dJ (bU (aa ag (aa ag ae))) (eV (pv 11) (pv 10) set_list))) bH))))))
      (ax (be (cn xp hr T.dY (aa (pv 0) (aa (pv 7) (aa (pv 8) (aa (pv 9) ae))))))))))))), ?_⟩
    refine aZ (σ := [some (.ref b), some (.int n), some (.int i), some (.int o), some (.int w), none, none, none, none, none, none, none]) rfl ?_;have W1 : 1 ≤ max w 6 := by lia
    obtain ⟨q0, I0, xs0, gq0⟩ := hB.inner;exists ⟨b, 6, rfl, hB, by decide, by decide, λway H1 a0 a1 B1 u1 => ?_⟩;exists ⟨b, _, rfl, B1, by lia, by lia, λfirst H2 f0 f1 B2 u2 => ?_⟩;have u02 := u1.trans u2;exists ⟨b, n, w, way, first, rfl, B2, n8, w0, w1, λm us H3 nm0 gm lm ndm rm B3 u3 => ?_⟩;have u03 := u02.trans u3;exists ⟨by lia, by lia, ?_⟩;refine vN (n := i) (b := b) (dG K H3) (λxs => xs.length = n /\ ∀ x ∈ xs, Dr (max w 6) x) B3 (by lia) (λa u B => a.upto u B B3.at) (λ⟨q, e, _, _, g, _⟩ => ⟨q, e, by rw [g]; exact λz => nomatch z⟩) ?_ ?_
    · rintro s H' NY NN hi u B k1;exists ⟨b, n, w, rfl, B, by lia, w0, w1, λr xs H2 nr R lx dx B2 u2 => k1 _ xs _ u2 B2 ⟨lx, dx⟩ ⟨r, rfl, u.none B nr, R⟩ ⟨r, rfl, nr⟩⟩
    rintro ws puts H4 p np u4 B4 gp lp ndp hp pr4 nx4;have u04 := u03.trans u4;exists ⟨by lia, by lia, ?_⟩;refine vN (n := o) (b := b) (dG K H4) (λxs => xs.length = n /\ ∀ x ∈ xs, Dr (max w 6) x) B4 (by lia) (λa u B => a.upto u B B4.at) (λ⟨q, e, _, _, g, _⟩ => ⟨q, e, by rw [g]; exact λz => nomatch z⟩) ?_ ?_
    · rintro s H' NY NN hi u B k1;exists ⟨b, n, w, rfl, B, by lia, w0, w1, λr xs H2 nr R lx dx B2 u2 => k1 _ xs _ u2 B2 ⟨lx, dx⟩ ⟨r, rfl, u.none B nr, R⟩ ⟨r, rfl, nr⟩⟩
    rintro vs looks H5 l nl u5 B5 gl ll ndl hl pr5 nx5;have u05 := u04.trans u5;have hm0 : H m = none := u02.none B2 nm0;have hp0 : H p = none := u03.none B3 np;have hl0 : H l = none := u04.none B4 nl;have mb : m ≠ b := λz => B2.at (by rw [<- z]; exact nm0)
    have pb : p ≠ b := λz => B3.at (by rw [<- z]; exact np)
    have lb : l ≠ b := λz => B4.at (by rw [<- z]; exact nl)
    have gm4 := u4.other mb gm;have gm5 := u5.other mb gm4;have gp5 := u5.other pb gp;have mp : m ≠ p := λz => by rw [z, np] at gm; cases gm
    have ml : m ≠ l := λz => by rw [z, nl] at gm4; cases gm4
    have pl : p ≠ l := λz => by rw [z, nl] at gp; cases gp
    have mq : m ≠ q0 := λz => Inner.at B2 (u02.2 _ I0) (by rw [<- z]; exact nm0)
    obtain ⟨A, eA⟩ : ∃ A : Addr → Prop, A = λq => H q = none /\ q ≠ m /\ q ≠ p /\ q ≠ l := ⟨_, rfl⟩
    have mkA : ∀ {q}, H q = none → q ≠ m → q ≠ p → q ≠ l → A q := λh1 h2 h3 h4 => by rw [eA]; exact ⟨h1, h2, h3, h4⟩
    have unA : ∀ {q}, A q → H q = none /\ q ≠ m /\ q ≠ p /\ q ≠ l := λh => by rw [eA] at h; exact h
    have MA : vb A m p l b q0 := ⟨λz => (unA z).2.1 rfl, λz => (unA z).2.2.1 rfl, λz => (unA z).2.2.2 rfl, λz => hB.at (unA z).1, (λz => by have z1 := (unA z).1; rw [gq0] at z1; cases z1), mb, pb, lb, mp, ml, mq⟩;clear eA;have lws : ws.length = i := by rw [<- pr4.length]; exact lp
    have lvs : vs.length = o := by rw [<- pr5.length]; exact ll
    have alM : ∀ q, V.ref q ∈ us → H3 q ≠ none /\ q ≠ b /\ H4 q ≠ none := λq hq => by
      obtain ⟨q', qs, e, ⟨a1, a2⟩, r, z⟩ := rm _ hq;cases e;have qb : q ≠ b := λy => B2.at (by rw [<- y]; exact a1)
      obtain ⟨xq, gq, _⟩ := id r;obtain ⟨xq4, gq4, _⟩ := r.upto u4 B3 qb;exact ⟨(by rw [gq]; exact λz => nomatch z), qb, (by rw [gq4]; exact λz => nomatch z)⟩
    have alP : ∀ q, V.ref q ∈ ws → H3 q = none /\ H4 q ≠ none := λq hq => by
      obtain ⟨_, _, q', e, a, _, g, _⟩ := cu pr4 hq;cases e;exact ⟨a, by rw [g]; exact λz => nomatch z⟩
    have alL : ∀ q, V.ref q ∈ vs → H4 q = none := λq hq => by
      obtain ⟨_, _, q', e, a, _⟩ := cu pr5 hq;cases e;exact a
    have isR : ∀ x, x ∈ us \/ x ∈ ws \/ x ∈ vs → ∃ q, x = V.ref q := λx hx => by
      rcases hx with hx | hx | hx
      · obtain ⟨q, _, e, _⟩ := rm x hx; exact ⟨q, e⟩
      · obtain ⟨_, _, q, e, _⟩ := cu pr4 hx; exact ⟨q, e⟩
      · obtain ⟨_, _, q, e, _⟩ := cu pr5 hx; exact ⟨q, e⟩
    have nd : (us ++ vs ++ ws).Nodup := by
      refine bo.mpr ⟨bo.mpr ⟨ndm, ndl, λx hx y hy e => ?_⟩, ndp, λx hx y hy e => ?_⟩
      · subst e;obtain ⟨q, rfl⟩ := isR x (.inl hx);exact (alM q hx).2.2 (alL q hy)
      · subst e;obtain ⟨q, rfl⟩ := isR x (.inr (.inl hy));rcases ar.mp hx with hx | hx
        · exact (alM q hx).1 (alP q hy).1
        · exact (alP q hy).2 (alL q hx)
    have X5 : zO K A n (Dr (max w 6)) m p l b q0 us ws vs H H5 := by
      refine ⟨⟨B5, u05.2 _ I0, gm5, gp5, gl, lm, λx hx => ?_, nd⟩, gp5, gl, λc u e n1 _ _ => u05.1 c u e n1⟩;rcases ar.mp hx with hx | hx
      · rcases ar.mp hx with hx | hx
        · obtain ⟨q, qs, e, ⟨a1, a2⟩, r, z⟩ := rm x hx;obtain ⟨xq, gq, _⟩ := id r;have qb : q ≠ b := λy => B2.at (by rw [<- y]; exact a1)
          have r4 := r.upto u4 B3 qb;obtain ⟨xq4, gq4, _⟩ := id r4;exact ⟨q, qs, e, mkA (u02.none B2 a1) a2 (λy => by rw [y, np] at gq; cases gq) (λy => by rw [y, nl] at gq4; cases gq4), r4.upto u5 B4 qb, z⟩
        · refine Cy (A := A) pr5 hl (λq hq a b' => ?_) x hx;exact mkA (u04.none B4 a) (λy => by rw [y, gm4] at a; cases a) (λy => by rw [y, gp] at a; cases a) (λy => mX nx5 (by rw [<- y]; exact hq))
      · refine dk.upto (Cy (A := A) pr4 hp (λq hq a b' => ?_) x hx) u5 B4 MA.ab;exact mkA (u03.none B3 a) (λy => by rw [y, gm] at a; cases a) (λy => mX nx4 (by rw [<- y]; exact hq)) (λy => b' (by rw [y]; exact nl))
    clear alM alP alL isR rm pr4 pr5 nx4 nx5 gm gm4 gm5 gp gp5 gl hp hl;exists ⟨by lia, by lia, ?_⟩;refine dC (n := n) (λkk σ' H' => (∃ x1 x2, σ' = [some (.ref b), some (.int n), some (.int i), some (.int o), some (.int w), some (.int way), some (.int first), some (.ref m), some (.ref p), some (.ref l), x1, x2]) /\ zO K A n (Dr (max w 6)) m p l b q0 us ws vs H H') ⟨⟨_, _, rfl⟩, X5⟩ ?_ ?_
    · rintro kk σ' Hj hk ⟨⟨x1, x2, rfl⟩, X⟩;exists ⟨⟨_, bB.of X.gp⟩, ?_⟩;refine ed (K := K) (a := p) (xs := ws) (λs σ' H' => (∃ x2, σ' = [some (.ref b), some (.int n), some (.int i), some (.int o), some (.int w), some (.int way), some (.int first), some (.ref m), some (.ref p), some (.ref l), some (.int kk), x2]) /\ zO K A n (Dr (max w 6)) m p l b q0 us ws vs H H') ⟨⟨_, rfl⟩, X⟩ (λs σ' H' _ ⟨_, e⟩ => bB.of e.gp) ?_ ?_
      · rintro s x σ' Hk hx ⟨⟨y2, rfl⟩, X⟩;have mx := aj hx;obtain ⟨q, _, rfl, _⟩ := X.row (.inl mx)
        repeat' (first | walk_at "rd" | refine eP (λ_ => ?_) (λ_ => ?_))
        all_goals first
          | exact ⟨⟨_, rfl⟩, X⟩
          | (refine bx λt Hb sb gb => ?_; walk_at "w"; obtain ⟨zs, gz, lz, Xz⟩ := (X.same sb).put MA (.inl mx) (bL.mk (q := 0) gb rfl) (mh (i := 0) (bJ _) W1) kk; refine dE gz (dQ (by lia)) rfl ?_; exact ⟨⟨_, rfl⟩, Xz⟩)
          | (refine ⟨b, 2, rfl, X.mix.bag, by decide, by decide, λd Hd d0 d1 Bd ud => ?_⟩
             replace X := X.upto MA ud Bd
             repeat' (first | walk_at "rd" | refine eP (λ_ => ?_) (λ_ => ?_))
             all_goals first
               | exact ⟨⟨_, rfl⟩, X⟩
               | (refine bx λt Hb sb gb => ?_
                  walk_at "w";obtain ⟨zs, gz, lz, Xz⟩ := (X.same sb).put MA (.inl mx) (bL.mk (q := 0) gb rfl) (mh (i := 0) (bJ _) W1) kk;refine dE gz (dQ (by lia)) rfl ?_;exact ⟨⟨_, rfl⟩, Xz⟩))
      · rintro σ' Hk ⟨⟨y2, rfl⟩, X⟩;exists ⟨⟨_, bB.of X.gl⟩, ?_⟩;refine ed (K := K) (a := l) (xs := vs) (λs σ' H' => (∃ x2, σ' = [some (.ref b), some (.int n), some (.int i), some (.int o), some (.int w), some (.int way), some (.int first), some (.ref m), some (.ref p), some (.ref l), some (.int kk), x2]) /\ zO K A n (Dr (max w 6)) m p l b q0 us ws vs H H') ⟨⟨_, rfl⟩, X⟩ (λs σ' H' _ ⟨_, e⟩ => bB.of e.gl) ?_ ?_
        · rintro s x σ' Hk hx ⟨⟨y2, rfl⟩, X⟩;have mx := aj hx;obtain ⟨q, _, rfl, _⟩ := X.row (.inr mx)
          repeat' (first | walk_at "rd" | refine eP (λ_ => ?_) (λ_ => ?_))
          all_goals first
            | exact ⟨⟨_, rfl⟩, X⟩
            | (refine bx λt Hb sb gb => ?_; walk_at "w"; obtain ⟨zs, gz, lz, Xz⟩ := (X.same sb).put MA (.inr mx) (bL.mk (q := 0) gb rfl) (mh (i := 0) (bJ _) W1) kk; refine dE gz (dQ (by lia)) rfl ?_; exact ⟨⟨_, rfl⟩, Xz⟩)
            | (refine ⟨b, 2, rfl, X.mix.bag, by decide, by decide, λd Hd d0 d1 Bd ud => ?_⟩
               replace X := X.upto MA ud Bd
               repeat' (first | walk_at "rd" | refine eP (λ_ => ?_) (λ_ => ?_))
               all_goals first
                 | exact ⟨⟨_, rfl⟩, X⟩
                 | (refine bx λt Hb sb gb => ?_
                    walk_at "w";obtain ⟨zs, gz, lz, Xz⟩ := (X.same sb).put MA (.inr mx) (bL.mk (q := 0) gb rfl) (mh (i := 0) (bJ _) W1) kk;refine dE gz (dQ (by lia)) rfl ?_;exact ⟨⟨_, rfl⟩, Xz⟩))
        · rintro σ' Hk ⟨⟨y2, rfl⟩, X⟩;exact ⟨⟨_, _, rfl⟩, X⟩
    · rintro σ' Hj ⟨⟨x1, x2, rfl⟩, X⟩
      obtain ⟨M1, M2, M3, V0, a1, a2, a3, V2, hcs, R1, R2, R3⟩ : ∃ M1 M2 M3 V0 : Nat, (0 < M1 /\ M1 ≤ 2 ^ 800) /\ (0 < M2 /\ M2 ≤ 2 ^ 800) /\ (0 < M3 /\ M3 ≤ 2 ^ 800) /\ V0 ≤ 2 ^ 20 /\ ((w ≤ 9 /\ M1 = 2520 /\ M2 = 2520 /\ M3 = 2520 /\ V0 = 9) \/ (9 < w /\ M1 ≤ 2 ^ (c * (n * n)) /\ M2 ≤ 2 ^ (c * (i * n)) /\ M3 ≤ 2 ^ (c * (o * n)) /\ V0 = 2 ^ c)) /\ (∀ x ∈ us, dk K A Hj n (Fr M1 V0) x) /\ (∀ x ∈ ws, dk K A Hj n (Fr M2 V0) x) /\ ∀ x ∈ vs, dk K A Hj n (Fr M3 V0) x := by
        by_cases w9 : w ≤ 9
        · have XM := X.mix.weak (C' := λ_ => Fr 2520 9) λ_ _ y h => uh ⟨ak h.1 (by lia), ak h.2 (by lia)⟩ (Nat.dvd_refl _)
          have z : 0 < 2520 /\ 2520 ≤ 2 ^ 800 := ⟨by decide, ak (show 2520 ≤ 2 ^ 12 by decide) (aD (by decide) (by decide))⟩;exact ⟨2520, 2520, 2520, 9, z, z, z, by decide, .inl ⟨w9, rfl, rfl, rfl, rfl⟩, λx hx => XM.row x (by simp [hx]), λx hx => XM.row x (by simp [hx]), λx hx => XM.row x (by simp [hx])⟩
        · obtain ⟨M1, M2, M3, a1, a2, a3, b1, b2, b3, R1, R2, R3⟩ := (X.mix.weak (C' := λ_ => Dr (2 ^ c)) λ_ _ y h => ⟨ak h.1 hc, ak h.2 hc⟩).fr3;rw [lws] at b2;rw [lvs] at b3;have up : ∀ {M k : Nat}, M ≤ 2 ^ (c * k) → k ≤ (n + i + o) * n → M ≤ 2 ^ 800 := λh hk => ak h (aD (by decide) (ak (d4 _ hk) hcM))
          exact ⟨M1, M2, M3, 2 ^ c, ⟨a1, up b1 (aP _ (by lia))⟩, ⟨a2, up b2 (aP _ (by lia))⟩, ⟨a3, up b3 (aP _ (by lia))⟩, aD (by decide) hc20, .inr ⟨by lia, b1, b2, b3, rfl⟩, R1, R2, R3⟩
      obtain ⟨μ, e2, e3, e1, e4⟩ := yh ws vs M1 M2 M3;obtain ⟨ap1, ap2⟩ := X.mix.apart
      have XM : gv K A Hj n (λx => Fr (μ x) V0) m p l b q0 us ws vs := by
        refine ⟨X.mix.bag, X.mix.inn, X.mix.gm, X.mix.gp, X.mix.gl, X.mix.lm, λx hx => ?_, X.mix.nd⟩;rcases ar.mp hx with hx | hx
        · rcases ar.mp hx with hx | hx
          · rw [e1 x (ap1 x hx).1 (ap1 x hx).2]; exact R1 x hx
          · rw [e3 x hx (ap2 x hx)]; exact R3 x hx
        · rw [e2 x hx]; exact R2 x hx
      have p1 : ∀ x, 0 < μ x := λx => by
        rcases e4 x with e | e | e
        · rw [e]; exact a1.1
        · rw [e]; exact a2.1
        · rw [e]; exact a3.1
      have p2 : ∀ x, μ x ≤ 2 ^ 800 := λx => by
        rcases e4 x with e | e | e
        · rw [e]; exact a1.2
        · rw [e]; exact a2.2
        · rw [e]; exact a3.2
      have gmj := X.mix.gm;exists ⟨b, m, p, l, q0, n, V0, μ, A, us, ws, vs, rfl, MA, XM, n8, by lia, by lia, p1, p2, ⟨M1, e1⟩, ak V2 (by decide), λq hq => ?_, λr us' H' g Y kp => ?_⟩
      · refine mkA ?_ (λz => by rw [z, gmj] at hq; cases hq) (λz => by rw [z, X.gp] at hq; cases hq) (λz => by rw [z, X.gl] at hq; cases hq);cases e : H q with
        | none => rfl
        | some u =>
          have := X.kp q u e (λz => X.mix.bag.at (by rw [<- z]; exact hq)) (λz => by have := (unA z).1; rw [e] at this; cases this) (λz => by rw [z, hm0] at e; cases e);rw [hq] at this; cases this
      · obtain ⟨yp1, yp2⟩ := Y.apart;obtain ⟨mv, Gm, lmv, hmv⟩ := eE (H0 := H) (n := n) (C := Fr M1 (9 ^ 3 * V0)) (m := n) ⟨us', Y.gm, Y.lm, MA.am, λx hx => by have := Y.row x (by simp [hx]); rwa [e1 x (yp1 x hx).1 (yp1 x hx).2] at this⟩ λq h => (unA h).1
        obtain ⟨pt, Gp, lpt, hpt⟩ := eE (H0 := H) (n := n) (C := Fr M2 (9 ^ 3 * V0)) (m := i) ⟨ws, Y.gp, lws, MA.ap, λx hx => by have := Y.row x (by simp [hx]); rwa [e2 x hx] at this⟩ λq h => (unA h).1
        obtain ⟨lk, Gl, llk, hlk⟩ := eE (H0 := H) (n := n) (C := Fr M3 (9 ^ 3 * V0)) (m := o) ⟨vs, Y.gl, lvs, MA.al, λx hx => by have := Y.row x (by simp [hx]); rwa [e3 x hx (yp2 x hx)] at this⟩ λq h => (unA h).1
        refine k r mv pt lk H' ⟨m, p, l, g, hm0, hp0, hl0, Gm, Gp, Gl⟩ lmv lpt llk ⟨by lia, by lia, by lia, λxs hx => by rw [(hmv xs hx).1, lmv], λxs hx => by rw [(hpt xs hx).1, lmv], λxs hx => by rw [(hlk xs hx).1, lmv]⟩ ⟨M1, M2, M3, 9 ^ 3 * V0, a1.1, a2.1, a3.1, λxs hx => (hmv xs hx).2, λxs hx => (hpt xs hx).2, λxs hx => (hlk xs hx).2, ?_⟩ Y.bag ⟨λc' u e n1 => (X.kp.trans kp) c' u e n1 (λz => by have := (unA z).1; rw [e] at this; cases this) (λz => by rw [z, hm0] at e; cases e), λq h => by rw [<- Inner.inj I0 h]; exact Y.inn⟩;rcases hcs with ⟨b1, b2, b3, b4, b5⟩ | ⟨b1, b2, b3, b4, b5⟩
        · exact .inl ⟨b1, b2, b3, b4, by rw [b5]⟩
        · exact .inr ⟨b1, b2, b3, b4, by rw [b5]⟩
theorem eS:br ["_law_bag_here","_law_n","_law_ins","_law_outs","_law_wide"] ["_law_bag_here"] (aL jR):=by walk_at "d"
theorem tN (T:Txt K mg Z):cC P w K mg base gV 6 Z.nE Z.m6 ["_law_bag_here"] (D8 K):=by
 refine T.jq.F.ok eS (λvs H Q E h=>?_) (λcdv A outer s H vs Q E hr h=>?_)
 ·obtain ⟨b,rfl,_⟩:=h;rfl
 ·obtain ⟨b,rfl,hB,k⟩:=h
  refine ⟨_,(ai (dJ (cn (uR T) hr T.j3 (aa (pv 0) ae)) (p6 rfl (ck (aK (i:=1) eS.nd) (ck (aK (i:=2) eS.nd) (ck (aK (i:=3) eS.nd) (ck (aK (i:=4) eS.nd) iU))))))
   (ai (cG (aX dh (cn (aO T) hr T.aI (aa (pv 0) (aa ag ae))) ag (bf _)) (ai (cG (aX dh (cn (aO T) hr T.aI (aa (pv 0) (aa ag ae))) ag (bf _)) (ax (be (bU (aa (cn (oJ T) hr T.gM (aa (pv 0) ae)) (aa ag ae))))) bH)
   (ax (be (bU (aa (cn (kJ T) hr T.gO (aa (pv 0) (aa (bC d9 ag (cn (aO T) hr T.aI (aa (pv 0) (aa ag ae)))) ae))) (aa ag ae)))))) bH)
   (ax (be (bU (aa (cn (jX T) hr T.fP (aa (pv 0) (aa (pv 1) (aa (pv 2) (aa (pv 3) (aa (pv 4) ae)))))) (aa (bE (mR rfl) (by rfl) T.min PyProof.Rows.boot_min (aa (pv 4) (aa ag ae))) ae))))))),?_⟩
  refine aZ (σ:=[some (.ref b),none,none,none,none]) rfl ?_;have sf:∀{mv pt lk:LR9} {M V1:Nat},0 < M->M<=2^400->V1<=2^30->GF M V1 mv->GF M V1 pt->GF M V1 lk->Kc mv pt lk:=λh0 h1 h2 a b c=>⟨_,_,h0,h1,ak h2 (aD (by decide) (by decide)),a,b,c⟩
  have et:∀{mv:LR9},(fH mv mv.length).length=mv.length:=hR;exists ⟨b,rfl,hB,λr n i o w H1 g1 n5 i4 o4 hw h5 B1 u1=>?_⟩;exists ⟨b,16,rfl,B1,by decide,by decide,λv H2 v0 v1 B2 u2=>?_⟩;have u02:=u1.trans u2;exists eP (λh0=>?_) (λh0=>?_)
  ·exists ⟨b,2,rfl,B2,by decide,by decide,λv2 H3 _ _ B3 u3=>?_⟩;have u03:=u02.trans u3;exists eP (λh1=>?_) (λh1=>?_)
   ·exists ⟨b,rfl,B3,λr4 mv pt lk H4 P4 l6 D fm fp fl B4 u4=>?_⟩;exists bx λt H5 s5 g5=>?_
    exact k t r4 4 mv pt lk H5 g5 ((P4.weak λq h=>u03.none B3 h).same s5) D (sf (by decide) nM (by decide) fm fp fl) (.inl ⟨by decide,by decide,by decide,by decide,by decide,fm,fp,ak (aP _ (show mv.length+4<=12 by have:=D.n8;lia)) (by decide)⟩) (.inl ⟨by decide,by decide,by decide,by decide,by decide,rQ fm,fl,ak (aP _ (show (fH mv mv.length).length+4<=12 by have:=D.n8;rw[et];lia)) (by decide)⟩) (by decide) (by decide) (B4.same s5) ((u03.trans u4).same s5)
   ·exists ⟨b,3,rfl,B3,by decide,by decide,λv3 H4 v30 v31 B4 u4=>?_⟩;obtain ⟨v3,rfl⟩:=bM v30;have u04:=u03.trans u4;walk_at "w";rw[show ((6:Int)+(v3:Int))=((6+v3:Nat):Int) by lia];refine ⟨b,6+v3,rfl,B4,by lia,by lia,λr4 mv pt lk H5 P5 lm _ _ D fm fp fl B5 u5=>?_⟩;exists bx λt H6 s6 g6=>?_
    exact k t r4 4 mv pt lk H6 g6 ((P5.weak λq h=>u04.none B4 h).same s6) D (sf (by decide) nM (by decide) fm fp fl) (.inl ⟨by decide,by decide,by decide,by decide,by decide,(λxs hx x hx'=>(fm xs hx x hx').mono (by decide)),(λxs hx x hx'=>(fp xs hx x hx').mono (by decide)),ak (aP _ (show mv.length+4<=12 by have:=D.n8;lia)) (by decide)⟩) (.inl ⟨by decide,by decide,by decide,by decide,by decide,rQ (λxs hx x hx'=>(fm xs hx x hx').mono (by decide)),(λxs hx x hx'=>(fl xs hx x hx').mono (by decide)),ak (aP _ (show (fH mv mv.length).length+4<=12 by have:=D.n8;rw[et];lia)) (by decide)⟩) (by decide) (by decide) (B5.same s6) ((u04.trans u5).same s6)
  ·obtain ⟨c,hc,hc20,hcM⟩:∃c:Nat,max w 6<=2^c/\c<=20/\c*((n+i+o)*n)<=800/\(9 < w->c=20/\(n+i+o)*n<=20/\n<=2):=by
    have m1:(n+i+o)*n<=13*5:=aR (by lia) n5;rcases hw with rfl | rfl | ⟨rfl,n2⟩
    ·exact ⟨4,by decide,by decide,by lia,λz=>by lia⟩
    ·exact ⟨4,by decide,by decide,by lia,λz=>by lia⟩
    ·have m2:(n+i+o)*n<=10*2:=aR (by lia) n2;exact ⟨20,by decide,by decide,by lia,λ_=>⟨rfl,by lia,n2⟩⟩
   obtain ⟨hcM,hbig⟩:=hcM;exists ⟨b,n,i,o,w,c,rfl,B2,by lia,i4,o4,by lia,by lia,hc,hc20,hcM,λr4 mv pt lk H4 P4 lm lp ll D PF B4 u4=>?_⟩;have hmin:(if (1000:Int) < (w:Int) then (1000:Int) else (w:Int))=((min w 1000:Nat):Int):=by split <;> lia
   have PG:=PF;obtain ⟨M,V1,M0,fm,fp,fl,hcs⟩:=PF.n
   have SF:Kc mv pt lk:=by
    rcases hcs with ⟨w9,rfl,rfl⟩ | ⟨w9,M1,rfl⟩
    ·exact sf (by decide) (ak (show 2520<=2^12 by decide) (aD (by decide) (by decide))) (by decide) fm fp fl
    ·obtain ⟨rfl,e1,e2⟩:=hbig w9;exact sf M0 (ak M1 (aD (by decide) (by lia))) (by decide) fm fp fl
   have RG:Rg mv pt (min w 1000):=by
    obtain ⟨M1,M2,M3,V1,a1,a2,a3,f1,f2,f3,hc'⟩:=PG;rcases hc' with ⟨w9,rfl,rfl,_,rfl⟩ | ⟨w9,b1,b2,_,rfl⟩
    ·exact .inr (.inl ⟨by lia,by lia,by decide,by decide,by decide,by decide,f1,f2,ak (aP _ (show mv.length+4<=9 by lia)) (by decide)⟩)
    ·obtain ⟨rfl,e1,e2⟩:=hbig w9;have q1:n*n<=2*2:=aR e2 e2;have q2:i*n<=4*2:=aR i4 e2;have w6:w=1000000:=by lia
     exact .inr (.inr ⟨by lia,by lia,M1,M2,a1,a2,ak b1 (aD (by decide) (by lia)),ak b2 (aD (by decide) (by lia)),f1,f2,ak (aP _ (show mv.length+4<=6 by lia)) (by decide)⟩)
   have RL:Rg (fH mv mv.length) lk (min w 1000):=by
    obtain ⟨M1,M2,M3,V1,a1,a2,a3,f1,f2,f3,hc'⟩:=PG;rcases hc' with ⟨w9,rfl,rfl,rfl,rfl⟩ | ⟨w9,b1,b2,b3,rfl⟩
    ·exact .inr (.inl ⟨by lia,by rw[et];lia,by decide,by decide,by decide,by decide,rQ f1,f3,ak (aP _ (show (fH mv mv.length).length+4<=9 by rw[et];lia)) (by decide)⟩)
    ·obtain ⟨rfl,e1,e2⟩:=hbig w9;have q1:n*n<=2*2:=aR e2 e2;have q2:o*n<=4*2:=aR o4 e2;have w6:w=1000000:=by lia
     exact .inr (.inr ⟨by lia,by rw[et];lia,M1,M3,a1,a3,ak b1 (aD (by decide) (by lia)),ak b3 (aD (by decide) (by lia)),rQ f1,f3,ak (aP _ (show (fH mv mv.length).length+4<=6 by rw[et];lia)) (by decide)⟩)
   exists bx λt H5 s5 g5=>?_
   rw[hmin] at g5;exact k t r4 (min w 1000) mv pt lk H5 g5 ((P4.weak λq h=>u02.none B2 h).same s5) D SF RG RL (by lia) (by lia) (B4.same s5) ((u02.trans u4).same s5)
theorem sV:br ["_law_grid"] ["_law_grid"] (aL jU):=by walk_at "d"
theorem eY (T:Txt K mg Z):cC P w K mg base gV 1 Z.nH Z.ng ["_law_grid"] (Ci K):=by
 refine T.dB.F.ok sV (λvs H Q E h=>?_) (λcdv A outer s H vs Q E hr h=>?_)
 ·obtain ⟨p,H0,rows,rfl,_⟩:=h;rfl
 ·obtain ⟨p,H0,rows,rfl,hp,hl,hm,k⟩:=h;refine ⟨_,(ax (be (bQ ["_law_row_here"] [] [] (bW (pv 0)) (λ_=>(aK (i:=0) (show ND9 ["_law_row_here"] by decide +kernel))) (λ_=>b0) (λ_=>(fw (j8 K (by rfl)) (by rfl) T.list PyProof.Rows.boot_list (aa (pv 0) ae)))))),?_⟩;refine aZ (σ:=[some (.ref p)]) rfl ?_;obtain ⟨xs,gx,qx,_⟩:=id hp;exists ⟨⟨_,bB.of gx⟩,?_⟩;refine zI (K:=K) (F:=dG K H0) id gx qx hl (λa b=>a.same b) ?_ ?_
  ·rintro i ns x H' NY NN en s ⟨u,rfl,_,zs,gz,qz⟩ k1;exists ⟨u,zs,rfl,.inl (bB.of gz),λl1 hl1=>?_⟩;exact k1 _ _ (aH.new hl1) hl1 ⟨zs,aJ,Paired.imp' (λ_ _ z=>z.same (aH.new hl1)) qz⟩
  ·rintro ys' H' r hr s g nd pr nx;rw[DL] at pr;exact k r ys' H' hr s g nd pr nx
theorem cz:br ["_law_bag_here","_law_parts_here","_law_move_here","_law_put","_law_look","_law_n","_law_unseen","_law_row_here"] ["_law_bag_here","_law_parts_here"] (aL kE):=by walk_at "d"
theorem uT (T:Txt K mg Z):cC P w K mg base gV 5 Z.pG Z.o9 ["_law_bag_here","_law_parts_here"] (Ce K):=by
 refine T.j5.F.ok cz (λvs H Q E h=>?_) (λcdv A outer s H vs Q E hr h=>?_)
 ·obtain ⟨b,r,H0,mv,pt,lk,O1,O2,O3,V0,rfl,_⟩:=h;rfl
 ·obtain ⟨b,r,H0,mv,pt,lk,O1,O2,O3,V0,rfl,hB,PQ,D,g7,k⟩:=h
  refine ⟨_,(ai (dJ (bQ ["_law_grid"] [] [] (ze (pv 1)) (λ_=>(aK (i:=0) (show ND9 ["_law_grid"] by decide +kernel))) (λ_=>b0) (λ_=>(cn (eY T) hr T.dB (aa (pv 0) ae)))) (CN rfl (ck (aK (i:=2) cz.nd) (ck (aK (i:=3) cz.nd) (ck (aK (i:=4) cz.nd) iU)))))
   (ai (aV (i:=5) cz.nd rfl (Or.inl rfl) (bE bq (by rfl) T.len bc (aa (pv 2) ae)))
   (ai (cG (aX oH (pv 5) ag (bf _)) (ax (be (cn (fO T) hr T.dY (aa (pv 0) (aa (pv 2) (aa (pv 3) (aa (pv 4) ae))))))) bH)
   (ai (aV (i:=6) cz.nd rfl (Or.inl rfl) (gI dh (cn (aO T) hr T.aI (aa (pv 0) (aa ag ae))) ag (bf _)))
   (ai (fU (oG b8 bZ bY fz (pv 2) (aa (bC jl (cn (jB T) hr T.fh (aa (pv 0) (aa (pv 5) (aa ag ae)))) (dM (aa (bU (aa ag (aa ag ae))) ae))) ae)))
   (ai (cZ PassesOwn.never rfl (bW (tE wB (pv 2) wM (wL (pv 5)))) (aK (i:=7) cz.nd)
    (ax (fU (oG b8 bZ bY fz (pv 7) (aa (bU (aa ag (aa ag ae))) ae)))))
   (ai (cZ PassesOwn.never rfl (bW (pv 3)) (aK (i:=7) cz.nd)
    (ax (fU (oG b8 bZ bY fz (pv 7) (aa (cn (jn T) hr T.fj (aa (pv 0) (aa ag ae))) ae)))))
   (ai (cZ PassesOwn.never rfl (bW (pv 4)) (aK (i:=7) cz.nd)
    (ax (fU (oG b8 bZ bY fz (pv 7) (aa (bU (aa ag (aa ag ae))) ae)))))
   (d8 (cG (og (oa (pv 6))) (ai (dJ (bC jl (bC zi (dM (aa (bU (aa ag (aa ag ae))) ae)) (pv 5)) (dM (aa (bU (aa ag (aa ag ae))) ae))) (eV (pv 2) (pv 5) set_list))
   (ai (cZ PassesOwn.never rfl (bW (bC jl (tE wB (pv 2) wM (wL (pv 5))) (pv 4))) (aK (i:=7) cz.nd)
    (ax (dJ (cn (jn T) hr T.fj (aa (pv 0) (aa ag ae))) (eV (pv 7) (pv 5) set_list))))
   (ax (cZ PassesOwn.never rfl (bW (pv 3)) (aK (i:=7) cz.nd)
    (ax (dJ (bU (aa ag (aa ag ae))) (eV (pv 7) (pv 5) set_list))))))) bH)
   (ax (be (cn (fO T) hr T.dY (aa (pv 0) (aa (pv 2) (aa (pv 3) (aa (pv 4) ae)))))))))))))))),?_⟩
  refine aZ (σ:=[some (.ref b),some (.ref r),none,none,none,none,none,none]) rfl ?_;obtain ⟨m0,p0,l0,gr,_,_,_,Gm,Gp,Gl⟩:=id PQ;obtain ⟨q0,I0,xs0,gq0⟩:=hB.inner;have n8:=D.n8;have i4:=D.i4;have o4:=D.o4;exists ⟨⟨_,iP.of gr⟩,?_⟩;refine uv (K:=K) (xs:=[.ref m0,.ref p0,.ref l0]) (Ke K H mv pt lk) (aU (bp (show 3<=1000 by decide))) ⟨rfl,rfl⟩ (λi ys H' hi c=>iP.of (ph c _ _ gr)) ?_ ?_
  ·rintro i x ys H' ex hlen c;have hi:i < 3:=(aF.mp ex).1;have s0:=ph c;rcases (show i=0\/i=1\/i=2 by lia) with rfl | rfl | rfl
   ·cases ex;obtain ⟨rfl,rfl⟩:=c;exists ⟨m0,H0,mv,rfl,Gm,by lia,λxs hx=>by rw[D.mw xs hx];lia,λa us H1 na s1 ga nd pa nx=>⟨a,us,rfl,na,ga,nd,pa,nx,s1⟩⟩
   ·cases ex;obtain ⟨m,us,rfl,c1⟩:=c;exists ⟨p0,H0,pt,rfl,Gp.same s0,by lia,λxs hx=>by rw[D.pw xs hx];lia,λa ws H1 na s1 ga nd pa nx=>⟨m,us,a,ws,H',rfl,c1,na,ga,nd,pa,nx,s1⟩⟩
   ·cases ex;obtain ⟨m,us,p,ws,Ha,rfl,c1,c2⟩:=c;exists ⟨l0,H0,lk,rfl,Gl.same s0,by lia,λxs hx=>by rw[D.lw xs hx];lia,λa vs H1 na s1 ga nd pa nx=>⟨m,us,p,ws,a,vs,Ha,H',rfl,c1,c2,na,ga,nd,pa,nx,s1⟩⟩
  rintro ys H1 hy ⟨m,us,p,ws,l,vs,Ha,Hb,rfl,c1,c2,c3⟩ tl ntl;obtain ⟨MA,μ,U,X⟩:=FK (q0:=q0) (M1:=2520*O1) (M2:=2520*O2) (M3:=2520*O3) (V9:=V0+9) hB I0 D c1 c2 c3 g7.g1 g7.g2 g7.g3 (cV ..) (cV ..) (cV ..) (by lia) (A4 g7.o1) (A4 g7.o2) (A4 g7.o3) (by have:=g7.v0;lia);have lus:=c1.2.2.2.1.length;have lws:=c2.2.2.2.1.length;have lvs:=c3.2.2.2.1.length;have hm0:=c1.1;have hp0:H p=none:=c1.2.2.2.2.2.none c2.1;have hl0:H l=none:=c1.2.2.2.2.2.none (c2.2.2.2.2.2.none c3.1);clear c1 c2 c3;have stl:aH H1 (upd H1 tl (.lst [.ref m,.ref p,.ref l])):=aH.new ntl;have gtl:(upd H1 tl (.lst [.ref m,.ref p,.ref l])) tl=some (.lst [.ref m,.ref p,.ref l]):=aJ;generalize upd H1 tl (.lst [.ref m,.ref p,.ref l])=H2 at stl gtl ⊢;replace X:=X.same stl;exists ⟨tl,_,rfl,bB.of gtl,rfl,?_⟩;clear gtl stl;have gmx:=X.gm;exists ⟨_,_,rfl,.inl (bB.of gmx),?_⟩;rw[<- lus];exists eP (λh7=>?_) (λh7=>?_)
  ·exists zo X MA U (λ_ _=>rfl) (by lia) I0 hm0 hp0 hl0 (by lia) (by lia) (by lia) λr' mv2 pt2 lk2 H' P' D' e1 e2 e3 f1 f2 f3 B' u'=>k r' mv2 pt2 lk2 H' P' D' (by lia) f1 f2 f3 B' u'
  have dv:=U.dv;have hn7:mv.length<=7:=by simp at h7;lia
  have v9:9<=V0+9:=by lia
  exists ⟨b,2,rfl,X.bag,by decide,by decide,λv H3 v0 v1 B3 u3=>?_⟩;replace X:=X.upto MA u3 B3;exists ⟨.inl ⟨rfl,_,bB.of X.gm⟩,?_⟩;exists ⟨b,mv.length,4,rfl,X.bag,by lia,by decide,by decide,λrr xs H4 n4 R4 lx dx B4 u4=>?_⟩;replace X:=X.upto MA u4 B4;obtain ⟨zs,gz,pz⟩:=id R4;have lzs:=pz.length;exists bx λt2 H5 s5 g5=>?_
  exists cS λl2 H6 s6 n6 g6=>?_
  exists ic ((s5.trans s6) _ _ gz) g6 (aU (bp (by rw[cp];lia))) λq7 H7 s7 n7 g7'=>?_
  have s57:=(s5.trans s6).trans s7;have a7:=(X.same (s5.trans s6)).new n7;have o7:=(X.same (s5.trans s6)).out n7
  have o71:V.ref q7∉ws/\V.ref q7∉vs/\V.ref q7∉us:=by
   simp only[ar,not_or] at o7;exact ⟨o7.2,o7.1.2,o7.1.1⟩
  have R7:dk K (A7 H m p l) H7 (mv.length+1) (Fr (μ (.ref q7)) (V0+9)) (.ref q7):=by
   refine ⟨q7,xs++[((2:Int):Rat)],rfl,a7,⟨_,g7',b6 (Paired.imp' (λ_ _ z=>z.same s57) pz) (.cons (bL.mk ((s6.trans s7) _ _ g5) rfl) .nil)⟩,by rw[aG,lx];rfl,λy hy=>?_⟩;rcases ar.mp hy with hy | hy
   ·exact zF (dx y hy) (dv _) v9
   ·rw[aQ.mp hy];exact Fr.int (by show 2<=V0+9;lia)
  replace X:=(X.same s57).weak (N':=mU [.ref q7] mv.length) (C':=λx=>Fr (μ x) (V0+9)) λx hx=>⟨(if_neg (λz=>o7 (by rw[<- aQ.mp z];exact hx))).symm,λ_ h=>h⟩
  have nd8:(us++[V.ref q7]++vs++ws).Nodup:=by
   have nd:=X.nd;simp only[cx] at nd ⊢;obtain ⟨a1,a2,a3⟩:=bo.mp nd;refine bo.mpr ⟨a1,bo.mpr ⟨by simp,a2,λa ha c hc z=>?_⟩,λa ha c hc z=>?_⟩
   ·rw[aQ.mp ha] at z;rw[<- z] at hc;rcases ar.mp hc with hc | hc
    ·exact o71.2.1 hc
    ·exact o71.1 hc
   ·rcases ar.mp hc with hc | hc
    ·rw[aQ.mp hc] at z;exact o71.2.2 (by rw[<- z];exact ha)
    ·exact a3 a ha c hc z
  have gmx:=X.gm;exists fu gmx (bp (by lia)) ?_
  replace X:=X.moved MA hm0 (us':=us++[.ref q7]) (λx hx=>by
   rcases ar.mp hx with hx | hx
   ·exact .inl hx
   ·rw[aQ.mp hx];exact .inr (by rw[show mU [V.ref q7] mv.length (V.ref q7)=mv.length+1 from if_pos (by simp)];exact R7)) nd8
  generalize upd H7 m (.lst (us++[.ref q7]))=H8 at X ⊢;clear R7 g7' gmx gz pz;exists CA (bB.of X.gm) λsl H9 s9 n9 g9=>?_
  have osl:=X.out n9;rw[DD (by rw[aG];lia),List.take_append_of_le_length (by lia),aw (by lia)] at g9;replace X:=X.same s9;exists ⟨⟨_,bB.of g9⟩,?_⟩;refine ed (K:=K) (a:=sl) (xs:=us) (λi σ' H'=>X7 K H H' m p l b q0 (mU ([.ref q7]++us.take i) mv.length) (λx=>Fr (μ x) (V0+9)) (us++[.ref q7]) ws vs/\H' sl=some (.lst us)/\∃y,σ'=[some (.ref b),some (.ref r),some (.ref m),some (.ref p),some (.ref l),some (.int mv.length),some (.bl (decide (v=0))),y]) ⟨by rw[nN,dU];exact X,g9,_,rfl⟩ (λi σ' H' _ ⟨_,g',_⟩=>bB.of g') ?_ ?_
  ·rintro i x σ' H' ex ⟨X',g',y,rfl⟩;have mx:=aj ex;have mm:x∈us++[V.ref q7]++vs++ws:=by simp [mx]
   have ns:x∉[V.ref q7]++us.take i:=λz=>by
    rcases ar.mp z with z | z
    ·rw[aQ.mp z] at mx;exact o71.2.2 mx
    ·exact kK ex (bo.mp (bo.mp (bo.mp nd8).1).1).1 z
   obtain ⟨q,zs,qs,rfl,aq,gz,lz,pz,lq,cq⟩:=(X'.row x mm).at;have lz9:zs.length<=9:=by rw[lz];unfold mU;split <;> lia
   exists ⟨.inl ⟨rfl,_,bB.of gz⟩,?_⟩;exists bx λt Hb sb gb=>?_
   exists fu (sb _ _ gz) (bp (by lia)) ?_;have Xn:=(X'.same sb).app (N':=mU ([.ref q7]++us.take i++[.ref q]) mv.length) MA mm (sb _ _ gz) (bL.mk (q:=0) gb rfl) Fr.zero (jc ns).1 (jc ns).2;exact ⟨by rw[take_snoc ex,<- cx];exact Xn,by rw[aN (λz=>osl (by rw[z];exact mm))];exact sb _ _ g',_,rfl⟩
  rintro σ' HA ⟨X,_,y,rfl⟩;rw[aw (ay _)] at X;clear g9 osl;walk_at "w"
  have nw:ws.Nodup/\vs.Nodup/\(∀x∈ws,x∉us/\x≠.ref q7/\x∉vs)/\∀x∈vs,x∉us/\x≠.ref q7/\x∉ws:=by
   obtain ⟨a1,a2,a3⟩:=bo.mp nd8;obtain ⟨b1,b2,b3⟩:=bo.mp a1;refine ⟨a2,b2,λx hx=>⟨λz=>a3 x (by simp [z]) x hx rfl,λz=>a3 x (by simp [z]) x hx rfl,λz=>a3 x (by simp [z]) x hx rfl⟩,λx hx=>⟨λz=>b3 x (by simp [z]) x hx rfl,λz=>b3 x (by simp [z]) x hx rfl,λz=>a3 x (by simp [hx]) x z rfl⟩⟩
  refine ⟨⟨_,bB.of X.gp⟩,?_⟩;refine ed (K:=K) (a:=p) (xs:=ws) (λi σ' H'=>X7 K H H' m p l b q0 (mU (([.ref q7]++us)++ws.take i) mv.length) (λx=>Fr (μ x) (V0+9)) (us++[.ref q7]) ws vs/\∃y,σ'=[some (.ref b),some (.ref r),some (.ref m),some (.ref p),some (.ref l),some (.int mv.length),some (.bl (decide (v=0))),y]) ⟨by rw[nN,dU];exact X,_,rfl⟩ (λi σ' H' _ ⟨X',_⟩=>bB.of X'.gp) ?_ ?_
  ·rintro i x σ' H' ex ⟨X',y,rfl⟩;have mx:=aj ex;have mm:x∈us++[V.ref q7]++vs++ws:=by simp [mx]
   have ns:x∉([V.ref q7]++us)++ws.take i:=λz=>by
    rcases ar.mp z with z | z
    ·rcases ar.mp z with z | z
     ·exact (nw.2.2.1 x mx).2.1 (aQ.mp z)
     ·exact (nw.2.2.1 x mx).1 z
    ·exact kK ex nw.1 z
   obtain ⟨q,zs,qs,rfl,aq,gz,lz,pz,lq,cq⟩:=(X'.row x mm).at;have lz9:zs.length<=9:=by rw[lz];unfold mU;split <;> lia
   exists ⟨.inl ⟨rfl,_,bB.of gz⟩,?_⟩;exists ⟨b,4,rfl,X'.bag,by decide,by decide,λrn xn Hb dn Nn Bb ub=>?_⟩;have gz':=ub.other (λz=>(X7.ne MA aq).1 z.symm) gz;exists fu gz' (bp (by lia)) ?_;have Xn:=(X'.upto MA ub Bb).app (N':=mU (([.ref q7]++us)++ws.take i++[.ref q]) mv.length) MA mm gz' Nn (zF dn (dv _) v9) (jc ns).1 (jc ns).2;exact ⟨by rw[take_snoc ex,<- cx];exact Xn,_,rfl⟩
  rintro σ' HB ⟨X,y,rfl⟩;rw[aw (ay _)] at X;exists ⟨⟨_,bB.of X.gl⟩,?_⟩;refine ed (K:=K) (a:=l) (xs:=vs) (λi σ' H'=>X7 K H H' m p l b q0 (mU ((([.ref q7]++us)++ws)++vs.take i) mv.length) (λx=>Fr (μ x) (V0+9)) (us++[.ref q7]) ws vs/\∃y,σ'=[some (.ref b),some (.ref r),some (.ref m),some (.ref p),some (.ref l),some (.int mv.length),some (.bl (decide (v=0))),y]) ⟨by rw[nN,dU];exact X,_,rfl⟩ (λi σ' H' _ ⟨X',_⟩=>bB.of X'.gl) ?_ ?_
  ·rintro i x σ' H' ex ⟨X',y,rfl⟩;have mx:=aj ex;have mm:x∈us++[V.ref q7]++vs++ws:=by simp [mx]
   have ns:x∉(([V.ref q7]++us)++ws)++vs.take i:=λz=>by
    rcases ar.mp z with z | z
    ·rcases ar.mp z with z | z
     ·rcases ar.mp z with z | z
      ·exact (nw.2.2.2 x mx).2.1 (aQ.mp z)
      ·exact (nw.2.2.2 x mx).1 z
     ·exact (nw.2.2.2 x mx).2.2 z
    ·exact kK ex nw.2.1 z
   obtain ⟨q,zs,qs,rfl,aq,gz,lz,pz,lq,cq⟩:=(X'.row x mm).at;have lz9:zs.length<=9:=by rw[lz];unfold mU;split <;> lia
   exists ⟨.inl ⟨rfl,_,bB.of gz⟩,?_⟩;exists bx λt Hb sb gb=>?_
   exists fu (sb _ _ gz) (bp (by lia)) ?_;have Xn:=(X'.same sb).app (N':=mU ((([.ref q7]++us)++ws)++vs.take i++[.ref q]) mv.length) MA mm (sb _ _ gz) (bL.mk (q:=0) gb rfl) Fr.zero (jc ns).1 (jc ns).2;exact ⟨by rw[take_snoc ex,<- cx];exact Xn,_,rfl⟩
  rintro σ' HC ⟨X,y,rfl⟩;rw[aw (ay _)] at X
  replace X:=X.weak (N':=λ_=>mv.length+1) (C':=λx=>Fr (μ x) (V0+9)) λx hx=>⟨if_pos (by
   simp only[ar] at hx ⊢;rcases hx with ((hx | hx) | hx) | hx
   ·exact .inl (.inl (.inr hx))
   ·exact .inl (.inl (.inl hx))
   ·exact .inr hx
   ·exact .inl (.inr hx)),λ_ h=>h⟩
  have lu9:(us++[V.ref q7]).length=mv.length+1:=by rw[aG,<- lus];rfl
  generalize us++[V.ref q7]=us9 at X lu9;clear nw nd8 o7 o71 a7;exists ⟨λσ' H'=>∃us' y,X7 K H H' m p l b q0 (λ_=>mv.length+1) (λx=>Fr (μ x) (V0+9)) us' ws vs/\us'.length=mv.length+1/\σ'=[some (.ref b),some (.ref r),some (.ref m),some (.ref p),some (.ref l),some (.int mv.length),some (.bl (decide (v=0))),y],?_,?_⟩
  rotate_left
  ·rintro σ' H' ⟨us',y,X',lu',rfl⟩;exists zo X' MA U (λ_ _=>rfl) lu' I0 hm0 hp0 hl0 (by lia) (by lia) (by lia) λr' mv2 pt2 lk2 H' P' D' e1 e2 e3 f1 f2 f3 B' u'=>k r' mv2 pt2 lk2 H' P' D' (by lia) f1 f2 f3 B' u'
  exists eP (λh0=>?_) (λh0=>?_)
  rotate_left
  ·exists ⟨us9,_,X,lu9,rfl⟩
  exists bx λta Ha sa ga=>?_
  exists cS λla Hb sb nb gb=>?_
  exists y9 (k:=mv.length) gb (by lia) λlc Hc sc nc gc=>?_
  exists bx λtd Hd sd gd=>?_
  exists cS λle He se ne ge=>?_
  exists ic ((sd.trans se) _ _ gc) ge (aU (bp (by rw[aT,cp];lia))) λqf Hf sf nf gf=>?_
  have sae:=(((sa.trans sb).trans sc).trans sd).trans se;have af:=(X.same sae).new nf;have oF:=(X.same sae).out nf;have gaf:=((((sb.trans sc).trans sd).trans se).trans sf) _ _ ga
  have Rf:dk K (A7 H m p l) Hf (mv.length+1) (Fr (μ (.ref qf)) (V0+9)) (.ref qf):=by
   refine ⟨qf,List.replicate mv.length 0++[((2:Int):Rat)],rfl,af,⟨_,gf,b6 (qB (bL.mk (q:=0) gaf rfl) _) (.cons (bL.mk ((se.trans sf) _ _ gd) rfl) .nil)⟩,by rw[aG,aT];rfl,λy hy=>?_⟩;rcases ar.mp hy with hy | hy
   ·rw[iR hy];exact Fr.zero
   ·rw[aQ.mp hy];exact Fr.int (by show 2<=V0+9;lia)
  replace X:=X.same (sae.trans sf);exists dE X.gm (dQ (by lia)) rfl ?_
  replace X:=X.moved MA hm0 (us':=us9.set mv.length (.ref qf)) (λx hx=>by
   rcases df hx with hx | hx
   ·exact .inl hx
   ·rw[hx];exact .inr Rf) (by
   have:=p9 X.nd oF mv.length;rwa [cx,List.set_append_left _ _ (by lia),<- cx] at this)
  have lu8:(us9.set mv.length (.ref qf)).length=mv.length+1:=by rw[lK];exact lu9
  generalize upd Hf m (.lst (us9.set mv.length (.ref qf)))=Hg at X ⊢;generalize us9.set mv.length (.ref qf)=us8 at X lu8;clear Rf gf oF af;exists CA (bB.of X.gm) λsl Hh sh nh gh=>?_
  rw[DD (by lia)] at gh;replace X:=X.same sh;exists ic gh X.gl (aU (bp (by rw[dq];lia))) λsl2 Hi si ni gi=>?_
  have osl:=X.out ni;have slb:sl2≠b:=λz=>X.bag.at (by rw[<- z];exact ni)
  replace X:=X.same si;exists ⟨⟨_,bB.of gi⟩,?_⟩;refine ed (K:=K) (a:=sl2) (xs:=us8.take mv.length++vs) (λi σ' H'=>X7 K H H' m p l b q0 (λ_=>mv.length+1) (λx=>Fr (μ x) (V0+9)) us8 ws vs/\H' sl2=some (.lst (us8.take mv.length++vs))/\∃y,σ'=[some (.ref b),some (.ref r),some (.ref m),some (.ref p),some (.ref l),some (.int mv.length),some (.bl (decide (v=0))),y]) ⟨X,gi,_,rfl⟩ (λi σ' H' _ ⟨_,g',_⟩=>bB.of g') ?_ ?_
  ·rintro i x σ' H' ex ⟨X',g',y,rfl⟩
   have mm:x∈us8++vs++ws:=by
    rcases ar.mp (aj ex) with z | z
    ·simp [dI z]
    ·simp [z]
   obtain ⟨q,zs,qs,rfl,aq,gz,lz,pz,lq,cq⟩:=(X'.row x mm).at;exists ⟨b,4,rfl,X'.bag,by decide,by decide,λrn xn Hb dn Nn Bb ub=>?_⟩;have gz':=ub.other (λz=>(X7.ne MA aq).1 z.symm) gz;exists dE gz' (dQ (by lia)) rfl ?_;exact ⟨(X'.upto MA ub Bb).put MA mm gz' Nn (zF dn (dv _) v9) _,by rw[aN (λz=>osl (by rw[z];exact mm))];exact ub.other slb g',_,rfl⟩
  rintro σ' Hj ⟨X,_,y,rfl⟩;clear gi osl slb gh;exists ⟨⟨_,bB.of X.gp⟩,?_⟩;refine ed (K:=K) (a:=p) (xs:=ws) (λi σ' H'=>X7 K H H' m p l b q0 (λ_=>mv.length+1) (λx=>Fr (μ x) (V0+9)) us8 ws vs/\∃y,σ'=[some (.ref b),some (.ref r),some (.ref m),some (.ref p),some (.ref l),some (.int mv.length),some (.bl (decide (v=0))),y]) ⟨X,_,rfl⟩ (λi σ' H' _ ⟨X',_⟩=>bB.of X'.gp) ?_ ?_
  rotate_left
  ·rintro σ' H' ⟨X',y,rfl⟩;exists ⟨us8,_,X',lu8,rfl⟩
  rintro i x σ' H' ex ⟨X',y,rfl⟩;have mm:x∈us8++vs++ws:=by simp [aj ex]
  obtain ⟨q,zs,qs,rfl,aq,gz,lz,pz,lq,cq⟩:=(X'.row x mm).at;exists bx λt Hb sb gb=>?_
  exists dE (sb _ _ gz) (dQ (by lia)) rfl ?_;exact ⟨(X'.same sb).put MA mm (sb _ _ gz) (bL.mk (q:=0) gb rfl) Fr.zero _,_,rfl⟩
  
theorem cX:br ["_law_bag_here","_law_parts_here","_law_way","_law_move_here","_law_put","_law_look","_law_n","_law_rows","_law_row_here","_law_at"] ["_law_bag_here","_law_parts_here"] (aL kB):=by walk_at "d"
theorem uS (T:Txt K mg Z):cC P w K mg base gV 6 Z.pC Z.oZ ["_law_bag_here","_law_parts_here"] (Cb K):=by
 refine T.j4.F.ok cX (λvs H Q E h=>?_) (λcdv A outer s H vs Q E hr h=>?_)
 ·obtain ⟨b,r,H0,mv,pt,lk,O1,O2,O3,V0,rfl,_⟩:=h;rfl
 ·obtain ⟨b,r,H0,mv,pt,lk,O1,O2,O3,V0,rfl,hB0,nb0,PQ0,D,C7,k⟩:=h
  refine ⟨_,(ai (aV (i:=2) cX.nd rfl (Or.inl rfl) (cn (aO T) hr T.aI (aa (pv 0) (aa ag ae))))
   (ai (dJ (bQ ["_law_grid"] [] [] (ze (pv 1)) (λ_=>(aK (i:=0) (show ND9 ["_law_grid"] by decide +kernel))) (λ_=>b0) (λ_=>(cn (eY T) hr T.dB (aa (pv 0) ae)))) (CN rfl (ck (aK (i:=3) cX.nd) (ck (aK (i:=4) cX.nd) (ck (aK (i:=5) cX.nd) iU)))))
   (ai (aV (i:=6) cX.nd rfl (Or.inl rfl) (bE bq (by rfl) T.len bc (aa (pv 3) ae)))
   (ai (cG (aX dh (pv 2) ag (bf _)) (ax (be (cn (fO T) hr T.dY (aa (pv 0) (aa (pv 3) (aa (pv 4) (aa (pv 5) ae))))))) bH)
   (d8 (cG (PW.pt (oC (PW.pt (eU (aX dh (pv 2) ag (bf _)) (fR (aX oH (pv 6) ag (bf _))))) (kH (PW.pt (eU (aX oH (pv 6) ag (bf _)) (fR (aX mV (pv 2) ag (bf _)))))))) (ai (aV (i:=7) cX.nd rfl (Or.inl rfl) (bC jl (bC jl (pv 3) (pv 4)) (pv 5)))
   (ai (aV (i:=8) cX.nd rfl (Or.inl rfl) (bg bz (pv 7) (bg bz (dM (aa (cn (aO T) hr T.aI (aa (pv 0) (aa (bE bq (by rfl) T.len bc (aa (pv 7) ae)) ae))) (aa (bC jV (pv 6) ag) ae))) (cn (aO T) hr T.aI (aa (pv 0) (aa ag ae))))))
   (ai (aV (i:=9) cX.nd rfl (Or.inl rfl) (cn (aO T) hr T.aI (aa (pv 0) (aa (pv 6) ae))))
   (ai (dJ (cn (iH T) hr T.ff (aa (bg bz (pv 8) (pv 9)) (aa (bU (aa ag (aa (bC d9 ag (cn (aO T) hr T.aI (aa (pv 0) (aa ag ae)))) ae))) ae))) (eV (pv 8) (pv 9) set_list))
   (ax (be (bU (aa (pv 3) (aa (pv 4) (aa (pv 5) ae)))))))))) bH)
   (ai (cG (aX dh (pv 2) ag (bf _)) (ax (be (cn (jX T) hr T.fP (aa (pv 0) (aa (cn (aO T) hr T.aI (aa (pv 0) (aa ag ae))) (aa (bE bq (by rfl) T.len bc (aa (pv 4) ae)) (aa (bE bq (by rfl) T.len bc (aa (pv 5) ae)) (aa ag ae)))))))) bH)
   (ai (cG (aX dh (pv 2) ag (bf _)) (ax (be (cn (jX T) hr T.fP (aa (pv 0) (aa (cn (aO T) hr T.aI (aa (pv 0) (aa ag ae))) (aa (cn (aO T) hr T.aI (aa (pv 0) (aa ag ae))) (aa (cn (aO T) hr T.aI (aa (pv 0) (aa ag ae))) (aa ag ae)))))))) bH)
   (ax (be (cn (uT T) hr T.j5 (aa (pv 0) (aa (pv 1) ae)))))))))))),?_⟩
  refine aZ (σ:=[some (.ref b),some (.ref r),none,none,none,none,none,none,none,none]) rfl ?_;have g7:=C7.1;exists ⟨b,6,rfl,hB0,by decide,by decide,λwy Hw wy0 wy1 hB uw=>?_⟩;have PQ:=PQ0.upto uw hB0 nb0;have kk:∀r' mv2 pt2 lk2 H',cR K Hw H' r' mv2 pt2 lk2->dD mv2 pt2 lk2->lH mv pt lk (mv.length+mv2.length)->lH mv2 pt2 lk2 (mv.length+mv2.length)->eQ H' b->cb b Hw H'->_:=λr' mv2 pt2 lk2 H' P' D' N1 N2 B' u'=>k r' mv2 pt2 lk2 H' (P'.weak λq hq=>uw.none hB hq) D' N1 N2 B' (uw.trans u')
  obtain ⟨m0,p0,l0,gr,_,_,_,Gm,Gp,Gl⟩:=id PQ;obtain ⟨q0,I0,xs0,gq0⟩:=hB.inner;have n8:=D.n8;have i4:=D.i4;have o4:=D.o4;exists ⟨⟨_,iP.of gr⟩,?_⟩;refine uv (K:=K) (xs:=[.ref m0,.ref p0,.ref l0]) (Ke K Hw mv pt lk) (aU (bp (show 3<=1000 by decide))) ⟨rfl,rfl⟩ (λi ys H' hi c=>iP.of (ph c _ _ gr)) ?_ ?_
  ·rintro i x ys H' ex hlen c;have hi:i < 3:=(aF.mp ex).1;have s0:=ph c;rcases (show i=0\/i=1\/i=2 by lia) with rfl | rfl | rfl
   ·cases ex;obtain ⟨rfl,rfl⟩:=c;exists ⟨m0,H0,mv,rfl,Gm,by lia,λxs hx=>by rw[D.mw xs hx];lia,λa us H1 na s1 ga nd pa nx=>⟨a,us,rfl,na,ga,nd,pa,nx,s1⟩⟩
   ·cases ex;obtain ⟨m,us,rfl,c1⟩:=c;exists ⟨p0,H0,pt,rfl,Gp.same s0,by lia,λxs hx=>by rw[D.pw xs hx];lia,λa ws H1 na s1 ga nd pa nx=>⟨m,us,a,ws,H',rfl,c1,na,ga,nd,pa,nx,s1⟩⟩
   ·cases ex;obtain ⟨m,us,p,ws,Ha,rfl,c1,c2⟩:=c;exists ⟨l0,H0,lk,rfl,Gl.same s0,by lia,λxs hx=>by rw[D.lw xs hx];lia,λa vs H1 na s1 ga nd pa nx=>⟨m,us,p,ws,a,vs,Ha,H',rfl,c1,c2,na,ga,nd,pa,nx,s1⟩⟩
  rintro ys H1 hy ⟨m,us,p,ws,l,vs,Ha,Hb,rfl,c1,c2,c3⟩ tl ntl;obtain ⟨MA,μ,U,X⟩:=FK (q0:=q0) (M1:=2520*O1) (M2:=2520*O2) (M3:=2520*O3) (V9:=V0+9) hB I0 D c1 c2 c3 g7.g1 g7.g2 g7.g3 (cV ..) (cV ..) (cV ..) (by lia) (A4 g7.o1) (A4 g7.o2) (A4 g7.o3) (by have:=g7.v0;lia);have lus:=c1.2.2.2.1.length;have lws:=c2.2.2.2.1.length;have lvs:=c3.2.2.2.1.length;have hm0:=c1.1;have hp0:Hw p=none:=c1.2.2.2.2.2.none c2.1;have hl0:Hw l=none:=c1.2.2.2.2.2.none (c2.2.2.2.2.2.none c3.1);clear c1 c2 c3;have stl:aH H1 (upd H1 tl (.lst [.ref m,.ref p,.ref l])):=aH.new ntl;have gtl:(upd H1 tl (.lst [.ref m,.ref p,.ref l])) tl=some (.lst [.ref m,.ref p,.ref l]):=aJ;generalize upd H1 tl (.lst [.ref m,.ref p,.ref l])=H2 at stl gtl ⊢;replace X:=X.same stl;exists ⟨tl,_,rfl,bB.of gtl,rfl,?_⟩;clear gtl stl;have gmx:=X.gm;exists ⟨_,_,rfl,.inl (bB.of gmx),?_⟩;rw[<- lus];exists eP (λh0=>?_) (λh0=>?_)
  ·exists zo X MA U (λ_ _=>rfl) (by lia) I0 hm0 hp0 hl0 (by lia) (by lia) (by lia) λr' mv2 pt2 lk2 H' P' D' e1 e2 e3 f1 f2 f3 B' u'=>kk r' mv2 pt2 lk2 H' P' D' (tU C7 (.inl (by lia)) (by lia)) (Af C7 (by lia) D'.n8 f1 f2 f3) B' u'
  walk_at "w";have upX:cb b Hw H2:=⟨λc u e n=>X.kp c u e n,λq h9=>by rw[<- Inner.inj I0 h9];exact X.inn⟩;refine ⟨λσ' H'=>H'=H2/\σ'=[some (.ref b),some (.ref r),some (.int wy),some (.ref m),some (.ref p),some (.ref l),some (.int mv.length),none,none,none],?_,?_⟩
  rotate_left
  ·rintro σ' H' ⟨rfl,rfl⟩;exists eP (λh2=>?_) (λh2=>?_)
   ·exists ⟨b,4,rfl,X.bag,by decide,by decide,λc H3 c0 c1 B3 u3=>?_⟩;obtain ⟨c,rfl⟩:=bM c0;have X3:=X.upto MA u3 B3;have uX:=upX.trans u3;exists ⟨_,_,rfl,.inl (bB.of X3.gp),?_⟩;exists ⟨_,_,rfl,.inl (bB.of X3.gl),?_⟩;exists ⟨b,c,ws.length,vs.length,4,3,rfl,B3,by lia,by lia,by lia,by decide,by decide,by decide,by decide,ak (d4 3 (aR (show c+ws.length+vs.length<=11 by lia) (show c<=3 by lia))) (by decide),λr' mv2 pt2 lk2 H' P' l1 l2 l3 D' PG B' u'=>kk r' mv2 pt2 lk2 H' (P'.weak λq hq=>uX.none B3 hq) D' (tU C7 (.inr (by lia)) (by lia)) (Fy PG l1 (by lia) (by lia)) B' (uX.trans u')⟩
   exists eP (λh3=>?_) (λh3=>?_)
   ·exists ⟨b,3,rfl,X.bag,by decide,by decide,λc H3 c0 c1 B3 u3=>?_⟩;obtain ⟨c,rfl⟩:=bM c0;exists ⟨b,3,rfl,B3,by decide,by decide,λi5 H4 i0 i1 B4 u4=>?_⟩;obtain ⟨i5,rfl⟩:=bM i0;exists ⟨b,3,rfl,B4,by decide,by decide,λo5 H5 o0 o1 B5 u5=>?_⟩;obtain ⟨o5,rfl⟩:=bM o0;have uX:=((upX.trans u3).trans u4).trans u5;exists ⟨b,c,i5,o5,4,3,rfl,B5,by lia,by lia,by lia,by decide,by decide,by decide,by decide,ak (d4 3 (aR (show c+i5+o5<=11 by lia) (show c<=3 by lia))) (by decide),λr' mv2 pt2 lk2 H' P' l1 l2 l3 D' PG B' u'=>kk r' mv2 pt2 lk2 H' (P'.weak λq hq=>uX.none B5 hq) D' (tU C7 (.inr (by lia)) (by lia)) (Fy PG l1 (by lia) (by lia)) B' (uX.trans u')⟩
   exists ⟨b,r,H0,mv,pt,lk,O1,O2,O3,V0,rfl,X.bag,PQ.upto upX hB nb0,D,g7,λr' mv2 pt2 lk2 H' P' D' ln f1 f2 f3 B' u'=>kk r' mv2 pt2 lk2 H' (P'.weak λq hq=>upX.none X.bag hq) D' (tU C7 (.inl ln) D'.n8) (Af C7 ln D'.n8 f1 f2 f3) B' (upX.trans u')⟩
  have X9:=X;exists eP (λh1=>?_) (λh1=>?_)
  ·exists eP (λh5=>?_) (λh5=>?_)
   ·have hn0:0 < mv.length:=by simp at h5;lia
    exists ic X.gm X.gp (aU (bp (by lia))) λla Ha sa na ga=>?_
    exists ic ga (sa _ _ X.gl) (aU (bp (by rw[aG];lia))) λlb Hb sb nb gb=>?_
    have lr:(us++ws++vs).length=us.length+ws.length+vs.length:=by rw[aG,aG]
    have lbb:lb≠b:=λz=>(X.same sa).bag.at (by rw[<- z];exact nb)
    have X:=((X.same sa).same sb).weak (N':=λ_=>mv.length) (C':=λx=>Fr (μ x) (V0+18)) λx hx=>⟨rfl,λy h=>h.mono (by lia)⟩
    have X9:=((X9.same sa).same sb);exists ⟨_,_,rfl,.inl (bB.of gb),?_⟩;exists ⟨b,((us++ws++vs).length:Nat),rfl,X.bag,by lia,by lia,λi1 Hc i10 i11 Bc uc=>?_⟩;have gb:=uc.other lbb gb;have X:=X.upto MA uc Bc;have X9:=X9.upto MA uc Bc;exists cS λld Hd sd nd gd=>?_
    have ldb:ld≠b:=λz=>X.bag.at (by rw[<- z];exact nd)
    exists ⟨b,2,rfl,(X.same sd).bag,by decide,by decide,λi2 He i20 i21 Be ue=>?_⟩;have gd:=ue.other ldb gd;have gb:=ue.other lbb (sd _ _ gb);have X:=(X.same sd).upto MA ue Be;have X9:=(X9.same sd).upto MA ue Be;obtain ⟨z,ez,mz,_⟩:=fk (xs:=[V.int i1,V.int ((mv.length:Int) - 1)]) i20 (by simpa using i21);refine bT (bB.of gd) ez ?_
    obtain ⟨j,rfl,j0,j1⟩:∃j:Int,z=.int j/\0<=j/\j < (us++ws++vs).length:=by
     simp only[az,aB,or_false] at mz;rcases mz with rfl | rfl
     ·exact ⟨_,rfl,i10,i11⟩
     ·exact ⟨_,rfl,by lia,by lia⟩
    obtain ⟨x,ex,mx,_⟩:=fk (xs:=us++ws++vs) j0 j1;exists bT (bB.of gb) ex ?_
    have mm:x∈us++vs++ws:=by
     simp only[ar] at mx ⊢;rcases mx with (mx | mx) | mx
     ·exact .inl (.inl mx)
     ·exact .inr mx
     ·exact .inl (.inr mx)
    obtain ⟨q,zs,qs,rfl,aq,gz,lz,pz,lq,cq⟩:=(X9.row x mm).at;clear X9 gd ez mz;have qb:q≠b:=λz=>(X7.ne MA aq).1 z.symm
    exists ⟨b,mv.length,rfl,X.bag,by lia,by lia,λat9 Hf at0 at1 Bf uf=>?_⟩;obtain ⟨at9,rfl⟩:=bM at0;have gz:=uf.other qb gz;have X:=X.upto MA uf Bf;obtain ⟨yq,yv,eyq,eyv,myq,Ny⟩:=dz pz (i:=at9) (by lia);have Ny:=Ny.upto uf Be;exists bT (bB.of gz) (cM eyv) ?_;exists ⟨b,3,rfl,X.bag,by decide,by decide,λv3 Hg v30 v31 Bg ug=>?_⟩;have gz:=ug.other qb gz;have X:=X.upto MA ug Bg;have Ny:=Ny.upto ug Bf;exists bx λt Hh sh gh=>?_
    obtain ⟨y3,N3,f3⟩:=BN (K:=K) gh v30 (by lia);have fy:=cq yq myq;have m8:0 < μ (.ref q)/\μ (.ref q)<=2^800:=U.all _;exists ⟨_,_,yq,y3,rfl,Ny.same sh,N3,rX fy m8.1 m8.2 U.v4,rX (f3 _ (U.dv _)) m8.1 m8.2 (by decide),λrs Hi si Ns=>?_⟩;have s2:=sh.trans si;have gz:=s2 _ _ gz;exists dE gz (dQ (by lia)) rfl ?_;have X:=(X.same s2).put MA mm gz Ns ((Fr.add fy (f3 _ (U.dv _))).mono (by lia)) at9;generalize upd Hi q (.lst (zs.set at9 (.ref rs)))=Hj at X ⊢;exists bx λtr Hk sk gk=>?_
    have X:=X.same sk;obtain ⟨mv2,pt2,lk2,P',D',e1,e2,e3,f1,f2,f3'⟩:=CY (H:=Hw) (X.mix (n:=mv.length) (λ_ _=>rfl) (by lia)) U MA (λq z=>z.1) hm0 hp0 hl0 (by lia) (by lia) (by lia) gk;have up7:∀{M:Nat} {rows:LR9},GF M (V0+18) rows->GF M (9^3*(V0+9)) rows:=λh xs hx y hy=>(h xs hx y hy).mono (by lia)
    exact kk tr mv2 pt2 lk2 Hk P' D' (tU C7 (.inl (by lia)) (by lia)) (Af C7 (by lia) D'.n8 (up7 f1) (up7 f2) (up7 f3')) X.bag ⟨λc u e n=>X.kp c u e n,λq h9=>by rw[<- Inner.inj I0 h9];exact X.inn⟩
   ·exists eP (λh6=>?_) (λh6=>?_)
    ·simp at h5 h6;rw[h5] at h6;simp at h6
    exists ⟨rfl,rfl⟩
  exists eP (λh5=>?_) (λh5=>?_)
  ·exists eP (λh6=>?_) (λh6=>?_)
   ·have hn0:0 < mv.length:=by simp at h5;lia
    exists ic X.gm X.gp (aU (bp (by lia))) λla Ha sa na ga=>?_
    exists ic ga (sa _ _ X.gl) (aU (bp (by rw[aG];lia))) λlb Hb sb nb gb=>?_
    have lr:(us++ws++vs).length=us.length+ws.length+vs.length:=by rw[aG,aG]
    have lbb:lb≠b:=λz=>(X.same sa).bag.at (by rw[<- z];exact nb)
    have X:=((X.same sa).same sb).weak (N':=λ_=>mv.length) (C':=λx=>Fr (μ x) (V0+18)) λx hx=>⟨rfl,λy h=>h.mono (by lia)⟩
    have X9:=((X9.same sa).same sb);exists ⟨_,_,rfl,.inl (bB.of gb),?_⟩;exists ⟨b,((us++ws++vs).length:Nat),rfl,X.bag,by lia,by lia,λi1 Hc i10 i11 Bc uc=>?_⟩;have gb:=uc.other lbb gb;have X:=X.upto MA uc Bc;have X9:=X9.upto MA uc Bc;exists cS λld Hd sd nd gd=>?_
    have ldb:ld≠b:=λz=>X.bag.at (by rw[<- z];exact nd)
    exists ⟨b,2,rfl,(X.same sd).bag,by decide,by decide,λi2 He i20 i21 Be ue=>?_⟩;have gd:=ue.other ldb gd;have gb:=ue.other lbb (sd _ _ gb);have X:=(X.same sd).upto MA ue Be;have X9:=(X9.same sd).upto MA ue Be;obtain ⟨z,ez,mz,_⟩:=fk (xs:=[V.int i1,V.int ((mv.length:Int) - 1)]) i20 (by simpa using i21);refine bT (bB.of gd) ez ?_
    obtain ⟨j,rfl,j0,j1⟩:∃j:Int,z=.int j/\0<=j/\j < (us++ws++vs).length:=by
     simp only[az,aB,or_false] at mz;rcases mz with rfl | rfl
     ·exact ⟨_,rfl,i10,i11⟩
     ·exact ⟨_,rfl,by lia,by lia⟩
    obtain ⟨x,ex,mx,_⟩:=fk (xs:=us++ws++vs) j0 j1;exists bT (bB.of gb) ex ?_
    have mm:x∈us++vs++ws:=by
     simp only[ar] at mx ⊢;rcases mx with (mx | mx) | mx
     ·exact .inl (.inl mx)
     ·exact .inr mx
     ·exact .inl (.inr mx)
    obtain ⟨q,zs,qs,rfl,aq,gz,lz,pz,lq,cq⟩:=(X9.row x mm).at;clear X9 gd ez mz;have qb:q≠b:=λz=>(X7.ne MA aq).1 z.symm
    exists ⟨b,mv.length,rfl,X.bag,by lia,by lia,λat9 Hf at0 at1 Bf uf=>?_⟩;obtain ⟨at9,rfl⟩:=bM at0;have gz:=uf.other qb gz;have X:=X.upto MA uf Bf;obtain ⟨yq,yv,eyq,eyv,myq,Ny⟩:=dz pz (i:=at9) (by lia);have Ny:=Ny.upto uf Be;exists bT (bB.of gz) (cM eyv) ?_;exists ⟨b,3,rfl,X.bag,by decide,by decide,λv3 Hg v30 v31 Bg ug=>?_⟩;have gz:=ug.other qb gz;have X:=X.upto MA ug Bg;have Ny:=Ny.upto ug Bf;exists bx λt Hh sh gh=>?_
    obtain ⟨y3,N3,f3⟩:=BN (K:=K) gh v30 (by lia);have fy:=cq yq myq;have m8:0 < μ (.ref q)/\μ (.ref q)<=2^800:=U.all _;exists ⟨_,_,yq,y3,rfl,Ny.same sh,N3,rX fy m8.1 m8.2 U.v4,rX (f3 _ (U.dv _)) m8.1 m8.2 (by decide),λrs Hi si Ns=>?_⟩;have s2:=sh.trans si;have gz:=s2 _ _ gz;exists dE gz (dQ (by lia)) rfl ?_;have X:=(X.same s2).put MA mm gz Ns ((Fr.add fy (f3 _ (U.dv _))).mono (by lia)) at9;generalize upd Hi q (.lst (zs.set at9 (.ref rs)))=Hj at X ⊢;exists bx λtr Hk sk gk=>?_
    have X:=X.same sk;obtain ⟨mv2,pt2,lk2,P',D',e1,e2,e3,f1,f2,f3'⟩:=CY (H:=Hw) (X.mix (n:=mv.length) (λ_ _=>rfl) (by lia)) U MA (λq z=>z.1) hm0 hp0 hl0 (by lia) (by lia) (by lia) gk;have up7:∀{M:Nat} {rows:LR9},GF M (V0+18) rows->GF M (9^3*(V0+9)) rows:=λh xs hx y hy=>(h xs hx y hy).mono (by lia)
    exact kk tr mv2 pt2 lk2 Hk P' D' (tU C7 (.inl (by lia)) (by lia)) (Af C7 (by lia) D'.n8 (up7 f1) (up7 f2) (up7 f3')) X.bag ⟨λc u e n=>X.kp c u e n,λq h9=>by rw[<- Inner.inj I0 h9];exact X.inn⟩
   exists ⟨rfl,rfl⟩
  exists ⟨rfl,rfl⟩
  
theorem wC:br ["thing","at","most"] ["thing","at","most"] (aL lQ):=by walk_at "d"
theorem kI (T:Txt K mg Z):cC P w K mg base gV 1 Z.qV Z.qI ["thing","at","most"] zX:=by
 refine T.gK.F.ok wC (λvs H Q E h=>?_) (λcdv A outer s H vs Q E hr h=>?_)
 ·obtain ⟨p,xs,a,m,rfl,_⟩:=h;rfl
 ·obtain ⟨p,xs,a,m,rfl,gx,hm,k⟩:=h
  refine ⟨_,(ai (cG (og (oa (tF rfl T.isinstance PyProof.Rows.boot_list T.list (pv 0)))) (ax CK) bH)
   (ax (cG (aX oH (bE bq (by rfl) T.len bc (aa (pv 0) ae)) (pv 2) (bf _)) (ax CK) bH))),?_⟩
  refine aZ (σ:=[some (.ref p),some (.int a),some (.int m)]) rfl ?_;exists ⟨_,_,.lst gx,rfl,?_⟩;exists ⟨_,_,rfl,.inl (bB.of gx),?_⟩;walk_at "w";rw[decide_eq_false (show ¬m < (xs.length:Int) by lia)];exists k
theorem xQ:br ["thing"] ["thing"] (aL nU):=by walk_at "d"
theorem qE (T:Txt K mg Z):cC P w K mg base gV 1 Z.uE Z.uj ["thing"] AL:=by
 refine T.jD.F.ok xQ (λvs H Q E h=>?_) (λcdv A outer s H vs Q E hr h=>?_)
 ·obtain ⟨i,rfl,_⟩:=h;rfl
 ·obtain ⟨i,rfl,k⟩:=h;refine ⟨_,(ax (be (zh (tF rfl T.isinstance PyProof.Rows.boot_int T.int (pv 0)) (zf (GO (tF rfl T.isinstance PyProof.Rows.boot_bool T.bool (pv 0))))))),?_⟩;refine aZ (σ:=[some (.int i)]) rfl ?_;exists ⟨_,_,.int i,rfl,?_⟩;exists ⟨_,_,.int i,rfl,?_⟩;exists k
theorem eR:br ["one","other","rest"] ["one","other"] (aL ia):=by walk_at "d"
theorem gJ (T:Txt K mg Z):cC P w K mg base gV 1 Z.km Z.kh ["one","other"] IA:=by
 refine T.dO.F.ok eR (λvs H Q E h=>?_) (λcdv A outer s H vs Q E hr h=>?_)
 ·obtain ⟨a,b,rfl,_⟩:=h;rfl
 ·obtain ⟨a,b,rfl,k⟩:=h
  refine ⟨_,(ai (xX PassesOwn.never (aX vw (pv 1) ag (bf _))
    (ai (aV (i:=2) eR.nd rfl (Or.inl rfl) (bC EJ (pv 0) (pv 1)))
   (ai (aV (i:=0) eR.nd rfl (Or.inl rfl) (pv 1))
   (ax (aV (i:=1) eR.nd rfl (Or.inl rfl) (pv 2))))))
   (ax (be (bE uB (by rfl) T.abs PyProof.Rows.boot_abs (aa (pv 0) ae))))),?_⟩
  refine aZ (σ:=[some (.int a),some (.int b),none]) rfl ?_;exists zT (λσ' H'=>∃(u v:Int) (r:Option V),σ'=[some (.int u),some (.int v),r]/\H'=H/\Int.gcd u v=Int.gcd a b) (λσ' _=>match σ' with | [_,some (.int v),_]=>v.natAbs | _=>0) ⟨a,b,none,rfl,rfl,rfl⟩ ?_;rintro σ' H' ⟨u,v,r,rfl,rfl,hg⟩;exists eP (λh=>?_) (λh=>?_)
  ·have hv:v≠0:=λz=>by subst z;simp at h
   exists ie (show v≠0 from hv) ?_;exists ⟨⟨v,u.fmod v,_,rfl,rfl,(Dk u v).trans hg⟩,ET u v hv⟩
  ·have hv:v=0:=by
    by_cases z:v=0
    ·exact z
    ·exfalso;apply h;simp [z]
   subst hv;walk_at "w"
   have e:(if u < 0 then -u else u)=g a b:=by
    unfold g;rw[<- hg,Int.gcd_zero_right]
    split <;> lia
   rw[e];exact k
theorem wF:br ["thing"] ["thing"] (aL lS):=by walk_at "d"
theorem wO (T:Txt K mg Z):cC P w K mg base gV 2 Z.qX Z.qK ["thing"] (AO K):=by
 refine T.kP.F.ok wF (λvs H Q E h=>?_) (λcdv A outer s H vs Q E hr h=>?_)
 ·obtain ⟨x,n,rfl,_⟩:=h;rfl
 ·obtain ⟨x,n,rfl,⟨p,rfl,hp⟩,hn,k⟩:=h
  refine ⟨_,(ai (cG (PW.pt (oC (og (oa (EG rfl T.isinstance PyProof.Rows.boot_tuple T.tuple (pv 0)))) (kH (aX vw (bE bq (by rfl) T.len bc (aa (pv 0) ae)) ag (bf _))))) (ax (be tG)) bH)
   (ai (cG (PW.pt (oC (og (oa (cn (qE T) hr T.jD (aa (bg bX (pv 0) ag) ae)))) (kH (og (oa (cn (qE T) hr T.jD (aa (bg bX (pv 0) ag) ae))))))) (ax (be tG)) bH)
   (ax (be (zh (gI vA (bg bX (pv 0) ag) ag (bf _)) (zf (gI dh (cn (gJ T) hr T.dO (aa (bg bX (pv 0) ag) (aa (bg bX (pv 0) ag) ae))) ag (bf _)))))))),?_⟩
  refine aZ (σ:=[some (.ref p)]) rfl ?_;obtain ⟨hb,hg,s1,s2⟩:=hn;exists .inr ⟨p,_,_,rfl,hp,rfl,?_⟩;exists ⟨_,_,rfl,.inr hp,?_⟩;walk_at "w"
  try refine Ho ?_
  exists ⟨n.1,rfl,?_⟩;exists ⟨n.2,rfl,?_⟩;walk_at "w";rw[decide_eq_true (show (1:Int)<=n.2 by lia)];exists ⟨n.1,n.2,rfl,?_⟩;walk_at "w";have e:g n.1 n.2=1:=by unfold g;rw[hg];rfl
  rw[e,decide_eq_true rfl];exact k _ (aH.refl _)
theorem AR:br ["thing","many"] ["thing","many"] (aL tj):=by walk_at "d"
theorem A1 (T:Txt K mg Z):cC P w K mg base gV 3 Z.yG Z.yx ["thing","many"] (vo K):=by
 refine T.qe.F.ok AR (λvs H Q E h=>?_) (λcdv A outer s H vs Q E hr h=>?_)
 ·obtain ⟨p,ns,rfl,_⟩:=h;rfl
 ·obtain ⟨p,ns,rfl,hp,hl,hn,k⟩:=h
  refine ⟨_,(ai (cG (PW.pt (oC (og (oa (tF rfl T.isinstance PyProof.Rows.boot_list T.list (pv 0)))) (kH (aX vw (bE bq (by rfl) T.len bc (aa (pv 0) ae)) (pv 1) (bf _))))) (ax (be tG)) bH)
   (ax (be (bE (DH rfl) (by rfl) T.all PyProof.Rows.boot_all (aa (bQ ["value"] [] [] (bW (pv 0)) (λ_=>(aK (i:=0) (show ND9 ["value"] by decide +kernel))) (λ_=>b0) (λ_=>(cn (wO T) hr T.kP (aa (pv 0) ae)))) ae))))),?_⟩
  refine aZ (σ:=[some (.ref p),some (.int ns.length)]) rfl ?_;obtain ⟨xs,gx,qx⟩:=id hp;have lx:=qx.length;exists ⟨_,_,.lst gx,rfl,?_⟩;exists ⟨_,_,rfl,.inl (bB.of gx),?_⟩;walk_at "w";rw[show ((xs.length:Nat):Int)=(ns.length:Nat) by rw[lx],decide_eq_true rfl];exists ⟨⟨_,bB.of gx⟩,?_⟩;refine gD (K:=K) (xs:=xs) (λi ys H'=>aH H H'/\ys=List.replicate i (.bl true)) (aU (bp (by lia))) ⟨aH.refl _,rfl⟩ (λi ys H' _ ⟨s,_⟩=>bB.of (s _ _ gx)) ?_ ?_
  ·rintro i x ys H' hx hlen ⟨s,rfl⟩;obtain ⟨n,en,z⟩:=cO qx hx;exists ⟨x,n,rfl,s.num z,hn n (aj en),λH2 s2=>⟨s.trans s2,by rw[List.replicate_succ']⟩⟩
  ·rintro ys H' hy ⟨s,rfl⟩ l hl';exists ⟨l,List.replicate xs.length true,rfl,bB.of (by rw[aJ];simp),?_⟩;have e4:(List.replicate xs.length true).all id=true:=by simp
   rw[e4];exact k _ (s.trans (aH.new hl'))
theorem jh:br ["things","wide","place","thing"] ["things","wide"] (aL jQ):=by walk_at "d"
theorem jm (T:Txt K mg Z):cC P w K mg base gV 4 Z.nD Z.m4 ["things","wide"] (z5 K):=by
 refine T.eZ.F.ok jh (λvs H Q E h=>?_) (λcdv A outer s H vs Q E hr h=>?_)
 ·obtain ⟨p,H0,rows,w,rfl,_⟩:=h;rfl
 ·obtain ⟨p,H0,rows,w,rfl,hp,hl,hw,hn,k⟩:=h
  refine ⟨_,(ai (cZ PassesOwn.never rfl (ED rfl T.enumerate (aa (pv 0) ae)) (p6 rfl (ck (aK (i:=2) jh.nd) (ck (aK (i:=3) jh.nd) iU)))
    (ax (cG (og (oa (cn (A1 T) hr T.qe (aa (pv 3) (aa (pv 1) ae))))) (ax CK) bH)))
   (ax (be (bQ ["row"] [] [] (bW (pv 0)) (λ_=>(aK (i:=0) (show ND9 ["row"] by decide +kernel))) (λ_=>b0) (λ_=>(fw (j8 K (by rfl)) (by rfl) T.list PyProof.Rows.boot_list (aa (pv 0) ae))))))),?_⟩
  refine aZ (σ:=[some (.ref p),some (.int w),none,none]) rfl ?_;obtain ⟨xs,gx,qx,_⟩:=id hp;exists ⟨⟨_,bB.of gx⟩,?_⟩;refine Dp (K:=K) (l:=p) (xs:=xs) (λi σ' H'=>aH H H'/\∃x y,σ'=[some (.ref p),some (.int w),x,y]) ⟨aH.refl _,none,none,rfl⟩ (λi σ' H' _ ⟨s,_⟩=>bB.of (s _ _ gx)) ?_ ?_
  ·rintro i x σ' H' t hx ⟨s,x1,y1,rfl⟩ ht;obtain ⟨qs,eq,q,rfl,_,Rq⟩:=cO qx hx;have hm:=aj eq;have st:aH H' (upd H' t (.tup [.int i,.ref q])):=aH.new ht;have gt:(upd H' t (.tup [.int i,.ref q])) t=some (.tup [.int i,.ref q]):=aJ;have s2:=s.trans st;generalize upd H' t (.tup [.int i,.ref q])=H2 at st gt s2 ⊢;have lq:(qs.map nm).length=w:=by rw[av];exact (hn qs hm).1
   exists ⟨q,_,by rw[lq],(Rq.same s2).rowK,by rw[lq];exact hw,λn hn'=>?_,λH3 s3=>?_⟩
   ·obtain ⟨y,hy,rfl⟩:=ba.mp hn';exact (hn qs hm).2 y hy
   exists ⟨s2.trans s3,_,_,rfl⟩
  ·rintro σ' H' ⟨s,x1,y1,rfl⟩;exists ⟨⟨_,bB.of (s _ _ gx)⟩,?_⟩;refine dj (K:=K) (F:=dG K H0) (dG K H) id (s _ _ gx) (Paired.imp' (λ_ _ z=>z.same s) qx) hl (λa b=>a.same b) (λa b=>a.same b) ?_ ?_
   ·rintro i ns x H2 NY NN en s2 ⟨u,rfl,_,zs,gz,qz⟩ k1;exists ⟨u,zs,rfl,.inl (bB.of gz),λl1 hl1=>?_⟩;exact k1 _ _ (aH.new hl1) ⟨l1,rfl,s.none (s2.none hl1),zs,aJ,Paired.imp' (λ_ _ z=>z.same (aH.new hl1)) qz⟩
   ·rintro ys' H2 r hr s2 g pr nx;rw[DL] at pr nx;exact k r H2 (s.none hr) (s.trans s2) ⟨ys',g,pr,mX nx⟩
theorem nR:br ["self","move","put","look"] ["self","move","put","look"] (aL c6):=by walk_at "d"
theorem oo (T:Txt K mg Z):cC P w K mg base gV 5 Z.gQ Z.gP ["self","move","put","look"] (zZ K Z.a_System):=by
 refine T.jJ.ok nR (λvs H Q E h=>?_) (λcdv A outer s H vs Q E hr h=>?_)
 ·obtain ⟨x,dx,p,q,r,Hb,H0,H1,H2,mv,pt,lk,rfl,_⟩:=h;rfl
 ·obtain ⟨x,dx,p,q,r,Hb,H0,H1,H2,mv,pt,lk,rfl,nx,ndx,nex,rfl,gp,gq,gr,D,om,op,ol,k⟩:=h
  refine ⟨_,(ai (fU (cn (kI T) hr T.gK (aa (pv 1) (aa ag (aa (oE (v:=.int 8) rfl T.mg_MOST_STATES ⟨_,rfl⟩) ae)))))
   (ai (p5 (pv 0) (cn (jm T) hr T.eZ (aa (pv 1) (aa (bE bq (by rfl) T.len bc (aa (pv 1) ae)) ae))) rfl)
   (ai (p5 (pv 0) (bE bq (by rfl) T.len bc (aa (eX (pv 0) rfl) ae)) rfl)
   (ai (fU (cn (kI T) hr T.gK (aa (pv 2) (aa ag (aa (oE (v:=.int 4) rfl T.mg_MOST_PUTS ⟨_,rfl⟩) ae)))))
   (ai (p5 (pv 0) (cn (jm T) hr T.eZ (aa (pv 2) (aa (eX (pv 0) rfl) ae))) rfl)
   (ai (p5 (pv 0) (bE bq (by rfl) T.len bc (aa (eX (pv 0) rfl) ae)) rfl)
   (ai (fU (cn (kI T) hr T.gK (aa (pv 3) (aa ag (aa (oE (v:=.int 4) rfl T.mg_MOST_LOOKS ⟨_,rfl⟩) ae)))))
   (ai (p5 (pv 0) (cn (jm T) hr T.eZ (aa (pv 3) (aa (eX (pv 0) rfl) ae))) rfl)
   (ax (p5 (pv 0) (bE bq (by rfl) T.len bc (aa (eX (pv 0) rfl) ae)) rfl)))))))))),?_⟩
  refine aZ (σ:=[some (.ref x),some (.ref p),some (.ref q),some (.ref r)]) rfl ?_
  have s0:aH Hb (upd (upd Hb dx (.own x)) x (.ins Z.a_System dx [])):=λb o e=>by
   rw[aN (dA e nx),aN (dA e ndx)];exact e
  have hx:(upd (upd Hb dx (.own x)) x (.ins Z.a_System dx [])) x=some (.ins Z.a_System dx []):=aJ;have back:∀{b},(upd (upd Hb dx (.own x)) x (.ins Z.a_System dx [])) b=none->Hb b=none:=λh=>s0.none h
  generalize upd (upd Hb dx (.own x)) x (.ins Z.a_System dx [])=Ha at s0 hx back ⊢;obtain ⟨xs,gx,qx,_⟩:=id gp;obtain ⟨ys,gy,qy,_⟩:=id gq;obtain ⟨zs,gz,qz,_⟩:=id gr;have lx:=qx.length;have ly:=qy.length;have lz:=qz.length;have d1:=D.n8;have d2:=D.i4;have d3:=D.o4;exists ⟨p,xs,0,8,rfl,s0 _ _ gx,by lia,?_⟩;exists ⟨_,_,rfl,.inl (bB.of (s0 _ _ gx)),?_⟩;exists ⟨p,H0,mv,mv.length,by rw[lx],gp.same s0,by lia,by lia,λws hw=>⟨D.mw ws hw,om ws hw⟩,λa H3 na s3 Ga=>?_⟩;have hx3:=s3 _ _ hx;exists ⟨x,Z.a_System,dx,_,rfl,hx3,T.cl_System,T.na_move,(by show 0 < 1000;decide),?_⟩;have e3:xt x H3 (upd H3 x (.ins Z.a_System dx (bI "move" (.ref a) []))):=xt.upd;have i3:nI H3 x:=⟨_,_,_,hx3⟩;have hx4:(upd H3 x (.ins Z.a_System dx (bI "move" (.ref a) []))) x=some (.ins Z.a_System dx (bI "move" (.ref a) [])):=aJ;have Ga4:=Ga.exc e3 i3;have k4:aH Hb (upd H3 x (.ins Z.a_System dx (bI "move" (.ref a) []))):=(s0.trans s3).after nx;generalize upd H3 x (.ins Z.a_System dx (bI "move" (.ref a) []))=H4 at e3 hx4 Ga4 k4 ⊢;exists ⟨x,Z.a_System,dx,_,_,rfl,hx4,T.cl_System,T.na_move,(by rw[aS,if_pos rfl]),?_⟩;obtain ⟨as,ga,qa,_⟩:=id Ga4;have la:=qa.length;exists ⟨_,_,rfl,.inl (bB.of ga),?_⟩;exists ⟨x,Z.a_System,dx,_,rfl,hx4,T.cl_System,T.na_states,bu c9 (by show 1 < 1000;decide),?_⟩;rw[show ((as.length:Nat):Int)=((mv.length:Nat):Int) by rw[la]];have e4:xt x H4 (upd H4 x (.ins Z.a_System dx (bI "states" (.int mv.length) (bI "move" (.ref a) [])))):=xt.upd;have i4:nI H4 x:=⟨_,_,_,hx4⟩;have hx5:(upd H4 x (.ins Z.a_System dx (bI "states" (.int mv.length) (bI "move" (.ref a) [])))) x=some (.ins Z.a_System dx (bI "states" (.int mv.length) (bI "move" (.ref a) []))):=aJ;have Ga5:=Ga4.exc e4 i4;have k5:aH Hb (upd H4 x (.ins Z.a_System dx (bI "states" (.int mv.length) (bI "move" (.ref a) [])))):=k4.after nx;generalize upd H4 x (.ins Z.a_System dx (bI "states" (.int mv.length) (bI "move" (.ref a) [])))=H5 at e4 hx5 Ga5 k5 ⊢;clear e3 e4 i3 i4 hx4 Ga4 ga qa;exists ⟨q,ys,1,4,rfl,k5 _ _ gy,by lia,?_⟩;exists ⟨x,Z.a_System,dx,_,_,rfl,hx5,T.cl_System,T.na_states,(by rw[aS,if_pos rfl]),?_⟩;exists ⟨q,H1,pt,mv.length,rfl,gq.same k5,by lia,by lia,λws hw=>⟨D.pw ws hw,op ws hw⟩,λb H6 nb s6 Gb=>?_⟩;have hx6:=s6 _ _ hx5;have i6:nI H6 x:=⟨_,_,_,hx6⟩;exists ⟨x,Z.a_System,dx,_,rfl,hx6,T.cl_System,T.na_put,bu c9 (bu (cU c9) (by show 2 < 1000;decide)),?_⟩;have e6:xt x H6 (upd H6 x (.ins Z.a_System dx (bI "put" (.ref b) (bI "states" (.int mv.length) (bI "move" (.ref a) []))))):=xt.upd;have hx7:(upd H6 x (.ins Z.a_System dx (bI "put" (.ref b) (bI "states" (.int mv.length) (bI "move" (.ref a) []))))) x=some (.ins Z.a_System dx (bI "put" (.ref b) (bI "states" (.int mv.length) (bI "move" (.ref a) [])))):=aJ;have Ga7:=(Ga5.same s6).exc e6 i6;have Gb7:=(Gb.weak k5).exc e6 i6;have k7:aH Hb (upd H6 x (.ins Z.a_System dx (bI "put" (.ref b) (bI "states" (.int mv.length) (bI "move" (.ref a) []))))):=(k5.trans s6).after nx;generalize upd H6 x (.ins Z.a_System dx (bI "put" (.ref b) (bI "states" (.int mv.length) (bI "move" (.ref a) []))))=H7 at e6 hx7 Ga7 Gb7 k7 ⊢;obtain ⟨bs,gb,qb,_⟩:=id Gb7;have lb:=qb.length;exists ⟨x,Z.a_System,dx,_,_,rfl,hx7,T.cl_System,T.na_put,(by rw[aS,if_pos rfl]),?_⟩;exists ⟨_,_,rfl,.inl (bB.of gb),?_⟩;exists ⟨x,Z.a_System,dx,_,rfl,hx7,T.cl_System,T.na_ins,bu c9 (bu (cU (ak c9 (cU c9))) (by show 3 < 1000;decide)),?_⟩;rw[show ((bs.length:Nat):Int)=((pt.length:Nat):Int) by rw[lb]];have i7:nI H7 x:=⟨_,_,_,hx7⟩;have e7:xt x H7 (upd H7 x (.ins Z.a_System dx (bI "ins" (.int pt.length) (bI "put" (.ref b) (bI "states" (.int mv.length) (bI "move" (.ref a) [])))))):=xt.upd;have hx8:(upd H7 x (.ins Z.a_System dx (bI "ins" (.int pt.length) (bI "put" (.ref b) (bI "states" (.int mv.length) (bI "move" (.ref a) [])))))) x=some (.ins Z.a_System dx (bI "ins" (.int pt.length) (bI "put" (.ref b) (bI "states" (.int mv.length) (bI "move" (.ref a) []))))):=aJ;have Ga8:=Ga7.exc e7 i7;have Gb8:=Gb7.exc e7 i7;have k8:aH Hb (upd H7 x (.ins Z.a_System dx (bI "ins" (.int pt.length) (bI "put" (.ref b) (bI "states" (.int mv.length) (bI "move" (.ref a) [])))))):=k7.after nx;generalize upd H7 x (.ins Z.a_System dx (bI "ins" (.int pt.length) (bI "put" (.ref b) (bI "states" (.int mv.length) (bI "move" (.ref a) [])))))=H8 at e7 hx8 Ga8 Gb8 k8 ⊢;clear e6 e7 i6 i7 hx7 Ga7 Gb7 gb qb;exists ⟨r,zs,2,4,rfl,k8 _ _ gz,by lia,?_⟩;exists ⟨x,Z.a_System,dx,_,_,rfl,hx8,T.cl_System,T.na_states,(by rw[aS,if_neg (by decide +kernel),aS,if_neg (by decide +kernel),aS,if_pos rfl]),?_⟩;exists ⟨r,H2,lk,mv.length,rfl,gr.same k8,by lia,by lia,λws hw=>⟨D.lw ws hw,ol ws hw⟩,λc H9 nc s9 Gc=>?_⟩;have hx9:=s9 _ _ hx8;have i9:nI H9 x:=⟨_,_,_,hx9⟩;exists ⟨x,Z.a_System,dx,_,rfl,hx9,T.cl_System,T.na_look,bu c9 (bu (cU (ak c9 (cU (ak c9 (cU c9))))) (by show 4 < 1000;decide)),?_⟩;have e9:xt x H9 (upd H9 x (.ins Z.a_System dx (bI "look" (.ref c) (bI "ins" (.int pt.length) (bI "put" (.ref b) (bI "states" (.int mv.length) (bI "move" (.ref a) []))))))):=xt.upd;have hxA:(upd H9 x (.ins Z.a_System dx (bI "look" (.ref c) (bI "ins" (.int pt.length) (bI "put" (.ref b) (bI "states" (.int mv.length) (bI "move" (.ref a) []))))))) x=some (.ins Z.a_System dx (bI "look" (.ref c) (bI "ins" (.int pt.length) (bI "put" (.ref b) (bI "states" (.int mv.length) (bI "move" (.ref a) [])))))):=aJ;have GaA:=(Ga8.same s9).exc e9 i9;have GbA:=(Gb8.same s9).exc e9 i9;have GcA:=(Gc.weak k8).exc e9 i9;have kA:aH Hb (upd H9 x (.ins Z.a_System dx (bI "look" (.ref c) (bI "ins" (.int pt.length) (bI "put" (.ref b) (bI "states" (.int mv.length) (bI "move" (.ref a) []))))))):=(k8.trans s9).after nx;generalize upd H9 x (.ins Z.a_System dx (bI "look" (.ref c) (bI "ins" (.int pt.length) (bI "put" (.ref b) (bI "states" (.int mv.length) (bI "move" (.ref a) []))))))=HA at e9 hxA GaA GbA GcA kA ⊢;obtain ⟨cs,gc,qc,_⟩:=id GcA;have lc:=qc.length;exists ⟨x,Z.a_System,dx,_,_,rfl,hxA,T.cl_System,T.na_look,(by rw[aS,if_pos rfl]),?_⟩;exists ⟨_,_,rfl,.inl (bB.of gc),?_⟩;exists ⟨x,Z.a_System,dx,_,rfl,hxA,T.cl_System,T.na_outs,bu c9 (bu (cU (ak c9 (cU (ak c9 (cU (ak c9 (cU c9))))))) (by show 5 < 1000;decide)),?_⟩;rw[show ((cs.length:Nat):Int)=((lk.length:Nat):Int) by rw[lc]];have iA:nI HA x:=⟨_,_,_,hxA⟩;exact k _ (kA.after nx) ⟨dx,a,b,c,aJ,back na,k5.none nb,k8.none nc,(GaA.exc xt.upd iA).weak s0,GbA.exc xt.upd iA,GcA.exc xt.upd iA⟩
theorem wJ:br ["_law_parts_here"] ["_law_parts_here"] (aL l5):=by walk_at "d"
theorem oN (T:Txt K mg Z):cC P w K mg base gV 7 Z.rB Z.qS ["_law_parts_here"] (sQ K Z.a_System):=by
 refine T.iZ.F.ok wJ (λvs H Q E h=>?_) (λcdv A outer s H vs Q E hr h=>?_)
 ·obtain ⟨r,H0,mv,pt,lk,rfl,_⟩:=h;rfl
 ·obtain ⟨r,H0,mv,pt,lk,rfl,PQ,D,F,k⟩:=h;refine ⟨_,(ax (be (EE T.mk_System (oo T) (hr.mono (by decide)) rfl T.mg_System T.jG .nil Ad (aa (cn (eY T) hr T.dB (aa (bg bX (pv 0) ag) ae)) (aa (cn (eY T) hr T.dB (aa (bg bX (pv 0) ag) ae)) (aa (cn (eY T) hr T.dB (aa (bg bX (pv 0) ag) ae)) ae)))))),?_⟩;refine aZ (σ:=[some (.ref r)]) rfl ?_;obtain ⟨m,p,l,g,n1,n2,n3,Gm,Gp,Gl⟩:=id PQ;have d1:=D.n8;have d2:=D.i4;have d3:=D.o4;exists ⟨m,H0,mv,rfl,Gm,by lia,λxs hx=>by rw[D.mw xs hx];lia,λa us1 H1 na s1 ga nd1 pa nx1=>?_⟩;have Ga:bO K H H1 a mv:=⟨us1,ga,pa,nx1⟩;have g1:=s1 _ _ g;exists ⟨p,H0,pt,rfl,Gp.same s1,by lia,λxs hx=>by rw[D.pw xs hx];lia,λb us2 H2 nb s2 gb nd2 pb nx2=>?_⟩;have Gb:bO K H1 H2 b pt:=⟨us2,gb,pb,nx2⟩;have s12:=s1.trans s2;have g2:=s12 _ _ g;exists ⟨l,H0,lk,rfl,Gl.same s12,by lia,λxs hx=>by rw[D.lw xs hx];lia,λc us3 H3 nc s3 gc nd3 pc nx3=>?_⟩;have Gc:bO K H2 H3 c lk:=⟨us3,gc,pc,nx3⟩;have s13:=s12.trans s3;walk_at "w";intro x dx nx ndx nex;exact ⟨x,dx,a,b,c,H3,H,H1,H2,mv,pt,lk,rfl,nx,ndx,nex,rfl,(Ga.same s2).same s3,Gb.same s3,Gc,D,F.ok.1,F.ok.2.1,F.ok.2.2,λH' s' S'=>⟨rfl,k x H' (s13.none nx) (s13.trans s') (S'.weak s13)⟩⟩
theorem jA:br ["_law_one","_law_other_here","_law_total","_law_k"] ["_law_one","_law_other_here"] (aL nY):=by walk_at "d"
theorem qF (T:Txt K mg Z):cC P w K mg base gV 3 Z.uI Z.ur ["_law_one","_law_other_here"] (wz K):=by
 refine T.jE.F.ok jA (λvs H Q E h=>?_) (λcdv A outer s H vs Q E hr h=>?_)
 ·obtain ⟨p,q,xs,ys,rfl,_⟩:=h;rfl
 ·obtain ⟨p,q,xs,ys,rfl,hp,hq,hl,hz,⟨k1,j1,k2,j2,h1,h2,hkj⟩,kk⟩:=h
  refine ⟨_,(ai (aV (i:=2) jA.nd rfl (Or.inl rfl) (bU (aa ag (aa ag ae))))
   (ai (cZ PassesOwn.never rfl (bP rfl T.range (aa (bE bq (by rfl) T.len bc (aa (pv 0) ae)) ae)) (aK (i:=3) jA.nd)
    (ax (aV (i:=2) jA.nd rfl (Or.inl rfl) (cn (iH T) hr T.ff (aa (pv 2) (aa (cn (iV T) hr T.fB (aa (bg bz (pv 0) (pv 3)) (aa (bg bz (pv 1) (pv 3)) ae))) ae))))))
   (ax (be (pv 2))))),?_⟩
  refine aZ (σ:=[some (.ref p),some (.ref q),none,none]) rfl ?_;obtain ⟨us,gu,qu⟩:=id hp;obtain ⟨ws,gw,qw⟩:=id hq;have lu:=qu.length;have lw:=qw.length;exists bx λr0 H0 s0 g0=>?_
  exists ⟨_,_,rfl,.inl (bB.of (s0 _ _ gu)),?_⟩;exists ⟨by lia,by lia,?_⟩;refine dC (n:=us.length) (λi σ' H'=>aH H H'/\∃(r:V) (v:Option V),σ'=[some (.ref p),some (.ref q),some r,v]/\bL K H' (cy (xs.take i) (ys.take i)) r) ⟨s0,_,none,rfl,bL.mk g0 rfl⟩ ?_ ?_
  ·rintro i σ' H' hi ⟨s,r,v,rfl,hr⟩;have ix:i < xs.length:=by lia
   have iy:i < ys.length:=by lia
   obtain ⟨vx,ex,nx⟩:=DP (Paired.imp' (λ_ _ z=>z.same s) qu) ix;obtain ⟨vy,ey,ny⟩:=DP (Paired.imp' (λ_ _ z=>z.same s) qw) iy;exists bT (bB.of (s _ _ gu)) ex ?_;exists bT (bB.of (s _ _ gw)) ey ?_;exists ⟨_,_,_,_,rfl,nx,ny,h1.szn (getD_mem ix) (by lia),h2.szn (getD_mem iy) (by lia),λr3 H3 s3 n3=>?_⟩;exists ⟨_,_,_,_,rfl,hr.same s3,n3,Dw h1 h2 hz i hkj,CU (h1.one (getD_mem ix)) (h2.one (getD_mem iy)) hkj,λr4 H4 s4 n4=>?_⟩;exists ⟨(s.trans s3).trans s4,_,_,rfl,by rw[qk ix iy];exact n4⟩
  ·rintro σ' H' ⟨s,r,v,rfl,hr⟩;rw[aw (by lia),aw (by lia)] at hr;obtain ⟨t,rfl,ht⟩:=hr;exists kk _ H' s ⟨t,rfl,ht⟩
theorem y0:br ["_law_grid","_law_row_here"] ["_law_grid","_law_row_here"] (aL pZ):=by walk_at "d"
theorem oj (T:Txt K mg Z):cC P w K mg base gV 4 Z.vV Z.vJ ["_law_grid","_law_row_here"] (wu K):=by
 refine T.jr.F.ok y0 (λvs H Q E h=>?_) (λcdv A outer s H vs Q E hr h=>?_)
 ·obtain ⟨p,q,H0,rows,ys,rfl,_⟩:=h;rfl
 ·obtain ⟨p,q,H0,rows,ys,rfl,hp,hq,hz,hl,hr1,kk⟩:=h;refine ⟨_,(ax (be (bQ ["_law_one"] ["_law_row_here"] [1] (bW (pv 0)) (λ_=>(aK (i:=0) (show ND9 ["_law_one","_law_row_here"] by decide +kernel))) (λ_=>b0) (λ_=>(cn (qF T) hr T.jE (aa (pv 0) (aa (pv 1) ae))))))),?_⟩;refine aZ (σ:=[some (.ref p),some (.ref q)]) rfl ?_;obtain ⟨xs,gx,qx,_⟩:=id hp;exists ⟨⟨_,bB.of gx⟩,?_⟩;refine dj (K:=K) (F:=dG K H0) (bL K) (λxs=>cy xs ys) gx qx hz (λa b=>a.same b) (λa b=>a.same b) ?_ ?_
  ·rintro i ns x H' NY NN en s ⟨u,rfl,_,hu⟩ k;obtain ⟨e1,e2⟩:=hr1 ns (aj en);exists ⟨u,q,ns,ys,rfl,hu,hq.same s,e1.symm,by lia,e2,λr H2 s2 h2'=>k _ _ s2 h2'⟩
  ·rintro ys' H' r hr s g pr nx;exact kk r H' hr s ⟨ys',g,pr⟩
theorem eT:br ["_law_parts_here","_law_steps","_law_rows","_law_found","_law_turn"] ["_law_parts_here","_law_steps"] (aL jS):=by walk_at "d"
theorem ma (T:Txt K mg Z):cC P w K mg base gV 5 Z.nF Z.m7 ["_law_parts_here","_law_steps"] (Cc K):=by
 refine T.gN.F.ok eT (λvs H Q E h=>?_) (λcdv A outer s H vs Q E hr h=>?_)
 ·obtain ⟨r,T9,H0,mv,pt,lk,rfl,_⟩:=h;rfl
 ·obtain ⟨r,T9,H0,mv,pt,lk,rfl,PQ,D,t16,Z9,k⟩:=h
  refine ⟨_,(ai (aV (i:=2) eT.nd rfl (Or.inr rfl) (bQ ["_law_row_here"] [] [] (bW (bg bX (pv 0) ag)) (λ_=>(aK (i:=0) (show ND9 ["_law_row_here"] by decide +kernel))) (λ_=>b0) (λ_=>(fw (j8 K (by rfl)) (by rfl) T.list PyProof.Rows.boot_list (aa (pv 0) ae)))))
   (ai (aV (i:=3) eT.nd rfl (Or.inl rfl) (dM ae))
   (ai (cZ PassesOwn.never rfl (bP rfl T.range (aa (pv 1) ae)) (aK (i:=4) eT.nd)
    (ai (fU (oG b8 bZ bY fz (pv 3) (aa (bQ ["_law_look"] ["_law_rows"] [2] (bW (bg bX (pv 0) ag)) (λ_=>(aK (i:=0) (show ND9 ["_law_look","_law_rows"] by decide +kernel) rfl (Or.inr rfl) (Or.inl rfl))) (λ_=>b0) (λ_=>(bQ ["_law_row_here"] ["_law_look"] [0] (tD K (pv 1)) (λ_=>(aK (i:=0) (show ND9 ["_law_row_here","_law_look"] by decide +kernel))) (λ_=>b0) (λ_=>(cn (qF T) hr T.jE (aa (pv 1) (aa (pv 0) ae))))))) ae)))
   (ax (aV (i:=2) eT.nd rfl (Or.inr rfl) (bQ ["_law_row_here"] ["_law_parts_here"] [0] (bW (pv 2)) (λ_=>(aK (i:=0) (show ND9 ["_law_row_here","_law_parts_here"] by decide +kernel))) (λ_=>b0) (λ_=>(cn (oj T) hr T.jr (aa (bg (oP K (by rfl)) (pv 1) ag) (aa (pv 0) ae)))))))))
   (ax (be (pv 3)))))),?_⟩
  refine aZ (σ:=[some (.ref r),some (.int T9),none,none,none]) rfl ?_;obtain ⟨m0,p0,l0,gr,_,_,_,Gm,Gp,Gl⟩:=id PQ;obtain ⟨pv,gpv,qpv,_⟩:=id Gp;have n8:=D.n8;have i4:=D.i4;have o4:=D.o4;exists ⟨⟨_,bB.of gpv⟩,?_⟩;refine dj (K:=K) (F:=dG K H0) (dG K H) id gpv qpv (by lia) (λa b=>a.same b) (λa b=>a.same b) ?_ ?_
  ·rintro i ns x H' NY NN en s ⟨u,rfl,_,zs,gz,qz⟩ k1;exists ⟨u,zs,rfl,.inl (bB.of gz),λl1 hl1=>?_⟩;exact k1 _ _ (aH.new hl1) ⟨l1,rfl,s.none hl1,zs,aJ,Paired.imp' (λ_ _ z=>z.same (aH.new hl1)) qz⟩
  rintro ysr H1 rw0 nrw s1 g1 pr1 nx1;rw[DL] at pr1 nx1;exists cS λfo H2 s2 nfo gfo=>?_
  have s02:=s1.trans s2;have hfo2:H2 fo≠none:=by rw[gfo];exact λz=>nomatch z
  have pr2:Paired (jy K H fo H2) (pt.map (dX mv 0)) ysr:=by
   rw[show pt.map (dX mv 0)=pt by rw[show dX mv 0=id from rfl,DL]];exact Paired.imp' (λxs v ⟨q,e,n,R⟩=>⟨q,e,n,(λz=>by obtain ⟨_,gq,_⟩:=R;rw[z,nfo] at gq;cases gq),R.same s2⟩) pr1
  have rf0:rw0≠fo:=λz=>by rw[z,nfo] at g1;cases g1
  exists ⟨by lia,by lia,?_⟩;refine dC (n:=T9) (λt σ' H'=>aH H H'/\∃y rw' us fs,σ'=[some (.ref r),some (.int T9),some (.ref rw'),some (.ref fo),y]/\H' fo=some (.lst fs)/\Paired (AE K H fo H') (fv mv pt lk t) fs/\rw'≠fo/\H' rw'=some (.lst us)/\Paired (jy K H fo H') (pt.map (dX mv t)) us) ⟨s02,_,_,_,_,rfl,gfo,.nil,rf0,s2 _ _ g1,pr2⟩ ?_ ?_
  rotate_left
  ·rintro σ' H' ⟨s',y,rw',us,fs,rfl,g',pr',_⟩;exists k fo H' (s1.none nfo) s' ⟨fs,g',Paired.imp' (λ_ _ z=>AE.toF z) pr'⟩
  rintro t σ' H' ht ⟨s',y,rw',us,fs,rfl,g',pr',rf,gu,pru⟩;have lfs:=pr'.length;unfold fv at lfs;rw[av,cw] at lfs;have lus:=pru.length;rw[av] at lus;have hfo:H' fo≠none:=by rw[g'];exact λz=>nomatch z
  obtain ⟨_,_,_,gr',_,_,_,Gm',_,Gl'⟩:=PQ.same s';obtain ⟨ls,gl,ql,_⟩:=id Gl';have ll:=ql.length;exists ⟨.inl ⟨rfl,_,bB.of g'⟩,?_⟩;exists ⟨⟨_,bB.of gl⟩,?_⟩;refine dj (K:=K) (as:=lk) (F:=dG K H0) (dG K H') (λl=>(pt.map (dX mv t)).map λx=>cy l x) gl ql (by lia) (λa b=>a.same b) (λa b=>a.same b) ?_ ?_
  ·rintro j l v Hx NY NN el sx ⟨lq,rfl,_,Rl⟩ k1;have ml:=aj el;exists ⟨⟨_,bB.of (sx _ _ gu)⟩,?_⟩;refine dj (K:=K) (as:=pt.map (dX mv t)) (F:=jy K H fo) (bL K) (λx=>cy l x) (sx _ _ gu) (Paired.imp' (λ_ _ z=>jy.same z sx) pru) (by rw[av];lia) (λa b=>jy.same a b) (λa b=>a.same b) ?_ ?_
   ·rintro j2 x v2 Hy NY2 NN2 ex sy ⟨xq,rfl,_,_,Rx⟩ k2;obtain ⟨p,mp,rfl⟩:=ba.mp (aj ex);have lp:=mJ (D.pw p mp) t;exists ⟨lq,xq,l,_,rfl,Rl.same sy,Rx,by rw[lp,D.lw l ml],by rw[D.lw l ml];lia,(Z9 p mp t (by lia)).2.1 l ml,λr2 Ha sa N=>k2 _ _ sa N⟩
   ·rintro ys Hz r3 hr sz gz prz nxz;exact k1 _ _ sz ⟨r3,rfl,sx.none hr,ys,gz,prz⟩
  rintro ys Hx r3 hr sx gx prx nxx;rw[<- GI D] at prx nxx;have gx':=sx _ _ g';have Gr:bO K H' Hx r3 (tw mv pt lk t):=⟨ys,gx,prx,mX nxx⟩;exists fu gx' (bp (by lia)) ?_;have gn:(upd Hx fo (.lst (fs++[.ref r3]))) fo=some (.lst (fs++[.ref r3])):=aJ;have sn:aH H (upd Hx fo (.lst (fs++[.ref r3]))):=vp (s'.trans sx) (s1.none nfo);have e1:fv mv pt lk (t+1)=fv mv pt lk t++[tw mv pt lk t]:=by unfold fv;rw[uM,cF];rfl
  have pn:Paired (AE K H fo (upd Hx fo (.lst (fs++[.ref r3])))) (fv mv pt lk (t+1)) (fs++[.ref r3]):=by
   rw[e1];exact b6 (Paired.imp' (λ_ _ z=>(AE.same z sx).upd gx') pr') (.cons (AE.upd ⟨r3,H',rfl,s',hfo,hr,Gr⟩ gx') .nil)
  have prn:Paired (jy K H fo (upd Hx fo (.lst (fs++[.ref r3])))) (pt.map (dX mv t)) us:=Paired.imp' (λ_ _ z=>(jy.same z sx).upd gx') pru;have gun:(upd Hx fo (.lst (fs++[.ref r3]))) rw'=some (.lst us):=by rw[aN rf];exact sx _ _ gu
  generalize upd Hx fo (.lst (fs++[.ref r3]))=Hn at gn sn pn prn gun ⊢;have hfn:Hn fo≠none:=by rw[gn];exact λz=>nomatch z
  obtain ⟨_,_,_,grn,_,_,_,Gmn,_,_⟩:=PQ.same sn;clear prx nxx gx Gr gr' Gm' Gl' gl ql;exists ⟨⟨_,bB.of gun⟩,?_⟩;refine dj (K:=K) (as:=pt.map (dX mv t)) (F:=jy K H fo) (dG K Hn) (DN mv) gun prn (by rw[av];lia) (λa b=>jy.same a b) (λa b=>a.same b) ?_ ?_
  ·rintro j2 x v2 Hy NY2 NN2 ex sy ⟨xq,rfl,_,_,Rx⟩ k2;obtain ⟨p,mp,rfl⟩:=ba.mp (aj ex);have lp:=mJ (D.pw p mp) t;obtain ⟨_,_,_,gry,_,_,_,Gmy,_,_⟩:=PQ.same (sn.trans sy);exists ⟨_,xq,H0,mv,_,rfl,Gmy,Rx,by lia,by rw[lp];lia,λzs hz=>⟨by rw[D.mw zs hz,lp],(Z9 p mp t (by lia)).2.2 zs hz⟩,λr2 Ha na sa Ra=>k2 _ _ sa ⟨r2,rfl,sy.none na,Ra⟩⟩
  rintro ys2 Hz rn hrn sz gz prz nxz;have ep:(pt.map (dX mv t)).map (DN mv)=pt.map (dX mv (t+1)):=by rw[mT];rfl
  rw[ep] at prz nxz;exists ⟨sn.trans sz,_,_,_,_,rfl,sz _ _ gn,Paired.imp' (λ_ _ z=>AE.same z sz) pn,(λz=>hfn (by rw[<- z];exact hrn)),gz,Paired.imp' (λxs v ⟨q,e,n,R⟩=>⟨q,e,sn.none n,(λz=>hfn (by rw[<- z];exact n)),R⟩) prz⟩
  
theorem dW:br ["_law_one","_law_other_here","_law_many","_law_first_here","_law_second","_law_time","_law_look","_law_put"] ["_law_one","_law_other_here"] (aL kG):=by walk_at "d"
theorem uU (T:Txt K mg Z):cC P w K mg base gV 6 Z.pH Z.pe ["_law_one","_law_other_here"] (Cg K):=by
 refine T.j6.F.ok dW (λvs H Q E h=>?_) (λcdv A outer s H vs Q E hr h=>?_)
 ·obtain ⟨x,y,H0,H1,mv,pt,lk,mv2,pt2,lk2,rfl,_⟩:=h;rfl
 ·obtain ⟨x,y,H0,H1,mv,pt,lk,mv2,pt2,lk2,rfl,P1,P2,D1,D2,Z1,Z2,e1,e2,k⟩:=h
  refine ⟨_,(ai (aV (i:=2) dW.nd rfl (Or.inl rfl) (bC d9 (bE bq (by rfl) T.len bc (aa (bg bX (pv 0) ag) ae)) (bE bq (by rfl) T.len bc (aa (bg bX (pv 1) ag) ae))))
   (ai (aV (i:=3) dW.nd rfl (Or.inl rfl) (cn (ma T) hr T.gN (aa (pv 0) (aa (pv 2) ae))))
   (ai (aV (i:=4) dW.nd rfl (Or.inl rfl) (cn (ma T) hr T.gN (aa (pv 1) (aa (pv 2) ae))))
   (ai (cZ PassesOwn.never rfl (bP rfl T.range (aa (pv 2) ae)) (aK (i:=5) dW.nd)
    (ax (cZ PassesOwn.never rfl (bP rfl T.range (aa (bE bq (by rfl) T.len bc (aa (bg bX (pv 0) ag) ae)) ae)) (aK (i:=6) dW.nd)
    (ax (cZ PassesOwn.never rfl (bP rfl T.range (aa (bE bq (by rfl) T.len bc (aa (bg bX (pv 0) ag) ae)) ae)) (aK (i:=7) dW.nd)
    (ax (cG (aX (zj (Dd hr)) (bg bz (bg bz (bg bz (pv 3) (pv 5)) (pv 6)) (pv 7)) (bg bz (bg bz (bg bz (pv 4) (pv 5)) (pv 6)) (pv 7)) (bf _)) (ax (be (bU (aa (pv 5) (aa (pv 6) (aa (pv 7) ae)))))) bH)))))))
   (ax (be l8)))))),?_⟩
  refine aZ (σ:=[some (.ref x),some (.ref y),none,none,none,none,none,none]) rfl ?_;obtain ⟨m0,p0,l0,gx,_,_,_,Gm,Gp,Gl⟩:=id P1;obtain ⟨m2,p2,l2,gy,_,_,_,Gm2,_,_⟩:=id P2;obtain ⟨ms,gm,qm,_⟩:=id Gm;obtain ⟨ms2,gm2,qm2,_⟩:=id Gm2;have lm:=qm.length;have lm2:=qm2.length;have n8:=D1.n8;have m8:=D2.n8;have i4:=D1.i4;have o4:=D1.o4;exists ⟨_,_,rfl,.inl (bB.of gm),?_⟩;rw[<- lm];exists ⟨_,_,rfl,.inl (bB.of gm2),?_⟩;rw[<- lm2];walk_at "w";rw[show ((mv.length:Int)+(mv2.length:Int))=((mv.length+mv2.length:Nat):Int) by lia];refine ⟨x,mv.length+mv2.length,H0,mv,pt,lk,rfl,P1,D1,by lia,Z1,λr1 Ha n1 s1 G1=>?_⟩;exists ⟨y,mv.length+mv2.length,H1,mv2,pt2,lk2,rfl,P2.same s1,D2,by lia,Z2,λr2 Hb n2 s2 G2=>?_⟩;have s02:=s1.trans s2;replace G1:=G1.same s2;obtain ⟨us,g1,q1⟩:=id G1;obtain ⟨ws,g2,q2⟩:=id G2;have sh:=yX (mv:=mv) (pt:=pt) (lk:=lk) (mv2:=mv2) (T:=mv.length+mv2.length) e1 e2;have w1:∀(t:Nat) (g:LR9),(fv mv pt lk (mv.length+mv2.length))[t]?=some g->g.length=lk.length/\∀xs∈g,xs.length=pt.length:=λt g e=>zd e
  have lg:(fv mv pt lk (mv.length+mv2.length)).length=mv.length+mv2.length:=by unfold fv;rw[av,cw]
  generalize fv mv pt lk (mv.length+mv2.length)=gs at q1 sh k w1 lg;generalize fv mv2 pt2 lk2 (mv.length+mv2.length)=hs at q2 sh k;have le:=sh.1;have g0:=s02 _ _ gx;obtain ⟨pv,gpv,qpv,_⟩:=Gp.same s02;obtain ⟨lv,glv,qlv,_⟩:=Gl.same s02;have lp:=qpv.length;have ll:=qlv.length;exists ⟨by lia,by lia,?_⟩;refine dC (n:=mv.length+mv2.length) (λt σ' H'=>H'=Hb/\gs.take t=hs.take t/\∃a b c,σ'=[some (.ref x),some (.ref y),some (.int (mv.length+mv2.length:Nat)),some (.ref r1),some (.ref r2),a,b,c]) ⟨rfl,rfl,_,_,_,rfl⟩ ?_ ?_
  rotate_left
  ·rintro σ' H' ⟨rfl,e,a,b,c,rfl⟩;rw[aw (by lia),aw (by lia)] at e;exists k .non _ s02 (by rw[e,Ax];rfl)
  rintro t σ' H' ht ⟨rfl,et,a,b,c,rfl⟩;obtain ⟨g,v1,eg,ev1,_,a1,rfl,_,⟨us1,ga1,qa1,_⟩⟩:=dz q1 (i:=t) (by lia);obtain ⟨h,v2,eh,ev2,_,a2,rfl,_,⟨ws1,ga2,qa2,_⟩⟩:=dz q2 (i:=t) (by lia);obtain ⟨le1,sh1⟩:=sh.2 t g h eg eh;obtain ⟨wg,wx⟩:=w1 t g eg;exists ⟨_,_,rfl,.inl (bB.of glv),?_⟩;rw[<- ll];exists ⟨by lia,by lia,?_⟩;refine dC (n:=lk.length) (λl σ' H9=>H9=H'/\g.take l=h.take l/\∃b c,σ'=[some (.ref x),some (.ref y),some (.int (mv.length+mv2.length:Nat)),some (.ref r1),some (.ref r2),some (.int (t:Nat)),b,c]) ⟨rfl,rfl,_,_,rfl⟩ ?_ ?_
  rotate_left
  ·rintro σ' H9 ⟨rfl,e,b,c,rfl⟩;rw[aw (by lia),aw (by lia)] at e;exists ⟨rfl,by rw[take_snoc eg,take_snoc eh,et,e],_,_,_,rfl⟩
  rintro l σ' H9 hl ⟨rfl,el,b,c,rfl⟩;obtain ⟨xr,v3,ex,ev3,mx,b1,rfl,_,⟨us2,gb1,qb1⟩⟩:=dz qa1 (i:=l) (by lia);obtain ⟨yr,v4,ey,ev4,_,b2,rfl,_,⟨ws2,gb2,qb2⟩⟩:=dz qa2 (i:=l) (by lia);have le2:=sh1 l xr yr ex ey;have lx:=wx xr mx;exists ⟨_,_,rfl,.inl (bB.of gpv),?_⟩;rw[<- lp];exists ⟨by lia,by lia,?_⟩;refine dC (n:=pt.length) (λp σ' H8=>H8=H9/\xr.take p=yr.take p/\∃c,σ'=[some (.ref x),some (.ref y),some (.int (mv.length+mv2.length:Nat)),some (.ref r1),some (.ref r2),some (.int (t:Nat)),some (.int (l:Nat)),c]) ⟨rfl,rfl,_,rfl⟩ ?_ ?_
  rotate_left
  ·rintro σ' H8 ⟨rfl,e,c,rfl⟩;rw[aw (by lia),aw (by lia)] at e;exists ⟨rfl,by rw[take_snoc ex,take_snoc ey,el,e],_,_,rfl⟩
  rintro p σ' H8 hp ⟨rfl,ep,c,rfl⟩;obtain ⟨a9,v5,ea,ev5,_,na⟩:=dz qb1 (i:=p) (by lia);obtain ⟨b9,v6,eb,ev6,_,nb⟩:=dz qb2 (i:=p) (by lia);exists bT (bB.of g1) (cM ev1) ?_;exists bT (bB.of ga1) (cM ev3) ?_;exists bT (bB.of gb1) (cM ev5) ?_;exists bT (bB.of g2) (cM ev2) ?_;exists bT (bB.of ga2) (cM ev4) ?_;exists bT (bB.of gb2) (cM ev6) ?_;exists ⟨_,_,C9,a9,b9,by decide,na,nb,?_⟩;by_cases e9:a9=b9
  ·rw[decide_eq_true e9];exists ⟨rfl,by rw[take_snoc ea,take_snoc eb,ep,e9],_,rfl⟩
  ·rw[decide_eq_false e9];exists bx λr H6 s6 g6=>?_
   exact k _ H6 (s02.trans s6) (by rw[DK eg eh et ex ey el ea eb ep e9];exact ⟨r,rfl,g6⟩)
  
theorem uP:br ["many"] ["many"] (aL ky):=by walk_at "d"
theorem uQ (T:Txt K mg Z):cC P w K mg base gV 1 Z.pk Z.oW ["many"] (F5 K):=by
 refine T.jZ.F.ok uP (λvs H Q E h=>?_) (λcdv A outer s H vs Q E hr h=>?_)
 ·obtain ⟨m,rfl,_⟩:=h;rfl
 ·obtain ⟨m,rfl,hm,k⟩:=h;refine ⟨_,(ax (be (bQ ["place"] [] [] (bP rfl T.range (aa (pv 0) ae)) (λ_=>(aK (i:=0) (show ND9 ["place"] by decide +kernel))) (λ_=>b0) (λ_=>(oE (v:=.ref Z.a_NOUGHT) rfl T.mg_NOUGHT rfl))))),?_⟩;refine aZ (σ:=[some (.int m)]) rfl ?_;exists ⟨by lia,by lia,?_⟩;refine gC (n:=m) (bL K) (λ_=>0) (by lia) (λa b=>a.same b) ?_ ?_
  ·rintro i Ha NY NN hi sa k1;exists k1 _ _ (aH.refl _) ⟨_,rfl,T.sq_NOUGHT _⟩
  ·rintro ys H1 t ht s1 g1 pr _;exact k t H1 ht s1 ⟨ys,g1,by rw[<- CZ];exact pr⟩
theorem ef:br ["wholes","multiple","whole"] ["wholes"] (aL gH):=by walk_at "d"
theorem oi (T:Txt K mg Z):cC P w K mg base gV 2 Z.jH Z.jF ["wholes"] (Ck K):=by
 refine T.fY.F.ok ef (λvs H Q E h=>?_) (λcdv A outer s H vs Q E hr h=>?_)
 ·obtain ⟨p,bs,M,rfl,_⟩:=h;rfl
 ·obtain ⟨p,bs,M,rfl,hp,hM,sM,hb,q⟩:=h
  refine ⟨_,(ai (aV (i:=1) ef.nd rfl (Or.inl rfl) ag)
   (ai (cZ PassesOwn.never rfl (bW (pv 0)) (aK (i:=2) ef.nd)
    (ax (aV (i:=1) ef.nd rfl (Or.inl rfl) (bC eD (pv 1) (bC iG (pv 2) (cn (gJ T) hr T.dO (aa (pv 1) (aa (pv 2) ae))))))))
   (ax (be (pv 1))))),?_⟩
  refine aZ (σ:=[some (.ref p),none,none]) rfl ?_;exists ⟨⟨_,hp⟩,?_⟩;refine ed (K:=K) (a:=p) (xs:=bs.map V.int) (λi σ' H'=>H'=H/\∃x,σ'=[some (.ref p),some (.int (qh (bs.take i) 1)),x]) ⟨rfl,none,rfl⟩ (λi σ' H' _ ⟨e,_⟩=>by subst e;exact hp) ?_ ?_
  ·rintro i x σ' H' hx ⟨rfl,y,rfl⟩;rw[aY] at hx
   obtain ⟨b,eb,rfl⟩:∃b,bs[i]?=some b/\x=.int b:=by
    cases e:bs[i]? with
    | none=>rw[e] at hx;cases hx
    | some b=>rw[e] at hx;cases hx;exact ⟨b,rfl,rfl⟩
   have b1:=hb b (aj eb);have sb:Sz 4400 b:=xg hM b1.2 sM;have ht:∀c∈bs.take i,0 < c/\c∣M:=λc hc=>hb c (dI hc)
   have msz:Sz 4400 (qh (bs.take i) 1):=xg hM (wX (by decide) (Int.one_dvd _) ht) sM;generalize hm:qh (bs.take i) 1=m at msz ⊢;have gp:0 < g m b:=t7 (by lia);exists ⟨m,b,rfl,?_⟩;exists ie (show mG _ _ from ⟨by lia,(J0 b1.1 sb).mono (by decide)⟩) ?_;rw[bS _ (by lia)];exists ie (show jK _ _ from .inr ⟨_,_,msz,sb.hi (t:=m) (by lia),by decide⟩) ?_;exists ⟨rfl,_,by rw[take_snoc eb,vD,hm];rfl⟩
  ·rintro σ' H' ⟨rfl,y,rfl⟩;walk_at "w";rw[aw (by simp)];exact q
theorem pW:br ["row"] ["row"] (aL iN):=by walk_at "d"
theorem ke (T:Txt K mg Z):cC P w K mg base gV 3 Z.lG Z.lF ["row"] (Cm K):=by
 refine T.fA.F.ok pW (λvs H Q E h=>?_) (λcdv A outer s H vs Q E hr h=>?_)
 ·obtain ⟨p,ns,M,rfl,_⟩:=h;rfl
 ·obtain ⟨p,ns,M,rfl,hp,hl,hz,q⟩:=h;refine ⟨_,(ax (be (cn (oi T) hr T.fY (aa (bQ ["value"] [] [] (bW (pv 0)) (λ_=>(aK (i:=0) (show ND9 ["value"] by decide +kernel))) (λ_=>b0) (λ_=>(bg (oP K (by rfl)) (pv 0) ag))) ae)))),?_⟩;refine aZ (σ:=[some (.ref p)]) rfl ?_;obtain ⟨xs,gx,qx⟩:=id hp;have lx:=qx.length;exists ⟨⟨_,bB.of gx⟩,?_⟩;refine gD (K:=K) (xs:=xs) (λi ys H'=>H'=H/\ys=((ns.take i).map (·.2)).map V.int) (aU (bp (by lia))) ⟨rfl,rfl⟩ (λi ys H' _ ⟨e,_⟩=>by subst e;exact bB.of gx) ?_ ?_
  ·rintro i x ys H' hx hlen ⟨rfl,rfl⟩;obtain ⟨n,en,r,rfl,hr1⟩:=cO qx hx;exists ⟨rfl,by rw[take_snoc en];simp⟩
  ·rintro ys H' hy ⟨rfl,rfl⟩ l hl';exists ⟨l,ns.map (·.2),M,rfl,bB.of (by rw[aJ,aw (by lia)]),hz.1,hz.2.1,λb hb=>?_,?_⟩
   ·obtain ⟨n,hn,rfl⟩:=ba.mp hb;exact ⟨(hz.2.2 n hn).1,(hz.2.2 n hn).2.1⟩
   ·exact q _ (aH.new hl')
theorem wD:br ["row","bottom"] ["row","bottom"] (aL lR):=by walk_at "d"
theorem oI (T:Txt K mg Z):cC P w K mg base gV 1 Z.qW Z.qJ ["row","bottom"] (xH K):=by
 refine T.iW.F.ok wD (λvs H Q E h=>?_) (λcdv A outer s H vs Q E hr h=>?_)
 ·obtain ⟨p,ns,M,B,rfl,_⟩:=h;rfl
 ·obtain ⟨p,ns,M,B,rfl,hp,hl,hz,hB,sB,q⟩:=h;refine ⟨_,(ax (be (bQ ["value"] ["bottom"] [1] (bW (pv 0)) (λ_=>(aK (i:=0) (show ND9 ["value","bottom"] by decide +kernel))) (λ_=>b0) (λ_=>(bC eD (bg (oP K (by rfl)) (pv 0) ag) (bC iG (pv 1) (bg (oP K (by rfl)) (pv 0) ag))))))),?_⟩;refine aZ (σ:=[some (.ref p),some (.int B)]) rfl ?_;obtain ⟨xs,gx,qx⟩:=id hp;have lx:=qx.length;exists ⟨⟨_,bB.of gx⟩,?_⟩;refine gD (K:=K) (xs:=xs) (λi ys H'=>H'=H/\ys=(eH (ns.take i) B).map V.int) (aU (bp (by lia))) ⟨rfl,rfl⟩ (λi ys H' _ ⟨e,_⟩=>by subst e;exact bB.of gx) ?_ ?_
  ·rintro i x ys H' hx hlen ⟨rfl,rfl⟩;obtain ⟨n,en,r,rfl,hr1⟩:=cO qx hx;have nz:=hz.2.2 n (aj en);have sn:Sz 4400 n.2:=xg hz.1 nz.2.1 hz.2.1;exists ie (show mG _ _ from ⟨by lia,sn.mono (by decide)⟩) ?_;rw[bS _ (by lia)]
   have sq:Sz 4400 (B / n.2):=sB.le (by
    rw[HW (by lia)];exact Nat.div_le_self ..)
   exists ie (show jK _ _ from .inr ⟨_,_,nz.2.2,sq,by decide⟩) ?_;exact ⟨rfl,by rw[take_snoc en];simp [eH]⟩
  ·rintro ys H' hy ⟨rfl,rfl⟩ l hl';exact q l _ hl' (aH.new hl') (by rw[aJ,aw (by lia)])
theorem pU:br ["top","bottom","divisor"] ["top","bottom"] (aL sY):=by walk_at "d"
theorem A0 (T:Txt K mg Z):cC P w K mg base gV 2 Z.yF Z.yw ["top","bottom"] AN:=by
 refine T.qd.F.ok pU (λvs H Q E h=>?_) (λcdv A outer s H vs Q E hr h=>?_)
 ·obtain ⟨t,b,rfl,_⟩:=h;rfl
 ·obtain ⟨t,b,rfl,hb,hs,k⟩:=h
  refine ⟨_,(ai (aV (i:=2) pU.nd rfl (Or.inl rfl) (cn (gJ T) hr T.dO (aa (pv 0) (aa (pv 1) ae))))
   (ai (cG (aX mV (pv 1) ag (bf _)) (ax (aV (i:=2) pU.nd rfl (Or.inl rfl) (xZ sL (pv 2)))) bH)
   (ax (be (bU (aa (bC iG (pv 0) (pv 2)) (aa (bC iG (pv 1) (pv 2)) ae))))))),?_⟩
  refine aZ (σ:=[some (.int t),some (.int b),none]) rfl ?_;exists ⟨t,b,rfl,?_⟩;have hg:=t7 (t:=t) hb
  have hgs:Sz 8999 (g t b):=hs.le (by
   have h1:(g t b).natAbs=Int.gcd t b:=by unfold g;simp
   rw[h1];exact iQ (by lia) (by have:=dS (a:=t) (b:=b);exact eF.mpr this |> λz=>by simpa using z))
  have hgn:g (-t) (-b)=g t b:=by unfold g;rw[Int.gcd_neg,Int.neg_gcd]
  exists eP (λh=>?_) (λh=>?_)
  ·have hb0:b < 0:=of_decide_eq_true h;exists ie (show mG _ _ from ⟨by lia,hgs.neg⟩) ?_;exists ie (show mG _ _ from ⟨by lia,hgs.neg⟩) ?_;exists bx λr H' s' h'=>?_
   have e1:t.fdiv (-g t b)=lo (-t) (-b):=by
    unfold Nm.lo;rw[hgn,<- bS _ (by lia),<- Int.neg_fdiv_neg (-t),Int.neg_neg]
   have e2:b.fdiv (-g t b)=hi (-t) (-b):=by
    unfold Nm.hi;rw[hgn,<- bS _ (by lia),<- Int.neg_fdiv_neg (-b),Int.neg_neg]
   exact k r H' s' (by rw[if_pos hb0,if_pos hb0,<- e1,<- e2];exact h')
  ·have hb0:¬b < 0:=λz=>h (decide_eq_true z)
   exists ie (show mG _ _ from ⟨by lia,hgs⟩) ?_;exists ie (show mG _ _ from ⟨by lia,hgs⟩) ?_;exists bx λr H' s' h'=>?_
   rw[bS _ (by lia),bS _ (by lia)] at h';exact k r H' s' (by rw[if_neg hb0,if_neg hb0];exact h')
theorem kv:br ["one","other","one_bottom","other_bottom","pairs"] ["one","other"] (aL pX):=by walk_at "d"
theorem tK (T:Txt K mg Z):cC P w K mg base gV 4 Z.vT Z.vH ["one","other"] (wz K):=by
 refine T.kO.F.ok kv (λvs H Q E h=>?_) (λcdv A outer s H vs Q E hr h=>?_)
 ·obtain ⟨p,q,xs,ys,rfl,_⟩:=h;rfl
 ·obtain ⟨p,q,xs,ys,rfl,hp,hq,hl,hz,⟨k1,j1,k2,j2,h1,h2,hkj⟩,kk⟩:=h
  refine ⟨_,(ai (aV (i:=2) kv.nd rfl (Or.inl rfl) (cn (ke T) hr T.fA (aa (pv 0) ae)))
   (ai (aV (i:=3) kv.nd rfl (Or.inl rfl) (cn (ke T) hr T.fA (aa (pv 1) ae)))
   (ai (aV (i:=4) kv.nd rfl (Or.inl rfl) (zg rfl T.list rfl T.zip (aa (cn (oI T) hr T.iW (aa (pv 0) (aa (pv 2) ae))) (aa (cn (oI T) hr T.iW (aa (pv 1) (aa (pv 3) ae))) ae))))
   (ax (be (cn (A0 T) hr T.qd (aa (bE (DG rfl) (by rfl) T.sum PyProof.Rows.boot_sum (aa (bQ ["mine","yours"] [] [] (bW (pv 4)) (λ_=>(z9 K 2 (ck (aK (i:=0) (show ND9 ["mine","yours"] by decide +kernel)) (ck (aK (i:=1) (show ND9 ["mine","yours"] by decide +kernel)) iU)))) (λ_=>b0) (λ_=>(bC eD (pv 0) (pv 1)))) ae)) (aa (bC eD (pv 2) (pv 3)) ae)))))))),?_⟩
  refine aZ (σ:=[some (.ref p),some (.ref q),none,none,none]) rfl ?_;obtain ⟨M,h1⟩:=h1.rowM (by lia);obtain ⟨N,h2⟩:=h2.rowM (by lia);replace hp:=hp.rowK;replace hq:=hq.rowK;replace hl:(ys.map nm).length=(xs.map nm).length:=by simpa using hl
  replace hz:(xs.map nm).length<=1000:=by simpa using hz
  obtain ⟨b1,s1⟩:=h1.bot;obtain ⟨b2,s2⟩:=h2.bot;have k2:∀r H',aH H H'->H' r=some (.tup [.int (lo (Dx (xs.map nm) (ys.map nm)) (iI (xs.map nm)*iI (ys.map nm))),.int (hi (Dx (xs.map nm) (ys.map nm)) (iI (xs.map nm)*iI (ys.map nm)))])->Q (.ref r) H':=λr H' s g=>kk r H' s (bL.mk g (EZ b1 b2))
  clear kk;generalize xs.map nm=ns at hp hq hl hz h1 h2 b1 b2 s1 s2 k2;generalize ys.map nm=ms at hp hq hl hz h1 h2 b1 b2 s1 s2 k2;have hb:0 < iI ns*iI ms:=pM b1 b2;exists ⟨p,ns,M,rfl,hp,hz,h1,λH1 t1=>?_⟩;exists ⟨q,ms,N,rfl,hq.same t1,by lia,h2,λH2 t2=>?_⟩;have u2:=t1.trans t2;exists ⟨p,ns,M,_,rfl,hp.same u2,hz,h1,b1,s1,λr1 H3 n3 t3 g3=>?_⟩;exists ⟨q,ms,N,_,rfl,(hq.same u2).same t3,by lia,h2,b2,s2,λr2 H4 n4 t4 g4=>?_⟩;exists ⟨r1,r2,_,_,rfl,bB.of (t4 _ _ g3),bB.of g4,by simp [eH,hl],λL ts H5 t5 n5 g5 pr=>?_⟩;have lt:=pr.length;have ll:(eH ns (iI ns)).length=ns.length:=by simp [eH]
  have lm:(eH ms (iI ms)).length=ns.length:=by simp [eH,hl]
  rw[uN,av,av,ll,lm] at lt;exists ⟨⟨_,bB.of g5⟩,?_⟩;refine gD (K:=K) (xs:=ts) (λi ys H'=>H'=H5/\ys=((List.zipWith (λx y=>x*y) (eH ns (iI ns)) (eH ms (iI ms))).take i).map V.int) (aU (bp (by lia))) ⟨rfl,rfl⟩ (λi ys H' _ ⟨e,_⟩=>by subst e;exact bB.of g5) ?_ ?_
  ·rintro i x ys H' hx hlen ⟨rfl,rfl⟩;obtain ⟨pq,epq,T,rfl,gT⟩:=cO pr hx;obtain ⟨t,u,et,eu,rfl⟩:=DZ epq;exists ie (show jK _ _ from .inr ⟨_,_,xD h1 b1 s1 (aj et),xD h2 b2 s2 (aj eu),by decide⟩) ?_;have ez:(List.zipWith (λx y=>x*y) (eH ns (iI ns)) (eH ms (iI ms)))[i]?=some (t*u):=by rw[di,et,eu]
   exact ⟨rfl,by rw[take_snoc ez];simp⟩
  ·rintro ys H' hy ⟨rfl,rfl⟩ l hl';exists ⟨l,List.zipWith (λx y=>x*y) (eH ns (iI ns)) (eH ms (iI ms)),rfl,bB.of (by rw[aJ,aw (by rw[d6];lia)]),?_⟩;exists ie (show jK _ _ from .inr ⟨_,_,s1,s2,by decide⟩) ?_;exists ⟨_,_,rfl,by lia,(s1.mul s2).mono (by decide),λr H6 t6 g6=>?_⟩;rw[if_neg (by lia),if_neg (by lia)] at g6;exact k2 r H6 ((((u2.trans t3).trans t4).trans t5).trans ((aH.new hl').trans t6)) g6
theorem yZ:br ["grid","row"] ["grid","row"] (aL pY):=by walk_at "d"
theorem zl (T:Txt K mg Z):cC P w K mg base gV 5 Z.vU Z.vI ["grid","row"] (wu K):=by
 refine T.ot.F.ok yZ (λvs H Q E h=>?_) (λcdv A outer s H vs Q E hr h=>?_)
 ·obtain ⟨p,q,H0,rows,ys,rfl,_⟩:=h;rfl
 ·obtain ⟨p,q,H0,rows,ys,rfl,hp,hq,hz,hl,hr1,kk⟩:=h;refine ⟨_,(ax (be (bQ ["line"] ["row"] [1] (bW (pv 0)) (λ_=>(aK (i:=0) (show ND9 ["line","row"] by decide +kernel))) (λ_=>b0) (λ_=>(cn (tK T) hr T.kO (aa (pv 0) (aa (pv 1) ae))))))),?_⟩;refine aZ (σ:=[some (.ref p),some (.ref q)]) rfl ?_;obtain ⟨xs,gx,qx,_⟩:=id hp;exists ⟨⟨_,bB.of gx⟩,?_⟩;refine dj (K:=K) (F:=dG K H0) (bL K) (λxs=>cy xs ys) gx qx hz (λa b=>a.same b) (λa b=>a.same b) ?_ ?_
  ·rintro i ns x H' NY NN en s ⟨u,rfl,_,hu⟩ k;obtain ⟨e1,e2⟩:=hr1 ns (aj en);exists ⟨u,q,ns,ys,rfl,hu,hq.same s,e1.symm,by lia,e2,λr H2 s2 h2'=>k _ _ s2 h2'⟩
  ·rintro ys' H' r hr s g pr nx;exact kk r H' hr s ⟨ys',g,pr⟩
theorem sW:br ["self","state"] ["self","state"] (aL eL):=by walk_at "d"
theorem tP (T:Txt K mg Z):cC P w K mg base gV 6 Z.j9 Z.j7 ["self","state"] (xI K Z.a_System):=by
 refine T.nJ.ok sW (λvs H Q E h=>?_) (λcdv A outer s H vs Q E hr h=>?_)
 ·obtain ⟨x,p,H0,mv,pt,lk,st,rfl,_⟩:=h;rfl
 ·obtain ⟨x,p,H0,mv,pt,lk,st,rfl,S,D,hp,l1,fs,k⟩:=h;refine ⟨_,(ax (be (cn (zl T) hr T.ot (aa (eX (pv 0) rfl) (aa (pv 1) ae))))),?_⟩;refine aZ (σ:=[some (.ref x),some (.ref p)]) rfl ?_;obtain ⟨dx,a,b,c,gx,n1,n2,n3,Ga,Gb,Gc⟩:=id S;have d3:=D.o4;have d1:=D.n8;exists ⟨x,Z.a_System,dx,_,_,rfl,gx,T.cl_System,T.na_look,BW,?_⟩;exists ⟨c,p,H0,lk,st,rfl,Gc,hp,by lia,by lia,λxs hx=>⟨by rw[D.lw xs hx,l1],fs xs hx⟩,k⟩
theorem sU:br ["grid","wide"] ["grid","wide"] (aL jP):=by walk_at "d"
theorem l9 (T:Txt K mg Z):cC P w K mg base gV 1 Z.nB Z.mZ ["grid","wide"] (xG K):=by
 refine T.gL.F.ok sU (λvs H Q E h=>?_) (λcdv A outer s H vs Q E hr h=>?_)
 ·obtain ⟨p,w,H0,rows,rfl,_⟩:=h;rfl
 ·obtain ⟨p,w,H0,rows,rfl,hp,hz,hw,hl,kk⟩:=h;refine ⟨_,(ax (be (bQ ["place"] ["grid"] [0] (bP rfl T.range (aa (pv 1) ae)) (λ_=>(aK (i:=0) (show ND9 ["place","grid"] by decide +kernel) rfl (Or.inr rfl) (Or.inl rfl))) (λ_=>b0) (λ_=>(bQ ["line"] ["place"] [0] (tD K (pv 1)) (λ_=>(aK (i:=0) (show ND9 ["line","place"] by decide +kernel))) (λ_=>b0) (λ_=>(bg (oQ K (by rfl)) (pv 0) (pv 1)))))))),?_⟩;refine aZ (σ:=[some (.ref p),some (.int w)]) rfl ?_;exists ⟨by lia,by lia,?_⟩;refine gC (n:=w) (dG K H) (λj=>rows.map λxs=>xs.getD j 0) hw (λa b=>a.same b) ?_ ?_
  ·rintro j H1 NY NN hj s1 k1;obtain ⟨xs,gx,qx,_⟩:=hp.same s1;exists ⟨⟨_,bB.of gx⟩,?_⟩;refine dj (K:=K) (F:=dG K H0) (bL K) (λxs=>xs.getD j 0) gx qx hz (λa b=>a.same b) (λa b=>a.same b) ?_ ?_
   ·rintro i ns x H2 NY2 NN2 en s2 ⟨u,rfl,_,zs,gz,qz⟩ k2;obtain ⟨v,ev,hv⟩:=DP qz (j:=j) (by rw[hl ns (aj en)];exact hj);exists bT (bB.of gz) ev ?_;exact k2 _ _ (aH.refl _) hv
   ·rintro ys' H2 r hr s2 g pr nx;exact k1 _ _ s2 ⟨r,rfl,s1.none hr,ys',g,pr⟩
  ·rintro ys' H1 r hr s1 g pr nx;exact kk r H1 hr s1 ⟨ys',g,pr,mX nx⟩
theorem lD:br ["self","state","puts","columns"] ["self","state","puts"] (aL d7):=by walk_at "d"
theorem rK (T:Txt K mg Z):cC P w K mg base gV 5 Z.jt Z.js ["self","state","puts"] (vn K Z.a_System):=by
 refine T.mE.ok lD (λvs H Q E h=>?_) (λcdv A outer s H vs Q E hr h=>?_)
 ·obtain ⟨x,p,q,H0,mv,pt,lk,st,pu,rfl,_⟩:=h;rfl
 ·obtain ⟨x,p,q,H0,mv,pt,lk,st,pu,rfl,S,D,hp,hq,l1,l2,fs,k⟩:=h
  refine ⟨_,(ai (aV (i:=3) lD.nd rfl (Or.inl rfl) (cn (l9 T) hr T.gL (aa (eX (pv 0) rfl) (aa (eX (pv 0) rfl) ae))))
   (ax (be (bQ ["line","column"] ["state","puts"] [1,2] (EC rfl T.zip (aa (eX (pv 0) rfl) (aa (pv 3) ae))) (λ_=>(z9 K 2 (ck (aK (i:=0) (show ND9 ["line","column","state","puts"] by decide +kernel)) (ck (aK (i:=1) (show ND9 ["line","column","state","puts"] by decide +kernel)) iU)))) (λ_=>b0) (λ_=>(cn (tK T) hr T.kO (aa (bC jl (pv 0) (pv 1)) (aa (bC jl (pv 2) (pv 3)) ae)))))))),?_⟩
  refine aZ (σ:=[some (.ref x),some (.ref p),some (.ref q),none]) rfl ?_;obtain ⟨dx,a,b,c,gx,n1,n2,n3,Ga,Gb,Gc⟩:=id S;have d1:=D.n8;have d2:=D.i4;exists ⟨x,Z.a_System,dx,_,_,rfl,gx,T.cl_System,T.na_put,zW,?_⟩;exists ⟨x,Z.a_System,dx,_,_,rfl,gx,T.cl_System,T.na_states,nQ,?_⟩;exists ⟨b,mv.length,H0,pt,rfl,Gb,by lia,by lia,D.pw,λt H1 nt s1 Gt=>?_⟩;obtain ⟨as,ga,qa,_⟩:=Ga.same s1;obtain ⟨ts,gt,qt,_⟩:=id Gt;have la:=qa.length;have lt:=qt.length;rw[hR] at lt;have gx1:=s1 _ _ gx;exists ⟨x,Z.a_System,dx,_,_,rfl,gx1,T.cl_System,T.na_move,BV,?_⟩;exists ⟨⟨_,bB.of ga⟩,⟨_,bB.of gt⟩,?_⟩;refine DF (K:=K) (xs:=as) (ws:=ts) (λi ys H'=>aH H1 H'/\Paired (bL K H') ((cg mv pt st pu).take i) ys) (aU (bp (by lia))) (by lia) ⟨aH.refl _,.nil⟩ (λi ys H' _ ⟨s,_⟩=>⟨bB.of (s _ _ ga),bB.of (s _ _ gt)⟩) ?_ ?_
  ·rintro i v1 v2 ys H' r h1 h2 hy ⟨s,pr⟩ hr;obtain ⟨line,el,u1,rfl,_,R1⟩:=cO qa h1;obtain ⟨col,ec,u2,rfl,_,R2⟩:=cO qt h2;have ml:=aj el;have mc:=aj ec;have sr:aH H' (upd H' r (.tup [.ref u1,.ref u2])):=aH.new hr;have gr:(upd H' r (.tup [.ref u1,.ref u2])) r=some (.tup [.ref u1,.ref u2]):=aJ;have s2:=s.trans sr;generalize upd H' r (.tup [.ref u1,.ref u2])=H2 at sr gr s2 ⊢;have lc:col.length=pt.length:=vh col mc;have ll:line.length=mv.length:=D.mw line ml;obtain ⟨z1,g1,q1⟩:=R1.same s2;obtain ⟨z2,g2,q2⟩:=R2.same s2;have y1:=q1.length;have y2:=q2.length;exists ic g1 g2 (aU (bp (by lia))) λc1 H3 s3 n3' g3=>?_
   have s13:=s2.trans s3;obtain ⟨z3,g4,q3⟩:=(hp.same s1).same s13;obtain ⟨z4,g5,q4⟩:=(hq.same s1).same s13;have y3:=q3.length;have y4:=q4.length;exists ic g4 g5 (aU (bp (by lia))) λc2 H4 s4 n4 g6=>?_
   have s34:=s3.trans s4;exists ⟨c1,c2,line++col,st++pu,rfl,⟨_,s4 _ _ g3,Paired.imp' (λ_ _ z=>z.same s34) (b6 q1 q2)⟩,⟨_,g6,Paired.imp' (λ_ _ z=>z.same s4) (b6 q3 q4)⟩,by rw[aG,aG];lia,by rw[aG];lia,fs _ ?_,λr2 H5 s5 h5=>?_⟩
   ·intro y hy;rcases ar.mp hy with hy | hy
    ·exact .inl ⟨line,ml,hy⟩
    ·obtain ⟨j,_,rfl⟩:=ba.mp mc;obtain ⟨xs,hx,rfl⟩:=ba.mp hy;by_cases hj:j < xs.length
     ·refine .inr (.inl ⟨xs,hx,?_⟩);rw[aA,ao hj];exact a8 hj
     ·exact .inr (.inr (by rw[aA,b7 (by lia)];rfl))
   ·have em:(cg mv pt st pu)[i]?=some (cy (line++col) (st++pu)):=by
     unfold cg;rw[di,el,ec]
    refine ⟨((s2.trans s34).trans s5),?_⟩;rw[take_snoc em];exact b6 (Paired.imp' (λ_ _ z=>(z.same (sr.trans s34)).same s5) pr) (.cons h5 .nil)
  ·rintro ys H' hy ⟨s,pr⟩ l hl;have lm:(cg mv pt st pu).length=mv.length:=by unfold cg;rw[d6,hR];lia
   rw[aw (by lia)] at pr;exact k l _ (s1.none (s.none hl)) ((s1.trans s).trans (aH.new hl)) ⟨ys,aJ,Paired.imp' (λ_ _ z=>z.same (aH.new hl)) pr⟩
theorem pV:br ["system","start","puts","states","row"] ["system","start","puts"] (aL tm):=by walk_at "d"
theorem A2 (T:Txt K mg Z):cC P w K mg base gV 6 Z.yH Z.yy ["system","start","puts"] (Cj K Z.a_System):=by
 refine T.qg.F.ok pV (λvs H Q E h=>?_) (λcdv A outer s H vs Q E hr h=>?_)
 ·obtain ⟨x,s,p,H0,H1,mv,pt,lk,pus,st,rfl,_⟩:=h;rfl
 ·obtain ⟨x,s,p,H0,H1,mv,pt,lk,pus,st,rfl,S,D,Rs,ls,Gp,lp,wp,cf,k⟩:=h
  refine ⟨_,(ai (aV (i:=3) pV.nd rfl (Or.inl rfl) (dM (aa (fw pj (by rfl) T.list PyProof.Rows.boot_list (aa (pv 1) ae)) ae)))
   (ai (cZ PassesOwn.never rfl (bW (pv 2)) (aK (i:=4) pV.nd)
    (ax (fU (oG b8 bZ bY fz (pv 3) (aa (Aa (pv 0) T.cl_System T.lE (rK T) (hr.mono (by decide)) T.mB .nil Ad (aa (bg bz (pv 3) (xZ sL ag)) (aa (pv 4) ae))) ae)))))
   (ax (be (pv 3))))),?_⟩
  refine aZ (σ:=[some (.ref x),some (.ref s),some (.ref p),none,none]) rfl ?_;have d1:=D.n8;obtain ⟨ss,gs,qs⟩:=id Rs;obtain ⟨ps,gp,qp,_⟩:=id Gp;have lps:=qp.length;exists ⟨s,ss,rfl,.inl (bB.of gs),λc hc=>?_⟩;have sc:aH H (upd H c (.lst ss)):=aH.new hc;have Rc:cB K (upd H c (.lst ss)) c st:=⟨ss,aJ,Paired.imp' (λ_ _ z=>z.same sc) qs⟩;generalize upd H c (.lst ss)=Hc at sc Rc ⊢;exists cS λl Hl sl nl gl=>?_
  have hl0:=sc.none nl;have s0:=sc.trans sl;have cl:c≠l:=λz=>by obtain ⟨_,g,_⟩:=Rc;rw[z,nl] at g;cases g
  have pr0:Paired (jy K H l Hl) ((dR mv pt st pus).take 1) [V.ref c]:=by
   have:(dR mv pt st pus).take 1=[st]:=by
    have e:=take_snoc (mQ (mv:=mv) (pt:=pt) (st:=st) (pus:=pus) (k:=0) (bJ _));rw[e];rfl
   rw[this];exact .cons ⟨c,rfl,hc,cl,Rc.same sl⟩ .nil
  exists ⟨⟨_,bB.of (s0 _ _ gp)⟩,?_⟩;refine ed (K:=K) (a:=p) (xs:=ps) (λi σ' H'=>aH H H'/\(∃y ys,σ'=[some (.ref x),some (.ref s),some (.ref p),some (.ref l),y]/\H' l=some (.lst ys)/\Paired (jy K H l H') ((dR mv pt st pus).take (i+1)) ys)) ⟨s0,_,_,rfl,gl,pr0⟩ (λi σ' H' _ ⟨e,_⟩=>bB.of (e _ _ gp)) ?_ ?_
  ·rintro i v σ' H' hv ⟨e,y,ys,rfl,g,pr⟩;obtain ⟨pu,epu,u,rfl,_,Ru⟩:=cO qp hv;have hi:i < pus.length:=(aF.mp epu).1;have mp:=aj epu;have ly:=pr.length;rw[dq,k9] at ly;have ec:=mQ (mv:=mv) (pt:=pt) (st:=st) (pus:=pus) (k:=i) (by lia);have el:ys[i]?=some (ys[i]'(by lia)):=ao (by lia)
   obtain ⟨vl,evl,q,hq1,hq2,hq3,Rq⟩:∃vl,ys[i]?=some vl/\∃q,vl=V.ref q/\H q=none/\q≠l/\cB K H' q (oA mv pt st pus i):=by
    obtain ⟨xs,ex,w⟩:=cO pr el;rw[Ih (by lia),ec] at ex;cases ex;exact ⟨_,el,w⟩
   subst hq1
   have ey:∃zs,ys=zs++[V.ref q]:=by
    refine ⟨ys.take i,?_⟩;rw[<- take_snoc evl,aw (by lia)]
   obtain ⟨zs,rfl⟩:=ey;exists ⟨.inl ⟨rfl,_,bB.of g⟩,?_⟩;walk_at "w";obtain ⟨dx,_,_,_,gx,_⟩:=S.same e;refine ⟨x,dx,_,rfl,gx,AK,?_⟩;exists bT (bB.of g) (DJ _ _) ?_;exists ⟨x,q,u,H0,mv,pt,lk,_,pu,rfl,S.same e,D,Rq,Ru.same e,ks ls (by lia),wp pu mp,cf i pu epu,λr1 H2 n2 s2 R2=>?_⟩;have gn:=s2 _ _ g;exists fu gn (bp (by lia)) ?_;refine ⟨vp (e.trans s2) hl0,_,_,rfl,aJ,?_⟩;rw[take_snoc (mQ (by lia)),ka epu];have rl:r1≠l:=λz=>by rw[z,g] at n2;cases n2
   exact b6 (Paired.imp' (λ_ _ z=>(jy.same z s2).upd gn) pr) (.cons ⟨r1,rfl,e.none n2,rl,R2.updL gn rl⟩ .nil)
  ·rintro σ' H' ⟨e,y,ys,rfl,g,pr⟩;walk_at "w";rw[aw (by rw[k9];lia)] at pr;exact k l H' hl0 e ⟨ys,g,Paired.imp' (λ_ _ z=>jy.rowF z) pr,tu pr⟩
theorem sT:br ["system","start","puts"] ["system","start","puts"] (aL jO):=by walk_at "d"
theorem tL (T:Txt K mg Z):cC P w K mg base gV 7 Z.nA Z.mY ["system","start","puts"] (Cd K Z.a_System):=by
 refine T.jo.F.ok sT (λvs H Q E h=>?_) (λcdv A outer s H vs Q E hr h=>?_)
 ·obtain ⟨x,s,p,H0,H1,mv,pt,lk,pus,st,rfl,_⟩:=h;rfl
 ·obtain ⟨x,s,p,H0,H1,mv,pt,lk,pus,st,rfl,S,D,Rs,ls,Gp,lp,wp,cf,cl,k⟩:=h;refine ⟨_,(ax (be (bQ ["state"] ["system"] [0] (bW (cn (A2 T) hr T.qg (aa (pv 0) (aa (pv 1) (aa (pv 2) ae))))) (λ_=>(aK (i:=0) (show ND9 ["state","system"] by decide +kernel))) (λ_=>b0) (λ_=>(Aa (pv 1) T.cl_System T.me (tP T) (hr.mono (by decide)) T.nk .nil Ad (aa (pv 0) ae)))))),?_⟩;refine aZ (σ:=[some (.ref x),some (.ref s),some (.ref p)]) rfl ?_;exists ⟨x,s,p,H0,H1,mv,pt,lk,pus,st,rfl,S,D,Rs,ls,Gp,lp,wp,cf,λr Hr nr sr Gr=>?_⟩;obtain ⟨cs,gc,qc,_⟩:=id Gr;exists ⟨⟨_,bB.of gc⟩,?_⟩;refine dj (K:=K) (as:=dR mv pt st pus) (F:=dG K H) (dG K H) (L2.seenQ lk) gc qc (by rw[k9];lia) (λa b=>a.same b) (λa b=>a.same b) ?_ ?_
  ·rintro i xs v H' NY NN ec s' ⟨u,rfl,_,R⟩ k1;have mx:=aj ec;obtain ⟨dx,_,_,_,gx,_⟩:=S.same (sr.trans s');exists ⟨x,dx,_,rfl,gx,BS,?_⟩;exists ⟨x,u,H0,mv,pt,lk,xs,rfl,S.same (sr.trans s'),D,R,DE ls xs mx,cl xs mx,λr2 H2 n2 s2 R2=>k1 _ _ s2 ⟨r2,rfl,sr.none (s'.none n2),R2⟩⟩
  ·rintro ys H2 r2 hr s2 g2 pr nx;exact k r2 H2 (sr.none hr) (sr.trans s2) ⟨ys,g2,pr,mX nx⟩
theorem pT:br ["system","steps","nothing","runs"] ["system","steps"] (aL sX):=by walk_at "d"
theorem vB (T:Txt K mg Z):cC P w K mg base gV 8 Z.yE Z.yu ["system","steps"] (Ca K Z.a_System):=by
 refine T.mM.F.ok pT (λvs H Q E h=>?_) (λcdv A outer s H vs Q E hr h=>?_)
 ·obtain ⟨x,tt,H0,mv,pt,lk,rfl,_⟩:=h;rfl
 ·obtain ⟨x,tt,H0,mv,pt,lk,rfl,S,D,t16,cf,k⟩:=h;have st9:∀p∈pt,∀t,t<=tt - 1->oA mv pt p (List.replicate (tt - 1) (gW pt.length)) t=dX mv t p:=λp mp t ht=>by rw[yT ht,t8 D.mw (D.pw p mp)]
  have cf9:∀p∈pt,∀k pu,(List.replicate (tt - 1) (gW pt.length))[k]?=some pu->JM mv pt (oA mv pt p (List.replicate (tt - 1) (gW pt.length)) k) pu:=λp mp k pu e=>by
   obtain ⟨h1,h2⟩:=aF.mp e;rw[aT] at h1;rw[List.getElem_replicate] at h2;rw[st9 p mp k (by lia),<- h2];exact (cf p mp k (by lia)).1
  have cl9:∀p∈pt,∀xs∈dR mv pt p (List.replicate (tt - 1) (gW pt.length)),∀l∈lk,rO l xs:=λp mp xs hx=>by
   unfold dR at hx;obtain ⟨t,ht,rfl⟩:=ba.mp hx;rw[nO,aT] at ht;rw[st9 p mp t (by lia)];exact (cf p mp t (by lia)).2.1
  refine ⟨_,(ai (aV (i:=2) pT.nd rfl (Or.inr rfl) (bQ ["step"] ["system"] [0] (bP rfl T.range (aa (bC jV (pv 1) ag) ae)) (λ_=>(aK (i:=0) (show ND9 ["step","system"] by decide +kernel))) (λ_=>b0) (λ_=>(cn (uQ T) hr T.jZ (aa (Ab K (pv 1) rfl) ae)))))
   (ai (aV (i:=3) pT.nd rfl (Or.inr rfl) (bQ ["row"] ["system","nothing"] [0,2] (bW (eX (pv 0) rfl)) (λ_=>(aK (i:=0) (show ND9 ["row","system","nothing"] by decide +kernel))) (λ_=>b0) (λ_=>(cn (tL T) hr T.jo (aa (pv 1) (aa (pv 0) (aa (pv 2) ae)))))))
   (ax (be (bQ ["time"] ["runs","system"] [3,0] (bP rfl T.range (aa (pv 1) ae)) (λ_=>(aK (i:=0) (show ND9 ["time","runs","system"] by decide +kernel) rfl (Or.inr rfl) (Or.inl rfl))) (λ_=>b0) (λ_=>(cn (l9 T) hr T.gL (aa (bQ ["run"] ["time"] [0] (tD K (pv 1)) (λ_=>(aK (i:=0) (show ND9 ["run","time"] by decide +kernel))) (λ_=>b0) (λ_=>(bg (oQ K (by rfl)) (pv 0) (pv 1)))) (aa (Ab K (pv 2) rfl) ae))))))))),?_⟩
  refine aZ (σ:=[some (.ref x),some (.int tt),none,none]) rfl ?_;have d1:=D.n8;have d2:=D.i4;have d3:=D.o4;obtain ⟨dx,a,b,c,gx,n1,n2,n3,Ga,Gb,Gc⟩:=id S;exists ⟨by lia,by lia,?_⟩;refine gC (n:=((tt:Int) - 1).toNat) (dG K H) (λ_=>gW pt.length) (by lia) (λa b=>a.same b) ?_ ?_
  ·rintro i Ha NY NN hi sa k1;exists ⟨x,Z.a_System,dx,_,_,rfl,sa _ _ gx,T.cl_System,T.na_ins,wt,?_⟩;exists ⟨pt.length,rfl,by lia,λr Hb nr sb Rb=>k1 _ _ sb ⟨r,rfl,sa.none nr,Rb⟩⟩
  rintro ys1 H1 no hno s1 g1 pr1 nx1
  have e1:(List.range ((tt:Int) - 1).toNat).map (λ_=>gW pt.length)=List.replicate (tt - 1) (gW pt.length):=by
   rw[DV,cw];congr 1
   lia
  rw[e1] at pr1 nx1;have Gn:bO K H H1 no (List.replicate (tt - 1) (gW pt.length)):=⟨ys1,g1,pr1,mX nx1⟩;clear g1 pr1 nx1 e1;exists ⟨x,Z.a_System,dx,_,_,rfl,s1 _ _ gx,T.cl_System,T.na_put,zW,?_⟩;obtain ⟨bs,gb,qb,_⟩:=Gb.same s1;exists ⟨⟨_,bB.of gb⟩,?_⟩;refine dj (K:=K) (as:=pt) (F:=dG K H0) (λH' (g:LR9) v=>∃q,v=V.ref q/\bO K H H' q g) (λp=>(dR mv pt p (List.replicate (tt - 1) (gW pt.length))).map (L2.seenQ lk)) gb qb (by lia) (λa b=>a.same b) (λ⟨q,e,g⟩ s=>⟨q,e,g.same s⟩) ?_ ?_
  ·rintro i p v H' NY NN ec s' ⟨u,rfl,_,R⟩ k1;have mp:=aj ec;exists ⟨x,u,no,H0,H,mv,pt,lk,_,p,rfl,S.same (s1.trans s'),D,R,D.pw p mp,Gn.same s',by rw[aT];lia,λxs hx=>by rw[iR hx,oq],cf9 p mp,cl9 p mp,λr Hb nr sb Gb'=>k1 _ _ sb ⟨r,rfl,Gb'.weak (s1.trans s')⟩⟩
  rintro ys2 H2 ru hru s2 g2 pr2 nx2;have s02:=s1.trans s2;clear nx2;exists ⟨by lia,by lia,?_⟩;refine lh (n:=tt) (λi ys H'=>aH H2 H'/\Paired (vY K H H') (fv mv pt lk i) ys) (aU (bp (by lia))) ⟨aH.refl _,.nil⟩ ?_ ?_
  ·rintro i ys H' hi hlen ⟨s',pr⟩;rw[sJ];exists ⟨⟨_,bB.of (s' _ _ g2)⟩,?_⟩;refine dj (K:=K) (F:=λH' (g:LR9) v=>∃q,v=V.ref q/\bO K H H' q g) (dG K H) (λg=>g.getD i []) (s' _ _ g2) (Paired.imp' (λ_ _ ⟨q,e,g⟩=>⟨q,e,g.same s'⟩) pr2) (by rw[av];lia) (λ⟨q,e,g⟩ s=>⟨q,e,g.same s⟩) (λa b=>a.same b) ?_ ?_
   ·rintro j g v Hx NY NN eg sx ⟨q,rfl,G⟩ k1;obtain ⟨p,hp,rfl⟩:=ba.mp (aj eg);obtain ⟨ws,gw,qw,_⟩:=id G;obtain ⟨xr,vx,ex,evx,mx,qx,rfl,nq,Rx⟩:=dz qw (i:=i) (by rw[av,k9,aT];lia);exists bT (bB.of gw) (cM evx) ?_;refine k1 _ _ (aH.refl _) ⟨qx,rfl,nq,?_⟩;rw[aA,ex];exact Rx
   rintro ys3 H3 c3 hc3 s3 g3 pr3 nx3;have s03:=(s02.trans s').trans s3;exists ⟨x,Z.a_System,dx,_,_,rfl,s03 _ _ gx,T.cl_System,T.na_outs,sO,?_⟩;walk_at "w"
   have er:∀p,((dR mv pt p (List.replicate (tt - 1) (gW pt.length))).map (L2.seenQ lk)).getD i []=L2.seenQ lk (oR mv pt i p):=λp=>by
    rw[aA,aY,mQ (by rw[aT];lia),yT (by lia)];rfl
   have em:(pt.map λp=>(dR mv pt p (List.replicate (tt - 1) (gW pt.length))).map (L2.seenQ lk)).map (λg=>g.getD i [])=pt.map λp=>L2.seenQ lk (oR mv pt i p):=by
    rw[mT];exact d5 λp _=>er p
   rw[em] at pr3 nx3;refine ⟨c3,lk.length,H,_,rfl,⟨ys3,g3,pr3,mX nx3⟩,by rw[av];lia,by lia,λxs hx=>by obtain ⟨p,_,rfl⟩:=ba.mp hx;exact av ..,λt H4 nt s4 Gt=>?_⟩;rw[Ez] at Gt;have s34:=s3.trans s4;have e1:fv mv pt lk (i+1)=fv mv pt lk i++[tw mv pt lk i]:=by unfold fv;rw[uM,cF];rfl
   refine ⟨s'.trans s34,?_⟩
   ·rw[e1];exact b6 (Paired.imp' (λ_ _ z=>z.same s34) pr) (.cons ⟨t,rfl,s03.none nt,Gt.weak s03⟩ .nil)
  ·rintro ys H' hy ⟨s',pr⟩ p hp;have sn:aH H' (upd H' p (.lst ys)):=aH.new hp;exact k p _ ((s02.trans s').none hp) ((s02.trans s').trans sn) ⟨ys,aJ,Paired.imp' (λ_ _ z=>z.same sn) pr⟩
theorem iM:br ["one","other","place","pair"] ["one","other"] (aL ji):=by walk_at "d"
theorem iO (T:Txt K mg Z):cC P w K mg base gV 1 Z.mC Z.my ["one","other"] (Cf K):=by
 refine T.eJ.F.ok iM (λvs H Q E h=>?_) (λcdv A outer s H vs Q E hr h=>?_)
 ·obtain ⟨α,dα,κ,p,q,us,ws,as,bs,rfl,_⟩:=h;rfl
 ·obtain ⟨α,dα,κ,p,q,us,ws,as,bs,rfl,gp,gq,pa,pb,le,kd,k⟩:=h
  refine ⟨_,(ai (cZ PassesOwn.never rfl (IU rfl T.enumerate rfl T.zip (aa (pv 0) (aa (pv 1) ae))) (p6 rfl (ck (aK (i:=2) iM.nd) (ck (aK (i:=3) iM.nd) iU)))
    (ax (cG (aX (zj (Dd hr)) (bg bX (pv 3) ag) (bg bX (pv 3) ag) (bf _)) (ax (be (pv 2))) bH)))
   (ax (be l8))),?_⟩
  refine aZ (σ:=[some (.ref p),some (.ref q),none,none]) rfl ?_;have l1:=pa.length;have l2:=pb.length;exists ⟨⟨_,bB.of gp⟩,⟨_,bB.of gq⟩,?_⟩;refine HF (K:=K) (xs:=us) (ws:=ws) (λi σ' H'=>aH H H'/\as.take i=bs.take i/\∃y z,σ'=[some (.ref p),some (.ref q),y,z]) (by lia) ⟨aH.refl _,rfl,_,_,rfl⟩ (λi σ' H' _ ⟨e,_⟩=>⟨bB.of (e _ _ gp),bB.of (e _ _ gq)⟩) ?_ ?_
  rotate_left
  ·rintro σ' H' ⟨s',e,y,z,rfl⟩;rw[aw (by lia),aw (by lia)] at e;have:=k H' s';rw[e,Ak] at this;exists this
  rintro i x y σ' H' r t ex ey ⟨s',e,y1,z1,rfl⟩ nt nr ne;obtain ⟨a,ea,ra⟩:=cO pa ex;obtain ⟨b,eb,rb⟩:=cO pb ey;have s1:aH H' (upd H' t (.tup [x,y])):=aH.new nt;have g1:(upd H' t (.tup [x,y])) t=some (.tup [x,y]):=aJ;have nr':(upd H' t (.tup [x,y])) r=none:=by rw[aN ne];exact nr
  generalize upd H' t (.tup [x,y])=H1 at s1 g1 nr' ⊢;have s2:aH H1 (upd H1 r (.tup [.int i,.ref t])):=aH.new nr';have g2:(upd H1 r (.tup [.int i,.ref t])) r=some (.tup [.int i,.ref t]):=aJ;generalize upd H1 r (.tup [.int i,.ref t])=H2 at s2 g2 ⊢;have g12:=s2 _ _ g1;have s02:=(s'.trans s1).trans s2;exists ⟨α,dα,κ,a,b,kd,ra _ s02,rb _ s02,?_⟩;by_cases e9:a=b
  ·rw[decide_eq_true e9];exists ⟨s02,by rw[take_snoc ea,take_snoc eb,e,e9],_,_,rfl⟩
  ·rw[decide_eq_false e9];walk_at "w";have:=k H2 s02;rw[yn ea eb e e9] at this;exact this
  
theorem kb:br ["one","other","steps","mine","yours","time","look"] ["one","other"] (aL wK):=by walk_at "d"
theorem tM (T:Txt K mg Z):cC P w K mg base (FQ P w) 9 Z.Az Z.Au ["one","other"] (Cq K Z.a_System Z.a_NoFit):=by
 refine T.fe.F.okX kb (λvs H Q E h=>?_) (λcdv A outer s H vs Q E hr h=>?_)
 ·obtain ⟨x,y,H0,H1,mv,pt,lk,mv2,pt2,lk2,rfl,_⟩:=h;rfl
 ·obtain ⟨x,y,H0,H1,mv,pt,lk,mv2,pt2,lk2,rfl,S1,S2,D1,D2,Z1,Z2,kF,kQ⟩:=h
  refine ⟨_,(ai (cG (PW.pt (oC (aX vw (eX (pv 0) rfl) (eX (pv 1) rfl) (bf _)) (kH (aX vw (eX (pv 0) rfl) (eX (pv 1) rfl) (bf _))))) (ax (AV yS rfl rfl T.mg_NoFit T.ex_NoFit)) bH)
   (ai (aV (i:=2) kb.nd rfl (Or.inl rfl) (bC d9 (eX (pv 0) rfl) (eX (pv 1) rfl)))
   (ai (aV (i:=3) kb.nd rfl (Or.inl rfl) (cn (vB T) hr T.mM (aa (pv 0) (aa (pv 2) ae))))
   (ai (aV (i:=4) kb.nd rfl (Or.inl rfl) (cn (vB T) hr T.mM (aa (pv 1) (aa (pv 2) ae))))
   (ai (aV (i:=5) kb.nd rfl (Or.inl rfl) (cn (iO T) hr T.eJ (aa (pv 3) (aa (pv 4) ae))))
   (ai (cG (aX zk (pv 5) l8 (bf _)) (ax (be l8)) bH)
   (ai (aV (i:=6) kb.nd rfl (Or.inl rfl) (cn (iO T) hr T.eJ (aa (bg bz (pv 3) (pv 5)) (aa (bg bz (pv 4) (pv 5)) ae))))
   (ax (be (bU (aa (pv 5) (aa (pv 6) (aa (cn (iO T) hr T.eJ (aa (bg bz (bg bz (pv 3) (pv 5)) (pv 6)) (aa (bg bz (bg bz (pv 4) (pv 5)) (pv 6)) ae))) ae))))))))))))),?_⟩
  refine aZ (σ:=[some (.ref x),some (.ref y),none,none,none,none,none]) rfl ?_;obtain ⟨dx,xa,xb,xc,gx,n1,n2,n3,Ga,Gb,Gc⟩:=id S1;obtain ⟨dy,ya,yb,yc,gy,m1,m2,m3,Ha,Hb,Hc⟩:=id S2;have d1:=D1.n8;have d2:=D2.n8;exists ⟨x,Z.a_System,dx,_,_,rfl,gx,T.cl_System,T.na_ins,wt,?_⟩;exists ⟨y,Z.a_System,dy,_,_,rfl,gy,T.cl_System,T.na_ins,wt,?_⟩;walk_at "w";by_cases e1:pt.length=pt2.length
  rotate_left
  ·rw[decide_eq_false (show ¬((pt.length:Int)=(pt2.length:Int)) by lia)];exists kF λz=>e1 z.1
  rw[decide_eq_true (show ((pt.length:Int)=(pt2.length:Int)) by lia)];exists ⟨x,Z.a_System,dx,_,_,rfl,gx,T.cl_System,T.na_outs,sO,?_⟩;exists ⟨y,Z.a_System,dy,_,_,rfl,gy,T.cl_System,T.na_outs,sO,?_⟩;walk_at "w";by_cases e2:lk.length=lk2.length
  rotate_left
  ·rw[decide_eq_false (show ¬((lk.length:Int)=(lk2.length:Int)) by lia)];exists kF λz=>e2 z.2
  rw[decide_eq_true (show ((lk.length:Int)=(lk2.length:Int)) by lia)];replace kQ:=kQ e1 e2;exists ⟨x,Z.a_System,dx,_,_,rfl,gx,T.cl_System,T.na_states,nQ,?_⟩;exists ⟨y,Z.a_System,dy,_,_,rfl,gy,T.cl_System,T.na_states,nQ,?_⟩;walk_at "w";rw[show ((mv.length:Int)+(mv2.length:Int))=((mv.length+mv2.length:Nat):Int) by lia];refine ⟨x,mv.length+mv2.length,H0,mv,pt,lk,rfl,S1,D1,by lia,Z1,λr1 Ha n1 s1 G1=>?_⟩;exists ⟨y,mv.length+mv2.length,H1,mv2,pt2,lk2,rfl,S2.same s1,D2,by lia,Z2,λr2 Hb n2 s2 G2=>?_⟩;have s02:=s1.trans s2;replace G1:=G1.same s2;obtain ⟨us,g1,q1⟩:=id G1;obtain ⟨ws,g2,q2⟩:=id G2;have sh:=yX (mv:=mv) (pt:=pt) (lk:=lk) (mv2:=mv2) (T:=mv.length+mv2.length) e1 e2;generalize fv mv pt lk (mv.length+mv2.length)=gs at q1 sh kQ;generalize fv mv2 pt2 lk2 (mv.length+mv2.length)=hs at q2 sh kQ;have le:=sh.1;exists ⟨_,_,zy,r1,r2,us,ws,gs,hs,rfl,g1,g2,Paired.imp' (λg v ⟨q,a,_,c⟩ H' s'=>by rw[a];exact (c.same s').kind) q1,Paired.imp' (λg v ⟨q,a,_,c⟩ H' s'=>by rw[a];exact (c.same s').kind) q2,le,by decide,λH3 s3=>?_⟩;have s03:=s02.trans s3;by_cases eg:gs=hs
  ·subst eg;rw[Ak,show Jk none=V.non from rfl];exists ⟨rfl,?_⟩;rw[decide_eq_true rfl];exists kQ .non H3 s03 (by rw[Ax];rfl)
  obtain ⟨t,g,h,ft,eg1,eh1,n1',tk1⟩:=kY le eg;rw[ft,show Jk (some t)=V.int (t:Nat) from rfl];exists ⟨rfl,?_⟩;rw[decide_eq_false (λz=>nomatch z)];obtain ⟨x1,ux,q1x⟩:=mK q1 eg1;obtain ⟨y1,uy,q2y⟩:=mK q2 eh1;obtain ⟨a1,rfl,_,⟨us1,ga1,qa1,_⟩⟩:=q1x;obtain ⟨a2,rfl,_,⟨ws1,ga2,qa2,_⟩⟩:=q2y;have g13:=s3 _ _ g1;have g23:=s3 _ _ g2;obtain ⟨le1,sh1⟩:=sh.2 t g h eg1 eh1;exists bT (bB.of g13) (cM ux) ?_;exists bT (bB.of g23) (cM uy) ?_;exists ⟨_,_,C6,a1,a2,us1,ws1,g,h,rfl,s3 _ _ ga1,s3 _ _ ga2,Paired.imp' (λg v ⟨q,a,_,c⟩ H' s'=>by rw[a];exact ((c.same s3).same s').kind) qa1,Paired.imp' (λg v ⟨q,a,_,c⟩ H' s'=>by rw[a];exact ((c.same s3).same s').kind) qa2,le1,by decide,λH4 s4=>?_⟩;obtain ⟨l,xl,yl,fl,el1,el2,n2',tk2⟩:=kY le1 n1';rw[fl,show Jk (some l)=V.int (l:Nat) from rfl];have s34:=s3.trans s4;obtain ⟨x2,ux2,q1x⟩:=mK qa1 el1;obtain ⟨y2,uy2,q2y⟩:=mK qa2 el2;obtain ⟨b1,rfl,_,⟨us2,gb1,qb1⟩⟩:=q1x;obtain ⟨b2,rfl,_,⟨ws2,gb2,qb2⟩⟩:=q2y;exists bT (bB.of (s34 _ _ g1)) (cM ux) ?_;exists bT (bB.of (s34 _ _ ga1)) (cM ux2) ?_;exists bT (bB.of (s34 _ _ g2)) (cM uy) ?_;exists bT (bB.of (s34 _ _ ga2)) (cM uy2) ?_;walk_at "w";have le2:=sh1 l xl yl el1 el2;refine ⟨_,_,C9,b1,b2,us2,ws2,xl,yl,rfl,s34 _ _ gb1,s34 _ _ gb2,Paired.imp' (λ_ _ c (H':Hp) s'=>bL.same (bL.same c s34) s') qb1,Paired.imp' (λ_ _ c (H':Hp) s'=>bL.same (bL.same c s34) s') qb2,le2,by decide,λH5 s5=>?_⟩;obtain ⟨p,a,b,fp,ep1,ep2,n3',tk3⟩:=kY le2 n2';rw[fp,show Jk (some p)=V.int (p:Nat) from rfl];exists bx λr H6 s6 g6=>?_
  exact kQ _ H6 (((s03.trans s4).trans s5).trans s6) (by rw[DK eg1 eh1 tk1 el1 el2 tk2 ep1 ep2 tk3 n3'];exact ⟨r,rfl,g6⟩)
  
theorem kx:br ["_law_one","_law_other_here","_law_found","e"] ["_law_one","_law_other_here"] (aL lT):=by walk_at "d"
theorem oK (T:Txt K mg Z):cC P w K mg base gV 10 Z.qY Z.qL ["_law_one","_law_other_here"] (yV K Z.a_System):=by
 refine T.iX.F.ok kx (λvs H Q E h=>?_) (λcdv A outer s H vs Q E hr h=>?_)
 ·obtain ⟨x,y,H0,H1,mv,pt,lk,mv2,pt2,lk2,rfl,_⟩:=h;rfl
 ·obtain ⟨x,y,H0,H1,mv,pt,lk,mv2,pt2,lk2,rfl,S1,S2,D1,D2,Z1,Z2,kN,kT⟩:=h
  refine ⟨_,(ai (GJ rfl rfl (λ_ _ _ hX=>(ax (aV (i:=2) kx.nd rfl (Or.inl rfl) (CO (tM T) (hr.mono (by decide)) rfl T.fe.m T.fe.F.kp T.fe.b .nil hX (aa (pv 0) (aa (pv 1) ae))))))
   (Jg (i:=3) rfl rfl T.mg_NoFit kx.nd rfl rfl (λ_=>(ax (be (bU (aa p7 (aa (EH rfl T.isinstance rfl T.mg_SumError (pv 3)) ae)))))) Hu))
   (ax (be (bU (aa p7 (aa (pv 2) ae)))))),?_⟩
  refine aZ (σ:=[some (.ref x),some (.ref y),none,none]) rfl ?_;exists Gf ?_;exists CH ?_;exists ⟨x,y,H0,H1,mv,pt,lk,mv2,pt2,lk2,rfl,S1,S2,D1,D2,Z1,Z2,λno=>?_,λe1 e2 v H' s' a'=>?_⟩
  ·refine .inl ⟨T.xm_NoFit_NoFit,λea hea=>?_⟩;have se:aH H (upd H ea (Du ea (.ref Z.a_NoFit) none)):=aH.new hea;have ge:(upd H ea (Du ea (.ref Z.a_NoFit) none)) ea=some (Du ea (.ref Z.a_NoFit) none):=aJ;generalize upd H ea (Du ea (.ref Z.a_NoFit) none)=He at se ge ⊢;exists ⟨ea,.ref Z.a_NoFit,none,rfl,ge,.inl ⟨T.ki_NoFit_SumError,?_⟩⟩;show wo _ _ _
   exists bx λt H2 s2 g2=>?_
   exact kN no t H2 (se.trans s2) g2
  ·exists bx λt H2 s2 g2=>?_
   exact kT e1 e2 t v H2 (s'.trans s2) g2 (a'.same s2)
theorem wG:br ["_law_bag_here","_law_parts_here","_law_steps","_law_wide"] ["_law_bag_here","_law_parts_here","_law_steps","_law_wide"] (aL lV):=by walk_at "d"
theorem wQ (T:Txt K mg Z):cC P w K mg base gV 4 Z.rg Z.qN ["_law_bag_here","_law_parts_here","_law_steps","_law_wide"] (xJ K):=by
 refine T.kR.F.ok wG (λvs H Q E h=>?_) (λcdv A outer s H vs Q E hr h=>?_)
 ·obtain ⟨b,r,tt,w,H0,mv,pt,lk,rfl,_⟩:=h;rfl
 ·obtain ⟨b,r,tt,w,H0,mv,pt,lk,rfl,hT,w1,w2,hB,nb,PQ,D,k⟩:=h;refine ⟨_,(ax (be (bQ ["_law_turn"] ["_law_bag_here","_law_parts_here","_law_wide"] [0,1,3] (bP rfl T.range (aa (pv 2) ae)) (λ_=>(aK (i:=0) (show ND9 ["_law_turn","_law_bag_here","_law_parts_here","_law_wide"] by decide +kernel))) (λ_=>b0) (λ_=>(cn (jB T) hr T.fh (aa (pv 1) (aa (bE (uW K (by rfl)) (by rfl) T.len bc (aa (bg (oP K (by rfl)) (pv 2) ag) ae)) (aa (pv 3) ae)))))))),?_⟩;refine aZ (σ:=[some (.ref b),some (.ref r),some (.int tt),some (.int w)]) rfl ?_;have i4:=D.i4;exists ⟨by lia,by lia,?_⟩
  refine qo (n:=tt) (b:=b) (dG K H) (λxs=>xs.length=pt.length/\∀x∈xs,Dr (max w 6) x) hB (by lia) (λ{H' H'' c x} a u B=>by
   obtain ⟨q,e,nq,R⟩:=a;exact ⟨q,e,nq,R.upto u B (λz=>hB.at (by rw[<- z];exact nq))⟩) ?_ ?_
  ·rintro i Ha NY NN hi ua Ba k1;obtain ⟨m,p,l,g,n1,n2,n3,Gm,Gp,Gl⟩:=PQ.upto ua hB nb;obtain ⟨up,gp,qp,_⟩:=id Gp;have lup:=qp.length;exists ⟨_,_,rfl,.inl (bB.of gp),?_⟩;rw[<- lup];exists ⟨b,pt.length,w,rfl,Ba,by lia,w1,by lia,λq xs Hb nq R lx dx Bb ub=>?_⟩;exact k1 _ xs _ ub Bb ⟨lx,dx⟩ ⟨q,rfl,ua.none Ba nq,R⟩
  ·rintro ys cs Hz t ht uz Bz gz lc hc prz nx;exact k t cs Hz ht ⟨ys,gz,prz,mX nx⟩ lc hc Bz uz
theorem eC:br ["_law_parts_here","_law_state","_law_puts_here","_law_move_here","_law_put","_law_look","_law_found","_law_k"] ["_law_parts_here","_law_state","_law_puts_here"] (aL lY):=by walk_at "d"
theorem wR (T:Txt K mg Z):cC P w K mg base gV 5 Z.rk Z.qQ ["_law_parts_here","_law_state","_law_puts_here"] (xM K):=by
 refine T.kS.F.ok eC (λvs H Q E h=>?_) (λcdv A outer s H vs Q E hr h=>?_)
 ·obtain ⟨r,s0,u0,H0,mv,pt,lk,st,pu,rfl,_⟩:=h;rfl
 ·obtain ⟨r,s0,u0,H0,mv,pt,lk,st,pu,rfl,PQ,D,hs,hu,l1,l2,NX,k⟩:=h
  refine ⟨_,(ai (dJ (pv 0) (p6 rfl (ck (aK (i:=3) eC.nd) (ck (aK (i:=4) eC.nd) (ck (aK (i:=5) eC.nd) iU)))))
   (ai (aV (i:=6) eC.nd rfl (Or.inl rfl) (cn (oj T) hr T.jr (aa (pv 3) (aa (pv 1) ae))))
   (ai (cZ PassesOwn.never rfl (bP rfl T.range (aa (bE bq (by rfl) T.len bc (aa (pv 4) ae)) ae)) (aK (i:=7) eC.nd)
    (ax (aV (i:=6) eC.nd rfl (Or.inl rfl) (cn (oM T) hr T.iY (aa (pv 6) (aa (cn (tO T) hr T.kW (aa (bg bz (pv 2) (pv 7)) (aa (bg bz (pv 4) (pv 7)) ae))) ae))))))
   (ax (be (pv 6)))))),?_⟩
  refine aZ (σ:=[some (.ref r),some (.ref s0),some (.ref u0),none,none,none,none,none]) rfl ?_;obtain ⟨m,p,l,g,n1,n2,n3,Gm,Gp,Gl⟩:=id PQ;have d1:=D.n8;have d2:=D.i4;exists ⟨m,s0,H0,mv,st,rfl,Gm,hs,by lia,by lia,λxs hx=>⟨by rw[D.mw xs hx,l1],NX.f2 xs hx⟩,λf H1 nf s1 R1=>?_⟩;obtain ⟨ps,gp,qp,_⟩:=Gp.same s1;have lp:=qp.length;exists ⟨_,_,rfl,.inl (bB.of gp),?_⟩;exists ⟨by lia,by lia,?_⟩;refine dC (n:=ps.length) (λkk σ' H'=>∃(f:Addr) (x:Option V),σ'=[some (.ref r),some (.ref s0),some (.ref u0),some (.ref m),some (.ref p),some (.ref l),some (.ref f),x]/\H f=none/\aH H1 H'/\cB K H' f (nextK mv pt st pu kk)) ⟨f,none,rfl,nf,aH.refl _,by rw[tR];exact R1⟩ ?_ ?_
  ·rintro kk σ' H' hk ⟨f',x,rfl,nf',s',R'⟩;have kp:kk < pt.length:=by lia
   have ku:kk < pu.length:=by lia
   obtain ⟨zs,gz,qz⟩:=(hu.same s1).same s';have lz:=qz.length;obtain ⟨vu,eu,nu⟩:=DP qz ku;obtain ⟨row,vr,er,ev,mr,q,rfl,_,Rq⟩:=dz qp kp
   have er':pt[kk]=row:=by
    rw[ao kp] at er;exact bR er
   have eu':pu.getD kk 0=pu[kk]:=by rw[aA,ao ku];rfl
   have mu:pu.getD kk 0∈pu:=getD_mem ku;exists bT (bB.of gz) eu ?_;exists bT (bB.of (s' _ _ gp)) (cM ev) ?_;exists ⟨vu,q,_,row,rfl,nu,NX.su _ mu,Rq.same s',by rw[D.pw row mr];lia,NX.sp row mr,λr1 H2 n1' s2 R2=>?_⟩;exists ⟨f',r1,_,_,rfl,R'.same s2,R2,by rw[av,eO,D.pw row mr],by rw[eO];lia,NX.part kk,λy hy=>?_,λr2 H3 n2' s3 R3=>?_⟩
   ·obtain ⟨y',hy',rfl⟩:=ba.mp hy;exact NX.mul _ mu row mr y' hy'
   ·exists ⟨s1.none (s'.none (s2.none n2')),(s'.trans s2).trans s3,?_⟩;have e:=tS (st:=st) (pu:=pu) (λxs hx=>by rw[D.mw xs hx,l1]) kp ku (by rw[er'];exact D.pw row mr);rw[er',<- eu'] at e;rw[<- e];exact R3
  ·rintro σ' H' ⟨f',x,rfl,nf',s',R'⟩;rw[kf (by lia) (by lia)] at R';exists k f' H' nf' (s1.trans s') R'
theorem fN:br ["_law_parts_here","_law_puts_here","_law_state","_law_looks_here","_law_row_here"] ["_law_parts_here","_law_puts_here"] (aL kD):=by walk_at "d"
theorem mW (T:Txt K mg Z):cC P w K mg base gV 6 Z.pF Z.o8 ["_law_parts_here","_law_puts_here"] (zY K):=by
 refine T.iq.F.ok fN (λvs H Q E h=>?_) (λcdv A outer s H vs Q E hr h=>?_)
 ·obtain ⟨r,p,H0,H1,mv,pt,lk,pus,rfl,_⟩:=h;rfl
 ·obtain ⟨r,p,H0,H1,mv,pt,lk,pus,rfl,PQ,D,GP,p100,wp,NX,LF,k⟩:=h
  refine ⟨_,(ai (rR 2 ["_law_row_here"] [] [] fN.nd rfl rfl (bW (bg bX (pv 0) ag)) (λ_=>(aK (i:=0) (show ND9 ["_law_row_here"] by decide +kernel))) (λ_=>b0) (λ_=>(bU (aa ag (aa ag ae)))))
   (ai (aV (i:=3) fN.nd rfl (Or.inl rfl) (dM ae))
   (ai (cZ PassesOwn.never rfl (bW (pv 1)) (aK (i:=4) fN.nd)
    (ai (aV (i:=2) fN.nd rfl (Or.inl rfl) (cn (wR T) hr T.kS (aa (pv 0) (aa (pv 2) (aa (pv 4) ae)))))
   (ax (fU (oG b8 bZ bY fz (pv 3) (aa (cn (oj T) hr T.jr (aa (bg bX (pv 0) ag) (aa (pv 2) ae))) ae))))))
   (ax (be (pv 3)))))),?_⟩
  refine aZ (σ:=[some (.ref r),some (.ref p),none,none,none]) rfl ?_;obtain ⟨m0,p0,l0,gr,_,_,_,Gm,Gp,Gl⟩:=id PQ;obtain ⟨ms,gm,qm,_⟩:=id Gm;obtain ⟨pv,gpv,qpv,_⟩:=id GP;have lm:=qm.length;have lpv:=qpv.length;have n8:=D.n8;have o4:=D.o4;exists ⟨⟨_,bB.of gm⟩,?_⟩;refine dj (K:=K) (as:=mv) (F:=dG K H0) (bL K) (λ_=>0) gm qm (by lia) (λa b=>a.same b) (λa b=>a.same b) ?_ ?_
  ·rintro j xs y Ha NY NN ex sa _ k1;exists bx λt Hb sb gb=>?_
   exact k1 _ _ sb (bL.mk (q:=0) gb rfl)
  rintro ys1 H2 yU nst s2 g2 pr2 _;have e0:mv.map (λ_=>(0:Rat))=List.replicate mv.length 0:=by simp [DV]
  rw[e0] at pr2;exists cS λfl H3 s3 nfl gfl=>?_
  have sf0:yU≠fl:=λz=>by rw[z,nfl] at g2;cases g2
  have s03:=s2.trans s3;exists ⟨⟨_,bB.of (s03 _ _ gpv)⟩,?_⟩;refine ed (K:=K) (a:=p) (xs:=pv) (λi σ' H'=>aH H2 H'/\∃st ys y,σ'=[some (.ref r),some (.ref p),some (.ref st),some (.ref fl),y]/\st≠fl/\cB K H' st (oA mv pt (List.replicate mv.length 0) pus i)/\H' fl=some (.lst ys)/\Paired (Kd K H fl H') (DO mv pt lk pus i) ys) ⟨s3,yU,[],_,rfl,sf0,cB.same ⟨ys1,g2,pr2⟩ s3,gfl,.nil⟩ (λi σ' H' _ ⟨s,_⟩=>bB.of (s _ _ (s2 _ _ gpv))) ?_ ?_
  ·rintro i v σ' H' hv ⟨sH,st,ys,y,rfl,nst',Rs,gys,pr⟩;obtain ⟨pu,epu,pq,rfl,_,Rp⟩:=cO qpv hv;have mp:=aj epu;have il:=(aF.mp epu).1;have s0:=s2.trans sH;have gr':=s0 _ _ gr;exists ⟨r,st,pq,H0,mv,pt,lk,_,pu,rfl,PQ.same s0,D,Rs,Rp.same s0,ks aT (by lia),wp pu mp,NX i pu epu,λr8 H8 n8' s8 R8=>?_⟩;rw[<- ka epu] at R8;have s08:=s0.trans s8;have gys8:=s8 _ _ gys;have r8f:r8≠fl:=λz=>by rw[z,gys] at n8';cases n8'
   have gr8:=s08 _ _ gr;have lys:=pr.length;rw[show (DO mv pt lk pus i).length=i by unfold DO;rw[av,cw]] at lys;exists ⟨.inl ⟨rfl,_,bB.of gys8⟩,?_⟩;exists ⟨l0,r8,H0,lk,_,rfl,Gl.same s08,R8,by lia,by rw[ks aT (by lia)];lia,λxs hx=>⟨by rw[D.lw xs hx,ks aT (by lia)],LF (i+1) (by lia) xs hx⟩,λr9 H9 n9 s9 R9=>?_⟩;have gys9:=s9 _ _ gys8;have r9f:r9≠fl:=λz=>by rw[z,gys8] at n9;cases n9
   have s89:=s8.trans s9;exists fu gys9 (bp (by lia)) ?_;refine ⟨(sH.trans s89).after nfl,r8,_,_,rfl,r8f,(R8.same s9).updL gys9 r8f,aJ,?_⟩;rw[EL];exact b6 (Paired.imp' (λ_ _ ⟨q,e,nq',ne,Rq⟩=>⟨q,e,nq',ne,(Rq.same s89).updL gys9 ne⟩) pr) (.cons ⟨r9,rfl,s08.none n9,r9f,R9.updL gys9 r9f⟩ .nil)
  ·rintro σ' H' ⟨sH,st,ys,y,rfl,_,_,gys,pr⟩;exists k fl H' (s2.none nfl) (s2.trans sH) ⟨ys,gys,?_,λz=>?_⟩
   ·rw[lpv];exact Paired.imp' (λ_ _ ⟨q,e,nq',_,Rq⟩=>⟨q,e,nq',Rq⟩) pr
   ·obtain ⟨_,_,q,e,_,ne,_⟩:=cu pr z;cases e;exact ne rfl
theorem jg:br ["_law_script","_law_bag_here","_law_parts_here","_law_wide","_law_others","_law_one","_law_other_here","_law_due","_law_found","_law_puts_here"] ["_law_script"] (aL Ct):=by walk_at "d"
theorem GS (T:Txt K mg Z):cC P w K mg base gV 11 Z.FL Z.FJ ["_law_script"] (sS K):=by
 refine T.FO.ok jg (λvs H Q E h=>?_) (λcdv A outer s H vs Q E hr h=>?_)
 ·obtain ⟨a,ns,rfl,_⟩:=h;rfl
 ·obtain ⟨a,ns,rfl,hS,hlen,k⟩:=h
  refine ⟨_,(ai (aV (i:=1) jg.nd rfl (Or.inl rfl) (cn (yd T) hr T.md (aa (pv 0) ae)))
   (ai (dJ (cn (tN T) hr T.jq (aa (pv 1) ae)) (p6 rfl (ck (aK (i:=2) jg.nd) (ck (aK (i:=3) jg.nd) iU))))
   (ai (aV (i:=4) jg.nd rfl (Or.inl rfl) (cn (uS T) hr T.j4 (aa (pv 1) (aa (pv 2) ae))))
   (ai (aV (i:=5) jg.nd rfl (Or.inl rfl) (cn (oN T) hr T.iZ (aa (pv 2) ae)))
   (ai (aV (i:=6) jg.nd rfl (Or.inl rfl) (cn (oN T) hr T.iZ (aa (pv 4) ae)))
   (ai (aV (i:=7) jg.nd rfl (Or.inl rfl) (bU (aa p7 (aa tG ae))))
   (d8 (cG (PW.pt (eU (aX dh (bE bq (by rfl) T.len bc (aa (bg bX (pv 2) ag) ae)) (bE bq (by rfl) T.len bc (aa (bg bX (pv 4) ag) ae)) (bf _)) (fR (aX dh (bE bq (by rfl) T.len bc (aa (bg bX (pv 2) ag) ae)) (bE bq (by rfl) T.len bc (aa (bg bX (pv 4) ag) ae)) (bf _))))) (ax (aV (i:=7) jg.nd rfl (Or.inl rfl) (bU (aa p7 (aa (cn (uU T) hr T.j6 (aa (pv 2) (aa (pv 4) ae))) ae))))) bH)
   (ai (cZ PassesOwn.never rfl (bW (dM (aa (cn (oK T) hr T.iX (aa (pv 5) (aa (pv 6) ae))) (aa (cn (oK T) hr T.iX (aa (pv 6) (aa (pv 5) ae))) ae)))) (aK (i:=8) jg.nd)
    (ai (cG (aX (zj (Dd hr)) (pv 8) (pv 7) (bf _)) (ax (be tG)) bH)
   (ax (cG (PW.pt (eU (aX dh (bg bX (pv 8) ag) p7 (bf _)) (eU (aX EI (bg bX (pv 8) ag) l8 (bf _)) (fR (aX AY tG (bQ ["_law_k"] [] [] (ze (bg bX (pv 8) ag)) (λ_=>(aK (i:=0) (show ND9 ["_law_k"] by decide +kernel))) (λ_=>b0) (λ_=>(EF K rfl T.isinstance PyProof.Rows.boot_bool T.bool (pv 0)))) (by with_unfolding_all rfl)))))) (ax (be tG)) bH))))
   (ai (cG (aX (CP (Dd hr)) (pv 7) (bU (aa p7 (aa l8 ae))) (bf _)) (ai (aV (i:=9) jg.nd rfl (Or.inl rfl) (cn (wQ T) hr T.kR (aa (pv 1) (aa (pv 2) (aa ag (aa (pv 3) ae))))))
   (ax (be (zh (gI (CP (Dd hr)) (cn (mW T) hr T.iq (aa (pv 2) (aa (pv 9) ae))) (cn (mW T) hr T.iq (aa (pv 4) (aa (pv 9) ae))) (bf _)) (zf (gI zk (wN (tM T) (hr.mono (by decide)) rfl T.fe.m T.fe.F.kp T.fe.b .nil Fw (aa (pv 5) (aa (pv 5) ae))) l8 (bf _))))))) bH)
   (ax (be (gI zk (wN (tM T) (hr.mono (by decide)) rfl T.fe.m T.fe.F.kp T.fe.b .nil Fw (aa (pv 5) (aa (pv 5) ae))) l8 (bf _))))))))))))),?_⟩
  refine aZ (σ:=[some (.ref a),none,none,none,none,none,none,none,none,none]) rfl ?_;exists ⟨a,ns,rfl,hS,hlen,λb H0 hb0 B0 s0=>?_⟩;exists ⟨b,rfl,B0,λt1 r1 wd mv pt lk H1 g1 PQ D F G1 G2 w0 w1 B1 u1=>?_⟩;obtain ⟨O1,O2,O3,V0,C7⟩:=HJ D G1 G2;exists ⟨b,r1,H0,mv,pt,lk,O1,O2,O3,V0,rfl,B1,B0.at,PQ,D,C7,λr2 mv2 pt2 lk2 H2 P2 D2 N1 N2 B2 u2=>?_⟩;have PQ2:=PQ.upto u2 B1 B0.at;have N0:=tU (n:=mv.length) C7 (.inl (by lia)) D.n8;exists ⟨r1,H0,mv,pt,lk,rfl,PQ2,D,N1.sf,λx H3 nx s3 S3=>?_⟩;exists ⟨r2,H1,mv2,pt2,lk2,rfl,P2.same s3,D2,N2.sf,λy H4 ny s4 S4=>?_⟩;replace S3:=S3.same s4;have s24:=s3.trans s4;have P14:=PQ2.same s24;have P24:=P2.same s24;have B4:=B2.same s24;exists bx λd0 H5 s5 g5=>?_
  exists ⟨λσ' H'=>aH H4 H'/\∃d xd,σ'=[some (.ref a),some (.ref b),some (.ref r1),some (.int wd),some (.ref r2),some (.ref x),some (.ref y),some (.ref d),none,none]/\FP H' (.ref d) xd/\Js mv pt lk mv2 pt2 lk2 xd,?_,?_⟩
  ·obtain ⟨m0,p0,l0,gr,_,_,_,_,Gp,Gl⟩:=P14.same s5;obtain ⟨m2,p2,l2,gr2,_,_,_,_,Gp2,Gl2⟩:=P24.same s5;obtain ⟨pv,gpv,qpv,_⟩:=id Gp;obtain ⟨lv,glv,qlv,_⟩:=id Gl;obtain ⟨pv2,gpv2,qpv2,_⟩:=id Gp2;obtain ⟨lv2,glv2,qlv2,_⟩:=id Gl2;have c1:=qpv.length;have c2:=qlv.length;have c3:=qpv2.length;have c4:=qlv2.length;exists ⟨_,_,rfl,.inl (bB.of gpv),?_⟩;exists ⟨_,_,rfl,.inl (bB.of gpv2),?_⟩;rw[<- c1,<- c3];walk_at "w";by_cases e1:pt.length=pt2.length
   rotate_left
   ·rw[decide_eq_false (show ¬((pt.length:Int)=(pt2.length:Int)) by lia)];exists ⟨s5,d0,none,rfl,⟨d0,rfl,g5⟩,.inr ⟨λz=>e1 z.1,rfl⟩⟩
   rw[decide_eq_true (show ((pt.length:Int)=(pt2.length:Int)) by lia)];exists ⟨_,_,rfl,.inl (bB.of glv),?_⟩;exists ⟨_,_,rfl,.inl (bB.of glv2),?_⟩;rw[<- c2,<- c4];walk_at "w";by_cases e2:lk.length=lk2.length
   rotate_left
   ·rw[decide_eq_false (show ¬((lk.length:Int)=(lk2.length:Int)) by lia)];exists ⟨s5,d0,none,rfl,⟨d0,rfl,g5⟩,.inr ⟨λz=>e2 z.2,rfl⟩⟩
   rw[decide_eq_true (show ((lk.length:Int)=(lk2.length:Int)) by lia)];exists ⟨r1,r2,H0,H1,mv,pt,lk,mv2,pt2,lk2,rfl,P14.same s5,P24.same s5,D,D2,N1.z D,N2.z D2,e1,e2,λv H6 s6 A6=>?_⟩;exists bx λd H7 s7 g7=>?_
   exists ⟨(s5.trans s6).trans s7,d,some (o7 mv pt lk mv2 pt2 lk2),rfl,⟨d,v,rfl,g7,A6.same s7⟩,.inl ⟨e1,e2,rfl⟩⟩
  rintro σ' H6 ⟨s6,d,xd,rfl,DU,hx⟩;have N1':=N1;have N2':=N2;rw[sI] at N1' N2';exists Fh (S3.same s6) (S4.same s6) D D2 (N1.z D) (N2.z D2) hx λv1 H7 s7 U1=>?_
  exists Fh ((S4.same s6).same s7) ((S3.same s6).same s7) D2 D (N2'.z D2) (N1'.z D) hx.swap λv2 H8 s8 U2=>?_
  replace U1:=U1.same s8;exists cS λll H9 s9 n9 g9=>?_
  replace U1:=U1.same s9;replace U2:=U2.same s9;have s69:=(s7.trans s8).trans s9;replace DU:=DU.same s69;exists ⟨⟨_,bB.of g9⟩,?_⟩;refine ed (K:=K) (a:=ll) (xs:=[v1,v2]) (λi σ' H'=>aH H9 H'/\∃f,σ'=[some (.ref a),some (.ref b),some (.ref r1),some (.int wd),some (.ref r2),some (.ref x),some (.ref y),some (.ref d),f,none]) ⟨aH.refl _,_,rfl⟩ (λi σ' H' _ ⟨e,_⟩=>bB.of (e _ _ g9)) ?_ ?_
  ·rintro i v σ' H' ev ⟨s',f,rfl⟩
   have UV:FP H' v xd:=by
    have mv9:=aj ev;simp only[az,aB,or_false] at mv9;rcases mv9 with rfl | rfl
    ·exact U1.same s'
    ·exact U2.same s'
   exists ⟨_,_,C8 G9 G5,EY xd,EY xd,by decide,UV.kind,(DU.same s').kind,?_⟩;rw[decide_eq_true rfl];walk_at "w";cases xd with
   | none =>
    obtain ⟨t,rfl,gt⟩:=UV;walk_at "w";rw[show decide (Str.ofString "no"=Str.ofString "told")=false by decide +kernel];exists ⟨s',_,rfl⟩
   | some o =>
    obtain ⟨t,u,rfl,gt,au⟩:=UV;walk_at "w";rw[decide_eq_true rfl];exists ⟨rfl,?_⟩;cases o with
    | none =>
     cases (show u=.non from au);rw[decide_eq_true rfl];exists ⟨s',_,rfl⟩
    | some z =>
     obtain ⟨t3,l3,p3⟩:=z;obtain ⟨r3,rfl,g3⟩:=au;rw[decide_eq_false (λz=>nomatch z)];exists ⟨⟨_,iP.of g3⟩,?_⟩;refine uv (K:=K) (xs:=[.int t3,.int l3,.int p3]) (λi ys H2=>H2=H'/\ys=List.replicate i (.bl false)) (aU (bp (show 3<=1000 by decide))) ⟨rfl,rfl⟩ (λi ys H2 _ ⟨e,_⟩=>by subst e;exact iP.of g3) ?_ ?_
     ·rintro i z ys H2 ez hlen ⟨rfl,rfl⟩
      obtain ⟨j,rfl⟩:∃j:Int,z=.int j:=by
       have mz:=aj ez;simp only[az,aB,or_false] at mz;rcases mz with rfl | rfl | rfl <;> exact ⟨_,rfl⟩
      exists ⟨_,false,.int j,rfl,rfl,?_⟩;rw[List.replicate_succ']
     ·rintro ys H2 hy ⟨rfl,rfl⟩ q nq;have sq:aH H2 (upd H2 q (.lst (List.replicate 3 (.bl false)))):=aH.new nq;have gq:(upd H2 q (.lst (List.replicate 3 (.bl false)))) q=some (.lst (List.replicate 3 (.bl false))):=aJ;show _
      exists ⟨q,_,rfl,.inl (bB.of aJ),rfl,by rfl,?_⟩;rw[show (if false=true then !JF (V.bl true) (List.replicate [V.int (t3:Nat),V.int (l3:Nat),V.int (p3:Nat)].length (V.bl false)) else JF (V.bl true) (List.replicate [V.int (t3:Nat),V.int (l3:Nat),V.int (p3:Nat)].length (V.bl false)))=false from rfl];exists ⟨s'.trans sq,_,rfl⟩
  rintro σ' HA ⟨sA,f,rfl⟩;replace DU:=DU.same sA;have s4A:=(s6.trans s69).trans sA;have S3A:=S3.same s4A;have P1A:=P14.same s4A;have P2A:=P24.same s4A;have BA:=B4.same s4A;exists bx λtn HB sB gB=>?_
  exists ⟨_,_,C8 G9 G5,EY xd,EY (some none),by decide,(DU.same sB).kind,⟨tn,_,_,rfl,iP.of gB,rfl,rfl⟩,?_⟩;by_cases eo:xd=some none
  rotate_left
  ·rw[decide_eq_false (λz=>eo (EX z))];exists ⟨x,x,_,_,mv,pt,lk,mv,pt,lk,rfl,S3A.same sB,S3A.same sB,D,D,N0.z D,N0.z D,λno=>absurd ⟨rfl,rfl⟩ no,λ_ _ vz HZ sZ AZ=>?_⟩;rw[Ax] at AZ;cases (show vz=.non from AZ);exists ⟨rfl,?_⟩;rw[decide_eq_true rfl];exact k _
  subst eo
  obtain ⟨e1,e2,eo⟩:pt.length=pt2.length/\lk.length=lk2.length/\o7 mv pt lk mv2 pt2 lk2=none:=by
   rcases hx with ⟨a1,a2,a3⟩ | ⟨_,a3⟩
   ·exact ⟨a1,a2,(bR a3).symm⟩
   ·cases a3
  rw[decide_eq_true rfl];exists ⟨b,r1,6,wd,H0,mv,pt,lk,rfl,by decide,w0,w1,BA.same sB,B0.at,P1A.same sB,D,λpp pus HC np GP lp hp BC uC=>?_⟩;have P1C:=(P1A.same sB).upto uC (BA.same sB) B0.at;have P2C:=(P2A.same sB).upto uC (BA.same sB) B1.at;have SC:=(S3A.same sB).upto uC (BA.same sB) B2.at;obtain ⟨NX,LF⟩:=C2 N1 D w1 lp hp;obtain ⟨NX2,LF2⟩:=C2 N2 D2 w1 lp λxs hx=>⟨by rw[<- e1];exact (hp xs hx).1,(hp xs hx).2⟩
  exists ⟨r1,pp,H0,HB,mv,pt,lk,pus,rfl,P1C,D,GP,by lia,λxs hx=>(hp xs hx).1,NX,LF,λq1 HD nq1 sD GD=>?_⟩;exists ⟨r2,pp,H1,HB,mv2,pt2,lk2,pus,rfl,P2C.same sD,D2,GP.same sD,by lia,λxs hx=>by rw[<- e1];exact (hp xs hx).1,NX2,LF2,λq2 HE nq2 sE GE=>?_⟩;exists ⟨_,_,zy,_,_,by decide,(GD.same sE).kind,GE.kind,?_⟩;rw[decide_eq_true (GX D D2 e1 e2 (E8 (yX e1 e2) eo) λxs hx=>(hp xs hx).1)];exists ⟨x,x,_,_,mv,pt,lk,mv,pt,lk,rfl,(SC.same sD).same sE,(SC.same sD).same sE,D,D,N0.z D,N0.z D,λno=>absurd ⟨rfl,rfl⟩ no,λ_ _ vz HZ sZ AZ=>?_⟩;rw[Ax] at AZ;cases (show vz=.non from AZ);exists ⟨rfl,?_⟩;rw[decide_eq_true rfl];exact k _
  
end
theorem ln1 {P:List Value->Prop} (h:∀x0,P [x0]):∀us:List Value,us.length=1->P us
 | [x0],_=>h x0
theorem ln2 {P:List Value->Prop} (h:∀x0 x1,P [x0,x1]):∀us:List Value,us.length=2->P us
 | [x0,x1],_=>h x0 x1
theorem ln3 {P:List Value->Prop} (h:∀x0 x1 x2,P [x0,x1,x2]):∀us:List Value,us.length=3->P us
 | [x0,x1,x2],_=>h x0 x1 x2
theorem ln4 {P:List Value->Prop} (h:∀x0 x1 x2 x3,P [x0,x1,x2,x3]):∀us:List Value,us.length=4->P us
 | [x0,x1,x2,x3],_=>h x0 x1 x2 x3
theorem ln5 {P:List Value->Prop} (h:∀x0 x1 x2 x3 x4,P [x0,x1,x2,x3,x4]):∀us:List Value,us.length=5->P us
 | [x0,x1,x2,x3,x4],_=>h x0 x1 x2 x3 x4
local macro_rules | `(tactic| walk_at "b") => `(tactic| (intro _ _ _ _ _ _; first | (refine ln1 ?_; intros; rfl) | (refine ln2 ?_; intros; rfl) | (refine ln3 ?_; intros; rfl) | (refine ln4 ?_; intros; rfl) | (refine ln5 ?_; intros; rfl)))
theorem all_mk {l:W.OpenLaw} {K:W.Frag} {e0 e1 e2 e3 e4 e5 e6 e7 e8 e9 e10 e11 e12 e13 e14 e15 e16 e17 e18 e19 e20 e21 e22 e23 e24 e26 e27 e28 e29 e30 e31 e32 e33 e34 e35 e36 e37 e39 e41 e42 e43 e44 e45 e46 e47 e48 e49 e50:FuncData}
 
  (X:K.In h) (G:h.Ns mainGlobals mg) (hfa:mg "law"=some (.ref fa))
 (aC:W.nsIn K mainGlobals "System"=some (some (.ref C)))
  (h0:Dh K "_law_bag" nZ f0 e0)
  (h1:Dh K "_law_take" lU f1 e1)
  (h2:Dh K "_law_sizes" iT f2 e2)
  (h3:Dh K "_law_line" l7 f3 e3)
  (h4:Dh K "_law_low" nX f4 e4)
  (h5:Dh K "_law_sum" nV f5 e5)
  (h6:Dh K "_law_plus" lX f6 e6)
  (h7:Dh K "_law_prod" lW f7 e7)
  (h8:Dh K "_law_by" p4 f8 e8)
  (h9:Dh K "_law_mixed" kC f9 e9)
  (h10:Dh K "_law_two_lines" ib f10 e10)
  (h11:Dh K "_law_number" jT f11 e11)
  (h12:Dh K "_law_row" nW f12 e12)
  (h13:Dh K "_law_move" lZ f13 e13)
  (h14:Dh K "_law_parts" kz f14 e14)
  (h15:Dh K "_law_system" jR f15 e15)
  (h16:Dh K "_law_copied" jU f16 e16)
  (h17:Dh K "_law_grown" kE f17 e17)
  (h18:Dh K "_law_other" kB f18 e18)
  (h19:Dh K "want_list" lQ f19 e19)
  (h20:Dh K "is_whole" nU f20 e20)
  (h21:Dh K "common_divisor" ia f21 e21)
  (h22:Dh K "is_number" lS f22 e22)
  (h23:Dh K "is_row" tj f23 e23)
  (h24:Dh K "copied_rows" jQ f24 e24)
  (a25:W.findIn K (.ref C) "__init__"=some (some (.ref f25))) (i25:W.isFn K (.ref f25)=true) (l25:K.lookup f25=some ⟨oc25,od25,.func (W.fnOf "__init__" "System.__init__" (ir c6) (fD c6) (aL c6) .none kV25 dc25 pm25 an25 cd25 ct25),sl25⟩) (c25:W.codeIn K cd25 "System.__init__"=true) (k25:W.keepIn K (.ref f25)=true)
  (h26:Dh K "_law_made" l5 f26 e26)
  (h27:Dh K "_law_dot" nY f27 e27)
  (h28:Dh K "_law_on" pZ f28 e28)
  (h29:Dh K "_law_pulses" jS f29 e29)
  (h30:Dh K "_law_first" kG f30 e30)
  (h31:Dh K "nought_row" ky f31 e31)
  (h32:Dh K "common_multiple" gH f32 e32)
  (h33:Dh K "common_bottom" iN f33 e33)
  (h34:Dh K "tops_over" lR f34 e34)
  (h35:Dh K "lowest" sY f35 e35)
  (h36:Dh K "row_dot" pX f36 e36)
  (h37:Dh K "grid_on" pY f37 e37)
  (a38:W.findIn K (.ref C) "seen"=some (some (.ref f38))) (i38:W.isFn K (.ref f38)=true) (l38:K.lookup f38=some ⟨oc38,od38,.func (W.fnOf "seen" "System.seen" (ir eL) (fD eL) (aL eL) .none kV38 dc38 pm38 an38 cd38 ct38),sl38⟩) (c38:W.codeIn K cd38 "System.seen"=true) (k38:W.keepIn K (.ref f38)=true)
  (h39:Dh K "grid_turned" jP f39 e39)
  (a40:W.findIn K (.ref C) "moved"=some (some (.ref f40))) (i40:W.isFn K (.ref f40)=true) (l40:K.lookup f40=some ⟨oc40,od40,.func (W.fnOf "moved" "System.moved" (ir d7) (fD d7) (aL d7) .none kV40 dc40 pm40 an40 cd40 ct40),sl40⟩) (c40:W.codeIn K cd40 "System.moved"=true) (k40:W.keepIn K (.ref f40)=true)
  (h41:Dh K "course" tm f41 e41)
  (h42:Dh K "looks_along" jO f42 e42)
  (h43:Dh K "pulses" sX f43 e43)
  (h44:Dh K "first_unlike" ji f44 e44)
  (h45:Dh K "apart" wK f45 e45)
  (h46:Dh K "_law_told" lT f46 e46)
  (h47:Dh K "_law_puts" lV f47 e47)
  (h48:Dh K "_law_next" lY f48 e48)
  (h49:Dh K "_law_looks" kD f49 e49)
  (h50:Dh K "law" Ct f50 e50)
 (ca0:W.nsIn K mainGlobals "NOUGHT"=some (some (.ref m0))) (cl0:K.lookup m0=some ⟨.type "tuple",mo0,.seq #[.int 0 mt0_0,.int 1 mt0_1] mn0,ms0⟩)
 (ci0:W.nsIn K mainGlobals "MOST_STATES"=some (some (.int 8 it0)))
 (ci1:W.nsIn K mainGlobals "MOST_PUTS"=some (some (.int 4 it1)))
 (ci2:W.nsIn K mainGlobals "MOST_LOOKS"=some (some (.int 4 it2)))
  (pg:W.plainGet K C Str.empty=true) (hd:W.hasDictIn K C=true) (po:W.plainOver K C=true) (sa:W.findIn K (.ref C) "__setattr__"=some (some (.builtin "object.__setattr__"))) (mk:W.makesIn K C=true) (kc:W.keepIn K (.ref C)=true)
  (n_move:W.findIn K (.ref C) "move"=some none)
  (n_states:W.findIn K (.ref C) "states"=some none)
  (n_put:W.findIn K (.ref C) "put"=some none)
  (n_ins:W.findIn K (.ref C) "ins"=some none)
  (n_look:W.findIn K (.ref C) "look"=some none)
  (n_outs:W.findIn K (.ref C) "outs"=some none)
 (xa_SumError:W.nsIn K mainGlobals "SumError"=some (some (.ref x_SumError)))
 (xa_NoFit:W.nsIn K mainGlobals "NoFit"=some (some (.ref x_NoFit)))
  (xe_NoFit:W.excIn K x_NoFit BK "ValueError.__new__"=true)
  (xm_NoFit_NoFit:W.exmOne K (.ref x_NoFit) (.ref x_NoFit)=some true)
  (ki_NoFit_SumError:W.kitOne K (.ref x_NoFit) (.ref x_SumError)=some true)
  (z_abs:W.nsIn K mainGlobals "abs"=some none)
  (z_len:W.nsIn K mainGlobals "len"=some none)
  (z_min:W.nsIn K mainGlobals "min"=some none)
  (z_int:W.nsIn K mainGlobals "int"=some none)
  (z_range:W.nsIn K mainGlobals "range"=some none)
  (z_list:W.nsIn K mainGlobals "list"=some none)
  (z_isinstance:W.nsIn K mainGlobals "isinstance"=some none)
  (z_bool:W.nsIn K mainGlobals "bool"=some none)
  (z_tuple:W.nsIn K mainGlobals "tuple"=some none)
  (z_all:W.nsIn K mainGlobals "all"=some none)
  (z_enumerate:W.nsIn K mainGlobals "enumerate"=some none)
  (z_zip:W.nsIn K mainGlobals "zip"=some none)
  (z_sum:W.nsIn K mainGlobals "sum"=some none)
  : ∃fd:FuncData,(∀(s:Shared) (v:Value),BindsTo s fd ⟨[v],[]⟩ [("_law_script",v)])/\∀base:Heap,K.In base->base.Ns mainGlobals mg->cC l.prog w K mg base gV 11 fa fd ["_law_script"] (sS K):=by
 have e:=hfa.symm.trans (W.mg_of X G h50.a);cases e;obtain ⟨_,_,_,_,_,_,_,_,_,rfl,_,_⟩:=h50.F.ex;have F25:=wZ (st:=c6) l25 c25 k25;have F38:=wZ (st:=eL) l38 c38 k38;have F40:=wZ (st:=d7) l40 c40 k40
 have T:Txt K mg ⟨f0,_,f1,_,f2,_,f3,_,f4,_,f5,_,f6,_,f7,_,f8,_,f9,_,f10,_,f11,_,f12,_,f13,_,f14,_,f15,_,f16,_,f17,_,f18,_,f19,_,f20,_,f21,_,f22,_,f23,_,f24,_,f25,_,f26,_,f27,_,f28,_,f29,_,f30,_,f31,_,f32,_,f33,_,f34,_,f35,_,f36,_,f37,_,f38,_,f39,_,f40,_,f41,_,f42,_,f43,_,f44,_,f45,_,f46,_,f47,_,f48,_,f49,_,fa,_,m0,it0,it1,it2,C,x_SumError,x_NoFit⟩:={
  md:=h0.D X G
  aI:=h1.D X G
  j3:=h2.D X G
  gO:=h3.D X G
  gA:=h4.D X G
  ff:=h5.D X G
  iY:=h6.D X G
  fB:=h7.D X G
  kW:=h8.D X G
  dY:=h9.D X G
  gM:=h10.D X G
  fj:=h11.D X G
  fh:=h12.D X G
  kU:=h13.D X G
  fP:=h14.D X G
  jq:=h15.D X G
  dB:=h16.D X G
  j5:=h17.D X G
  j4:=h18.D X G
  gK:=h19.D X G
  jD:=h20.D X G
  dO:=h21.D X G
  kP:=h22.D X G
  qe:=h23.D X G
  eZ:=h24.D X G
  jG:=F25.binds (ps:=["self","move","put","look"]) λ_ _ _ _ _ _=>by refine ln4 ?_;intros;rfl
  jJ:=F25
  iZ:=h26.D X G
  jE:=h27.D X G
  jr:=h28.D X G
  gN:=h29.D X G
  j6:=h30.D X G
  jZ:=h31.D X G
  fY:=h32.D X G
  fA:=h33.D X G
  iW:=h34.D X G
  qd:=h35.D X G
  kO:=h36.D X G
  ot:=h37.D X G
  me:=⟨a38,i38,k38⟩
  nk:=F38.binds (ps:=["self","state"]) λ_ _ _ _ _ _=>by refine ln2 ?_;intros;rfl
  nJ:=F38
  gL:=h39.D X G
  lE:=⟨a40,i40,k40⟩
  mB:=F40.binds (ps:=["self","state","puts"]) λ_ _ _ _ _ _=>by refine ln3 ?_;intros;rfl
  mE:=F40
  qg:=h41.D X G
  jo:=h42.D X G
  mM:=h43.D X G
  eJ:=h44.D X G
  fe:=h45.D X G
  iX:=h46.D X G
  kR:=h47.D X G
  kS:=h48.D X G
  iq:=h49.D X G
  FO:=h50.F
  abs:=W.mg_none_of X G z_abs
  len:=W.mg_none_of X G z_len
  min:=W.mg_none_of X G z_min
  int:=W.mg_none_of X G z_int
  range:=W.mg_none_of X G z_range
  list:=W.mg_none_of X G z_list
  isinstance:=W.mg_none_of X G z_isinstance
  bool:=W.mg_none_of X G z_bool
  tuple:=W.mg_none_of X G z_tuple
  all:=W.mg_none_of X G z_all
  enumerate:=W.mg_none_of X G z_enumerate
  zip:=W.mg_none_of X G z_zip
  sum:=W.mg_none_of X G z_sum
  mg_NOUGHT:=W.mg_of X G ca0
  sq_NOUGHT:=λH=>.inr ⟨_,_,_,cl0,rfl,rfl,fM rfl,.cons ⟨_,rfl⟩ (.cons ⟨_,rfl⟩ (.nil))⟩
  mg_MOST_STATES:=W.mg_of X G ci0
  mg_MOST_PUTS:=W.mg_of X G ci1
  mg_MOST_LOOKS:=W.mg_of X G ci2
  mg_System:=W.mg_of X G aC
  cl_System:=⟨pg,hd,po,sa⟩
  na_move:=n_move
  na_states:=n_states
  na_put:=n_put
  na_ins:=n_ins
  na_look:=n_look
  na_outs:=n_outs
  mk_System:=⟨mk,a25,i25,kc⟩
  mg_SumError:=W.mg_of X G xa_SumError
  mg_NoFit:=W.mg_of X G xa_NoFit
  ex_NoFit:=xe_NoFit
  xm_NoFit_NoFit:=xm_NoFit_NoFit
  ki_NoFit_SumError:=ki_NoFit_SumError }
 exact ⟨_,λs v=>.of_eq rfl,λbase _ _=>GS T⟩
theorem walk {l:W.OpenLaw} {K:Params->W.Frag} (hn:l.most=some 63) (hdf:d.params.defaults=[])
  (hY:∀(w:World) (h:Heap),YP w h->(K w.params).In h)
  (F:∀(w:World) (mg:Str->Option Value) (fa:Addr) (h:Heap),(K w.params).In h->h.Ns mainGlobals mg->mg d.name=some (.ref fa) →
   ∃fd:FuncData,(∀(s:Shared) (u:Value),BindsTo s fd ⟨[u],[]⟩ [("_law_script",u)])/\∀base:Heap,(K w.params).In base->base.Ns mainGlobals mg->cC l.prog w (K w.params) mg base gV 11 fa fd ["_law_script"] (sS (K w.params))) :
  W.WalkO q loose XP YP l.row.toRowW d [] (λf vs=>PySem.call f vs) :=
 L2.D3 (n:=63) (k:=11) (x:="_law_script") (CX:=λ_=>gV) (sp:=λw=>sS (K w.params)) hn (by decide) hdf ⟨rfl,by decide,by decide⟩ hY F (λ_ _ a ns hl _ hS=>⟨a,ns,rfl,hS,hl,λ_=>rfl⟩) λ_ _ _ _ _ z=>z
end Lw
namespace PySem.W.Fast
def tw9818103038102792720:=()
def tw11693640579417839065:=()
def tw12728088242707746293:=()
def tw6108227360252779305:=()
def tw17828609524046137878:=()
def tw8102941257339569337:=()
def tw13873600418333324484:=()
def tw16598974597148573240:=()
def tw18228330774720549906:=()
def tw15137275253918002667:=()
def tw5917748969530210754:=()
def tw10402307060104985473:=()
def tw9951181368918315136:=()
def tw8114211029099375180:=()
def tw2160154229558408246:=()
def tw4841301642846980353:=()
def tw9091044291318710771:=()
def tw2574770273952796729:=()
def tw60816694306939970:=()
def tw76368334313814019:=()
def tw10430766351485059107:=()
def tw14370419637534106021:=()
def tw11015729031306996220:=()
def tw729222960805421739:=()
def tw6519820309431948751:=()
def tw8545269823491021557:=()
def tw15203888794379440964:=()
def tw9300602035672939713:=()
def tw11543604272383982193:=()
def tw14744947666715614176:=()
def tw17424160474389048053:=()
def tw380898169890054464:=()
def tw4570710110819230552:=()
def tw14439035733095685548:=()
def tw13634194824445476977:=()
def tw6371313454528544485:=()
def tw9313563963480431882:=()
def tw9885362839302674429:=()
def tw3795187906821634853:=()
def tw12837678241122443820:=()
def tw2776243832301121332:=()
def tw11247106567589400036:=()
def tw7086511643057031790:=()
def tw3399472230890588610:=()
def tw6320795542549561084:=()
def tw8848704246069273564:=()
def tw6034395696952558425:=()
def tw3918881982304048293:=()
def tw11209915389479319784:=()
def tw15012251180282572729:=()
def tw6590663793763780487:=()
def tw14694074328877176792:=()
def tw3578984953561614597:=()
def tw18113540887333832340:=()
def tw431164073654946941:=()
def tw14213956154555465180:=()
def tw10645486439445461268:=()
def tw11917943614702508998:=()
def tw1240017355510085294:=()
def tw4694313624379626062:=()
def tw11291441250380928594:=()
def tw4981059720231768935:=()
def tw4747293934369891870:=()
def tw15866183745915861523:=()
def tw18410367322780429050:=()
def tw12793220109014024085:=()
def tw9722289579277446996:=()
def tw12141080837790246145:=()
def tw15169423096783509966:=()
def tw18087549922018833760:=()
def tw16676528568924770674:=()
def tw13798127842745056836:=()
def tw14023857603002005089:=()
def tw14965820254188527580:=()
def tw12569829112923589040:=()
def tw16449547561645405851:=()
def tw6999829403759164651:=()
def tw14694389626676455977:=()
def tw16039833698353596782:=()
def tw2336699679432987086:=()
def tw2222381891954754784:=()
def tw6480802166421015541:=()
def tw7645215109261506176:=()
def tw1913197358432621221:=()
def tw12014360574586797038:=()
def tw8693129422770675652:=()
def tw14718685383420528014:=()
def tw9484895458071718565:=()
def tw8112148655461738787:=()
def tw17274491232515732372:=()
def tw2846806524649659040:=()
def tw14958631729621039488:=()
def tw7811294684936880759:=()
def tw2113554903194828524:=()
def tw7150488456948427614:=()
def tw13657396526860043588:=()
def tw16344415797855616925:=()
def tw15810852690374450349:=()
def tw17803304856732589718:=()
def tw120935343845129486:=()
def tw4198237885569694449:=()
def tw12766409248813564345:=()
def tw4622725015394221560:=()
def tw6767963606717105275:=()
def tw12648849969111186890:=()
def tw12931956125013472811:=()
def tw9933929777860720685:=()
def tw14380649438090854355:=()
def tw12773080475067659987:=()
def tw1333534984853710133:=()
def tw8580427056935310757:=()
def tw6672151759337213859:=()
def tw13448451979691645815:=()
def tw14798821768990292980:=()
def tw10109876673932575644:=()
def tw1126789757947533404:=()
def tw4268714913785806104:=()
def tw5371579698681334501:=()
def tw10068318028205854649:=()
def tw12409440080198049923:=()
def tw2666221915252127129:=()
def tw7541701506448049827:=()
def tw10615777169054049029:=()
def tw4836961157136746717:=()
def tw4525142990204180358:=()
def tw15193398664364773952:=()
def tw14939276886876315329:=()
def tw1399537075432350945:=()
def tw17248182054399610564:=()
def tw2217822892380693209:=()
def tw18250986665844206539:=()
def tw4389676826467087367:=()
def tw569486447585693160:=()
def tw4468229429184244642:=()
def tw12721333053407815377:=()
def tw4297274303249466067:=()
def tw1090727558619753045:=()
def tw13275567595759850844:=()
def tw3604341393087186259:=()
def tw17219432624790485302:=()
def tw12956898453798811980:=()
def tw10024519510474879401:=()
def tw6953120379516079032:=()
def tw11600939341976336801:=()
def tw18273859769935986135:=()
def tw11401595203745725469:=()
def tw11124141871688097198:=()
def tw17182587974907140659:=()
def tw8385388925973342435:=()
def tw17807586009497893671:=()
def tw8010352632697760868:=()
def tw7009219016022117820:=()
def tw1152633023278218190:=()
def tw17096242349163660764:=()
def tw12094214547638060693:=()
def tw18213898102383024130:=()
def tw12533376704978030249:=()
def tw5800729444303084926:=()
def tw17248478404529271415:=()
def tw8506039771789936069:=()
def tw13055325540572758890:=()
def tw8957812503100607860:=()
def tw6609809824197129894:=()
def tw2845075287981079173:=()
def tw14437429987546156708:=()
def tw5275922985977192688:=()
def tw12172672367406601100:=()
def tw844013632634679545:=()
def tw15065399015170496862:=()
def tw7426502574556463084:=()
def tw2639987533526400822:=()
def tw16931864482454959242:=()
def tw1157700168443386559:=()
def tw8085695493393715448:=()
def tw13921054610408592507:=()
def tw17669668152900206303:=()
def tw10631656361846005477:=()
def tw7277961790531785364:=()
def tw5544920665754320560:=()
def tw14756657738282730401:=()
def tw2183510045008805606:=()
def tw15616375719424886111:=()
def tw7589367029318126058:=()
def tw4084988664365282965:=()
def tw10344376038328526563:=()
def tw4807115988871511945:=()
def tw9925561345914492738:=()
def tw17408687430382401046:=()
def tw4276989703770025820:=()
def tw11065176848454065856:=()
def tw3800792505464720194:=()
def tw11618438917722926794:=()
def tw9414833839392124695:=()
def tw3526999042066906602:=()
def tw6526395423209898996:=()
def tw10875948633480588962:=()
def tw11732582718353575740:=()
def tw9842530287796802046:=()
def tw2655938227028271251:=()
def tw17552555093428173682:=()
def tw867358763460864921:=()
def tw5761779054016668627:=()
def tw7523813065883361085:=()
def tw8999032178880530338:=()
def tw9368061799650292005:=()
def tw306399642344500187:=()
def tw11512428938527499413:=()
def tw12681791328600911673:=()
def tw2040809868673143599:=()
def tw16665367584071353147:=()
def tw3051469481983101015:=()
def tw523183008580480870:=()
def tw12511286949166011582:=()
def tw6989600816165490244:=()
def tw13405252456164602061:=()
def tw14795508318440617739:=()
def tw12716303337921332045:=()
def tw7996450567362842961:=()
def tw16028482697740728874:=()
def tw1171762679108720746:=()
def tw12501794602838144220:=()
def tw12439979876819598389:=()
def tw12865682490939535787:=()
def tw4867399659324055776:=()
def tw16459865504598235258:=()
def tw2406389868539437955:=()
def tw14642807253646599414:=()
def tw16257913525307279500:=()
def tw1256023274486417576:=()
def tw12788901621933610546:=()
def tw18258669899244251787:=()
def tw4673361326472135239:=()
def tw7604712214784948237:=()
def tw3314462641863947205:=()
def tw5440389203533893779:=()
def tw12039095083494208736:=()
def tw2852969234032247550:=()
def tw15354073510459938298:=()
def tw3735343525517395527:=()
def tw15090445172748087589:=()
def tw1104575081116747175:=()
def tw6766111449582824277:=()
def tw15256181004006118468:=()
def tw6603711947942961481:=()
def tw11140285631443776632:=()
def tw12180424008262523075:=()
def tw2000885264386447761:=()
def tw5437699962247508100:=()
def tw4407108272538053958:=()
def tw12196302732318848787:=()
def tw14472689519239004748:=()
def tw14487208921395694936:=()
def tw10842494547466309629:=()
def tw12952840244075300140:=()
def tw13450691658863729064:=()
def tw12815708494157280069:=()
def tw16004993202901809677:=()
def tw14348118254997177851:=()
def tw11773257843470848542:=()
def tw5356930088582814134:=()
def tw17507789661904055052:=()
def tw15701986237520376403:=()
def tw1829805221479659536:=()
def tw13009005259100538985:=()
def tw12336096766354631694:=()
def tw6294385595415687380:=()
def tw7238197595108928960:=()
def tw328309637585204069:=()
def tw6301946547623178108:=()
def tw1284668841359830756:=()
def tw2928450165262736317:=()
def tw17017595090148529555:=()
def tw9534036016963856781:=()
def tw13060294296482222489:=()
def tw12921910097186799231:=()
def tw856616558846435821:=()
def tw14327360476250856302:=()
def tw18409030662755927100:=()
def tw1334001418169429839:=()
def tw11280466596560163317:=()
def tw13892196902064111109:=()
def tw3167965760006244276:=()
def tw13771349658935477904:=()
def tw12346733631640596136:=()
def tw16986508417472573260:=()
def tw1881629435377359014:=()
def tw7948917836659396357:=()
def tw14664457597716514565:=()
def tw14709274933982150240:=()
def tw13400874491378122340:=()
def tw16329080813870604321:=()
def tw14282928114218776413:=()
def tw13573366332762465581:=()
def tw16660051179239159416:=()
def tw4938103842216001824:=()
def tw12026842780642748920:=()
def tw16041928621690821905:=()
def tw3584644368852231966:=()
def tw16899963044667208081:=()
def tw9502935694496874832:=()
def tw1157446467259680019:=()
def tw7763106418034557784:=()
def tw11578456781864308298:=()
def tw4511183588711642753:=()
def tw6463656632089679397:=()
def tw6821727094682972072:=()
def tw15757096301002318827:=()
def tw5809062882161192379:=()
def tw7933469401422810517:=()
def tw8065463033243860490:=()
def tw9884076320252547650:=()
def tw10093401219380553222:=()
def tw17379070494186089927:=()
def tw569456412101634469:=()
def tw2693332030236190658:=()
def tw3533526704577486363:=()
def tw3293570186216157239:=()
def tw13958598616590321586:=()
def tw2065904339771386109:=()
def tw16073182665320520061:=()
def tw16210993042964419103:=()
def tw8928740498008560496:=()
def tw3595094969329475783:=()
def tw1497532760132935376:=()
def tw17321939150876024633:=()
def tw14012258152311689235:=()
def tw3045986698889739976:=()
def tw15225183350083028367:=()
def tw7290506765202182151:=()
def tw7405064227025551844:=()
def tw12089327470106104541:=()
def tw5425068501951659160:=()
def tw12058885813980276756:=()
def tw4574578054159382220:=()
def tw4600850963963562070:=()
def tw16761796886390494951:=()
def tw1600022330670731788:=()
def tw1366264302317565788:=()
def tw1882194392844349904:=()
def tw17391862883934195598:=()
def tw7380152594277762489:=()
def tw15835445474296922162:=()
def tw12268832598129210195:=()
def tw1992514929713830276:=()
def tw11123471271314340432:=()
def tw851852652636468539:=()
def tw2838971966633108200:=()
def tw15779031730630866105:=()
def tw12498345543207381300:=()
def tw5169586375948530587:=()
def tw14962861642748779315:=()
def tw15621717924823376697:=()
def tw11362754905016401711:=()
def tw16995850940008840236:=()
def tw2885553716543232644:=()
def tw9219684814755761654:=()
def tw14383661916960319578:=()
def tw5028312410277508034:=()
def tw10558177804576613555:=()
def tw13002953275678234314:=()
def tw5825079780404247420:=()
def tw18405590661433394791:=()
def tw13007309225579677353:=()
def tw14059196924622354836:=()
def tw12181566289802779623:=()
def tw389386927110891866:=()
def tw7565220088915659751:=()
def tw7282133045779747602:=()
def tw1897890719993713069:=()
def tw10863564508303802862:=()
def tw1135583001556127705:=()
def tw71029955166306463:=()
def tw2165350870149418703:=()
def tw11373379043205194105:=()
def tw14108236424071036406:=()
def tw8902466759336114912:=()
def tw6975461897346206911:=()
def tw8319189417245274418:=()
def tw3438955044671129995:=()
def tw9203680689304307582:=()
def tw18093222532483146968:=()
def tw14346149278593479069:=()
def tw4263042499221387661:=()
def tw4460614339531915144:=()
def tw10652378480522135647:=()
def tw260591958617083458:=()
def tw12343826218826068104:=()
def tw5424492257647161413:=()
def tw4001476011094555968:=()
def tw13254798136572680827:=()
theorem te9818103038102792720:True:=trivial
end PySem.W.Fast
open PySem PySem.W PyProof.Rows
set_option maxRecDepth 100000 in
set_option maxHeartbeats 0 in
theorem PySem.Challenge.cw_helmsum_k77_apart_holds : PySem.Challenge.rw_helmsum_k77_apart.Holds := by
 w_on;o_law;k_head;(case hw=>w_witness2)
 k_fill
 refine Lw.walk (l:=PySem.Challenge.rw_helmsum_k77_apart) rfl rfl (λw h Y=>PySem.W.kIn_of Y) ?F
 case F =>
  intro w mg fa h KX G hmg;refine' Lw.all_mk KX G hmg ?aC ?_ ?_ ?_ ?_ ?_ ?_ ?_ ?_ ?_ ?_ ?_ ?_ ?_ ?_ ?_ ?_ ?_ ?_ ?_ ?_ ?_ ?_ ?_ ?_ ?_ ?a25 ?i25 ?l25 ?c25 ?k25 ?_ ?_ ?_ ?_ ?_ ?_ ?_ ?_ ?_ ?_ ?_ ?_ ?a38 ?i38 ?l38 ?c38 ?k38 ?_ ?a40 ?i40 ?l40 ?c40 ?k40 ?_ ?_ ?_ ?_ ?_ ?_ ?_ ?_ ?_ ?_ ?ca0 ?cl0 ?ci0 ?ci1 ?ci2 ?pg ?hd ?po ?sa ?mk ?kc ?n_move ?n_states ?n_put ?n_ins ?n_look ?n_outs ?xa_SumError ?xa_NoFit ?xe_NoFit ?xm_NoFit_NoFit ?ki_NoFit_SumError ?z_abs ?z_len ?z_min ?z_int ?z_range ?z_list ?z_isinstance ?z_bool ?z_tuple ?z_all ?z_enumerate ?z_zip ?z_sum
  all_goals try refine' Jp ?_ ?_ ?_ ?_
  all_goals try k_is
  (case xe_NoFit=>k_exc)
  (case xm_NoFit_NoFit=>kts_exm)
  (case ki_NoFit_SumError=>kit_is)