import PyProof.Rows.All
import Wide.All
import OpenK.AllK
import Wide.FinOn
import Lean
import PyProof.EqAt
import PyProof.EqKinds
import PyProof.TupleCall
import PyProof.NeKinds
import PySem.Challenge.RW_helmsum_k82_own_wish
set_option Elab.async false
set_option linter.all false
set_option maxRecDepth 100000
abbrev ae:=@List.getD_eq_getElem?_getD
abbrev af:=@List.getD_cons_zero
abbrev ag:=@List.getD_cons_succ
abbrev aj:=@List.length_map
abbrev ak:=@List.getElem?_eq_getElem
abbrev ao:=@Nat.pow_le_pow_right
abbrev ar:=@Nat.le_trans
abbrev av:=@List.mem_of_getElem?
abbrev ax:=@List.sum_cons
abbrev ay:=@Nat.le_refl
abbrev aA:=@List.sum_nil
abbrev aB:=@List.size_toArray
abbrev aD:=@List.getElem?_map
abbrev aG:=@List.mem_map
abbrev aH:=@Rat.intCast_mul
abbrev aI:=@List.length_range
abbrev aJ:=@Int.pow_zero
abbrev aK:=@Int.pow_succ
abbrev aL:=@List.mem_append
abbrev aN:=@List.mem_cons
abbrev aO:=@List.getElem?_eq_some_iff
abbrev aP:=@Nat.lt_of_lt_of_le
abbrev aR:=@Nat.mul_le_mul_right
abbrev aU:=@Bool.false_ne_true
abbrev aV:=@List.take_of_length_le
abbrev aZ:=@Rat.intCast_natCast
abbrev ba:=@Nat.lt_of_le_of_lt
abbrev bf:=@Option.some.inj
abbrev bq:=@List.mem_cons_of_mem
abbrev bA:=@Nat.ne_of_lt
abbrev bB:=@Nat.mul_le_mul
abbrev bC:=@List.getElem_mem
abbrev bG:=@List.mem_append_right
abbrev bH:=@List.not_mem_nil
abbrev bI:=@Nat.le_of_lt
abbrev bL:=@Int.fdiv_eq_ediv_of_nonneg
abbrev bP:=@Nat.zero_le
abbrev bR:=@Rat.div_def
abbrev bS:=@List.length_append
abbrev bZ:=@PySem.boot_len
abbrev b9:=@List.map_congr_left
abbrev cb:=@Rat.intCast_eq_zero_iff
abbrev ck:=@Int.natAbs_natCast
abbrev cw:=@Nat.succ_le_succ
abbrev cx:=@List.getElem?_range
abbrev cz:=@List.mem_cons_self
abbrev cB:=@PySem.W.kia_one
abbrev cC:=@List.nodup_cons
abbrev cD:=@List.length_cons
abbrev cF:=@Nat.pow_le_pow_left
abbrev cG:=@Nat.pow_add
abbrev cH:=@List.nodup_append
abbrev cI:=@List.getElem?_eq_none
abbrev cJ:=@Int.natAbs_dvd_natAbs
abbrev cK:=@List.mem_range
abbrev cL:=@Int.natAbs_mul
abbrev cM:=@Int.mul_assoc
abbrev cR:=@Nat.le_mul_of_pos_right
abbrev dm:=@List.drop_eq_getElem_cons
abbrev du:=@List.getElem_map
abbrev dv:=@Int.gcd_dvd_left
abbrev dw:=@Nat.lt_irrefl
abbrev dD:=@List.getElem?_replicate
abbrev dE:=@Int.gcd_dvd_right
abbrev dJ:=@Int.mul_comm
abbrev dO:=@Nat.mul_assoc
abbrev dP:=@List.ext_getElem
abbrev dQ:=@Bool.and_eq_true
abbrev dR:=@List.mem_singleton
abbrev d5:=@List.length_singleton
abbrev et:=@List.mem_or_eq_of_mem_set
abbrev eD:=@Rat.intCast_pow
abbrev eO:=@Nat.pow_succ
abbrev eP:=@Nat.mul_comm
abbrev fz:=@List.getElem_of_mem
abbrev fB:=@PySem.F.plainAttrs_list
abbrev fM:=@Rat.zero_mul
abbrev fN:=@Int.emod_lt_of_pos
abbrev gQ:=@Rat.intCast_inj
abbrev gS:=@Nat.le_of_dvd
abbrev gT:=@List.length_replicate
abbrev ig:=@List.reverse_cons
abbrev iZ:=@Nat.lt_succ_self
abbrev i5:=@List.lookup_cons
abbrev ja:=@Int.gcd_comm
abbrev jk:=@PySem.mem_of_lookup
abbrev jm:=@List.replicate_succ
abbrev jn:=@List.length_zipWith
abbrev jx:=@PySem.F.type_list_append
abbrev jy:=@PySem.F.slot_list_append
abbrev jz:=@List.map_cons
abbrev jA:=@List.eq_of_mem_replicate
abbrev jM:=@Rat.intCast_neg
abbrev jN:=@Rat.intCast_add
abbrev jO:=@Nat.two_pow_pos
abbrev jP:=@List.map_append
abbrev jQ:=@List.length_set
abbrev jR:=@Int.emod_nonneg
abbrev jU:=@Rat.mul_inv_cancel
abbrev kb:=@Nat.mul_pos
abbrev kd:=@Int.eq_ofNat_of_zero_le
abbrev ke:=@Int.dvd_mul_of_dvd_left
abbrev kX:=@Nat.succ_mul
abbrev kY:=@Nat.le_mul_of_pos_left
abbrev kZ:=@List.flatten_cons
abbrev lg:=@Int.natAbs_add_le
abbrev lO:=@List.mem_flatten
abbrev mV:=@Nat.pow_lt_pow_right
abbrev mW:=@List.replicate_succ'
abbrev mX:=@List.mem_of_mem_take
abbrev mY:=@List.getElem_zipWith
abbrev mZ:=@Int.mul_pos
abbrev m4:=@Bool.eq_iff_iff
abbrev nQ:=@List.length_reverse
abbrev oh:=@Nat.zero_add
abbrev oE:=@Rat.inv_mul_cancel
abbrev oF:=@List.nodup_nil
abbrev oG:=@List.getElem?_append_right
abbrev oH:=@Int.eq_of_mul_eq_mul_right
abbrev pY:=@Nat.pow_mul
abbrev pZ:=@Nat.le_succ
abbrev p3:=@List.append_assoc
abbrev qX:=@List.all_eq_true
abbrev qY:=@Int.natCast_dvd_natCast
abbrev rA:=@Rat.mul_comm
abbrev rB:=@PySem.W.cellsFrom_some
abbrev rC:=@Option.map_eq_some_iff
abbrev rD:=@List.map_map
abbrev rE:=@Int.zero_add
abbrev sU:=@Rat.natCast_mul
abbrev sV:=@List.range_succ
abbrev sW:=@List.append_nil
abbrev sX:=@Bool.beq_eq_decide_eq
abbrev uv:=@Nat.one_mul
abbrev uw:=@List.mem_append_left
abbrev vt:=@PySem.W.plainGet_of
abbrev vv:=@List.filterMap_cons
abbrev wK:=@Rat.mul_assoc
abbrev wM:=@Nat.one_le_two_pow
abbrev wN:=@List.getElem_range
abbrev wO:=@Int.mul_nonpos_of_nonpos_of_nonneg
abbrev wQ:=@Bool.false_eq_true
abbrev yw:=@Rat.add_zero
abbrev yx:=@Nat.ne_of_gt
abbrev yy:=@List.ext_getElem?
abbrev zm:=@List.length_take
abbrev zo:=@List.getElem_set
abbrev Az:=@Int.one_dvd
abbrev AA:=@Int.mul_le_mul_of_nonpos_left
abbrev AB:=@Int.dvd_gcd
abbrev AG:=@Rat.inv_mul_rev
abbrev AH:=@List.of_mem_zip
abbrev AI:=@Int.gcd_pos_of_ne_zero_right
abbrev Er:=@List.getElem?_append_left
abbrev Es:=@Int.natAbs_ediv_of_nonneg
abbrev Ex:=@Option.isSome_iff_exists
abbrev LR9:=List (List Rat)
abbrev FG9:=PySem.W.Frag
namespace L2
open PySem PySem.Spec PyProof.Rows
abbrev Key:=Sum Int Str
def Ct:Key->Value->Bool
 | .inl k,v=>Value.isInt k v
 | .inr x,v=>Value.isStrOf x v
def Gs (w:World):Key->Int
 | .inl k=>hashInt k
 | .inr x=>hashStr w x
theorem dC:∀{k:Key} {v:Value},Ct k v=true->(∃i t,k=Sum.inl i/\v=Value.int i t)\/(∃x t,k=Sum.inr x/\v=Value.str x t)
 | .inl i,v,h=>by
  obtain ⟨t,e⟩:=Value.isInt_shape (k:=i) (v:=v) h;exact .inl ⟨i,t,rfl,e⟩
 | .inr x,v,h=>by
  obtain ⟨t,e⟩:=Value.isStrOf_shape (x:=x) (v:=v) h;exact .inr ⟨x,t,rfl,e⟩
theorem D9 (a b:Int):decide ((Sum.inl a:Key)=Sum.inl b)=(a == b):=by
 by_cases e:a=b
 ·subst e;simp
 ·have h:¬(Sum.inl a:Key)=Sum.inl b:=λq=>e (Sum.inl.inj q)
  rw[decide_eq_false h];exact (beq_eq_false_iff_ne.mpr e).symm
theorem D6 (a b:Str):decide ((Sum.inr a:Key)=Sum.inr b)=decide (a=b):=by
 by_cases e:a=b
 ·subst e;simp
 ·have h:¬(Sum.inr a:Key)=Sum.inr b:=λq=>e (Sum.inr.inj q)
  rw[decide_eq_false h,decide_eq_false e]
theorem D8 (a:Int) (b:Str):decide ((Sum.inl a:Key)=Sum.inr b)=false:=decide_eq_false (λq=>nomatch q)
theorem D7 (a:Str) (b:Int):decide ((Sum.inr a:Key)=Sum.inl b)=false:=decide_eq_false (λq=>nomatch q)
def ya (prog:Program) (w:World):PySem.KeyKind prog w Key where
 is:=Ct
 hash:=Gs w
 inj:=λv a b ha hb=>by
  rcases dC ha with ⟨i,t,rfl,rfl⟩ | ⟨x,t,rfl,rfl⟩
  ·rcases dC hb with ⟨j,u,rfl,e⟩ | ⟨y,u,rfl,e⟩
   ·injection e with e1 _;rw[e1]
   ·exact nomatch e
  ·rcases dC hb with ⟨j,u,rfl,e⟩ | ⟨y,u,rfl,e⟩
   ·exact nomatch e
   ·injection e with e1 _;rw[e1]
 byValue:=λk v h=>by
  rcases dC h with ⟨i,t,rfl,rfl⟩ | ⟨x,t,rfl,rfl⟩ <;> rfl
 pyHash:=λhv h=>by
  rcases dC hv with ⟨i,t,rfl,rfl⟩ | ⟨x,t,rfl,rfl⟩
  ·exact wpAny_pyHash_int h
  ·exact wpAny_pyHash_str h
 eqBool:=λhu hv h=>by
  rcases dC hu with ⟨i,t,rfl,rfl⟩ | ⟨x,t,rfl,rfl⟩
  ·rcases dC hv with ⟨j,u,rfl,rfl⟩ | ⟨y,u,rfl,rfl⟩
   ·rw[D9] at h;exact wpAny_eqBool_int h
   ·rw[D8] at h;exact SeqAt.EqAt.int_str i t y u _ _ _ _ h
  ·rcases dC hv with ⟨j,u,rfl,rfl⟩ | ⟨y,u,rfl,rfl⟩
   ·rw[D7] at h;exact SeqAt.EqAt.str_int x t j u _ _ _ _ h
   ·rw[D6] at h;exact wpAny_eqBool_str h
 «strs»:=λk x t v h=>by
  rcases dC h with ⟨i,u,rfl,e⟩ | ⟨y,u,rfl,e⟩
  ·exact nomatch e
  ·injection e with e1 _
   subst e1;cases v <;> rfl
inductive V where
  | non | bl (b : Bool) | int (i : Int) | str (x : Str) | byt (b : Array UInt8) | flt (b : UInt64) | ref (a : Addr) | ty (n : String)
  deriving DecidableEq

def RelV:V->Value->Prop
 | .non,u=>u=Value.none
 | .bl b,u=>u=Value.bool b
 | .int i,u=>∃t,u=Value.int i t
 | .str x,u=>∃t,u=Value.str x t
 | .byt b,u=>∃t,u=Value.bytes b t
 | .flt b,u=>∃t,u=Value.float b t
 | .ref a,u=>u=Value.ref a
 | .ty n,u=>u=Value.type n
abbrev b7:List V->List Value->Prop:=Paired RelV
theorem b7.length {xs:List V} {us:List Value} (r:b7 xs us):xs.length=us.length:=Paired.length r
theorem b7.get:∀{xs:List V} {us:List Value} {i:Nat} {x:V},b7 xs us->xs[i]?=some x->∃u,us[i]?=some u/\RelV x u
 | _,_,_,_,.nil,e=>by simp at e
 | _,_,0,_,.cons r _,e=>by simp at e;subst e;exact ⟨_,rfl,r⟩
 | _,_,i+1,x,.cons _ t,e=>by
  obtain ⟨u,h1,h2⟩:=b7.get (i:=i) (x:=x) t (by simpa using e);exact ⟨u,by simpa using h1,h2⟩
theorem b7.set {x:V} {u:Value} (r:RelV x u):∀{xs:List V} {us:List Value} (i:Nat),b7 xs us->b7 (xs.set i x) (us.set i u)
 | _,_,_,.nil=>.nil
 | _,_,0,.cons _ t=>.cons r t
 | _,_,i+1,.cons q t=>.cons q (b7.set r i t)
theorem b7.append:∀{xs ys:List V} {us ws:List Value},b7 xs us->b7 ys ws->b7 (xs++ys) (us++ws)
 | _,_,_,_,.nil,s=>s
 | _,_,_,_,.cons r t,s=>.cons r (b7.append t s)
theorem b7.take:∀{xs:List V} {us:List Value} (n:Nat),b7 xs us->b7 (xs.take n) (us.take n)
 | _,_,0,_=>.nil
 | _,_,_+1,.nil=>.nil
 | _,_,n+1,.cons r t=>.cons r (b7.take n t)
theorem b7.drop:∀{xs:List V} {us:List Value} (n:Nat),b7 xs us->b7 (xs.drop n) (us.drop n)
 | _,_,0,r=>r
 | _,_,_+1,.nil=>.nil
 | _,_,n+1,.cons _ t=>b7.drop n t
def tw:Option V->Option Value->Prop
 | some v,some u=>RelV v u
 | none,none=>True
 | _,_=>False
def KV {κ:Type}:List (κ×V)->List (κ×Value)->Prop:=Paired λ(p:κ×V) (q:κ×Value)=>p.1=q.1/\RelV p.2 q.2
def kV:Key->V
 | .inl i=>.int i
 | .inr x=>.str x
inductive HO where
 | lst (xs:List V)
 | tup (xs:List V)
 | dK (kvs:List (Key×V)) | dT (kvs:List (List Key×V))
 | set (S:Int->Bool) (n:Nat)
 | ins (C dx:Addr) (fs:List (Str×V))
 | own (x:Addr)
 | xd (fs:List (Str×V))
 | met (f x:Addr)
 | rng (lo hi:Int)
 | frz (o:Obj) (u:HO)
 | tbl (ps:Array Value)
 | ext (φ:Heap->Prop)
abbrev Hp:=Addr->Option HO
def upd (H:Hp) (a:Addr) (o:HO):Hp:=λb=>if b=a then some o else H b
theorem aE {H:Hp} {a:Addr} {o:HO}:upd H a o a=some o:=by unfold upd;rw[if_pos rfl]
theorem aS {H:Hp} {a b:Addr} {o:HO} (h:b≠a):upd H a o b=H b:=by unfold upd;rw[if_neg h]
theorem dF {H:Hp} {a b:Addr} {o:HO} (h:H a=some o) (h':H b=none):a≠b:=by
 intro e;subst e;rw[h] at h';cases h'
section
variable (P:Program) (w:World)
def gN (H:Hp) (h:Heap) (a:Addr):HO->Prop
 | .lst xs=>xs.length<=sizeLine/\∃(its:List Value) (n:Nat),b7 xs its/\h.get? a=some { cls:=.type "list",data:=.seq its.toArray n }
 | .tup xs=>xs.length<=sizeLine/\∃its:List Value,b7 xs its/\IsTup h a its.toArray
 | .dK kvs=>kvs.length<=sizeLine/\(a == sysModules)=false/\∃vs,KV kvs vs/\h.DictOf (ya P w) a vs
 | .dT kvs=>kvs.length<=sizeLine/\(a == sysModules)=false/\∃xs:List (List Key×Addr×Value),
   Paired (λ(p:List Key×V) (q:List Key×Addr×Value)=>p.1=q.1/\H q.2.1=some (.tup (p.1.map kV))/\RelV p.2 q.2.2) kvs xs /\
   ∃o es ep,h.get? a=some o/\o.ExactDict/\o.data=.dict es ep/\es.toList=xs.map (entryOfKey (tupleKind (ya P w)))/\(xs.map (·.1)).Nodup
 | .set S n=>h.SetOf (intKind P w) a S n
 | .ins C dx fs=>H dx=some (.own a)/\fs.length<=1000/\dx≠a/\h.get? a=some (PySem.W.instObj C dx) /\
   ∃mA,h.Ns1 dx mA/\(∀f,tw (fs.lookup f) (mA f))/\PySem.Within mA (fs.map (·.1))
 | .own _=>∃o,h.get? a=some o
 | .xd fs=>∃mA,h.Ns1 a mA/\∀f,tw (fs.lookup f) (mA f)
 | .rng lo hi=>∃t u v,h.get? a=some { cls:=.type "range",data:=.fields #[.int lo t,.int hi u,.int 1 v] }
 | .frz o u=>h.get? a=some o/\gN H h a u
 | .tbl ps=>h.get? a=some { cls:=.none,data:=.fields ps }
 | .met f x=>h.get? a=some (PySem.W.methodObj (.ref f) (.ref x))
 | .ext φ=>φ h/\(∃o,h.get? a=some o)/\∀h1 h2:Heap,φ h1->(∀o,h1.get? a=some o->h2.get? a=some o)->φ h2
def rz (H:Hp) (h:Heap):Prop:=∀a o,H a=some o->gN P w H h a o
end
section
variable {P:Program} {w:World} {H H':Hp} {h h':Heap} {a:Addr} {o:HO}
theorem gN.lt (x:gN P w H h a o):a < h.objs.size:=by
 cases o with
 | lst xs=>obtain ⟨_,_,_,_,e⟩:=x;exact Heap.lt_size e
 | tup xs=>obtain ⟨_,_,_,p⟩:=x;exact p.lt
 | dK kvs=>obtain ⟨_,_,_,_,o,_,_,e,_⟩:=x;exact Heap.lt_size e
 | dT kvs=>obtain ⟨_,_,_,_,o,_,_,e,_⟩:=x;exact Heap.lt_size e
 | set S n=>obtain ⟨o,_,_,_,e,_⟩:=x;exact Heap.lt_size e
 | ins C dx fs=>obtain ⟨_,_,_,e,_⟩:=x;exact Heap.lt_size e
 | own y=>obtain ⟨_,e⟩:=x;exact Heap.lt_size e
 | xd fs=>obtain ⟨_,⟨_,_,_,e,_⟩,_⟩:=x;exact Heap.lt_size e
 | rng lo hi=>obtain ⟨_,_,_,e⟩:=x;exact Heap.lt_size e
 | frz ob u=>obtain ⟨e,_⟩:=x;exact Heap.lt_size e
 | tbl ps=>exact Heap.lt_size (show h.get? a=some _ from x)
 | met f y=>exact Heap.lt_size (show h.get? a=some _ from x)
 | ext φ=>obtain ⟨_,⟨_,e⟩,_⟩:=x;exact Heap.lt_size e
theorem Paired.mapP {α β:Type} {F G:α->β->Prop}:∀{l₁:List α} {l₂:List β},Paired F l₁ l₂->(∀a b,F a b->G a b)->Paired G l₁ l₂
 | _,_,.nil,_=>.nil
 | _,_,.cons r t,f=>.cons (f _ _ r) (Paired.mapP t f)
theorem Paired.imp' {α β:Type} {F G:α->β->Prop} (f:∀a b,F a b->G a b) {l₁:List α} {l₂:List β} (r:Paired F l₁ l₂):Paired G l₁ l₂:=Paired.mapP r f
theorem gN.stay (x:gN P w H h a o) (k:∀b u,(b=a\/H b=some (.own a))->h.get? b=some u->h'.get? b=some u)
  (ho:∀b,H b=some (.own a)->H' b=some (.own a)) (ht:∀b xs,H b=some (.tup xs)->H' b=some (.tup xs)):gN P w H' h' a o:=by
 induction o with
 | lst xs=>obtain ⟨z,its,n,r,e⟩:=x;exact ⟨z,its,n,r,k _ _ (.inl rfl) e⟩
 | tup xs=>obtain ⟨z,its,r,ob,e,c⟩:=x;exact ⟨z,its,r,ob,k _ _ (.inl rfl) e,c⟩
 | dK kvs=>obtain ⟨z,y,vs,r,ob,es,ep,e,c⟩:=x;exact ⟨z,y,vs,r,ob,es,ep,k _ _ (.inl rfl) e,c⟩
 | dT kvs =>
  obtain ⟨z,y,xs,r,ob,es,ep,e,c⟩:=x;exact ⟨z,y,xs,Paired.mapP r λp q z=>⟨z.1,ht _ _ z.2.1,z.2.2⟩,ob,es,ep,k _ _ (.inl rfl) e,c⟩
 | set S n=>obtain ⟨ob,es,ep,t,e,c⟩:=x;exact ⟨ob,es,ep,t,k _ _ (.inl rfl) e,c⟩
 | ins C dx fs =>
  obtain ⟨d,z,ne,e,mA,⟨od,es,ep,e2,c⟩,r⟩:=x;exact ⟨ho _ d,z,ne,k _ _ (.inl rfl) e,mA,⟨od,es,ep,k _ _ (.inr d) e2,c⟩,r⟩
 | own y=>obtain ⟨ob,e⟩:=x;exact ⟨ob,k _ _ (.inl rfl) e⟩
 | xd fs=>obtain ⟨mA,⟨od,es,ep,e,c⟩,r⟩:=x;exact ⟨mA,⟨od,es,ep,k _ _ (.inl rfl) e,c⟩,r⟩
 | rng lo hi=>obtain ⟨t,u,v,e⟩:=x;exact ⟨t,u,v,k _ _ (.inl rfl) e⟩
 | frz ob u ih=>obtain ⟨e,q⟩:=x;exact ⟨k _ _ (.inl rfl) e,ih q⟩
 | tbl ps =>
  have e:h.get? a=some { cls:=.none,data:=.fields ps }:=x;show h'.get? a=some { cls:=.none,data:=.fields ps }
  exact k a _ (.inl rfl) e
 | met f y =>
  have e:h.get? a=some (PySem.W.methodObj (.ref f) (.ref y)):=x;show h'.get? a=some (PySem.W.methodObj (.ref f) (.ref y))
  exact k a _ (.inl rfl) e
 | ext φ=>obtain ⟨p,⟨o,e⟩,st⟩:=x;exact ⟨st _ _ p λo q=>k _ _ (.inl rfl) q,⟨o,k _ _ (.inl rfl) e⟩,st⟩
theorem rz.lt (x:rz P w H h) (e:H a=some o):a < h.objs.size:=(x a o e).lt
theorem rz.fresh (x:rz P w H h) (e:h.objs.size<=a):H a=none:=by
 cases q:H a with
 | none=>rfl
 | some u=>exact absurd (aP (x.lt q) e) (dw _)
theorem rz.kept (x:rz P w H h) (k:∀b u,h.get? b=some u->h'.get? b=some u):rz P w H h':=λa o e =>
 (x a o e).stay (λb u _ q=>k b u q) (λ_ q=>q) λ_ _ q=>q
theorem rz.laid (x:rz P w H h) (k:∀b u,h.get? b=some u->h'.get? b=some u) (hp:h.objs.size<=a) (new:gN P w (upd H a o) h' a o):rz P w (upd H a o) h':=λb u e=>by
 have hn:=x.fresh hp;by_cases hb:b=a
 ·subst hb;rw[aE] at e;cases e;exact new
 ·rw[aS hb] at e;exact (x b u e).stay (λc v _ q=>k c v q) (λc q=>by rw[aS (dF q hn)];exact q) λc xs q=>by rw[aS (dF q hn)];exact q
end
def Rd (H:Hp) (a:Addr) (u:HO):Prop:=H a=some u\/∃o,H a=some (.frz o u)
theorem Rd.ok {P:Program} {w:World} {H:Hp} {h:Heap} {a:Addr} {u:HO} (r:Rd H a u) (x:rz P w H h):gN P w H h a u:=by
 rcases r with r | ⟨o,r⟩
 ·exact x a u r
 ·obtain ⟨_,q⟩:=x a _ r;exact q
def FX:Option HO->Prop
 | some (.lst _)=>True
 | some (.dK _)=>True
 | some (.dT _)=>True
 | some (.set _ _)=>True
 | some (.ins _ _ _)=>True
 | some (.ext _)=>True
 | _=>False
section
variable {P:Program} {w:World} {H:Hp} {h h':Heap} {x e:Addr} {o':HO}
theorem rz.write (ok:rz P w H h) (mu:FX (H x)) (he:e=x\/H e=some (.own x)) (k:∀b u,b≠e->h.get? b=some u->h'.get? b=some u) (heo:∃u,h'.get? e=some u)
  (new:gN P w (upd H x o') h' x o'):rz P w (upd H x o') h':=λb u q=>by
 have nown:∀c y,H c=some (.own y)->c≠x:=λc y r z=>by subst z;rw[r] at mu;exact mu
 have ntup:∀c xs,H c=some (.tup xs)->c≠x:=λc xs r z=>by subst z;rw[r] at mu;exact mu
 by_cases hb:b=x
 ·subst hb;rw[aE] at q;cases q;exact new
 ·rw[aS hb] at q;by_cases hbe:b=e
  ·have q':H b=some (.own x):=by
    rcases he with z | z
    ·exact absurd (hbe.trans z) hb
    ·rw[hbe];exact z
   rw[q] at q';cases q';obtain ⟨v,hv⟩:=heo;exact ⟨v,by rw[hbe];exact hv⟩
  ·refine (ok b u q).stay (λc v hc r=>k c v ?_ r) (λc r=>by rw[aS (nown c b r)];exact r) λc xs r=>by rw[aS (ntup c xs r)];exact r
   rcases hc with rfl | hc
   ·exact hbe
   ·rintro rfl;rcases he with z | z
    ·exact nown c b hc z
    ·rw[hc] at z;cases z;exact hb rfl
end
structure Un (fs ex:List Addr) (H H':Hp) (h h':Heap):Prop where
 keep:∀b o,h.get? b=some o->H b=none->b∉fs->b∉ex->h'.get? b=some o
 slot:∀b o,h.get? b=some o->H b=none->b∈fs->b∉ex->∃sl,h'.get? b=some { o with slots:=sl }
 free:∀b o,h.get? b=some o->H b=none->b∉ex->H' b=none
 there:∀b o,h.get? b=some o->b∉ex->∃o',h'.get? b=some o'
 tups:∀b xs,H b=some (.tup xs)->H' b=some (.tup xs)
 frzs:∀b o u,H b=some (.frz o u)->H' b=some (.frz o u)
 tbls:∀b ps,H b=some (.tbl ps)->∃more,H' b=some (.tbl (ps++more))
section
variable {fs fs' ex ex':List Addr} {H H1 H2:Hp} {h h1 h2 h':Heap} {a x e:Addr} {o:HO}
theorem Un.any (u:Un fs ex H H1 h h1) {b:Addr} {ob:Obj} (q:h.get? b=some ob) (n:H b=none) (hx:b∉ex):∃sl,h1.get? b=some { ob with slots:=sl }:=by
 by_cases hb:b∈fs
 ·exact u.slot b ob q n hb hx
 ·exact ⟨ob.slots,u.keep b ob q n hb hx⟩
theorem Un.kept (k:∀b u,h.get? b=some u->h'.get? b=some u):Un fs ex H H h h' :=
 ⟨λb ob q _ _ _=>k b ob q,λb ob q _ _ _=>⟨ob.slots,k b ob q⟩,λ_ _ _ n _=>n,λb ob q _=>⟨ob,k b ob q⟩,λ_ _ q=>q,λ_ _ _ q=>q,λ_ ps q=>⟨#[],by rw[q];simp⟩⟩
theorem Un.refl:Un fs ex H H h h:=Un.kept λ_ _ q=>q
theorem Un.laid (k:∀b u,h.get? b=some u->h'.get? b=some u) (hp:h.objs.size<=a) (hn:H a=none):Un fs ex H (upd H a o) h h' where
 keep:=λb u q _ _ _=>k b u q
 slot:=λb u q _ _ _=>⟨u.slots,k b u q⟩
 free:=λb u q n _=>by rw[aS (bA (aP (Heap.lt_size q) hp))];exact n
 there:=λb u q _=>⟨u,k b u q⟩
 tups:=λb xs q=>by rw[aS (dF q hn)];exact q
 frzs:=λb u xs q=>by rw[aS (dF q hn)];exact q
 tbls:=λb ps q=>⟨#[],by rw[aS (dF q hn),q];simp⟩
theorem Un.write (mu:FX (H x)) (he:e=x\/H e=some (.own x)) (k:∀b u,b≠e->h.get? b=some u->h'.get? b=some u) (heo:∃u,h'.get? e=some u):Un fs ex H (upd H x o) h h':=by
 have hx:∀b,H b=none->b≠x:=λb n z=>by subst z;rw[n] at mu;exact mu
 have hb:∀b,H b=none->b≠e:=λb n z=>by
  subst z;rcases he with r | r
  ·exact hx b n r
  ·rw[n] at r;cases r
 have hm:∀b u,H b=some u->¬FX (some u)->b≠x:=λb u q nm z=>by subst z;rw[q] at mu;exact nm mu
 refine ⟨λb u q n _ _=>k b u (hb b n) q,λb u q n _ _=>⟨u.slots,k b u (hb b n) q⟩,λb u q n _=>by rw[aS (hx b n)];exact n,λb u q _=>?_,
  λb xs q=>by rw[aS (hm b _ q λz=>z)];exact q,λb u xs q=>by rw[aS (hm b _ q λz=>z)];exact q,λb ps q=>⟨#[],by rw[aS (hm b _ q λz=>z),q];simp⟩⟩
 by_cases hbe:b=e
 ·subst hbe;exact heo
 ·exact ⟨u,k b u hbe q⟩
end
def FQ (h:Heap) (H:Hp):List Addr:=(List.range h.objs.size).filter λa=>(H a).isSome
def u6 (h:Heap) (H:Hp):Heap:=PySem.W.hideAll h (FQ h H)
theorem y0 (h:Heap) (H:Hp):(u6 h H).objs.size=h.objs.size:=PySem.W.hideAll_size _ _
theorem Ae {h:Heap} {H:Hp} {b:Addr} {o:Obj} (e:h.get? b=some o) (n:H b=none):(u6 h H).get? b=some o :=
 PySem.W.hideAll_get _ e λhm=>by
  have q:(H b).isSome=true:=(List.mem_filter.mp hm).2;rw[n] at q;simp at q
theorem BD {h:Heap} {H:Hp} {b:Addr} {o:Obj} (e:(u6 h H).get? b=some o):h.get? b=some o/\H b=none:=by
 have e':h.get? b=some o:=PySem.W.of_hideAll (FQ h H) e;refine ⟨e',?_⟩;cases q:H b with
 | none=>rfl
 | some x =>
  have hm:b∈FQ h H:=List.mem_filter.mpr ⟨cK.mpr (Heap.lt_size e'),by simp [q]⟩;have z:(u6 h H).get? b=none:=PySem.W.hideAll_none (FQ h H) hm;rw[z] at e;cases e
structure Mod (K:FG9) (mg:Str->Option Value) (base:Heap):Prop where
 kin:K.In base
 glob:base.Ns mainGlobals mg
 blt:∃mb,base.Ns builtinsNs mb/\∀x:Str,x≠"__name__"->mb x=bootBuiltins x
 nolimit:base.NoLimit
structure Cx where
 prog:Program
 w:World
 K:FG9
 mg:Str->Option Value
 base:Heap
 A:Around
 N:List Str
 s₀:Shared
 H₀:Hp
 env:Env
 outer:List Env
 stack:List Env
 ex:List Addr
 fn:Str->Bool
 calm:Bool
 pn:List (Addr×Obj)
 xe:Value->Shared->Prop
def zi (l:List Env):List Addr:=l.filterMap (·.frame)
abbrev Cx.fs (X:Cx):List Addr:=zi X.outer
def GA (sc:Scope) (x:Str):Prop:=sc.names.lookup x=some .local\/sc.names.lookup x=some .cell\/sc.names.lookup x=some .free
def Loc (sc:Scope) (x:Str):Prop:=sc.names.lookup x=some .local\/sc.names.lookup x=some .cell
def Look (env:Env) (h:Heap) (m:Str->Option Value) (x:Str) (u:Value):Prop :=
 (env.kindOf x=some .local/\m x=some u)\/((env.kindOf x=some .cell\/env.kindOf x=some .free)/\∃c,env.cells.lookup x=some c/\h.IsCell c (some u))
structure Cx.Ok (X:Cx):Prop where
 mod:Mod X.K X.mg X.base
 kind:X.env.scope.kind=.function
 glob:X.env.globals=mainGlobals
 blt:X.env.builtins=builtinsNs
 above:X.s₀.heap.objs.size<=X.env.locals
 inj:∀x y c,X.env.cells.lookup x=some c->X.env.cells.lookup y=some c->x=y
 has:∀x,(X.env.kindOf x=some .cell\/X.env.kindOf x=some .free)->∃c,X.env.cells.lookup x=some c
 cab:∀x c,X.fn x=true->X.env.cells.lookup x=some c->X.s₀.heap.objs.size<=c
 hd:X.calm=true->X.A.handled=none
 frames:X.A.frames=some X.stack
 stk:X.stack=X.outer\/(X.stack=X.env :: X.outer/\X.env.frame=some X.env.locals)
 exf:∀b∈X.ex,b≠X.env.locals/\∀x c,X.env.cells.lookup x=some c->c≠b
 bs:∀b o,X.base.get? b=some o->X.s₀.heap.get? b=some o/\X.H₀ b=none
 bsz:X.base.objs.size<=X.s₀.heap.objs.size
 noex:∀b o,X.base.get? b=some o->b∉X.ex
 exfs:∀b∈X.ex,b∉X.fs
 funs:X.s₀.heap.FunFrames X.base X.outer
 frf:∀b∈X.fs,X.H₀ b=none
structure Inv (X:Cx) (pins:List (Addr×Obj)) (σ:List (Option V)) (H:Hp) (s:Shared):Prop where
 ok:X.Ok
 os:s.os=X.s₀.os
 bare:AllBare s.gens
 base:Un X.fs X.ex X.H₀ H X.s₀.heap s.heap
 loc:∃m,s.heap.Ns X.env.locals m/\∀(i:Nat) (x:Str) (v:V),X.N[i]?=some x->σ[i]?=some (some v)->GA X.env.scope x->∃u,RelV v u/\Look X.env s.heap m x u
 cell:∀x c,X.env.cells.lookup x=some c->∃v,s.heap.IsCell c v
 free:H X.env.locals=none
 freeC:∀x c,X.env.cells.lookup x=some c->H c=none
 pin:∀p∈X.pn++pins,s.heap.get? p.1=some p.2/\H p.1=none/\p.1≠X.env.locals/\p.1∉X.fs/\∀v,p.2.data≠.cell v
 hok:rz X.prog X.w H s.heap
 len:σ.length=X.N.length
section
variable {X:Cx} {pins:List (Addr×Obj)} {σ:List (Option V)} {H H':Hp} {s:Shared} {h':Heap}
theorem Cx.Ok.nofr (ok:X.Ok) {b:Addr} {o:Obj} (e:X.base.get? b=some o):b∉X.fs:=λhb=>by
 have:=(ok.funs.mem hb).1;rw[e] at this;cases this
theorem Inv.bs (I:Inv X pins σ H s):∀b o,X.base.get? b=some o->s.heap.get? b=some o/\H b=none:=λb o e =>
 ⟨I.base.keep b o (I.ok.bs b o e).1 (I.ok.bs b o e).2 (I.ok.nofr e) (I.ok.noex b o e),I.base.free b o (I.ok.bs b o e).1 (I.ok.bs b o e).2 (I.ok.noex b o e)⟩
theorem Inv.bk (I:Inv X pins σ H s):∀b o,X.base.get? b=some o->s.heap.get? b=some o:=λb o e=>(I.bs b o e).1
theorem Inv.mod (I:Inv X pins σ H s):Mod X.K X.mg X.base:=I.ok.mod
theorem Inv.kIn (I:Inv X pins σ H s):X.K.In s.heap:=I.ok.mod.kin.keeps I.bk
theorem Inv.lt (I:Inv X pins σ H s):X.env.locals < s.heap.objs.size:=let ⟨_,hn,_⟩:=I.loc;hn.lt
theorem Inv.sz (I:Inv X pins σ H s):X.s₀.heap.objs.size<=s.heap.objs.size:=ar I.ok.above (bI I.lt)
theorem Inv.nofs (I:Inv X pins σ H s) {a:Addr} (h:s.heap.objs.size<=a):a∉X.fs:=λhb=>by
 obtain ⟨_,o,ho,_⟩:=I.ok.funs.mem hb;exact absurd (aP (Heap.lt_size ho) (ar I.sz h)) (dw _)
theorem Inv.cne (I:Inv X pins σ H s):∀x c,X.env.cells.lookup x=some c->c≠X.env.locals:=λx c e z=>by
 obtain ⟨v,o,ho,hd⟩:=I.cell x c e;obtain ⟨m,⟨o',es,ep,ho',hd',_⟩,_⟩:=I.loc;rw[z,ho'] at ho;cases ho;rw[hd'] at hd;cases hd
theorem Inv.funs (I:Inv X pins σ H s):s.heap.FunFrames X.base X.outer:=by
 have all:∀(l:List Env),(∀b∈zi l,b∈X.fs)->X.s₀.heap.FunFrames X.base l->s.heap.FunFrames X.base l:=by
  intro l
  induction l with
  | nil=>intro _ _;trivial
  | cons env r ih =>
   intro hs hl;obtain ⟨hk,⟨L,o,hf,hn,ho,hd⟩,hr⟩:=hl;have hL:L∈X.fs:=hs L (by unfold zi;rw[vv,hf];exact cz);obtain ⟨sl,e⟩:=I.base.slot L o ho (I.ok.frf L hL) hL λz=>I.ok.exfs L z hL
   exact ⟨hk,⟨L,_,hf,hn,e,hd⟩,ih (λb hb=>hs b (by unfold zi;rw[vv,hf];exact bq _ hb)) hr⟩
 exact all X.outer (λ_ hb=>hb) I.ok.funs
theorem Inv.stack (I:Inv X pins σ H s):s.heap.FunFrames X.base X.stack:=by
 rcases I.ok.stk with e | ⟨e,hf⟩
 ·rw[e];exact I.funs
 ·rw[e];obtain ⟨m,hn,_⟩:=I.loc;refine .cons (by rw[I.ok.kind];decide) hf hn ?_ I.funs;exact Heap.get?_none_of_le (ar I.ok.bsz I.ok.above)
theorem Inv.stkSub (I:Inv X pins σ H s):∀b∈zi X.stack,b∈X.env.locals :: X.fs:=λb hb=>by
 rcases I.ok.stk with e | ⟨e,hf⟩
 ·rw[e] at hb;exact bq _ hb
 ·rw[e] at hb;unfold zi at hb;rw[vv,hf] at hb;exact hb
theorem Inv.stkFree (I:Inv X pins σ H s):∀b∈zi X.stack,H b=none:=λb hb=>by
 rcases aN.mp (I.stkSub b hb) with e | hb
 ·rw[e];exact I.free
 ·obtain ⟨_,o,ho,_⟩:=I.ok.funs.mem hb;exact I.base.free b o ho (I.ok.frf b hb) λz=>I.ok.exfs b z hb
theorem Inv.step {g':Array GenState} {t':Nat} {d':Drawn} {ch:List Addr} (I:Inv X pins σ H s)
  (hch:∀b∈ch,(b∈X.ex\/X.s₀.heap.objs.size<=b)/\b≠X.env.locals/\(∀x c,X.env.cells.lookup x=some c->c≠b)/\∀p∈X.pn++pins,p.1≠b)
  (keep:∀b o,b≠X.env.locals->b∉X.fs->b∉ch->s.heap.get? b=some o->H b=none->h'.get? b=some o)
  (slot:∀b o,b≠X.env.locals->b∈X.fs->b∉ch->s.heap.get? b=some o->H b=none->∃sl,h'.get? b=some { o with slots:=sl }) (free:∀b o,b∉ch->s.heap.get? b=some o->H b=none->H' b=none)
  (there:∀b o,b∉ch->s.heap.get? b=some o->∃o',h'.get? b=some o')
  (tups:∀b xs,H b=some (.tup xs)->H' b=some (.tup xs)) (frzs:∀b o u,H b=some (.frz o u)->H' b=some (.frz o u)) (tbls:∀b ps,H b=some (.tbl ps)->∃more,H' b=some (.tbl (ps++more)))
  (ns:∀m,s.heap.Ns X.env.locals m->h'.Ns X.env.locals m) (hok:rz X.prog X.w H' h') (hg:AllBare g') :
  Inv X pins σ H' { s with heap:=h',gens:=g',drawn:=d',toks:=t' }:=by
 have neL:∀b o,X.s₀.heap.get? b=some o->b≠X.env.locals:=λb o e=>bA (aP (Heap.lt_size e) I.ok.above)
 have neC:∀b o,X.s₀.heap.get? b=some o->b∉X.ex->b∉ch:=λb o e hx hb=>by
  rcases (hch b hb).1 with z | z
  ·exact hx z
  ·exact absurd (aP (Heap.lt_size e) z) (dw _)
 have cellK:∀x c,X.env.cells.lookup x=some c->∀v,s.heap.IsCell c v->h'.IsCell c v:=λx c e v ⟨o,ho,hd⟩=>by
  have nch:c∉ch:=λz=>(hch c z).2.2.1 x c e rfl
  by_cases hc:c∈X.fs
  ·obtain ⟨sl,q⟩:=slot c o (I.cne x c e) hc nch ho (I.freeC x c e);exact ⟨_,q,hd⟩
  ·exact ⟨o,keep c o (I.cne x c e) hc nch ho (I.freeC x c e),hd⟩
 refine ⟨I.ok,I.os,hg,⟨λb o e n hb hx=>?_,λb o e n hb hx=>?_,λb o e n hx=>?_,λb o e hx=>?_,λb xs e=>tups b xs (I.base.tups b xs e),λb o xs e=>frzs b o xs (I.base.frzs b o xs e),λb ps e=>?_⟩,?_,λx c e=>?_,?_,λx c e=>?_,λp hp=>?_,hok,I.len⟩
 ·exact keep b o (neL b o e) hb (neC b o e hx) (I.base.keep b o e n hb hx) (I.base.free b o e n hx)
 ·obtain ⟨sl,e1⟩:=I.base.slot b o e n hb hx;obtain ⟨sl',e2⟩:=slot b _ (neL b o e) hb (neC b o e hx) e1 (I.base.free b o e n hx);exact ⟨sl',e2⟩
 ·obtain ⟨o',e1⟩:=I.base.there b o e hx;exact free b o' (neC b o e hx) e1 (I.base.free b o e n hx)
 ·obtain ⟨o',e1⟩:=I.base.there b o e hx;exact there b o' (neC b o e hx) e1
 ·obtain ⟨m1,e1⟩:=I.base.tbls b ps e;obtain ⟨m2,e2⟩:=tbls b _ e1;exact ⟨m1++m2,by rw[e2,Array.append_assoc]⟩
 ·obtain ⟨m,hn,hl⟩:=I.loc;refine ⟨m,ns m hn,λi x v e1 e2 e3=>?_⟩;obtain ⟨u,r,l⟩:=hl i x v e1 e2 e3;refine ⟨u,r,?_⟩;rcases l with l | ⟨k,c,e,z⟩
  ·exact .inl l
  ·exact .inr ⟨k,c,e,cellK x c e _ z⟩
 ·obtain ⟨v,z⟩:=I.cell x c e;exact ⟨v,cellK x c e v z⟩
 ·obtain ⟨m,⟨o,_,_,ho,_⟩,_⟩:=I.loc;exact free _ o (λz=>(hch _ z).2.1 rfl) ho I.free
 ·obtain ⟨v,o,ho,hd⟩:=I.cell x c e;exact free c o (λz=>(hch c z).2.2.1 x c e rfl) ho (I.freeC x c e)
 ·obtain ⟨e,n,ne,nf,d⟩:=I.pin p hp;have nch:p.1∉ch:=λz=>(hch p.1 z).2.2.2 p hp rfl
  exact ⟨keep p.1 p.2 ne nf nch e n,free p.1 p.2 nch e n,ne,nf,d⟩
theorem Inv.un {t':Nat} (I:Inv X pins σ H s) (u:Un X.fs [] H H' s.heap h') (hok:rz X.prog X.w H' h'):Inv X pins σ H' { s with heap:=h',toks:=t' }:=by
 obtain ⟨m,⟨o,es,ep,ho,r⟩,_⟩:=id I.loc;obtain ⟨sl,hL⟩:=u.any ho I.free (by simp)
 exact I.step (g':=s.gens) (d':=s.drawn) (ch:=[]) (λ_ z=>nomatch z) (λb o _ hb _ e n=>u.keep b o e n hb (by simp)) (λb o _ hb _ e n=>u.slot b o e n hb (by simp)) (λb o _ e n=>u.free b o e n (by simp)) (λb o _ e=>u.there b o e (by simp)) u.tups u.frzs u.tbls (λm' hm=>by
  obtain ⟨o',es',ep',ho',r'⟩:=hm;rw[ho] at ho';cases ho';exact ⟨_,es',ep',hL,r'⟩) hok I.bare
theorem Inv.call {g':Array GenState} {t':Nat} {d':Drawn} {ch:List Addr} (I:Inv X pins σ H s) (u:Un (zi X.stack) ch H H' s.heap h') (hok:rz X.prog X.w H' h') (hg:AllBare g')
  (hch:∀b∈ch,(b∈X.ex\/X.s₀.heap.objs.size<=b)/\b≠X.env.locals/\(∀x c,X.env.cells.lookup x=some c->c≠b)/\∀p∈X.pn++pins,p.1≠b) :
  Inv X pins σ H' { s with heap:=h',gens:=g',drawn:=d',toks:=t' }:=by
 obtain ⟨m,⟨o,es,ep,ho,r⟩,_⟩:=id I.loc;obtain ⟨sl,hL⟩:=u.any ho I.free λz=>(hch _ z).2.1 rfl
 exact I.step (ch:=ch) hch (λb o hL hb hc e n=>u.keep b o e n (λz=>(aN.mp (I.stkSub b z)).elim hL hb) hc) (λb o _ _ hc e n=>u.any e n hc) (λb o hc e n=>u.free b o e n hc) (λb o hc e=>u.there b o e hc) u.tups u.frzs u.tbls (λm' hm=>by
  obtain ⟨o',es',ep',ho',r'⟩:=hm;rw[ho] at ho';cases ho';exact ⟨_,es',ep',hL,r'⟩) hok hg
theorem Inv.turned {t':Nat} {it:Addr} (I:Inv X pins σ H s) (k:∀b o,b≠it->s.heap.get? b=some o->h'.get? b=some o) (hn:H it=none) (hL:it≠X.env.locals)
  (h1:it∈X.ex\/X.s₀.heap.objs.size<=it) (h2:∀x c,X.env.cells.lookup x=some c->c≠it) (h3:∀p∈X.pn++pins,p.1≠it):Inv X pins σ H { s with heap:=h',toks:=t' }:=by
 have nit:∀b u,H b=some u->b≠it:=λb u e z=>by rw[z,hn] at e;cases e
 refine I.step (g':=s.gens) (d':=s.drawn) (ch:=[it]) (λb hb=>?_) (λb o _ _ hc e _=>k b o (λz=>hc (by simp [z])) e) (λb o _ _ hc e _=>⟨o.slots,k b o (λz=>hc (by simp [z])) e⟩) (λ_ _ _ _ n=>n)
  (λb o hc e=>⟨o,k b o (λz=>hc (by simp [z])) e⟩) (λ_ _ e=>e) (λ_ _ _ e=>e) (λb ps e=>⟨#[],by rw[e];simp⟩) (λm hm=>?_) (λb u e=>?_) I.bare
 ·have e:b=it:=by simpa using hb
  subst e;exact ⟨h1,hL,h2,h3⟩
 ·obtain ⟨o,es,ep,ho,r⟩:=hm;exact ⟨o,es,ep,k _ o (Ne.symm hL) ho,r⟩
 ·refine (I.hok b u e).stay (λc v hc q=>k c v ?_ q) (λ_ q=>q) λ_ _ q=>q
  rcases hc with z | z
  ·rw[z];exact nit b u e
  ·exact nit c _ z
theorem Inv.tok (I:Inv X pins σ H s) (t:Nat):Inv X pins σ H { s with toks:=t }:=I.un (h':=s.heap) (t':=t) Un.refl I.hok
theorem Inv.kept {t':Nat} (I:Inv X pins σ H s) (k:∀b u,s.heap.get? b=some u->h'.get? b=some u):Inv X pins σ H { s with heap:=h',toks:=t' }:=I.un (Un.kept k) (I.hok.kept k)
theorem Inv.laid {a:Addr} {o:HO} {t':Nat} (I:Inv X pins σ H s) (k:∀b u,s.heap.get? b=some u->h'.get? b=some u) (hp:s.heap.objs.size<=a) (new:gN X.prog X.w (upd H a o) h' a o) :
  Inv X pins σ (upd H a o) { s with heap:=h',toks:=t' }:=I.un (Un.laid k hp (I.hok.fresh hp)) (I.hok.laid k hp new)
theorem Inv.write {x e:Addr} {o:HO} {t':Nat} (I:Inv X pins σ H s) (mu:FX (H x)) (he:e=x\/H e=some (.own x)) (k:∀b u,b≠e->s.heap.get? b=some u->h'.get? b=some u) (heo:∃u,h'.get? e=some u)
  (new:gN X.prog X.w (upd H x o) h' x o):Inv X pins σ (upd H x o) { s with heap:=h',toks:=t' }:=I.un (Un.write mu he k heo) (I.hok.write mu he k heo new)
theorem Inv.pins_of {pins':List (Addr×Obj)} (I:Inv X pins σ H s) (h:∀p∈pins',s.heap.get? p.1=some p.2/\H p.1=none/\p.1≠X.env.locals/\p.1∉X.fs/\∀v,p.2.data≠.cell v):Inv X pins' σ H s :=
 ⟨I.ok,I.os,I.bare,I.base,I.loc,I.cell,I.free,I.freeC,λp hp=>(aL.mp hp).elim (λz=>I.pin p (uw _ z)) (h p),I.hok,I.len⟩
theorem v8 {N:List Str} (hN:N.Nodup) {i j:Nat} {x:Str} (a:N[i]?=some x) (b:N[j]?=some x):i=j:=by
 obtain ⟨h1,e1⟩:=aO.mp a;obtain ⟨h2,e2⟩:=aO.mp b;exact (List.getElem_inj hN).mp (e1.trans e2.symm)
theorem tG {M:Model} {A:Around} {E:Value->Shared->Prop} {i:Nat} {x:Str} {v:V} {u:Value} {Q:Unit->Shared->Prop} (I:Inv X pins σ H s) (hN:X.N.Nodup) (hi:X.N[i]?=some x) (hx:Loc X.env.scope x) (r:RelV v u)
  (h:∀s',Inv X pins (σ.set i (some v)) H s'->(∃a,Heap.SameBut a s.heap s'.heap/\(a=X.env.locals\/X.env.cells.lookup x=some a))->Q () s') (hf:X.fn x=true\/X.env.scope.names.lookup x=some .local:=by first | exact .inl rfl | exact .inr rfl | assumption):wpAny M A (storeName X.env x u) Q E s:=by
 obtain ⟨m,hn,hl⟩:=id I.loc;have hcls:(X.env.scope.kind == .class || (X.env.scope.kind == .module && X.env.locals != X.env.globals))=false:=by rw[I.ok.kind];rfl
 have hiσ:i < σ.length:=by rw[I.len];exact (aO.mp hi).1
 have cne:=I.cne
 have tracked:∀{a:Addr} {h':Heap},(∃o,s.heap.get? a=some o/\H a=none)->Heap.SameBut a s.heap h'->rz X.prog X.w H h':=λ{a h'} ha hs b ob e=>by
  obtain ⟨_,_,hfree⟩:=ha;refine (I.hok b ob e).stay (λc w' hc q=>(hs.2 c ?_).trans q) (λ_ q=>q) λ_ _ q=>q
  rintro rfl;rcases hc with rfl | hc
  ·rw[hfree] at e;cases e
  ·rw[hfree] at hc;cases hc
 rcases hx with hk | hk
 ·refine wpAny_storeName_local hk hn (λh' hn' hs=>?_) hcls;obtain ⟨oL,_,_,hoL,_⟩:=id hn;refine h _ ⟨I.ok,I.os,I.bare,⟨λb o e n hb hx=>?_,λb o e n hb hx=>?_,I.base.free,λb o e hx=>?_,I.base.tups,I.base.frzs,I.base.tbls⟩,⟨_,hn',λj y v' e1 e2 e3=>?_⟩,λy c e=>?_,I.free,I.freeC,λp hp=>?_,tracked ⟨oL,hoL,I.free⟩ hs,by simpa using I.len⟩ ⟨_,hs,.inl rfl⟩
  ·exact (hs.2 b (bA (aP (Heap.lt_size e) I.ok.above))).trans (I.base.keep b o e n hb hx)
  ·obtain ⟨sl,e1⟩:=I.base.slot b o e n hb hx;exact ⟨sl,(hs.2 b (bA (aP (Heap.lt_size e) I.ok.above))).trans e1⟩
  ·obtain ⟨o',e1⟩:=I.base.there b o e hx;exact ⟨o',(hs.2 b (bA (aP (Heap.lt_size e) I.ok.above))).trans e1⟩
  ·by_cases hj:j=i
   ·subst hj;rw[hi] at e1;cases e1;rw[List.getElem?_set_self hiσ] at e2;cases e2;exact ⟨u,r,.inl ⟨hk,by simp⟩⟩
   ·rw[List.getElem?_set_ne (Ne.symm hj)] at e2;obtain ⟨u',r',q⟩:=hl j y v' e1 e2 e3;refine ⟨u',r',?_⟩;rcases q with ⟨k,e⟩ | ⟨k,c,e,z⟩
    ·refine .inl ⟨k,?_⟩;have:y≠x:=λe=>hj (v8 hN e1 (e ▸ hi))
     simp [this,e]
    ·exact .inr ⟨k,c,e,z.sameBut hs (cne y c e)⟩
  ·obtain ⟨w',z⟩:=I.cell y c e;exact ⟨w',z.sameBut hs (cne y c e)⟩
  ·obtain ⟨e,n,ne,nf,d⟩:=I.pin p hp;exact ⟨(hs.2 p.1 ne).trans e,n,ne,nf,d⟩
 ·have hfn:X.fn x=true:=by
   rcases hf with z | z
   ·exact z
   ·rw[z] at hk;cases hk
  obtain ⟨c,hc⟩:=I.ok.has x (.inl hk);obtain ⟨w',z⟩:=I.cell x c hc;refine wpAny_storeName_cell I.ok.kind hk hc z (λh' hc' hs=>?_);obtain ⟨oc,hoc,hocd⟩:=id z;refine h { s with heap:=h' } ⟨I.ok,I.os,I.bare,⟨λb o e n hb hx=>?_,λb o e n hb hx=>?_,I.base.free,λb o e hx=>?_,I.base.tups,I.base.frzs,I.base.tbls⟩,⟨m,hn.sameBut hs (Ne.symm (cne x c hc)),λj y v' e1 e2 e3=>?_⟩,λy c' e=>?_,I.free,I.freeC,λp hp=>?_,tracked ⟨oc,hoc,I.freeC x c hc⟩ hs,by simpa using I.len⟩ ⟨c,hs,.inr hc⟩
  ·exact (hs.2 b (bA (aP (Heap.lt_size e) (I.ok.cab x c hfn hc)))).trans (I.base.keep b o e n hb hx)
  ·obtain ⟨sl,e1⟩:=I.base.slot b o e n hb hx;exact ⟨sl,(hs.2 b (bA (aP (Heap.lt_size e) (I.ok.cab x c hfn hc)))).trans e1⟩
  ·obtain ⟨o',e1⟩:=I.base.there b o e hx;exact ⟨o',(hs.2 b (bA (aP (Heap.lt_size e) (I.ok.cab x c hfn hc)))).trans e1⟩
  ·by_cases hj:j=i
   ·subst hj;rw[hi] at e1;cases e1;rw[List.getElem?_set_self hiσ] at e2;cases e2;exact ⟨u,r,.inr ⟨.inl hk,c,hc,hc'⟩⟩
   ·rw[List.getElem?_set_ne (Ne.symm hj)] at e2;obtain ⟨u',r',q⟩:=hl j y v' e1 e2 e3;refine ⟨u',r',?_⟩;rcases q with q | ⟨k,c',e,z'⟩
    ·exact .inl q
    ·refine .inr ⟨k,c',e,z'.sameBut hs ?_⟩;rintro rfl;exact hj (v8 hN e1 (I.ok.inj _ _ _ e hc ▸ hi))
  ·by_cases hcc:c'=c
   ·subst hcc;exact ⟨_,hc'⟩
   ·obtain ⟨w2,z2⟩:=I.cell y c' e;exact ⟨w2,z2.sameBut hs hcc⟩
  ·obtain ⟨e,n,ne,nf,d⟩:=I.pin p hp;refine ⟨(hs.2 p.1 ?_).trans e,n,ne,nf,d⟩;intro q;rw[q,hoc] at e;have q':oc=p.2:=bf e;exact d w' (by rw[<- q'];exact hocd)
theorem o5 {M:Model} {A:Around} {E:Value->Shared->Prop} {i:Nat} {x:Str} {v:V} {u:Value} {Q:Unit->Shared->Prop} (I:Inv X pins σ H s) (hN:X.N.Nodup) (hi:X.N[i]?=some x) (hx:Loc X.env.scope x) (r:RelV v u)
  (h:∀s',Inv X pins (σ.set i (some v)) H s'->Q () s') (hf:X.fn x=true\/X.env.scope.names.lookup x=some .local:=by first | exact .inl rfl | exact .inr rfl | assumption):wpAny M A (storeName X.env x u) Q E s :=
 tG I hN hi hx r (λs' I' _=>h s' I') hf
theorem Inv.call' {s':Shared} {ch:List Addr} (I:Inv X pins σ H s) (ho:s'.os=s.os) (u:Un (zi X.stack) ch H H' s.heap s'.heap) (hok:rz X.prog X.w H' s'.heap) (hg:AllBare s'.gens)
  (hch:∀b∈ch,(b∈X.ex\/X.s₀.heap.objs.size<=b)/\b≠X.env.locals/\(∀x c,X.env.cells.lookup x=some c->c≠b)/\∀p∈X.pn++pins,p.1≠b):Inv X pins σ H' s':=by
 obtain ⟨h',g',d',t',o'⟩:=s';have e:o'=s.os:=ho;subst e;exact I.call (g':=g') (t':=t') (d':=d') u hok hg hch
end
abbrev XK:=Value->Option Addr->Hp->Prop
abbrev St:=List (Option V)
abbrev VK:=V->Hp->Prop
abbrev TE:=St->Hp->VK->Prop
abbrev TT:=St->Hp->(Bool->Hp->Prop)->Prop
abbrev TA:=St->Hp->(List V->Hp->Prop)->Prop
structure Ends where
 nx:St->Hp->Prop
 rt:VK
 bk:St->Hp->Prop:=λ_ _=>False
 ct:St->Hp->Prop:=λ_ _=>False
abbrev TS:=Ends->St->Hp->Prop
def EP (X:Cx) (pins:List (Addr×Obj)) (σ:St) (Q:VK) (u:Value) (s':Shared):Prop:=∃v H',Inv X pins σ H' s'/\RelV v u/\Q v H'
def TP (X:Cx) (pins:List (Addr×Obj)) (σ:St) (Q:Bool->Hp->Prop) (b:Bool) (s':Shared):Prop:=∃H',Inv X pins σ H' s'/\Q b H'
def AP (X:Cx) (pins:List (Addr×Obj)) (σ:St) (Q:List V->Hp->Prop) (us:List Value) (s':Shared):Prop:=∃vs H',Inv X pins σ H' s'/\b7 vs us/\Q vs H'
def SP (X:Cx) (pins:List (Addr×Obj)) (D:Ends) (f:Flow) (s':Shared):Prop :=
 match f with
 | .next=>∃σ' H',Inv X pins σ' H' s'/\D.nx σ' H'
 | .brk=>∃σ' H',Inv X pins σ' H' s'/\D.bk σ' H'
 | .cont=>∃σ' H',Inv X pins σ' H' s'/\D.ct σ' H'
 | .ret u=>∃v σ' H',Inv X pins σ' H' s'/\RelV v u/\D.rt v H'
def PE (X:Cx) (e:Expr) (t:TE):Prop :=
 ∀(pins:List (Addr×Obj)) (s:Shared) (σ:St) (H:Hp) (Q:VK),Inv X pins σ H s->t σ H Q->wpAny (model X.prog X.w) X.A (eval e X.env) (EP X pins σ Q) X.xe s
def PT (X:Cx) (e:Expr) (t:TT):Prop :=
 ∀(pins:List (Addr×Obj)) (s:Shared) (σ:St) (H:Hp) (Q:Bool->Hp->Prop),Inv X pins σ H s->t σ H Q->wpAny (model X.prog X.w) X.A (isTrue e X.env (eval e X.env)) (TP X pins σ Q) X.xe s
def PW (X:Cx) (e:Expr) (t:TT):Prop :=
 ∀(whole:Sem Value) (pins:List (Addr×Obj)) (s:Shared) (σ:St) (H:Hp) (Q:Bool->Hp->Prop),Inv X pins σ H s->t σ H Q->wpAny (model X.prog X.w) X.A (isTrue e X.env whole) (TP X pins σ Q) X.xe s
theorem PW.pt {X:Cx} {e:Expr} {t:TT} (h:PW X e t):PT X e t:=h _
def PA (X:Cx) (es:List Expr) (t:TA):Prop :=
 ∀(pos:Pos) (pins:List (Addr×Obj)) (s:Shared) (σ:St) (H:Hp) (Q:List V->Hp->Prop),Inv X pins σ H s->t σ H Q->wpAny (model X.prog X.w) X.A (spliced (backTo pos (starEach es X.env))) (AP X pins σ Q) X.xe s
def PS (X:Cx) (st:Stmt) (t:TS):Prop :=
 ∀(pins:List (Addr×Obj)) (s:Shared) (σ:St) (H:Hp) (D:Ends),Inv X pins σ H s->t D σ H->wpAny (model X.prog X.w) X.A (exec st X.env) (SP X pins D) X.xe s
def xB (X:Cx) (st:List Stmt) (t:TS):Prop :=
 ∀(pins:List (Addr×Obj)) (s:Shared) (σ:St) (H:Hp) (D:Ends),Inv X pins σ H s->t D σ H->wpAny (model X.prog X.w) X.A (execs st X.env) (SP X pins D) X.xe s
theorem d7 {α:Type} {t:Sem α} {Q Q':α->Shared->Prop} {M:Model} {A:Around} {E:Value->Shared->Prop} {s:Shared} (h:wpAny M A t Q E s) (hQ:∀a s,Q a s->Q' a s):wpAny M A t Q' E s:=wpAny_mono h hQ λ_ _ x=>x
section
variable {X:Cx}
def Dq (i:Nat):TE:=λσ H Q=>∃v,σ[i]?=some (some v)/\Q v H
def tC (v:V):TE:=λ_ H Q=>Q v H
theorem DU {i:Nat} {x:Str} {pos:Pos} (hN:X.N[i]?=some x) (hv:GA X.env.scope x) (hd:(x == ("__debug__":Str))=false:=by decide) (hcd:(x == ("__classdict__":Str))=false:=by decide):PE X (.Name x pos) (Dq i):=by
 intro pins s σ H Q I h;obtain ⟨v,e,h⟩:=h;obtain ⟨m,hn,hl⟩:=I.loc;obtain ⟨u,r,l⟩:=hl i x v hN e hv;have fin:EP X pins σ Q u s:=⟨v,H,I,r,h⟩;rcases l with ⟨hk,hm⟩ | ⟨hk,c,hc,hcell⟩
 ·exact wpAny_Name (wpAny_loadName_local I.ok.kind hk hn hm fin) hd
 ·rcases hk with hk | hk
  ·exact wpAny_Name (wpAny_loadName_cell I.ok.kind hk hc hcell fin) hd
  ·exact wpAny_Name (wpAny_loadName_free I.ok.kind hk hc hcell fin hcd) hd
theorem ah {i j pos}:PE X (.Constant (.int i) j pos) (tC (.int i)):=λ_ _ _ H _ I h=>wpAny_Constant_int ⟨.int i,H,I.tok _,⟨_,rfl⟩,h⟩
theorem qC {b j pos}:PE X (.Constant (.bool b) j pos) (tC (.bl b)):=λ_ _ _ H _ I h=>Constant_bool ⟨.bl b,H,I,rfl,h⟩
def Gl (X:Cx) (x:Str):Prop:=X.env.kindOf x=some .globalImplicit
theorem uZ {E:Value->Shared->Prop} {pins:List (Addr×Obj)} {s:Shared} {σ:St} {H:Hp} {x:Str} {u:Value} {pos:Pos} {Q:Value->Shared->Prop} (I:Inv X pins σ H s) (hg:Gl X x) (hm:X.mg x=some u) (h:Q u s)
  (hd:(x == ("__debug__":Str))=false:=by decide):wpAny (model X.prog X.w) X.A (eval (.Name x pos) X.env) Q E s :=
 Calls.Name_function_global I.ok.kind hg (Calls.loadGlobal_global (by rw[I.ok.glob];exact I.mod.glob.keeps I.bk) hm h) hd
theorem j8 {E:Value->Shared->Prop} {pins:List (Addr×Obj)} {s:Shared} {σ:St} {H:Hp} {x:Str} {u:Value} {pos:Pos} {Q:Value->Shared->Prop} (I:Inv X pins σ H s) (hg:Gl X x) (hm:X.mg x=none) (hv:bootBuiltins x=some u) (h:Q u s)
  (hn:x≠"__name__":=by decide) (hd:(x == ("__debug__":Str))=false:=by decide):wpAny (model X.prog X.w) X.A (eval (.Name x pos) X.env) Q E s:=by
 obtain ⟨mb,h1,h2⟩:=I.mod.blt;exact Calls.Name_function_global I.ok.kind hg (Calls.loadGlobal_builtin (by rw[I.ok.glob];exact I.mod.glob.keeps I.bk) hm (by rw[I.ok.blt];exact h1.keeps I.bk) ((h2 x hn).trans hv) h) hd
theorem uN {x:Str} {v:V} {u:Value} {pos:Pos} (hg:Gl X x) (hm:X.mg x=some u) (r:RelV v u) (hd:(x == ("__debug__":Str))=false:=by decide):PE X (.Name x pos) (tC v) :=
 λ_ _ _ H _ I h=>uZ I hg hm ⟨v,H,I,r,h⟩ hd
theorem xY {x:Str} {v:V} {u:Value} {pos:Pos} (hg:Gl X x) (hm:X.mg x=none) (hv:bootBuiltins x=some u) (r:RelV v u) (hn:x≠"__name__":=by decide) (hd:(x == ("__debug__":Str))=false:=by decide):PE X (.Name x pos) (tC v) :=
 λ_ _ _ H _ I h=>j8 I hg hm hv ⟨v,H,I,r,h⟩ hn hd
variable {a b:Expr} {ta tb:TE} {pos:Pos}
def tB (t:TE):TT:=λσ H Q=>t σ H λx H1=>∃c,x=.bl c/\Q c H1
theorem jr {e : Expr} {t : TE} (h : PE X e t) (he : ∀ whole, isTrue e X.env whole = (do let v <- whole; standAt e.pos; holding [v] (truthy v)) := by intro _; rfl) : PT X e (tB t) := by
  intro pins s σ H Q I hw;refine isTrue_plain (d7 (h pins s σ H _ I hw) λv s1 ⟨x, H1, I1, r1, q1⟩ => ?_) (he _);obtain ⟨d, rfl, q⟩ := q1;cases r1;exact wpAny_truthy_bool ⟨H1, I1, q⟩

variable {tA tB':TT} {rest:List Expr}
def EM (t u:TT):TT:=λσ H Q=>t σ H λc H1=>if c=true then u σ H1 Q else Q false H1
def tOr (t u:TT):TT:=λσ H Q=>t σ H λc H1=>if c=true then Q true H1 else u σ H1 Q
def EH (t:TT):TT:=λσ H Q=>t σ H λc H1=>Q (!c) H1
theorem kl (ha:PT X a tA):PW X (.BoolOp .And [a] pos) tA:=by
 intro wh pins s σ H Q I h;refine isTrue_and (d7 (ha pins s σ H Q I h) λc s1 e=>?_);cases c with
 | true=>exact isTrue_and_nil e
 | false=>exact e
theorem jo (ha:PT X a tA):PW X (.BoolOp .Or [a] pos) tA:=by
 intro wh pins s σ H Q I h;refine isTrue_or (d7 (ha pins s σ H Q I h) λc s1 e=>?_);cases c with
 | false=>exact isTrue_or_nil e
 | true=>exact e
theorem jq (ha:PT X a tA) (hb:PW X (.BoolOp .And (b :: rest) pos) tB'):PW X (.BoolOp .And (a :: b :: rest) pos) (EM tA tB'):=by
 intro wh pins s σ H Q I h;refine isTrue_and (d7 (ha pins s σ H _ I h) λc s1 ⟨H1,I1,q1⟩=>?_);cases c with
 | true=>exact hb wh pins s1 σ H1 Q I1 q1
 | false=>exact ⟨H1,I1,q1⟩
theorem lG (ha:PT X a tA) (hb:PW X (.BoolOp .Or (b :: rest) pos) tB'):PW X (.BoolOp .Or (a :: b :: rest) pos) (tOr tA tB'):=by
 intro wh pins s σ H Q I h;refine isTrue_or (d7 (ha pins s σ H _ I h) λc s1 ⟨H1,I1,q1⟩=>?_);cases c with
 | true=>exact ⟨H1,I1,q1⟩
 | false=>exact hb wh pins s1 σ H1 Q I1 q1
theorem jY (ha:PT X a tA):PT X (.UnaryOp .Not a pos) (EH tA):=by
 intro pins s σ H Q I h;exact isTrue_not (ha pins s σ H (λc H1=>Q (!c) H1) I h)
def Co (ta tb:TE):TE:=λσ H Q=>ta σ H λx H1=>∃c,x=.bl c/\if c=true then tb σ H1 Q else Q (.bl false) H1
def Cg (ta:TE):TE:=λσ H Q=>ta σ H λx H1=>∃c,x=.bl c/\Q (.bl (!c)) H1
theorem uL {op} {t:TE} (h:PE X a t):PE X (.BoolOp op [a] pos) t:=λpins s σ H Q I hw=>BoolOp_one (h pins s σ H Q I hw)
theorem uO (ha:PE X a ta) (hb:PE X (.BoolOp .And (b :: rest) pos) tb):PE X (.BoolOp .And (a :: b :: rest) pos) (Co ta tb):=by
 intro pins s σ H Q I h;refine BoolOp_and (d7 (ha pins s σ H _ I h) λv s1 ⟨x,H1,I1,r1,q1⟩=>?_);obtain ⟨c,rfl,q1⟩:=q1;cases r1;refine wpAny_truthy_bool ?_;cases c with
 | true=>exact hb pins s1 σ H1 Q I1 q1
 | false=>exact ⟨.bl false,H1,I1,rfl,q1⟩
theorem DV (ha:PE X a ta):PE X (.UnaryOp .Not a pos) (Cg ta):=by
 intro pins s σ H Q I h;refine UnaryOp_ (d7 (ha pins s σ H _ I h) λv s1 ⟨x,H1,I1,r1,q1⟩=>?_);obtain ⟨c,rfl,q1⟩:=q1;cases r1;exact not_of (wpAny_truthy_bool ⟨.bl (!c),H1,I1,rfl,q1⟩)
def tIf (t:TT) (ta tb:TE):TE:=λσ H Q=>t σ H λc H1=>if c=true then ta σ H1 Q else tb σ H1 Q
theorem z4 {c:Expr} (hc:PT X c tA) (ha:PE X a ta) (hb:PE X b tb):PE X (.IfExp c a b pos) (tIf tA ta tb):=by
 intro pins s σ H Q I h;refine wpAny_IfExp (d7 (hc pins s σ H _ I h) λd s1 ⟨H1,I1,q1⟩=>?_);cases d with
 | true=>exact ha pins s1 σ H1 Q I1 q1
 | false=>exact hb pins s1 σ H1 Q I1 q1
end
def b6 (K:FG9) (H:Hp) (a:Addr) (xs:List V):Prop :=
 Rd H a (.lst xs) \/
  ∃(o:Obj) (its:Array Value) (n:Nat),K.lookup a=some o/\o.cls=.type "list"/\o.dict=none/\o.data=.seq its n/\its.size<=sizeLine/\b7 xs its.toList
def oj (K:FG9) (H:Hp) (a:Addr) (xs:List V):Prop :=
 Rd H a (.tup xs) \/
  ∃(o:Obj) (its:Array Value) (n:Nat),K.lookup a=some o/\o.cls=.type "tuple"/\o.data=.seq its n/\its.size<=sizeLine/\b7 xs its.toList
def Gz:Value->Option V
 | .none=>some .non
 | .bool b=>some (.bl b)
 | .int i _=>some (.int i)
 | .str x _=>some (.str x)
 | .bytes b _=>some (.byt b)
 | .float b _=>some (.flt b)
 | .ref a=>some (.ref a)
 | .type n=>some (.ty n)
 | _=>none
theorem RelV.abs {x:V} {u:Value} (r:RelV x u):Gz u=some x:=by
 cases x with
 | non=>cases r;rfl
 | bl _=>cases r;rfl
 | int _=>obtain ⟨t,rfl⟩:=r;rfl
 | str _=>obtain ⟨t,rfl⟩:=r;rfl
 | byt _=>obtain ⟨t,rfl⟩:=r;rfl
 | flt _=>obtain ⟨t,rfl⟩:=r;rfl
 | ref _=>cases r;rfl
 | ty _=>cases r;rfl
theorem RelV.inj {x y:V} {u:Value} (r:RelV x u) (q:RelV y u):x=y:=bf (r.abs.symm.trans q.abs)
theorem b7.inj:∀{xs ys:List V} {us:List Value},b7 xs us->b7 ys us->xs=ys
 | _,_,_,.nil,.nil=>rfl
 | _,_,_,.cons r t,.cons r' t'=>by rw[r.inj r',b7.inj t t']
section
variable {X:Cx} {pins:List (Addr×Obj)} {σ:St} {H:Hp} {s:Shared} {a:Addr} {xs ys:List V}
theorem b6.of {K:FG9} (h:H a=some (.lst xs)):b6 K H a xs:=.inl (.inl h)
theorem oj.of {K:FG9} (h:H a=some (.tup xs)):oj K H a xs:=.inl (.inl h)
theorem Inv.list (I:Inv X pins σ H s) (h:b6 X.K H a xs):∃its:List Value,b7 xs its/\PlainL s.heap a its.toArray/\xs.length<=sizeLine:=by
 rcases h with h | ⟨o,its,n,hk,hc,hd,hs,hz,r⟩
 ·obtain ⟨z,its,n,r,e⟩:=h.ok I.hok;exact ⟨its,r,⟨_,n,e,rfl,rfl,rfl⟩,z⟩
 ·refine ⟨its.toList,r,⟨o,n,I.kIn a o hk,hc,hd,by simpa using hs⟩,?_⟩;have e:=r.length;simp only[Array.length_toList] at e
  lia
theorem Inv.tuple (I:Inv X pins σ H s) (h:oj X.K H a xs):∃its:List Value,b7 xs its/\IsTup s.heap a its.toArray/\xs.length<=sizeLine:=by
 rcases h with h | ⟨o,its,n,hk,hc,hs,hz,r⟩
 ·obtain ⟨z,its,r,p⟩:=h.ok I.hok;exact ⟨its,r,p,z⟩
 ·refine ⟨its.toList,r,⟨o,I.kIn a o hk,hc,n,by simpa using hs⟩,?_⟩;have e:=r.length;simp only[Array.length_toList] at e
  lia
theorem Inv.list_inj (I:Inv X pins σ H s) (h:b6 X.K H a xs) (h':b6 X.K H a ys):xs=ys:=by
 obtain ⟨its,r,⟨o,n,e,_,_,d⟩,_⟩:=I.list h;obtain ⟨its',r',⟨o',n',e',_,_,d'⟩,_⟩:=I.list h';rw[e] at e';cases e';rw[d] at d';injection d' with d1 _
 have:its=its':=by simpa using congrArg Array.toList d1
 subst this;exact r.inj r'
theorem Inv.tuple_inj (I:Inv X pins σ H s) (h:oj X.K H a xs) (h':oj X.K H a ys):xs=ys:=by
 obtain ⟨its,r,⟨o,e,_,n,d⟩,_⟩:=I.tuple h;obtain ⟨its',r',⟨o',e',_,n',d'⟩,_⟩:=I.tuple h';rw[e] at e';cases e';rw[d] at d';injection d' with d1 _
 have:its=its':=by simpa using congrArg Array.toList d1
 subst this;exact r.inj r'
end
abbrev Cx.wish (X:Cx) (E:Value->Shared->Prop):Cx:={ X with xe:=E }
abbrev Cx.nox (X:Cx):Cx:=X.wish λ_ _=>False
theorem Cx.Ok.wish {X:Cx} (ok:X.Ok) (E:Value->Shared->Prop):(X.wish E).Ok :=
 ⟨ok.mod,ok.kind,ok.glob,ok.blt,ok.above,ok.inj,ok.has,ok.cab,ok.hd,ok.frames,ok.stk,ok.exf,ok.bs,ok.bsz,ok.noex,ok.exfs,ok.funs,ok.frf⟩
theorem Cx.Ok.unwish {X:Cx} {E:Value->Shared->Prop} (ok:(X.wish E).Ok):X.Ok :=
 ⟨ok.mod,ok.kind,ok.glob,ok.blt,ok.above,ok.inj,ok.has,ok.cab,ok.hd,ok.frames,ok.stk,ok.exf,ok.bs,ok.bsz,ok.noex,ok.exfs,ok.funs,ok.frf⟩
section
variable {X:Cx} {pins:List (Addr×Obj)} {σ:St} {H:Hp} {s:Shared} {E:Value->Shared->Prop}
theorem Inv.wish (I:Inv X pins σ H s) (E:Value->Shared->Prop):Inv (X.wish E) pins σ H s:=⟨I.ok.wish E,I.os,I.bare,I.base,I.loc,I.cell,I.free,I.freeC,I.pin,I.hok,I.len⟩
theorem Inv.unwish (I:Inv (X.wish E) pins σ H s):Inv X pins σ H s:=⟨I.ok.unwish,I.os,I.bare,I.base,I.loc,I.cell,I.free,I.freeC,I.pin,I.hok,I.len⟩
theorem SP.unwish {D:Ends} {f:Flow} {s':Shared} (h:SP (X.wish E) pins D f s'):SP X pins D f s':=by
 cases f with
 | next=>obtain ⟨σ',H',I,q⟩:=h;exact ⟨σ',H',I.unwish,q⟩
 | brk=>obtain ⟨σ',H',I,q⟩:=h;exact ⟨σ',H',I.unwish,q⟩
 | cont=>obtain ⟨σ',H',I,q⟩:=h;exact ⟨σ',H',I.unwish,q⟩
 | ret u=>obtain ⟨v,σ',H',I,r,q⟩:=h;exact ⟨v,σ',H',I.unwish,r,q⟩
theorem xB.nox {st:List Stmt} {t:TS} (h:xB X.nox st t):xB X st t:=λpins s σ H D I hw =>
 wpAny_mono (h pins s σ H D (I.wish _) hw) (λ_ _ q=>q.unwish) λ_ _ z=>False.elim z
end
section
variable {X:Cx} {st:Stmt} {rest:List Stmt} {t u:TS} {e:Expr} {te:TE} {pos:Pos}
def Ci:TS:=λD σ H=>D.nx σ H
def ED (t u:TS):TS:=λD σ H=>t { D with nx:=u D } σ H
theorem bY:xB X [] Ci:=λ_ _ σ H _ I h=>wpAny_execs_nil ⟨σ,H,I,h⟩
theorem au (h1:PS X st t) (h2:xB X rest u):xB X (st :: rest) (ED t u):=by
 intro pins s σ H D I h;refine wpAny_execs_cons (d7 (h1 pins s σ H { D with nx:=u D } I h) λf s1 q=>?_);cases f with
 | next =>
  obtain ⟨σ',H',I',q⟩:=q;exact h2 pins s1 σ' H' D I' q
 | ret v=>exact q
 | brk=>exact q
 | cont=>exact q
theorem az (h1:PS X st t):xB X [st] t:=by
 intro pins s σ H D I h;refine wpAny_execs_cons (d7 (h1 pins s σ H D I h) λf s1 q=>?_);cases f with
 | next=>exact wpAny_execs_nil q
 | ret v=>exact q
 | brk=>exact q
 | cont=>exact q
theorem Inv.quiet {pins:List (Addr×Obj)} {σ:St} {H:Hp} {s:Shared} (I:Inv X pins σ H s):interactive X.env=false:=by simp [interactive,I.ok.kind]
def Cm (te:TE):TS:=λD σ H=>te σ H λ_ H1=>D.nx σ H1
theorem km (he:PE X e te) (hs:swapsWith e none pos.line X.env=pure false:=by rfl):PS X (.Expr e pos) (Cm te):=by
 intro pins s σ H D I h;exact wpAny_Expr_any (d7 (he pins s σ H _ I h) λv s1 ⟨x,H1,I1,r1,q1⟩=>⟨σ,H1,I1,q1⟩) I.quiet hs
def EE (te:TE):TS:=λD σ H=>te σ H D.rt
theorem bE (he:PE X e te):PS X (.Return (some e) pos) (EE te):=by
 intro pins s σ H D I h;exact wpAny_Return_some (d7 (he pins s σ H _ I h) λv s1 ⟨x,H1,I1,r1,q1⟩=>⟨x,σ,H1,I1,r1,q1⟩)
def EJ (c:TT) (t u:TS):TS:=λD σ H=>c σ H λb H1=>if b=true then t D σ H1 else u D σ H1
theorem dq {c:Expr} {a b:List Stmt} {tc:TT} (hc:PT X c tc) (ha:xB X a t) (hb:xB X b u):PS X (.If c a b pos) (EJ tc t u):=by
 intro pins s σ H D I h;refine wpAny_If (d7 (hc pins s σ H _ I h) λd s1 ⟨H1,I1,q1⟩=>?_);cases d with
 | true=>exact ha pins s1 σ H1 D I1 q1
 | false=>exact hb pins s1 σ H1 D I1 q1
end
abbrev TG:=V->St->Hp->(St->Hp->Prop)->Prop
abbrev AE:=List V->St->Hp->(St->Hp->Prop)->Prop
def PG (X:Cx) (target:Expr) (t:TG):Prop :=
 ∀(pins:List (Addr×Obj)) (s:Shared) (σ:St) (H:Hp) (v:V) (u:Value) (Q:St->Hp->Prop),Inv X pins σ H s->RelV v u->t v σ H Q →
  wpAny (model X.prog X.w) X.A (assign target X.env u) (λ_ s'=>∃σ' H',Inv X pins σ' H' s'/\Q σ' H') X.xe s
def FI (X:Cx) (ts:List Expr) (t:AE):Prop :=
 ∀(pins:List (Addr×Obj)) (s:Shared) (σ:St) (H:Hp) (vs:List V) (us:List Value) (Q:St->Hp->Prop),Inv X pins σ H s->b7 vs us->t vs σ H Q →
  wpAny (model X.prog X.w) X.A (assignInOrder ((assignEach ts X.env).map (·.2)) us) (λ_ s'=>∃σ' H',Inv X pins σ' H' s'/\Q σ' H') X.xe s
abbrev xy:=V->V->V->Hp->(Hp->Prop)->Prop
def Ej (X:Cx) (t:xy):Prop :=
 ∀(pins:List (Addr×Obj)) (s:Shared) (σ:St) (H:Hp) (o i v:V) (ov iv u:Value) (Q:Hp->Prop),Inv X pins σ H s->RelV o ov->RelV i iv->RelV v u->t o i v H Q →
  wpAny (model X.prog X.w) X.A (setItem ov iv u) (λ_ s'=>∃H',Inv X pins σ H' s'/\Q H') X.xe s
abbrev FH:=V->V->Hp->VK->Prop
def PIp (X:Cx) (op:Operator) (t:FH):Prop :=
 ∀(pins:List (Addr×Obj)) (s:Shared) (σ:St) (H:Hp) (x y:V) (v u:Value) (Q:VK),Inv X pins σ H s->RelV x v->RelV y u->t x y H Q →
  wpAny (model X.prog X.w) X.A (inplaceOp op v u) (EP X pins σ Q) X.xe s
section
variable {X:Cx} {pos:Pos}
def yg (i:Nat):TG:=λv σ H Q=>Q (σ.set i (some v)) H
theorem aM {i:Nat} {x:Str} (hN:X.N.Nodup) (hi:X.N[i]?=some x:=by exact rfl) (hx:Loc X.env.scope x:=by exact Or.inl rfl) (hf:X.fn x=true\/X.env.scope.names.lookup x=some .local:=by first | exact .inl rfl | exact .inr rfl | assumption):PG X (.Name x pos) (yg i):=by
 intro pins s σ H v u Q I r h;exact wpAny_assign_Name (o5 I hN hi hx r (λs' I'=>⟨_,H,I',h⟩) hf)
def Fj:AE:=λvs σ H Q=>vs=[]/\Q σ H
def Cy (t:TG) (u:AE):AE:=λvs σ H Q=>∃v r,vs=v :: r/\t v σ H λσ' H'=>u r σ' H' Q
theorem lR:FI X [] Fj:=by
 intro pins s σ H vs us Q I r h;obtain ⟨e,h⟩:=h;subst e;cases r;exact assignInOrder_nil ⟨σ,H,I,h⟩
theorem di {e:Expr} {es:List Expr} {t:TG} {u:AE} (h1:PG X e t) (h2:FI X es u)
  (hs:(assignEach (e :: es) X.env).map (·.2)=assign e X.env :: (assignEach es X.env).map (·.2):=by rfl):FI X (e :: es) (Cy t u):=by
 intro pins s σ H vs us Q I r h;obtain ⟨v,vr,e1,h⟩:=h;subst e1;cases r with
 | cons r rr =>
  rw[hs];refine assignInOrder_cons (d7 (h1 pins s σ H _ _ _ I r h) λ_ s1 ⟨σ1,H1,I1,q1⟩=>?_);exact h2 pins s1 σ1 H1 _ _ Q I1 rr q1
def Eb (K:FG9) (n:Nat) (t:AE):TG:=λv σ H Q=>∃a xs,v=.ref a/\oj K H a xs/\xs.length=n/\t xs σ H Q
theorem uK {es:List Expr} {k:Nat} {t:AE} {n:Nat} (hc:X.calm=true) (h:FI X es t)
  (hn:(assignEach es X.env).length=n:=by rfl) (hst:(assignEach es X.env).findIdx? (·.1)=none:=by rfl):PG X (.Tuple es k pos) (Eb X.K n t):=by
 intro pins s σ H v u Q I r hw;obtain ⟨a,xs,e1,hq,hl,hw⟩:=hw;subst e1;cases r;obtain ⟨its,rv,ht,hz⟩:=I.tuple hq;refine assign_Tuple_tuple (I.ok.hd hc) ht (by simp [hn,<- hl,rv.length]) hst λh' hx=>?_
 have I1:Inv X pins σ H { s with heap:=h' }:=I.kept (t':=s.toks) λb o e=>hx b o (bA (Heap.lt_size e)) e
 exact h pins _ σ H xs _ Q I1 (by simpa using rv) hw
def Fi (to ti:TE) (t:xy):TG:=λv σ H Q=>to σ H λo H1=>ti σ H1 λi H2=>t o i v H2 λH3=>Q σ H3
theorem gX {o i : Expr} {to ti : TE} {t : xy} (ho : PE X o to) (hi : PE X i ti) (hs : Ej X t)
    (ha : ∀ v, assign (.Subscript o i pos) X.env v = (do
      let ov <- holding [v] (eval o X.env)
      let iv <- holding [v, ov] (eval i X.env)
      standAt pos
      holding [v, ov, iv] (setItem ov iv v)
      release [v, ov, iv] []) := by intro _; rfl) : PG X (.Subscript o i pos) (Fi to ti t) := by
  intro pins s σ H v u Q I r h;rw [ha];refine wpAny_bind (wpAny_holding (d7 (ho pins s σ H _ I h) λov s1 ⟨x, H1, I1, r1, q1⟩ => ?_));refine wpAny_bind (wpAny_holding (d7 (hi pins s1 σ H1 _ I1 q1) λiv s2 ⟨y, H2, I2, r2, q2⟩ => ?_));refine wpAny_bind (wpAny_standAt (wpAny_bind (wpAny_holding (d7 (hs pins s2 σ H2 x y v ov iv u _ I2 r1 r2 r q2) λ_ s3 ⟨H3, I3, q3⟩ => ?_))));exact wpAny_release ⟨σ, H3, I3, q3⟩
def AQ (te:TE) (g:TG):TS:=λD σ H=>te σ H λx H1=>g x σ H1 D.nx
theorem fP {tg e:Expr} {te:TE} {g:TG} (he:PE X e te) (hg:PG X tg g) (hs:swapsWithSole [tg] e pos.line X.env=pure false:=by rfl) (hw:swappedStores [tg] e X.env=pure none:=by rfl)
  (h1:(assignEach [tg] X.env).map (·.2)=[assign tg X.env]:=by rfl):PS X (.Assign [tg] e pos) (AQ te g):=by
 intro pins s σ H D I h;refine wpAny_Assign_stores (d7 (he pins s σ H _ I h) λv s1 ⟨x,H1,I1,r1,q1⟩=>?_) hs hw;rw[h1];exact d7 (hg pins s1 σ H1 x v _ I1 r1 q1) λ_ s2 q=>q
theorem aW {i:Nat} {x:Str} {e:Expr} {te:TE} {pos':Pos} (hN:X.N.Nodup) (hi:X.N[i]?=some x) (hx:Loc X.env.scope x) (he:PE X e te) (hs:swapsWith e (some (.Name x pos')) pos.line X.env=pure false:=by rfl) (hf:X.fn x=true\/X.env.scope.names.lookup x=some .local:=by first | exact .inl rfl | exact .inr rfl | assumption) :
  PS X (.Assign [.Name x pos'] e pos) (AQ te (yg i)):=by
 intro pins s σ H D I h;refine wpAny_Assign_Name (d7 (he pins s σ H _ I h) λv s1 ⟨y,H1,I1,r1,q1⟩=>?_) hs;exact o5 I1 hN hi hx r1 (λs2 I2=>⟨_,H1,I2,q1⟩) hf
def EF (i j:Nat) (ta:TA):TS:=λD σ H=>ta σ H λvs H1=>∃v w,vs=[v,w]/\D.nx ((σ.set i (some v)).set j (some w)) H1
theorem zW {i j : Nat} {x y : Str} {a b : Expr} {ta : TA} {px py pt : Pos} {kt k2 pt2} (hc : X.calm = true) (hN : X.N.Nodup) (hi : X.N[i]? = some x) (hj : X.N[j]? = some y) (hij : i ≠ j)
    (hx : X.env.scope.names.lookup x = some .local) (hy : X.env.scope.names.lookup y = some .local) (ha : PA X [a, b] ta)
    (hw : swappedStores [.Tuple [.Name x px, .Name y py] kt pt] (.Tuple [a, b] k2 pt2) X.env = pure (some [x, y]))
    (hs : swapsWithSole [.Tuple [.Name x px, .Name y py] kt pt] (.Tuple [a, b] k2 pt2) pos.line X.env = pure false := by rfl) :
    PS X (.Assign [.Tuple [.Name x px, .Name y py] kt pt] (.Tuple [a, b] k2 pt2) pos) (EF i j ta) := by
  intro pins s σ H D I h;rw [exec_Assign_arm];refine wpAny_bind (wpAny_standAt ?_);rw [hs];refine wpAny_bind (wpAny_pure ?_);rw [if_neg (by decide)];refine wpAny_bind (Tuple_ (d7 (ha _ pins s σ H _ I h) λus s1 ⟨vs, H1, I1, r1, q1⟩ => ?_));obtain ⟨v, w, e1, q1⟩ := q1;subst e1
  obtain ⟨u1, u2, rfl, rv, rw'⟩ : ∃ u1 u2, us = [u1, u2] /\ RelV v u1 /\ RelV w u2 := by
    cases r1 with
    | cons p q =>
      cases q with
      | cons p' q' =>
        cases q';exact ⟨_, _, rfl, p, p'⟩
  refine wpAny_newObj_type ?_ (by show 2 ≤ sizeLine; decide);have I2 : Inv X pins σ H1 { s1 with heap := s1.heap.push { cls := .type "tuple", data := .seq [u1, u2].toArray } } := I1.kept (t' := s1.toks) λb o e => Heap.get?_push_of_some _ e
  rw [hw];refine wpAny_bind (wpAny_pure ?_);show wpAny (model X.prog X.w) X.A (do rule "assign.swapped-stores"; let items <- unpackItems (.ref s1.heap.objs.size) 2 none; assignInOrder [λv => bindName X.env y v, λv => bindName X.env x v] items.reverse; pure Flow.next) _ _ _
  refine wpAny_bind (wpAny_rule (wpAny_bind (unpackItems_tuple (items := #[u1, u2]) (I.ok.hd hc) (IsTup.new s1.heap _) λh' hx' => ?_)));have I3 := I2.kept (h' := h') (t' := s1.toks) λb o e => hx' b o (bA (Heap.lt_size e)) e
  show wpAny _ _ (assignInOrder [λv => bindName X.env y v, λv => bindName X.env x v] [u2, u1] >>= λ_ => pure Flow.next) _ _ _
  refine wpAny_bind (assignInOrder_cons (wpAny_bindName (o5 I3 hN hj (.inl hy) rw' (λs2 I4 => ?_) (.inr hy))));refine assignInOrder_cons (wpAny_bindName (o5 I4 hN hi (.inl hx) rv (λs3 I5 => assignInOrder_nil (wpAny_pure ?_)) (.inr hx)));rw [List.set_comm _ _ (Ne.symm hij)] at I5;exact ⟨_, H1, I5, q1⟩
def Cn (to ti te:TE) (tget:V->V->Hp->VK->Prop) (tip:FH) (tset:xy):TS:=λD σ H=>to σ H λo H1=>ti σ H1 λi H2=>tget o i H2 λx H3=>te σ H3 λy H4=>tip x y H4 λz H5=>tset o i z H5 λH6=>D.nx σ H6
def FJ (X:Cx) (t:V->V->Hp->VK->Prop):Prop :=
 ∀(pins:List (Addr×Obj)) (s:Shared) (σ:St) (H:Hp) (o i:V) (ov iv:Value) (Q:VK),Inv X pins σ H s->RelV o ov->RelV i iv->t o i H Q →
  wpAny (model X.prog X.w) X.A (getItem ov iv) (EP X pins σ Q) X.xe s
theorem Bv {o i e : Expr} {to ti te : TE} {tget : V → V → Hp → VK → Prop} {tip : FH} {tset : xy} {op : Operator} {tpos : Pos} (ho : PE X o to) (hi : PE X i ti) (hg : FJ X tget) (he : PE X e te) (hp : PIp X op tip) (hs : Ej X tset)
    (ha : ∀ ov iv new, augStore i ov iv new = (do holding [new, ov, iv] (setItem ov iv new); release [new, ov, iv] []; pure .next) := by intros; rfl) : PS X (.AugAssign (.Subscript o i tpos) op e pos) (Cn to ti te tget tip tset) := by
  intro pins s σ H D I h;refine wpAny_AugAssign_SubscriptAny (d7 (ho pins s σ H _ I h) λov s1 ⟨x1, H1, I1, r1, q1⟩ => ?_) ha;refine d7 (hi pins s1 σ H1 _ I1 q1) λiv s2 ⟨x2, H2, I2, r2, q2⟩ => ?_
  refine d7 (hg pins s2 σ H2 x1 x2 ov iv _ I2 r1 r2 q2) λold s3 ⟨x3, H3, I3, r3, q3⟩ => ?_
  refine d7 (he pins s3 σ H3 _ I3 q3) λv s4 ⟨x4, H4, I4, r4, q4⟩ => ?_
  refine d7 (hp pins s4 σ H4 x3 x4 old v _ I4 r3 r4 q4) λnew s5 ⟨x5, H5, I5, r5, q5⟩ => ?_
  exact d7 (hs pins s5 σ H5 x1 x2 x5 ov iv new _ I5 r1 r2 r5 q5) λ_ s6 ⟨H6, I6, q6⟩ => ⟨σ, H6, I6, q6⟩
def ipI (f:Int->Int->Int):FH:=λx y H Q=>∃i j,x=.int i/\y=.int j/\Q (.int (f i j)) H
theorem Ea:PIp X .Add (ipI λi j=>i+j):=by
 intro pins s σ H x y v u Q I r1 r2 h;obtain ⟨i,j,e1,e2,q⟩:=h;subst e1;subst e2;obtain ⟨t,rfl⟩:=r1;obtain ⟨t',rfl⟩:=r2;exact iadd_int ⟨.int _,H,I.tok _,⟨_,rfl⟩,q⟩
end
section
variable {X:Cx} {pos:Pos}
def zy (c:TT) (tb:TS):TS:=λD σ H=>∃W:Nat->St->Hp->Prop,(∃m,W m σ H)/\∀m σ H,W m σ H →
 c σ H λb H1=>if b=true then ∃N:St->Hp->Prop,(∀σ' H',N σ' H'->∃m',m' < m/\W m' σ' H')/\tb { D with nx:=N,ct:=N,bk:=D.nx } σ H1 else D.nx σ H1
theorem vU {c:Expr} {body:List Stmt} {tc:TT} {tb:TS} (hp:PassesOwn (model X.prog X.w) X.A X.env X.xe) (hc:PT X c tc) (hb:xB X body tb):PS X (.While c body [] pos) (zy tc tb):=by
 intro pins s σ H D I h;obtain ⟨W,⟨m0,w0⟩,turn⟩:=h;refine wpAny_While (codeAny_whileLoop (λn s'=>∃σ' H',Inv X pins σ' H' s'/\W n σ' H') ?_ m0 ⟨σ,H,I,w0⟩);rintro n s1 ⟨σ1,H1,I1,w1⟩;refine wpAny_passesOwn hp (d7 (hc pins s1 σ1 H1 _ I1 (turn n σ1 H1 w1)) λb s2 ⟨H2,I2,q2⟩=>?_);cases b with
 | true =>
  obtain ⟨N,hN,q2⟩:=q2;rw[if_pos rfl];refine wpAny_passesOwn hp (d7 (hb pins s2 σ1 H2 _ I2 q2) λf s3 q3=>?_);cases f with
  | next =>
   obtain ⟨σ3,H3,I3,n3⟩:=q3;obtain ⟨m',hm,w3⟩:=hN σ3 H3 n3;exact ⟨m',hm,σ3,H3,I3,w3⟩
  | cont =>
   obtain ⟨σ3,H3,I3,n3⟩:=q3;obtain ⟨m',hm,w3⟩:=hN σ3 H3 n3;exact ⟨m',hm,σ3,H3,I3,w3⟩
  | brk=>exact q3
  | ret v=>exact q3
 | false =>
  rw[if_neg aU];exact wpAny_execs_nil ⟨σ1,H2,I2,q2⟩
end
structure It where
 go:Nat->Hp->Prop
 yld:Nat->Hp->V->Hp->Prop
 stop:Nat->Hp->Prop
def m3 (X:Cx) (pins:List (Addr×Obj)) (H:Hp) (b:Addr):Prop :=
 H b=none/\b≠X.env.locals/\b∉X.fs/\(b∈X.ex\/X.s₀.heap.objs.size<=b)/\(∀x c,X.env.cells.lookup x=some c->c≠b)/\∀p∈X.pn++pins,p.1≠b
theorem Inv.fpOk {X:Cx} {pins:List (Addr×Obj)} {σ:St} {H H':Hp} {s:Shared} {b:Addr} (I:Inv X pins σ H s) (hb:s.heap.objs.size<=b) (hn:H' b=none):m3 X pins H' b:=by
 refine ⟨hn,yx (aP I.lt hb),I.nofs hb,.inr (ar I.sz hb),λx c e z=>?_,λp hp z=>?_⟩
 ·obtain ⟨v,q⟩:=I.cell x c e;exact absurd (aP q.lt (by rw[z];exact hb)) (dw _)
 ·exact absurd (aP (Heap.lt_size (I.pin p hp).1) (by rw[z];exact hb)) (dw _)
structure Turn (P:Program) (w:World) (K:FG9) (tg:Expr) (J:It) (fp:List Addr) (it:Addr) (tn:Nat->Heap->Prop):Prop where
 mem:it∈fp
 obj:∀i h,tn i h->∀b∈fp,∃o,h.get? b=some o/\∀v,o.data≠.cell v
 keep:∀i h h',tn i h->(∀b∈fp,∀o,h.get? b=some o->h'.get? b=some o)->tn i h'
 item:∀(X:Cx),X.prog=P->X.w=w->X.K=K->X.calm=true->∀(i:Nat) (pins:List (Addr×Obj)) (s:Shared) (σ:St) (H:Hp) (E:Value->Shared->Prop),Inv X pins σ H s->(∀b∈fp,m3 X pins H b)->tn i s.heap->J.go i H →
  wpAny (model P w) X.A (pyNext (.ref it)) (λr s1=>∃u,r=some u /\
   wpAny (model P w) X.A (letOwnedTupleGo tg (.ref it) u) (λ_ s2=>∃x H',Inv X pins σ H' s2/\RelV x u/\J.yld i H x H'/\tn (i+1) s2.heap/\∀b∈fp,H' b=none) E s1) E s
 done:∀(X:Cx),X.prog=P->X.w=w->X.K=K->X.calm=true->∀(i:Nat) (pins:List (Addr×Obj)) (s:Shared) (σ:St) (H:Hp) (E:Value->Shared->Prop),Inv X pins σ H s->(∀b∈fp,m3 X pins H b)->tn i s.heap->J.stop i H →
  wpAny (model P w) X.A (pyNext (.ref it)) (λr s1=>r=none/\Inv X pins σ H s1) E s
 self:∀(A:Around) (i:Nat) (s:Shared) (Q:Value->Shared->Prop) (E:Value->Shared->Prop),tn i s.heap->Q (.ref it) s->wpAny (model P w) A (pyIter (.ref it)) Q E s
abbrev TI:=St->Hp->(It->Hp->Prop)->Prop
def PIE (X:Cx) (pins:List (Addr×Obj)) (σ:St) (tg:Expr) (R:It->Hp->Prop) (itv:Value) (s2:Shared):Prop :=
 ∃(it:Addr) (fp:List Addr) (tn:Nat->Heap->Prop) (J:It) (H':Hp),itv=.ref it/\Inv X pins σ H' s2/\Turn X.prog X.w X.K tg J fp it tn/\tn 0 s2.heap/\(∀b∈fp,m3 X pins H' b)/\R J H'
def PI (X:Cx) (tg iter:Expr) (wi:TI):Prop :=
 ∀(pins:List (Addr×Obj)) (s:Shared) (σ:St) (H:Hp) (R:It->Hp->Prop),Inv X pins σ H s->wi σ H R →
  wpAny (model X.prog X.w) X.A (eval iter X.env) (λv s1=>wpAny (model X.prog X.w) X.A (pyIter v) (PIE X pins σ tg R) X.xe s1) X.xe s
theorem Af {M : Model} {A : Around} {E : Value → Shared → Prop} {s : Shared} {tg : Expr} {it : Addr} {u : Value} {o : Obj} {n : String} {vs : Array Value} {Q : Unit → Shared → Prop} (ho : s.heap.get? it = some o) (hc : o.cls = .type n) (hd : o.data = .fields vs)
    (hn : ["enumerate", "zip", "dict_itemiterator", "dict_reverseitemiterator", "odict_iterator", "itertools.zip_longest", "itertools.pairwise"].contains n = false) (hQ : Q () s) : wpAny M A (letOwnedTupleGo tg (.ref it) u) Q E s := by
  unfold letOwnedTupleGo
  cases tg <;> first
    | exact wpAny_pure hQ
    | (cases u <;> first
        | exact wpAny_pure hQ
        | (refine wpAny_bind (wpAny_load ho ?_)
           rw [hc, hd];show wpAny M A (if (["enumerate", "zip", "dict_itemiterator", "dict_reverseitemiterator", "odict_iterator", "itertools.zip_longest", "itertools.pairwise"].contains n && vs[0]? == some (rawInt _)) = true then _ else _) Q E s
           rw [if_neg (by intro h; rw [hn, Bool.false_and] at h; cases h)];exact wpAny_pure hQ))

def Cc (K:FG9) (a:Addr):It :=
 ⟨λi H=>∃xs x,b6 K H a xs/\xs[i]?=some x,λi H x H'=>H'=H/\∀xs,b6 K H a xs->xs[i]?=some x,λi H=>∃xs,b6 K H a xs/\xs.length<=i⟩
def Eu (K:FG9) (a:Addr):It :=
 ⟨λi H=>∃xs x,oj K H a xs/\xs[i]?=some x,λi H x H'=>H'=H/\∀xs,oj K H a xs->xs[i]?=some x,λi H=>∃xs,oj K H a xs/\xs.length<=i⟩
def wI (lo:Int) (n:Nat):It:=⟨λi _=>i < n,λi H x H'=>H'=H/\x=.int (lo+i),λi _=>n<=i⟩
theorem yC {P:Program} {w:World} {K:FG9} {tg:Expr} (a it:Addr):Turn P w K tg (Cc K a) [it] it (λi h=>h.IsListIter it a i) where
 mem:=by simp
 obj:=λi h st b hb=>by
  have e:b=it:=by simpa using hb
  subst e;obtain ⟨o,e,c,d⟩:=st;exact ⟨o,e,λv z=>by rw[d] at z;cases z⟩
 keep:=λi h h' st k=>st.at λo e=>k it (by simp) o e
 item:=by
  intro X hP hw hK hc i pins s σ H E I hf st hg;subst hP hw hK;obtain ⟨xs,x,hq,hx⟩:=hg;obtain ⟨its,rv,p,hz⟩:=I.list hq;obtain ⟨u,hu,ru⟩:=rv.get hx;obtain ⟨f0,f1,f2,f3,f4,f5⟩:=hf it (by simp);refine wpAny_pyNext_list_item st p.isList (x:=u) (by simpa using hu) λh' st' sb=>?_
  have I1:Inv X pins σ H { s with heap:=h' }:=I.turned (t':=s.toks) (λb o hb e=>(sb.2 b hb).trans e) f0 f1 f3 f4 f5;obtain ⟨o,e,c,d⟩:=id st';exact ⟨u,rfl,Af (s:={ s with heap:=h' }) e c d (by decide) ⟨x,H,I1,ru,⟨rfl,λys hy=>by rw[I.list_inj hy hq];exact hx⟩,st',λb hb=>(hf b hb).1⟩⟩
 done:=by
  intro X hP hw hK hc i pins s σ H E I hf st hg;subst hP hw hK;obtain ⟨xs,hq,hx⟩:=hg;obtain ⟨its,rv,p,hz⟩:=I.list hq;obtain ⟨f0,f1,f2,f3,f4,f5⟩:=hf it (by simp);have hl:=rv.length;exact wpAny_pyNext_list_end (I.ok.hd hc) st p.isList (by simp;lia) λh' eb=>⟨rfl,I.turned (t':=s.toks) (λb o hb e=>eb b o hb e) f0 f1 f3 f4 f5⟩
 self:=λ_ _ _ _ _ st h=>wpAny_pyIter_listiter st h
theorem wU {P:Program} {w:World} {K:FG9} {tg:Expr} (a it:Addr):Turn P w K tg (Eu K a) [it] it (λi h=>h.IsTupleIter it a i) where
 mem:=by simp
 obj:=λi h st b hb=>by
  have e:b=it:=by simpa using hb
  subst e;obtain ⟨o,e,c,d⟩:=st;exact ⟨o,e,λv z=>by rw[d] at z;cases z⟩
 keep:=λi h h' st k=>st.at λo e=>k it (by simp) o e
 item:=by
  intro X hP hw hK hc i pins s σ H E I hf st hg;subst hP hw hK;obtain ⟨xs,x,hq,hx⟩:=hg;obtain ⟨its,rv,p,hz⟩:=I.tuple hq;obtain ⟨u,hu,ru⟩:=rv.get hx;obtain ⟨f0,f1,f2,f3,f4,f5⟩:=hf it (by simp);refine wpAny_pyNext_tuple_item st (show s.heap.IsTuple a its.toArray from p) (x:=u) (by simpa using hu) λh' st' sb=>?_
  have I1:Inv X pins σ H { s with heap:=h' }:=I.turned (t':=s.toks) (λb o hb e=>(sb.2 b hb).trans e) f0 f1 f3 f4 f5;obtain ⟨o,e,c,d⟩:=id st';exact ⟨u,rfl,Af (s:={ s with heap:=h' }) e c d (by decide) ⟨x,H,I1,ru,⟨rfl,λys hy=>by rw[I.tuple_inj hy hq];exact hx⟩,st',λb hb=>(hf b hb).1⟩⟩
 done:=by
  intro X hP hw hK hc i pins s σ H E I hf st hg;subst hP hw hK;obtain ⟨xs,hq,hx⟩:=hg;obtain ⟨its,rv,p,hz⟩:=I.tuple hq;obtain ⟨f0,f1,f2,f3,f4,f5⟩:=hf it (by simp);have hl:=rv.length;exact wpAny_pyNext_tuple_end (I.ok.hd hc) st (show s.heap.IsTuple a its.toArray from p) (by simp;lia) λh' eb=>⟨rfl,I.turned (t':=s.toks) (λb o hb e=>eb b o hb e) f0 f1 f3 f4 f5⟩
 self:=λ_ _ _ _ _ st h=>wpAny_pyIter_tupleiter st h
theorem wV {P:Program} {w:World} {K:FG9} {tg:Expr} (it:Addr) (lo:Int) (n:Nat):Turn P w K tg (wI lo n) [it] it (λi h=>IsRangeIter h it (lo+(i:Nat)*1) ((n:Int) - (i:Nat)) 1) where
 mem:=by simp
 obj:=λi h st b hb=>by
  have e:b=it:=by simpa using hb
  subst e
  exact ⟨_,st,λv z=>by
   have z':Data.fields _=Data.cell v:=z;cases z'⟩
 keep:=λi h h' st k=>k it (by simp) _ st
 item:=by
  intro X hP hw hK hc i pins s σ H E I hf st hg;subst hP hw hK;obtain ⟨f0,f1,f2,f3,f4,f5⟩:=hf it (by simp);have W:=Walks.range (prog:=X.prog) (w:=X.w) (I.ok.hd hc) it lo 1 n;refine W.item i s _ _ hg st λv h' tk hv st' kk=>?_
  obtain ⟨t,rfl⟩:=hv;have I1:Inv X pins σ H { s with heap:=h',toks:=tk }:=I.turned (λb o hb e=>kk b o (by simpa using hb) e) f0 f1 f3 f4 f5;refine ⟨_,rfl,Af (s:={ s with heap:=h',toks:=tk }) (n:="range_iterator") st' rfl rfl (by decide) ⟨.int (lo+i),H,I1,⟨t,?_⟩,⟨rfl,rfl⟩,st',λb hb=>(hf b hb).1⟩⟩;rw[Int.mul_one]
 done:=by
  intro X hP hw hK hc i pins s σ H E I hf st hg;subst hP hw hK;obtain ⟨f0,f1,f2,f3,f4,f5⟩:=hf it (by simp);exact wpAny_pyNext_range_end (I.ok.hd hc) st (by have:n<=i:=hg;lia) λh' eb=>⟨rfl,I.turned (t':=s.toks) (λb o hb e=>eb b o hb e) f0 f1 f3 f4 f5⟩
 self:=λ_ _ _ _ _ st h=>wpAny_pyIter_rangeiter st h
section
variable {X:Cx} {tg:Expr}
def Ac (K:FG9) (tl:TE):TI:=λσ H R=>tl σ H λx H1=>∃a,x=.ref a/\(∃xs,b6 K H1 a xs)/\R (Cc K a) H1
def Fh (K:FG9) (tl:TE):TI:=λσ H R=>tl σ H λx H1=>∃a,x=.ref a/\(∃xs,oj K H1 a xs)/\R (Eu K a) H1
theorem dk {l:Expr} {tl:TE} (hl:PE X l tl):PI X tg l (Ac X.K tl):=by
 intro pins s σ H R I h;refine d7 (hl pins s σ H _ I h) λv s1 ⟨x,H1,I1,r1,q1⟩=>?_
 obtain ⟨a,e,⟨xs,hq⟩,q⟩:=q1;subst e;cases r1;obtain ⟨its,rv,p,hz⟩:=I1.list hq;refine wpAny_pyIter_list p.isList ?_;refine ⟨s1.heap.objs.size,[s1.heap.objs.size],_,_,H1,rfl,I1.kept (t':=s1.toks) λb o e=>Heap.get?_push_of_some _ e,yC a _,⟨_,Heap.get?_push_size _ rfl,rfl,rfl⟩,λb hb=>?_,q⟩;have e:b=s1.heap.objs.size:=by simpa using hb
 subst e;exact I1.fpOk (ay _) (I1.hok.fresh (ay _))
theorem DT {l:Expr} {tl:TE} (hl:PE X l tl):PI X tg l (Fh X.K tl):=by
 intro pins s σ H R I h;refine d7 (hl pins s σ H _ I h) λv s1 ⟨x,H1,I1,r1,q1⟩=>?_
 obtain ⟨a,e,⟨xs,hq⟩,q⟩:=q1;subst e;cases r1;obtain ⟨its,rv,p,hz⟩:=I1.tuple hq;refine wpAny_pyIter_tuple (show s1.heap.IsTuple a its.toArray from p) ?_;refine ⟨s1.heap.objs.size,[s1.heap.objs.size],_,_,H1,rfl,I1.kept (t':=s1.toks) λb o e=>Heap.get?_push_of_some _ e,wU a _,⟨_,Heap.get?_push_size _ rfl,rfl,rfl⟩,λb hb=>?_,q⟩;have e:b=s1.heap.objs.size:=by simpa using hb
 subst e;exact I1.fpOk (ay _) (I1.hok.fresh (ay _))
theorem vS {pins:List (Addr×Obj)} {σ:St} {H:Hp} {s:Shared} {R:It->Hp->Prop} {E:Value->Shared->Prop} {lo hi:Int} {t u v:Tok} {tk:Nat} (I:Inv X pins σ H s) (h1:-(2^62)<=lo) (h2:lo < 2^62) (h3:-(2^62)<=hi) (h4:hi < 2^62)
  (q:R (wI lo (hi - lo).toNat) H):wpAny (model X.prog X.w) X.A (pyIter (.ref s.heap.objs.size)) (PIE X pins σ tg R) E { s with heap:=s.heap.push { cls:=.type "range",data:=.fields #[.int lo t,.int hi u,.int 1 v] },toks:=tk }:=by
 refine wpAny_pyIter_range (IsRange.new ..) (small_one h1 h2 h3 h4) ?_;have I1:Inv X pins σ H { s with heap:=s.heap.push { cls:=.type "range",data:=.fields #[.int lo t,.int hi u,.int 1 v] },toks:=tk }:=I.kept λb o e=>Heap.get?_push_of_some _ e
 refine ⟨(s.heap.push { cls:=.type "range",data:=.fields #[.int lo t,.int hi u,.int 1 v] }).objs.size,[(s.heap.push { cls:=.type "range",data:=.fields #[.int lo t,.int hi u,.int 1 v] }).objs.size],_,_,H,rfl,
  I1.kept (t':=tk) λb o e=>Heap.get?_push_of_some _ e,wV _ lo (hi - lo).toNat,?_,λb hb=>?_,q⟩
 ·have e1:lo+((0:Nat):Int)*1=lo:=by simp
  have e2:(((hi - lo).toNat:Nat):Int) - ((0:Nat):Int)=Builtin.Range.rangeSize lo hi 1:=by rw[rangeSize_one];split <;> lia
  show IsRangeIter _ _ (lo+((0:Nat):Int)*1) ((((hi - lo).toNat:Nat):Int) - ((0:Nat):Int)) 1
  rw[e1,e2];exact Heap.get?_push_size _ rfl
 ·have e:b=(s.heap.push { cls:=.type "range",data:=.fields #[.int lo t,.int hi u,.int 1 v] }).objs.size:=by simpa using hb
  subst e;exact I1.fpOk (ay _) (I1.hok.fresh (ay _))
def Cv (ta:TA):TI:=λσ H R=>ta σ H λvs H1=>∃j:Int,vs=[.int j]/\-(2^62)<=j/\j < 2^62/\R (wI 0 j.toNat) H1
def Cu (ta:TA):TI:=λσ H R=>ta σ H λvs H1=>∃i j:Int,vs=[.int i,.int j]/\(-(2^62)<=i/\i < 2^62/\-(2^62)<=j/\j < 2^62)/\R (wI i (j - i).toNat) H1
theorem bV {a:Expr} {ta:TA} {p pos:Pos} (hg:Gl X "range") (hm:X.mg "range"=none) (ha:PA X [a] ta) (hs:starEach [a] X.env=[(false,eval a X.env)]:=by rfl):PI X tg (.Call (.Name "range" p) [a] [] pos) (Cv ta):=by
 intro pins s σ H R I h;refine Call_ (j8 I hg hm boot_range (PyProof.Rows.callWith_type1 (d7 (ha pos pins s σ H _ I h) λus s1 ⟨vs,H1,I1,r1,q1⟩=>?_) hs rfl));obtain ⟨j,e,q1,q2,q⟩:=q1;subst e;cases r1 with
 | cons r rr =>
  cases rr;obtain ⟨t,rfl⟩:=r;exact call_range_1 (vS I1 (by lia) (by lia) q1 q2 (by simpa using q))
theorem tS {a b:Expr} {ta:TA} {p pos:Pos} (hg:Gl X "range") (hm:X.mg "range"=none) (ha:PA X [a,b] ta) (hs:starEach [a,b] X.env=[(false,eval a X.env),(false,eval b X.env)]:=by rfl) (hs2:starEach [b] X.env=[(false,eval b X.env)]:=by rfl) :
  PI X tg (.Call (.Name "range" p) [a,b] [] pos) (Cu ta):=by
 intro pins s σ H R I h;refine Call_ (j8 I hg hm boot_range (PyProof.Rows.callWith_type1 (d7 (ha pos pins s σ H _ I h) λus s1 ⟨vs,H1,I1,r1,q1⟩=>?_) (by rw[hs,hs2]) (by rw[hs2];rfl)));obtain ⟨i,j,e,⟨q1,q2,q3,q4⟩,q⟩:=q1;subst e;cases r1 with
 | cons r rr =>
  cases rr with
  | cons r' rr =>
   cases rr;obtain ⟨t,rfl⟩:=r;obtain ⟨t',rfl⟩:=r';exact call_range_2 (vS I1 q1 q2 q3 q4 q)
def EK (wi:TI) (g:TG) (tb:TS):TS:=λD σ H=>wi σ H λJ H1=>∃W:Nat->Nat->St->Hp->Prop,(∃m,W 0 m σ H1)/\∀i m σ H,W i m σ H →
 (J.stop i H/\D.nx σ H)\/(J.go i H/\∃N:St->Hp->Prop,(∀σ' H',N σ' H'->∃m',m' < m/\W (i+1) m' σ' H')/\∀x H',J.yld i H x H'->g x σ H' λσ2 H2=>tb { D with nx:=N,ct:=N,bk:=D.nx } σ2 H2)
def rX (fp:List Addr) (h:Heap):List (Addr×Obj):=fp.filterMap λb=>(h.get? b).map λo=>(b,o)
theorem lY {fp:List Addr} {h:Heap} {b:Addr} {o:Obj} (hb:b∈fp) (e:h.get? b=some o):(b,o)∈rX fp h:=List.mem_filterMap.mpr ⟨b,hb,by rw[e];rfl⟩
theorem yT {fp:List Addr} {h:Heap} {p:Addr×Obj} (hp:p∈rX fp h):p.1∈fp/\h.get? p.1=some p.2:=by
 obtain ⟨b,hb,e⟩:=List.mem_filterMap.mp hp;cases q:h.get? b with
 | none=>rw[q] at e;cases e
 | some o =>
  rw[q] at e;have e':(b,o)=p:=bf e;subst e';exact ⟨hb,q⟩
theorem Inv.pinned {pins:List (Addr×Obj)} {σ:St} {H:Hp} {s:Shared} {fp:List Addr} (I:Inv X pins σ H s) (hf:∀b∈fp,m3 X pins H b) (ho:∀b∈fp,∃o,s.heap.get? b=some o/\∀v,o.data≠.cell v):Inv X (pins++rX fp s.heap) σ H s :=
 I.pins_of λp hp=>(aL.mp hp).elim (λz=>I.pin p (bG _ z)) λz=>by
  obtain ⟨hb,e⟩:=yT z;obtain ⟨f0,f1,f2,_⟩:=hf p.1 hb;obtain ⟨o,e',d⟩:=ho p.1 hb;rw[e] at e';cases e';exact ⟨e,f0,f1,f2,d⟩
theorem Inv.unpinned {pins pl:List (Addr×Obj)} {σ:St} {H:Hp} {s:Shared} (I:Inv X (pins++pl) σ H s):Inv X pins σ H s:=I.pins_of λp hp=>I.pin p (bG _ (uw _ hp))
theorem eC {iter : Expr} {body : List Stmt} {wi : TI} {g : TG} {tb : TS} {pos : Pos} (hp : PassesOwn (model X.prog X.w) X.A X.env X.xe) (hc : X.calm = true) (hi : PI X tg iter wi) (hg : PG X tg g) (hb : xB X body tb)
    (hs : ∀ x, foldedSetIterable iter X.env x = pure x := by intro _; rfl) : PS X (.For tg iter body [] pos) (EK wi g tb) := by
  intro pins s σ H D I h;refine wpAny_For (d7 (hi pins s σ H _ I h) λv s1 h1 => d7 h1 λitv s2 h2 => ?_) hs;obtain ⟨it, fp, tn, J, H2, e, I2, T, st2, f2, W, ⟨m0, w0⟩, turn⟩ := h2;subst e;have stat : ∀ {H' : Hp}, (∀ b ∈ fp, H' b = none) → ∀ b ∈ fp, m3 X pins H' b := λhn b hb => ⟨hn b hb, (f2 b hb).2⟩
  refine codeAny_forLoop_any (λn s' => ∃ i σ' H', Inv X pins σ' H' s' /\ tn i s'.heap /\ (∀ b ∈ fp, H' b = none) /\ W i n σ' H') ?_ m0 ⟨0, σ, H2, I2, st2, λb hb => (f2 b hb).1, w0⟩;rintro n s3 ⟨i, σ3, H3, I3, st3, fr3, w3⟩;rcases turn i n σ3 H3 w3 with ⟨stop, qn⟩ | ⟨go, N, hN, step⟩
  · refine wpAny_passesOwn hp (d7 (T.done X rfl rfl rfl hc i pins s3 σ3 H3 X.xe I3 (stat fr3) st3 stop) λr s4 ⟨hr, I4⟩ => ?_);subst hr;exact wpAny_execs_nil ⟨σ3, H3, I4, qn⟩
  · refine wpAny_passesOwn hp (d7 (T.item X rfl rfl rfl hc i pins s3 σ3 H3 X.xe I3 (stat fr3) st3 go) λr s4 ⟨u, hr, h4⟩ => ?_);subst hr;refine wpAny_passesOwn hp (d7 h4 λ_ s5 ⟨x, H5, I5, r5, y5, st5, fr5⟩ => ?_);have I5' := I5.pinned (stat fr5) (T.obj _ _ st5);refine wpAny_passesOwn hp (d7 (hg _ s5 σ3 H5 x u _ I5' r5 (step x H5 y5)) λ_ s6 ⟨σ6, H6, I6, q6⟩ => ?_);refine wpAny_passesOwn hp (d7 (hb _ s6 σ6 H6 _ I6 q6) λf s7 q7 => ?_)
    have again : ∀ {σ7 : St} {H7 : Hp}, Inv X (pins ++ rX fp s5.heap) σ7 H7 s7 → N σ7 H7 → ∃ m, m < n /\ ∃ i σ' H', Inv X pins σ' H' s7 /\ tn i s7.heap /\ (∀ b ∈ fp, H' b = none) /\ W i m σ' H' := λ{σ7 H7} I7 n7 => by
      obtain ⟨m', hm, w7⟩ := hN σ7 H7 n7;refine ⟨m', hm, i + 1, σ7, H7, I7.unpinned, T.keep _ _ _ st5 λb hb o e => (I7.pin (b, o) (bG _ (bG _ (lY hb e)))).1, λb hb => ?_, w7⟩;obtain ⟨o, e, d⟩ := T.obj _ _ st5 b hb;exact (I7.pin (b, o) (bG _ (bG _ (lY hb e)))).2.1
    cases f with
    | next => obtain ⟨σ7, H7, I7, n7⟩ := q7; exact again I7 n7
    | cont => obtain ⟨σ7, H7, I7, n7⟩ := q7; exact again I7 n7
    | brk => obtain ⟨σ7, H7, I7, q7⟩ := q7; exact ⟨σ7, H7, I7.unpinned, q7⟩
    | ret v => obtain ⟨x7, σ7, H7, I7, r7, q7⟩ := q7; exact ⟨x7, σ7, H7, I7.unpinned, r7, q7⟩
end
theorem lK {K:FG9} {a:Addr} {xs:List V} {g:TG} {tb:TS} {D:Ends} {σ:St} {H:Hp} (Pv:Nat->St->Hp->Prop) (h0:Pv 0 σ H) (hl:∀i σ H,i<=xs.length->Pv i σ H->b6 K H a xs)
  (hs:∀i x σ H,xs[i]?=some x->Pv i σ H->g x σ H λσ2 H2=>tb { D with nx:=Pv (i+1),ct:=Pv (i+1),bk:=D.nx } σ2 H2) (hd:∀σ H,Pv xs.length σ H->D.nx σ H) :
  ∃W:Nat->Nat->St->Hp->Prop,(∃m,W 0 m σ H)/\∀i m σ H,W i m σ H →
   ((Cc K a).stop i H/\D.nx σ H)\/((Cc K a).go i H/\∃N:St->Hp->Prop,(∀σ' H',N σ' H'->∃m',m' < m/\W (i+1) m' σ' H')/\∀x H',(Cc K a).yld i H x H'->g x σ H' λσ2 H2=>tb { D with nx:=N,ct:=N,bk:=D.nx } σ2 H2):=by
 refine ⟨λi m σ H=>m=xs.length - i/\i<=xs.length/\Pv i σ H,⟨xs.length,by simp,bP _,h0⟩,?_⟩;rintro i m σ H ⟨rfl,hi,p⟩;have q:=hl i σ H hi p;by_cases hlt:i < xs.length
 ·refine .inr ⟨⟨xs,xs[i],q,by simp [hlt]⟩,Pv (i+1),λσ' H' p'=>⟨xs.length - (i+1),by lia,rfl,hlt,p'⟩,λx H' y=>?_⟩;obtain ⟨e,y⟩:=y;subst e;exact hs i x σ _ (y xs q) p
 ·have e:i=xs.length:=by lia
  subst e;exact .inl ⟨⟨xs,q,ay _⟩,hd σ H p⟩
theorem BM {K:FG9} {a:Addr} {xs:List V} {g:TG} {tb:TS} {D:Ends} {σ:St} {H:Hp} (Pv:Nat->St->Hp->Prop) (h0:Pv 0 σ H) (hl:∀i σ H,i<=xs.length->Pv i σ H->oj K H a xs)
  (hs:∀i x σ H,xs[i]?=some x->Pv i σ H->g x σ H λσ2 H2=>tb { D with nx:=Pv (i+1),ct:=Pv (i+1),bk:=D.nx } σ2 H2) (hd:∀σ H,Pv xs.length σ H->D.nx σ H) :
  ∃W:Nat->Nat->St->Hp->Prop,(∃m,W 0 m σ H)/\∀i m σ H,W i m σ H →
   ((Eu K a).stop i H/\D.nx σ H)\/((Eu K a).go i H/\∃N:St->Hp->Prop,(∀σ' H',N σ' H'->∃m',m' < m/\W (i+1) m' σ' H')/\∀x H',(Eu K a).yld i H x H'->g x σ H' λσ2 H2=>tb { D with nx:=N,ct:=N,bk:=D.nx } σ2 H2):=by
 refine ⟨λi m σ H=>m=xs.length - i/\i<=xs.length/\Pv i σ H,⟨xs.length,by simp,bP _,h0⟩,?_⟩;rintro i m σ H ⟨rfl,hi,p⟩;have q:=hl i σ H hi p;by_cases hlt:i < xs.length
 ·refine .inr ⟨⟨xs,xs[i],q,by simp [hlt]⟩,Pv (i+1),λσ' H' p'=>⟨xs.length - (i+1),by lia,rfl,hlt,p'⟩,λx H' y=>?_⟩;obtain ⟨e,y⟩:=y;subst e;exact hs i x σ _ (y xs q) p
 ·have e:i=xs.length:=by lia
  subst e;exact .inl ⟨⟨xs,q,ay _⟩,hd σ H p⟩
theorem qp {lo:Int} {n:Nat} {g:TG} {tb:TS} {D:Ends} {σ:St} {H:Hp} (Pv:Nat->St->Hp->Prop) (h0:Pv 0 σ H)
  (hs:∀i σ H,i < n->Pv i σ H->g (.int (lo+i)) σ H λσ2 H2=>tb { D with nx:=Pv (i+1),ct:=Pv (i+1),bk:=D.nx } σ2 H2) (hd:∀σ H,Pv n σ H->D.nx σ H) :
  ∃W:Nat->Nat->St->Hp->Prop,(∃m,W 0 m σ H)/\∀i m σ H,W i m σ H →
   ((wI lo n).stop i H/\D.nx σ H)\/((wI lo n).go i H/\∃N:St->Hp->Prop,(∀σ' H',N σ' H'->∃m',m' < m/\W (i+1) m' σ' H')/\∀x H',(wI lo n).yld i H x H'->g x σ H' λσ2 H2=>tb { D with nx:=N,ct:=N,bk:=D.nx } σ2 H2):=by
 refine ⟨λi m σ H=>m=n - i/\i<=n/\Pv i σ H,⟨n,by simp,bP _,h0⟩,?_⟩;rintro i m σ H ⟨rfl,hi,p⟩;by_cases hlt:i < n
 ·refine .inr ⟨hlt,Pv (i+1),λσ' H' p'=>⟨n - (i+1),by lia,rfl,hlt,p'⟩,λx H' y=>?_⟩;obtain ⟨e,y⟩:=y;subst e y;exact hs i σ _ hlt p
 ·have e:i=n:=by lia
  subst e;exact .inl ⟨ay _,hd σ H p⟩
abbrev R2:=V->V->Hp->VK->Prop
def tx (X:Cx) (f:Value->Value->Sem Value) (r:R2):Prop :=
 ∀(pins:List (Addr×Obj)) (s:Shared) (σ:St) (H:Hp) (x y:V) (v u:Value) (Q:VK),Inv X pins σ H s->RelV x v->RelV y u->r x y H Q →
  wpAny (model X.prog X.w) X.A (f v u) (EP X pins σ Q) X.xe s
def GB (X:Cx) (f:Value->Sem Value) (r:V->Hp->VK->Prop):Prop :=
 ∀(pins:List (Addr×Obj)) (s:Shared) (σ:St) (H:Hp) (x:V) (v:Value) (Q:VK),Inv X pins σ H s->RelV x v->r x H Q →
  wpAny (model X.prog X.w) X.A (f v) (EP X pins σ Q) X.xe s
def oC (X:Cx) (f:Value) (r:List V->Hp->VK->Prop):Prop :=
 ∀(pins:List (Addr×Obj)) (s:Shared) (σ:St) (H:Hp) (xs:List V) (us:List Value) (Q:VK),Inv X pins σ H s->b7 xs us->r xs H Q →
  wpAny (model X.prog X.w) X.A (call f us) (EP X pins σ Q) X.xe s
def EG (r:R2) (ta tb:TE):TE:=λσ H Q=>ta σ H λx H1=>tb σ H1 λy H2=>r x y H2 Q
def FR (r:V->Hp->VK->Prop) (ta:TE):TE:=λσ H Q=>ta σ H λx H1=>r x H1 Q
def rI (C:Int->Int->Prop) (g:Int->Int->V):R2:=λx y H Q=>∃i j,x=.int i/\y=.int j/\C i j/\Q (g i j) H
def Cq (g:Int->Int->V):R2:=λx y H Q=>∃i j,x=.int i/\y=.int j/\Q (g i j) H
def rU (g:Int->V):V->Hp->VK->Prop:=λx H Q=>∃i,x=.int i/\Q (g i) H
section
variable {X:Cx} {a b c:Expr} {ta tb tc:TE} {pos:Pos}
theorem Eh (ha:PE X a ta) (hb:PE X b tb) {pins:List (Addr×Obj)} {s:Shared} {σ:St} {H:Hp} {R:V->V->Hp->Prop} (I:Inv X pins σ H s)
  (h:ta σ H λx H1=>tb σ H1 λy H2=>R x y H2) {Q:Value->Shared->Prop} {f:Value->Value->Sem Value}
  (hf:∀v u s2 x y H2,Inv X pins σ H2 s2->RelV x v->RelV y u->R x y H2->wpAny (model X.prog X.w) X.A (f v u) Q X.xe s2) :
  wpAny (model X.prog X.w) X.A (eval a X.env) (λv s₁=>wpAny (model X.prog X.w) X.A (eval b X.env) (λu s₂=>wpAny (model X.prog X.w) X.A (f v u) Q X.xe s₂) X.xe s₁) X.xe s:=by
 refine d7 (ha pins s σ H _ I h) λv s1 ⟨x,H1,I1,r1,q1⟩=>?_
 refine d7 (hb pins s1 σ H1 _ I1 q1) λu s2 ⟨y,H2,I2,r2,q2⟩=>?_
 exact hf v u s2 x y H2 I2 r1 r2 q2
theorem bJ {op:Operator} {r:R2} (ho:tx X (binaryOp op) r) (ha:PE X a ta) (hb:PE X b tb):PE X (.BinOp a op b pos) (EG r ta tb):=by
 intro pins s σ H Q I h;exact wpAny_BinOp (Eh ha hb I h λv u s2 x y H2 I2 rx ry q=>ho pins s2 σ H2 x y v u Q I2 rx ry q)
theorem rY {op:UnaryOp} {r:V->Hp->VK->Prop} (ho:GB X (unaryOp op) r) (ha:PE X a ta):PE X (.UnaryOp op a pos) (FR r ta):=by
 intro pins s σ H Q I h;exact UnaryOp_ (d7 (ha pins s σ H _ I h) λv s1 ⟨x,H1,I1,r1,q1⟩=>ho pins s1 σ H1 x v Q I1 r1 q1)
theorem FT {f:Value->Value->Sem Value} {C:Int->Int->Prop} {g:Int->Int->Int}
  (rule:∀(i j:Int) (t u:Tok) (s:Shared) (Q:Value->Shared->Prop) (E:Value->Shared->Prop),C i j->Q (.int (g i j) s.toks) { s with toks:=s.toks+1 }->wpAny (model X.prog X.w) X.A (f (.int i t) (.int j u)) Q E s) :
  tx X f (rI C λi j=>.int (g i j)):=by
 intro pins s σ H x y v u Q I rx ry h;obtain ⟨i,j,rfl,rfl,hc,q⟩:=h;obtain ⟨t,rfl⟩:=rx;obtain ⟨t',rfl⟩:=ry;exact rule i j t t' s _ _ hc ⟨.int (g i j),H,I.tok _,⟨_,rfl⟩,q⟩
theorem E7 {f:Value->Value->Sem Value} {g:Int->Int->Int}
  (rule:∀(i j:Int) (t u:Tok) (s:Shared) (Q:Value->Shared->Prop) (E:Value->Shared->Prop),Q (.int (g i j) s.toks) { s with toks:=s.toks+1 }->wpAny (model X.prog X.w) X.A (f (.int i t) (.int j u)) Q E s) :
  tx X f (Cq λi j=>.int (g i j)):=by
 intro pins s σ H x y v u Q I rx ry h;obtain ⟨i,j,rfl,rfl,q⟩:=h;obtain ⟨t,rfl⟩:=rx;obtain ⟨t',rfl⟩:=ry;exact rule i j t t' s _ _ ⟨.int (g i j),H,I.tok _,⟨_,rfl⟩,q⟩
theorem DX {f:Value->Value->Sem Value} {g:Int->Int->Bool}
  (rule:∀(i j:Int) (t u:Tok) (s:Shared) (Q:Value->Shared->Prop) (E:Value->Shared->Prop),Q (.bool (g i j)) s->wpAny (model X.prog X.w) X.A (f (.int i t) (.int j u)) Q E s) :
  tx X f (Cq λi j=>.bl (g i j)):=by
 intro pins s σ H x y v u Q I rx ry h;obtain ⟨i,j,rfl,rfl,q⟩:=h;obtain ⟨t,rfl⟩:=rx;obtain ⟨t',rfl⟩:=ry;exact rule i j t t' s _ _ ⟨.bl (g i j),H,I,rfl,q⟩
def Ep (i j:Int):Prop:=(-(2^64) < i/\i < 2^64)\/(-(2^64) < j/\j < 2^64)
theorem Ep.ok {i j:Int} (h:Ep i j):IntMulOk i j:=by
 rcases h with ⟨h1,h2⟩ | ⟨h1,h2⟩
 ·exact .of_left (intBits_le_64 h1 h2)
 ·exact .of_right (intBits_le_64 h1 h2)
theorem dZ:tx X (binaryOp .Add) (Cq λi j=>.int (i+j)):=E7 λ_ _ _ _ _ _ _ q=>add_int q
theorem lS:tx X (binaryOp .Sub) (Cq λi j=>.int (i - j)):=E7 λ_ _ _ _ _ _ _ q=>sub_int q
theorem lh:tx X (binaryOp .Mod) (rI (λ_ j=>0 < j) λi j=>.int (i % j)):=FT λi j _ _ _ _ _ hc q=>by
 have h1:(0:Int) < j:=hc;exact mod_int' (by lia) (by rw[Int.fmod_eq_emod_of_nonneg i (by lia)];exact q)
theorem BB:tx X (binaryOp .Mod) (rI (λ_ j=>j≠0) λi j=>.int (i.fmod j)):=FT λ_ _ _ _ _ _ _ hc q=>mod_int' hc q
theorem unI {f:Value->Sem Value} {g:Int->Int}
  (rule:∀(i:Int) (t:Tok) (s:Shared) (Q:Value->Shared->Prop) (E:Value->Shared->Prop),Q (.int (g i) s.toks) { s with toks:=s.toks+1 }->wpAny (model X.prog X.w) X.A (f (.int i t)) Q E s) :
  GB X f (rU λi=>.int (g i)):=by
 intro pins s σ H x v Q I rx h;obtain ⟨i,rfl,q⟩:=h;obtain ⟨t,rfl⟩:=rx;exact rule i t s _ _ ⟨.int (g i),H,I.tok _,⟨_,rfl⟩,q⟩
theorem oI:GB X (unaryOp .USub) (rU λi=>.int (-i)):=unI λ_ _ _ _ _ q=>neg_int q
end
def EO:V->V->Bool
 | .non,.non=>true | .non,.int _=>true | .int _,.non=>true | .non,.bl _=>true | .bl _,.non=>true | .non,.str _=>true | .str _,.non=>true
 | .int _,.int _=>true | .bl _,.bl _=>true | .str _,.str _=>true | .byt _,.byt _=>true
 | .int _,.str _=>true | .str _,.int _=>true | .bl _,.str _=>true | .str _,.bl _=>true
 | _,_=>false
def rEq:R2:=λx y H Q=>EO x y=true/\Q (.bl (decide (x=y))) H
def rNe:R2:=λx y H Q=>EO x y=true/\Q (.bl (!decide (x=y))) H
theorem ym {i j:Int}:decide (V.int i=V.int j)=(i == j):=by
 rw[m4];simp
theorem An {i j:Bool}:decide (V.bl i=V.bl j)=(i == j):=by
 rw[m4];simp
theorem yl {i j:Str}:decide (V.str i=V.str j)=(i == j):=by
 rw[m4];simp
theorem yn {i j:Array UInt8}:decide (V.byt i=V.byt j)=(i.toList == j.toList):=by
 rw[m4];cases i;cases j;simp
section
variable {X:Cx} {a b c:Expr} {ta tb tc:TE} {pos:Pos}
theorem cE {pins:List (Addr×Obj)} {σ:St} {H:Hp} {s:Shared} {Q:VK} {k k':Bool} (I:Inv X pins σ H s) (q:Q (.bl k) H) (e:k=k'):EP X pins σ Q (.bool k') s:=by
 subst e;exact ⟨.bl k,H,I,rfl,q⟩
theorem eR:tx X (compareOp .Eq) rEq:=by
 intro pins s σ H x y v u Q I rx ry h;obtain ⟨hs,q⟩:=h;cases x with
 | non =>
  cases rx;cases y with
  | non=>cases ry;exact PySem.EqNone.eq_none_none (cE I q (by simp))
  | bl j=>cases ry;exact PySem.EqNone.eq_none_bool (cE I q (by simp))
  | int j=>obtain ⟨t',rfl⟩:=ry;exact PySem.EqNone.eq_none_int (cE I q (by simp))
  | str j=>obtain ⟨t',rfl⟩:=ry;exact PySem.EqNone.eq_none_str (cE I q (by simp))
  | _=>exact absurd (show false=true from hs) aU
 | bl i =>
  cases rx;cases y with
  | non=>cases ry;exact PySem.EqNone.eq_bool_none (cE I q (by simp))
  | bl j=>cases ry;exact eq_bool (cE I q An)
  | str j=>obtain ⟨t',rfl⟩:=ry;exact PySem.EqMixed.eq_bool_str (cE I q (by simp))
  | _=>exact absurd (show false=true from hs) aU
 | int i =>
  obtain ⟨t,rfl⟩:=rx;cases y with
  | non=>cases ry;exact PySem.EqNone.eq_int_none (cE I q (by simp))
  | int j=>obtain ⟨t',rfl⟩:=ry;exact eq_int (cE I q ym)
  | str j=>obtain ⟨t',rfl⟩:=ry;exact PySem.EqMixed.eq_int_str (cE I q (by simp))
  | _=>exact absurd (show false=true from hs) aU
 | str i =>
  obtain ⟨t,rfl⟩:=rx;cases y with
  | non=>cases ry;exact PySem.EqNone.eq_str_none (cE I q (by simp))
  | bl j=>cases ry;exact PySem.EqMixed.eq_str_bool (cE I q (by simp))
  | int j=>obtain ⟨t',rfl⟩:=ry;exact PySem.EqMixed.eq_str_int (cE I q (by simp))
  | str j=>obtain ⟨t',rfl⟩:=ry;exact eq_str (cE I q yl)
  | _=>exact absurd (show false=true from hs) aU
 | byt i =>
  obtain ⟨t,rfl⟩:=rx;cases y with
  | byt j=>obtain ⟨t',rfl⟩:=ry;exact PySem.W.eq_bytes (cE I q yn)
  | _=>exact absurd (show false=true from hs) aU
 | _=>cases y <;> exact absurd (show false=true from hs) aU
theorem tT:tx X (compareOp .NotEq) rNe:=by
 intro pins s σ H x y v u Q I rx ry h;obtain ⟨hs,q⟩:=h;cases x with
 | non =>
  cases rx;cases y with
  | non=>cases ry;exact PySem.EqNone.ne_none_none (cE I q (by simp))
  | bl j=>cases ry;exact PySem.EqNone.ne_none_bool (cE I q (by simp))
  | int j=>obtain ⟨t',rfl⟩:=ry;exact PySem.EqNone.ne_none_int (cE I q (by simp))
  | str j=>obtain ⟨t',rfl⟩:=ry;exact PySem.EqNone.ne_none_str (cE I q (by simp))
  | _=>exact absurd (show false=true from hs) aU
 | bl i =>
  cases rx;cases y with
  | non=>cases ry;exact PySem.EqNone.ne_bool_none (cE I q (by simp))
  | bl j=>cases ry;exact ne_bool (cE I q (congrArg not An))
  | str j=>obtain ⟨t',rfl⟩:=ry;exact PySem.EqMixed.ne_bool_str (cE I q (by simp))
  | _=>exact absurd (show false=true from hs) aU
 | int i =>
  obtain ⟨t,rfl⟩:=rx;cases y with
  | non=>cases ry;exact PySem.EqNone.ne_int_none (cE I q (by simp))
  | int j=>obtain ⟨t',rfl⟩:=ry;exact ne_int (cE I q (congrArg not ym))
  | str j=>obtain ⟨t',rfl⟩:=ry;exact PySem.EqMixed.ne_int_str (cE I q (by simp))
  | _=>exact absurd (show false=true from hs) aU
 | str i =>
  obtain ⟨t,rfl⟩:=rx;cases y with
  | non=>cases ry;exact PySem.EqNone.ne_str_none (cE I q (by simp))
  | bl j=>cases ry;exact PySem.EqMixed.ne_str_bool (cE I q (by simp))
  | int j=>obtain ⟨t',rfl⟩:=ry;exact PySem.EqMixed.ne_str_int (cE I q (by simp))
  | str j=>obtain ⟨t',rfl⟩:=ry;exact ne_str (cE I q (congrArg not yl))
  | _=>exact absurd (show false=true from hs) aU
 | byt i =>
  obtain ⟨t,rfl⟩:=rx;cases y with
  | byt j=>obtain ⟨t',rfl⟩:=ry;exact PySem.W.ne_bytes (cE I q (congrArg not yn))
  | _=>exact absurd (show false=true from hs) aU
 | _=>cases y <;> exact absurd (show false=true from hs) aU
theorem o9:tx X (compareOp .Lt) (Cq λi j=>.bl (decide (i < j))):=DX λ_ _ _ _ _ _ _ q=>lt_int q
theorem qF:tx X (compareOp .Gt) (Cq λi j=>.bl (decide (j < i))):=DX λ_ _ _ _ _ _ _ q=>gt_int q
theorem tU:tx X (compareOp .GtE) (Cq λi j=>.bl (decide (j<=i))):=DX λ_ _ _ _ _ _ _ q=>ge_int q
theorem bo (b:Expr) {op:CmpOp} (h:op≠.In:=by decide) (h2:op≠.NotIn:=by decide):behindInMarks op b=false:=by
 have e1:(op == CmpOp.In)=false:=by cases op <;> first | rfl | exact absurd rfl h
 have e2:(op == CmpOp.NotIn)=false:=by cases op <;> first | rfl | exact absurd rfl h2
 cases b <;> simp [behindInMarks,e1,e2]
theorem gZ {op:CmpOp} {r:R2} (ho:tx X (compareOp op) r) (ha:PE X a ta) (hb:PE X b tb) (hm:behindInMarks op b=false):PE X (.Compare a [op] [b] pos) (EG r ta tb):=by
 intro pins s σ H Q I h;exact wpAny_Compare1 (Eh ha hb I h λv u s2 x y H2 I2 rx ry q=>ho pins s2 σ H2 x y v u Q I2 rx ry q) hm
def Ce (t:TE):TT:=λσ H Q=>t σ H λx H'=>∃k,x=.bl k/\Q k H'
theorem be {op:CmpOp} {r:R2} (ho:tx X (compareOp op) r) (ha:PE X a ta) (hb:PE X b tb) (hm:behindInMarks op b=false):PT X (.Compare a [op] [b] pos) (Ce (EG r ta tb)):=by
 intro pins s σ H Q I h
 refine wpAny_isTrue_Compare1 (d7 (ha pins s σ H _ I h) λv s1 ⟨x,H1,I1,r1,q1⟩=>d7 (hb pins s1 σ H1 _ I1 q1) λu s2 ⟨y,H2,I2,r2,q2⟩ =>
  d7 (ho pins s2 σ H2 x y v u _ I2 r1 r2 q2) λc s3 ⟨z,H3,I3,r3,k,e,q3⟩=>?_) hm
 subst e;cases r3;exact wpAny_truthy_bool ⟨H3,I3,q3⟩
theorem sH:(sizeLine:Nat) < 2^63:=by rw[sizeLine_eq];decide
theorem vals1 {x:V} {us:List Value} (r:b7 [x] us):∃u,us=[u]/\RelV x u:=by
 cases r with
 | cons r1 r2=>cases r2;exact ⟨_,rfl,r1⟩
theorem vals2 {x y:V} {us:List Value} (r:b7 [x,y] us):∃u w',us=[u,w']/\RelV x u/\RelV y w':=by
 cases r with
 | cons r1 r2 =>
  cases r2 with
  | cons r3 r4=>cases r4;exact ⟨_,_,rfl,r1,r3⟩
theorem sL:oC X (.builtin "abs") (λxs H Q=>∃i,xs=[.int i]/\Q (.int (if i < 0 then -i else i)) H):=by
 intro pins s σ H xs us Q I r h;obtain ⟨i,rfl,q⟩:=h;obtain ⟨u,rfl,t,rfl⟩:=vals1 r;exact call_abs_int λu tk=>⟨.int (if i < 0 then -i else i),H,I.tok _,⟨_,rfl⟩,q⟩
theorem n9 (hc:X.calm=true):oC X (.builtin "min") (λxs H Q=>∃i j,xs=[.int i,.int j]/\Q (.int (if j < i then j else i)) H):=by
 intro pins s σ H xs us Q I r h;obtain ⟨i,j,rfl,q⟩:=h;obtain ⟨u,w',rfl,⟨t,rfl⟩,⟨t',rfl⟩⟩:=vals2 r;refine min_two_ints (I.ok.hd hc) λh' tk k=>⟨_,H,I.kept k,?_,q⟩
 by_cases hj:j < i
 ·rw[if_pos hj,if_pos hj];exact ⟨_,rfl⟩
 ·rw[if_neg hj,if_neg hj];exact ⟨_,rfl⟩
end
structure xC (h:Heap) (x dx C:Addr) (mA:Str->Option Value):Prop where
 obj:h.get? x=some (PySem.W.instObj C dx)
 ns:h.Ns1 dx mA
 ne:dx≠x
theorem yV {h:Heap} {dx:Addr} {mA:Str->Option Value} (n:h.Ns1 dx mA):∃od,h.get? dx=some od/\∀name,PySem.W.lookIn name od=some (mA name):=by
 obtain ⟨o,es,ep,ho,hd,hk,_,hm⟩:=n;refine ⟨o,ho,λname=>?_⟩;have e:=hm name;unfold nsFind findBy at e;rw[<- Array.find?_toList] at e;unfold PySem.W.lookIn;rw[hd]
 dsimp only
 split
 ·rename_i y q
  rw[q] at e;exact congrArg some e
 ·rename_i q
  rw[q] at e
  have a:es.toList.any (·.refKey)=false:=by
   rw[List.any_eq_false];intro y hy;obtain ⟨z,t,hkey⟩:=hk y (Array.mem_toList_iff.mp hy);simp [DictEntry.refKey,hkey]
  have a':¬es.toList.any (·.refKey)=true:=by rw[a];exact aU
  rw[if_neg a'];exact congrArg some e
theorem xC.look {h:Heap} {x dx C:Addr} {mA:Str->Option Value} (I:xC h x dx C mA):∃od,PySem.W.InstAt h x (PySem.W.instObj C dx) C (some od)/\∀name,PySem.W.lookIn name od=some (mA name) :=
 let ⟨od,ho,hl⟩:=yV I.ns
 ⟨od,⟨I.obj,rfl,rfl,ho⟩,hl⟩
section
variable {prog:Program} {w:World} {A:Around} {E:Value->Shared->Prop} {s:Shared} {K:FG9} {x dx C f:Addr} {mA:Str->Option Value} {name:Str} {v:Value}
theorem get_map {expr:Bool} {Q:Value->Shared->Prop} (X:K.In s.heap) (I:xC s.heap x dx C mA) (hg:PySem.W.plainGet K C name=true) (hh:PySem.W.hasDictIn K C=true)
  (ha:PySem.W.findIn K (.ref C) name=some none) (hv:mA name=some v) (hv':PySem.W.handedIn v=true) (h:Q v { s with toks:=s.toks+1 }) :
  wpAny (model prog w) A (getAttr (.ref x) name expr) Q E s:=by
 obtain ⟨od,J,hl⟩:=I.look;exact PySem.W.get_value X J (vt hg).1 (PySem.W.findObj_own hh ha rfl (by rw[hl,hv])) hv' h
theorem Ag {pl:Sem Bool} {Q:Value×List Value->Shared->Prop} (X:K.In s.heap) (I:xC s.heap x dx C mA) (hg:PySem.W.plainGet K C name=true)
  (hf:PySem.W.findIn K (.ref C) name=some (some (.ref f))) (ht:PySem.W.isFn K (.ref f)=true) (hv:mA name=none) (h:Q (.ref f,[.ref x]) s) :
  wpAny (model prog w) A (getMethod (.ref x) name pl) Q E s:=by
 obtain ⟨od,J,hl⟩:=I.look;exact PySem.W.method_fn X J (vt hg).1 (vt hg).2 hf (beq_iff_eq.mp ht) (by show (PySem.W.lookIn name od).map (·.isSome)=some false;rw[hl,hv];rfl) h
theorem AW {ns:List Str} {Q:Unit->Shared->Prop} (X:K.In s.heap) (I:xC s.heap x dx C mA)
  (hs:PySem.W.findIn K (.ref C) "__setattr__"=some (some (.builtin "object.__setattr__"))) (hp:PySem.W.plainOver K C=true) (ht:PySem.W.takerIn K C name=some none) (hh:PySem.W.hasDictIn K C=true)
  (hw:PySem.Within mA ns) (hsz:ns.length<=sizeLine)
  (h:∀h',xC h' x dx C (λy=>if y=name then some v else mA y)->Heap.SameBut dx s.heap h'->Q () { s with heap:=h',toks:=s.toks+2 }) :
  wpAny (model prog w) A (setAttr (.ref x) name v) Q E s:=by
 obtain ⟨od,J,hl⟩:=I.look;refine PySem.W.set_plain X J hs (PySem.W.osa_open (s:={ s with toks:=s.toks+1 }) (r:=none) X J hp ht λb=>?_);obtain ⟨cd,hc,hd'⟩:=PySem.W.any_some hh;have hx:s.heap.get? x=some ⟨.ref C,some dx,.plain,#[]⟩:=I.obj;refine wpAny_bind (wpAny_pure (wpAny_bind (wpAny_bind (wpAny_loadPart hx (wpAny_bind (PySem.W.Looks.here (s:={ s with toks:=s.toks+1 }) (PySem.W.looks_clsIn X hc) ?_))))));rw[hd'];refine wpAny_pure (a:=some dx) (wpAny_bind (wpAny_pure (wpAny_bind ?_)));refine wpAny_nsSet1 (s:={ s with toks:=s.toks+1 }) I.ns λh' hn2 hs2=>?_
 obtain ⟨oD,esD,epD,hoD,hdD,hcD⟩:=hn2.count (PySem.Within.cons name v hw);refine wpAny_bind (wpAny_lookBehind hoD (by rw[hdD];exact pastItsLine_dict (ar hcD (by rw[cD];lia))) ?_);exact wpAny_pure (h _ ⟨(hs2.2 _ (Ne.symm I.ne)).trans I.obj,hn2,I.ne⟩ hs2)
theorem z9 {R:Result->Shared->Prop} {vs:List Value} {kw:List (Str×Value)} (X:K.In s.heap) (hm:PySem.W.makesIn K C=true)
  (hi:PySem.W.findIn K (.ref C) "__init__"=some (some (.ref f))) (hf:PySem.W.typeIn K (.ref f)=some (.type "function"))
  (h:codeAny (model prog w) (A.under (.builtin "type.__call__" ⟨.ref C :: vs,kw⟩)) (.call (.ref f) ⟨.ref (s.heap.objs.size+1) :: vs,kw⟩) (PySem.W.InitBack (s.heap.objs.size+1) R)
   { s with heap:=(s.heap.push PySem.W.emptyDict).push (PySem.W.instObj C s.heap.objs.size) }) :
  codeAny (model prog w) A (.call (.ref C) ⟨vs,kw⟩) R s:=by
 obtain ⟨hh,g,d,t,os⟩:=s;exact PySem.W.make_core (PySem.W.makes_of X hm) (PySem.W.looks_findIn X hi) (λself=>PySem.W.bind_fn X self hf) (.inl rfl) h
end
def bK (f:Str) (v:V):List (Str×V)->List (Str×V)
 | []=>[(f,v)]
 | (g,x) :: r=>if g=f then (g,v) :: r else (g,x) :: bK f v r
theorem aQ (f g:Str) (v:V):∀fs:List (Str×V),(bK f v fs).lookup g=if g=f then some v else fs.lookup g
 | []=>by
  show List.lookup g [(f,v)]=_
  by_cases h:g=f
  ·have hb:(g == f)=true:=beq_iff_eq.mpr h;simp only[List.lookup,hb,if_pos h]
  ·have hb:(g == f)=false:=beq_eq_false_iff_ne.mpr h;simp only[List.lookup,hb,if_neg h]
 | (k,x) :: r=>by
  have ih:=aQ f g v r;rw[show bK f v ((k,x) :: r)=(if k=f then (k,v) :: r else (k,x) :: bK f v r) from rfl];by_cases hk:k=f
  ·rw[if_pos hk];by_cases h:g=k
   ·have hb:(g == k)=true:=beq_iff_eq.mpr h;simp only[List.lookup,hb,if_pos (h.trans hk)]
   ·have hb:(g == k)=false:=beq_eq_false_iff_ne.mpr h;simp only[List.lookup,hb,if_neg (λe:g=f=>h (e.trans hk.symm))]
  ·rw[if_neg hk];by_cases h:g=k
   ·have hb:(g == k)=true:=beq_iff_eq.mpr h;simp only[List.lookup,hb,if_neg (λe:g=f=>hk (h.symm.trans e))]
   ·have hb:(g == k)=false:=beq_eq_false_iff_ne.mpr h;simp only[List.lookup,hb];exact ih
theorem qk (f:Str) (v:V):∀fs:List (Str×V),f∈(bK f v fs).map (·.1)/\∀g,g∈fs.map (·.1)->g∈(bK f v fs).map (·.1)
 | []=>⟨by simp [bK],λg h=>by simp at h⟩
 | (k,x) :: r=>by
  obtain ⟨i1,i2⟩:=qk f v r;rw[show bK f v ((k,x) :: r)=(if k=f then (k,v) :: r else (k,x) :: bK f v r) from rfl];by_cases hk:k=f
  ·rw[if_pos hk];subst hk;exact ⟨by simp,λg h=>by simpa using h⟩
  ·rw[if_neg hk];refine ⟨?_,λg h=>?_⟩
   ·rw[jz];exact bq _ i1
   ·rw[jz] at h ⊢;rcases aN.mp h with e | e
    ·exact aN.mpr (.inl e)
    ·exact bq _ (i2 g e)
theorem qK (f:Str) (v:V):∀fs:List (Str×V),(bK f v fs).length<=fs.length+1
 | []=>by simp [bK]
 | (k,x) :: r=>by
  have ih:=qK f v r;rw[show bK f v ((k,x) :: r)=(if k=f then (k,v) :: r else (k,x) :: bK f v r) from rfl];by_cases hk:k=f
  ·rw[if_pos hk,cD,cD];lia
  ·rw[if_neg hk,cD,cD];lia
theorem tw.some_of {v:V} {o:Option Value} (r:tw (some v) o):∃u,o=some u/\RelV v u:=by
 cases o with
 | none=>exact (show False from r).elim
 | some u=>exact ⟨u,rfl,r⟩
theorem tw.none_of {o:Option Value} (r:tw none o):o=none:=by
 cases o with
 | none=>rfl
 | some u=>exact (show False from r).elim
theorem za {v:V} {u:Value} (r:RelV v u):PySem.W.handedIn u=true:=by
 cases v with
 | non=>cases (show u=Value.none from r);rfl
 | bl b=>cases (show u=Value.bool b from r);rfl
 | int i=>obtain ⟨t,e⟩:=(show ∃t,u=Value.int i t from r);cases e;rfl
 | str x=>obtain ⟨t,e⟩:=(show ∃t,u=Value.str x t from r);cases e;rfl
 | byt b=>obtain ⟨t,e⟩:=(show ∃t,u=Value.bytes b t from r);cases e;rfl
 | flt b=>obtain ⟨t,e⟩:=(show ∃t,u=Value.float b t from r);cases e;rfl
 | ref a=>cases (show u=Value.ref a from r);rfl
 | ty n=>cases (show u=Value.type n from r);rfl
section
variable {P:Program} {w:World} {H H':Hp} {h h':Heap} {a C dx:Addr} {fs fs':List (Str×V)}
theorem rn (hok:rz P w H h) (e:H a=some (.ins C dx fs)):∃mA,xC h a dx C mA/\(∀f,tw (fs.lookup f) (mA f))/\PySem.Within mA (fs.map (·.1))/\fs.length<=1000/\H dx=some (.own a):=by
 obtain ⟨d,z,ne,ob,mA,n,r,q⟩:=(show gN P w H h a (.ins C dx fs) from hok a _ e);exact ⟨mA,⟨ob,n,ne⟩,r,q,z,d⟩
end
structure zl (K:FG9) (C:Addr):Prop where
 pg:PySem.W.plainGet K C Str.empty=true
 hd:PySem.W.hasDictIn K C=true
 po:PySem.W.plainOver K C=true
 sa:PySem.W.findIn K (.ref C) "__setattr__"=some (some (.builtin "object.__setattr__"))
theorem zl.get {K:FG9} {C:Addr} (c:zl K C) (f:Str):PySem.W.plainGet K C f=true:=c.pg
def ic (K:FG9) (C:Addr) (f:Str):Prop:=PySem.W.findIn K (.ref C) f=some none
theorem ic.taker {K:FG9} {C:Addr} {f:Str} (n:ic K C f):PySem.W.takerIn K C f=some none:=by
 unfold PySem.W.takerIn;rw[show PySem.W.findIn K (.ref C) f=some none from n];rfl
structure El (K:FG9) (C:Addr) (m:Str) (f:Addr):Prop where
 at_:PySem.W.findIn K (.ref C) m=some (some (.ref f))
 fn:PySem.W.isFn K (.ref f)=true
 kp:PySem.W.keepIn K (.ref f)=true
section
variable {X:Cx} {pins:List (Addr×Obj)} {σ:St} {H:Hp} {s:Shared} {a C dx:Addr} {fs:List (Str×V)} {f:Str} {v:V} {A:Around} {E:Value->Shared->Prop}
theorem xp {b:Bool} {Q:Value->Shared->Prop} (I:Inv X pins σ H s) (e:H a=some (.ins C dx fs)) (c:zl X.K C) (n:ic X.K C f) (l:fs.lookup f=some v)
  (h:∀u s',Inv X pins σ H s'->RelV v u->Q u s'):wpAny (model X.prog X.w) A (getAttr (.ref a) f b) Q E s:=by
 obtain ⟨mA,O,r,_,_,_⟩:=rn I.hok e;obtain ⟨u,hu,ru⟩:=tw.some_of (v:=v) (o:=mA f) (by rw[<- l];exact r f);exact get_map I.kIn O (c.get f) c.hd n hu (za ru) (h u _ (I.tok _) ru)
theorem xo {m:Str} {g:Addr} {pl:Sem Bool} {Q:Value×List Value->Shared->Prop} (I:Inv X pins σ H s) (e:H a=some (.ins C dx fs)) (c:zl X.K C) (k:El X.K C m g) (l:fs.lookup m=none)
  (h:Q (.ref g,[.ref a]) s):wpAny (model X.prog X.w) A (getMethod (.ref a) m pl) Q E s:=by
 obtain ⟨mA,O,r,_,_,_⟩:=rn I.hok e;have hn:mA m=none:=tw.none_of (by rw[<- l];exact r m);exact Ag I.kIn O (c.get m) k.at_ k.fn hn h
theorem wZ {y:V} {u:Value} {Q:Unit->Shared->Prop} (I:Inv X pins σ H s) (e:H a=some (.ins C dx fs)) (c:zl X.K C) (n:ic X.K C f) (hl:fs.length < 1000) (ry:RelV y u)
  (h:∀s',Inv X pins σ (upd H a (.ins C dx (bK f y fs))) s'->Q () s'):wpAny (model X.prog X.w) A (setAttr (.ref a) f u) Q E s:=by
 obtain ⟨mA,O,r,wi,_,ho⟩:=rn I.hok e;have hz:(fs.map (·.1)).length<=sizeLine:=by rw[aj,sizeLine_eq];lia
 refine AW I.kIn O c.sa c.po n.taker c.hd wi hz λh' O' sb=>h _ ?_
 have hd:∃o,h'.get? dx=some o:=let ⟨o,_,_,e',_⟩:=O'.ns;⟨o,e'⟩
 refine I.write (x:=a) (e:=dx) (by rw[e];exact True.intro) (.inr ho) (λb q hb z=>(sb.2 b hb).trans z) hd ?_;refine ⟨by rw[aS O.ne];exact ho,?_,O.ne,O'.obj,_,O'.ns,λg=>?_,λg hg=>?_⟩
 ·have:=qK f y fs;lia
 ·show tw ((bK f y fs).lookup g) (if g=f then some u else mA g)
  rw[aQ];by_cases q:g=f
  ·rw[if_pos q,if_pos q];exact ry
  ·rw[if_neg q,if_neg q];exact r g
 ·by_cases q:g=f
  ·rw[q];exact (qk f y fs).1
  ·refine (qk f y fs).2 g (wi g λz=>hg ?_);show (if g=f then some u else mA g)=none
   rw[if_neg q];exact z
theorem Inv.made (I:Inv X pins σ H s):Inv X pins σ (upd (upd H s.heap.objs.size (.own (s.heap.objs.size+1))) (s.heap.objs.size+1) (.ins C s.heap.objs.size []))
  { s with heap:=(s.heap.push PySem.W.emptyDict).push (PySem.W.instObj C s.heap.objs.size) }:=by
 have e1:(s.heap.push PySem.W.emptyDict).get? s.heap.objs.size=some PySem.W.emptyDict:=Heap.get?_push_size s.heap rfl
 have e2:((s.heap.push PySem.W.emptyDict).push (PySem.W.instObj C s.heap.objs.size)).get? (s.heap.objs.size+1)=some (PySem.W.instObj C s.heap.objs.size):=by
  have:=Heap.get?_push_size (s.heap.push PySem.W.emptyDict) (o:=PySem.W.instObj C s.heap.objs.size) rfl;rwa [Heap.size_push] at this
 have e3:(s.heap.push PySem.W.emptyDict).Ns s.heap.objs.size (λ_=>none):=⟨PySem.W.emptyDict,#[],_,e1,rfl,(λe he=>absurd he (by simp)),λ_=>rfl⟩;have I1:=I.laid (a:=s.heap.objs.size) (o:=.own (s.heap.objs.size+1)) (h':=s.heap.push PySem.W.emptyDict) (t':=s.toks) (λb u q=>Heap.get?_push_of_some _ q) (ay _) ⟨_,e1⟩;refine I1.laid (a:=s.heap.objs.size+1) (o:=.ins C s.heap.objs.size []) (t':=s.toks) (λb u q=>Heap.get?_push_of_some _ q) (Nat.le_of_eq (Heap.size_push _ _)) ?_;have ne:s.heap.objs.size≠s.heap.objs.size+1:=bA (iZ _);refine ⟨by rw[aS ne,aE],bP _,ne,e2,λ_=>none,(Heap.Ns1.of_empty e3).at λo q=>Heap.get?_push_of_some _ q,λ_=>True.intro,λy hy=>absurd rfl hy⟩
theorem B9 {prog:Program} {w:World} {env:Env} {e:Expr} {f:Str} {pos:Pos} {s:Shared} {Q:Value->Shared->Prop} (hb:attributeBase e f env (eval e env)=eval e env)
  (h:wpAny (model prog w) A (eval e env) (λo s₁=>wpAny (model prog w) A (getAttr o f true) Q E s₁) E s):wpAny (model prog w) A (eval (.Attribute e f pos) env) Q E s :=
 Attribute_any_ h (by rw[arm_eval_Attribute,hb])
end
def EL (K:FG9) (ta:TE) (f:Str):TE:=λσ H Q=>ta σ H λx H1=>∃a C dx fs v,x=.ref a/\H1 a=some (.ins C dx fs)/\zl K C/\ic K C f/\fs.lookup f=some v/\Q v H1
def ER (K:FG9) (ta tv:TE) (f:Str):TS:=λD σ H=>tv σ H λy H1=>ta σ H1 λx H2=>∃a C dx fs,x=.ref a/\H2 a=some (.ins C dx fs)/\zl K C/\ic K C f/\fs.length < 1000 /\
 D.nx σ (upd H2 a (.ins C dx (bK f y fs)))
section
variable {X:Cx} {o e value:Expr} {f:Str} {pos pos' tpos:Pos} {ta tv:TE}
theorem js (he:PE X e ta) (hb:attributeBase e f X.env (eval e X.env)=eval e X.env):PE X (.Attribute e f pos) (EL X.K ta f):=by
 intro pins s σ H Q I h;refine B9 hb (d7 (he pins s σ H _ I h) λu s1 ⟨x,H1,I1,rx,a,C,dx,fs,v,ex,ea,c,n,l,q⟩=>?_);subst ex;obtain rfl:u=Value.ref a:=rx;exact xp I1 ea c n l λu' s2 I2 ru=>⟨v,H1,I2,ru,q⟩
theorem qe (ha:PE X o ta) (hv:PE X value tv) (hs:swapsWith value (some (.Attribute o f pos')) pos.line X.env=pure false):PS X (.Assign [.Attribute o f pos'] value pos) (ER X.K ta tv f):=by
 intro pins s σ H D I h;refine plainObj_wpAny_Assign_Attribute (d7 (hv pins s σ H _ I h) λu s1 ⟨y,H1,I1,ry,q⟩=>d7 (ha pins s1 σ H1 _ I1 q) λov s2 ⟨x,H2,I2,rx,a,C,dx,fs,ex,ea,c,n,l,q2⟩=>?_) hs;subst ex;obtain rfl:ov=Value.ref a:=rx;exact wZ I2 ea c n l ry λs3 I3=>⟨σ,_,I3,q2⟩
end
section
variable {X:Cx} {pins:List (Addr×Obj)} {σ:St} {H:Hp} {s:Shared} {A:Around} {E:Value->Shared->Prop} {Q:Value->Shared->Prop} {c:Value} {b:Bool}
inductive qA (K:FG9) (H:Hp):V->Value->Prop where
 | non:qA K H .non (.type "NoneType")
 | bl (x:Bool):qA K H (.bl x) (.type "bool")
 | int (i:Int):qA K H (.int i) (.type "int")
 | str (x:Str):qA K H (.str x) (.type "str")
 | flt (x:UInt64):qA K H (.flt x) (.type "float")
 | lst {a:Addr} {xs:List V} (e:H a=some (.lst xs)):qA K H (.ref a) (.type "list")
 | frz {a:Addr} {o:Obj} {xs:List V} (e:H a=some (.frz o (.lst xs))):qA K H (.ref a) (.type "list")
 | tup {a:Addr} {xs:List V} (e:H a=some (.tup xs)):qA K H (.ref a) (.type "tuple")
 | dK {a:Addr} {kvs:List (Key×V)} (e:H a=some (.dK kvs)):qA K H (.ref a) (.type "dict")
 | dT {a:Addr} {kvs:List (List Key×V)} (e:H a=some (.dT kvs)):qA K H (.ref a) (.type "dict")
 | ins {a C dx:Addr} {fs:List (Str×V)} (e:H a=some (.ins C dx fs)) (cl:zl K C) (ha:PySem.W.findIn K (.ref C) "__class__"=some (some (.builtin "object.__class__")))
   (hn:PySem.W.specialIn K (.builtin "object.__class__") "__get__"=some (some (.builtin "getset_descriptor.__get__"))) (htk:PySem.W.takesIn K (.builtin "object.__class__")=some true)
   (hm:PySem.W.mroIn K C (.type "object")=some true):qA K H (.ref a) (.ref C)
theorem t5 {x:V} {u t:Value} (I:Inv X pins σ H s) (rx:RelV x u) (ty:qA X.K H x t) (e:PySem.W.kitOne X.K t c=some b) (h:∀tk,Q (.bool b) { s with toks:=tk }) :
  wpAny (model X.prog X.w) A (call (.builtin "isinstance") [u,c]) Q E s:=by
 cases ty with
 | non=>cases (show u=Value.none from rx);exact cB PySem.W.kitx_none I.kIn True.intro e (λz=>nomatch z) h
 | bl y=>cases (show u=Value.bool y from rx);exact cB PySem.W.kitx_bool I.kIn True.intro e (λz=>nomatch z) h
 | int i=>obtain ⟨t,q⟩:=(show ∃t,u=Value.int i t from rx);cases q;exact cB PySem.W.kitx_int I.kIn True.intro e (λz=>nomatch z) h
 | str y=>obtain ⟨t,q⟩:=(show ∃t,u=Value.str y t from rx);cases q;exact cB PySem.W.kitx_str I.kIn True.intro e (λz=>nomatch z) h
 | flt y=>obtain ⟨t,q⟩:=(show ∃t,u=Value.float y t from rx);cases q;exact cB PySem.W.kitx_float I.kIn True.intro e (λz=>nomatch z) h
 | @lst a xs ea =>
  cases (show u=Value.ref a from rx);obtain ⟨_,_,n,_,h1⟩:=(show gN X.prog X.w H s.heap a (.lst xs) from I.hok a _ ea);exact cB PySem.W.kitx_list I.kIn ⟨_,h1,rfl⟩ e (λz=>nomatch z) h
 | @frz a ob xs ea =>
  cases (show u=Value.ref a from rx);obtain ⟨_,_,_,n,_,h1⟩:=(show gN X.prog X.w H s.heap a (.frz ob (.lst xs)) from I.hok a _ ea);exact cB PySem.W.kitx_list I.kIn ⟨_,h1,rfl⟩ e (λz=>nomatch z) h
 | @tup a xs ea =>
  cases (show u=Value.ref a from rx);obtain ⟨_,_,_,p⟩:=(show gN X.prog X.w H s.heap a (.tup xs) from I.hok a _ ea);obtain ⟨o,h1,h2,_⟩:=p;exact cB PySem.W.kitx_tuple I.kIn ⟨o,h1,h2⟩ e (λz=>nomatch z) h
 | @dK a kvs ea =>
  cases (show u=Value.ref a from rx);obtain ⟨_,_,vs,_,p⟩:=(show gN X.prog X.w H s.heap a (.dK kvs) from I.hok a _ ea);obtain ⟨o,es,ep,h1,h2,_⟩:=p;exact cB PySem.W.kitx_dict I.kIn ⟨o,h1,h2.1⟩ e (λz=>nomatch z) h
 | @dT a kvs ea =>
  cases (show u=Value.ref a from rx);obtain ⟨_,_,xs,_,o,es,ep,h1,h2,_⟩:=(show gN X.prog X.w H s.heap a (.dT kvs) from I.hok a _ ea);exact cB PySem.W.kitx_dict I.kIn ⟨o,h1,h2.1⟩ e (λz=>nomatch z) h
 | @ins a C dx fs ea cl ha hn htk hm =>
  cases (show u=Value.ref a from rx);obtain ⟨mA,O,_⟩:=rn I.hok ea;obtain ⟨od,J,_⟩:=O.look;exact cB (PySem.W.kitx_own (cl.get _) cl.hd ha hn htk hm) I.kIn J e (λz=>nomatch z) h
end
structure ju (k:Nat) (A:Around):Prop where
 hd:A.handled=none
 dp:A.depth+3*k+5 < recursionLimit
 un:A.units+16*k+200 < cLine
theorem ju.mono {j k:Nat} {A:Around} (r:ju k A) (h:j<=k):ju j A:=⟨r.hd,by have:=r.dp;lia,by have:=r.un;lia⟩
theorem ju.deeper {k:Nat} {A:Around} (r:ju (k+1) A) (env:Env):ju k (A.deeper env) :=
 ⟨r.hd,by have:=r.dp;show A.depth+1+3*k+5 < _;lia,by have:=r.un;show A.units+3+16*k+200 < _;lia⟩
theorem xj {A:Around} {C:Addr} {us:List Value} {kw:List (Str×Value)}:(A.under (.builtin "type.__call__" ⟨.ref C :: us,kw⟩)).depth=A.depth+1:=by
 first | rfl | simp [Around.under,Code.weight,Code.isCreation,Code.isGuard,Code.isCaller,Code.frames,Code.isFrame,guardIds]
theorem xi {A:Around} {C:Addr} {us:List Value} {kw:List (Str×Value)}:(A.under (.builtin "type.__call__" ⟨.ref C :: us,kw⟩)).units=A.units+1:=by
 first | rfl | simp [Around.under,Code.cUnits,Code.frames,Code.isFrame]
theorem ju.make {k:Nat} {A:Around} (r:ju (k+1) A) (C:Addr) (us:List Value) (kw:List (Str×Value)):ju k (A.under (.builtin "type.__call__" ⟨.ref C :: us,kw⟩)) :=
 ⟨r.hd,by have:=r.dp;rw[xj];lia,by have:=r.un;rw[xi];lia⟩
theorem ju.depth {k:Nat} {A:Around} (r:ju k A):A.depth < recursionLimit:=by have:=r.dp;lia
theorem ju.units {k:Nat} {A:Around} (r:ju k A):A.units+64 < cLine:=by have:=r.un;lia
def wW:TA:=λ_ H Q=>Q [] H
def m6 (ta:TE) (tr:TA):TA:=λσ H Q=>ta σ H λx H1=>tr σ H1 λxs H2=>Q (x :: xs) H2
section
variable {X:Cx} {e:Expr} {es:List Expr} {te:TE} {t:TA} {pos:Pos}
theorem ai:PA X [] wW:=λ_ _ _ _ H Q I h=>Calls.spliced_nil ⟨[],H,I,.nil,h⟩
theorem aa (ha:PE X e te) (hr:PA X es t) (hs:starEach (e :: es) X.env=(false,eval e X.env) :: starEach es X.env:=by rfl):PA X (e :: es) (m6 te t):=by
 intro pos pins s σ H Q I h;rw[hs];show wpAny _ _ (spliced ((false,eval e X.env) :: backTo pos (starEach es X.env))) _ _ s
 refine Calls.spliced_cons (d7 (ha pins s σ H _ I h) λu s1 ⟨x,H1,I1,r1,q1⟩=>?_);exact d7 (hr pos pins s1 σ H1 _ I1 q1) λus s2 ⟨xs,H2,I2,r2,q2⟩=>⟨x :: xs,H2,I2,.cons r1 r2,q2⟩
def EA (t:TA):TE:=λσ H Q=>t σ H λxs H1=>xs.length<=sizeLine/\∀p,H1 p=none->Q (.ref p) (upd H1 p (.tup xs))
def EI (t:TA):TE:=λσ H Q=>t σ H λxs H1=>xs.length<=sizeLine/\∀p,H1 p=none->Q (.ref p) (upd H1 p (.lst xs))
theorem cW {x1} (h:PA X es t):PE X (.Tuple es x1 pos) (EA t):=by
 intro pins s σ H Q I hq;refine wpAny_Tuple_spliced (d7 (h pos pins s σ H _ I hq) λus s1 ⟨xs,H1,I1,r,z,q⟩=>⟨by rw[<- r.length];exact z,?_⟩);have hf:H1 s1.heap.objs.size=none:=I1.hok.fresh (ay _);refine ⟨.ref s1.heap.objs.size,upd H1 s1.heap.objs.size (.tup xs),I1.laid (t':=s1.toks) (λb u e=>Heap.get?_push_of_some _ e) (ay _) ?_,rfl,q _ hf⟩;exact ⟨z,us,r,⟨_,Heap.get?_push_size _ rfl,rfl,_,rfl⟩⟩
theorem gY (h:PA X es t):PE X (.List es pos) (EI t):=by
 intro pins s σ H Q I hq;refine wpAny_List_spliced (d7 (h pos pins s σ H _ I hq) λus s1 ⟨xs,H1,I1,r,z,q⟩=>⟨by rw[<- r.length];exact z,?_⟩);have hf:H1 s1.heap.objs.size=none:=I1.hok.fresh (ay _);refine ⟨.ref s1.heap.objs.size,upd H1 s1.heap.objs.size (.lst xs),I1.laid (t':=s1.toks) (λb u e=>Heap.get?_push_of_some _ e) (ay _) ?_,rfl,q _ hf⟩;exact ⟨z,us,0,r,Heap.get?_push_size _ rfl⟩
end
abbrev Sp:=List V->Hp->VK->XK->Prop
abbrev AF:=List Env->Hp->Shared->XK->Value->Shared->Prop
structure xF (P:Program) (w:World) (K:FG9) (mg:Str->Option Value) (base:Heap) (A:Around) (outer:List Env) (s:Shared) (H:Hp):Prop where
 frames:A.frames=some outer
 mod:Mod K mg base
 bs:∀b o,base.get? b=some o->s.heap.get? b=some o/\H b=none
 bsz:base.objs.size<=s.heap.objs.size
 funs:s.heap.FunFrames base outer
 frf:∀b∈zi outer,H b=none
 hok:rz P w H s.heap
 bare:AllBare s.gens
def CE (outer:List Env) (P:Program) (w:World) (H:Hp) (s:Shared) (Q:VK) (u:Value) (s':Shared):Prop :=
 ∃v H',s'.os=s.os/\AllBare s'.gens/\Un (zi outer) [] H H' s.heap s'.heap/\rz P w H' s'.heap/\RelV v u/\Q v H'
def CR (CX:AF) (outer:List Env) (P:Program) (w:World) (H:Hp) (s:Shared) (Q:VK) (E:XK) (r:Result) (s':Shared):Prop :=
 match r with
 | .ok (.ret u)=>CE outer P w H s Q u s'
 | .ok _=>False
 | .error e=>CX outer H s E e s'
structure cZ (P:Program) (w:World) (K:FG9) (mg:Str->Option Value) (base:Heap) (CX:AF) (k:Nat) (f:Addr) (fd:FuncData) (ps:List Str) (sp:Sp):Prop where
 len:∀vs H Q E,sp vs H Q E->vs.length=ps.length
 run:∀(A:Around) (outer:List Env) (s:Shared) (H:Hp) (args:Args) (us:List Value) (vs:List V) (Q:VK) (E:XK),ju k A->xF P w K mg base A outer s H->BindsTo s fd args (ps.zip us)->b7 vs us->sp vs H Q E →
  codeAny (model P w) A (.call (.ref f) args) (CR CX outer P w H s Q E) s
theorem xF.make {P:Program} {w:World} {K:FG9} {mg:Str->Option Value} {base:Heap} {A:Around} {outer:List Env} {s:Shared} {H:Hp} (e:xF P w K mg base A outer s H) (C:Addr) (us:List Value) (kw:List (Str×Value)) :
  xF P w K mg base (A.under (.builtin "type.__call__" ⟨.ref C :: us,kw⟩)) outer s H:=⟨by first | exact e.frames | (simpa [Around.under,Code.envs,Code.isFrame,pushEnvs] using e.frames),e.mod,e.bs,e.bsz,e.funs,e.frf,e.hok,e.bare⟩
section
variable {X:Cx} {pins:List (Addr×Obj)} {σ:St} {H:Hp} {s s':Shared}
theorem Inv.env0 (I:Inv X pins σ H s):xF X.prog X.w X.K X.mg X.base X.A X.stack s H :=
 ⟨I.ok.frames,I.ok.mod,I.bs,ar I.ok.bsz I.sz,I.stack,I.stkFree,I.hok,I.bare⟩
theorem Inv.after {Q:VK} {u:Value} (I:Inv X pins σ H s) (h:CE X.stack X.prog X.w H s Q u s'):EP X pins σ Q u s':=by
 obtain ⟨v,H',os,bare,un,hok,r,q⟩:=h;obtain ⟨hh,g,d,t,os'⟩:=s';obtain rfl:os'=s.os:=os;exact ⟨v,H',I.call (h':=hh) (g':=g) (d':=d) (t':=t) (ch:=[]) un hok bare (λb z=>absurd z (by simp)),r,q⟩
end
def zz (sp:Sp) (dvs:List V) (E:XK) (t:TA):TE:=λσ H Q=>t σ H λvs H1=>sp (vs++dvs) H1 Q E
def Cj (C:Addr) (m:Str) (sp:Sp) (dvs:List V) (E:XK) (ta:TE) (t:TA):TE:=λσ H Q=>ta σ H λx H1=>∃a dx fs,x=.ref a/\H1 a=some (.ins C dx fs)/\fs.lookup m=none /\
 t σ H1 λvs H2=>sp (x :: (vs++dvs)) H2 Q E
def Ck (C:Addr) (sp:Sp) (dvs:List V) (E:XK) (t:TA):TE:=λσ H Q=>t σ H λvs H1=>∀x dx,H1 x=none->H1 dx=none->dx≠x →
 sp (.ref x :: (vs++dvs)) (upd (upd H1 dx (.own x)) x (.ins C dx [])) (λv H2=>v=.non/\Q (.ref x) H2) E
def Binds (K:FG9) (fd:FuncData) (ps:List Str) (ds:List Value):Prop :=
 ∀(s:Shared) (us:List Value),K.In s.heap->(us++ds).length=ps.length->BindsTo s fd ⟨us,[]⟩ (ps.zip (us++ds))
theorem Binds.all {K:FG9} {fd:FuncData} {ps:List Str} (h:∀us:List Value,us.length=ps.length->bindArgs fd ⟨us,[]⟩=pure (ps.zip us)):Binds K fd ps []:=λs us _ hl=>by
 rw[sW] at hl ⊢;exact .of_eq (h us hl)
def qB (CX:AF) (X:Cx) (E:XK):Prop:=∀(pins:List (Addr×Obj)) (σ:St) (H:Hp) (s:Shared) (e:Value) (s':Shared),Inv X pins σ H s->CX X.stack H s E e s'->X.xe e s'
section
variable {X:Cx} {CX:AF} {k:Nat} {f C:Addr} {fd:FuncData} {ps:List Str} {sp:Sp} {dvs:List V} {ds:List Value} {E:XK} {x m:Str} {p pos apos:Pos} {e o:Expr} {es:List Expr} {ta:TE} {t:TA}
theorem zN {pins:List (Addr×Obj)} {σ:St} {H:Hp} {s:Shared} {Q:VK} {us:List Value} {vs:List V} (F:cZ X.prog X.w X.K X.mg X.base CX k f fd ps sp) (hr:ju k X.A) (hb:Binds X.K fd ps ds) (hd:b7 dvs ds) (hx:qB CX X E)
  (I:Inv X pins σ H s) (r:b7 vs us) (h:sp (vs++dvs) H Q E):wpAny (model X.prog X.w) X.A (call (.ref f) us) (EP X pins σ Q) X.xe s:=by
 have r2:b7 (vs++dvs) (us++ds):=r.append hd;have hl:(us++ds).length=ps.length:=by rw[<- r2.length];exact F.len _ _ _ _ h
 refine wpAny_call (codeAny_mono (F.run X.A X.stack s H ⟨us,[]⟩ (us++ds) (vs++dvs) Q E hr I.env0 (hb s us I.kIn hl) r2 h) λr s' hq=>?_);cases r with
 | error e=>exact hx pins σ H s e s' I hq
 | ok fl =>
  cases fl with
  | ret u=>exact I.after hq
  | next=>exact False.elim hq
  | brk=>exact False.elim hq
  | cont=>exact False.elim hq
theorem BA (F:cZ X.prog X.w X.K X.mg X.base CX k f fd ps sp) (hr:ju k X.A) (hg:Gl X x) (hm:X.mg x=some (.ref f)) (hk:PySem.W.keepIn X.K (.ref f)=true) (hb:Binds X.K fd ps ds) (hd:b7 dvs ds) (hx:qB CX X E)
  (ha:PA X (e :: es) t) (hdb:(x == ("__debug__":Str))=false:=by decide) (he:starEach (e :: es) X.env=(false,eval e X.env) :: starEach es X.env:=by rfl) (hpl:(backTo pos (starEach es X.env)).any (·.1)=false:=by rfl) :
  PE X (.Call (.Name x p) (e :: es) [] pos) (zz sp dvs E t):=by
 intro pins s σ H Q I h;refine wpAny_Call_Name_kw (uZ I hg hm ?_ hdb);refine PySem.W.callWith_K (h₀:=X.base) I.ok.mod.kin hk (d7 (ha pos pins s σ H _ I h) λus s1 ⟨vs,H1,I1,r,q⟩=>⟨I1.kIn,?_⟩) he hpl;exact zN F hr hb hd hx I1 r q
theorem z0 {pl : Sem Bool} (he : PE X o ta) (c : zl X.K C) (hm : El X.K C m f) (F : cZ X.prog X.w X.K X.mg X.base CX k f fd ps sp) (hr : ju k X.A) (hb : Binds X.K fd ps ds) (hd : b7 dvs ds) (hx : qB CX X E)
    (ht : eval (.Call (.Attribute o m apos) [] [] pos) X.env = (do
      let ov <- eval o X.env
      standAt apos.atName
      let (f, first) <- holding [ov] (getMethod ov m pl)
      callWith pos f first (backTo pos (starEach [] X.env)) (backToKw pos (keywordEach [] X.env))) := by rfl) :
    PE X (.Call (.Attribute o m apos) [] [] pos) (Cj C m sp dvs E ta wW) := by
  intro pins s σ H Q I h;refine PySem.W.methodCall_KW (pl := pl) (d7 (he pins s σ H _ I h) λu s1 ⟨x, H1, I1, rx, a, dx, fs, ex, ea, l, q⟩ => ?_) ht;subst ex;obtain rfl : u = Value.ref a := rx;refine xo I1 ea c hm l ?_;exact PySem.W.callWith_K0 (first := [.ref a]) I1.kIn hm.kp (zN (us := [.ref a]) (vs := [.ref a]) F hr hb hd hx I1 (.cons rfl .nil) q)

structure Mk (K:FG9) (C f:Addr):Prop where
 makes:PySem.W.makesIn K C=true
 init:PySem.W.findIn K (.ref C) "__init__"=some (some (.ref f))
 fn:PySem.W.isFn K (.ref f)=true
 kp:PySem.W.keepIn K (.ref C)=true
theorem zM {pins:List (Addr×Obj)} {σ:St} {H:Hp} {s:Shared} {Q:VK} {us:List Value} {vs:List V} (M:Mk X.K C f) (F:cZ X.prog X.w X.K X.mg X.base CX k f fd ps sp) (hr:ju (k+1) X.A) (hb:Binds X.K fd ps ds) (hd:b7 dvs ds)
  (hx:qB CX X E) (I:Inv X pins σ H s) (r:b7 vs us)
  (h:∀x dx,H x=none->H dx=none->dx≠x->sp (.ref x :: (vs++dvs)) (upd (upd H dx (.own x)) x (.ins C dx [])) (λv H2=>v=.non/\Q (.ref x) H2) E) :
  wpAny (model X.prog X.w) X.A (call (.ref C) us) (EP X pins σ Q) X.xe s:=by
 have hq:=h (s.heap.objs.size+1) s.heap.objs.size (I.hok.fresh (pZ _)) (I.hok.fresh (ay _)) (bA (iZ _));have I2:=Inv.made (C:=C) I;have r2:b7 (V.ref (s.heap.objs.size+1) :: (vs++dvs)) (Value.ref (s.heap.objs.size+1) :: (us++ds)):=.cons rfl (r.append hd)
 have hl:(Value.ref (s.heap.objs.size+1) :: us++ds).length=ps.length:=by
  have e:=r2.length;rw[F.len _ _ _ _ hq] at e;exact e.symm
 refine wpAny_call (z9 (f:=f) I.kIn M.makes M.init (beq_iff_eq.mp M.fn) (codeAny_mono (F.run _ X.stack _ _ ⟨Value.ref (s.heap.objs.size+1) :: us,[]⟩ (Value.ref (s.heap.objs.size+1) :: (us++ds)) _ _ E (hr.make C us [])
  (I2.env0.make C us []) (hb _ (Value.ref (s.heap.objs.size+1) :: us) I2.kIn hl) r2 hq) λr s' hq'=>?_))
 cases r with
 | error e=>exact hx pins σ _ _ e s' I2 hq'
 | ok fl =>
  cases fl with
  | ret u =>
   obtain ⟨v,H',I3,rv,ev,q3⟩:=I2.after hq';subst ev;exact ⟨rv,⟨V.ref (s.heap.objs.size+1),H',I3,rfl,q3⟩⟩
  | next=>exact False.elim hq'
  | brk=>exact False.elim hq'
  | cont=>exact False.elim hq'
theorem uM (M:Mk X.K C f) (F:cZ X.prog X.w X.K X.mg X.base CX k f fd ps sp) (hr:ju (k+1) X.A) (hg:Gl X x) (hm:X.mg x=some (.ref C)) (hb:Binds X.K fd ps ds) (hd:b7 dvs ds) (hx:qB CX X E)
  (ha:PA X (e :: es) t) (hdb:(x == ("__debug__":Str))=false:=by decide) (he:starEach (e :: es) X.env=(false,eval e X.env) :: starEach es X.env:=by rfl) (hpl:(backTo pos (starEach es X.env)).any (·.1)=false:=by rfl) :
  PE X (.Call (.Name x p) (e :: es) [] pos) (Ck C sp dvs E t):=by
 intro pins s σ H Q I h;refine wpAny_Call_Name_kw (uZ I hg hm ?_ hdb);refine PySem.W.callWith_K (h₀:=X.base) I.ok.mod.kin M.kp (d7 (ha pos pins s σ H _ I h) λus s1 ⟨vs,H1,I1,r,q⟩=>⟨I1.kIn,?_⟩) he hpl;exact zM M F hr hb hd hx I1 r q
end
structure bx (N P:List Str) (sc:Scope):Prop where
 kind:sc.kind=.function
 co:sc.isCoroutine=false
 gen:sc.isGenerator=false
 nd:N.Nodup
 pre:N.take P.length=P
 par:∀x∈P,sc.names.lookup x=some .local\/sc.names.lookup x=some .cell
 nofree:∀y∈sc.names,y.2≠.free
theorem uo {kindOf:Str->Option NameKind} {x:Str}:∀{binds:List (Str×Value)} {m:Str->Option Value},(∀v,(x,v)∉binds)->bindL kindOf binds m x=m x
 | [],_,_=>rfl
 | (n,v) :: r,m,h=>by
  unfold bindL;rw[uo λw hw=>h w (bq _ hw)]
  split
  ·have:x≠n:=by rintro rfl;exact h v cz
   simp [this]
  ·rfl
theorem ur {kindOf:Str->Option NameKind} {x:Str}:∀{binds:List (Str×Value)} {m:Str->Option Value},(∀v,(x,v)∉binds)->bindC kindOf binds m x=m x
 | [],_,_=>rfl
 | (n,v) :: r,m,h=>by
  unfold bindC;rw[ur λw hw=>h w (bq _ hw)]
  split
  ·rfl
  ·have:x≠n:=by rintro rfl;exact h v cz
   simp [this]
theorem uq {kindOf:Str->Option NameKind} {x:Str} {v:Value}:∀{P:List Str} {vs:List Value} {i:Nat} {m:Str->Option Value},P.Nodup->P[i]?=some x->vs[i]?=some v->kindOf x=some .local →
  bindL kindOf (P.zip vs) m x=some v
 | [],_,_,_,_,h,_,_=>by simp at h
 | _ :: _,[],_,_,_,_,h,_=>by simp at h
 | p :: P,w :: vs,0,m,nd,h1,h2,hk=>by
  simp at h1 h2;subst h1;subst h2;show bindL kindOf ((p,w) :: P.zip vs) m p=_
  unfold bindL;rw[uo λv hv=>(cC.mp nd).1 (AH hv).1,if_pos hk];simp
 | p :: P,w :: vs,i+1,m,nd,h1,h2,hk=>by
  show bindL kindOf ((p,w) :: P.zip vs) m x=_
  unfold bindL;exact uq (i:=i) (cC.mp nd).2 (by simpa using h1) (by simpa using h2) hk
theorem uu {kindOf:Str->Option NameKind} {x:Str} {v:Value}:∀{P:List Str} {vs:List Value} {i:Nat} {m:Str->Option Value},P.Nodup->P[i]?=some x->vs[i]?=some v->kindOf x≠some .local →
  bindC kindOf (P.zip vs) m x=some v
 | [],_,_,_,_,h,_,_=>by simp at h
 | _ :: _,[],_,_,_,_,h,_=>by simp at h
 | p :: P,w :: vs,0,m,nd,h1,h2,hk=>by
  simp at h1 h2;subst h1;subst h2;show bindC kindOf ((p,w) :: P.zip vs) m p=_
  unfold bindC;rw[ur λv hv=>(cC.mp nd).1 (AH hv).1,if_neg hk];simp
 | p :: P,w :: vs,i+1,m,nd,h1,h2,hk=>by
  show bindC kindOf ((p,w) :: P.zip vs) m x=_
  unfold bindC;exact uu (i:=i) (cC.mp nd).2 (by simpa using h1) (by simpa using h2) hk
def start (N:List Str) (vs:List V):St:=vs.map some++List.replicate (N.length - vs.length) none
def ze (CX:AF) (P:Program) (w:World) (K:FG9) (mg:Str->Option Value) (base:Heap) (N:List Str) (qual:Str) (scope:Scope) (f:Addr) (cd:Value) (A:Around) (outer:List Env) (s:Shared) (H:Hp) (E:XK):Cx where
 prog:=P
 w:=w
 K:=K
 mg:=mg
 base:=base
 A:=A.deeper (envOfC qual scope s.heap.objs.size f cd)
 N:=N
 s₀:=s
 H₀:=H
 env:=envOfC qual scope s.heap.objs.size f cd
 outer:=outer
 stack:=envOfC qual scope s.heap.objs.size f cd :: outer
 ex:=[]
 calm:=true
 fn:=λ_=>true
 pn:=[]
 xe:=λe s'=>wpAny (model P w) (A.deeper (envOfC qual scope s.heap.objs.size f cd)) (leaving (envOfC qual scope s.heap.objs.size f cd) e) (λ_ s''=>CX outer H s E e s'') (λe' s''=>CX outer H s E e' s'') s'
theorem wu {sc:Scope} {n:Nat} {x:Str} (h:sc.names.lookup x=some .cell):∃c,(cellsFrom n sc.names []).lookup x=some c:=by
 have q:=rB sc.names n [] (.inl h);exact Ex.mp q
theorem yZ {CX:AF} {P:Program} {w:World} {K:FG9} {mg:Str->Option Value} {base:Heap} {N ps:List Str} {qual:Str} {scope:Scope} {f:Addr} {cd:Value} {A:Around} {outer:List Env} {s s1:Shared} {H:Hp} {E:XK} {us:List Value} {vs:List V}
  (S:bx N ps scope) (hd:A.handled=none) (e0:xF P w K mg base A outer s H) (hl:vs.length=ps.length) (r:b7 vs us)
  (x:InCallC s s.heap.objs.size (bindL (envOfC qual scope s.heap.objs.size f cd).kindOf (ps.zip us) λ_=>none) (cellsFrom (s.heap.objs.size+1) scope.names []) (bindC (envOfC qual scope s.heap.objs.size f cd).kindOf (ps.zip us) λ_=>none) s1) :
  Inv (ze CX P w K mg base N qual scope f cd A outer s H E) [] (start N vs) H s1:=by
 have hpl:ps.length<=N.length:=by have:=congrArg List.length S.pre;rw[zm] at this;lia
 obtain ⟨h1,tk,rfl,hk⟩:=x.done;have noA:∀b:Addr,b∉(ze CX P w K mg base N qual scope f cd A outer s H E).ex:=λb z=>absurd (show b∈([]:List Addr) from z) (by simp)
 refine ⟨⟨e0.mod,S.kind,rfl,rfl,ay _,λy z c h1 h2=>?_,λy hy=>?_,λy c _ h=>?_,λ_=>hd,Around.frames_deeper e0.frames,.inr ⟨rfl,rfl⟩,λb z=>absurd z (noA b),e0.bs,e0.bsz,λb _ _=>noA b,λb z=>absurd z (noA b),e0.funs,e0.frf⟩,
  rfl,e0.bare,Un.kept hk,⟨_,x.toInCall.ns,λi y v h1 h2 h3=>?_⟩,λy c h=>⟨_,x.cell y c h⟩,e0.hok.fresh (ay _),λy c h=>?_,λp hp=>absurd (show p∈([]:List (Addr×Obj)) from hp) (by simp),e0.hok.kept hk,?_⟩
 ·exact name_of_addr x.apart (jk h1) (jk h2)
 ·have hy:scope.names.lookup y=some .cell\/scope.names.lookup y=some .free:=hy;rcases hy with hy | hy
  ·exact wu hy
  ·exact absurd rfl (S.nofree _ (jk hy))
 ·exact bI (x.above y c (jk h))
 ·have hi:i < vs.length:=by
   unfold start at h2;by_cases hi:i < vs.length
   ·exact hi
   ·rw[oG (by simpa using hi)] at h2;rw[dD] at h2
    split at h2 <;> cases h2
  have ha:vs[i]?=some v:=by
   unfold start at h2;rw[Er (by simpa using hi),aD] at h2;cases e:vs[i]? with
   | none=>rw[e] at h2;cases h2
   | some a=>rw[e] at h2;cases h2;rfl
  obtain ⟨u,hu,rv⟩:=r.get ha
  have hp:ps[i]?=some y:=by
   rw[<- S.pre,List.getElem?_take_of_lt (by lia)];exact h1
  have ndP:ps.Nodup:=by rw[<- S.pre];exact S.nd.sublist (List.take_sublist _ _)
  refine ⟨u,rv,?_⟩;rcases S.par y (av hp) with k | k
  ·exact .inl ⟨k,uq ndP hp hu k⟩
  ·obtain ⟨c,e⟩:=wu (n:=s.heap.objs.size+1) k;refine .inr ⟨.inl k,c,e,?_⟩;have q:=x.cell y c e;rw[uu ndP hp hu (by show scope.names.lookup y≠_;rw[k];decide)] at q;exact q
 ·exact e0.hok.fresh (bI (x.above y c (jk h)))
 ·unfold start;show _=N.length
  rw[bS,aj,gT]
  lia
theorem Fl {CX:AF} {P:Program} {w:World} {K:FG9} {mg:Str->Option Value} {base:Heap} {k:Nat} {f:Addr} {name qual:Str} {params:Arguments} {body:List Stmt} {scope:Scope} {dV kV doc pm cdv ct oc:Value} {an od:Option Addr}
  {osl:Array (Option Value)} {N ps:List Str} {sp:Sp} (lk:K.lookup f=some ⟨oc,od,.func (PySem.W.fnOf name qual params body scope dV kV doc pm an cdv ct),osl⟩) (hcd:PySem.W.codeIn K cdv qual=true) (S:bx N ps scope)
  (len:∀vs H Q E,sp vs H Q E->vs.length=ps.length)
  (hbody:∀(A:Around) (outer:List Env) (s:Shared) (H:Hp) (vs:List V) (Q:VK) (E:XK),ju k (A.deeper (envOfC qual scope s.heap.objs.size f cdv))->sp vs H Q E →
   ∃t,xB (ze CX P w K mg base N qual scope f cdv A outer s H E) body t/\t { nx:=λ_ H'=>Q .non H',rt:=Q } (start N vs) H) :
  cZ P w K mg base CX (k+1) f (PySem.W.fnOf name qual params body scope dV kV doc pm an cdv ct) ps sp:=by
 refine ⟨len,λA outer s H args us vs Q E hr e0 hb r hsp=>?_⟩;have hl:=len _ _ _ _ hsp;have KX:K.In s.heap:=e0.mod.kin.keeps λb o e=>(e0.bs b o e).1
 have lim:s.heap.NoLimit:=e0.mod.nolimit.keeps λb o e=>(e0.bs b o e).1
 have hkind:∀y∈ps.zip us,scope.names.lookup y.1=some .local\/(scope.names.lookup y.1=some .cell/\((cellsFrom (s.heap.objs.size+1) scope.names []).lookup y.1).isSome=true):=λ⟨n,v⟩ hy=>by
  rcases S.par n (AH hy).1 with q | q
  ·exact .inl q
  ·exact .inr ⟨q,rB _ _ _ (.inl q)⟩
 refine codeAny_call_function hr.depth (KX _ _ lk) rfl S.co S.gen rfl (PySem.W.codeRec_of KX hcd) (hb _ _ _ _ ?_);refine wpAny_newFunctionEnv_cells S.kind hkind λenv he s1 x=>?_
 subst he;refine ⟨lim.keeps x.toInCall.keep,codeAny_func ?_⟩;obtain ⟨t,ht,hq⟩:=hbody A outer s H vs Q E (hr.deeper _) hsp;have I:Inv (ze CX P w K mg base N qual scope f cdv A outer s H E) [] (start N vs) H s1:=yZ S hr.hd e0 hl r x;refine wpAny_mono (ht [] s1 (start N vs) H _ I hq) (λfl s' hs=>?_) λe s' hs=>hs
 have fin:∀{σ':St} {H':Hp} {v:V} {u:Value},Inv (ze CX P w K mg base N qual scope f cdv A outer s H E) [] σ' H' s'->RelV v u->Q v H'->CE outer P w H s Q u s' :=
  λ{σ' H' v u} J rv q=>⟨v,H',J.os,J.bare,J.base,J.hok,rv,q⟩
 cases fl with
 | ret u =>
  obtain ⟨v,σ',H',J,rv,q⟩:=hs;exact fin J rv q
 | next =>
  obtain ⟨σ',H',J,q⟩:=hs;exact fin (v:=V.non) (u:=Value.none) J rfl q
 | brk =>
  obtain ⟨_,_,_,q⟩:=hs;exact False.elim q
 | cont =>
  obtain ⟨_,_,_,q⟩:=hs;exact False.elim q
section
variable {X:Cx} {x:Str} {p pos:Pos} {e:Expr} {es:List Expr} {t:TA} {id T:String} {r:List V->Hp->VK->Prop}
def Gd (r:List V->Hp->VK->Prop) (t:TA):TE:=λσ H Q=>t σ H λvs H1=>r vs H1 Q
theorem bW (hc:oC X (.builtin id) r) (hg:Gl X x) (hm:X.mg x=none) (hv:bootBuiltins x=some (.builtin id)) (ha:PA X (e :: es) t) (hn:x≠"__name__":=by decide) (hdb:(x == ("__debug__":Str))=false:=by decide)
  (he:starEach (e :: es) X.env=(false,eval e X.env) :: starEach es X.env:=by rfl) (hpl:(backTo pos (starEach es X.env)).any (·.1)=false:=by rfl):PE X (.Call (.Name x p) (e :: es) [] pos) (Gd r t):=by
 intro pins s σ H Q I h;refine wpAny_Call_Name_kw (j8 I hg hm hv ?_ hn hdb);exact PyProof.Rows.callWith_builtin1 (d7 (ha pos pins s σ H _ I h) λus s1 ⟨vs,H1,I1,r1,q1⟩=>hc pins s1 σ H1 vs us Q I1 r1 q1) he hpl
theorem iF (hc:oC X (.type T) r) (hg:Gl X x) (hm:X.mg x=none) (hv:bootBuiltins x=some (.type T)) (ha:PA X (e :: es) t) (hn:x≠"__name__":=by decide) (hdb:(x == ("__debug__":Str))=false:=by decide)
  (he:starEach (e :: es) X.env=(false,eval e X.env) :: starEach es X.env:=by rfl) (hpl:(backTo pos (starEach es X.env)).any (·.1)=false:=by rfl):PE X (.Call (.Name x p) (e :: es) [] pos) (Gd r t):=by
 intro pins s σ H Q I h;refine wpAny_Call_Name_kw (j8 I hg hm hv ?_ hn hdb);exact PyProof.Rows.callWith_type1 (d7 (ha pos pins s σ H _ I h) λus s1 ⟨vs,H1,I1,r1,q1⟩=>hc pins s1 σ H1 vs us Q I1 r1 q1) he hpl
end
end L2
namespace HT
open PySem PyProof.Rows
section
open PySem.SeqAt
open PySem.AutoSeq1 (wpAny_loadPart')
open PySem.MeetsSeq PySem.MeetsSeq2 PySem.MeetsSeq3
end
section
variable {prog:Program} {w:World} {A:Around} {E:Value->Shared->Prop} {s:Shared}
def xa (n d:Nat):Option Int->Nat
 | none=>d
 | some v=>if v < 0 then (v+(n:Int)).toNat else min v.toNat n
end
end HT
namespace L2
open PySem PySem.Spec PyProof.Rows
abbrev TO:=St->Hp->(Option Int->Hp->Prop)->Prop
def PO (X:Cx) (e:Option Expr) (t:TO):Prop :=
 ∀(pins:List (Addr×Obj)) (s:Shared) (σ:St) (H:Hp) (Q:Option Int->Hp->Prop),Inv X pins σ H s->t σ H Q →
  wpAny (model X.prog X.w) X.A (evalPart e X.env) (λu s'=>∃o H',Inv X pins σ H' s'/\IsPart u o/\Q o H') X.xe s
def xN:TO:=λ_ H Q=>Q none H
def Cf (t:TE):TO:=λσ H Q=>t σ H λx H1=>∃i,x=.int i/\Q (some i) H1
theorem intsAre_of {ns:List Int}:∀{us:List Value},b7 (ns.map V.int) us->IntsAre us ns:=by
 induction ns with
 | nil=>intro us r;rw[List.map_nil] at r;cases r;exact .nil
 | cons n ns ih =>
  intro us r;rw[jz] at r;cases r with
  | cons r1 r2 =>
   obtain ⟨t,e⟩:=r1;subst e;exact .cons n t (ih r2)
section
variable {X:Cx} {e:Expr} {te:TE} {lo hi:Option Expr} {tl th:TO} {pos p2:Pos}
theorem Bx:PO X none xN:=by
 intro pins s σ H Q I h;rw[evalPart_none];exact wpAny_pure ⟨none,H,I,.none,h⟩
theorem xX (h:PE X e te):PO X (some e) (Cf te):=by
 intro pins s σ H Q I hw;rw[evalPart_some];refine d7 (h pins s σ H _ I hw) λu s1 ⟨x,H1,I1,r1,q1⟩=>?_
 obtain ⟨i,rfl,q⟩:=q1;obtain ⟨t,rfl⟩:=r1;exact ⟨some i,H1,I1,.int i t,q⟩
def SlR (X:Cx) (r:V->Option Int->Option Int->Hp->VK->Prop):Prop :=
 ∀(pins:List (Addr×Obj)) (s:Shared) (σ:St) (H:Hp) (x:V) (v vl vu:Value) (lo hi:Option Int) (sl:Addr) (Q:VK),Inv X pins σ H s->RelV x v->s.heap.IsSliceOf sl vl vu .none->IsPart vl lo->IsPart vu hi->r x lo hi H Q →
  ∃T id,typeLookup (.type T) "__getitem__"=pure (some (.builtin id))/\s.TypeIs v T/\wpAny (model X.prog X.w) X.A (getItem v (.ref sl)) (EP X pins σ Q) X.xe s
def tSl (r:V->Option Int->Option Int->Hp->VK->Prop) (te:TE) (tl th:TO):TE:=λσ H Q=>te σ H λx H1=>tl σ H1 λl H2=>th σ H2 λu H3=>r x l u H3 Q
theorem zZ {r:V->Option Int->Option Int->Hp->VK->Prop} (hr:SlR X r) (he:PE X e te) (hl:PO X lo tl) (hu:PO X hi th):PE X (.Subscript e (.Slice lo hi none p2) pos) (tSl r te tl th):=by
 intro pins s σ H Q I h;refine Subscript_ (d7 (he pins s σ H _ I h) λv s1 ⟨x,H1,I1,r1,q1⟩=>?_);refine wpAny_Slice (d7 (hl pins s1 σ H1 _ I1 q1) λvl s2 ⟨l,H2,I2,pl,q2⟩=>d7 (hu pins s2 σ H2 _ I2 q2) λvu s3 ⟨u,H3,I3,pu,q3⟩=>?_);rw[evalPart_none];refine wpAny_pure ?_;have I4:Inv X pins σ H3 { s3 with heap:=s3.heap.push { cls:=.type "slice",data:=.fields #[vl,vu,.none] } }:=I3.kept (t':=s3.toks) λb ob q=>Heap.get?_push_of_some _ q
 obtain ⟨T,id,hT,ht,hg⟩:=hr pins { s3 with heap:=s3.heap.push { cls:=.type "slice",data:=.fields #[vl,vu,.none] } } σ H3 x v vl vu l u s3.heap.objs.size Q I4 r1 (Heap.IsSliceOf.new ..) pl pu q3;show wpAny (model X.prog X.w) X.A (subscriptTail e (.Slice lo hi none p2) v (.ref s3.heap.objs.size)) (EP X pins σ Q) X.xe { s3 with heap:=s3.heap.push { cls:=.type "slice",data:=.fields #[vl,vu,.none] } }
 exact tail_any (ops:=[.ref s3.heap.objs.size,v]) ht hT hg (by with_unfolding_all rfl)
def ve (xs:List V) (lo hi:Option Int):List V:=(xs.drop (HT.xa xs.length 0 lo)).take (HT.xa xs.length xs.length hi - HT.xa xs.length 0 lo)
theorem qL (xs:List V) (lo hi:Option Int):(ve xs lo hi).length<=xs.length:=by
 unfold ve;rw[zm,List.length_drop]
 lia
end
def AD (n:Nat) (i:Int):Option Nat:=if 0<=i then (if i < n then some i.toNat else none) else if -(n:Int)<=i then some (i+n).toNat else none
def zg {α:Type} (xs:List α) (i:Int):Option α:=(AD xs.length i).bind λj=>xs[j]?
theorem ye {n:Nat} {i:Int} {j:Nat} (h:AD n i=some j):seqIndex? i n=some j/\j < n/\-(n:Int)<=i/\i < n:=by
 unfold AD at h;by_cases h0:0<=i
 ·rw[if_pos h0] at h;by_cases h1:i < n
  ·rw[if_pos h1] at h;have e:i.toNat=j:=bf h;exact ⟨by rw[seqIndex_of h0 h1,e],by lia,by lia,h1⟩
  ·rw[if_neg h1] at h;cases h
 ·rw[if_neg h0] at h;by_cases h1:-(n:Int)<=i
  ·rw[if_pos h1] at h;have e:(i+n).toNat=j:=bf h;exact ⟨by rw[seqIndex_neg (by lia) h1,e],by lia,h1,by lia⟩
  ·rw[if_neg h1] at h;cases h
theorem vk {α:Type} {xs:List α} {i:Int} {v:α} (h:zg xs i=some v):∃j,seqIndex? i xs.length=some j/\xs[j]?=some v/\j < xs.length/\-(xs.length:Int)<=i/\i < xs.length:=by
 unfold zg at h;cases e:AD xs.length i with
 | none=>rw[e] at h;cases h
 | some j =>
  rw[e] at h;obtain ⟨h1,h2,h3,h4⟩:=ye e;exact ⟨j,h1,h,h2,h3,h4⟩
theorem iT {α:Type} {xs:List α} {j:Nat} {v:α} (h:xs[j]?=some v):zg xs (j:Int)=some v:=by
 have hj:j < xs.length:=(aO.mp h).1
 have e:AD xs.length (j:Int)=some j:=by
  unfold AD;rw[if_pos (by lia),if_pos (by lia)];simp
 unfold zg;rw[e];exact h
def Cb (b:Expr):Prop:=∀o i,subscripted b false o i=operate [o,i] (getItem o i)
def FN (X:Cx) (r:R2):Prop :=
 ∀(value slice:Expr) (pins:List (Addr×Obj)) (s:Shared) (σ:St) (H:Hp) (x y:V) (v u:Value) (Q:VK),Inv X pins σ H s->RelV x v->RelV y u->r x y H Q →
  subscripted slice false v u=operate [v,u] (getItem v u)->wpAny (model X.prog X.w) X.A (subscriptTail value slice v u) (EP X pins σ Q) X.xe s
def MtR (X:Cx) (id:String) (r:V->List V->Hp->VK->Prop):Prop :=
 ∀(pins:List (Addr×Obj)) (s:Shared) (σ:St) (H:Hp) (x:V) (xs:List V) (v:Value) (us:List Value) (Q:VK),Inv X pins σ H s->RelV x v->b7 xs us->r x xs H Q →
  wpAny (model X.prog X.w) X.A (call (.builtin id) (v :: us)) (EP X pins σ Q) X.xe s
section
variable {X:Cx} {a b:Expr} {ta tb:TE} {pos:Pos}
theorem bF {r:R2} (hr:FN X r) (ha:PE X a ta) (hb:PE X b tb) (hs:Cb b:=by intro _ _;rfl):PE X (.Subscript a b pos) (EG r ta tb):=by
 intro pins s σ H Q I h;exact Subscript_ (Eh ha hb I h λv u s2 x y H2 I2 rx ry q=>hr a b pins s2 σ H2 x y v u Q I2 rx ry q (hs _ _))
def DS (K:FG9):R2:=λx y H Q=>∃p xs i v,x=.ref p/\y=.int i/\b6 K H p xs/\zg xs i=some v/\Q v H
def DR (K:FG9):R2:=λx y H Q=>∃p xs i v,x=.ref p/\y=.int i/\oj K H p xs/\zg xs i=some v/\Q v H
theorem cf:FN X (DS X.K):=by
 intro value slice pins s σ H x y v u Q I rx ry h hs;obtain ⟨p,xs,i,z,rfl,rfl,hq,he,q⟩:=h;cases rx;obtain ⟨t,rfl⟩:=ry;obtain ⟨its,r,pl,hz⟩:=I.list hq;obtain ⟨j,h1,h2,h3,h4,h5⟩:=vk he;obtain ⟨w,ew,rw'⟩:=r.get h2;have hl:=r.length;have hn:=sH;have fin:EP X pins σ Q w s:=⟨z,H,I,rw',q⟩;by_cases h0:0<=i
 ·have hj:i.toNat=j:=by
   rw[seqIndex_of h0 h5] at h1;exact bf h1
  exact item_listR pl.isList h0 (by lia) (by rw[hj];simpa using ew) fin hs
 ·have hj:(i+(its.toArray.size:Int)).toNat=j:=by
   rw[seqIndex_neg (by lia) h4] at h1;rw[aB,<- hl];exact bf h1
  exact subscriptTail_builtinR (x:=w) pl.isList.typeIs slot_list_getitem.lookup
   (wpAny_getItem_list_neg (Q:=λr s'=>r=w/\EP X pins σ Q r s') pl.isList (by lia) (by rw[aB] <;> lia) (by lia) (by rw[hj];simpa using ew) ⟨rfl,fin⟩) hs
theorem cA:FN X (DR X.K):=by
 intro value slice pins s σ H x y v u Q I rx ry h hs;obtain ⟨p,xs,i,z,rfl,rfl,hq,he,q⟩:=h;cases rx;obtain ⟨t,rfl⟩:=ry;obtain ⟨its,r,pl,hz⟩:=I.tuple hq;obtain ⟨j,h1,h2,h3,h4,h5⟩:=vk he;obtain ⟨w,ew,rw'⟩:=r.get h2;have hl:=r.length;have hn:=sH;have fin:EP X pins σ Q w s:=⟨z,H,I,rw',q⟩
 exact subscriptTail_builtinR (x:=w) pl.typeIs slot_tuple_getitem.lookup
  (getItem_tuple (j:=j) (Q:=λr s'=>r=w/\EP X pins σ Q r s') pl (by lia) (by lia) (by rw[aB,<- hl];exact h1) (by simpa using ew) ⟨rfl,fin⟩) hs
theorem xh (its:List Value) (n j:Nat) (u:Value):Obj.mapSeq (·.setIfInBounds j u) { cls:=.type "list",data:=.seq its.toArray n }={ cls:=.type "list",data:=.seq (its.set j u).toArray n }:=by
 simp [Obj.mapSeq]
theorem Inv.lst {pins:List (Addr×Obj)} {σ:St} {H:Hp} {s:Shared} {p:Addr} {xs:List V} (I:Inv X pins σ H s) (h:H p=some (.lst xs)) :
  ∃(its:List Value) (n:Nat),b7 xs its/\s.heap.get? p=some { cls:=.type "list",data:=.seq its.toArray n }/\xs.length<=sizeLine:=by
 obtain ⟨z,its,n,r,e⟩:=I.hok p _ h;exact ⟨its,n,r,e,z⟩
theorem Inv.lstUpd {pins:List (Addr×Obj)} {σ:St} {H:Hp} {s:Shared} {p:Addr} {xs ys:List V} {its its':List Value} {n n':Nat} {f:Obj->Obj} (I:Inv X pins σ H s) (h:H p=some (.lst xs))
  (ho:s.heap.get? p=some { cls:=.type "list",data:=.seq its.toArray n }) (hf:f { cls:=.type "list",data:=.seq its.toArray n }={ cls:=.type "list",data:=.seq its'.toArray n' }) (r:b7 ys its') (hz:ys.length<=sizeLine) (t:Nat) :
  Inv X pins σ (upd H p (.lst ys)) { s with heap:=s.heap.update p f,toks:=t }:=by
 have e:(s.heap.update p f).get? p=some { cls:=.type "list",data:=.seq its'.toArray n' }:=by
  rw[Heap.get?_update_self f ho (by rw[hf] <;> rfl),hf]
 refine I.write (x:=p) (e:=p) (by rw[h];trivial) (.inl rfl) (λb u hb q=>(Heap.get?_update_other _ _ (Ne.symm hb)).trans q) ⟨_,e⟩ ?_;exact ⟨hz,its',n',r,e⟩
def Cp:V->V->V->Hp->(Hp->Prop)->Prop:=λo i v H Q=>∃p xs k j,o=.ref p/\i=.int k/\H p=some (.lst xs)/\AD xs.length k=some j/\Q (upd H p (.lst (xs.set j v)))
theorem set_list:Ej X Cp:=by
 intro pins s σ H o i v ov iv u Q I ro ri rv h;obtain ⟨p,xs,k,j,rfl,rfl,hp,hj,q⟩:=h;cases ro;obtain ⟨t,rfl⟩:=ri;obtain ⟨its,n,r,ho,hz⟩:=I.lst hp;obtain ⟨h1,h2,h3,h4⟩:=ye hj;have hl:=r.length;have hn:=sH
 have I':Inv X pins σ (upd H p (.lst (xs.set j v))) { s with heap:=s.heap.update p (Obj.mapSeq (·.setIfInBounds j u)) } :=
  I.lstUpd hp ho (xh its n j u) (r.set rv j) (by rw[jQ];exact hz) s.toks
 by_cases h0:0<=k
 ·have hk:k.toNat=j:=by
   rw[seqIndex_of h0 h4] at h1;exact bf h1
  exact PySem.W.ki_setAt ho h0 (by lia) (by rw[aB,<- hl];exact h4) (by rw[hk];exact ⟨_,I',q⟩)
 ·have hk:(k+(its.toArray.size:Int)).toNat=j:=by
   rw[seqIndex_neg (by lia) h3] at h1;rw[aB,<- hl];exact bf h1
  exact PySem.W.ki_setBack ho (by lia) (by rw[aB,<- hl];exact h3) (by lia) (by rw[hk];exact ⟨_,I',q⟩)
theorem uA (lo hi:Option Int) (n:Nat):(sliceBounds lo hi none n).1=((HT.xa n 0 lo:Nat):Int)/\(sliceBounds lo hi none n).2.1=((HT.xa n n hi:Nat):Int)/\(sliceBounds lo hi none n).2.2=1:=by
 refine ⟨?_,?_,rfl⟩
 ·cases lo with
  | none=>simp [sliceBounds,HT.xa]
  | some i =>
   simp only[sliceBounds,HT.xa,Option.getD_none,show (1:Int) > 0 by decide,if_true];by_cases h:i < 0
   ·simp only[h,if_true] <;> lia
   ·simp only[h,if_false] <;> lia
 ·cases hi with
  | none=>simp [sliceBounds,HT.xa]
  | some i =>
   simp only[sliceBounds,HT.xa,Option.getD_none,show (1:Int) > 0 by decide,if_true];by_cases h:i < 0
   ·simp only[h,if_true] <;> lia
   ·simp only[h,if_false] <;> lia
theorem sY (its:List Value) (lo hi:Option Int):slicePick its.toArray lo hi none=((its.drop (HT.xa its.length 0 lo)).take (HT.xa its.length its.length hi - HT.xa its.length 0 lo)).toArray:=by
 obtain ⟨h1,h2,h3⟩:=uA lo hi its.toArray.size;unfold slicePick;rw[h1,h2,h3];simp only[sliceRange_one,pick_run,aB] <;> rfl
def Gi (K:FG9):V->Option Int->Option Int->Hp->VK->Prop:=λx lo hi H Q=>∃a xs,x=.ref a/\b6 K H a xs/\∀p,H p=none->Q (.ref p) (upd H p (.lst (ve xs lo hi)))
theorem AV:SlR X (Gi X.K):=by
 intro pins s σ H x v vl vu lo hi sl Q I rx hs pl pu h;obtain ⟨a,xs,rfl,hx,q⟩:=h;cases rx;obtain ⟨its,r,ht,hz⟩:=I.list hx;have hlen:=r.length;refine ⟨"list",_,slot_list_getitem.lookup,ht.isList.typeIs,?_⟩;refine wpAny_getItem_list_slice ht.isList hs pl pu .none (by simp) ?_ (by rw[aB] <;> lia);rw[sY,<- hlen];refine ⟨.ref s.heap.objs.size,_,I.laid (t':=s.toks) (o:=.lst (ve xs lo hi)) (λb ob q=>Heap.get?_push_of_some _ q) (ay _) ?_,rfl,q _ (I.hok.fresh (ay _))⟩;exact ⟨ar (qL xs lo hi) hz,_,0,(r.drop (HT.xa xs.length 0 lo)).take (HT.xa xs.length xs.length hi - HT.xa xs.length 0 lo),Heap.get?_push_size _ rfl⟩
theorem bU:oC X (.builtin "len") (λxs H Q=>∃p ys,xs=[.ref p]/\(b6 X.K H p ys\/oj X.K H p ys)/\Q (.int ys.length) H):=by
 intro pins s σ H xs us Q I r h;obtain ⟨p,ys,rfl,hq,q⟩:=h;obtain ⟨u,rfl,rx⟩:=vals1 r;cases rx;have hn:=sH;rcases hq with hq | hq
 ·obtain ⟨its,r',pl,hz⟩:=I.list hq;have hlen:=r'.length;exact Calls.call_len_list pl.isList (by simp only[aB] <;> lia) ⟨.int ys.length,H,I.tok _,⟨s.toks+1,by rw[aB,hlen]⟩,q⟩
 ·obtain ⟨its,r',pl,hz⟩:=I.tuple hq;have hlen:=r'.length;exact len_tuple pl (by simp only[aB] <;> lia) ⟨.int ys.length,H,I.tok _,⟨s.toks+1,by rw[aB,hlen]⟩,q⟩
theorem pQ:oC X (.type "list") (λxs H Q=>∃p ys,xs=[.ref p]/\(b6 X.K H p ys\/oj X.K H p ys)/\∀l,H l=none->Q (.ref l) (upd H l (.lst ys))):=by
 intro pins s σ H xs us Q I r h;obtain ⟨p,ys,rfl,hq,q⟩:=h;obtain ⟨u,rfl,rx⟩:=vals1 r;cases rx
 have fin:∀(its:List Value),b7 ys its->ys.length<=sizeLine->∀(h':Heap) (c':Nat),(∀b o',s.heap.get? b=some o'->h'.get? b=some o') →
   h'.get? s.heap.objs.size=some { cls:=.type "list",dict:=none,data:=.seq its.toArray c',slots:=#[] }->EP X pins σ Q (.ref s.heap.objs.size) { s with heap:=h' }:=λits r' hz h' c' kp e =>
  ⟨.ref s.heap.objs.size,_,I.laid (t':=s.toks) kp (ay _) (show gN X.prog X.w _ h' _ (.lst ys) from ⟨hz,its,c',r',e⟩),rfl,q _ (I.hok.fresh (ay _))⟩
 rcases hq with hq | hq
 ·obtain ⟨its,r',pl,hz⟩:=I.list hq;have hlen:=r'.length;obtain ⟨o,ho,hc,n,hd⟩:=pl.isList;exact call_list_seq p (.inl rfl) ho hc hd (λh' c' kp e=>fin its r' hz h' c' kp e) (by simp only[aB] <;> lia)
 ·obtain ⟨its,r',pl,hz⟩:=I.tuple hq;have hlen:=r'.length;obtain ⟨o,ho,hc,n,hd⟩:=pl;exact call_list_seq p (.inr rfl) ho hc hd (λh' c' kp e=>fin its r' hz h' c' kp e) (by simp only[aB] <;> lia)
def FZ (K:FG9) (T:String) (x:V) (H:Hp):Prop:=match x with
 | .str _=>T="str"
 | .int _=>T="int"
 | .ref p=>(T="list"/\∃xs,b6 K H p xs)\/(T="tuple"/\∃o,K.lookup p=some o/\o.cls=.type "tuple"/\o.dict=none) \/
   (T="dict"/\((∃kvs,H p=some (.dK kvs))\/∃kvs,H p=some (.dT kvs)))\/(T="set"/\∃S n,H p=some (.set S n))
 | _=>False
theorem Dm {pins:List (Addr×Obj)} {σ:St} {H:Hp} {s:Shared} {T:String} {x:V} {v:Value} (I:Inv X pins σ H s) (r:RelV x v) (ty:FZ X.K T x H) :
  s.TypeIs v T/\∀a,v=.ref a->∃ob,s.heap.get? a=some ob/\ob.dict=none:=by
 cases x with
 | str z =>
  obtain ⟨t,rfl⟩:=r;cases (show T="str" from ty);exact ⟨typeIs_str s z t,λ_ e=>nomatch e⟩
 | int i =>
  obtain ⟨t,rfl⟩:=r;cases (show T="int" from ty);exact ⟨typeIs_int s i t,λ_ e=>nomatch e⟩
 | ref p =>
  cases r;rcases ty with ⟨rfl,xs,hq⟩ | ⟨rfl,o,hk,hc,hd⟩ | ⟨rfl,hk⟩ | ⟨rfl,S,n,hk⟩
  ·obtain ⟨its,_,pl,_⟩:=I.list hq;refine ⟨pl.isList.typeIs,λa e=>?_⟩;cases e;obtain ⟨o,n,e,c,hd,_⟩:=pl;exact ⟨o,e,hd⟩
  ·refine ⟨⟨o,I.kIn p o hk,hc⟩,λa e=>?_⟩;cases e;exact ⟨o,I.kIn _ o hk,hd⟩
  ·have z:∃o,s.heap.get? p=some o/\o.ExactDict:=by
    rcases hk with ⟨kvs,hk⟩ | ⟨kvs,hk⟩
    ·obtain ⟨_,_,_,_,o,_,_,e,ex,_⟩:=I.hok p _ hk;exact ⟨o,e,ex⟩
    ·obtain ⟨_,_,_,_,o,_,_,e,ex,_⟩:=I.hok p _ hk;exact ⟨o,e,ex⟩
   obtain ⟨o,e,ex⟩:=z;refine ⟨⟨o,e,ex.1⟩,λa e2=>?_⟩;cases e2;exact ⟨o,e,ex.2.1⟩
  ·obtain ⟨o,_,_,_,e,ex,_⟩:=I.hok p _ hk;refine ⟨⟨o,e,ex.1⟩,λa e2=>?_⟩;cases e2;exact ⟨o,e,ex.2.1⟩
 | _=>exact False.elim ty
def tBM (K:FG9) (T:String) (r:V->List V->Hp->VK->Prop) (to:TE) (t:TA):TE:=λσ H Q=>to σ H λx H1=>FZ K T x H1/\t σ H1 λxs H2=>r x xs H2 Q
variable {o e:Expr} {es:List Expr} {to:TE} {t:TA} {name:Str} {apos cpos:Pos} {T id:String} {r:V->List V->Hp->VK->Prop}
theorem vX (pa:PlainAttrs T) (slot:Slot T name id) (hty:typeOf (.builtin id)=pure (.type "method_descriptor")) (hm:MtR X id r) (ho:PE X o to) (ha:PA X (e :: es) t)
  (hbase:attributeBase o name X.env (eval o X.env)=eval o X.env:=by rfl)
  (hfew:((backTo cpos (starEach (e :: es) X.env)).all (λx=>!x.1) && (backToKw cpos (keywordEach [] X.env)).all (λx=>x.1.isSome)
   && decide ((e :: es).length+([]:List Keyword).length+(if ([]:List Keyword).isEmpty then 0 else 1) < 30))=true:=by rfl)
  (hline:(apos.endLine == cpos.line)=true:=by rfl) (hs:starEach (e :: es) X.env=(false,eval e X.env) :: starEach es X.env:=by rfl) (hplain:(backTo cpos (starEach es X.env)).any (·.1)=false:=by rfl) :
  PE X (.Call (.Attribute o name apos) (e :: es) [] cpos) (tBM X.K T r to t):=by
 intro pins s σ H Q I h;refine wpAny_Call_method_late hbase hfew hline rfl (d7 (ho pins s σ H _ I h) λv s1 ⟨x,H1,I1,r1,ty,q1⟩=>?_);obtain ⟨h1,h2⟩:=Dm I1 r1 ty;refine ⟨T,id,pa,slot,hty,h1,h2,?_⟩;have hA:=ha cpos pins s1 σ H1 _ I1 q1;rw[hs] at hA ⊢;refine Calls.callWith_builtin (by show (false || (backTo cpos (starEach es X.env)).any (·.1))=false;rw[hplain] <;> rfl) (Calls.evalArgs_plain ?_);exact d7 hA λus s2 ⟨vs,H2,I2,r2,q2⟩=>hm pins s2 σ H2 x vs v us Q I2 r1 r2 q2
end
def MtM (X:Cx) (id:String) (r:V->List V->Hp->VK->Prop):Prop :=
 ∀(pins:List (Addr×Obj)) (s:Shared) (σ:St) (H:Hp) (x:V) (xs:List V) (v:Value) (us:List Value) (Q:VK),Inv X pins σ H s->RelV x v->b7 xs us->r x xs H Q →
  wpAny (model X.prog X.w) X.A (call (.builtin id) (v :: us)) (EP X pins σ Q) X.xe s
theorem b7.one:∀{x:V} {us:List Value},b7 [x] us->∃u,us=[u]/\RelV x u
 | _,_,.cons r .nil=>⟨_,rfl,r⟩
theorem b7.reverse {xs:List V} {us:List Value} (h:b7 xs us):b7 xs.reverse us.reverse:=by
 induction h with
 | nil=>exact .nil
 | cons r t ih=>rw[ig,ig];exact b7.append ih (.cons r .nil)
theorem b7.rep {xs:List V} {us:List Value} (h:b7 xs us):∀k:Nat,b7 (List.replicate k xs).flatten (List.replicate k us).flatten
 | 0=>.nil
 | k+1=>by
  rw[jm,jm,kZ,kZ];exact b7.append h (b7.rep h k)
theorem foldl_rep (its:List Value):∀(k:Nat) (acc:List Value),
  List.foldl (λx1 x2=>x1++x2) acc.toArray (List.replicate k its.toArray)=(acc++(List.replicate k its).flatten).toArray
 | 0,acc=>by simp
 | k+1,acc=>by
  have e:acc.toArray++its.toArray=(acc++its).toArray:=by simp
  have e2:(acc++its)++(List.replicate k its).flatten=acc++(List.replicate (k+1) its).flatten:=by
   rw[jm,kZ,p3]
  rw[<- e2,<- foldl_rep its k (acc++its),<- e,jm,List.foldl_cons]
section
variable {X:Cx} {pins:List (Addr×Obj)} {σ:St} {H:Hp} {s:Shared} {l b:Addr} {xs ys zs:List V}
theorem Inv.lset {its its':List Value} {n:Nat} {f:Array Value->Array Value} {t':Nat} (I:Inv X pins σ H s) (hH:H l=some (.lst xs))
  (e:s.heap.get? l=some { cls:=.type "list",data:=.seq its.toArray n }) (hf:f its.toArray=its'.toArray) (hv:b7 ys its') (hz:ys.length<=sizeLine) :
  Inv X pins σ (upd H l (.lst ys)) { s with heap:=s.heap.update l (Obj.mapSeq f),toks:=t' }:=by
 have q:=PySem.IsL.update e f;rw[hf] at q;refine I.write (x:=l) (e:=l) (by rw[hH];exact trivial) (.inl rfl) (λb' u hb hu=>(Heap.get?_update_other s.heap (Obj.mapSeq f) (Ne.symm hb)).trans hu) ⟨_,q⟩ ?_;exact ⟨hz,its',_,hv,q⟩
theorem Inv.lnew {its:List Value} {t':Nat} (I:Inv X pins σ H s) (hv:b7 ys its) (hz:ys.length<=sizeLine) :
  Inv X pins σ (upd H s.heap.objs.size (.lst ys)) { s with heap:=s.heap.push { cls:=.type "list",data:=.seq its.toArray },toks:=t' } :=
 I.laid (λ_ _ q=>Heap.get?_push_of_some _ q) (ay _) ⟨hz,its,0,hv,Heap.get?_push_size _ rfl⟩
theorem Inv.fresh (I:Inv X pins σ H s):H s.heap.objs.size=none:=I.hok.fresh (ay _)
theorem Inv.lstM (I:Inv X pins σ H s) (hH:H l=some (.lst xs)):xs.length<=sizeLine/\∃(its:List Value) (n:Nat),b7 xs its/\xs.length=its.length/\s.heap.get? l=some { cls:=.type "list",data:=.seq its.toArray n }:=by
 obtain ⟨z,its,n,r,e⟩:=I.hok l _ hH;exact ⟨z,its,n,r,r.length,e⟩
theorem v7 {n:Nat} (h:n<=sizeLine):Builtin.List.listTooLong n=false:=by
 unfold Builtin.List.listTooLong;exact decide_eq_false (by lia)
end
section
variable {X:Cx}
def xW:V->List V->Hp->VK->Prop:=λx vs H Q=>∃l xs y,x=.ref l/\vs=[y]/\H l=some (.lst xs)/\xs.length < sizeLine/\Q .non (upd H l (.lst (xs++[y])))
theorem nY:MtM X "list.append" xW:=by
 intro pins s σ H x vs v us Q I rx rv h;obtain ⟨l,xs,y,rfl,rfl,hH,hz,q⟩:=h;cases rx;obtain ⟨u,rfl,ru⟩:=rv.one;obtain ⟨z,its,n,r,hl,e⟩:=I.lstM hH;refine call_meets F.slot_list_append ⟨_,e,rfl⟩ F.entry_list_append (F.args_list_append_2 _ _) (PySem.list_append l its.toArray n u (by rw[aB];lia)) ⟨e,?_⟩;refine ⟨.non,_,I.lset (its':=its++[u]) hH e (by simp) (r.append (.cons ru .nil)) ?_,rfl,q⟩;rw[bS,d5]
 lia
def Bu:V->List V->Hp->VK->Prop:=λx vs H Q=>∃l b xs zs,x=.ref l/\vs=[.ref b]/\H l=some (.lst xs)/\H b=some (.lst zs)/\xs.length+zs.length<=sizeLine/\Q .non (upd H l (.lst (xs++zs)))
theorem yU:MtM X "list.extend" Bu:=by
 intro pins s σ H x vs v us Q I rx rv h;obtain ⟨l,b,xs,zs,rfl,rfl,hH,hB,hz,q⟩:=h;cases rx;obtain ⟨u,rfl,ru⟩:=rv.one;cases ru;obtain ⟨z,its,n,r,hl,e⟩:=I.lstM hH;obtain ⟨z2,its2,n2,r2,hl2,e2⟩:=I.lstM hB;have hsz:its.toArray.size+its2.toArray.size<=sizeLine:=by rw[aB,aB];lia
 have hlong:¬(!its.toArray.isEmpty && Builtin.List.listTooLong (its.toArray.size+its2.toArray.size))=true:=by
  rw[v7 hsz,Bool.and_false];exact aU
 refine call_meets F.slot_list_extend ⟨_,e,rfl⟩ F.entry_list_extend (F.args_list_extend_2 _ _)
  (AutoSeq1.list_extend_list_list_0 l its.toArray n b its2.toArray n2 hlong (by rw[aB];lia) (by lia)) ⟨e,e2,?_⟩
 refine ⟨.non,_,I.lset (its':=its++its2) hH e (by simp) (r.append r2) ?_,rfl,q⟩;rw[bS]
 lia
def E6:R2:=λx y H Q=>∃l b xs zs,x=.ref l/\y=.ref b/\H l=some (.lst xs)/\H b=some (.lst zs)/\xs.length+zs.length<=sizeLine/\∀p,H p=none->Q (.ref p) (upd H p (.lst (xs++zs)))
theorem DW:tx X (binaryOp .Add) E6:=by
 intro pins s σ H x y v u Q I rx ry h;obtain ⟨l,b,xs,zs,rfl,rfl,hH,hB,hz,q⟩:=h;cases rx;cases ry;obtain ⟨z,its,n,r,hl,e⟩:=I.lstM hH;obtain ⟨z2,its2,n2,r2,hl2,e2⟩:=I.lstM hB;refine PySem.P.add_list e e2 ?_ (by rw[aB,aB];lia);have ea:its.toArray++its2.toArray=(its++its2).toArray:=by simp
 rw[ea];exact ⟨.ref _,_,I.lnew (t':=s.toks) (r.append r2) (by rw[bS];lia),rfl,q _ I.fresh⟩
def E5:R2:=λx y H Q=>∃l k xs,x=.ref l/\y=.int k/\H l=some (.lst xs)/\-(2^63)<=k/\k < 2^63/\xs.length*k.toNat<=sizeLine /\
 ∀p,H p=none->Q (.ref p) (upd H p (.lst (List.replicate k.toNat xs).flatten))
theorem len_rep {α:Type} (xs:List α) (k:Nat):(List.replicate k xs).flatten.length=k*xs.length:=by
 induction k with
 | zero=>simp
 | succ k ih=>rw[jm,kZ,bS,ih,kX,Nat.add_comm]
theorem z5:tx X (binaryOp .Mult) E5:=by
 intro pins s σ H x y v u Q I rx ry h;obtain ⟨l,k,xs,rfl,rfl,hH,h1,h2,hz,q⟩:=h;cases rx;obtain ⟨t,rfl⟩:=ry;obtain ⟨z,its,n,r,hl,e⟩:=I.lstM hH;have hlen:its.toArray.size*k.toNat<=sizeLine:=by rw[aB,<- hl];exact hz
 have hcap:¬its.toArray.size*k.toNat > (2^63 - 1) / 8:=by
  have:(sizeLine:Nat)<=(2^63 - 1) / 8:=by decide
  lia
 have hfit:¬(!Builtin.List.listFitsIndex k)=true:=by
  rw[fitsIndex_both h1 h2];exact aU
 have hlong:¬Builtin.List.listTooLong (its.toArray.size*k.toNat)=true:=by
  rw[v7 hlen];exact aU
 have hnew:List.foldl (λx1 x2=>x1++x2) #[] (List.replicate (if its.toArray.isEmpty=true then 0 else k.toNat) its.toArray)=(List.replicate k.toNat its).flatten.toArray:=by
  have f0:∀m:Nat,List.foldl (λx1 x2=>x1++x2) #[] (List.replicate m its.toArray)=(List.replicate m its).flatten.toArray:=λm=>by
   have:=foldl_rep its m [];rw[List.nil_append] at this;exact this
  rw[f0];cases its with
  | nil=>simp
  | cons a r'=>rw[if_neg (by simp)]
 refine wpAny_binaryOp_repeat_ref (T:="list") (U:="int") (by decide) ⟨_,e,rfl⟩ (λs'=>typeIs_int s' k t) noFill_list_mul F.fills_int_mul F.slot_int_rmul repeat_list F.slot_int_index.lookup
  (call_meets F.slot_int_rmul (typeIs_int s k t) F.entry_int_rmul (F.args_int_rmul_2 _ _) (int___rmul___int_list k t l its.toArray n)
   ⟨e,rfl,⟨_,e,rfl⟩,call_meets F.slot_list_mul ⟨_,e,rfl⟩ F.entry_list_mul (F.args_list_mul_2 _ _) (AutoListH.list___mul___list_int_3 l its.toArray n k t hfit hcap hlong) ⟨e,?_⟩⟩)
 rw[hnew];exact ⟨.ref _,_,I.lnew (t':=s.toks) (r.rep k.toNat) (by rw[len_rep,eP];exact hz),rfl,q _ I.fresh⟩
end
end L2
namespace Att
open PySem PySem.W PySem.Calls PyProof.Rows
theorem rd {P:Params} {h:Heap}:∀(ns:List Int) (vs:List Value),WellAll P h vs (ns.map WData.int)->IntsAre vs ns:=by
 intro ns
 induction ns with
 | nil =>
  intro vs w;rw[List.map_nil] at w;cases w;exact .nil
 | cons n ns ih =>
  intro vs w;rw[jz] at w;cases w with
  | cons a b =>
   cases a;exact .cons _ _ (ih _ b)
theorem yK {l:OpenLaw} {n:Nat} (hn:l.most=some n) {P:Params} {h:Heap} {args:List WData} {vals:List Value}
  (hpre:l.row.toRowW.claim.pre args=true) (hwl:WellAll P h vals args) :
  ∃a vs ns,vals=[Value.ref a]/\args=[WData.list (ns.map WData.int)]/\h.get? a=some { cls:=.type "list",data:=.seq vs.toArray }/\IntsAre vs ns/\ns.length<=n:=by
 have hsh:WShape.hasAll [] args [.list .int]=true:=(pre_splitW hpre).1;have hc:l.pre.holds [] { args:=args }=true:=(pre_splitW hpre).2;obtain ⟨d,r,rfl,h1,h2⟩:=hasAllW_cons hsh;obtain rfl:=hasAllW_nil h2;obtain ⟨xs,rfl,h3⟩:=hasW_list h1;obtain ⟨ns,rfl⟩:=items_int h3
 have hlen:ns.length<=n:=by
  unfold OpenLaw.pre at hc
  have h4:(WTm.not (.lt (.lit (.int (n:Int))) (.len (.arg 0)))).holds [] { args:=[.list (ns.map .int)] }=true:=by
   have h4:=(holds_andW hc).1;rw[hn] at h4;exact h4
  have h5:=condW_of h4 (w_not (w_lt w_lit (w_len_list (w_arg rfl))));rw[aj] at h5;refine Nat.le_of_not_lt λq=>?_
  have q':(n:Int) < ((ns.length:Nat):Int):=by lia
  first
   | (rw[decide_eq_true q'] at h5;exact absurd h5 (by decide))
   | (simp at h5;lia)
 cases hwl with
 | cons w1 w2 =>
  cases w2;cases w1 with
  | list ho hall=>exact ⟨_,_,ns,rfl,rfl,ho,rd ns _ hall,hlen⟩
theorem yO (l:OpenLaw) (args:List WData):l.row.toRowW.claim.post args (.bool true) args=true :=
 postW_of (r:=l.row.toRowW) (X:=(true == true))
  (show WShape.has [] (.bool true) .bool=true by first | rfl | decide | simp [WShape.has,WShape.arms,WShape.armsAll])
  (show (WTm.eq .res (.lit (.bool true))).value [] { args:=args,res:=some (.bool true),after:=args }=some (.bool (true == true)) from w_eq_bool (w_res rfl) w_lit) rfl
theorem wF {l:OpenLaw} {n:Nat} {q:Program} {loose:List Str} {XP:(Str->Option Value)->Heap->Prop} {YP:World->Heap->Prop} {d:DefRec}
  (hn:l.most=some n) (hdf:d.params.defaults=[])
  (call:∀(w:World) (s₀ s₁:Shared) (mg mb:Str->Option Value) (fa:Addr) (o:Obj) (pm cd doc:Value) (a:Addr) (vs:List Value) (ns:List Int),
   Ground q loose [] XP w s₀ mg mb s₁.heap->YP w s₁.heap →
   s₁.heap.get? fa=some o->o.data=.func (docDef d.name d.params d.body d.scope pm cd doc)->s₁.heap.CodeRec cd d.name->mg d.name=some (.ref fa) →
   s₁.heap.get? a=some { cls:=.type "list",data:=.seq vs.toArray }->IntsAre vs ns->ns.length<=n->s₁.gens=#[] →
   codeAny (model l.prog w) callerA (.call (.ref fa) ⟨[.ref a],[]⟩) (λr s'=>r=.ok (.ret (.bool true))/\OldK s₁.heap s'.heap/\s'.os=s₁.os/\AllBare s'.gens) s₁) :
  WalkO q loose XP YP l.row.toRowW d [] (λf vs=>PySem.call f vs):=by
 intro w s₀ s₁ mg mb G Y fa o pm cd doc dV kV ho hd hcd hD hmg hg args vals as hpre hlay hrd hwl hlo;obtain rfl:dV=.none:=Dflts.none hD hdf;obtain rfl:kV=.none:=Dflts.noKw hD;obtain ⟨a,vs,ns,rfl,rfl,hobj,hints,hlen⟩:=yK hn hpre hwl;refine enter_call (codeAny_mono (call w s₀ s₁ mg mb fa o pm cd doc a vs ns G Y ho (fd_plain hd) hcd hmg hobj hints hlen hg) λr s' hq=>?_);obtain ⟨rfl,h2,h3,h4⟩:=hq;exact ⟨.inl ⟨.bool true,.bool true,[],rfl,λ_=>rfl,.bool true,yO l _,λ_=>⟨List.Pairwise.nil,λ_ hm=>(nomatch hm)⟩⟩,h2,h3,h4⟩
section
variable {prog:Program} {w:World} {A:Around} {E:Value->Shared->Prop} {s:Shared} {K:Frag}
end
end Att
namespace L2
open PySem PySem.Spec PyProof.Rows
theorem tE:∀{vs:List Value} {ns:List Int},IntsAre vs ns->b7 (ns.map V.int) vs
 | _,_,.nil=>.nil
 | _,_,.cons n t h=>.cons ⟨t,rfl⟩ (tE h)
def Ek (H:Hp):Prop:=∀b,H b=none\/∃o xs,H b=some (.frz o (.lst xs))
theorem Ab {P : Program} {w : World} {K : FG9} {mg mb : Str → Option Value} {CX : AF} {k : Nat} {fa a : Addr} {fd : FuncData} {x : Str} {sp : Sp} {s₁ : Shared} {vs : List Value} {ns : List Int}
    (KX : K.In s₁.heap) (hns : s₁.heap.Ns mainGlobals mg) (hb : s₁.heap.Ns builtinsNs mb) (hbb : ∀ x : Str, x ≠ "__name__" → mb x = bootBuiltins x) (hlim : s₁.heap.NoLimit) (hg : s₁.gens = #[])
    (ha : s₁.heap.get? a = some { cls := .type "list", data := .seq vs.toArray }) (hi : IntsAre vs ns) (hl : ns.length ≤ sizeLine) (hr : ju k callerA)
    (F : ∀ base : Heap, K.In base → base.Ns mainGlobals mg → cZ P w K mg base CX k fa fd [x] sp) (hbind : ∀ (s : Shared) (u : Value), BindsTo s fd ⟨[u], []⟩ [(x, u)])
    (hsp : ∀ H : Hp, Ek H → b6 K H a (ns.map V.int) → sp [.ref a] H (λv _ => v = .bl true) λ_ _ _ => False)
    (hCX : ∀ H e s', CX [] H s₁ (λ_ _ _ => False) e s' → False) :
    codeAny (model P w) callerA (.call (.ref fa) ⟨[.ref a], []⟩) (λr s' => r = .ok (.ret (.bool true)) /\ OldK s₁.heap s'.heap /\ s'.os = s₁.os /\ AllBare s'.gens) s₁ := by
  have rv := tE hi;have lenV := hi.length
  have core : ∀ H : Hp, Ek H → b6 K H a (ns.map V.int) → rz P w H s₁.heap → (∀ b, H b ≠ none → b = a) → (H a ≠ none → K.lookup a = none) →
      codeAny (model P w) callerA (.call (.ref fa) ⟨[.ref a], []⟩) (λr s' => r = .ok (.ret (.bool true)) /\ OldK s₁.heap s'.heap /\ s'.os = s₁.os /\ AllBare s'.gens) s₁ := by
    intro H hO hS hok hA hK;have base_of : ∀ {b : Addr} {o : Obj}, s₁.heap.get? b = some o → H b = none → (u6 s₁.heap H).get? b = some o := λe n => Ae e n
    have noA : ∀ {b : Addr} {o : Obj} {es : Array DictEntry} {ep : Nat}, s₁.heap.get? b = some o → o.data = .dict es ep → H b = none := λ{b o es ep} e d => by
      cases q : H b with
      | none => rfl
      | some u =>
        have e' : b = a := hA b (by rw [q]; simp);subst e';rw [ha] at e; cases e;have d' : Data.seq vs.toArray _ = Data.dict es ep := d;cases d'
    have nsK : ∀ {b : Addr} {m : Str → Option Value}, s₁.heap.Ns b m → (u6 s₁.heap H).Ns b m := λ{b m} ⟨o, es, ep, e, d, r⟩ => ⟨o, es, ep, base_of e (noA e d), d, r⟩
    have hKb : K.In (u6 s₁.heap H) := λb o e => base_of (KX b o e) (by
      cases q : H b with
      | none => rfl
      | some u =>
        have e' : b = a := hA b (by rw [q]; simp);subst e';rw [hK (by rw [q]; simp)] at e; cases e)
    have hM : Mod K mg (u6 s₁.heap H) := ⟨hKb, nsK hns, ⟨mb, nsK hb, hbb⟩, let ⟨mc, h1, h2⟩ := hlim; ⟨mc, nsK h1, h2⟩⟩;have e0 : xF P w K mg (u6 s₁.heap H) callerA [] s₁ H := ⟨rfl, hM, λb o e => BD e, Nat.le_of_eq (y0 _ _), trivial, λb hb => absurd (show b ∈ ([] : List Addr) from hb) (by simp), hok, .of_eq hg⟩;refine codeAny_mono ((F _ hKb (nsK hns)).run callerA [] s₁ H ⟨[.ref a], []⟩ [.ref a] [.ref a] _ _ hr e0 (hbind s₁ (.ref a)) (.cons rfl .nil) (hsp H hO hS)) λr s' h => ?_
    cases r with
    | error e => exact (hCX H e s' h).elim
    | ok fl =>
      cases fl with
      | next => exact False.elim h
      | brk => exact False.elim h
      | cont => exact False.elim h
      | ret u =>
        obtain ⟨v, H', os, bare, un, hok', r', q⟩ := h;have q' : v = .bl true := q;subst q';obtain rfl : u = Value.bool true := r';refine ⟨rfl, OldK.of_keep λb o e => ?_, os, bare⟩;cases q : H b with
        | none => exact un.keep b o e q (by intro z; exact absurd (show b ∈ ([] : List Addr) from z) (by simp)) (by simp)
        | some u =>
          rcases hO b with z | ⟨ob, xs, z⟩
          · rw [q] at z; cases z
          · have z2 := un.frzs b ob _ z;obtain ⟨e1, _⟩ := hok b _ z;obtain ⟨e2, _⟩ := hok' b _ z2;rw [e] at e1; cases e1;exact e2
  cases hk : K.lookup a with
  | some o =>
    have e := KX a o hk;rw [ha] at e;cases e;refine core (λ_ => none) (λ_ => .inl rfl) (.inr ⟨_, vs.toArray, _, hk, rfl, rfl, rfl, by rw [aB, lenV]; exact hl, by simpa using rv⟩) (λb u z => by have z' : (none : Option HO) = some u := z; cases z') (λb z => absurd rfl z) λz => absurd rfl z
  | none =>
    refine core (λb => if b = a then some (.frz { cls := .type "list", data := .seq vs.toArray } (.lst (ns.map V.int))) else none) (λb => ?_) (.inl (.inr ⟨{ cls := .type "list", data := .seq vs.toArray }, if_pos rfl⟩)) (λb u z => ?_) (λb z => ?_) λ_ => hk
    · by_cases hb : b = a
      · exact .inr ⟨_, _, if_pos hb⟩
      · exact .inl (if_neg hb)
    · by_cases hb : b = a
      · have z' := (if_pos hb).symm.trans z;cases z';subst hb;exact ⟨ha, by rw [aj]; exact hl, vs, _, rv, ha⟩
      · have z' := (if_neg hb).symm.trans z;cases z'
    · by_cases hb : b = a
      · exact hb
      · exact absurd (if_neg hb) z
theorem AL {l:PySem.W.OpenLaw} {n k:Nat} {q:Program} {loose:List Str} {XP:(Str->Option Value)->Heap->Prop} {YP:World->Heap->Prop} {d:DefRec} {K:Params->FG9} {CX:World->AF} {sp:World->Sp} {x:Str}
  (hn:l.most=some n) (hn2:n<=sizeLine) (hdf:d.params.defaults=[]) (hr:ju k callerA)
  (hY:∀(w:World) (h:Heap),YP w h->(K w.params).In h)
  (F:∀(w:World) (mg:Str->Option Value) (fa:Addr) (h:Heap),(K w.params).In h->h.Ns mainGlobals mg->mg d.name=some (.ref fa) →
   ∃fd:FuncData,(∀(s:Shared) (u:Value),BindsTo s fd ⟨[u],[]⟩ [(x,u)]) /\
    ∀base:Heap,(K w.params).In base->base.Ns mainGlobals mg->cZ l.prog w (K w.params) mg base (CX w) k fa fd [x] (sp w))
  (hsp:∀(w:World) (H:Hp) (a:Addr) (ns:List Int),ns.length<=n->Ek H->b6 (K w.params) H a (ns.map V.int)->sp w [.ref a] H (λv _=>v=.bl true) λ_ _ _=>False)
  (hCX:∀(w:World) (H:Hp) (s:Shared) (e:Value) (s':Shared),CX w [] H s (λ_ _ _=>False) e s'->False) :
  PySem.W.WalkO q loose XP YP l.row.toRowW d [] (λf vs=>PySem.call f vs):=by
 refine Att.wF hn hdf λw s₀ s₁ mg mb fa o pm cd doc a vs ns G Y ho hd hcd hmg hobj hints hlen hg=>?_
 have KX:=hY w _ Y;obtain ⟨fd,hb,hF⟩:=F w mg fa _ KX G.T.g hmg;exact Ab KX G.T.g G.T.b G.T.builtins G.T.nolimit hg hobj hints (ar hlen hn2) hr hF hb (λH hO hS=>hsp w H a ns hlen hO hS) λH e s'=>hCX w H s₁ e s'
end L2


namespace L2
open PySem PySem.Spec PyProof.Rows
def inClass (s:Stmt) (j:Nat):Stmt:=match s with
 | .ClassDef _ _ _ body _ _ _ _ _ _ _=>body.getD j (.Pass ⟨0,0,0,0⟩)
 | _=>.Pass ⟨0,0,0,0⟩
def bw (s:Stmt):Arguments:=match s with
 | .FunctionDef _ a _ _ _ _ _ _ _ _=>a
 | _=>{ posonlyargs:=[],args:=[],vararg:=none,kwonlyargs:=[],kw_defaults:=[],kwarg:=none,defaults:=[] }
def bp (s:Stmt):List Stmt:=match s with
 | .FunctionDef _ _ b _ _ _ _ _ _ _=>b
 | _=>[]
def aw (s:Stmt):Scope:=match s with
 | .FunctionDef _ _ _ _ _ _ sc _ _ _=>sc
 | _=>{ kind:=.function,names:=[],isGenerator:=false,isCoroutine:=false }
abbrev jT:AF:=λ_ _ _ _ _ _=>False
abbrev E0:XK:=λ_ _ _=>False
theorem vY {X:Cx}:qB jT X E0:=λ_ _ _ _ _ _ _ h=>h.elim
theorem dy {X:Cx} {k k':Nat} {f:Addr} {fd:FuncData} {ps:List Str} {sp:Sp} {x:Str} {p pos:Pos} {e:Expr} {es:List Expr} {t:TA} (F:cZ X.prog X.w X.K X.mg X.base jT k f fd ps sp) (hr:ju k' X.A) (hm:X.mg x=some (.ref f)) (hk:PySem.W.keepIn X.K (.ref f)=true) (hb:Binds X.K fd ps []) (ha:PA X (e::es) t) (hle:k<=k':=by decide) (hg:Gl X x:=by exact rfl) (hdb:(x==("__debug__":Str))=false:=by decide) (he:starEach (e::es) X.env=(false,eval e X.env)::starEach es X.env:=by rfl) (hpl:(backTo pos (starEach es X.env)).any (·.1)=false:=by rfl):PE X (.Call (.Name x p) (e::es) [] pos) (zz sp [] E0 t):=BA F (hr.mono hle) hg hm hk hb .nil vY ha hdb he hpl
structure kf (K:FG9) (x qual:Str) (st:Stmt) (f:Addr) (fd:FuncData):Prop where
 ex:∃(oc:Value) (od:Option Addr) (kV doc pm:Value) (an:Option Addr) (cdv ct:Value) (osl:Array (Option Value)),
  fd=PySem.W.fnOf x qual (bw st) (bp st) (aw st) .none kV doc pm an cdv ct/\K.lookup f=some ⟨oc,od,.func fd,osl⟩/\PySem.W.codeIn K cdv qual=true
 kp:PySem.W.keepIn K (.ref f)=true
section
variable {P:Program} {w:World} {K:FG9} {mg:Str->Option Value} {base:Heap}
theorem kf.ok {x qual:Str} {st:Stmt} {f:Addr} {fd:FuncData} {N ps:List Str} {k:Nat} {sp:Sp} (F:kf K x qual st f fd) (S:bx N ps (aw st)) (len:∀vs H Q E,sp vs H Q E->vs.length=ps.length)
  (hbody:∀(cdv:Value) (A:Around) (outer:List Env) (s:Shared) (H:Hp) (vs:List V) (Q:VK) (E:XK),ju k (A.deeper (envOfC qual (aw st) s.heap.objs.size f cdv))->sp vs H Q E →
   ∃t,xB (ze jT P w K mg base N qual (aw st) f cdv A outer s H E).nox (bp st) t/\t { nx:=λ_ H'=>Q .non H',rt:=Q } (start N vs) H):cZ P w K mg base jT (k+1) f fd ps sp:=by
 obtain ⟨oc,od,kV,doc,pm,an,cdv,ct,osl,rfl,lk,hcd⟩:=F.ex;refine Fl lk hcd S len λA outer s H vs Q E hr hsp=>?_
 obtain ⟨t,h,q⟩:=hbody cdv A outer s H vs Q E hr hsp;exact ⟨t,h.nox,q⟩
theorem kf.binds {x qual:Str} {st:Stmt} {f:Addr} {fd:FuncData} {ps:List Str} (F:kf K x qual st f fd)
  (h:∀(kV doc pm:Value) (an:Option Addr) (cdv ct:Value) (us:List Value),us.length=ps.length->bindArgs (PySem.W.fnOf x qual (bw st) (bp st) (aw st) .none kV doc pm an cdv ct) ⟨us,[]⟩=pure (ps.zip us)):Binds K fd ps []:=by
 obtain ⟨oc,od,kV,doc,pm,an,cdv,ct,osl,rfl,lk,hcd⟩:=F.ex;exact .all (h kV doc pm an cdv ct)
theorem bX {x qual:Str} {st:Stmt} {f:Addr} {oc:Value} {od an:Option Addr} {osl:Array (Option Value)} {kV doc pm cdv ct:Value} (l:K.lookup f=some ⟨oc,od,.func (PySem.W.fnOf x qual (bw st) (bp st) (aw st) .none kV doc pm an cdv ct),osl⟩)
  (c:PySem.W.codeIn K cdv qual=true) (k:PySem.W.keepIn K (.ref f)=true):kf K x qual st f (PySem.W.fnOf x qual (bw st) (bp st) (aw st) .none kV doc pm an cdv ct):=⟨⟨oc,od,kV,doc,pm,an,cdv,ct,osl,rfl,l,c⟩,k⟩
end
theorem bT {n:Nat} (h:n<=1000):n < sizeLine:=ba h (by decide)
section
variable {X:Cx}
theorem pv (i:Nat) {x:Str} {pos:Pos} (hN:X.N[i]?=some x:=by rfl) (hv:GA X.env.scope x:=by first | exact Or.inl rfl | exact Or.inr (Or.inl rfl) | exact Or.inr (Or.inr rfl)) (hd:(x == ("__debug__":Str))=false:=by decide)
  (hcd:(x == ("__classdict__":Str))=false:=by decide):PE X (.Name x pos) (Dq i):=DU hN hv hd hcd
end
theorem BJ {A B:Prop} (h:B):if false=true then A else B:=by
 rw[if_neg aU];exact h
theorem Gx {A B:Prop} (h:A):if true=true then A else B:=by
 rw[if_pos rfl];exact h
theorem ij {c A B:Prop} [Decidable c] (h1:c->A) (h2:¬c->B):if c then A else B:=by
 by_cases h:c
 ·rw[if_pos h];exact h1 h
 ·rw[if_neg h];exact h2 h
def aF (H H':Hp):Prop:=∀b o,H b=some o->H' b=some o
theorem aF.refl (H:Hp):aF H H:=λ_ _ h=>h
theorem aF.trans {H H1 H2:Hp} (a:aF H H1) (b:aF H1 H2):aF H H2:=λc o h=>b c o (a c o h)
theorem aF.free {H H':Hp} (e:aF H H') {l:Addr} (h:H' l=Option.none):H l=Option.none:=by
 cases q:H l with
 | none=>rfl
 | some o =>
  rw[e l o q] at h;cases h
end L2
namespace Nm
theorem Ai (a b:Int):Int.gcd b (a.fmod b)=Int.gcd a b:=by
 rw[Int.fmod_def,ja a b];apply Nat.dvd_antisymm
 ·apply AB
  ·exact dv ..
  ·have h1:=dv (a:=b) (b:=a - b*a.fdiv b);have h2:=dE (a:=b) (b:=a - b*a.fdiv b);have h3:=Int.dvd_add h2 (ke (c:=a.fdiv b) h1);rwa [Int.sub_add_cancel] at h3
 ·apply AB
  ·exact dv ..
  ·exact Int.dvd_sub (dE ..) (ke (dv ..))
theorem Aj (a b:Int):Int.gcd b (a % b)=Int.gcd a b:=by
 rw[Int.emod_def,ja a b];apply Nat.dvd_antisymm
 ·apply AB
  ·exact dv ..
  ·have h1:=dv (a:=b) (b:=a - b*(a / b));have h2:=dE (a:=b) (b:=a - b*(a / b));have h3:=Int.dvd_add h2 (ke (c:=a / b) h1);rwa [Int.sub_add_cancel] at h3
 ·apply AB
  ·exact dv ..
  ·exact Int.dvd_sub (dE ..) (ke (dv ..))
theorem BN (a b:Int) (h:b≠0):(a.fmod b).natAbs < b.natAbs:=by
 rcases Int.lt_or_gt_of_ne h with h | h
 ·have e:a.fmod b=-((-a).fmod (-b)):=by
   have:=Int.neg_fmod_neg (-a) (-b);simp only[Int.neg_neg] at this;exact this
  have h1:=Int.fmod_nonneg_of_pos (-a) (b:=-b) (by lia);have h2:=Int.fmod_lt_of_pos (-a) (b:=-b) (by lia)
  lia
 ·have h1:=Int.fmod_nonneg_of_pos a h;have h2:=Int.fmod_lt_of_pos a h
  lia
def g (t b:Int):Int:=(Int.gcd t b:Int)
def lo (t b:Int):Int:=t / g t b
def hi (t b:Int):Int:=b / g t b
theorem sI {t b:Int} (h:b≠0):0 < g t b:=by
 unfold g;have:0 < Int.gcd t b:=AI _ h
 lia
theorem sG (t b:Int):lo t b*g t b=t:=Int.ediv_mul_cancel (dv ..)
theorem ql (t b:Int):hi t b*g t b=b:=Int.ediv_mul_cancel (dE ..)
theorem u9 {t b:Int} (h:0 < b):0 < hi t b:=by
 have h1:=sI (t:=t) (b:=b) (by lia);have h2:=ql t b;by_cases h3:0 < hi t b
 ·exact h3
 ·have:hi t b*g t b<=0:=wO (by lia) (by lia)
  lia
theorem sE {t b:Int} (h:b≠0):Int.gcd (lo t b) (hi t b)=1:=by
 have h1:=sI (t:=t) h;have e:=Int.gcd_mul_right (lo t b) (g t b) (hi t b);rw[sG,ql] at e;have e2:(g t b).natAbs=Int.gcd t b:=by unfold g;simp
 rw[e2] at e;have h2:0 < Int.gcd t b:=AI _ h;exact Nat.eq_of_mul_eq_mul_right h2 (by rw[<- e,uv])
theorem sF (t b : Int) : lo t b * b = t * hi t b := by
  have h1 := sG t b;have h2 := ql t b
  calc lo t b * b = lo t b * (hi t b * g t b) := by rw [h2]
    _ = (lo t b * g t b) * hi t b := by rw [dJ (hi t b), <- cM]
    _ = t * hi t b := by rw [h1]
theorem lZ {a b c:Int} (h:Int.gcd a b=1) (hd:a∣b*c):a∣c:=by
 have h1:a.natAbs∣b.natAbs*c.natAbs:=by rw[<- cL];exact cJ.mpr hd
 have h2:Nat.Coprime a.natAbs b.natAbs:=h;exact cJ.mp (h2.dvd_of_dvd_mul_left h1)
theorem uniq {a b c d:Int} (hb:0 < b) (hd:0 < d) (h1:Int.gcd a b=1) (h2:Int.gcd c d=1) (e:a*d=c*b):a=c/\b=d:=by
 have e1:b∣d:=by
  have:b∣a*d:=⟨c,by rw[e,dJ]⟩;exact lZ (by rw[ja];exact h1) this
 have e2:d∣b:=by
  have:d∣c*b:=⟨a,by rw[<- e,dJ]⟩;exact lZ (by rw[ja];exact h2) this
 have e3:b=d:=Int.dvd_antisymm (by lia) (by lia) e1 e2;subst e3;exact ⟨oH (by lia) e,rfl⟩
theorem D4 {t b c d : Int} (hb : 0 < b) (hd : 0 < d) (h2 : Int.gcd c d = 1) (e : t * d = c * b) : lo t b = c /\ hi t b = d := by
  refine uniq (u9 hb) hd (sE (by lia)) h2 ?_;have h := sF t b;have hb' : b ≠ 0 := by lia
  apply oH hb'
  calc lo t b * d * b = lo t b * b * d := by rw [cM, dJ d b, <- cM]
    _ = t * hi t b * d := by rw [h]
    _ = t * d * hi t b := by rw [cM, dJ (hi t b), <- cM]
    _ = c * b * hi t b := by rw [e]
    _ = c * hi t b * b := by rw [cM, dJ b, <- cM]
theorem D5 {a b:Int} (hb:0 < b) (h:Int.gcd a b=1):lo a b=a/\hi a b=b:=D4 hb hb h rfl
theorem lA {a b:Int} (h:b≠0):a.natAbs<=(a*b).natAbs:=by
 rw[cL];exact cR _ (Int.natAbs_pos.mpr h)
theorem lo_le {t b:Int} (h:b≠0):(lo t b).natAbs<=t.natAbs:=by
 have:=lA (a:=lo t b) (b:=g t b) (by have:=sI (t:=t) h;lia);rwa [sG] at this
theorem Cw {t b:Int} (h:b≠0):(hi t b).natAbs<=b.natAbs:=by
 have:=lA (a:=hi t b) (b:=g t b) (by have:=sI (t:=t) h;lia);rwa [ql] at this
def Sz (k:Nat) (x:Int):Prop:=x.natAbs < 2^k
theorem Sz.mono {j k:Nat} {x:Int} (h:Sz j x) (l:j<=k):Sz k x:=aP h (ao (by decide) l)
theorem Sz.mul {j k:Nat} {x y:Int} (h1:Sz j x) (h2:Sz k y):Sz (j+k) (x*y):=by
 unfold Sz at *
 rw[cL,cG];exact Nat.mul_lt_mul'' h1 h2
theorem Sz.neg {k:Nat} {x:Int} (h:Sz k x):Sz k (-x):=by unfold Sz at *;rw[Int.natAbs_neg];exact h
theorem Sz.le {k:Nat} {x y:Int} (h:Sz k y) (l:x.natAbs<=y.natAbs):Sz k x:=ba l h
theorem Sz.hi {k:Nat} {t b:Int} (h:Sz k b) (hb:b≠0):Sz k (hi t b):=h.le (Cw hb)
end Nm
namespace L2
open PySem PySem.Spec PyProof.Rows
structure Bk (env:Env) (scope:Scope) (own capN:List Str):Prop where
 kind:scope.kind=.function
 locs:∀y∈scope.names,y.2=.local->scope.names.lookup y.1=some .local
 ownk:∀x∈own,scope.names.lookup x=some .local\/scope.names.lookup x=some .cell
 cells:∀y∈scope.names,y.2=.cell->y.1∈own/\y.1∉capN
 frees:∀y∈scope.names,y.2=.free->y.1∈capN/\y.1∉own
 capf:∀x∈capN,scope.names.lookup x=some .free
 caps:∀x∈capN,env.kindOf x=some .cell\/env.kindOf x=some .free
def FU (scope:Scope) (own capN:List Str):Bool :=
 decide (scope.kind=.function) && scope.names.all (λy=>decide (y.2=.local->scope.names.lookup y.1=some .local) && decide (y.2=.cell->y.1∈own/\y.1∉capN) && decide (y.2=.free->y.1∈capN/\y.1∉own)) &&
 own.all (λx=>decide (scope.names.lookup x=some .local\/scope.names.lookup x=some .cell)) && capN.all λx=>decide (scope.names.lookup x=some .free)
def uk (env:Env):List Str->Bool
 | []=>true
 | x :: r=>(match env.kindOf x with | some .cell=>true | some .free=>true | _=>false) && uk env r
theorem wx {env:Env}:∀{capN:List Str},uk env capN=true->∀x∈capN,env.kindOf x=some .cell\/env.kindOf x=some .free
 | [],_,_,h=>nomatch h
 | y :: r,h,x,hx=>by
  unfold uk at h;rw[dQ] at h;rcases aN.mp hx with e | hx
  ·subst e;have h1:=h.1
   split at h1
   ·rename_i e;exact .inl e
   ·rename_i e;exact .inr e
   ·cases h1
  ·exact wx h.2 x hx
theorem Bk.of {env:Env} {scope:Scope} {own capN:List Str} (h1:FU scope own capN=true) (h2:uk env capN=true):Bk env scope own capN:=by
 unfold FU at h1;rw[dQ,dQ,dQ,qX,qX,qX] at h1;obtain ⟨⟨⟨a1,a2⟩,a3⟩,a4⟩:=h1
 have a2':∀y∈scope.names,(y.2=.local->scope.names.lookup y.1=some .local)/\(y.2=.cell->y.1∈own/\y.1∉capN)/\(y.2=.free->y.1∈capN/\y.1∉own):=λy hy=>by
  have q:=a2 y hy;rw[dQ,dQ] at q;exact ⟨of_decide_eq_true q.1.1,of_decide_eq_true q.1.2,of_decide_eq_true q.2⟩
 exact ⟨of_decide_eq_true a1,λy hy=>(a2' y hy).1,λx hx=>of_decide_eq_true (a3 x hx),λy hy=>(a2' y hy).2.1,λy hy=>(a2' y hy).2.2,λx hx=>of_decide_eq_true (a4 x hx),wx h2⟩
def cY (env:Env):List (Str×NameKind)->List (Str×Addr)->List (Str×Addr)
 | [],acc=>acc
 | (n,k) :: r,acc=>if k == .free then cY env r ((n,(env.cells.lookup n).getD 0) :: acc) else cY env r acc
theorem ft (env:Env):∀(names:List (Str×NameKind)) (acc:List (Str×Addr)),cY env names acc=cY env names []++acc
 | [],_=>rfl
 | (n,k) :: r,acc=>by
  unfold cY
  split
  ·rw[ft env r (_ :: acc),ft env r [_],p3];rfl
  ·exact ft env r acc
theorem mo (env:Env):∀(names:List (Str×NameKind)) {x:Str} {c:Addr},(x,c)∈cY env names []->(x,NameKind.free)∈names/\c=(env.cells.lookup x).getD 0
 | [],_,_,h=>nomatch h
 | (n,k) :: r,x,c,h=>by
  unfold cY at h
  split at h
  ·rename_i hk
   have ek:k=.free:=by simpa using hk
   subst ek;rw[ft] at h;rcases aL.mp h with h | h
   ·have q:=mo env r h;exact ⟨bq _ q.1,q.2⟩
   ·have e:(x,c)=(n,(env.cells.lookup n).getD 0):=by simpa using h
    cases e;exact ⟨cz,rfl⟩
  ·have q:=mo env r h;exact ⟨bq _ q.1,q.2⟩
theorem fR {α:Type}:∀{l:List (Str×α)} {x:Str} {c:α},(x,c)∈l->∃d,l.lookup x=some d
 | (k,v) :: r,x,c,h=>by
  rw[i5];cases hb:x == k with
  | true=>exact ⟨v,rfl⟩
  | false =>
   rcases aN.mp h with e | h
   ·cases e;simp at hb
   ·exact fR h
theorem mr (env:Env):∀(names:List (Str×NameKind)) {x:Str},(x,NameKind.free)∈names->∃c,(x,c)∈cY env names []
 | (n,k) :: r,x,h=>by
  unfold cY;rcases aN.mp h with e | h
  ·cases e;rw[if_pos (by decide),ft];exact ⟨_,bG _ cz⟩
  ·obtain ⟨c,q⟩:=mr env r h
   split
   ·rw[ft];exact ⟨c,uw _ q⟩
   ·exact ⟨c,q⟩
theorem sJ {scope : Scope} {env : Env} (h : ∀ y ∈ scope.names, y.2 = .free → ∃ c, env.cells.lookup y.1 = some c) : closureFor scope env = pure (cY env scope.names []) := by
  have gen : ∀ (names : List (Str × NameKind)) (acc : List (Str × Addr)) (f : Str × NameKind → List (Str × Addr) → Sem (ForInStep (List (Str × Addr)))),
      (∀ name kind cells, f (name, kind) cells = if kind == .free then (do let a <- cellOf env name; pure (.yield ((name, a) :: cells))) else pure (.yield cells)) →
      (∀ y ∈ names, y.2 = .free → ∃ c, env.cells.lookup y.1 = some c) → forIn names acc f = pure (cY env names acc) := by
    intro names
    induction names with
    | nil => intro acc f hf _; rw [List.forIn_nil]; rfl
    | cons y r ih =>
      intro acc f hf hh;obtain ⟨n, k⟩ := y;rw [List.forIn_cons, hf];unfold cY;by_cases hk : (k == NameKind.free) = true
      · obtain ⟨c, hc⟩ := hh (n, k) cz (by simpa using hk);have hc' : env.cells.lookup n = some c := hc;have e : cellOf env n = pure c := by unfold cellOf; rw [hc']
        rw [if_pos hk, if_pos hk, e, hc'];simp only [pure_bind, Option.getD_some];exact ih _ f hf λy hy => hh y (bq _ hy)
      · rw [if_neg hk, if_neg hk];simp only [pure_bind];exact ih _ f hf λy hy => hh y (bq _ hy)
  simp only [closureFor];rw [gen scope.names [] _ (λname kind cells => by cases hkc : kind == NameKind.free <;> simp [hkc]) h];rfl

theorem dG:∀(names:List (Str×NameKind)) (n:Nat) (acc:List (Str×Addr)),cellsFrom n names acc=cellsFrom n names []++acc
 | [],_,_=>rfl
 | (x,k) :: r,n,acc=>by
  unfold cellsFrom
  split
  ·rw[dG r (n+1) (_ :: acc),dG r (n+1) [_],p3];rfl
  ·exact dG r n acc
theorem iQ:∀(names:List (Str×NameKind)) (n:Nat) {x:Str} {c:Addr},(x,c)∈cellsFrom n names []->(x,NameKind.cell)∈names
 | [],_,_,_,h=>nomatch h
 | (y,k) :: r,n,x,c,h=>by
  unfold cellsFrom at h
  split at h
  ·rename_i hk
   have ek:k=.cell:=by simpa using hk
   subst ek;rw[dG] at h;rcases aL.mp h with h | h
   ·exact bq _ (iQ r _ h)
   ·have e:(x,c)=(y,n):=by simpa using h
    cases e;exact cz
  ·exact bq _ (iQ r _ h)
def qr (env:Env) (scope:Scope) (C:Addr):Env :=
 { scope:=relabel scope env,locals:=C,globals:=env.globals,cells:=cellsFrom (C+1) scope.names (cY env scope.names []),qual:=env.qual,func:=none,code:=env.code,frame:=env.frame,builtins:=env.builtins }
theorem v9 {M:Model} {A:Around} {E:Value->Shared->Prop} {s:Shared} {scope:Scope} {g:Addr} {cl:List (Str×Addr)} {qual:Str} {env:Env} {Q:Env->Shared->Prop}
  (h:Q (newEnv scope s.heap.objs.size g (cellsFrom (s.heap.objs.size+1) scope.names cl) qual none .none (some env) builtinsNs) { s with heap:=pushCells (s.heap.push { cls:=.type "dict",data:=.dict #[] }) scope.names }) :
  wpAny M A (newFunctionEnv scope g cl [] qual none .none (some env)) Q E s:=by
 simp only[newFunctionEnv,Option.isSome_some,if_true];refine wpAny_bind (wpAny_alloc ?_);refine wpAny_bind (wpAny_layCells _ (λname kind cells=>by cases hkc:kind == NameKind.cell <;> simp [hkc]) _ _ _ _ ?_);rw[show ({ s with heap:=s.heap.push { cls:=.type "dict",data:=.dict #[] } }:Shared).heap.objs.size=s.heap.objs.size+1 from Heap.size_push ..];rw[List.forIn_nil];exact wpAny_bind (wpAny_pure (wpAny_pure h))
theorem o7 {scope:Scope} {env:Env} {x:Str}:∀{k:NameKind},(relabel scope env).names.lookup x=some k->∃k0,scope.names.lookup x=some k0/\(k=k0\/(k0=.free/\k=.cell)):=by
 unfold relabel;show ∀{k:NameKind},(scope.names.map λ(n,k)=>if (k == NameKind.free && env.scope.kind == .function && env.kindOf n == some .cell) then (n,NameKind.cell) else (n,k)).lookup x=some k->_
 induction scope.names with
 | nil=>intro k h;cases h
 | cons y r ih =>
  intro k h;obtain ⟨n,k1⟩:=y;rw[jz,i5] at h;rw[i5];by_cases hc:(k1 == NameKind.free && env.scope.kind == .function && env.kindOf n == some .cell)=true
  ·simp only[hc,if_true] at h;cases hb:x == n with
   | true =>
    simp only[hb] at h
    have e1:k1=.free:=by
     rw[dQ,dQ] at hc;simpa using hc.1.1
    cases h;exact ⟨k1,rfl,.inr ⟨e1,rfl⟩⟩
   | false=>simp only[hb] at h;exact ih h
  ·have hc':(k1 == NameKind.free && env.scope.kind == .function && env.kindOf n == some .cell)=false:=by simpa using hc
   simp only[hc',wQ,if_false] at h;cases hb:x == n with
   | true=>simp only[hb] at h;cases h;exact ⟨_,rfl,.inl rfl⟩
   | false=>simp only[hb] at h;exact ih h
theorem vR {scope:Scope} {env:Env} {x:Str}:scope.names.lookup x=some .free->(relabel scope env).names.lookup x=some .cell\/(relabel scope env).names.lookup x=some .free:=by
 unfold relabel;show _->(scope.names.map λ(n,k)=>if (k == NameKind.free && env.scope.kind == .function && env.kindOf n == some .cell) then (n,NameKind.cell) else (n,k)).lookup x=some .cell\/(scope.names.map λ(n,k)=>if (k == NameKind.free && env.scope.kind == .function && env.kindOf n == some .cell) then (n,NameKind.cell) else (n,k)).lookup x=some .free
 induction scope.names with
 | nil=>intro h;cases h
 | cons y r ih =>
  intro h;obtain ⟨n,k1⟩:=y;rw[i5] at h;rw[jz];by_cases hc:(k1 == NameKind.free && env.scope.kind == .function && env.kindOf n == some .cell)=true
  ·simp only[hc,if_true,i5];cases hb:x == n with
   | true=>exact .inl rfl
   | false=>rw[hb] at h;exact ih h
  ·have hc':(k1 == NameKind.free && env.scope.kind == .function && env.kindOf n == some .cell)=false:=by simpa using hc
   simp only[hc',wQ,if_false,i5];cases hb:x == n with
   | true=>rw[hb] at h;cases h;exact .inr rfl
   | false=>rw[hb] at h;exact ih h
structure Bz where
 s:Shared
 H:Hp
 fp:List Addr
 C:Addr
def rf (X:Cx) (own capN:List Str) (scope:Scope) (Z:Bz):Cx where
 prog:=X.prog
 w:=X.w
 K:=X.K
 mg:=X.mg
 base:=X.base
 A:=X.A
 N:=own++capN
 s₀:=Z.s
 H₀:=Z.H
 env:=qr X.env scope Z.C
 outer:=X.stack
 stack:=X.stack
 ex:=Z.fp
 fn:=λx=>own.contains x
 calm:=true
 pn:=[]
 xe:=λ_ _=>False
section
variable {X:Cx} {pins:List (Addr×Obj)} {σ:St} {own capN:List Str} {scope:Scope} {Z:Bz}
theorem gM (B:Bk X.env scope own capN) (I:Inv X pins σ Z.H Z.s) {x:Str} {c:Addr} (h:(qr X.env scope Z.C).cells.lookup x=some c) :
  (x∈own/\(x,c)∈cellsFrom (Z.C+1) scope.names [])\/(x∈capN/\x∉own/\X.env.cells.lookup x=some c):=by
 have h':(cellsFrom (Z.C+1) scope.names (cY X.env scope.names [])).lookup x=some c:=h;rw[dG] at h';rcases aL.mp (mem_of_lookup h') with m | m
 ·exact .inl ⟨(B.cells _ (iQ _ _ m) rfl).1,m⟩
 ·obtain ⟨m1,e⟩:=mo _ _ m;obtain ⟨q1,q2⟩:=B.frees _ m1 rfl;obtain ⟨d,hd⟩:=I.ok.has x (B.caps x q1);rw[hd] at e;exact .inr ⟨q1,q2,by rw[hd,e];rfl⟩
theorem B6 (B:Bk X.env scope own capN) (I:Inv X pins σ Z.H Z.s) {x:Str} {c:Addr} (hx:x∈capN) (h:X.env.cells.lookup x=some c):(qr X.env scope Z.C).cells.lookup x=some c:=by
 have hm:(x,NameKind.free)∈scope.names:=mem_of_lookup (B.capf x hx);obtain ⟨c1,m1⟩:=mr X.env scope.names hm
 have hs:∃d,(qr X.env scope Z.C).cells.lookup x=some d:=by
  show ∃d,(cellsFrom (Z.C+1) scope.names (cY X.env scope.names [])).lookup x=some d
  rw[dG];exact fR (bG _ m1)
 obtain ⟨d,hd⟩:=hs;rcases gM B I hd with ⟨q,m⟩ | ⟨_,_,q⟩
 ·exact absurd hx (B.cells _ (iQ _ _ m) rfl).2
 ·rw[h] at q;cases q;exact hd
theorem yQ (h:Heap) (C:Addr) (hC:h.objs.size=C+1) (names:List (Str×NameKind)):CellsOk (pushCells h names) (C+1) (cellsFrom (C+1) names []):=by
 have q:=cellsFrom_ok names h (C+1) [] ⟨λ_ _ hm=>(nomatch hm),List.Pairwise.nil⟩ (by rw[hC];exact ay _);rwa [hC] at q
theorem vg (I:Inv X pins σ Z.H Z.s) {x:Str} {c:Addr} (h:X.env.cells.lookup x=some c):@LT.lt Nat instLTNat c Z.s.heap.objs.size:=by
 obtain ⟨v,q⟩:=I.cell x c h;exact q.lt
theorem Eg {h1:Heap} (I:Inv X pins σ Z.H Z.s) (hc:X.calm=true) (B:Bk X.env scope own capN) (hC:Z.s.heap.objs.size<=Z.C) (hcl:CellsOk h1 (Z.C+1) (cellsFrom (Z.C+1) scope.names []))
  (hf:∀b∈Z.fp,m3 X pins Z.H b/\@LT.lt Nat instLTNat b Z.s.heap.objs.size):(rf X own capN scope Z).Ok:=by
 refine ⟨I.ok.mod,B.kind,I.ok.glob,I.ok.blt,hC,λx y c h1 h2=>?_,λx hx=>?_,λx c hx h=>?_,λ_=>I.ok.hd hc,I.ok.frames,.inl rfl,λb hb=>⟨?_,λx c h=>?_⟩,I.bs,ar I.ok.bsz I.sz,λb o e hb=>?_,λb hb hz=>?_,I.stack,I.stkFree⟩
 ·rcases gM B I h1 with ⟨q1,m1⟩ | ⟨q1,n1,m1⟩ <;> rcases gM B I h2 with ⟨q2,m2⟩ | ⟨q2,n2,m2⟩
  ·exact name_of_addr hcl.apart m1 m2
  ·have l1:=(hcl.empty _ _ m1).2;have l2:=vg I m2
   lia
  ·have l1:=(hcl.empty _ _ m2).2;have l2:=vg I m1
   lia
  ·exact I.ok.inj x y c m1 m2
 ·have hx':(relabel scope X.env).names.lookup x=some .cell\/(relabel scope X.env).names.lookup x=some .free:=hx
  have hk:scope.names.lookup x=some .cell\/scope.names.lookup x=some .free:=by
   rcases hx' with h | h
   ·obtain ⟨k0,e,q | ⟨q,_⟩⟩:=o7 h
    ·exact .inl (by rw[e,<- q])
    ·exact .inr (by rw[e,q])
   ·obtain ⟨k0,e,q | ⟨_,q⟩⟩:=o7 h
    ·exact .inr (by rw[e,<- q])
    ·cases q
  show ∃c,(cellsFrom (Z.C+1) scope.names (cY X.env scope.names [])).lookup x=some c
  rcases hk with h | h
  ·exact Ex.mp (rB scope.names (Z.C+1) _ (.inl h))
  ·obtain ⟨c,m⟩:=mr X.env scope.names (mem_of_lookup h);rw[dG];exact fR (bG _ m)
 ·have ho:x∈own:=by have hx':own.contains x=true:=hx;simpa using hx'
  rcases gM B I h with ⟨_,m⟩ | ⟨_,n,_⟩
  ·have:=(hcl.empty _ _ m).2;have hC':Z.s.heap.objs.size<=Z.C:=hC;show Z.s.heap.objs.size<=c
   lia
  ·exact absurd ho n
 ·intro e;have e':@Eq Nat b Z.C:=e;have:=(hf b hb).2
  lia
 ·have l:=(hf b hb).2;rcases gM B I h with ⟨_,m⟩ | ⟨_,_,m⟩
  ·intro e;have e':@Eq Nat c b:=e;have:=(hcl.empty _ _ m).2
   lia
  ·exact (hf b hb).1.2.2.2.2.1 x c m
 ·obtain ⟨_,_,_,f3,_⟩:=(hf b hb).1;rcases f3 with f3 | f3
  ·exact I.ok.noex b o e f3
  ·exact absurd (aP (Heap.lt_size e) (ar I.ok.bsz f3)) (dw _)
 ·obtain ⟨_,f1,f2,_⟩:=(hf b hb).1;rcases aN.mp (I.stkSub b hz) with e | e
  ·exact f1 e
  ·exact f2 e
def zh (k:Nat) (cap:List Nat) (σ:St):St:=List.replicate k none++cap.map λj=>(σ[j]?).join
def qW (X:Cx) (capN:List Str) (cap:List Nat):Prop:=cap.map (λj=>X.N[j]?)=capN.map some
theorem qW.get {cap:List Nat} (h:qW X capN cap) {i:Nat} {x:Str} (e:capN[i]?=some x):∃j,cap[i]?=some j/\X.N[j]?=some x:=by
 have q:=congrArg (λl=>l[i]?) h;simp only[aD,e,Option.map_some] at q;cases hc:cap[i]? with
 | none=>rw[hc] at q;cases q
 | some j=>rw[hc] at q;exact ⟨j,rfl,by simpa using q⟩
theorem wy {cap:List Nat} {h':Heap} {m:Str->Option Value} (I:Inv X pins σ Z.H Z.s) (B:Bk X.env scope own capN) (hcap:qW X capN cap)
  (kc:∀x c,X.env.cells.lookup x=some c->∀v,Z.s.heap.IsCell c v->h'.IsCell c v) {i:Nat} {x:Str} {v:V} (e1:(own++capN)[i]?=some x) (e2:(zh own.length cap σ)[i]?=some (some v)) :
  ∃u,RelV v u/\Look (qr X.env scope Z.C) h' m x u:=by
 have hi:own.length<=i:=by
  by_cases hi:own.length<=i
  ·exact hi
  ·exfalso
   unfold zh at e2;rw[Er (by simpa using hi),dD] at e2
   split at e2 <;> cases e2
 rw[oG hi] at e1;unfold zh at e2;rw[oG (by simpa using hi),gT,aD] at e2;obtain ⟨j,hj,hN⟩:=hcap.get e1;rw[hj] at e2;have e3:(σ[j]?).join=some v:=by simpa using e2
 have e4:σ[j]?=some (some v):=by
  cases q:σ[j]? with
  | none=>rw[q] at e3;cases e3
  | some o=>rw[q] at e3;simp at e3;rw[e3]
 have hx:x∈capN:=av e1;have hk:=B.caps x hx;obtain ⟨m0,_,hl⟩:=I.loc;obtain ⟨u,r,l⟩:=hl j x v hN e4 (.inr hk);refine ⟨u,r,.inr ⟨vR (B.capf x hx),?_⟩⟩;rcases l with ⟨hk2,_⟩ | ⟨_,c,hc,z⟩
 ·rcases hk with hk | hk
  ·rw[hk] at hk2;cases hk2
  ·rw[hk] at hk2;cases hk2
 ·exact ⟨c,B6 B I hx hc,kc x c hc _ z⟩
theorem Fk (I:Inv X pins σ Z.H Z.s) {b:Addr} (h:b∈zi X.stack):@LT.lt Nat instLTNat b Z.s.heap.objs.size:=by
 obtain ⟨_,o,ho,_⟩:=I.stack.mem h;exact Heap.lt_size ho
theorem BY {cap:List Nat} {h1:Heap} {D:Addr} {oD:Obj} {t1:Nat} (I:Inv X pins σ Z.H Z.s) (hc:X.calm=true) (B:Bk X.env scope own capN) (hcap:qW X capN cap) (hC:Z.s.heap.objs.size<=Z.C)
  (hcl:CellsOk h1 (Z.C+1) (cellsFrom (Z.C+1) scope.names [])) (hf:∀b∈Z.fp,m3 X pins Z.H b/\@LT.lt Nat instLTNat b Z.s.heap.objs.size)
  (hk:∀b o,Z.s.heap.get? b=some o->h1.get? b=some o) (hn:h1.Ns Z.C λ_=>none) (hD:Z.s.heap.objs.size<=D) (hDC:D≠Z.C) (hoD:h1.get? D=some oD) (hdD:∀v,oD.data≠.cell v) :
  Inv (rf X own capN scope Z) [(D,oD)] (zh own.length cap σ) Z.H { Z.s with heap:=h1,toks:=t1 }:=by
 refine ⟨Eg I hc B hC hcl hf,rfl,I.bare,Un.kept hk,⟨_,hn,λi x v e1 e2 _=>wy I B hcap (λx c _ v z=>z.keeps hk) e1 e2⟩,λx c h=>?_,I.hok.fresh hC,λx c h=>?_,λp hp=>?_,I.hok.kept hk,?_⟩
 ·rcases gM B I h with ⟨_,m⟩ | ⟨_,_,m⟩
  ·exact ⟨none,(hcl.empty _ _ m).1⟩
  ·obtain ⟨v,q⟩:=I.cell x c m;exact ⟨v,q.keeps hk⟩
 ·rcases gM B I h with ⟨_,m⟩ | ⟨_,_,m⟩
  ·exact I.hok.fresh (by have:=(hcl.empty _ _ m).2;lia)
  ·exact I.freeC x c m
 ·have e:p=(D,oD):=by simpa [rf] using hp
  subst e;exact ⟨hoD,I.hok.fresh hD,hDC,λz=>dw _ (aP (Fk I z) hD),hdD⟩
 ·show (zh own.length cap σ).length=(own++capN).length
  have:=congrArg List.length hcap;simp only[aj] at this;unfold zh;simp [this]
theorem Av {cap:List Nat} {pins':List (Addr×Obj)} {σ':St} {H':Hp} {s':Shared} (I:Inv X pins σ Z.H Z.s) (B:Bk X.env scope own capN) (hcap:qW X capN cap) (hf:∀b∈Z.fp,m3 X pins Z.H b/\@LT.lt Nat instLTNat b Z.s.heap.objs.size)
  (J:Inv (rf X own capN scope Z) pins' σ' H' s'):Inv (rf X own capN scope Z) pins' (zh own.length cap σ) H' s':=by
 refine ⟨J.ok,J.os,J.bare,J.base,?_,J.cell,J.free,J.freeC,J.pin,J.hok,?_⟩
 ·obtain ⟨m,hn,_⟩:=J.loc;refine ⟨m,hn,λi x v e1 e2 _=>wy I B hcap (λx c hx v z=>?_) e1 e2⟩;obtain ⟨o,ho,hd⟩:=z;obtain ⟨sl,e⟩:=J.base.any ho (I.freeC x c hx) λz=>(hf c z).1.2.2.2.2.1 x c hx rfl
  exact ⟨_,e,hd⟩
 ·show (zh own.length cap σ).length=(own++capN).length
  have:=congrArg List.length hcap;simp only[aj] at this;unfold zh;simp [this]
theorem BZ {σ':St} {H':Hp} {s':Shared} {D:Addr} {its:List Value} {n:Nat} {ys:List V} (I:Inv X pins σ Z.H Z.s) (hf:∀b∈Z.fp,m3 X pins Z.H b/\@LT.lt Nat instLTNat b Z.s.heap.objs.size) (hD:Z.s.heap.objs.size<=D)
  (J:Inv (rf X own capN scope Z) [(D,{ cls:=.type "list",data:=.seq its.toArray n })] σ' H' s') (r:b7 ys its) (hz:ys.length<=sizeLine) :
  Inv X pins σ (upd H' D (.lst ys)) s':=by
 have pD:=J.pin (D,{ cls:=.type "list",data:=.seq its.toArray n }) (by simp);have ne:∀{b:Addr} {o:Obj},Z.s.heap.get? b=some o->b≠D:=λe z=>by subst z;exact dw _ (aP (Heap.lt_size e) hD)
 have nt:∀{b:Addr} {u:HO},H' b=some u->b≠D:=λe z=>by rw[z,pD.2.1] at e;cases e
 refine I.call' (ch:=Z.fp) J.os ⟨J.base.keep,J.base.slot,λb o e h hx=>?_,J.base.there,λb xs e=>?_,λb o u e=>?_,λb ps e=>?_⟩ (λb u e=>?_) J.bare λb hb=>?_
 ·rw[aS (ne e)];exact J.base.free b o e h hx
 ·have q:=J.base.tups b xs e;rw[aS (nt q)];exact q
 ·have q:=J.base.frzs b o u e;rw[aS (nt q)];exact q
 ·obtain ⟨more,q⟩:=J.base.tbls b ps e;exact ⟨more,by rw[aS (nt q)];exact q⟩
 ·by_cases hb:b=D
  ·subst hb;rw[aE] at e;cases e;exact ⟨hz,its,n,r,pD.1⟩
  ·rw[aS hb] at e;exact (J.hok b u e).stay (λc v _ q=>q) (λc q=>by rw[aS (nt q)];exact q) λc xs q=>by rw[aS (nt q)];exact q
 ·obtain ⟨_,f1,_,f3,f4,f5⟩:=(hf b hb).1;exact ⟨f3,f1,f4,f5⟩
end
theorem Dp {α:Type} {t:Sem α} {Q Q':α->Shared->Prop} {M:Model} {A:Around} {E:Value->Shared->Prop} {s:Shared} (h:wpAny M A t Q (λ_ _=>False) s) (hQ:∀a s,Q a s->Q' a s):wpAny M A t Q' E s :=
 wpAny_mono h hQ λ_ _ z=>False.elim z
theorem vf {prog : Program} {w : World} {A : Around} {R : Result → Shared → Prop} {s : Shared} {elt target iter : Expr} {ifs : List Expr} {scope : Scope} {pos : Pos} {it acc : Value} {env : Env} (I : Nat → Shared → Prop)
    (turn : ∀ (E : Value → Shared → Prop) n s, I n s → wpAny (model prog w) A (pyNext it) (λr s₁ => match r with
      | none => R (.ok .next) s₁
      | some v => wpAny (model prog w) A (letOwnedTupleGo target it v) (λ_ s₂ => wpAny (model prog w) A (assign target env v) (λ_ s₃ =>
          wpAny (model prog w) A (forIn ifs true λc r => if r = true then do let ok <- isTrue c env (eval c env); pure (ForInStep.yield ok) else pure (ForInStep.yield r)) (λok s₄ =>
            if ok = true then wpAny (model prog w) A (eval elt env) (λx s₅ => wpAny (model prog w) A (call (.builtin "list.append") [acc, x]) (λ_ s₆ => ∃ m, m < n /\ I m s₆) E s₅) E s₄
            else ∃ m, m < n /\ I m s₄) E s₃) E s₂) E s₁) E s)
    (n : Nat) (h : I n s) : codeAny (model prog w) A (.compLoop (.ListComp elt [⟨target, iter, ifs, 0⟩] scope pos) 0 it acc env) R s := by
  refine codeAny_loop rfl I (λn s hI => ?_) n h;show wpAny _ A ((compTurn (.ListComp elt [⟨target, iter, ifs, 0⟩] scope pos) 0 it acc env).onRaise (λx => do noteFrame x env; theTreesLotGoes x)) _ _ s
  refine wpAny_noted ?_;rw [compTurn_list];refine wpAny_bind (wpAny_standAt (wpAny_bind (wpAny_mono (turn _ n s hI) (λr s₁ h₁ => ?_) λ_ _ h' => h')));cases r with
  | none => exact wpAny_pure h₁
  | some v =>
    refine wpAny_bind (wpAny_mono h₁ (λ_ s₂ h₂ => wpAny_bind (wpAny_mono h₂ (λ_ s₃ h₃ => wpAny_bind (wpAny_mono h₃ (λok s₄ h₄ => ?_) λ_ _ h' => h')) λ_ _ h' => h')) λ_ _ h' => h');cases ok with
    | false => exact wpAny_pure ⟨rfl, h₄⟩
    | true =>
      exact wpAny_bind (wpAny_bind (wpAny_mono h₄ (λx s₅ h₅ => wpAny_bind (wpAny_mono h₅ (λ_ s₆ h₆ => wpAny_pure (wpAny_pure ⟨rfl, h₆⟩)) λ_ _ h' => h')) λ_ _ h' => h'))

def PF (X : Cx) (ifs : List Expr) (t : TT) : Prop :=
  ∀ (pins : List (Addr × Obj)) (s : Shared) (σ : St) (H : Hp) (Q : Bool → Hp → Prop), Inv X pins σ H s → t σ H Q →
    wpAny (model X.prog X.w) X.A (forIn ifs true λc r => if r = true then do let ok <- isTrue c X.env (eval c X.env); pure (ForInStep.yield ok) else pure (ForInStep.yield r)) (TP X pins σ Q) X.xe s
def Ez:TT:=λ_ H Q=>Q true H
theorem cu {X:Cx}:PF X [] Ez:=λ_ _ _ H _ I h=>wpAny_tests_nil ⟨H,I,h⟩
def mN (σ₀:St) (g:TG) (tf:TT) (te:TE) (x:V) (H:Hp) (NY:V->Hp->Prop) (NN:Hp->Prop):Prop :=
 g x σ₀ H λσ2 H2=>tf σ2 H2 λb H3=>if b=true then te σ2 H3 NY else NN H3
def mT (J:It) (σ₀:St) (g:TG) (tf:TT) (te:TE) (Q:VK) (H1:Hp):Prop :=
 ∃W:Nat->Nat->List V->Hp->Prop,(∃m,W 0 m [] H1)/\∀i m ys H,W i m ys H →
  (J.stop i H/\ys.length<=sizeLine/\∀p,H p=none->Q (.ref p) (upd H p (.lst ys))) \/
  (J.go i H/\ys.length < sizeLine/\∃(NY:V->Hp->Prop) (NN:Hp->Prop),(∀y H',NY y H'->∃m',m' < m/\W (i+1) m' (ys++[y]) H')/\(∀H',NN H'->∃m',m' < m/\W (i+1) m' ys H') /\
   ∀x H',J.yld i H x H'->mN σ₀ g tf te x H' NY NN)
def vD (wi:TI) (k:Nat) (cap:List Nat) (g:TG) (tf:TT) (te:TE):TE:=λσ H Q=>wi σ H λJ H1=>mT J (zh k cap σ) g tf te Q H1
abbrev lobj (its:List Value) (n:Nat):Obj:={ cls:=.type "list",data:=.seq its.toArray n }
section
variable {X:Cx} {own capN:List Str} {cap:List Nat} {scope:Scope} {elt tg iter:Expr} {ifs:List Expr} {pos:Pos} {wi:TI} {g:TG} {tf:TT} {te:TE}
theorem uh {use:Option (Value->Sem Unit)} {Qe:Value->Shared->Prop} {fpos:Pos} (hc:X.calm=true) (B:Bk X.env scope own capN) (hcap:qW X capN cap)
  (hi:PI X tg iter wi) (hg:∀Z,PG (rf X own capN scope Z) tg g) (hf:∀Z,PF (rf X own capN scope Z) ifs tf) (he:∀Z,PE (rf X own capN scope Z) elt te)
  (hs:∀x,foldedSetIterable iter X.env x=pure x) {pins:List (Addr×Obj)} {s:Shared} {σ:St} {H:Hp} {Q:VK} (I:Inv X pins σ H s) (h:vD wi own.length cap g tf te σ H Q)
  (fin:∀(D C:Addr) (s':Shared) (H':Hp),Inv X pins σ H' s'->m3 X pins H' C->(∃m,s'.heap.Ns C m)->Q (.ref D) H'->compPost (model X.prog X.w) X.A X.xe use Qe (.ref D) C (.ok .next) s') :
  wpAny (model X.prog X.w) X.A (comprehension (.ListComp elt [⟨tg,iter,ifs,0⟩] scope pos) scope X.env fpos (newList []) false (eval iter X.env) use) Qe X.xe s:=by
 refine wpAny_comprehension_free (use:=use) rfl hs (sJ λy hy hk=>I.ok.has y.1 (B.caps _ (B.frees y hy hk).1)) B.kind B.locs ?_;refine d7 (hi pins s σ H _ I h) λv s1 h1=>d7 h1 λitv s2 h2=>?_
 obtain ⟨it,fp,tn,J,H2,e,I2,T,st2,f2,W,⟨m0,w0⟩,turn⟩:=h2;subst e;have hfp:∀b∈fp,m3 X pins H2 b/\@LT.lt Nat instLTNat b s2.heap.objs.size:=λb hb=>⟨f2 b hb,let ⟨_,e,_⟩:=T.obj _ _ st2 b hb;Heap.lt_size e⟩
 refine wpAny_newObj_type (v9 ?_) (bP _);have es:(s2.heap.push { cls:=.type "list",data:=.seq ([]:List Value).toArray }).objs.size=s2.heap.objs.size+1:=Heap.size_push ..
 show codeAny _ _ (.compStart _ 0 (.ref it) (.ref s2.heap.objs.size) { newEnv scope (s2.heap.push { cls:=.type "list",data:=.seq ([]:List Value).toArray }).objs.size X.env.globals (cellsFrom ((s2.heap.push { cls:=.type "list",data:=.seq ([]:List Value).toArray }).objs.size+1) scope.names (cY X.env scope.names [])) X.env.qual none .none (some X.env) builtinsNs with scope:=relabel scope X.env })
  (compPost (model X.prog X.w) X.A X.xe use Qe (.ref s2.heap.objs.size) (s2.heap.push { cls:=.type "list",data:=.seq ([]:List Value).toArray }).objs.size)
  { s2 with heap:=pushCells ((s2.heap.push { cls:=.type "list",data:=.seq ([]:List Value).toArray }).push { cls:=.type "dict",data:=.dict #[] }) scope.names }
 have hk1:∀b o,(s2.heap.push { cls:=.type "list",data:=.seq ([]:List Value).toArray }).get? b=some o->(pushCells ((s2.heap.push { cls:=.type "list",data:=.seq ([]:List Value).toArray }).push { cls:=.type "dict",data:=.dict #[] }) scope.names).get? b=some o :=
  λb o e=>pushCells_keeps _ _ _ _ (Heap.get?_push_of_some _ e)
 have hk:∀b o,s2.heap.get? b=some o->(pushCells ((s2.heap.push { cls:=.type "list",data:=.seq ([]:List Value).toArray }).push { cls:=.type "dict",data:=.dict #[] }) scope.names).get? b=some o:=λb o e=>hk1 b o (Heap.get?_push_of_some _ e)
 have hoD:=hk1 s2.heap.objs.size _ (Heap.get?_push_size s2.heap (o:={ cls:=.type "list",data:=.seq ([]:List Value).toArray }) rfl);have hn:=(Heap.Ns.new (s2.heap.push { cls:=.type "list",data:=.seq ([]:List Value).toArray }) (.type "dict")).keeps (pushCells_keeps scope.names _);have hcl:=yQ ((s2.heap.push { cls:=.type "list",data:=.seq ([]:List Value).toArray }).push { cls:=.type "dict",data:=.dict #[] }) (s2.heap.objs.size+1) (by rw[Heap.size_push,es]) scope.names;rw[es] at hn ⊢;generalize pushCells ((s2.heap.push { cls:=.type "list",data:=.seq ([]:List Value).toArray }).push { cls:=.type "dict",data:=.dict #[] }) scope.names=h3 at hk hoD hn hcl ⊢;have Z:Bz:=⟨s2,H2,fp,s2.heap.objs.size+1⟩
 have I3:Inv (rf X own capN scope ⟨s2,H2,fp,s2.heap.objs.size+1⟩) [(s2.heap.objs.size,lobj [] 0)] (zh own.length cap σ) H2 { s2 with heap:=h3 } :=
  BY (Z:=⟨s2,H2,fp,s2.heap.objs.size+1⟩) (t1:=s2.toks) I2 hc B hcap (pZ _) hcl hfp hk hn (ay _) (bA (iZ _)) hoD (λv z=>nomatch z)
 have st3:tn 0 h3:=T.keep _ _ _ st2 λb _ o e=>hk b o e
 have loop:codeAny (model X.prog X.w) X.A (.compLoop (.ListComp elt [⟨tg,iter,ifs,0⟩] scope pos) 0 (.ref it) (.ref s2.heap.objs.size) (qr X.env scope (s2.heap.objs.size+1))) (compPost (model X.prog X.w) X.A X.xe use Qe (.ref s2.heap.objs.size) (s2.heap.objs.size+1)) { s2 with heap:=h3 }:=by
  refine vf (λm s'=>∃i ys σ' H' its n,Inv (rf X own capN scope ⟨s2,H2,fp,s2.heap.objs.size+1⟩) [(s2.heap.objs.size,lobj its n)] σ' H' s'/\tn i s'.heap/\(∀b∈fp,H' b=none)/\b7 ys its/\W i m ys H') ?_ m0
   ⟨0,[],_,H2,[],0,I3,st3,λb hb=>(f2 b hb).1,.nil,w0⟩
  rintro E n s4 ⟨i,ys,σ4,H4,its,k,I4,st4,fr4,rv,w4⟩
  have fpo:∀{pp:List (Addr×Obj)} {H':Hp},(∀p∈pp,p.1=s2.heap.objs.size)->(∀b∈fp,H' b=none)->∀b∈fp,m3 (rf X own capN scope ⟨s2,H2,fp,s2.heap.objs.size+1⟩) pp H' b:=λ{pp H'} hpp hn b hb=>by
   obtain ⟨e1,e2⟩:=I4.ok.exf b hb;refine ⟨hn b hb,e1,I4.ok.exfs b hb,.inl hb,e2,λp hp=>?_⟩;have hp':p∈pp:=by simpa [rf] using hp
   have l:=(hfp b hb).2;rw[hpp p hp'];exact λz=>dw _ (by rw[<- z] at l;exact l)
  have pinD:∀{its:List Value} {n:Nat},∀p∈[(s2.heap.objs.size,lobj its n)],p.1=s2.heap.objs.size:=λp hp=>by simp at hp;rw[hp]
  rcases turn i n ys H4 w4 with ⟨stop,hz,q⟩ | ⟨go,hlt,NY,NN,hNY,hNN,step⟩
  ·refine d7 (T.done (rf X own capN scope ⟨s2,H2,fp,s2.heap.objs.size+1⟩) rfl rfl rfl rfl i _ s4 σ4 H4 E I4 (fpo pinD fr4) st4 stop) λr s5 ⟨hr,I5⟩=>?_
   subst hr;have pD:=I5.pin (s2.heap.objs.size,lobj its k) (by simp);have I6:=BZ (Z:=⟨s2,H2,fp,s2.heap.objs.size+1⟩) I2 hfp (ay _) I5 rv hz
   have hC:upd H4 s2.heap.objs.size (.lst ys) (s2.heap.objs.size+1)=none:=by
    rw[aS (yx (iZ _))];exact I5.free
   obtain ⟨m,hm,_⟩:=I5.loc;exact fin _ _ s5 _ I6 (I2.fpOk (pZ _) hC) ⟨m,hm⟩ (q _ pD.2.1)
  ·refine d7 (T.item (rf X own capN scope ⟨s2,H2,fp,s2.heap.objs.size+1⟩) rfl rfl rfl rfl i _ s4 σ4 H4 E I4 (fpo pinD fr4) st4 go) λr s5 ⟨u,hr,h5⟩=>?_
   subst hr;refine d7 h5 λ_ s6 ⟨x,H6,I6,r6,y6,st6,fr6⟩=>?_
   have I6':=(Av (Z:=⟨s2,H2,fp,s2.heap.objs.size+1⟩) I2 B hcap hfp I6).pinned (fpo pinD fr6) (T.obj _ _ st6)
   have back:∀{σ7:St} {H7:Hp} {s7:Shared},Inv (rf X own capN scope ⟨s2,H2,fp,s2.heap.objs.size+1⟩) ([(s2.heap.objs.size,lobj its k)]++rX fp s6.heap) σ7 H7 s7 →
     Inv (rf X own capN scope ⟨s2,H2,fp,s2.heap.objs.size+1⟩) [(s2.heap.objs.size,lobj its k)] σ7 H7 s7/\tn (i+1) s7.heap/\∀b∈fp,H7 b=none:=λ{σ7 H7 s7} I7=>by
    refine ⟨I7.unpinned,T.keep _ _ _ st6 λb hb o e=>(I7.pin (b,o) (bG _ (bG _ (lY hb e)))).1,λb hb=>?_⟩;obtain ⟨o,e,d⟩:=T.obj _ _ st6 b hb;exact (I7.pin (b,o) (bG _ (bG _ (lY hb e)))).2.1
   refine Dp (hg _ _ s6 _ H6 x u _ I6' r6 (step x H6 y6)) λ_ s7 ⟨σ7,H7,I7,q7⟩=>?_
   refine Dp (hf _ _ s7 σ7 H7 _ I7 q7) λok s8 ⟨H8,I8,q8⟩=>?_
   cases ok with
   | false =>
    rw[if_neg aU] at q8 ⊢;obtain ⟨m',hm,w8⟩:=hNN H8 q8;obtain ⟨J1,J2,J3⟩:=back I8;exact ⟨m',hm,i+1,ys,σ7,H8,its,k,J1,J2,J3,rv,w8⟩
   | true =>
    rw[if_pos rfl] at q8 ⊢;refine Dp (he _ _ s8 σ7 H8 _ I8 q8) λz s9 ⟨y,H9,I9,r9,q9⟩=>?_
    obtain ⟨J1,J2,J3⟩:=back I9;obtain ⟨m',hm,w9⟩:=hNY y H9 q9;have pD:=J1.pin (s2.heap.objs.size,lobj its k) (by simp);have hl:=rv.length;refine call_meets F.slot_list_append ⟨_,pD.1,rfl⟩ F.entry_list_append (F.args_list_append_2 _ _) (PySem.list_append s2.heap.objs.size its.toArray k z (by rw[aB];lia)) ⟨pD.1,?_⟩;have e9:=PySem.IsL.update pD.1 (λa=>a.push z);have e9':(its.toArray.push z)=(its++[z]).toArray:=by simp
    rw[e9'] at e9;obtain ⟨n',e9⟩:∃n',(s9.heap.update s2.heap.objs.size (Obj.mapSeq λa=>a.push z)).get? s2.heap.objs.size=some (lobj (its++[z]) n'):=⟨_,e9⟩
    have J4:Inv (rf X own capN scope ⟨s2,H2,fp,s2.heap.objs.size+1⟩) [] σ7 H9 { s9 with heap:=s9.heap.update s2.heap.objs.size (Obj.mapSeq λa=>a.push z),toks:=s9.toks } :=
     (J1.pins_of (pins':=[]) λp hp=>nomatch hp).turned (λb o hb e=>(Heap.get?_update_other s9.heap _ (Ne.symm hb)).trans e) pD.2.1 pD.2.2.1 (.inr (ay _)) (λx c hx z=>by
      rcases gM (Z:=⟨s2,H2,fp,s2.heap.objs.size+1⟩) B I2 hx with ⟨_,m⟩ | ⟨_,_,m⟩
      ·have:=(hcl.empty _ _ m).2;have z':@Eq Nat c s2.heap.objs.size:=z
       lia
      ·have:=vg (Z:=⟨s2,H2,fp,s2.heap.objs.size+1⟩) I2 m;rw[z] at this;exact dw _ this) λp hp=>by simp [rf] at hp
    have nfp:∀b∈fp,b≠s2.heap.objs.size:=λb hb z=>by have:=(hfp b hb).2;rw[z] at this;exact dw _ this
    refine ⟨m',hm,i+1,ys++[y],σ7,H9,its++[z],n',J4.pins_of λp hp=>?_,T.keep _ _ _ J2 λb hb o e=>(Heap.get?_update_other s9.heap _ (Ne.symm (nfp b hb))).trans e,J3,rv.append (.cons r9 .nil),w9⟩;have ep:p=(s2.heap.objs.size,lobj (its++[z]) n'):=by simpa using hp
    rw[ep];exact ⟨e9,pD.2.1,pD.2.2.1,pD.2.2.2.1,λv z=>nomatch z⟩
 exact codeAny_compStart_list loop (T.self _ _ _ _ _ st3 loop)
theorem cv (own capN:List Str) (cap:List Nat) (hi:PI X tg iter wi) (hg:∀Z,PG (rf X own capN scope Z) tg g) (hf:∀Z,PF (rf X own capN scope Z) ifs tf) (he:∀Z,PE (rf X own capN scope Z) elt te)
  (h1:FU scope own capN=true:=by decide +kernel) (h2:uk X.env capN=true:=by rfl) (hcap:qW X capN cap:=by rfl) (hc:X.calm=true:=by rfl) (hs:∀x,foldedSetIterable iter X.env x=pure x:=by intro _;rfl) :
  PE X (.ListComp elt [⟨tg,iter,ifs,0⟩] scope pos) (vD wi own.length cap g tf te):=by
 intro pins s σ H Q I h;rw[eval_ListComp];refine uh (use:=none) hc (Bk.of h1 h2) hcap hi hg hf he hs I h λD C s' H' I' fC hm q=>?_
 obtain ⟨m,hm⟩:=hm;refine ⟨m,hm,λh' hs'=>?_⟩;obtain ⟨f0,f1,f2,f3,f4,f5⟩:=fC;exact ⟨.ref D,H',I'.turned (t':=s'.toks) (λb o hb e=>(hs'.2 b hb).trans e) f0 f1 f3 f4 f5,rfl,q⟩
theorem lQ (i:Nat) (own capN:List Str) (cap:List Nat) {x:Str} {pos' spos:Pos} (hN:X.N.Nodup) (hi':X.N[i]?=some x) (hx:X.env.scope.names.lookup x=some .local) (hi:PI X tg iter wi) (hg:∀Z,PG (rf X own capN scope Z) tg g) (hf:∀Z,PF (rf X own capN scope Z) ifs tf) (he:∀Z,PE (rf X own capN scope Z) elt te)
  (h1:FU scope own capN=true:=by decide +kernel) (h2:uk X.env capN=true:=by rfl) (hcap:qW X capN cap:=by rfl) (hc:X.calm=true:=by rfl) (hs:∀x,foldedSetIterable iter X.env x=pure x:=by intro _;rfl)
  (hsw:swapsWith (.ListComp elt [⟨tg,iter,ifs,0⟩] scope pos) (some (.Name x pos')) spos.line X.env=pure true:=by rfl) :
  PS X (.Assign [.Name x pos'] (.ListComp elt [⟨tg,iter,ifs,0⟩] scope pos) spos) (AQ (vD wi own.length cap g tf te) (yg i)):=by
 intro pins s σ H D I h;rw[exec_Assign_Name_used _ _ _ _ hsw];refine wpAny_bind (wpAny_standAt (wpAny_bind ?_));rw[arm_evalThenUse_ListComp];refine wpAny_bind (uh (Q:=λv H1=>D.nx (σ.set i (some v)) H1) (use:=some _) hc (Bk.of h1 h2) hcap hi hg hf he hs I h λL C s' H' I' fC hm q=>?_);obtain ⟨m,hm⟩:=hm;obtain ⟨f0,f1,f2,f3,f4,f5⟩:=fC;refine wpAny_assign_Name (tG I' hN hi' (.inl hx) (v:=.ref L) rfl (λs'' I'' ⟨a,sb,ha⟩=>?_) (.inr hx))
 have hCa:C≠a:=by
  rcases ha with e | e
  ·rw[e];exact f1
  ·exact (f4 x a e).symm
 refine ⟨m,hm.at' λo e=>(sb.2 C hCa).trans e,λh' hs'=>?_⟩;have I3:=I''.turned (h':=h') (t':=s''.toks) (λb o hb e=>(hs'.2 b hb).trans e) f0 f1 f3 f4 f5;exact wpAny_pure (wpAny_pure ⟨_,H',I3,q⟩)
end
section
variable {K:FG9} {a:Addr} {xs:List V} {g:TG} {tf:TT} {te:TE} {Q:VK} {σ₀:St} {H:Hp}
theorem iH (Pv:Nat->List V->Hp->Prop) (hz:xs.length<=sizeLine) (h0:Pv 0 [] H) (hl:∀i ys H,i<=xs.length->Pv i ys H->b6 K H a xs)
  (hs:∀i x ys H,xs[i]?=some x->ys.length<=i->Pv i ys H->mN σ₀ g tf te x H (λy H'=>Pv (i+1) (ys++[y]) H') (λH'=>Pv (i+1) ys H'))
  (hd:∀ys H,ys.length<=xs.length->Pv xs.length ys H->∀p,H p=none->Q (.ref p) (upd H p (.lst ys))):mT (Cc K a) σ₀ g tf te Q H:=by
 refine ⟨λi m ys H=>m=xs.length - i/\i<=xs.length/\ys.length<=i/\Pv i ys H,⟨xs.length,by simp,bP _,bP _,h0⟩,?_⟩;rintro i m ys H ⟨rfl,hi,hy,p⟩;have q:=hl i ys H hi p;by_cases hlt:i < xs.length
 ·refine .inr ⟨⟨xs,xs[i],q,by simp [hlt]⟩,by lia,λy H'=>Pv (i+1) (ys++[y]) H',λH'=>Pv (i+1) ys H',λy H' p'=>⟨xs.length - (i+1),by lia,rfl,hlt,by rw[bS,d5];lia,p'⟩,λH' p'=>⟨xs.length - (i+1),by lia,rfl,hlt,by lia,p'⟩,λx H' y=>?_⟩;obtain ⟨e,y⟩:=y;subst e;exact hs i x ys _ (y xs q) hy p
 ·have e:i=xs.length:=by lia
  subst e;exact .inl ⟨⟨xs,q,ay _⟩,by lia,hd ys H hy p⟩
theorem iG {lo:Int} {n:Nat} (Pv:Nat->List V->Hp->Prop) (hz:n<=sizeLine) (h0:Pv 0 [] H)
  (hs:∀i ys H,i < n->ys.length<=i->Pv i ys H->mN σ₀ g tf te (.int (lo+i)) H (λy H'=>Pv (i+1) (ys++[y]) H') (λH'=>Pv (i+1) ys H'))
  (hd:∀ys H,ys.length<=n->Pv n ys H->∀p,H p=none->Q (.ref p) (upd H p (.lst ys))):mT (wI lo n) σ₀ g tf te Q H:=by
 refine ⟨λi m ys H=>m=n - i/\i<=n/\ys.length<=i/\Pv i ys H,⟨n,by simp,bP _,bP _,h0⟩,?_⟩;rintro i m ys H ⟨rfl,hi,hy,p⟩;by_cases hlt:i < n
 ·refine .inr ⟨hlt,by lia,λy H'=>Pv (i+1) (ys++[y]) H',λH'=>Pv (i+1) ys H',λy H' p'=>⟨n - (i+1),by lia,rfl,hlt,by rw[bS,d5];lia,p'⟩,λH' p'=>⟨n - (i+1),by lia,rfl,hlt,by lia,p'⟩,λx H' y=>?_⟩;obtain ⟨e,y⟩:=y;subst e y;exact hs i ys _ hlt hy p
 ·have e:i=n:=by lia
  subst e;exact .inl ⟨ay _,by lia,hd ys H hy p⟩
end
open Nm
def kW (i j:Int):Prop:=Ep i j\/∃m n,Sz m i/\Sz n j/\m+n<=1000000
def mU (i j:Int):Prop:=j≠0/\Sz 8999 j
theorem sN {k:Nat} {i:Int} (h:Sz k i):Builtin.Int.intBits i<=k:=by
 unfold Builtin.Int.intBits;by_cases e:i=0
 ·subst e;simp
 ·have e':(i == 0)=false:=by simpa using e
  rw[e'];have hn:i.natAbs≠0:=by lia
  have:=(Nat.log2_lt hn).mpr h;simp only[wQ,if_false]
  lia
theorem kW.ok {i j:Int} (h:kW i j):IntMulOk i j:=by
 rcases h with h | ⟨m,n,h1,h2,h3⟩
 ·exact h.ok
 ·have e:(2:Nat)^20=1048576:=by decide
  exact .of_bits (by have:=sN h1;lia) (by have:=sN h2;lia)
section
variable {X:Cx} {a b:Expr} {ta tb:TE} {pos:Pos}
theorem dI:tx X (binaryOp .Mult) (rI kW λi j=>.int (i*j)):=FT λ_ _ _ _ _ _ _ hc q=>mul_int q hc.ok
theorem hE:tx X (binaryOp .FloorDiv) (rI mU λi j=>.int (i.fdiv j)):=FT λi j _ _ _ _ _ hc q=>by
 refine floordiv_int hc.1 q (.inl (PyProof.noPylong_of_log2 ?_));have hn:j.natAbs≠0:=by have:=hc.1;lia
 have:=(Nat.log2_lt hn).mpr hc.2
 lia
def EC (t u:TS):TS:=λD σ H=>∃N:St->Hp->Prop,t { D with nx:=N } σ H/\∀σ' H',N σ' H'->u D σ' H'
theorem el {st:Stmt} {rest:List Stmt} {t u:TS} (h1:PS X st t) (h2:xB X rest u):xB X (st :: rest) (EC t u):=by
 intro pins s σ H D I h;obtain ⟨N,h,k⟩:=h;refine wpAny_execs_cons (d7 (h1 pins s σ H { D with nx:=N } I h) λf s1 q=>?_);cases f with
 | next =>
  obtain ⟨σ',H',I',q⟩:=q;exact h2 pins s1 σ' H' D I' (k _ _ q)
 | ret v=>exact q
 | brk=>exact q
 | cont=>exact q
def Cr (K:FG9):V->V->Hp->VK->Prop:=λo i H Q=>∃p xs k v,o=.ref p/\i=.int k/\b6 K H p xs/\zg xs k=some v/\Q v H
theorem Ah:FJ X (Cr X.K):=by
 intro pins s σ H o i ov iv Q I ro ri h;obtain ⟨p,xs,k,z,rfl,rfl,hq,he,q⟩:=h;cases ro;obtain ⟨t,rfl⟩:=ri;obtain ⟨its,r,pl,hz⟩:=I.list hq;obtain ⟨j,h1,h2,h3,h4,h5⟩:=vk he;obtain ⟨w,ew,rw'⟩:=r.get h2;have hl:=r.length;have hn:=sH;have fin:EP X pins σ Q w s:=⟨z,H,I,rw',q⟩;by_cases h0:0<=k
 ·have hj:k.toNat=j:=by
   rw[seqIndex_of h0 h5] at h1;exact bf h1
  exact wpAny_getItem_list pl.isList h0 (by lia) (by rw[hj];simpa using ew) fin
 ·have hj:(k+(its.toArray.size:Int)).toNat=j:=by
   rw[seqIndex_neg (by lia) h4] at h1;rw[aB,<- hl];exact bf h1
  exact wpAny_getItem_list_neg pl.isList (by lia) (by rw[aB] <;> lia) (by lia) (by rw[hj];simpa using ew) fin
def yN (K:FG9) (T:String):V->Hp->VK->Prop:=λx H Q=>∃t b,qA K H x t/\PySem.W.kitOne K t (.type T)=some b/\Q (.bl b) H
theorem rZ {c:Str} {T:String} {p p2:Pos} (hg:Gl X "isinstance") (hm:X.mg "isinstance"=none) (hb:bootBuiltins c=some (.type T)) (hmc:X.mg c=none) (ha:PE X a ta) (hgc:Gl X c:=by rfl) (hn:c≠"__name__":=by decide)
  (hd:(c == ("__debug__":Str))=false:=by decide) (he:starEach [a,.Name c p2] X.env=[(false,eval a X.env),(false,eval (.Name c p2) X.env)]:=by rfl)
  (hpl:(backTo pos (starEach [.Name c p2] X.env)).any (·.1)=false:=by rfl) (he2:starEach [.Name c p2] X.env=[(false,eval (.Name c p2) X.env)]:=by rfl):PE X (.Call (.Name "isinstance" p) [a,.Name c p2] [] pos) (FR (yN X.K T) ta):=by
 intro pins s σ H Q I h;refine wpAny_Call_Name_kw (j8 I hg hm PyProof.Rows.boot_isinstance ?_);have hA:PA X [a,.Name c p2] (m6 ta (m6 (tC (.ty T)) wW)):=aa ha (aa (xY hgc hmc hb rfl hn hd) ai he2) (by rw[he,he2])
 have hq:m6 ta (m6 (tC (.ty T)) wW) σ H (λvs H1=>∃x,vs=[x,.ty T]/\yN X.K T x H1 Q):=by
  show ta σ H λx H1=>∃x',[x,V.ty T]=[x',V.ty T]/\yN X.K T x' H1 Q
  have e:(λx H1=>∃x',[x,V.ty T]=[x',V.ty T]/\yN X.K T x' H1 Q)=λx H1=>yN X.K T x H1 Q:=by
   funext x H1;apply propext;constructor
   ·rintro ⟨x',e,q⟩;cases e;exact q
   ·intro q;exact ⟨x,rfl,q⟩
  rw[e];exact h
 refine PyProof.Rows.callWith_builtin1 (d7 (hA pos pins s σ H _ I hq) λus s1 ⟨vs,H1,I1,r1,x,e,q1⟩=>?_) (by rw[he,he2]) hpl;subst e;obtain ⟨u,w',rfl,ru,rt⟩:=vals2 r1;cases rt;obtain ⟨t,bb,ty,ek,q⟩:=q1;exact t5 I1 ru ty ek λtk=>⟨.bl bb,H1,I1.tok tk,rfl,q⟩
end
structure Kind (α:Type) [DecidableEq α] where
 R:FG9->Hp->V->α->Prop
 d:Nat
 inj:∀{X:Cx} {pins:List (Addr×Obj)} {σ:St} {H:Hp} {s:Shared} {x:V} {a b:α},Inv X pins σ H s->R X.K H x a->R X.K H x b->a=b
 rc:∀{X:Cx} {pins:List (Addr×Obj)} {σ:St} {H:Hp} {s:Shared} {x y:V} {v u:Value} {a b:α} {A:Around},Inv X pins σ H s->RelV x v->RelV y u->R X.K H x a->R X.K H y b->A.units+d < cLine->SeqAt.RcAt A s v u (decide (a=b))
 ne:∀{X:Cx} {pins:List (Addr×Obj)} {σ:St} {H:Hp} {s:Shared} {x y:V} {v u:Value} {a b:α} {A:Around},Inv X pins σ H s->RelV x v->RelV y u->R X.K H x a->R X.K H y b->A.units+d < cLine->SeqAt.RcNeAt A s v u (!decide (a=b))
 eq:∀{X:Cx} {pins:List (Addr×Obj)} {σ:St} {H:Hp} {s:Shared} {x y:V} {v u:Value} {a b:α} {A:Around},Inv X pins σ H s->RelV x v->RelV y u->R X.K H x a->R X.K H y b->A.units+d < cLine->SeqAt.EqAt A s v u (decide (a=b))
def Gv:Kind Int where
 R:=λ_ _ x i=>x=.int i
 d:=0
 inj:=λ_ h1 h2=>by rw[h1] at h2;cases h2;rfl
 rc:=λ{X pins σ H s x y v u a b A} I rx ry h1 h2 _=>by
  subst h1 h2;obtain ⟨t,rfl⟩:=rx;obtain ⟨t',rfl⟩:=ry;have q:=SeqAt.RcAt.int_int (A:=A) (s:=s) a t b t';rwa [sX] at q
 ne:=λ{X pins σ H s x y v u a b A} I rx ry h1 h2 _=>by
  subst h1 h2;obtain ⟨t,rfl⟩:=rx;obtain ⟨t',rfl⟩:=ry;have q:=SeqAt.RcNeAt.int_int (A:=A) (s:=s) a t b t';rwa [sX] at q
 eq:=λ{X pins σ H s x y v u a b A} I rx ry h1 h2 _=>by
  subst h1 h2;obtain ⟨t,rfl⟩:=rx;obtain ⟨t',rfl⟩:=ry;have q:=SeqAt.EqAt.int_int (A:=A) (s:=s) a t b t';rwa [sX] at q
theorem j3 {α β:Type} {F:α->β->Prop}:∀{l1:List α} {l2:List β} {i:Nat} (_:Paired F l1 l2) (h1:i < l1.length) (h2:i < l2.length),F l1[i] l2[i]
 | _,_,_,.nil,h1,_=>absurd h1 (Nat.not_lt_zero _)
 | _,_,0,.cons r _,_,_=>r
 | _,_,i+1,.cons _ t,h1,h2=>j3 (i:=i) t (Nat.lt_of_succ_lt_succ h1) (Nat.lt_of_succ_lt_succ h2)
theorem jZ {α β:Type} {F:α->β->Prop} (hF:∀a b x,F a x->F b x->a=b):∀{l1 l2:List α} {l:List β},Paired F l1 l->Paired F l2 l->l1=l2
 | _,_,_,.nil,.nil=>rfl
 | _,_,_,.cons r t,.cons r' t'=>by rw[hF _ _ _ r r',jZ hF t t']
theorem pM {α:Type} [DecidableEq α] (as bs:List α) (h:as.length=bs.length):(List.range as.length).all (λj=>decide (as[j]?=bs[j]?))=decide (as=bs):=by
 rw[m4,qX,decide_eq_true_iff];constructor
 ·intro q;apply yy;intro i;by_cases hi:i < as.length
  ·exact of_decide_eq_true (q i (cK.mpr hi))
  ·rw[cI (by lia),cI (by lia)]
 ·rintro rfl i _;simp
section
variable {α:Type} [DecidableEq α] (k:Kind α)
theorem Kind.items {X:Cx} {pins:List (Addr×Obj)} {σ:St} {H:Hp} {s:Shared} {A:Around} (I:Inv X pins σ H s) (hA:A.units+k.d < cLine) {xs ys:List V} {us ws:List Value} {as bs:List α}
  (rx:b7 xs us) (ry:b7 ys ws) (ha:Paired (λa x=>k.R X.K H x a) as xs) (hb:Paired (λa x=>k.R X.K H x a) bs ys) :
  ∀j (h1:j < us.toArray.size) (h2:j < ws.toArray.size),SeqAt.EqAt A s us.toArray[j] ws.toArray[j] (decide (as[j]?=bs[j]?)):=λj h1 h2=>by
 have l1:j < us.length:=by simpa using h1
 have l2:j < ws.length:=by simpa using h2
 have e1:=rx.length;have e2:=ry.length;have e3:=ha.length;have e4:=hb.length;obtain ⟨u,hu,ru⟩:=rx.get (i:=j) (x:=xs[j]'(by lia)) (by simp);obtain ⟨w,hw,rw'⟩:=ry.get (i:=j) (x:=ys[j]'(by lia)) (by simp);have q:=k.eq (A:=A) I ru rw' (j3 ha (by lia) (by lia)) (j3 hb (by lia) (by lia)) hA
 have eu:us.toArray[j]=u:=by
  have:=hu;rw[ak l1] at this;simpa using this
 have ew:ws.toArray[j]=w:=by
  have:=hw;rw[ak l2] at this;simpa using this
 rw[eu,ew,ak (show j < as.length by lia),ak (show j < bs.length by lia)];have e5:decide (some as[j]=some bs[j])=decide (as[j]=bs[j]):=by simp
 rw[e5];exact q
theorem ux {α:Type} [DecidableEq α] (as bs:List α) {n m:Nat} (h1:as.length=n) (h2:bs.length=m):((List.range (min n m)).all (λj=>decide (as[j]?=bs[j]?)) && n == m)=decide (as=bs):=by
 subst h1 h2;by_cases e:as.length=bs.length
 ·rw[show min as.length bs.length=as.length by lia,pM as bs e];simp [e]
 ·have h1:(as.length == bs.length)=false:=by simpa using e
  rw[h1,Bool.and_false];exact (decide_eq_false λz=>e (by rw[z])).symm
def Gu:Kind (List α) where
 R:=λK H x as=>∃p xs,x=.ref p/\oj K H p xs/\Paired (λa x=>k.R K H x a) as xs
 d:=k.d+1
 inj:=λ{X pins σ H s x a b} I h1 h2=>by
  obtain ⟨p,xs,rfl,hp,pa⟩:=h1;obtain ⟨q,ys,e,hq,pb⟩:=h2;cases e;have e:=I.tuple_inj hp hq;subst e;exact jZ (F:=λa x=>k.R X.K H x a) (λa b x=>k.inj I) pa pb
 rc:=λ{X pins σ H s x y v u a b A} I rx ry h1 h2 hA=>by
  obtain ⟨p,xs,rfl,hp,pa⟩:=h1;obtain ⟨q,ys,rfl,hq,pb⟩:=h2;cases rx;cases ry;obtain ⟨us,r1,t1,_⟩:=I.tuple hp;obtain ⟨ws,r2,t2,_⟩:=I.tuple hq;have z:=SeqAt.RcAt.tuples (A:=A) (e:=λj=>decide (a[j]?=b[j]?)) (show s.heap.IsTuple p us.toArray from t1) (show s.heap.IsTuple q ws.toArray from t2) (by lia) (k.items (A:=A.in1) I (by show A.units+1+k.d < cLine;lia) r1 r2 pa pb);rwa [ux a b (by rw[pa.length,r1.length];simp) (by rw[pb.length,r2.length];simp)] at z
 ne:=λ{X pins σ H s x y v u a b A} I rx ry h1 h2 hA=>by
  obtain ⟨p,xs,rfl,hp,pa⟩:=h1;obtain ⟨q,ys,rfl,hq,pb⟩:=h2;cases rx;cases ry;obtain ⟨us,r1,t1,_⟩:=I.tuple hp;obtain ⟨ws,r2,t2,_⟩:=I.tuple hq;have z:=SeqAt.RcNeAt.tuples (A:=A) (e:=λj=>decide (a[j]?=b[j]?)) (show s.heap.IsTuple p us.toArray from t1) (show s.heap.IsTuple q ws.toArray from t2) (by lia) (k.items (A:=A.in1) I (by show A.units+1+k.d < cLine;lia) r1 r2 pa pb);rwa [ux a b (by rw[pa.length,r1.length];simp) (by rw[pb.length,r2.length];simp)] at z
 eq:=λ{X pins σ H s x y v u a b A} I rx ry h1 h2 hA=>by
  obtain ⟨p,xs,rfl,hp,pa⟩:=h1;obtain ⟨q,ys,rfl,hq,pb⟩:=h2;cases rx;cases ry;by_cases e:p=q
  ·subst e;have e:=I.tuple_inj hp hq;subst e;rw[jZ (F:=λa x=>k.R X.K H x a) (λa b x=>k.inj I) pa pb,decide_eq_true rfl];exact SeqAt.EqAt.same _
  ·obtain ⟨us,r1,t1,_⟩:=I.tuple hp;obtain ⟨ws,r2,t2,_⟩:=I.tuple hq;have z:=SeqAt.RcAt.tuples (A:=A) (e:=λj=>decide (a[j]?=b[j]?)) (show s.heap.IsTuple p us.toArray from t1) (show s.heap.IsTuple q ws.toArray from t2) (by lia) (k.items (A:=A.in1) I (by show A.units+1+k.d < cLine;lia) r1 r2 pa pb);rw[ux a b (by rw[pa.length,r1.length];simp) (by rw[pb.length,r2.length];simp)] at z;exact .of_refs e z
theorem xk {X:Cx} {pins:List (Addr×Obj)} {σ:St} {H:Hp} {s:Shared} {p q:Addr} {xs ys:List V} {a b:List α} {A:Around} (I:Inv X pins σ H s) (hp:b6 X.K H p xs) (hq:b6 X.K H q ys)
  (pa:Paired (λa x=>k.R X.K H x a) a xs) (pb:Paired (λa x=>k.R X.K H x a) b ys) (hA:A.units+(k.d+1) < cLine) :
  SeqAt.RcAt A s (.ref p) (.ref q) (decide (a=b))/\SeqAt.RcNeAt A s (.ref p) (.ref q) (!decide (a=b)):=by
 obtain ⟨us,r1,t1,_⟩:=I.list hp;obtain ⟨ws,r2,t2,_⟩:=I.list hq;have l1:=r1.length;have l2:=r2.length;have l3:=pa.length;have l4:=pb.length;by_cases e:us.length=ws.length
 ·have it:=k.items (A:=A.in1) I (by show A.units+1+k.d < cLine;lia) r1 r2 pa pb;have z:=SeqAt.RcAt.lists (A:=A) (e:=λj=>decide (a[j]?=b[j]?)) t1.isList t2.isList (by simpa using e) (by lia) it;have z2:=SeqAt.RcNeAt.lists (A:=A) (e:=λj=>decide (a[j]?=b[j]?)) t1.isList t2.isList (by simpa using e) (by lia) it;have e1:us.toArray.size=a.length:=by rw[aB];lia
  rw[e1,pM a b (by lia)] at z z2;exact ⟨z,z2⟩
 ·have hne:¬a=b:=λz=>e (by have:=congrArg List.length z;lia)
  rw[decide_eq_false hne];exact ⟨SeqAt.RcAt.lists_lengths t1.isList t2.isList (by simpa using e) (by lia),SeqAt.RcNeAt.lists_lengths t1.isList t2.isList (by simpa using e) (by lia)⟩
def Fe:Kind (List α) where
 R:=λK H x as=>∃p xs,x=.ref p/\b6 K H p xs/\Paired (λa x=>k.R K H x a) as xs
 d:=k.d+1
 inj:=λ{X pins σ H s x a b} I h1 h2=>by
  obtain ⟨p,xs,rfl,hp,pa⟩:=h1;obtain ⟨q,ys,e,hq,pb⟩:=h2;cases e;have e:=I.list_inj hp hq;subst e;exact jZ (F:=λa x=>k.R X.K H x a) (λa b x=>k.inj I) pa pb
 rc:=λ{X pins σ H s x y v u a b A} I rx ry h1 h2 hA=>by
  obtain ⟨p,xs,rfl,hp,pa⟩:=h1;obtain ⟨q,ys,rfl,hq,pb⟩:=h2;cases rx;cases ry;exact (xk k I hp hq pa pb hA).1
 ne:=λ{X pins σ H s x y v u a b A} I rx ry h1 h2 hA=>by
  obtain ⟨p,xs,rfl,hp,pa⟩:=h1;obtain ⟨q,ys,rfl,hq,pb⟩:=h2;cases rx;cases ry;exact (xk k I hp hq pa pb hA).2
 eq:=λ{X pins σ H s x y v u a b A} I rx ry h1 h2 hA=>by
  obtain ⟨p,xs,rfl,hp,pa⟩:=h1;obtain ⟨q,ys,rfl,hq,pb⟩:=h2;cases rx;cases ry;by_cases e:p=q
  ·subst e;have e:=I.list_inj hp hq;subst e;rw[jZ (F:=λa x=>k.R X.K H x a) (λa b x=>k.inj I) pa pb,decide_eq_true rfl];exact SeqAt.EqAt.same _
  ·exact .of_refs e (xk k I hp hq pa pb hA).1
def Kind.via {β:Type} [DecidableEq β] (f:β->α) (fi:∀a b,f a=f b->a=b) (R':FG9->Hp->V->β->Prop) (im:∀{K H x b},R' K H x b->k.R K H x (f b)):Kind β where
 R:=R'
 d:=k.d
 inj:=λI h1 h2=>fi _ _ (k.inj I (im h1) (im h2))
 rc:=λ{X pins σ H s x y v u a b A} I rx ry h1 h2 hA=>by
  have z:=k.rc (A:=A) I rx ry (im h1) (im h2) hA;rwa [decide_eq_decide.mpr (show f a=f b↔a=b from ⟨fi a b,λe=>by rw[e]⟩)] at z
 ne:=λ{X pins σ H s x y v u a b A} I rx ry h1 h2 hA=>by
  have z:=k.ne (A:=A) I rx ry (im h1) (im h2) hA;rwa [decide_eq_decide.mpr (show f a=f b↔a=b from ⟨fi a b,λe=>by rw[e]⟩)] at z
 eq:=λ{X pins σ H s x y v u a b A} I rx ry h1 h2 hA=>by
  have z:=k.eq (A:=A) I rx ry (im h1) (im h2) hA;rwa [decide_eq_decide.mpr (show f a=f b↔a=b from ⟨fi a b,λe=>by rw[e]⟩)] at z
end
def wH (K:FG9) (H:Hp) (x:V) (n:Int×Int):Prop:=∃p,x=.ref p/\oj K H p [.int n.1,.int n.2]
def Fd:Kind (Int×Int):=(Gu Gv).via (λn=>[n.1,n.2]) (λa b e=>by cases a;cases b;simp at e;rw[e.1,e.2]) wH λ⟨p,e,h⟩=>⟨p,_,e,h,.cons rfl (.cons rfl .nil)⟩
def Gn (K:FG9):R2:=λx y H Q=>∃(α:Type) (_:DecidableEq α) (k:Kind α) (a b:α),k.d<=50/\k.R K H x a/\k.R K H y b/\Q (.bl (decide (a=b))) H
def Gj (K:FG9):R2:=λx y H Q=>∃(α:Type) (_:DecidableEq α) (k:Kind α) (a b:α),k.d<=50/\k.R K H x a/\k.R K H y b/\Q (.bl (!decide (a=b))) H
theorem uP {X:Cx} (hu:X.A.units+50 < cLine):tx X (compareOp .Eq) (Gn X.K):=by
 intro pins s σ H x y v u Q I rx ry h;obtain ⟨α,_,k,a,b,hd,ha,hb,q⟩:=h;exact k.rc (A:=X.A) I rx ry ha hb (by lia) _ _ _ _ ⟨.bl (decide (a=b)),H,I,rfl,q⟩
theorem xg {X:Cx} (hu:X.A.units+50 < cLine):tx X (compareOp .NotEq) (Gj X.K):=by
 intro pins s σ H x y v u Q I rx ry h;obtain ⟨α,_,k,a,b,hd,ha,hb,q⟩:=h;exact k.ne (A:=X.A) I rx ry ha hb (by lia) _ _ _ _ ⟨.bl (!decide (a=b)),H,I,rfl,q⟩
theorem xm {A:Around} {k:Nat} (hr:ju k A):A.units+50 < cLine:=by have:=hr.units;lia
def Inner (H:Hp) (p q:Addr):Prop:=∃a b c:Int,H p=some (.lst [.int a,.int b,.int c,.ref q])
def cy (p:Addr) (H H':Hp):Prop:=(∀b o,H b=some o->b≠p->H' b=some o)/\∀q,Inner H p q->Inner H' p q
theorem cy.refl {p:Addr} (H:Hp):cy p H H:=⟨λ_ _ h _=>h,λ_ h=>h⟩
theorem cy.trans {p:Addr} {H H1 H2:Hp} (a:cy p H H1) (b:cy p H1 H2):cy p H H2:=⟨λc o h n=>b.1 c o (a.1 c o h n) n,λq h=>b.2 q (a.2 q h)⟩
theorem Inner.inj {H:Hp} {p q q':Addr} (h:Inner H p q) (h':Inner H p q'):q=q':=by
 obtain ⟨a,b,c,e⟩:=h;obtain ⟨a',b',c',e'⟩:=h';rw[e] at e';have:=HO.lst.inj (bf e');simp at this;exact this.2.2.2
theorem cy.set {p q:Addr} {H:Hp} {a b c a' b' c':Int} (h:H p=some (.lst [.int a,.int b,.int c,.ref q])):cy p H (upd H p (.lst [.int a',.int b',.int c',.ref q])) :=
 ⟨λb u h n=>by rw[aS n];exact h,λq' h'=>by
  rw[(Inner.inj ⟨a,b,c,h⟩ h').symm];exact ⟨a',b',c',aE⟩⟩
theorem aF.upto {p:Addr} {H H':Hp} (h:aF H H'):cy p H H':=⟨λb o e _=>h b o e,λq ⟨a,b,c,e⟩=>⟨a,b,c,h _ _ e⟩⟩
theorem aF.new {H:Hp} {p:Addr} {o:HO} (h:H p=Option.none):aF H (upd H p o):=λb u e=>by rw[aS (dF e h)];exact e
theorem aF.sqt {K:FG9} {H H':Hp} {a:Addr} {xs:List V} (e:aF H H') (h:oj K H a xs):oj K H' a xs:=by
 rcases h with (h | ⟨o,h⟩) | h
 ·exact .inl (.inl (e _ _ h))
 ·exact .inl (.inr ⟨o,e _ _ h⟩)
 ·exact .inr h
theorem aF.num {K:FG9} {H H':Hp} {x:V} {n:Int×Int} (e:aF H H') (h:wH K H x n):wH K H' x n:=by obtain ⟨p,q,r⟩:=h;exact ⟨p,q,e.sqt r⟩
section
variable {σ:St} {H:Hp} {D:Ends}
theorem bc {t:TS} {σ0 σ:St} {D:Ends} {H:Hp} (e:σ0=σ) (h:t D σ H):t D σ0 H:=by rw[e];exact h
theorem Dz {t u:TS} (h:t { D with nx:=u D } σ H):ED t u D σ H:=h
theorem A6 (h:D.nx σ H):Ci D σ H:=h
theorem DP {te:TE} {g:TG} (h:te σ H λx H1=>g x σ H1 D.nx):AQ te g D σ H:=h
theorem zU {i:Nat} {v:V} {Q:St->Hp->Prop} (h:Q (σ.set i (some v)) H):yg i v σ H Q:=h
theorem DA {te:TE} (h:te σ H D.rt):EE te D σ H:=h
theorem DI {c:TT} {t u:TS} (h:c σ H λb H1=>if b=true then t D σ H1 else u D σ H1):EJ c t u D σ H:=h
theorem Bn {te:TE} (h:te σ H λ_ H1=>D.nx σ H1):Cm te D σ H:=h
theorem DB {i j:Nat} {ta:TA} (h:ta σ H λvs H1=>∃v w,vs=[v,w]/\D.nx ((σ.set i (some v)).set j (some w)) H1):EF i j ta D σ H:=h
theorem Br {to ti te:TE} {tget:V->V->Hp->VK->Prop} {tip:FH} {tset:xy}
  (h:to σ H λo H1=>ti σ H1 λi H2=>tget o i H2 λx H3=>te σ H3 λy H4=>tip x y H4 λz H5=>tset o i z H5 λH6=>D.nx σ H6):Cn to ti te tget tip tset D σ H:=h
theorem DH {f:Int->Int->Int} {i j:Int} {Q:VK} (h:Q (.int (f i j)) H):ipI f (.int i) (.int j) H Q:=⟨i,j,rfl,rfl,h⟩
theorem DK {wi:TI} {g:TG} {tb:TS} (h:wi σ H λJ H1=>∃W:Nat->Nat->St->Hp->Prop,(∃m,W 0 m σ H1)/\∀i m σ H,W i m σ H →
  (J.stop i H/\D.nx σ H)\/(J.go i H/\∃N:St->Hp->Prop,(∀σ' H',N σ' H'->∃m',m' < m/\W (i+1) m' σ' H')/\∀x H',J.yld i H x H'->g x σ H' λσ2 H2=>tb { D with nx:=N,ct:=N,bk:=D.nx } σ2 H2)):EK wi g tb D σ H:=h
variable {Q:VK} {QA:List V->Hp->Prop} {QB:Bool->Hp->Prop}
theorem Dx {i:Nat} {v:V} (e:σ[i]?=some (some v)) (h:Q v H):Dq i σ H Q:=⟨v,e,h⟩
theorem Gg {v:V} (h:Q v H):tC v σ H Q:=h
theorem EX {r:R2} {ta tb:TE} (h:ta σ H λx H1=>tb σ H1 λy H2=>r x y H2 Q):EG r ta tb σ H Q:=h
theorem ET {r:V->Hp->VK->Prop} {ta:TE} (h:ta σ H λx H1=>r x H1 Q):FR r ta σ H Q:=h
theorem E4 {g:Int->Int->V} {i j:Int} (h:Q (g i j) H):Cq g (.int i) (.int j) H Q:=⟨i,j,rfl,rfl,h⟩
theorem gW {C:Int->Int->Prop} {g:Int->Int->V} {i j:Int} (hc:C i j) (h:Q (g i j) H):rI C g (.int i) (.int j) H Q:=⟨i,j,rfl,rfl,hc,h⟩
theorem Gh {g:Int->V} {i:Int} (h:Q (g i) H):rU g (.int i) H Q:=⟨i,rfl,h⟩
theorem DN {i j:Int} (h:Q (.bl (decide (i=j))) H):rEq (.int i) (.int j) H Q:=⟨rfl,by
 have e:decide (V.int i=V.int j)=decide (i=j):=by simp
 rw[e];exact h⟩
theorem DE {i j:Int} (h:Q (.bl (!decide (i=j))) H):rNe (.int i) (.int j) H Q:=⟨rfl,by
 have e:decide (V.int i=V.int j)=decide (i=j):=by simp
 rw[e];exact h⟩
theorem A2 {t:TE} (h:t σ H λx H'=>∃k,x=.bl k/\QB k H'):Ce t σ H QB:=h
theorem EU {t:TE} (h:t σ H λx H'=>∃k,x=.bl k/\QB k H'):tB t σ H QB:=h
theorem DQ {t u:TT} (h:t σ H λc H1=>if c=true then u σ H1 QB else QB false H1):EM t u σ H QB:=h
theorem EW {t u:TT} (h:t σ H λc H1=>if c=true then QB true H1 else u σ H1 QB):tOr t u σ H QB:=h
theorem DC {t:TT} (h:t σ H λc H1=>QB (!c) H1):EH t σ H QB:=h
theorem Bs {t u:TE} (h:t σ H λx H1=>∃c,x=.bl c/\if c=true then u σ H1 Q else Q (.bl false) H1):Co t u σ H Q:=h
theorem A5 {t:TE} (h:t σ H λx H1=>∃c,x=.bl c/\Q (.bl (!c)) H1):Cg t σ H Q:=h
theorem DJ {c:TT} {ta tb:TE} (h:c σ H λb H1=>if b=true then ta σ H1 Q else tb σ H1 Q):tIf c ta tb σ H Q:=h
theorem Dw (h:QB true H):Ez σ H QB:=h
theorem DD (h:QA [] H):wW σ H QA:=h
theorem Bo {ta:TE} {tr:TA} (h:ta σ H λx H1=>tr σ H1 λxs H2=>QA (x :: xs) H2):m6 ta tr σ H QA:=h
theorem Bq {sp:Sp} {E:XK} {t:TA} (h:t σ H λvs H1=>sp vs H1 Q E):zz sp [] E t σ H Q:=by
 have e:(λvs H1=>sp (vs++[]) H1 Q E)=λvs H1=>sp vs H1 Q E:=by funext vs H1;rw[sW]
 show t σ H λvs H1=>sp (vs++[]) H1 Q E
 rw[e];exact h
theorem EY {r:List V->Hp->VK->Prop} {t:TA} (h:t σ H λvs H1=>r vs H1 Q):Gd r t σ H Q:=h
theorem DG {K:FG9} {p:Addr} {xs:List V} {i:Int} {v:V} (hx:oj K H p xs) (e:zg xs i=some v) (h:Q v H):DR K (.ref p) (.int i) H Q:=⟨p,xs,i,v,rfl,rfl,hx,e,h⟩
theorem cO {K:FG9} {p:Addr} {xs:List V} {i:Int} (hx:b6 K H p xs) {v:V} (e:zg xs i=some v) (h:Q v H):DS K (.ref p) (.int i) H Q:=⟨p,xs,i,v,rfl,rfl,hx,e,h⟩
theorem Bm {K:FG9} {p:Addr} {xs:List V} {i:Int} (hx:b6 K H p xs) {v:V} (e:zg xs i=some v) (h:Q v H):Cr K (.ref p) (.int i) H Q:=⟨p,xs,i,v,rfl,rfl,hx,e,h⟩
theorem eF {QH:Hp->Prop} {p:Addr} {xs:List V} {i:Int} {v:V} {j:Nat} {ys:List V} (hx:H p=some (.lst xs)) (e:AD xs.length i=some j) (ey:xs.set j v=ys) (h:QH (upd H p (.lst ys))):Cp (.ref p) (.int i) v H QH:=⟨p,xs,i,j,rfl,rfl,hx,e,by rw[ey];exact h⟩
theorem Bj {to ti:TE} {t:xy} {v:V} {QS:St->Hp->Prop} (h:to σ H λo H1=>ti σ H1 λi H2=>t o i v H2 λH3=>QS σ H3):Fi to ti t v σ H QS:=h
theorem zV {t:TG} {u:AE} {v:V} {r:List V} {QS:St->Hp->Prop} (h:t v σ H λσ' H'=>u r σ' H' QS):Cy t u (v :: r) σ H QS:=⟨v,r,rfl,h⟩
theorem Bl {QS:St->Hp->Prop} (h:QS σ H):Fj [] σ H QS:=⟨rfl,h⟩
theorem Bi {K:FG9} {n:Nat} {t:AE} {a:Addr} {xs:List V} {QS:St->Hp->Prop} (hx:oj K H a xs) (hl:xs.length=n) (h:t xs σ H QS):Eb K n t (.ref a) σ H QS:=⟨a,xs,rfl,hx,hl,h⟩
theorem EV {r:V->Option Int->Option Int->Hp->VK->Prop} {te:TE} {tl th:TO} (h:te σ H λx H1=>tl σ H1 λl H2=>th σ H2 λu H3=>r x l u H3 Q):tSl r te tl th σ H Q:=h
theorem yM {QO:Option Int->Hp->Prop} (h:QO none H):xN σ H QO:=h
theorem A4 {t:TE} {QO:Option Int->Hp->Prop} (h:t σ H λx H1=>∃i,x=.int i/\QO (some i) H1):Cf t σ H QO:=h
variable {R:It->Hp->Prop} {K:FG9}
theorem zS {tl:TE} (h:tl σ H λx H1=>∃a,x=.ref a/\(∃xs,b6 K H1 a xs)/\R (Cc K a) H1):Ac K tl σ H R:=h
theorem Bh {tl:TE} (h:tl σ H λx H1=>∃a,x=.ref a/\(∃xs,oj K H1 a xs)/\R (Eu K a) H1):Fh K tl σ H R:=h
theorem zR {ta:TA} (h:ta σ H λvs H1=>∃j:Int,vs=[.int j]/\-(2^62)<=j/\j < 2^62/\R (wI 0 j.toNat) H1):Cv ta σ H R:=h
theorem zQ {ta:TA} (h:ta σ H λvs H1=>∃i j:Int,vs=[.int i,.int j]/\(-(2^62)<=i/\i < 2^62/\-(2^62)<=j/\j < 2^62)/\R (wI i (j - i).toNat) H1):Cu ta σ H R:=h
theorem Bp {wi:TI} {k:Nat} {cap:List Nat} {g:TG} {tf:TT} {te:TE} {σ₀:St} (e:zh k cap σ=σ₀) (h:wi σ H λJ H1=>mT J σ₀ g tf te Q H1):vD wi k cap g tf te σ H Q:=by
 unfold vD;rw[e];exact h
theorem A1 {g:TG} {tf:TT} {te:TE} {x:V} {NY:V->Hp->Prop} {NN:Hp->Prop} (h:g x σ H λσ2 H2=>tf σ2 H2 λb H3=>if b=true then te σ2 H3 NY else NN H3):mN σ g tf te x H NY NN:=h
theorem EZ {T:String} {r:V->List V->Hp->VK->Prop} {to:TE} {t:TA} (h:to σ H λx H1=>FZ K T x H1/\t σ H1 λxs H2=>r x xs H2 Q):tBM K T r to t σ H Q:=h
def FK (Q:VK) (xs:List V) (H:Hp):Prop:=xs.length<=sizeLine/\∀p,H p=none->Q (.ref p) (upd H p (.tup xs))
def FL (Q:VK) (xs:List V) (H:Hp):Prop:=xs.length<=sizeLine/\∀p,H p=none->Q (.ref p) (upd H p (.lst xs))
theorem Dy {t:TA} (h:t σ H (FK Q)):EA t σ H Q:=h
theorem DF {t:TA} (h:t σ H (FL Q)):EI t σ H Q:=h
theorem o6 {n:Nat} (h:Nat.ble n 1000=true):n<=sizeLine:=bI (bT (Nat.le_of_ble_eq_true h))
theorem b8 {xs:List V} (h:∀p H',aF H H'->H' p=some (.tup xs)->Q (.ref p) H') (hl:Nat.ble xs.length 1000=true:=by rfl):FK Q xs H :=
 ⟨o6 hl,λp hp=>h p _ (aF.new hp) aE⟩
theorem fg {xs:List V} (h:∀p H',aF H H'->H p=none->H' p=some (.lst xs)->Q (.ref p) H') (hl:Nat.ble xs.length 1000=true:=by rfl):FL Q xs H :=
 ⟨o6 hl,λp hp=>h p _ (aF.new hp) hp aE⟩
theorem Ff {A B:Prop} (h:B):if (!true)=true then A else B:=BJ h
def WB (tb:TS) (D:Ends) (Pv:St->Hp->Prop) (μ:St->Hp->Nat) (n:Nat) (σ:St) (H:Hp):Prop:=∃N:St->Hp->Prop,(∀σ' H',N σ' H'->∃m',m' < n/\(m'=μ σ' H'/\Pv σ' H'))/\tb { D with nx:=N,ct:=N,bk:=D.nx } σ H
theorem ES {tb:TS} {Pv:St->Hp->Prop} {μ:St->Hp->Nat} {n:Nat} (h:tb { D with nx:=λσ' H'=>Pv σ' H'/\μ σ' H' < n,ct:=λσ' H'=>Pv σ' H'/\μ σ' H' < n,bk:=D.nx } σ H):WB tb D Pv μ n σ H :=
 ⟨_,λσ' H' ⟨p,l⟩=>⟨_,l,rfl,p⟩,h⟩
theorem xI {c:TT} {tb:TS} (Pv:St->Hp->Prop) (μ:St->Hp->Nat) (h0:Pv σ H) (hs:∀σ H,Pv σ H->c σ H λb H1=>if b=true then WB tb D Pv μ (μ σ H) σ H1 else D.nx σ H1):zy c tb D σ H:=by
 refine ⟨λm σ H=>m=μ σ H/\Pv σ H,⟨_,rfl,h0⟩,?_⟩;rintro m σ H ⟨rfl,p⟩;exact hs σ H p
end
def il (H:Hp) (p:Addr):Prop:=∃(q:Addr) (a b c:Int) (cs:List Int),H p=some (.lst [.int a,.int b,.int c,.ref q])/\H q=some (.lst (cs.map V.int))/\0<=a/\0<=c/\c<=(cs.length:Int)/\∀x∈cs,(0:Int)<=x
theorem zf {H:Hp} {p q:Addr} {a b c:Int} {cs:List Int} (hp:H p=some (.lst [.int a,.int b,.int c,.ref q])) (hq:H q=some (.lst (cs.map V.int))):q≠p:=λe=>by
 rw[e,hp] at hq;have h:=HO.lst.inj (bf hq);cases cs with
 | nil=>cases h
 | cons x1 cs=>cases cs with
  | nil=>cases h
  | cons x2 cs=>cases cs with
   | nil=>cases h
   | cons x3 cs=>cases cs with
    | nil=>cases h
    | cons x4 cs=>simp at h
theorem il.same {H H':Hp} {p:Addr} (h:il H p) (e:aF H H'):il H' p:=by obtain ⟨q,a,b,c,cs,h1,h2,r⟩:=h;exact ⟨q,a,b,c,cs,e _ _ h1,e _ _ h2,r⟩
theorem cy.tup {H H':Hp} {p r:Addr} {xs:List V} (u:cy p H H') (B:il H p) (h:H r=some (.tup xs)):H' r=some (.tup xs):=by
 obtain ⟨q,a,b,c,cs,h1,_⟩:=B;exact u.1 r _ h λe=>by rw[e,h1] at h;cases h
theorem cy.other {H H':Hp} {p r:Addr} {o:HO} (u:cy p H H') (n:r≠p) (h:H r=some o):H' r=some o:=u.1 r _ h n
theorem il.inner {H:Hp} {p:Addr} (h:il H p):∃q,Inner H p q/\∃xs,H q=some (.lst xs):=by obtain ⟨q,a,b,c,cs,h1,h2,_⟩:=h;exact ⟨q,⟨a,b,c,h1⟩,_,h2⟩
theorem il.upd {H:Hp} {p q r:Addr} {o:HO} (h:il H p) (hi:Inner H p q) (n1:r≠p) (n2:r≠q):il (L2.upd H r o) p:=by
 obtain ⟨q',a,b,c,cs,h1,h2,z⟩:=h;have e:q'=q:=Inner.inj ⟨a,b,c,h1⟩ hi;subst e;exact ⟨q',a,b,c,cs,by rw[aS n1.symm];exact h1,by rw[aS n2.symm];exact h2,z⟩
theorem Inner.upd {H:Hp} {p q r:Addr} {o:HO} (hi:Inner H p q) (n1:r≠p):Inner (L2.upd H r o) p q:=by obtain ⟨a,b,c,h⟩:=hi;exact ⟨a,b,c,by rw[aS n1.symm];exact h⟩
def AU:Sp:=λvs H Q _=>∃p n,vs=[.ref p,.int n]/\il H p/\0 < n/\n < 2^64/\∀v H',0<=v->v < n->il H' p->cy p H H'->Q (.int v) H'
inductive zJ (K:FG9) (vs:List V) (H:Hp) (Q:VK) (E9:XK):Prop
 | mk (a:Addr) (ns:List Int):vs=[.ref a]->b6 K H a (ns.map V.int)->ns.length<=63->(∀p H',H p=none->il H' p->aF H H'->Q (.ref p) H')->zJ K vs H Q E9
inductive rQ (K:FG9) (vs:List V) (H:Hp) (Q:VK) (E9:XK):Prop
 | mk (a:Addr) (ns:List Int):vs=[.ref a]->b6 K H a (ns.map V.int)->ns.length<=63->(∀H',Q (.bl true) H')->rQ K vs H Q E9
def Dv:Sp:=λvs H Q _=>∃t b,vs=[.int t,.int b]/\0 < b/\Sz 8999 b/\∀r H',aF H H'->H' r=some (.tup [.int (lo t b),.int (hi t b)])->Q (.ref r) H'
def EN:Sp:=λvs H Q _=>∃a b,vs=[.int a,.int b]/\Q (.int (g a b)) H
def yH:Sp:=λvs H Q _=>∃t b,vs=[.int t,.int b]/\b≠0/\Sz 8999 b/\∀r H',aF H H'->H' r=some (.tup [.int (lo (if b < 0 then -t else t) (if b < 0 then -b else b)),.int (hi (if b < 0 then -t else t) (if b < 0 then -b else b))])->Q (.ref r) H'
def Cz (a b c d:Int):Int:=a*d+c*b
def Ak (a _b c _d:Int):Int:=a*c
def zK (K:FG9) (f:Int->Int->Int->Int->Int):Sp:=λvs H Q _=>∃p q a b c d,vs=[.ref p,.ref q]/\oj K H p [.int a,.int b]/\oj K H q [.int c,.int d]/\0 < b/\0 < d/\Sz 4000 a/\Sz 4000 b/\Sz 4000 c/\Sz 4000 d /\
 ∀r H',aF H H'->H' r=some (.tup [.int (lo (f a b c d) (b*d)),.int (hi (f a b c d) (b*d))])->Q (.ref r) H'
theorem cP {α β:Type} {F:α->β->Prop}:∀{l1 l1':List α} {l2 l2':List β},Paired F l1 l2->Paired F l1' l2'->Paired F (l1++l1') (l2++l2')
 | _,_,_,_,.nil,h=>h
 | _,_,_,_,.cons r t,h=>.cons r (cP t h)
theorem fD {h:Heap} {a b:Addr} {o u:Obj} (ha:h.get? a=some o) (hb:h.get? b=some u) (hc:o.cls≠u.cls):a≠b:=λe=>by
 subst e;rw[ha] at hb;cases hb;exact hc rfl
theorem oY {a b:String} (h:a≠b):Value.type a≠Value.type b:=λe=>h (by injection e)
theorem tz {h:Heap} {z TI TO i1 i2 l1 l2:Addr} {f0 a b:Value} {k1 k2:Nat} {xs ys:Array Value} (hz:IsZip h z TI TO f0) (hTI:IsPair h TI (.ref i1) (.ref i2)) (hTO:IsPair h TO a b)
  (h1:h.IsListIter i1 l1 k1) (h2:h.IsListIter i2 l2 k2) (hl1:h.IsList l1 xs) (hl2:h.IsList l2 ys) (hT:TI≠TO) (hi:i1≠i2):ZipApart z TI TO i1 i2 l1 l2:=by
 obtain ⟨o1,g1,c1,_⟩:=h1;obtain ⟨o2,g2,c2,_⟩:=h2;obtain ⟨p1,q1,d1,_⟩:=hl1;obtain ⟨p2,q2,d2,_⟩:=hl2;refine ⟨fD hTI hz ?_,fD hTO hz ?_,fD g1 hz ?_,fD g2 hz ?_,hT,fD hTI g1 ?_,fD hTI g2 ?_,fD hTO g1 ?_,fD hTO g2 ?_,hi,fD q1 hz ?_,fD q1 hTO ?_,fD q1 g1 ?_,fD q1 g2 ?_,fD q2 hz ?_,fD q2 hTO ?_,fD q2 g1 ?_,fD q2 g2 ?_⟩
 all_goals first
  | (rw[d1];first | (rw[c1];exact oY (by decide)) | (rw[c2];exact oY (by decide)) | exact oY (by decide))
  | (rw[d2];first | (rw[c1];exact oY (by decide)) | (rw[c2];exact oY (by decide)) | exact oY (by decide))
  | (rw[c1];exact oY (by decide))
  | (rw[c2];exact oY (by decide))
  | exact oY (by decide)
def FY (K : FG9) (l1 l2 : Addr) : It :=
  ⟨λi H => ∃ xs ys x y, b6 K H l1 xs /\ b6 K H l2 ys /\ xs[i]? = some x /\ ys[i]? = some y,
   λi H v H' => ∃ p x y, v = .ref p /\ H p = none /\ H' = upd H p (.tup [x, y]) /\ (∀ xs, b6 K H l1 xs → xs[i]? = some x) /\ ∀ ys, b6 K H l2 ys → ys[i]? = some y,
   λi H => ∃ xs ys, b6 K H l1 xs /\ b6 K H l2 ys /\ (xs.length ≤ i \/ ys.length ≤ i)⟩
def tnZ (z TI TO i1 i2 l1 l2:Addr) (i:Nat) (h:Heap):Prop:=IsZip h z TI TO .none/\IsPair h TI (.ref i1) (.ref i2)/\(∃a b,IsPair h TO a b)/\h.IsListIter i1 l1 i/\h.IsListIter i2 l2 i
theorem zr {P:Program} {w:World} {K:FG9} {elts:List Expr} {kk:Nat} {tpos:Pos} (z TI TO i1 i2 l1 l2:Addr) (hT:TI≠TO) (hi:i1≠i2):Turn P w K (.Tuple elts kk tpos) (FY K l1 l2) [z,TI,TO,i1,i2] z (tnZ z TI TO i1 i2 l1 l2) where
 mem:=by simp
 obj:=λi h st b hb=>by
  obtain ⟨hz,hTI,⟨a,c,hTO⟩,⟨o1,g1,c1,d1⟩,⟨o2,g2,c2,d2⟩⟩:=st;simp only[aN,bH,or_false] at hb;rcases hb with rfl | rfl | rfl | rfl | rfl
  ·exact ⟨_,hz,λv q=>nomatch q⟩
  ·exact ⟨_,hTI,λv q=>nomatch q⟩
  ·exact ⟨_,hTO,λv q=>nomatch q⟩
  ·exact ⟨o1,g1,λv q=>by rw[d1] at q;cases q⟩
  ·exact ⟨o2,g2,λv q=>by rw[d2] at q;cases q⟩
 keep:=λi h h' st k=>by
  obtain ⟨hz,hTI,⟨a,c,hTO⟩,h1,h2⟩:=st;exact ⟨k z (by simp) _ hz,k TI (by simp) _ hTI,⟨a,c,k TO (by simp) _ hTO⟩,h1.at λo e=>k i1 (by simp) o e,h2.at λo e=>k i2 (by simp) o e⟩
 item:=by
  intro X hP hw hK hc i pins s σ H E I hf st hg;subst hP hw hK;obtain ⟨hz,hTI,⟨a,c,hTO⟩,h1,h2⟩:=st;obtain ⟨xs,ys,x,y,qx,qy,ex,ey⟩:=hg;obtain ⟨us,rx,px,_⟩:=I.list qx;obtain ⟨ws,ry,py,_⟩:=I.list qy;obtain ⟨u,eu,ru⟩:=rx.get ex;obtain ⟨v,ev,rv⟩:=ry.get ey;have D:=tz hz hTI hTO h1 h2 px.isList py.isList hT hi;refine wpAny_pyNext_zip_item D hz hTI hTO h1 h2 px.isList py.isList (x:=u) (y:=v) (by simpa using eu) (by simpa using ev) λh' a1 a2 a3 a4 a5 a6 hk=>?_
  refine ⟨_,rfl,wpAny_letOwnedTupleGo_zip a1 λh'' hz'' hs=>?_⟩;have hT0:H s.heap.objs.size=none:=I.hok.fresh (ay _);have zne:s.heap.objs.size≠z:=yx (Heap.lt_size hz)
  have up:∀b o,b∉[z,TO,i1,i2]->s.heap.get? b=some o->h''.get? b=some o:=λb o hb e=>by
   simp only[aN,bH,or_false,not_or] at hb;exact (hs.2 b hb.1).trans (hk b o hb.1 hb.2.1 hb.2.2.1 hb.2.2.2 e)
  have fx:∀b∈[z,TO,i1,i2],m3 X pins H b:=λb hb=>hf b (by
   simp only[aN,bH,or_false] at hb ⊢;rcases hb with rfl | rfl | rfl | rfl <;> simp)
  have nx:∀b o,H b=some o->b∉[z,TO,i1,i2]:=λb o e hb=>by
   have:=(fx b hb).1;rw[this] at e;cases e
  have nT:∀{b:Addr} {o:HO},H b=some o->b≠s.heap.objs.size:=λe q=>by rw[q,hT0] at e;cases e
  have tup:h''.get? s.heap.objs.size=some { cls:=.type "tuple",data:=.seq #[u,v] }:=(hs.2 _ zne).trans a5
  have I2:Inv X pins σ (upd H s.heap.objs.size (.tup [x,y])) { s with heap:=h'' }:=by
   refine I.step (g':=s.gens) (d':=s.drawn) (t':=s.toks) (ch:=[z,TO,i1,i2]) (λb hb=>?_) (λb o _ _ hb e _=>up b o hb e) (λb o _ _ hb e _=>⟨o.slots,up b o hb e⟩) (λb o hb e n=>?_)
    (λb o hb e=>⟨o,up b o hb e⟩) (λb q e=>by rw[aS (nT e)];exact e) (λb o q e=>by rw[aS (nT e)];exact e) (λb q e=>⟨#[],by rw[aS (nT e),e];simp⟩) (λm hm=>?_) (λb o e=>?_) I.bare
   ·obtain ⟨_,f1,_,f3,f4,f5⟩:=fx b hb;exact ⟨f3,f1,f4,f5⟩
   ·rw[aS (bA (Heap.lt_size e))];exact n
   ·obtain ⟨o,es,ep,ho,r⟩:=hm;exact ⟨o,es,ep,up _ o (λz=>(fx _ z).2.1 rfl) ho,r⟩
   ·by_cases hb:b=s.heap.objs.size
    ·subst hb;rw[aE] at e;cases e;exact ⟨o6 rfl,[u,v],.cons ru (.cons rv .nil),⟨_,tup,rfl,_,rfl⟩⟩
    ·rw[aS hb] at e;refine (I.hok b o e).stay (λc v' hc q=>up c v' ?_ q) (λc q=>by rw[aS (nT q)];exact q) λc xs q=>by rw[aS (nT q)];exact q
     rcases hc with rfl | hc
     ·exact nx _ _ e
     ·exact nx _ _ hc
  refine ⟨.ref s.heap.objs.size,_,I2,rfl,⟨_,x,y,rfl,hT0,rfl,λxs' q=>by rw[I.list_inj q qx];exact ex,λys' q=>by rw[I.list_inj q qy];exact ey⟩,?_,λb hb=>?_⟩
  ·refine ⟨hz'',(hs.2 _ D.TIz).trans (hk _ _ D.TIz D.TITO D.TIi1 D.TIi2 hTI),⟨_,_,(hs.2 _ D.TOz).trans a2⟩,a3.at λo e=>(hs.2 _ D.i1z).trans e,a4.at λo e=>(hs.2 _ D.i2z).trans e⟩
  ·obtain ⟨o,e,_⟩:∃o,s.heap.get? b=some o/\True:=by
    obtain ⟨o1,g1,_⟩:=h1;obtain ⟨o2,g2,_⟩:=h2;simp only[aN,bH,or_false] at hb;rcases hb with rfl | rfl | rfl | rfl | rfl
    ·exact ⟨_,hz,trivial⟩
    ·exact ⟨_,hTI,trivial⟩
    ·exact ⟨_,hTO,trivial⟩
    ·exact ⟨_,g1,trivial⟩
    ·exact ⟨_,g2,trivial⟩
   rw[aS (bA (Heap.lt_size e))];exact (hf b hb).1
 done:=by
  intro X hP hw hK hc i pins s σ H E I hf st hg;subst hP hw hK;obtain ⟨hz,hTI,⟨a,c,hTO⟩,h1,h2⟩:=st;obtain ⟨xs,ys,qx,qy,hend⟩:=hg;obtain ⟨us,rx,px,_⟩:=I.list qx;obtain ⟨ws,ry,py,_⟩:=I.list qy;have lx:=rx.length;have ly:=ry.length;have D:=tz hz hTI hTO h1 h2 px.isList py.isList hT hi
  refine wpAny_pyNext_zip_end (I.ok.hd hc) D hz hTI hTO h1 h2 px.isList py.isList (by
   rcases hend with q | q
   ·exact .inl (by simp;lia)
   ·exact .inr (by simp;lia)) λh' hk=>⟨rfl,?_⟩
  have up:∀b o,b∉[z,TO,i1,i2]->s.heap.get? b=some o->h'.get? b=some o:=λb o hb e=>by
   simp only[aN,bH,or_false,not_or] at hb;exact hk b o hb.1 hb.2.1 hb.2.2.1 hb.2.2.2 e
  have fx:∀b∈[z,TO,i1,i2],m3 X pins H b:=λb hb=>hf b (by
   simp only[aN,bH,or_false] at hb ⊢;rcases hb with rfl | rfl | rfl | rfl <;> simp)
  have nx:∀b o,H b=some o->b∉[z,TO,i1,i2]:=λb o e hb=>by
   have:=(fx b hb).1;rw[this] at e;cases e
  refine I.step (g':=s.gens) (d':=s.drawn) (t':=s.toks) (ch:=[z,TO,i1,i2]) (λb hb=>?_) (λb o _ _ hb e _=>up b o hb e) (λb o _ _ hb e _=>⟨o.slots,up b o hb e⟩) (λb o hb e n=>n)
   (λb o hb e=>⟨o,up b o hb e⟩) (λb q e=>e) (λb o q e=>e) (λb q e=>⟨#[],by rw[e];simp⟩) (λm hm=>?_) (λb o e=>?_) I.bare
  ·obtain ⟨_,f1,_,f3,f4,f5⟩:=fx b hb;exact ⟨f3,f1,f4,f5⟩
  ·obtain ⟨o,es,ep,ho,r⟩:=hm;exact ⟨o,es,ep,up _ o (λz=>(fx _ z).2.1 rfl) ho,r⟩
  ·refine (I.hok b o e).stay (λc v' hc q=>up c v' ?_ q) (λc q=>q) λc xs q=>q
   rcases hc with rfl | hc
   ·exact nx _ _ e
   ·exact nx _ _ hc
 self:=λ_ _ _ _ _ st h=>wpAny_pyIter_zip st.1 h
section
variable {X:Cx}
def Fg (K:FG9) (ta:TA):TI:=λσ H R=>ta σ H λvs H1=>∃l1 l2,vs=[.ref l1,.ref l2]/\(∃xs,b6 K H1 l1 xs)/\(∃ys,b6 K H1 l2 ys)/\R (FY K l1 l2) H1
theorem By {a b:Expr} {ta:TA} {p pos tpos:Pos} {elts:List Expr} {kk:Nat} (hg:Gl X "zip") (hm:X.mg "zip"=none) (ha:PA X [a,b] ta) (hs:starEach [a,b] X.env=[(false,eval a X.env),(false,eval b X.env)]:=by rfl) (hs2:starEach [b] X.env=[(false,eval b X.env)]:=by rfl) :
  PI X (.Tuple elts kk tpos) (.Call (.Name "zip" p) [a,b] [] pos) (Fg X.K ta):=by
 intro pins s σ H R I h;refine Call_ (j8 I hg hm boot_zip (PyProof.Rows.callWith_type1 (d7 (ha pos pins s σ H _ I h) λus s1 ⟨vs,H1,I1,r1,q1⟩=>?_) (by rw[hs,hs2]) (by rw[hs2];rfl)));obtain ⟨l1,l2,e,⟨xs,qx⟩,⟨ys,qy⟩,q⟩:=q1;subst e;obtain ⟨u,v,rfl,ru,rv⟩:=vals2 r1;cases ru;cases rv;obtain ⟨us,rx,px,_⟩:=I1.list qx;obtain ⟨ws,ry,py,_⟩:=I1.list qy;refine call_zip_2 px.isList py.isList λh' a1 a2 a3 a4 a5 a6 hk=>wpAny_pyIter_zip a1 ?_
 have I2:Inv X pins σ H1 { s1 with heap:=h' }:=I1.kept (t':=s1.toks) hk;refine ⟨_,[s1.heap.objs.size+4,s1.heap.objs.size+2,s1.heap.objs.size+3,s1.heap.objs.size,s1.heap.objs.size+1],_,_,H1,rfl,I2,zr (s1.heap.objs.size+4) (s1.heap.objs.size+2) (s1.heap.objs.size+3) s1.heap.objs.size (s1.heap.objs.size+1) l1 l2 (bA (iZ _)) (bA (iZ _)),⟨a1,a2,⟨_,_,a3⟩,a4,a5⟩,λb hb=>?_,q⟩
 have hb':s1.heap.objs.size<=b:=by
  simp only[aN,bH,or_false] at hb;rcases hb with rfl | rfl | rfl | rfl | rfl <;> first | exact Nat.le_add_right _ _ | exact ay _
 exact I1.fpOk hb' (I1.hok.fresh hb')
theorem wA (hc:X.calm=true):oC X (.builtin "all") (λxs H Q=>∃(p:Addr) (bs:List Bool),xs=[.ref p]/\b6 X.K H p (bs.map V.bl)/\Q (.bl (bs.all id)) H):=by
 intro pins s σ H xs us Q I r h;obtain ⟨p,bs,rfl,hp,q⟩:=h;obtain ⟨u,rfl,ru⟩:=vals1 r;cases ru;obtain ⟨vs,rv,pl,hz⟩:=I.list hp
 have hb:PyProof.Rows.LSm.BoolsAre vs bs:=by
  clear q hp pl hz
  induction bs generalizing vs with
  | nil=>cases rv;exact .nil
  | cons b bs ih =>
   rw[jz] at rv;cases rv with
   | cons r1 r2=>cases r1;exact .cons b (ih _ r2)
 have hlt:p < s.heap.objs.size:=by obtain ⟨_,e,_⟩:=pl.isList;exact Heap.lt_size e
 refine call_all_walk (wpAny_pyIter_list pl.isList ?_)
 refine ⟨s.heap.objs.size,[s.heap.objs.size,p],[s.heap.objs.size],vs.toArray.size,_,_,λi=>(bs[i]?).getD true,rfl,Walks.list (A:=X.A.in1) (I.ok.hd hc) _ p (bA hlt) vs.toArray,
  ⟨⟨_,Heap.get?_push_size _ rfl,rfl,rfl⟩,pl.isList.push _⟩,λi v s' Q' E' hP hQ=>?_,λh' tk hk=>?_⟩
 ·obtain ⟨b,e,rfl⟩:=hb.get i v (by simpa using hP);simp only[e,Option.getD_some] at hQ;exact wpAny_truthy_bool hQ
 ·have e:((List.range vs.toArray.size).all λi=>(bs[i]?).getD true)=bs.all id:=by
   rw[aB,hb.length];exact PyProof.Rows.LSm.range_all bs
  rw[e];exact ⟨.bl _,H,I.kept (t':=tk) (PyProof.Rows.LSm.kept_iter hk),rfl,q⟩
theorem wz (hc:X.calm=true):oC X (.builtin "sum") (λxs H Q=>∃(p:Addr) (ns:List Int),xs=[.ref p]/\b6 X.K H p (ns.map V.int)/\Q (.int ns.sum) H):=by
 intro pins s σ H xs us Q I r h;obtain ⟨p,ns,rfl,hp,q⟩:=h;obtain ⟨u,rfl,ru⟩:=vals1 r;cases ru;obtain ⟨vs,rv,pl,_⟩:=I.list hp;have hi:IntsAre vs ns:=intsAre_of rv;obtain ⟨xs,hx⟩:=hi.allInts.items;have hl':s.heap.IsList p (intItems xs):=hx ▸ pl.isList;refine sum_intListG (I.ok.hd hc) hl' λh' tk t' hk=>?_
 have e1:ns=xs.toList.map (·.1):=by
  rw[<- nums_intItems,<- hx];exact (show numsOf vs.toArray.toList=ns from hi.numsOf).symm
 have e2:preSum (numAt xs) xs.size=ns.sum:=by
  rw[preSum_eq,aV (by simp),e1]
 rw[e2];exact ⟨.int _,H,I.kept (t':=tk) hk,⟨_,rfl⟩,q⟩
end
section
variable {K:FG9} {l1 l2:Addr} {xs ws:List V} {g:TG} {tf:TT} {te:TE} {Q:VK} {σ₀:St} {H:Hp}
theorem Ap (Pv:Nat->List V->Hp->Prop) (hz:xs.length<=sizeLine) (hw:ws.length=xs.length) (h0:Pv 0 [] H) (hl:∀i ys H,i<=xs.length->Pv i ys H->b6 K H l1 xs/\b6 K H l2 ws)
  (hs:∀i x y ys H p,xs[i]?=some x->ws[i]?=some y->ys.length<=i->Pv i ys H->H p=none->mN σ₀ g tf te (.ref p) (upd H p (.tup [x,y])) (λy H'=>Pv (i+1) (ys++[y]) H') (λH'=>Pv (i+1) ys H'))
  (hd:∀ys H,ys.length<=xs.length->Pv xs.length ys H->∀p,H p=none->Q (.ref p) (upd H p (.lst ys))):mT (FY K l1 l2) σ₀ g tf te Q H:=by
 refine ⟨λi m ys H=>m=xs.length - i/\i<=xs.length/\ys.length<=i/\Pv i ys H,⟨xs.length,by simp,bP _,bP _,h0⟩,?_⟩;rintro i m ys H ⟨rfl,hi,hy,p⟩;obtain ⟨q1,q2⟩:=hl i ys H hi p;by_cases hlt:i < xs.length
 ·refine .inr ⟨⟨xs,ws,xs[i],ws[i]'(by lia),q1,q2,by simp [hlt],by simp⟩,by lia,λy H'=>Pv (i+1) (ys++[y]) H',λH'=>Pv (i+1) ys H',λy H' p'=>⟨xs.length - (i+1),by lia,rfl,hlt,by rw[bS,d5];lia,p'⟩,λH' p'=>⟨xs.length - (i+1),by lia,rfl,hlt,by lia,p'⟩,λx H' y=>?_⟩;obtain ⟨r,x',y',rfl,hr,rfl,e1,e2⟩:=y;exact hs i x' y' ys _ r (e1 xs q1) (e2 ws q2) hy p hr
 ·have e:i=xs.length:=by lia
  subst e;exact .inl ⟨⟨xs,ws,q1,q2,.inl (ay _)⟩,by lia,hd ys H hy p⟩
end
section
variable {X:Cx}
theorem rj (K:FG9) (n:Nat) {es:List Expr} {k:Nat} {pos:Pos} {t:AE} (h:FI X es t) (hK:X.K=K:=by rfl) (hc:X.calm=true:=by rfl)
  (hn:(assignEach es X.env).length=n:=by rfl) (hst:(assignEach es X.env).findIdx? (·.1)=none:=by rfl):PG X (.Tuple es k pos) (Eb K n t):=by subst hK;exact uK hc h hn hst
theorem rl (K:FG9) (hK:X.K=K):FN X (DR K):=by subst hK;exact cA
theorem je (K:FG9) (hK:X.K=K):FN X (DS K):=by subst hK;exact cf
theorem vW (K:FG9) {tg l:Expr} {tl:TE} (hl:PE X l tl) (hK:X.K=K:=by rfl):PI X tg l (Ac K tl):=by subst hK;exact dk hl
end
theorem dj {X:Cx} {e e':Expr} {es:List Expr} {te:TE} {t:TA} (h:e=e') (ha:PE X e' te) (hr:PA X es t) (hs:∀l,starEach (e' :: l) X.env=(false,eval e' X.env) :: starEach l X.env:=by intro _;rfl):PA X (e :: es) (m6 te t):=by subst h;exact aa ha hr (hs _)
section
variable {σ:St} {H:Hp} {D:Ends} {Q:VK}
theorem nV {l:Addr} {xs:List V} {y:V} (hl:H l=some (.lst xs)) (hz:xs.length < sizeLine) (h:Q .non (upd H l (.lst (xs++[y])))):xW (.ref l) [y] H Q:=⟨l,xs,y,rfl,rfl,hl,hz,h⟩
theorem A9 {K:FG9} {ta:TA} {R:It->Hp->Prop} (h:ta σ H λvs H1=>∃l1 l2,vs=[.ref l1,.ref l2]/\(∃xs,b6 K H1 l1 xs)/\(∃ys,b6 K H1 l2 ys)/\R (FY K l1 l2) H1):Fg K ta σ H R:=h
theorem DO {l b:Addr} {xs zs:List V} (h1:H l=some (.lst xs)) (h2:H b=some (.lst zs)) (hz:xs.length+zs.length<=sizeLine) (h:∀p H',aF H H'->H p=none->H' p=some (.lst (xs++zs))->Q (.ref p) H'):E6 (.ref l) (.ref b) H Q :=
 ⟨l,b,xs,zs,rfl,rfl,h1,h2,hz,λp hp=>h p _ (aF.new hp) hp aE⟩
theorem nD {α:Type} {xs:List α} {i:Int} (h0:0<=i) (h1:i < xs.length):∃v,zg xs i=some v/\v∈xs/\xs[i.toNat]?=some v:=by
 have hj:i.toNat < xs.length:=by lia
 refine ⟨xs[i.toNat],?_,bC hj,by simp [hj]⟩;have:=iT (xs:=xs) (j:=i.toNat) (v:=xs[i.toNat]) (by simp [hj]);rwa [Int.toNat_of_nonneg h0] at this
end
theorem dY {α β:Type} {F:α->β->Prop}:∀{l1:List α} {l2:List β} {y:β},Paired F l1 l2->y∈l2->∃x∈l1,F x y
 | _,_,_,.nil,h=>nomatch h
 | _,_,_,.cons r t,h=>by
  rcases aN.mp h with rfl | h
  ·exact ⟨_,cz,r⟩
  ·obtain ⟨x,hx,q⟩:=dY t h;exact ⟨x,bq _ hx,q⟩
theorem df {α β:Type} {F:α->β->Prop} {l1:List α} {l2:List β} {i:Nat} {y:β} (h:Paired F l1 l2) (e:l2[i]?=some y):∃x,l1[i]?=some x/\F x y:=by
 have hl:=h.length;have hi:i < l2.length:=(aO.mp e).1;refine ⟨l1[i]'(by lia),by simp,?_⟩;have:=j3 h (i:=i) (by lia) hi;have e2:l2[i]=y:=(aO.mp e).2;rwa [e2] at this
def sR (n:Int×Int):Prop:=0 < n.2/\Int.gcd n.1 n.2=1/\Sz 8000 n.1/\Sz 8000 n.2
theorem take_snoc {α:Type} {l:List α} {i:Nat} {v:α} (h:l[i]?=some v):l.take (i+1)=l.take i++[v]:=by rw[List.take_add_one,h];rfl
theorem aF.after {H H':Hp} {r:Addr} {o:HO} (s:aF H H') (h:H r=Option.none):aF H (upd H' r o):=λb u e=>by rw[aS (dF e h)];exact s b u e
theorem cy.after {H H':Hp} {b r:Addr} {o:HO} (s:cy b H H') (h:H r=Option.none):cy b H (upd H' r o):=⟨λc u e n=>by rw[aS (dF e h)];exact s.1 c u e n,λq hi=>(s.2 q hi).upd λz=>by obtain ⟨_,_,_,e⟩:=hi;rw[<- z,h] at e;cases e⟩
theorem cy.same {H H' H'':Hp} {b:Addr} (s:cy b H H') (e:aF H' H''):cy b H H'':=s.trans e.upto
theorem yt {α:Type} {Pr:α->Prop} {l:List α} {a:α} (h:∀n∈l,Pr n) (ha:Pr a):∀n∈l++[a],Pr n:=λn hn=>by
 rcases aL.mp hn with hn | hn
 ·exact h n hn
 ·have e:n=a:=by simpa using hn
  rw[e];exact ha
section
variable {X:Cx} {pins:List (Addr×Obj)} {σ:St} {H:Hp} {s:Shared}
theorem Inv.moved {h':Heap} {ch:List Addr} {g':Array GenState} {d':Drawn} {t':Nat} (I:Inv X pins σ H s) (fx:∀b∈ch,m3 X pins H b) (up:∀b o,b∉ch->s.heap.get? b=some o->h'.get? b=some o) (hg:AllBare g') :
  Inv X pins σ H { s with heap:=h',gens:=g',drawn:=d',toks:=t' }:=by
 have nx:∀b o,H b=some o->b∉ch:=λb o e hb=>by have:=(fx b hb).1;rw[this] at e;cases e
 refine I.step (ch:=ch) (λb hb=>?_) (λb o _ _ hb e _=>up b o hb e) (λb o _ _ hb e _=>⟨o.slots,up b o hb e⟩) (λb o hb e n=>n) (λb o hb e=>⟨o,up b o hb e⟩) (λb q e=>e) (λb o q e=>e) (λb q e=>⟨#[],by rw[e];simp⟩) (λm hm=>?_) (λb o e=>?_) hg
 ·obtain ⟨_,f1,_,f3,f4,f5⟩:=fx b hb;exact ⟨f3,f1,f4,f5⟩
 ·obtain ⟨o,es,ep,ho,r⟩:=hm;exact ⟨o,es,ep,up _ o (λz=>(fx _ z).2.1 rfl) ho,r⟩
 ·refine (I.hok b o e).stay (λc v' hc q=>up c v' ?_ q) (λc q=>q) λc xs q=>q
  rcases hc with rfl | hc
  ·exact nx _ _ e
  ·exact nx _ _ hc
theorem Inv.track {p:Addr} {o:HO} (I:Inv X pins σ H s) (fp:m3 X pins H p) (new:gN X.prog X.w (upd H p o) s.heap p o):Inv X pins σ (upd H p o) s:=by
 have nt:∀{b:Addr} {u:HO},H b=some u->b≠p:=λe z=>by rw[z,fp.1] at e;cases e
 refine I.step (h':=s.heap) (g':=s.gens) (d':=s.drawn) (t':=s.toks) (ch:=[p]) (λb hb=>?_) (λb o _ _ _ e _=>e) (λb o _ _ _ e _=>⟨o.slots,e⟩) (λb o hb e n=>?_) (λb o _ e=>⟨o,e⟩) (λb q e=>by rw[aS (nt e)];exact e) (λb o q e=>by rw[aS (nt e)];exact e)
  (λb q e=>⟨#[],by rw[aS (nt e),e];simp⟩) (λm hm=>hm) (λb u e=>?_) I.bare
 ·have e:b=p:=by simpa using hb
  subst e;obtain ⟨_,f1,_,f3,f4,f5⟩:=fp;exact ⟨f3,f1,f4,f5⟩
 ·rw[aS λz=>hb (by simp [z])];exact n
 ·by_cases hb:b=p
  ·subst hb;rw[aE] at e;cases e;exact new
  ·rw[aS hb] at e;exact (I.hok b u e).stay (λc v _ q=>q) (λc q=>by rw[aS (nt q)];exact q) λc xs q=>by rw[aS (nt q)];exact q
end
end L2
namespace Nm
def qj:List Int->Int->Int
 | [],m=>m
 | b :: r,m=>qj r (m*(b / g m b))
theorem pJ {m b:Int} (hm:0 < m) (hb:0 < b):0 < m*(b / g m b):=mZ hm (u9 (t:=m) hb)
theorem u0 {m b : Int} : b ∣ m * (b / g m b) := by
  have h1 := sG m b;refine ⟨lo m b, ?_⟩;have h2 : b / g m b * g m b = b := ql m b
  calc m * (b / g m b) = lo m b * g m b * (b / g m b) := by rw [h1]
    _ = lo m b * (b / g m b * g m b) := by rw [cM, dJ (g m b)]
    _ = b * lo m b := by rw [h2, dJ]
theorem we:∀{bs:List Int} {m:Int},0 < m->(∀b∈bs,0 < b)->0 < qj bs m
 | [],_,hm,_=>hm
 | b :: r,m,hm,h=>we (bs:=r) (pJ hm (h b cz)) λc hc=>h c (bq _ hc)
theorem wj:∀{bs:List Int} {m:Int},m∣qj bs m
 | [],_=>Int.dvd_refl _
 | b :: r,m=>Int.dvd_trans (Int.dvd_mul_right m _) (wj (bs:=r))
theorem wg:∀{bs:List Int} {m b:Int},b∈bs->b∣qj bs m
 | c :: r,m,b,h=>by
  rcases aN.mp h with rfl | h
  ·exact Int.dvd_trans u0 (wj (bs:=r))
  ·exact wg (bs:=r) h
end Nm
namespace L2
open PySem PySem.Spec PyProof.Rows Nm
def Ca (K:FG9) (H:Hp) (p:Addr) (ns:List (Int×Int)):Prop:=∃xs,H p=some (.lst xs)/\Paired (λn x=>wH K H x n) ns xs
def vT (K:FG9) (T:String):V->Hp->VK->Prop:=λx H Q=>yN K T x H Q\/∃a xs b,x=.ref a/\oj K H a xs/\PySem.W.kitOne K (.type "tuple") (.type T)=some b/\Q (.bl b) H
theorem tY:∀{bs:List Int} {m b:Int},qj (bs++[b]) m=qj bs m*(b / g (qj bs m) b)
 | [],_,_=>rfl
 | c :: r,m,b=>tY (bs:=r)
def jw (ns:List (Int×Int)) (B:Int):List Int:=ns.map λn=>n.1*(B / n.2)
def Au (ns:List (Int×Int)):Int:=qj (ns.map (·.2)) 1
theorem wB {ns:List (Int×Int)} {n:Int×Int} (h:n∈ns):n.2∣Au ns:=wg (aG.mpr ⟨n,h,rfl⟩)
theorem Gy {m b:Int} (hb:0 < b) {k:Nat} (h:Sz k b):Sz k (g m b):=h.le (by
 have h1:(g m b).natAbs=Int.gcd m b:=by unfold g;simp
 rw[h1];exact gS (by lia) (by have:=dE (a:=m) (b:=b);exact cJ.mpr this |> λz=>by simpa using z))
def yJ (K:FG9):Sp:=λvs H Q _=>∃x n,vs=[x]/\wH K H x n/\sR n/\∀H',aF H H'->Q (.bl true) H'
inductive p5 (K:FG9) (vs:List V) (H:Hp) (Q:VK) (E9:XK):Prop
 | mk (p:Addr) (ns:List (Int×Int)):vs=[.ref p,.int ns.length]->Ca K H p ns->ns.length<=1000->(∀n∈ns,sR n)->(∀H',aF H H'->Q (.bl true) H')->p5 K vs H Q E9
theorem rk {X:Cx} {a:Expr} {ta:TE} {pos:Pos} {c:Str} {T:String} {p p2:Pos} (hg:Gl X "isinstance") (hm:X.mg "isinstance"=none) (hb:bootBuiltins c=some (.type T)) (hmc:X.mg c=none) (ha:PE X a ta) (hgc:Gl X c:=by rfl) (hn:c≠"__name__":=by decide)
  (hd:(c == ("__debug__":Str))=false:=by decide) (he:starEach [a,.Name c p2] X.env=[(false,eval a X.env),(false,eval (.Name c p2) X.env)]:=by rfl)
  (hpl:(backTo pos (starEach [.Name c p2] X.env)).any (·.1)=false:=by rfl) (he2:starEach [.Name c p2] X.env=[(false,eval (.Name c p2) X.env)]:=by rfl):PE X (.Call (.Name "isinstance" p) [a,.Name c p2] [] pos) (FR (vT X.K T) ta):=by
 intro pins s σ H Q I h;refine wpAny_Call_Name_kw (j8 I hg hm PyProof.Rows.boot_isinstance ?_);have hA:PA X [a,.Name c p2] (m6 ta (m6 (tC (.ty T)) wW)):=aa ha (aa (xY hgc hmc hb rfl hn hd) ai he2) (by rw[he,he2])
 have hq:m6 ta (m6 (tC (.ty T)) wW) σ H (λvs H1=>∃x,vs=[x,.ty T]/\vT X.K T x H1 Q):=by
  show ta σ H λx H1=>∃x',[x,V.ty T]=[x',V.ty T]/\vT X.K T x' H1 Q
  have e:(λx H1=>∃x',[x,V.ty T]=[x',V.ty T]/\vT X.K T x' H1 Q)=λx H1=>vT X.K T x H1 Q:=by
   funext x H1;apply propext;constructor
   ·rintro ⟨x',e,q⟩;cases e;exact q
   ·intro q;exact ⟨x,rfl,q⟩
  rw[e];exact h
 refine PyProof.Rows.callWith_builtin1 (d7 (hA pos pins s σ H _ I hq) λus s1 ⟨vs,H1,I1,r1,x,e,q1⟩=>?_) (by rw[he,he2]) hpl;subst e;obtain ⟨u,w',rfl,ru,rt⟩:=vals2 r1;cases rt;rcases q1 with ⟨t,bb,ty,ek,q⟩ | ⟨ad,xs,bb,rfl,hs,ek,q⟩
 ·exact t5 I1 ru ty ek λtk=>⟨.bl bb,H1,I1.tok tk,rfl,q⟩
 ·cases ru;obtain ⟨its,_,⟨o,g1,g2,_⟩,_⟩:=I1.tuple hs;exact cB PySem.W.kitx_tuple I1.kIn ⟨o,g1,g2⟩ ek (λz=>nomatch z) λtk=>⟨.bl bb,H1,I1.tok tk,rfl,q⟩
theorem Ei {j:Nat} {x y:Int} (h1:Sz j x) (h2:Sz j y):Sz (j+1) (x+y):=by
 unfold Sz at *
 have:=lg x y;rw[eO]
 lia
theorem zP {H:Hp} {Q:VK} {l:Addr} {k:Nat} {x:V} (h:H l=some (.lst [x])) (hk:k<=1000) (q:∀p H',aF H H'->H p=none->H' p=some (.lst (List.replicate k x))->Q (.ref p) H'):E5 (.ref l) (.int k) H Q :=
 ⟨l,k,[x],rfl,rfl,h,by lia,by lia,bI (bT (by simp;lia)),λp hp=>q p _ (aF.new hp) hp (by rw[aE];simp)⟩
theorem oN {α β:Type} {F:α->β->Prop} {x:α} {y:β} (h:F x y):∀m:Nat,Paired F (List.replicate m x) (List.replicate m y)
 | 0=>.nil
 | m+1=>.cons h (oN h m)
theorem fh {n a:Nat} (h:a < n):AD n (a:Int)=some a:=by
 unfold AD;rw[if_pos (by lia),if_pos (by lia),Int.toNat_natCast]
theorem zC {j:Nat}:∀{l:List Int},(∀v∈l,Sz j v)->Sz (j+l.length) l.sum
 | [],_=>jO _
 | v :: r,h=>by
  rw[ax,cD];exact Ei (j:=j+r.length) ((h v (.head _)).mono (by lia)) (zC λu hu=>h u (.tail _ hu))
def Bt (K:FG9):List V->Hp->VK->Prop:=λxs H Q=>∃p ys,xs=[.ref p]/\(b6 K H p ys\/oj K H p ys)/\∀l,H l=none->Q (.ref l) (upd H l (.lst ys))
theorem ox {X:Cx} (K:FG9) (hK:X.K=K):oC X (.type "list") (Bt K):=by subst hK;exact pQ
theorem aF.none {H H':Hp} {l:Addr} (s:aF H H') (h:H' l=Option.none):H l=Option.none:=by
 cases e:H l with
 | none=>rfl
 | some o=>have:=s _ _ e;rw[h] at this;cases this
theorem zA {b:Int} (h:b.natAbs<=1000000):Sz 20 b:=ba h (by decide)
theorem cy.none {H H':Hp} {b l:Addr} (u:cy b H H') (B:il H' b) (h:H' l=Option.none):H l=Option.none:=by
 cases e:H l with
 | none=>rfl
 | some o =>
  by_cases z:l=b
  ·obtain ⟨_,_,_,_,_,e2,_⟩:=B;rw[<- z,h] at e2;cases e2
  ·have:=u.1 l o e z;rw[h] at this;cases this
end L2
namespace Nm
def nm (q:Rat):Int×Int:=(q.num,(q.den:Int))
theorem j6 (q:Rat):0 < (nm q).2:=by have:=q.den_pos;show 0 < (q.den:Int);lia
theorem uY (q:Rat):Int.gcd (nm q).1 (nm q).2=1:=q.reduced
theorem DZ {p q:Rat} (h:nm p=nm q):p=q:=by
 have h1:p.num=q.num:=congrArg Prod.fst h;have h2:(p.den:Int)=q.den:=congrArg Prod.snd h;exact Rat.ext h1 (by lia)
theorem nX (q : Rat) : (q.num : Rat) = q * (q.den : Rat) := by
  have h := Rat.num_divInt_den q;rw [Rat.divInt_eq_div] at h
  have hd : ((q.den : Int) : Rat) ≠ 0 := by
    intro z;have z := cb.mp z;have := q.den_pos
    lia
  have e : ((q.den : Int) : Rat) = (q.den : Rat) := aZ _
  calc (q.num : Rat) = (q.num : Rat) / ((q.den : Int) : Rat) * ((q.den : Int) : Rat) := (Rat.div_mul_cancel hd).symm
    _ = q * (q.den : Rat) := by rw [h, e]
theorem E8 {a b:Int} {q:Rat} (hb:0 < b) (hg:Int.gcd a b=1) (e:q*(b:Rat)=(a:Rat)):(a,b)=nm q:=by
 have h1:a*(q.den:Int)=q.num*b:=by
  apply gQ.mp;rw[aH,aH,<- e,nX,aZ];grind
 obtain ⟨e1,e2⟩:=uniq hb (j6 q) hg (uY q) h1;exact Prod.ext e1 e2
theorem pH {t b:Int} {q:Rat} (hb:0 < b) (e:q*(b:Rat)=(t:Rat)):(lo t b,hi t b)=nm q:=by
 refine E8 (u9 hb) (sE (by lia)) ?_;have h:=sF t b;have hb':(b:Rat)≠0:=λz=>by have:=cb.mp z;lia
 have h2:((lo t b:Int):Rat)*(b:Rat)=(t:Rat)*((hi t b:Int):Rat):=by rw[<- aH,h,aH]
 rw[<- e] at h2;have h3:(q*((hi t b:Int):Rat) - ((lo t b:Int):Rat))*(b:Rat)=0:=by grind
 rcases Rat.mul_eq_zero.mp h3 with h4 | h4
 ·grind
 ·exact absurd h4 hb'
def Fr (M V:Nat) (q:Rat):Prop:=∃z:Int,q*(M:Rat)=(z:Rat)/\z.natAbs<=V*M
theorem Fr.mono {M V V':Nat} {q:Rat} (h:Fr M V q) (l:V<=V'):Fr M V' q:=by obtain ⟨z,e,b⟩:=h;exact ⟨z,e,ar b (aR _ l)⟩
theorem Fr.scale {M V:Nat} {q:Rat} (h:Fr M V q) (k:Nat):Fr (M*k) V q:=by
 obtain ⟨z,e,b⟩:=h;refine ⟨z*k,?_,?_⟩
 ·rw[sU,aH,<- e,aZ,wK]
 ·rw[cL,ck,<- dO];exact aR _ b
theorem Fr.scaleL {M V:Nat} {q:Rat} (h:Fr M V q) (k:Nat):Fr (k*M) V q:=by rw[eP];exact h.scale k
theorem Fr.dvd {M N V:Nat} {q:Rat} (h:Fr M V q) (d:M∣N):Fr N V q:=by obtain ⟨k,rfl⟩:=d;exact h.scale k
theorem Fr.add {M V W:Nat} {p q:Rat} (h:Fr M V p) (h':Fr M W q):Fr M (V+W) (p+q):=by
 obtain ⟨z,e,b⟩:=h;obtain ⟨z',e',b'⟩:=h';refine ⟨z+z',by rw[jN,<- e,<- e',Rat.add_mul],?_⟩;rw[Nat.add_mul];have:=lg z z'
 lia
theorem Fr.mul {M N V W : Nat} {p q : Rat} (h : Fr M V p) (h' : Fr N W q) : Fr (M * N) (V * W) (p * q) := by
  obtain ⟨z, e, b⟩ := h;obtain ⟨z', e', b'⟩ := h';refine ⟨z * z', ?_, ?_⟩
  · rw [sU, aH, <- e, <- e']; grind
  · rw [cL]
    calc z.natAbs * z'.natAbs ≤ (V * M) * (W * N) := bB b b'
      _ = V * W * (M * N) := by rw [dO, Nat.mul_left_comm M, <- dO]
theorem Fr.zero {M V:Nat}:Fr M V 0:=⟨0,by simp,by simp⟩
theorem Fr.int {M V:Nat} {i:Int} (h:i.natAbs<=V):Fr M V (i:Rat):=⟨i*M,by rw[aH,aZ],by rw[cL,ck];exact aR _ h⟩
theorem Fr.one {M V:Nat} (h:1<=V):Fr M V 1:=Fr.int (i:=1) h
theorem Fr.den {M V:Nat} {q:Rat} (h:Fr M V q):(q.den:Int)∣(M:Int):=by
 obtain ⟨z,e,b⟩:=h
 have h1:q.num*(M:Int)=z*(q.den:Int):=by
  apply gQ.mp;rw[aH,aH,<- e,nX,aZ,aZ];grind
 have h2:(q.den:Int)∣q.num*(M:Int):=⟨z,by rw[h1,dJ]⟩;exact lZ (by rw[ja];exact uY q) h2
theorem Fr.den_le {M V:Nat} {q:Rat} (h:Fr M V q) (hM:0 < M):q.den<=M:=gS hM (qY.mp h.den)
theorem Fr.num_le {M V:Nat} {q:Rat} (h:Fr M V q) (hM:0 < M):q.num.natAbs<=V*M:=by
 have hd:=h.den;obtain ⟨z,e,b⟩:=h;obtain ⟨k,hk⟩:=qY.mp hd;have hk0:k≠0:=λz=>by rw[z,Nat.mul_zero] at hk;lia
 have h1:z=q.num*(k:Int):=by
  apply gQ.mp;rw[aH,<- e,nX,aZ,hk,sU];grind
 rw[h1] at b;exact ar (lA (by lia)) b
theorem Fr.own (q:Rat) {V:Nat} (h:q.num.natAbs<=V):Fr q.den V q:=⟨q.num,(nX q).symm,ar h (cR _ q.den_pos)⟩
theorem Fr.sz {M V k j:Nat} {q:Rat} (h:Fr M V q) (hM:0 < M) (h1:M<=2^k) (h2:V<=2^j):Sz (j+k+1) (nm q).1/\Sz (k+1) (nm q).2:=by
 constructor
 ·show q.num.natAbs < 2^(j+k+1)
  have h3:=h.num_le hM;have h4:V*M<=2^j*2^k:=bB h2 h1;rw[eO,cG];have:=jO (j+k);rw[cG] at this
  lia
 ·show (q.den:Int).natAbs < 2^(k+1)
  have h3:=h.den_le hM;rw[ck,eO];have:=jO k
  lia
theorem Fr.sum {M V:Nat}:∀{l:List Rat},(∀x∈l,Fr M V x)->Fr M (l.length*V) l.sum
 | [],_=>by simp;exact Fr.zero
 | x :: r,h=>by
  rw[ax,cD,kX,Nat.add_comm];exact (h x (.head _)).add (Fr.sum λy hy=>h y (.tail _ hy))
def ma (xs ys:List Rat):Rat:=(List.zipWith (·*·) xs ys).sum
theorem Fr.dot {M N V W : Nat} {xs ys : List Rat} (h : ∀ x ∈ xs, Fr M V x) (h' : ∀ y ∈ ys, Fr N W y) : Fr (M * N) (xs.length * (V * W)) (ma xs ys) := by
  have q := Fr.sum (M := M * N) (V := V * W) (l := List.zipWith (· * ·) xs ys) λz hz => by
    obtain ⟨i, hi, e⟩ := fz hz;rw [mY] at e;rw [<- e];exact (h _ (bC _)).mul (h' _ (bC _))
  exact q.mono (aR _ (by rw [jn]; lia))
theorem pK : ∀ {bs : List Int} {m M : Int}, 0 < m → m ∣ M → (∀ b ∈ bs, 0 < b /\ b ∣ M) → qj bs m ∣ M
  | [], _, _, _, h, _ => h
  | b :: r, m, M, hm, h, hb => by
    have b1 := hb b cz;refine pK (bs := r) (pJ hm b1.1) ?_ λc hc => hb c (bq _ hc)
    have gp : 0 < g m b := sI (by lia);have e1 := sG m b;have e2 := ql m b;obtain ⟨u, hu⟩ := h;obtain ⟨v, hv⟩ := b1.2
    have h3 : lo m b * u = hi m b * v := by
      apply oH (show g m b ≠ 0 by lia)
      calc lo m b * u * g m b = lo m b * g m b * u := by rw [cM, dJ u, <- cM]
        _ = m * u := by rw [e1]
        _ = M := hu.symm
        _ = b * v := hv
        _ = hi m b * g m b * v := by rw [e2]
        _ = hi m b * v * g m b := by rw [cM, dJ (g m b), <- cM]
    have h4 : hi m b ∣ lo m b * u := ⟨v, h3⟩;have h5 : hi m b ∣ u := lZ (by rw [ja]; exact sE (by lia)) h4;obtain ⟨w, hw⟩ := h5;refine ⟨w, ?_⟩;show M = m * hi m b * w
    rw [hu, hw, cM]
theorem vc {a b:Int} {k:Nat} (hb:0 < b) (d:a∣b) (h:Sz k b):Sz k a:=h.le (gS (by lia) (cJ.mpr d))
end Nm
namespace Nm
def Dr (W:Nat) (x:Rat):Prop:=x.num.natAbs<=W/\x.den<=W
def tR:List Nat->Nat
 | []=>1
 | a :: r=>a*tR r
theorem tN:∀{l:List Nat},(∀a∈l,0 < a)->0 < tR l
 | [],_=>Nat.one_pos
 | a :: r,h=>kb (h a (.head _)) (tN λb hb=>h b (.tail _ hb))
theorem tO:∀{l:List Nat} {a:Nat},a∈l->a∣tR l
 | b :: r,a,h=>by
  rcases aN.mp h with rfl | h
  ·exact Nat.dvd_mul_right ..
  ·exact Nat.dvd_trans (tO h) (Nat.dvd_mul_left ..)
theorem vV {k:Nat}:∀{l:List Nat},(∀a∈l,a<=2^k)->tR l<=2^(k*l.length)
 | [],_=>by simp [tR]
 | a :: r,h=>by
  rw[cD,Nat.mul_succ,cG,eP (2^(k*r.length))];exact bB (h a (.head _)) (vV λb hb=>h b (.tail _ hb))
def GF (M V:Nat) (rows:LR9):Prop:=∀xs∈rows,∀x∈xs,Fr M V x
def gU (rows:LR9) (w:Nat):LR9:=(List.range w).map λj=>rows.map λxs=>xs.getD j 0
theorem ip {rows:LR9} {w:Nat}:(gU rows w).length=w:=by simp [gU]
theorem tF {rows:LR9} {w:Nat}:∀ys∈gU rows w,ys.length=rows.length:=λys hy=>by
 obtain ⟨j,_,rfl⟩:=aG.mp hy;exact aj ..
end Nm
namespace L2
open PySem PySem.Spec PyProof.Rows Nm
theorem cy.sqt {K:FG9} {H H':Hp} {b a:Addr} {xs:List V} (u:cy b H H') (B:il H b) (h:oj K H a xs):oj K H' a xs:=by
 rcases h with (h | ⟨o,h⟩) | h
 ·exact .inl (.inl (u.tup B h))
 ·exact .inl (.inr ⟨o,u.other (λz=>by obtain ⟨_,_,_,_,_,e,_⟩:=B;rw[z,e] at h;cases h) h⟩)
 ·exact .inr h
theorem zE {K:FG9} {H:Hp} {a l:Addr} {xs ys:List V} {o:HO} (h:oj K H a xs) (hl:H l=some (.lst ys)):oj K (upd H l o) a xs:=by
 rcases h with (h | ⟨o,h⟩) | h
 ·exact .inl (.inl (by rw[aS λz=>by rw[z,hl] at h;cases h];exact h))
 ·exact .inl (.inr ⟨o,by rw[aS λz=>by rw[z,hl] at h;cases h];exact h⟩)
 ·exact .inr h
def bO (K:FG9) (H:Hp) (q:Rat) (x:V):Prop:=wH K H x (nm q)
section
variable {K:FG9} {H H':Hp} {q:Rat} {x:V} {b l p:Addr} {qs:List Rat}
theorem bO.same (h:bO K H q x) (e:aF H H'):bO K H' q x:=e.num h
theorem bO.upto (h:bO K H q x) (u:cy b H H') (B:il H b):bO K H' q x:=by obtain ⟨p,e,s⟩:=h;exact ⟨p,e,u.sqt B s⟩
theorem bO.updL {ys:List V} {o:HO} (h:bO K H q x) (hl:H l=some (.lst ys)):bO K (upd H l o) q x:=by obtain ⟨p,e,s⟩:=h;exact ⟨p,e,zE s hl⟩
theorem bO.mk {r:Addr} {a c:Int} (h:H r=some (.tup [.int a,.int c])) (e:(a,c)=nm q):bO K H q (.ref r):=⟨r,rfl,by rw[<- e];exact oj.of h⟩
def d4 (K:FG9) (H:Hp) (p:Addr) (qs:List Rat):Prop:=∃xs,H p=some (.lst xs)/\Paired (bO K H) qs xs
theorem d4.same (h:d4 K H p qs) (e:aF H H'):d4 K H' p qs:=by obtain ⟨xs,g,r⟩:=h;exact ⟨xs,e _ _ g,Paired.imp' (λ_ _ z=>z.same e) r⟩
theorem d4.upto (h:d4 K H p qs) (u:cy b H H') (B:il H b) (n:p≠b):d4 K H' p qs:=by obtain ⟨xs,g,r⟩:=h;exact ⟨xs,u.other n g,Paired.imp' (λ_ _ z=>z.upto u B) r⟩
theorem d4.updL {ys:List V} {o:HO} (h:d4 K H p qs) (hl:H l=some (.lst ys)) (n:p≠l):d4 K (upd H l o) p qs:=by obtain ⟨xs,g,r⟩:=h;exact ⟨xs,by rw[aS n];exact g,Paired.imp' (λ_ _ z=>z.updL hl) r⟩
theorem qE {α β γ:Type} {F:α->β->Prop} {f:γ->α}:∀{l:List γ} {l2:List β},Paired (λc x=>F (f c) x) l l2->Paired F (l.map f) l2
 | _,_,.nil=>.nil
 | _,_,.cons r t=>.cons r (qE t)
theorem d4.rowK (h:d4 K H p qs):Ca K H p (qs.map nm):=by obtain ⟨xs,g,r⟩:=h;exact ⟨xs,g,qE (F:=λn x=>wH K H x n) r⟩
def cN (K:FG9) (H0 H:Hp) (qs:List Rat) (x:V):Prop:=∃q,x=V.ref q/\H0 q=none/\d4 K H q qs
def cg (K:FG9) (H0 H:Hp) (p:Addr) (rows:LR9):Prop:=∃xs,H p=some (.lst xs)/\Paired (cN K H0 H) rows xs/\V.ref p∉xs
theorem ph {H0:Hp} {K:FG9} {p:Addr} {rows:LR9} {ys:List V} (h:∃H2,H2 p=none/\Paired (cN K H0 H2) rows ys):V.ref p∉ys:=λhm=>by
 obtain ⟨H2,e,pr⟩:=h;obtain ⟨qs,_,q,z,_,xs,g,_⟩:=dY pr hm;cases z;rw[e] at g;cases g
variable {H0:Hp} {rows:LR9}
theorem cN.same (h:cN K H0 H qs x) (e:aF H H'):cN K H0 H' qs x:=by obtain ⟨q,a,b,c⟩:=h;exact ⟨q,a,b,c.same e⟩
theorem cN.upto (h:cN K H0 H qs x) (u:cy b H H') (B:il H b) (nb:H0 b≠none):cN K H0 H' qs x:=by obtain ⟨q,a,c,d⟩:=h;exact ⟨q,a,c,d.upto u B λz=>nb (by rw[<- z];exact c)⟩
theorem cN.weak (h:cN K H0 H qs x) {H1:Hp} (e:aF H1 H0):cN K H1 H qs x:=by obtain ⟨q,a,b,c⟩:=h;exact ⟨q,a,e.none b,c⟩
theorem cg.same (h:cg K H0 H p rows) (e:aF H H'):cg K H0 H' p rows:=by obtain ⟨xs,g,r,n⟩:=h;exact ⟨xs,e _ _ g,Paired.imp' (λ_ _ z=>z.same e) r,n⟩
theorem cg.upto (h:cg K H0 H p rows) (u:cy b H H') (B:il H b) (n:p≠b) (nb:H0 b≠none):cg K H0 H' p rows:=by obtain ⟨xs,g,r,nn⟩:=h;exact ⟨xs,u.other n g,Paired.imp' (λ_ _ z=>z.upto u B nb) r,nn⟩
theorem cg.weak (h:cg K H0 H p rows) {H1:Hp} (e:aF H1 H0):cg K H1 H p rows:=by obtain ⟨xs,g,r,n⟩:=h;exact ⟨xs,g,Paired.imp' (λ_ _ z=>z.weak e) r,n⟩
end
def Fb:Kind Rat:=Fd.via nm (λ_ _ e=>DZ e) (λK H x q=>bO K H q x) id
def tZ:Kind (List Rat):=Fe Fb
def xl:Kind (LR9):=Fe tZ
theorem d4.kind {K:FG9} {H:Hp} {p:Addr} {qs:List Rat} (h:d4 K H p qs):tZ.R K H (.ref p) qs:=by obtain ⟨xs,g,q⟩:=h;exact ⟨p,xs,rfl,b6.of g,q⟩
theorem cg.kind {K:FG9} {H0 H:Hp} {p:Addr} {rows:LR9} (h:cg K H0 H p rows):xl.R K H (.ref p) rows:=by obtain ⟨xs,g,q,_⟩:=h;exact ⟨p,xs,rfl,b6.of g,Paired.imp' (λ_ _ ⟨q,a,_,c⟩=>by rw[a];exact c.kind) q⟩
def qU (x:Rat):Prop:=Sz 4000 (nm x).1/\Sz 4000 (nm x).2
def Fits (l:List Rat):Prop:=∃M V:Nat,0 < M/\M<=2^900/\V<=2^900/\∀x∈l,Fr M V x
theorem Fits.szn {l:List Rat} (h:Fits l) {x:Rat} (hx:x∈l):qU x:=by
 obtain ⟨M,V,h0,h1,h2,h3⟩:=h;obtain ⟨a,b⟩:=(h3 x hx).sz h0 h1 h2;exact ⟨a.mono (by decide),b.mono (by decide)⟩
theorem Fits.ok {l:List Rat} (h:Fits l) {x:Rat} (hx:x∈l):sR (nm x):=⟨j6 x,uY x,(h.szn hx).1.mono (by decide),(h.szn hx).2.mono (by decide)⟩
theorem xr {M V:Nat} {x:Rat} (h0:0 < M) (h1:M<=2^1800) (h2:V<=2^1810) (h:Fr M V x):qU x:=by
 obtain ⟨a,b⟩:=h.sz h0 h1 h2;exact ⟨a.mono (by decide),b.mono (by decide)⟩
theorem Ds {x:Rat} (h:qU x):sR (nm x):=⟨j6 x,uY x,h.1.mono (by decide),h.2.mono (by decide)⟩
inductive p4 (K:FG9) (f:Rat->Rat->Rat) (vs:List V) (H:Hp) (Q:VK) (E9:XK):Prop
 | mk (u v:V) (x y:Rat):vs=[u,v]->bO K H x u->bO K H y v->qU x->qU y->(∀r H',aF H H'->bO K H' (f x y) (.ref r)->Q (.ref r) H')->p4 K f vs H Q E9
section
variable {K:FG9} {vs:List V} {H:Hp} {Q:VK} {E:XK}
theorem z6 {f:Rat->Rat->Rat} {F:Int->Int->Int->Int->Int} (hf:∀x y:Rat,(f x y)*(((nm x).2*(nm y).2:Int):Rat)=((F (nm x).1 (nm x).2 (nm y).1 (nm y).2:Int):Rat)) (h:p4 K f vs H Q E):zK K F vs H Q E:=by
 obtain ⟨u,v,x,y,rfl,⟨p,rfl,hp⟩,⟨q,rfl,hq⟩,⟨s1,s2⟩,⟨s3,s4⟩,k⟩:=h;refine ⟨p,q,_,_,_,_,rfl,hp,hq,j6 x,j6 y,s1,s2,s3,s4,λr H' s g=>k r H' s (bO.mk g ?_)⟩;exact pH (mZ (j6 x) (j6 y)) (hf x y)
theorem qi (x:Rat):(((nm x).1:Int):Rat)=x*(((nm x).2:Int):Rat):=by
 show (x.num:Rat)=x*(((x.den:Nat):Int):Rat)
 rw[nX,aZ]
theorem yu (h:p4 K (λx y=>x+y) vs H Q E):zK K Cz vs H Q E:=z6 (λx y=>by
 unfold Cz;rw[jN,aH,aH,aH,qi,qi];grind) h
theorem xZ (h:p4 K (λx y=>x*y) vs H Q E):zK K Ak vs H Q E:=z6 (λx y=>by
 unfold Ak;rw[aH,aH,qi,qi];grind) h
end
def jL (M:Int) (ns:List (Int×Int)):Prop:=0 < M/\Sz 4400 M/\∀n∈ns,0 < n.2/\n.2∣M/\Sz 4400 n.1
theorem jL.bot {M:Int} {ns:List (Int×Int)} (h:jL M ns):0 < Au ns/\Sz 4400 (Au ns):=by
 have hb:∀b∈ns.map (·.2),0 < b/\b∣M:=λb hb=>by
  obtain ⟨n,hn,rfl⟩:=aG.mp hb;exact ⟨(h.2.2 n hn).1,(h.2.2 n hn).2.1⟩
 exact ⟨we (by decide) λb q=>(hb b q).1,vc h.1 (pK (by decide) (Az _) hb) h.2.1⟩
inductive zG (K:FG9) (vs:List V) (H:Hp) (Q:VK) (E9:XK):Prop
 | mk (p:Addr) (bs:List Int) (M:Int):vs=[.ref p]->b6 K H p (bs.map V.int)->0 < M->Sz 4400 M->((∀b∈bs,0 < b/\b∣M))->Q (.int (qj bs 1)) H->zG K vs H Q E9
inductive zH (K:FG9) (vs:List V) (H:Hp) (Q:VK) (E9:XK):Prop
 | mk (p:Addr) (ns:List (Int×Int)) (M:Int):vs=[.ref p]->Ca K H p ns->ns.length<=1000->jL M ns->(∀H',aF H H'->Q (.int (Au ns)) H')->zH K vs H Q E9
inductive vH (K:FG9) (vs:List V) (H:Hp) (Q:VK) (E9:XK):Prop
 | mk (p:Addr) (ns:List (Int×Int)) (M:Int) (B:Int):vs=[.ref p,.int B]->Ca K H p ns->ns.length<=1000->jL M ns->0 < B->Sz 4400 B->(∀r H',H r=none->aF H H'->H' r=some (.lst ((jw ns B).map V.int))->Q (.ref r) H')->vH K vs H Q E9
theorem zx {M:Int} {ns:List (Int×Int)} {B t:Int} (h:jL M ns) (hB:0 < B) (sB:Sz 4400 B) (ht:t∈jw ns B):Sz 8800 t:=by
 obtain ⟨n,hn,rfl⟩:=aG.mp ht;have hp:=h.2.2 n hn
 have sq:Sz 4400 (B / n.2):=sB.le (by
  rw[Es (by lia)];exact Nat.div_le_self ..)
 exact (hp.2.2.mul sq).mono (by lia)
theorem oZ {x:Rat} {B:Int} (h:(nm x).2∣B):(((nm x).1*(B / (nm x).2):Int):Rat)=x*(B:Rat):=by
 obtain ⟨k,rfl⟩:=h;have hp:=j6 x;rw[Int.mul_ediv_cancel_left _ (by lia),aH,aH,qi];grind
inductive vG (K:FG9) (vs:List V) (H:Hp) (Q:VK) (E9:XK):Prop
 | mk (p:Addr) (w:Nat) (H0:Hp) (rows:LR9):vs=[.ref p,.int w]->cg K H0 H p rows->rows.length<=1000->w<=1000->(∀xs∈rows,xs.length=w)->(∀r H',H r=none->aF H H'->cg K H H' r (gU rows w)->Q (.ref r) H')->vG K vs H Q E9
def oi (m:Nat) (a:Int):List Rat:=(List.range m).map λ(i:Nat)=>if ((i:Nat):Int)=a then 1 else 0
inductive rO (K:FG9) (vs:List V) (H:Hp) (Q:VK) (E9:XK):Prop
 | mk (b:Addr) (w:Nat):vs=[.ref b,.int w]->il H b->1<=w->w<=1000000->(∀r x H',Dr (max w 6) x->bO K H' x (.ref r)->il H' b->cy b H H'->Q (.ref r) H')->rO K vs H Q E9
inductive vL (K:FG9) (vs:List V) (H:Hp) (Q:VK) (E9:XK):Prop
 | mk (b:Addr) (m w:Nat):vs=[.ref b,.int m,.int w]->il H b->m<=1000->1<=w->w<=1000000->(∀r xs H',H r=none->d4 K H' r xs->xs.length=m->(∀x∈xs,Dr (max w 6) x)->il H' b->cy b H H'->Q (.ref r) H')->vL K vs H Q E9
inductive vI (K:FG9) (vs:List V) (H:Hp) (Q:VK) (E9:XK):Prop
 | mk (p q:Addr) (xs ys:List Rat):vs=[.ref p,.ref q]->d4 K H p xs->d4 K H q ys->ys.length=xs.length->xs.length<=1000->(∀x∈xs,qU x)->(∀y∈ys,qU y)->(∀r H',H r=none->aF H H'->d4 K H' r (List.zipWith (λx y=>x+y) xs ys)->Q (.ref r) H')->vI K vs H Q E9
inductive zI (K:FG9) (vs:List V) (H:Hp) (Q:VK) (E9:XK):Prop
 | mk (u:V) (q:Addr) (c:Rat) (ys:List Rat):vs=[u,.ref q]->bO K H c u->qU c->d4 K H q ys->ys.length<=1000->(∀y∈ys,qU y)->(∀r H',H r=none->aF H H'->d4 K H' r (ys.map λy=>c*y)->Q (.ref r) H')->zI K vs H Q E9
inductive rR (K:FG9) (vs:List V) (H:Hp) (Q:VK) (E9:XK):Prop
 | mk (p:Addr) (H0:Hp) (rows:LR9):vs=[.ref p]->cg K H0 H p rows->rows.length<=1000->(∀xs∈rows,xs.length<=1000)->(∀r H',H r=none->aF H H'->cg K H H' r rows->Q (.ref r) H')->rR K vs H Q E9
section
variable {K:FG9} {a:Addr} {xs:List V} {g:TG} {tf:TT} {te:TE} {Q:VK} {σ₀:St} {H:Hp} {α β:Type}
theorem gK {as:List α} {F:Hp->α->V->Prop} (G:Hp->β->V->Prop) (f:α->β) (hx:H a=some (.lst xs)) (pf:Paired (F H) as xs) (hl:as.length<=1000)
  (hF:∀{H H' c x},F H c x->aF H H'->F H' c x) (hG:∀{H H' c x},G H c x->aF H H'->G H' c x)
  (hs:∀(i:Nat) c x H' NY NN,as[i]?=some c->aF H H'->F H' c x->(∀y H2,aF H' H2->G H2 (f c) y->NY y H2)->mN σ₀ g tf te x H' NY NN)
  (hd:∀ys H' p,H p=none->aF H H'->H' p=some (.lst ys)->Paired (G H') (as.map f) ys->(∃H2,H2 p=none/\Paired (G H2) (as.map f) ys)->Q (.ref p) H'):mT (Cc K a) σ₀ g tf te Q H:=by
 have lx:=pf.length;refine iH (K:=K) (xs:=xs) (λi ys H'=>aF H H'/\Paired (G H') ((as.take i).map f) ys) (bI (bT (by lia))) ⟨aF.refl _,.nil⟩ (λi ys H' _ ⟨s,_⟩=>b6.of (s _ _ hx)) ?_ ?_
 ·rintro i x ys H' hx' hlen ⟨s,pr⟩;obtain ⟨c,ec,hc⟩:=df pf hx';refine hs i c x H' _ _ ec s (hF hc s) λy H2 s2 gy=>⟨s.trans s2,?_⟩
  rw[take_snoc ec,jP];exact cP (Paired.imp' (λ_ _ z=>hG z s2) pr) (.cons gy .nil)
 ·rintro ys H' hy ⟨s,pr⟩ p hp;rw[aV (by lia)] at pr;exact hd ys _ p (s.none hp) (s.trans (aF.new hp)) aE (Paired.imp' (λ_ _ z=>hG z (aF.new hp)) pr) ⟨H',hp,pr⟩
theorem fo {n:Nat} (G:Hp->β->V->Prop) (f:Nat->β) (hl:n<=1000) (hG:∀{H H' c x},G H c x->aF H H'->G H' c x)
  (hs:∀(i:Nat) H' NY NN,i < n->aF H H'->(∀y H2,aF H' H2->G H2 (f i) y->NY y H2)->mN σ₀ g tf te (.int i) H' NY NN)
  (hd:∀ys H' p,H p=none->aF H H'->H' p=some (.lst ys)->Paired (G H') ((List.range n).map f) ys->(∃H2,H2 p=none/\Paired (G H2) ((List.range n).map f) ys)->Q (.ref p) H'):mT (wI 0 n) σ₀ g tf te Q H:=by
 refine iG (λi ys H'=>aF H H'/\Paired (G H') ((List.range i).map f) ys) (bI (bT (by lia))) ⟨aF.refl _,.nil⟩ ?_ ?_
 ·rintro i ys H' hi hlen ⟨s,pr⟩;rw[rE];refine hs i H' _ _ hi s λy H2 s2 gy=>⟨s.trans s2,?_⟩
  rw[sV,jP];exact cP (Paired.imp' (λ_ _ z=>hG z s2) pr) (.cons gy .nil)
 ·rintro ys H' hy ⟨s,pr⟩ p hp;exact hd ys _ p (s.none hp) (s.trans (aF.new hp)) aE (Paired.imp' (λ_ _ z=>hG z (aF.new hp)) pr) ⟨H',hp,pr⟩
theorem ui {n:Nat} {b:Addr} (G:Hp->β->V->Prop) (C:β->Prop) (hB:il H b) (hl:n<=1000) (hG:∀{H' H'' c x},G H' c x->cy b H' H''->il H' b->G H'' c x)
  (hs:∀(i:Nat) H' NY NN,i < n->cy b H H'->il H' b->(∀y c H2,cy b H' H2->il H2 b->C c->G H2 c y->NY y H2)->mN σ₀ g tf te (.int i) H' NY NN)
  (hd:∀ys cs H' p,H p=none->cy b H H'->il H' b->H' p=some (.lst ys)->cs.length=n->(∀c∈cs,C c)->Paired (G H') cs ys->(∃H2,H2 p=none/\Paired (G H2) cs ys)->Q (.ref p) H'):mT (wI 0 n) σ₀ g tf te Q H:=by
 refine iG (λi ys H'=>cy b H H'/\il H' b/\∃cs,cs.length=i/\(∀c∈cs,C c)/\Paired (G H') cs ys) (bI (bT (by lia))) ⟨(aF.refl _).upto,hB,[],rfl,(λ_ z=>nomatch z),.nil⟩ ?_ ?_
 ·rintro i ys H' hi hlen ⟨u,B,cs,lc,hc,pr⟩;rw[rE];refine hs i H' _ _ hi u B λy c H2 u2 B2 cc gy=>⟨u.trans u2,B2,cs++[c],by simp [lc],yt hc cc,cP (Paired.imp' (λ_ _ z=>hG z u2 B) pr) (.cons gy .nil)⟩
 ·rintro ys H' hy ⟨u,B,cs,lc,hc,pr⟩ p hp;have s:aF H' (upd H' p (.lst ys)):=aF.new hp;exact hd ys cs _ p (u.none B hp) (u.same s) (B.same s) aE lc hc (Paired.imp' (λ_ _ z=>hG z s.upto B) pr) ⟨H',hp,pr⟩
end
section
variable {X:Cx}
theorem fS {n:Nat} {g:TG} {tb:TS} {D:Ends} {σ:St} {H:Hp} (Pv:Nat->St->Hp->Prop) (h0:Pv 0 σ H)
  (hs:∀(i:Nat) σ H,i < n->Pv i σ H->g (.int i) σ H λσ2 H2=>tb { D with nx:=Pv (i+1),ct:=Pv (i+1),bk:=D.nx } σ2 H2) (hd:∀σ H,Pv n σ H->D.nx σ H) :
  ∃W:Nat->Nat->St->Hp->Prop,(∃m,W 0 m σ H)/\∀i m σ H,W i m σ H →
   ((wI 0 n).stop i H/\D.nx σ H)\/((wI 0 n).go i H/\∃N:St->Hp->Prop,(∀σ' H',N σ' H'->∃m',m' < m/\W (i+1) m' σ' H')/\∀x H',(wI 0 n).yld i H x H'->g x σ H' λσ2 H2=>tb { D with nx:=N,ct:=N,bk:=D.nx } σ2 H2) :=
 qp (lo:=0) Pv h0 (λi σ H hi p=>by rw[rE];exact hs i σ H hi p) hd
theorem oa:oC X (.type "int") (λxs H Q=>∃b:Bool,xs=[.bl b]/\Q (.int (if b=true then 1 else 0)) H):=by
 intro pins s σ H xs us Q I r h;obtain ⟨b,rfl,q⟩:=h;obtain ⟨u,rfl,ru⟩:=vals1 r;cases ru;exact call_int_bool ⟨.int _,H,I.tok _,⟨_,rfl⟩,q⟩
theorem zX {st:Stmt}:PS X st (λ_ _ _=>False):=λ_ _ _ _ _ _ h=>h.elim
end
theorem Aa {t b:Int} {W:Nat} (hb:0 < b) (h1:t.natAbs<=W) (h2:b.natAbs<=W):∃q:Rat,(lo t b,hi t b)=nm q/\Dr W q/\q*(b:Rat)=(t:Rat):=by
 have hb':(b:Rat)≠0:=λz=>by have:=cb.mp z;lia
 have e:(t:Rat) / (b:Rat)*(b:Rat)=t:=Rat.div_mul_cancel hb';have h:=pH hb e;refine ⟨_,h,⟨?_,?_⟩,e⟩
 ·have:=congrArg Prod.fst h;have z:=lo_le (t:=t) (b:=b) (by lia);show ((nm ((t:Rat) / (b:Rat))).1).natAbs<=W
  rw[<- this];exact ar z h1
 ·have:=congrArg Prod.snd h;have z:=Cw (t:=t) (b:=b) (by lia);have hd:(((t:Rat) / (b:Rat)).den:Int)=hi t b:=this.symm;have hp:=u9 (t:=t) hb
  lia
theorem yY {K:FG9} {H:Hp} {qs:List Rat} {xs:List V} (h:Paired (bO K H) qs xs) {j:Nat} (hj:j < qs.length):∃v,zg xs (j:Int)=some v/\bO K H (qs.getD j 0) v:=by
 have hl:=h.length;refine ⟨xs[j]'(by lia),iT (by simp),?_⟩;have:=j3 h (i:=j) hj (by lia);rwa [ae,ak hj]
theorem uc {xs ys:List Rat} {i:Nat} (h1:i < xs.length) (h2:i < ys.length):ma (xs.take (i+1)) (ys.take (i+1))=ma (xs.take i) (ys.take i)+xs.getD i 0*ys.getD i 0:=by
 have e1:xs[i]?=some (xs.getD i 0):=by rw[ae,ak h1];rfl
 have e2:ys[i]?=some (ys.getD i 0):=by rw[ae,ak h2];rfl
 unfold ma;rw[take_snoc e1,take_snoc e2,List.zipWith_append (by simp;lia),List.sum_append];simp [yw]
theorem getD_mem {xs:List Rat} {i:Nat} (h:i < xs.length):xs.getD i 0∈xs:=by
 rw[ae,ak h];exact bC h
theorem yz {xs ys:List Rat} (h:ys.length=xs.length):List.zipWith (λx y=>x+y) xs ys=(List.range xs.length).map λi=>xs.getD i 0+ys.getD i 0:=by
 apply yy;intro i;rw[List.getElem?_zipWith,aD];by_cases hi:i < xs.length
 ·rw[cx hi,ak hi,ak (show i < ys.length by lia)];simp [ae,ak hi,ak (show i < ys.length by lia)]
 ·rw[cI (show (List.range xs.length).length<=i by simp;lia),cI (show xs.length<=i by lia)];rfl
theorem cN.updL {K:FG9} {H0 H:Hp} {qs:List Rat} {x:V} {l:Addr} {ys:List V} {o:HO} (h:cN K H0 H qs x) (hl:H l=some (.lst ys)) (nl:H0 l≠none):cN K H0 (upd H l o) qs x:=by obtain ⟨q,a,b,c⟩:=h;exact ⟨q,a,b,c.updL hl λz=>nl (by rw[<- z];exact b)⟩
theorem il.at {H:Hp} {b:Addr} (B:il H b):H b≠none:=by obtain ⟨_,_,_,_,_,e,_⟩:=B;rw[e];simp
theorem Inner.at {H:Hp} {b q:Addr} (B:il H b) (i:Inner H b q):H q≠none:=by
 obtain ⟨q',i',xs,e⟩:=B.inner;rw[<- Inner.inj i' i,e];simp
theorem yp {i j:Int} (h1:-(2^64) < i) (h2:i < 2^64):kW i j:=.inl (.inl ⟨h1,h2⟩)
theorem yo {i j:Int} (h1:-(2^64) < j) (h2:j < 2^64):kW i j:=.inl (.inr ⟨h1,h2⟩)
def Eo (K : FG9) (l : Addr) : It :=
  ⟨λi H => ∃ xs x, b6 K H l xs /\ xs[i]? = some x,
   λi H v H' => ∃ p x, v = .ref p /\ H p = none /\ H' = upd H p (.tup [.int i, x]) /\ ∀ xs, b6 K H l xs → xs[i]? = some x,
   λi H => ∃ xs, b6 K H l xs /\ xs.length ≤ i⟩
def tnE (e it l:Addr) (i:Nat) (h:Heap):Prop:=(∃old,IsEnum h e it i old)/\h.IsListIter it l i
theorem yD {P:Program} {w:World} {K:FG9} {elts:List Expr} {kk:Nat} {tpos:Pos} (e it l:Addr) (hei:e≠it):Turn P w K (.Tuple elts kk tpos) (Eo K l) [e,it] e (tnE e it l) where
 mem:=by simp
 obj:=λi h st b hb=>by
  obtain ⟨⟨old,he⟩,⟨o1,g1,c1,d1⟩⟩:=st;simp only[aN,bH,or_false] at hb;rcases hb with rfl | rfl
  ·exact ⟨_,he,λv q=>nomatch q⟩
  ·exact ⟨o1,g1,λv q=>by rw[d1] at q;cases q⟩
 keep:=λi h h' st k=>by
  obtain ⟨⟨old,he⟩,h1⟩:=st;exact ⟨⟨old,k e (by simp) _ he⟩,h1.at λo q=>k it (by simp) o q⟩
 item:=by
  intro X hP hw hK hc i pins s σ H E I hf st hg;subst hP hw hK;obtain ⟨⟨old,he⟩,h1⟩:=st;obtain ⟨xs,x,qx,ex⟩:=hg;obtain ⟨us,rx,px,_⟩:=I.list qx;obtain ⟨u,eu,ru⟩:=rx.get ex;refine wpAny_pyNext_enum_item he h1 px.isList (x:=u) (by simpa using eu) hei λh' a1 a2 a3 a4 hk=>?_
  refine ⟨_,rfl,wpAny_letOwnedTupleGo_enum a1 λh'' he'' hs=>?_⟩;have hT0:H s.heap.objs.size=none:=I.hok.fresh (ay _);have ene:s.heap.objs.size≠e:=yx (Heap.lt_size he)
  have up:∀b o,b∉[e,it]->s.heap.get? b=some o->h''.get? b=some o:=λb o hb q=>by
   simp only[aN,bH,or_false,not_or] at hb;exact (hs.2 b hb.1).trans (hk b o hb.1 hb.2 q)
  have tup:h''.get? s.heap.objs.size=some { cls:=.type "tuple",data:=.seq #[.int i s.toks,u] }:=(hs.2 _ ene).trans a3;have I1:Inv X pins σ H { s with heap:=h'',toks:=s.toks+1 }:=I.moved (g':=s.gens) (d':=s.drawn) (t':=s.toks+1) (ch:=[e,it]) hf up I.bare;have fT:m3 X pins H s.heap.objs.size:=I.fpOk (ay _) hT0;have I2:=I1.track (o:=.tup [.int i,x]) fT ⟨o6 rfl,[.int i s.toks,u],.cons ⟨_,rfl⟩ (.cons ru .nil),⟨_,tup,rfl,_,rfl⟩⟩;refine ⟨.ref s.heap.objs.size,_,I2,rfl,⟨_,x,rfl,hT0,rfl,λxs' q=>by rw[I.list_inj q qx];exact ex⟩,?_,λb hb=>?_⟩
  ·exact ⟨⟨_,by simpa using he''⟩,a2.at λo q=>(hs.2 _ hei.symm).trans q⟩
  ·rw[aS]
   ·exact (hf b hb).1
   ·obtain ⟨o1,g1,_⟩:=h1;simp only[aN,bH,or_false] at hb;rcases hb with rfl | rfl
    ·exact ene.symm
    ·exact bA (Heap.lt_size g1)
 done:=by
  intro X hP hw hK hc i pins s σ H E I hf st hg;subst hP hw hK;obtain ⟨⟨old,he⟩,h1⟩:=st;obtain ⟨xs,qx,hend⟩:=hg;obtain ⟨us,rx,px,_⟩:=I.list qx;have lx:=rx.length;refine wpAny_pyNext_enum_end (I.ok.hd hc) he h1 px.isList (by simp;lia) λh' hk=>⟨rfl,?_⟩
  exact I.moved (g':=s.gens) (d':=s.drawn) (t':=s.toks) (ch:=[e,it]) hf (λb o hb q=>hk b o (λz=>hb (by simp [z])) q) I.bare
 self:=λ_ _ _ _ _ st h=>let ⟨⟨_,he⟩,_⟩:=st;wpAny_pyIter_enum he h
section
variable {X:Cx}
def Ad (K:FG9) (ta:TA):TI:=λσ H R=>ta σ H λvs H1=>∃l,vs=[.ref l]/\(∃xs,b6 K H1 l xs)/\R (Eo K l) H1
theorem o8 {a:Expr} {ta:TA} {p pos tpos:Pos} {elts:List Expr} {kk:Nat} (hg:Gl X "enumerate") (hm:X.mg "enumerate"=none) (ha:PA X [a] ta) (hs:starEach [a] X.env=[(false,eval a X.env)]:=by rfl) :
  PI X (.Tuple elts kk tpos) (.Call (.Name "enumerate" p) [a] [] pos) (Ad X.K ta):=by
 intro pins s σ H R I h;refine Call_ (j8 I hg hm boot_enumerate (PyProof.Rows.callWith_type1 (d7 (ha pos pins s σ H _ I h) λus s1 ⟨vs,H1,I1,r1,q1⟩=>?_) (by rw[hs];rfl) rfl));obtain ⟨l,e,⟨xs,qx⟩,q⟩:=q1;subst e;obtain ⟨u,rfl,ru⟩:=vals1 r1;cases ru;obtain ⟨us,rx,px,_⟩:=I1.list qx;refine call_enumerate_list px.isList λh' a1 a2 a3 hk=>wpAny_pyIter_enum a1 ?_
 have I2:Inv X pins σ H1 { s1 with heap:=h' }:=I1.kept (t':=s1.toks) hk;refine ⟨_,[s1.heap.objs.size+1,s1.heap.objs.size],_,_,H1,rfl,I2,yD (s1.heap.objs.size+1) s1.heap.objs.size l (Nat.succ_ne_self _),⟨⟨_,a1⟩,a2⟩,λb hb=>?_,q⟩
 have hb':s1.heap.objs.size<=b:=by
  simp only[aN,bH,or_false] at hb;rcases hb with rfl | rfl <;> first | exact pZ _ | exact ay _
 exact I1.fpOk hb' (I1.hok.fresh hb')
end
theorem zT {K:FG9} {ta:TA} {R:It->Hp->Prop} {σ:St} {H:Hp} (h:ta σ H λvs H1=>∃l,vs=[.ref l]/\(∃xs,b6 K H1 l xs)/\R (Eo K l) H1):Ad K ta σ H R:=h
theorem wk {K:FG9} {l:Addr} {xs:List V} {g:TG} {tb:TS} {D:Ends} {σ:St} {H:Hp} (Pv:Nat->St->Hp->Prop) (h0:Pv 0 σ H) (hl:∀i σ H,i<=xs.length->Pv i σ H->b6 K H l xs)
  (hs:∀i x σ H p,xs[i]?=some x->Pv i σ H->H p=none->g (.ref p) σ (upd H p (.tup [.int i,x])) λσ2 H2=>tb { D with nx:=Pv (i+1),ct:=Pv (i+1),bk:=D.nx } σ2 H2) (hd:∀σ H,Pv xs.length σ H->D.nx σ H) :
  ∃W:Nat->Nat->St->Hp->Prop,(∃m,W 0 m σ H)/\∀i m σ H,W i m σ H →
   ((Eo K l).stop i H/\D.nx σ H)\/((Eo K l).go i H/\∃N:St->Hp->Prop,(∀σ' H',N σ' H'->∃m',m' < m/\W (i+1) m' σ' H')/\∀x H',(Eo K l).yld i H x H'->g x σ H' λσ2 H2=>tb { D with nx:=N,ct:=N,bk:=D.nx } σ2 H2):=by
 refine ⟨λi m σ H=>m=xs.length - i/\i<=xs.length/\Pv i σ H,⟨xs.length,by simp,bP _,h0⟩,?_⟩;rintro i m σ H ⟨rfl,hi,p⟩;have q1:=hl i σ H hi p;by_cases hlt:i < xs.length
 ·refine .inr ⟨⟨xs,xs[i],q1,by simp [hlt]⟩,Pv (i+1),λσ' H' p'=>⟨xs.length - (i+1),by lia,rfl,hlt,p'⟩,λx H' y=>?_⟩;obtain ⟨r,x',rfl,hr,rfl,e1⟩:=y;exact hs i x' σ _ r (e1 xs q1) p hr
 ·have e:i=xs.length:=by lia
  subst e;exact .inl ⟨⟨xs,q1,ay _⟩,hd σ H p⟩
theorem DL {K:FG9} {ta:TE} {f:Str} {σ:St} {H:Hp} {Q:VK} (h:ta σ H λx H1=>∃a C dx fs v,x=.ref a/\H1 a=some (.ins C dx fs)/\zl K C/\ic K C f/\fs.lookup f=some v/\Q v H1):EL K ta f σ H Q:=h
theorem A3 {K:FG9} {ta tv:TE} {f:Str} {D:Ends} {σ:St} {H:Hp} (h:tv σ H λy H1=>ta σ H1 λx H2=>∃a C dx fs,x=.ref a/\H2 a=some (.ins C dx fs)/\zl K C/\ic K C f/\fs.length < 1000 /\
 D.nx σ (upd H2 a (.ins C dx (bK f y fs)))):ER K ta tv f D σ H:=h
theorem A7 {C:Addr} {m:Str} {sp:Sp} {E:XK} {ta:TE} {t:TA} {σ:St} {H:Hp} {Q:VK} (h:ta σ H λx H1=>∃a dx fs,x=.ref a/\H1 a=some (.ins C dx fs)/\fs.lookup m=none /\
 t σ H1 λvs H2=>sp (x :: vs) H2 Q E):Cj C m sp [] E ta t σ H Q:=by
 have e:(λ(x:V) H1=>∃a dx fs,x=.ref a/\H1 a=some (.ins C dx fs)/\fs.lookup m=none/\t σ H1 λvs H2=>sp (x :: (vs++[])) H2 Q E)=λx H1=>∃a dx fs,x=.ref a/\H1 a=some (.ins C dx fs)/\fs.lookup m=none/\t σ H1 λvs H2=>sp (x :: vs) H2 Q E:=by
  funext x H1;simp only[sW]
 show ta σ H (λ(x:V) H1=>∃a dx fs,x=.ref a/\H1 a=some (.ins C dx fs)/\fs.lookup m=none/\t σ H1 λvs H2=>sp (x :: (vs++[])) H2 Q E)
 rw[e];exact h
theorem A8 {C:Addr} {sp:Sp} {E:XK} {t:TA} {σ:St} {H:Hp} {Q:VK} (h:t σ H λvs H1=>∀x dx,H1 x=none->H1 dx=none->dx≠x →
 sp (.ref x :: vs) (upd (upd H1 dx (.own x)) x (.ins C dx [])) (λv H2=>v=.non/\Q (.ref x) H2) E):Ck C sp [] E t σ H Q:=by
 have e:(λvs (H1:Hp)=>∀x dx,H1 x=none->H1 dx=none->dx≠x->sp (.ref x :: (vs++[])) (upd (upd H1 dx (.own x)) x (.ins C dx [])) (λv H2=>v=.non/\Q (.ref x) H2) E)=λvs H1=>∀x dx,H1 x=none->H1 dx=none->dx≠x->sp (.ref x :: vs) (upd (upd H1 dx (.own x)) x (.ins C dx [])) (λv H2=>v=.non/\Q (.ref x) H2) E:=by
  funext vs H1;simp only[sW]
 show t σ H (λvs (H1:Hp)=>∀x dx,H1 x=none->H1 dx=none->dx≠x->sp (.ref x :: (vs++[])) (upd (upd H1 dx (.own x)) x (.ins C dx [])) (λv H2=>v=.non/\Q (.ref x) H2) E)
 rw[e];exact h
def vq (x:Addr) (H H':Hp):Prop:=∀b o,H b=some o->b≠x->H' b=some o
theorem vq.upd {x:Addr} {H:Hp} {o:HO}:vq x H (L2.upd H x o):=λb u h n=>by rw[aS n];exact h
def oB (H:Hp) (x:Addr):Prop:=∃C dx fs,H x=some (.ins C dx fs)
section
variable {K:FG9} {H H' H0:Hp} {q:Rat} {v:V} {x p:Addr} {qs:List Rat} {rows:LR9}
theorem bO.exc (h:bO K H q v) (e:vq x H H') (hx:oB H x):bO K H' q v:=by
 obtain ⟨C,dx,fs,hx⟩:=hx;obtain ⟨r,er,s⟩:=h;refine ⟨r,er,?_⟩;rcases s with (h | ⟨o,h⟩) | h
 ·exact .inl (.inl (e _ _ h λz=>by rw[z,hx] at h;cases h))
 ·exact .inl (.inr ⟨o,e _ _ h λz=>by rw[z,hx] at h;cases h⟩)
 ·exact .inr h
theorem d4.exc (h:d4 K H p qs) (e:vq x H H') (hx:oB H x):d4 K H' p qs:=by
 obtain ⟨xs,g,r⟩:=h;have hx':=hx;obtain ⟨C,dx,fs,hx⟩:=hx;exact ⟨xs,e _ _ g (λz=>by rw[z,hx] at g;cases g),Paired.imp' (λ_ _ z=>z.exc e hx') r⟩
theorem cN.exc (h:cN K H0 H qs v) (e:vq x H H') (hx:oB H x):cN K H0 H' qs v:=by obtain ⟨q,a,b,c⟩:=h;exact ⟨q,a,b,c.exc e hx⟩
theorem cg.exc (h:cg K H0 H p rows) (e:vq x H H') (hx:oB H x):cg K H0 H' p rows:=by
 obtain ⟨xs,g,r,n⟩:=h;have hx':=hx;obtain ⟨C,dx,fs,hx⟩:=hx;exact ⟨xs,e _ _ g (λz=>by rw[z,hx] at g;cases g),Paired.imp' (λ_ _ z=>z.exc e hx') r,n⟩
end
def mO (a b c:Addr) (n i o:Nat):List (Str×V):=bK "outs" (.int o) (bK "look" (.ref c) (bK "ins" (.int i) (bK "put" (.ref b) (bK "states" (.int n) (bK "move" (.ref a) [])))))
section
variable {a b c:Addr} {n i o:Nat}
theorem zB:(mO a b c n i o).lookup ("look":Str)=some (.ref c):=by
 unfold mO;rw[aQ,if_neg (by decide +kernel),aQ,if_pos rfl]
theorem AS:(mO a b c n i o).lookup ("put":Str)=some (.ref b):=by
 unfold mO;rw[aQ,if_neg (by decide +kernel),aQ,if_neg (by decide +kernel),aQ,if_neg (by decide +kernel),aQ,if_pos rfl]
theorem rK:(mO a b c n i o).lookup ("states":Str)=some (.int n):=by
 unfold mO;rw[aQ,if_neg (by decide +kernel),aQ,if_neg (by decide +kernel),aQ,if_neg (by decide +kernel),aQ,if_neg (by decide +kernel),aQ,if_pos rfl]
theorem rL:(mO a b c n i o).lookup ("move":Str)=some (.ref a):=by
 unfold mO;rw[aQ,if_neg (by decide +kernel),aQ,if_neg (by decide +kernel),aQ,if_neg (by decide +kernel),aQ,if_neg (by decide +kernel),aQ,if_neg (by decide +kernel),aQ,if_pos rfl]
theorem Dt {m:Str} (h1:¬m="outs") (h2:¬m="look") (h3:¬m="ins") (h4:¬m="put") (h5:¬m="states") (h6:¬m="move"):(mO a b c n i o).lookup m=none:=by
 unfold mO;rw[aQ,if_neg h1,aQ,if_neg h2,aQ,if_neg h3,aQ,if_neg h4,aQ,if_neg h5,aQ,if_neg h6];rfl
theorem wY:(mO a b c n i o).lookup ("turned":Str)=none:=Dt (by decide +kernel) (by decide +kernel) (by decide +kernel) (by decide +kernel) (by decide +kernel) (by decide +kernel)
end
theorem dh {k:Str} {v:V}:∀{l:List (Str×V)},(bK k v l).length<=l.length+1
 | []=>ay _
 | (x,y) :: r=>by
  unfold bK
  split
  ·simp
  ·have:=dh (k:=k) (v:=v) (l:=r);simp only[cD]
   lia
structure vn (mv pt lk:LR9):Prop where
 n8:mv.length<=8
 i4:pt.length<=4
 o4:lk.length<=4
 mw:∀xs∈mv,xs.length=mv.length
 pw:∀xs∈pt,xs.length=mv.length
 lw:∀xs∈lk,xs.length=mv.length
def nE (mv pt lk:LR9):Prop:=∃M V:Nat,0 < M/\M<=2^800/\V<=2^400/\GF M V mv/\GF M V pt/\GF M V lk
def pX (K:FG9) (H0 H:Hp) (C p:Addr) (mv pt lk:LR9):Prop:=∃dx a b c,H p=some (.ins C dx (mO a b c mv.length pt.length lk.length))/\H0 a=none/\H0 b=none/\H0 c=none/\cg K H0 H a mv/\cg K H0 H b pt/\cg K H0 H c lk
section
variable {K:FG9} {H H' H0 H1:Hp} {C p b:Addr} {mv pt lk:LR9}
theorem pX.same (h:pX K H0 H C p mv pt lk) (e:aF H H'):pX K H0 H' C p mv pt lk:=by obtain ⟨dx,a,b,c,g,n1,n2,n3,g1,g2,g3⟩:=h;exact ⟨dx,a,b,c,e _ _ g,n1,n2,n3,g1.same e,g2.same e,g3.same e⟩
theorem pX.upto (h:pX K H0 H C p mv pt lk) (u:cy b H H') (B:il H b) (nb:H0 b≠none):pX K H0 H' C p mv pt lk:=by
 obtain ⟨dx,a,b',c,g,n1,n2,n3,g1,g2,g3⟩:=h;refine ⟨dx,a,b',c,u.other (λz=>by obtain ⟨_,_,_,_,_,e,_⟩:=B;rw[z,e] at g;cases g) g,n1,n2,n3,g1.upto u B (λz=>nb (by rw[<- z];exact n1)) nb,g2.upto u B (λz=>nb (by rw[<- z];exact n2)) nb,g3.upto u B (λz=>nb (by rw[<- z];exact n3)) nb⟩
theorem pX.weak (h:pX K H0 H C p mv pt lk) (e:aF H1 H0):pX K H1 H C p mv pt lk:=by obtain ⟨dx,a,b,c,g,n1,n2,n3,g1,g2,g3⟩:=h;exact ⟨dx,a,b,c,g,e.none n1,e.none n2,e.none n3,g1.weak e,g2.weak e,g3.weak e⟩
theorem nE.fits (h:nE mv pt lk) {l:List Rat} (hl:∀x∈l,(∃xs∈mv,x∈xs)\/(∃xs∈pt,x∈xs)\/(∃xs∈lk,x∈xs)\/x=0):Fits l:=by
 obtain ⟨M,V,h0,h1,h2,h3,h4,h5⟩:=h;refine ⟨M,V,h0,ar h1 (ao (by decide) (by decide)),ar h2 (ao (by decide) (by decide)),λx hx=>?_⟩;rcases hl x hx with ⟨xs,a,b⟩ | ⟨xs,a,b⟩ | ⟨xs,a,b⟩ | rfl
 ·exact h3 xs a x b
 ·exact h4 xs a x b
 ·exact h5 xs a x b
 ·exact Fr.zero
theorem nE.turn (h:nE mv pt lk):nE (gU mv mv.length) lk pt:=by
 obtain ⟨M,V,h0,h1,h2,h3,h4,h5⟩:=h;refine ⟨M,V,h0,h1,h2,λys hy y hy'=>?_,h5,h4⟩;obtain ⟨j,_,rfl⟩:=aG.mp hy;obtain ⟨xs,hx,rfl⟩:=aG.mp hy';by_cases hj:j < xs.length
 ·rw[ae,ak hj];exact h3 xs hx _ (bC hj)
 ·rw[ae,cI (by lia)];exact Fr.zero
theorem vn.turn (h:vn mv pt lk):vn (gU mv mv.length) lk pt:=⟨by rw[ip];exact h.n8,h.o4,h.i4,λxs hx=>by rw[tF xs hx,ip],λxs hx=>by rw[ip];exact h.lw xs hx,λxs hx=>by rw[ip];exact h.pw xs hx⟩
end
def yF:Sp:=λvs H Q _=>∃i:Int,vs=[.int i]/\Q (.bl true) H
def yI (K:FG9):Sp:=λvs H Q _=>∃x n,vs=[x]/\wH K H x n/\sR n/\∀H',aF H H'->Q (.bl true) H'
inductive xR (vs:List V) (H:Hp) (Q:VK) (E9:XK):Prop
 | mk (p:Addr) (xs:List V) (a m:Int):vs=[.ref p,.int a,.int m]->H p=some (.lst xs)->(xs.length:Int)<=m->Q .non H->xR  vs H Q E9
inductive xU (K:FG9) (vs:List V) (H:Hp) (Q:VK) (E9:XK):Prop
 | mk (p:Addr) (H0:Hp) (rows:LR9) (w:Nat):vs=[.ref p,.int w]->cg K H0 H p rows->rows.length<=1000->w<=1000->((∀xs∈rows,xs.length=w/\∀x∈xs,sR (nm x)))->(∀r H',H r=none->aF H H'->cg K H H' r rows->Q (.ref r) H')->xU K vs H Q E9
def Ew (rows:LR9):Prop:=∀xs∈rows,∀x∈xs,sR (nm x)
inductive xS (K:FG9) (C:Addr) (vs:List V) (H:Hp) (Q:VK) (E9:XK):Prop
 | mk (x dx p q r:Addr) (Hb H0 H1 H2:Hp) (mv pt lk:LR9):vs=[.ref x,.ref p,.ref q,.ref r]->Hb x=none->Hb dx=none->dx≠x->H=upd (upd Hb dx (.own x)) x (.ins C dx [])->cg K H0 Hb p mv->cg K H1 Hb q pt->cg K H2 Hb r lk->vn mv pt lk->Ew mv->Ew pt->Ew lk->(∀H',aF Hb H'->pX K Hb H' C x mv pt lk->Q .non H')->xS K C vs H Q E9
inductive rM (K:FG9) (C:Addr) (vs:List V) (H:Hp) (Q:VK) (E9:XK):Prop
 | mk (x:Addr) (H0:Hp) (mv pt lk:LR9):vs=[.ref x]->pX K H0 H C x mv pt lk->vn mv pt lk->nE mv pt lk->(∀r H',H r=none->aF H H'->pX K H H' C r (gU mv mv.length) lk pt->Q (.ref r) H')->rM K C vs H Q E9
theorem nE.ok {mv pt lk:LR9} (h:nE mv pt lk):Ew mv/\Ew pt/\Ew lk :=
 ⟨λxs hx x hx'=>(h.fits (l:=xs) λy hy=>.inl ⟨xs,hx,hy⟩).ok hx',λxs hx x hx'=>(h.fits (l:=xs) λy hy=>.inr (.inl ⟨xs,hx,hy⟩)).ok hx',λxs hx x hx'=>(h.fits (l:=xs) λy hy=>.inr (.inr (.inl ⟨xs,hx,hy⟩))).ok hx'⟩
def d8 (K:FG9) (A:Addr->Prop) (H:Hp) (n:Nat) (C:Rat->Prop) (x:V):Prop:=∃q qs,x=V.ref q/\A q/\d4 K H q qs/\qs.length=n/\∀y∈qs,C y
section
variable {K:FG9} {A A':Addr->Prop} {H H' H0:Hp} {n:Nat} {C C':Rat->Prop} {x v:V} {q b l p:Addr} {xs zs:List V} {y:Rat} {o:HO}
theorem d8.same (h:d8 K A H n C x) (e:aF H H'):d8 K A H' n C x:=by obtain ⟨q,qs,a,c,r,z⟩:=h;exact ⟨q,qs,a,c,r.same e,z⟩
theorem d8.upto (h:d8 K A H n C x) (u:cy b H H') (B:il H b) (nb:¬A b):d8 K A H' n C x:=by obtain ⟨q,qs,a,c,r,z⟩:=h;exact ⟨q,qs,a,c,r.upto u B (λe=>nb (by rw[<- e];exact c)),z⟩
theorem d8.other (h:d8 K A H n C x) (hl:H l=some (.lst zs)) (nl:¬A l):d8 K A (upd H l o) n C x:=by obtain ⟨q,qs,a,c,r,z⟩:=h;exact ⟨q,qs,a,c,r.updL hl (λe=>nl (by rw[<- e];exact c)),z⟩
theorem d8.weak (h:d8 K A H n C x) (w:∀q,A q->A' q) (wc:∀y,C y->C' y):d8 K A' H n C' x:=by obtain ⟨q,qs,a,c,r,l,z⟩:=h;exact ⟨q,qs,a,w q c,r,l,λy hy=>wc y (z y hy)⟩
theorem so {α β:Type} {F:α->β->Prop} {a:α} {b:β} (h:F a b):∀{l1:List α} {l2:List β} (j:Nat),Paired F l1 l2->Paired F (l1.set j a) (l2.set j b)
 | _,_,_,.nil=>.nil
 | _,_,0,.cons _ t=>.cons h t
 | _,_,j+1,.cons r t=>.cons r (so h j t)
theorem d8.put (h:d8 K A H n C x) (hq:H q=some (.lst zs)) (hv:bO K H y v) (hc:C y) (j:Nat):d8 K A (upd H q (.lst (zs.set j v))) n C x:=by
 obtain ⟨q1,qs,rfl,a,⟨zs1,g1,pr⟩,l1,c1⟩:=h;by_cases e:q1=q
 ·subst e;rw[hq] at g1;cases g1;refine ⟨q1,qs.set j y,rfl,a,⟨_,aE,so (hv.updL hq) j (Paired.imp' (λ_ _ z=>z.updL hq) pr)⟩,by rw[jQ];exact l1,λz hz=>?_⟩;rcases et hz with hz | rfl
  ·exact c1 z hz
  ·exact hc
 ·exact ⟨q1,qs,rfl,a,⟨zs1,by rw[aS e];exact g1,Paired.imp' (λ_ _ z=>z.updL hq) pr⟩,l1,c1⟩
theorem d8.at (h:d8 K A H n C x):∃q zs qs,x=V.ref q/\A q/\H q=some (.lst zs)/\zs.length=n/\Paired (bO K H) qs zs/\qs.length=n/\∀y∈qs,C y:=by obtain ⟨q,qs,a,c,⟨zs,g,pr⟩,l,z⟩:=h;exact ⟨q,zs,qs,a,c,g,by rw[<- pr.length];exact l,pr,l,z⟩
end
theorem nB {W:Nat} {i:Int} (h:i.natAbs<=W) (hW:1<=W):Dr W (i:Rat):=⟨h,hW⟩
def FO (K:FG9) (A:Addr->Prop) (H:Hp) (n:Nat) (C:Rat->Prop) (p:Addr) (m:Nat):Prop:=∃us,H p=some (.lst us)/\us.length=m/\¬A p/\∀x∈us,d8 K A H n C x
structure xD (A:Addr->Prop) (m p l b q0:Addr):Prop where
 am:¬A m
 ap:¬A p
 al:¬A l
 ab:¬A b
 aq:¬A q0
 mb:m≠b
 pb:p≠b
 lb:l≠b
 mp:m≠p
 ml:m≠l
 mq:m≠q0
theorem yh {M:Nat} {z:Int} (h:z.natAbs<=2):Fr 1 2 (z:Rat):=Fr.int h
theorem va {M W:Nat} {a c:Rat} {z:Int} (hz:z.natAbs<=2) (ha:Fr M W a) (hc:Fr M W c):Fr M (3*W) (a+(z:Rat)*c):=by
 have h:=(yh (M:=M) hz).mul hc;rw[uv] at h;exact (ha.add h).mono (by lia)
theorem uz {z:Int} (h:z.natAbs<=1000):qU (z:Rat):=xr (M:=1) (V:=1000) (by decide) (wM) (ar (show 1000<=2^10 by decide) (ao (by decide) (by decide))) (Fr.int h)
theorem rJ {M W:Nat} {c:Rat} {z:Int} (hz:z.natAbs<=2) (hc:Fr M W c) (h0:0 < M) (h1:M<=2^800) (hW:W<=2^140):qU ((z:Rat)*c):=by
 have h:=(yh (M:=M) hz).mul hc;rw[uv] at h;refine xr h0 (ar h1 (ao (by decide) (by decide))) (ar (Nat.mul_le_mul_left 2 hW) ?_) h;rw[show 2*2^140=2^141 by rw[eO,eP]];exact ao (by decide) (by decide)
def fA (A:Addr->Prop) (b m:Addr) (H H':Hp):Prop:=∀c u,H c=some u->c≠b->¬A c->c≠m->H' c=some u
theorem fA.same {A:Addr->Prop} {b m:Addr} {H H1 H2:Hp} (h:fA A b m H H1) (s:aF H1 H2):fA A b m H H2:=λc u e n1 n2 n3=>s _ _ (h c u e n1 n2 n3)
theorem fA.upto {A:Addr->Prop} {b m:Addr} {H H1 H2:Hp} (h:fA A b m H H1) (s:cy b H1 H2):fA A b m H H2:=λc u e n1 n2 n3=>s.1 _ _ (h c u e n1 n2 n3) n1
theorem fA.upd {A:Addr->Prop} {b m q:Addr} {H H1:Hp} {o:HO} (h:fA A b m H H1) (hq:A q\/q=m):fA A b m H (L2.upd H1 q o):=λc u e n1 n2 n3=>by
 rw[aS]
 ·exact h c u e n1 n2 n3
 ·rintro rfl;rcases hq with hq | hq
  ·exact n2 hq
  ·exact n3 hq
theorem fA.new {A:Addr->Prop} {b m r:Addr} {H H1:Hp} (h:fA A b m H H1) (hA:∀q,H q=none->A q) (B:il H1 b) (hm:H1 m≠none) (hr:H1 r=none):A r:=by
 by_cases z:A r
 ·exact z
 ·cases e:H r with
  | none=>exact hA r e
  | some u =>
   have:=h r u e (λy=>B.at (by rw[<- y];exact hr)) z (λy=>hm (by rw[<- y];exact hr));rw[hr] at this;cases this
structure yv (K:FG9) (A:Addr->Prop) (n:Nat) (C:Rat->Prop) (r p b q0:Addr) (us:List V) (H0 H:Hp):Prop where
 gr:H r=some (.lst us)
 ru:∀x∈us,d8 K A H n C x
 rp:d8 K A H n C (.ref p)
 bag:il H b
 inn:Inner H b q0
 up:cy b H0 H
section
variable {K:FG9} {A:Addr->Prop} {n:Nat} {C:Rat->Prop} {r p b q0:Addr} {us:List V} {H0 H H':Hp} {y:Rat} {v:V}
theorem yv.same (h:yv K A n C r p b q0 us H0 H) (e:aF H H'):yv K A n C r p b q0 us H0 H':=⟨e _ _ h.gr,λx hx=>(h.ru x hx).same e,h.rp.same e,h.bag.same e,(e.upto (p:=b)).2 _ h.inn,h.up.same e⟩
theorem yv.upto (h:yv K A n C r p b q0 us H0 H) (u:cy b H H') (B:il H' b) (nb:¬A b) (rb:r≠b):yv K A n C r p b q0 us H0 H':=⟨u.other rb h.gr,λx hx=>(h.ru x hx).upto u h.bag nb,h.rp.upto u h.bag nb,B,u.2 _ h.inn,h.up.trans u⟩
theorem yv.put (h:yv K A n C r p b q0 us H0 H) (ap:A p) (nr:¬A r) (nb:¬A b) (nq:¬A q0) (hp:H0 p=none) (hv:bO K H y v) (hc:C y) (j:Nat):∃zs,H p=some (.lst zs)/\zs.length=n/\yv K A n C r p b q0 us H0 (upd H p (.lst (zs.set j v))):=by
 obtain ⟨q,zs,qs,e,a,g,l,_⟩:=h.rp.at;cases e;have ne:∀{z},¬A z->z≠p:=λh e=>h (by rw[e];exact ap)
 exact ⟨zs,g,l,by rw[aS (ne nr)];exact h.gr,λx hx=>(h.ru x hx).put g hv hc j,h.rp.put g hv hc j,h.bag.upd h.inn (ne nb).symm (ne nq).symm,h.inn.upd (ne nb).symm,h.up.after hp⟩
end
theorem rW {K:FG9} {A:Addr->Prop} {H:Hp} {n:Nat} {C:Rat->Prop} {us:List V} (h:∀x∈us,d8 K A H n C x):∃rows:LR9,Paired (λqs x=>∃q,x=V.ref q/\A q/\d4 K H q qs) rows us/\rows.length=us.length/\∀qs∈rows,qs.length=n/\∀y∈qs,C y:=by
 induction us with
 | nil=>exact ⟨[],.nil,rfl,λ_ z=>nomatch z⟩
 | cons u us ih =>
  obtain ⟨rows,pr,l,hr⟩:=ih λx hx=>h x (.tail _ hx)
  obtain ⟨q,qs,e,a,r,l1,c⟩:=h u (.head _);refine ⟨qs :: rows,.cons ⟨q,e,a,r⟩ pr,by simp [l],λzs hz=>?_⟩;rcases aN.mp hz with rfl | hz
  ·exact ⟨l1,c⟩
  ·exact hr zs hz
theorem xc {K:FG9} {A:Addr->Prop} {H:Hp} {n:Nat} {C:Rat->Prop} {us:List V} {rows:LR9} (pr:Paired (λqs x=>∃q,x=V.ref q/\A q/\d4 K H q qs) rows us) (h:∀qs∈rows,qs.length=n/\∀y∈qs,C y):∀x∈us,d8 K A H n C x:=λx hx=>by
 obtain ⟨qs,hq,q,e,a,r⟩:=dY pr hx;exact ⟨q,qs,e,a,r,(h qs hq).1,(h qs hq).2⟩
theorem t6 {n:Nat}:∀{rows:LR9},(∀xs∈rows,xs.length=n)->rows.flatten.length=rows.length*n
 | [],_=>by simp
 | xs :: rows,h=>by
  rw[kZ,bS,h xs (.head _),t6 λys hy=>h ys (.tail _ hy),cD,kX,Nat.add_comm]
theorem xV {c n:Nat} {rows:LR9} (h:∀qs∈rows,qs.length=n/\∀y∈qs,Dr (2^c) y):∃M:Nat,0 < M/\M<=2^(c*(rows.length*n))/\∀qs∈rows,∀y∈qs,Fr M (2^c) y:=by
 have fl:rows.flatten.length=rows.length*n:=t6 λys hy=>(h ys hy).1
 have hm:∀a∈rows.flatten.map (·.den),0 < a/\a<=2^c:=λa ha=>by
  obtain ⟨y,hy,rfl⟩:=aG.mp ha;obtain ⟨qs,hq,hy⟩:=lO.mp hy;exact ⟨y.den_pos,((h qs hq).2 y hy).2⟩
 refine ⟨tR (rows.flatten.map (·.den)),tN λa ha=>(hm a ha).1,?_,λqs hq y hy=>?_⟩
 ·have:=vV (k:=c) (l:=rows.flatten.map (·.den)) λa ha=>(hm a ha).2
  rwa [aj,fl] at this
 ·exact (Fr.own y ((h qs hq).2 y hy).1).dvd (tO (aG.mpr ⟨y,lO.mpr ⟨qs,hq,hy⟩,rfl⟩))
theorem oS {K:FG9} {A:Addr->Prop} {H H0:Hp} {n m:Nat} {C:Rat->Prop} {p:Addr} (h:FO K A H n C p m) (w:∀q,A q->H0 q=none):∃rows,cg K H0 H p rows/\rows.length=m/\∀qs∈rows,qs.length=n/\∀y∈qs,C y:=by
 obtain ⟨us,g,l,a,r⟩:=h;obtain ⟨rows,pr,lr,hr⟩:=rW r;refine ⟨rows,⟨us,g,Paired.imp' (λ_ _ ⟨q,e,aq,rq⟩=>⟨q,e,w q aq,rq⟩) pr,λhm=>?_⟩,by rw[lr,l],hr⟩;obtain ⟨q,_,e,aq,_⟩:=r _ hm;cases e;exact a aq
theorem fA.trans {A:Addr->Prop} {b m:Addr} {H H1 H2:Hp} (h:fA A b m H H1) (h':fA A b m H1 H2):fA A b m H H2:=λc u e n1 n2 n3=>h' c u (h c u e n1 n2 n3) n1 n2 n3
theorem zO {K:FG9} {A:Addr->Prop} {H0 H:Hp} {n:Nat} {C:Rat->Prop} {us:List V} {rows:LR9} (pr:Paired (cN K H0 H) rows us) (h:∀qs∈rows,qs.length=n/\∀y∈qs,C y) (w:∀q,V.ref q∈us->H0 q=none->H q≠none->A q):∀x∈us,d8 K A H n C x:=λx hx=>by
 obtain ⟨qs,hq,q,e,a,r⟩:=dY pr hx;subst e;exact ⟨q,qs,rfl,w q hx a (by obtain ⟨_,g,_⟩:=r;rw[g];simp),r,(h qs hq).1,(h qs hq).2⟩
def nF (K:FG9) (H0 H:Hp) (r:Addr) (mv pt lk:LR9):Prop:=∃m p l,H r=some (.tup [.ref m,.ref p,.ref l])/\H0 m=none/\H0 p=none/\H0 l=none/\cg K H0 H m mv/\cg K H0 H p pt/\cg K H0 H l lk
section
variable {K:FG9} {H H' H0 H1:Hp} {r b:Addr} {mv pt lk:LR9}
theorem nF.same (h:nF K H0 H r mv pt lk) (e:aF H H'):nF K H0 H' r mv pt lk:=by obtain ⟨m,p,l,g,n1,n2,n3,g1,g2,g3⟩:=h;exact ⟨m,p,l,e _ _ g,n1,n2,n3,g1.same e,g2.same e,g3.same e⟩
theorem nF.upto (h:nF K H0 H r mv pt lk) (u:cy b H H') (B:il H b) (nb:H0 b≠none):nF K H0 H' r mv pt lk:=by
 obtain ⟨m,p,l,g,n1,n2,n3,g1,g2,g3⟩:=h;exact ⟨m,p,l,u.tup B g,n1,n2,n3,g1.upto u B (λz=>nb (by rw[<- z];exact n1)) nb,g2.upto u B (λz=>nb (by rw[<- z];exact n2)) nb,g3.upto u B (λz=>nb (by rw[<- z];exact n3)) nb⟩
end
inductive rN (K:FG9) (C:Addr) (vs:List V) (H:Hp) (Q:VK) (E9:XK):Prop
 | mk (r:Addr) (H0:Hp) (mv pt lk:LR9):vs=[.ref r]->nF K H0 H r mv pt lk->vn mv pt lk->nE mv pt lk->(∀x H',H x=none->aF H H'->pX K H H' C x mv pt lk->Q (.ref x) H')->rN K C vs H Q E9
def rg (k j:Nat) (l:List Rat):Prop:=∃M V:Nat,0 < M/\M<=2^k/\V<=2^j/\∀x∈l,Fr M V x
section
variable {k j k' j':Nat} {l xs ys:List Rat} {x y:Rat}
theorem rg.szn (h:rg k j l) (hx:x∈l) (hk:k+j<=3950:=by decide):qU x:=by
 obtain ⟨M,V,h0,h1,h2,h3⟩:=h;obtain ⟨a,b⟩:=(h3 x hx).sz h0 h1 h2;exact ⟨a.mono (by lia),b.mono (by lia)⟩
theorem rg.one (h:rg k j l) (hx:x∈l):rg k j [x]:=by
 obtain ⟨M,V,h0,h1,h2,h3⟩:=h;exact ⟨M,V,h0,h1,h2,λy hy=>by rw[dR.mp hy];exact h3 x hx⟩
theorem Am (h:rg k j xs) (h':rg k' j' ys) (hl:xs.length<=1000) (i:Nat) (hk:(k+k')+(j+j')<=3930:=by decide):qU (ma (xs.take i) (ys.take i)):=by
 obtain ⟨M,V,h0,h1,h2,h3⟩:=h;obtain ⟨N,W,k0,k1,k2,k3⟩:=h'
 have e:1000*(V*W)<=2^(10+(j+j')):=by
  rw[cG 2 10];exact bB (by decide) (ar (bB h2 k2) (by rw[<- cG];exact ay _))
 obtain ⟨a,b⟩:=((Fr.dot (λx hx=>h3 x (mX hx)) (λy hy=>k3 y (mX hy))).mono (aR _ (show (xs.take i).length<=1000 by rw[zm];lia))).sz (kb h0 k0) (ar (bB h1 k1) (by rw[<- cG];exact ay _)) e;exact ⟨a.mono (by lia),b.mono (by lia)⟩
theorem z7 (hx:rg k j [x]) (hy:rg k' j' [y]) (hk:(k+k')+(j+j')<=3930:=by decide):qU (x*y):=by
 obtain ⟨M,V,h0,h1,h2,h3⟩:=hx;obtain ⟨N,W,k0,k1,k2,k3⟩:=hy;obtain ⟨a,b⟩:=((h3 x (.head _)).mul (k3 y (.head _))).sz (kb h0 k0) (ar (bB h1 k1) (by rw[<- cG];exact ay _)) (ar (bB h2 k2) (by rw[<- cG];exact ay _));exact ⟨a.mono (by lia),b.mono (by lia)⟩
def Ay (xs ys:List Rat):Prop:=∃k j k' j':Nat,rg k j xs/\rg k' j' ys/\(k+k')+(j+j')<=3930
end
inductive xT (K:FG9) (vs:List V) (H:Hp) (Q:VK) (E9:XK):Prop
 | mk (p q:Addr) (xs ys:List Rat):vs=[.ref p,.ref q]->d4 K H p xs->d4 K H q ys->ys.length=xs.length->xs.length<=1000->Ay xs ys->(∀r H',aF H H'->bO K H' (ma xs ys) (.ref r)->Q (.ref r) H')->xT K vs H Q E9
section
variable {mv pt lk pus:LR9} {st:List Rat} {k:Nat}
theorem AN {M W:Nat} {rows:LR9} {w:Nat} (h:GF M W rows):GF M W (gU rows w):=λys hy y hy'=>by
 obtain ⟨j,_,rfl⟩:=aG.mp hy;obtain ⟨xs,hx,rfl⟩:=aG.mp hy';rw[ae];cases e:xs[j]? with
 | none=>exact Fr.zero
 | some z=>exact h xs hx z (av e)
end
end L2
namespace L2
def aY:Nat->(Nat->Rat)->Rat
 | 0,_=>0
 | k+1,f=>aY k f+f k
theorem bh {f g:Nat->Rat}:∀{k:Nat},(∀j,j < k->f j=g j)->aY k f=aY k g
 | 0,_=>rfl
 | k+1,h=>by
  show aY k f+f k=aY k g+g k
  rw[bh λj hj=>h j (by lia),h k (by lia)]
theorem jb {f g:Nat->Rat}:∀{k:Nat},aY k (λj=>f j+g j)=aY k f+aY k g
 | 0=>by show (0:Rat)=0+0;grind
 | k+1=>by
  show aY k (λj=>f j+g j)+_=(aY k f+f k)+(aY k g+g k)
  rw[jb];grind
theorem eQ {f:Nat->Rat} {c:Rat}:∀{k:Nat},aY k (λj=>c*f j)=c*aY k f
 | 0=>by show (0:Rat)=c*0;grind
 | k+1=>by
  show aY k (λj=>c*f j)+_=c*(aY k f+f k)
  rw[eQ];grind
theorem iq {f:Nat->Rat}:∀{k:Nat},(∀j,j < k->f j=0)->aY k f=0
 | 0,_=>rfl
 | k+1,h=>by
  show aY k f+f k=0
  rw[iq λj hj=>h j (by lia),h k (by lia)];grind
theorem jW {f:Nat->Rat} {i:Nat}:∀{k:Nat},i < k->(∀j,j < k->j≠i->f j=0)->aY k f=f i
 | k+1,hi,h=>by
  show aY k f+f k=f i
  by_cases e:i=k
  ·subst e;rw[iq λj hj=>h j (by lia) (by lia)];grind
  ·rw[jW (by lia) λj hj=>h j (by lia),h k (by lia) (λz=>e z.symm)];grind
theorem nR {f:Nat->Nat->Rat} {m:Nat}:∀{k:Nat},aY k (λi=>aY m (f i))=aY m (λj=>aY k λi=>f i j)
 | 0=>(iq λ_ _=>rfl).symm
 | k+1=>by
  show aY k (λi=>aY m (f i))+aY m (f k)=aY m (λj=>aY k (λi=>f i j)+f k j)
  rw[nR,jb]
end L2
namespace L2
open Nm
def fH (rows:LR9) (i c:Nat):Rat:=(rows.getD i []).getD c 0
section
variable {ls ls0:List (List Int)} {k t n P c:Nat} {b d:Int} {ps:List Nat}
theorem getD_in {α:Type} {l:List α} {i:Nat} {e:α} (h:i < l.length):l.getD i e∈l:=by
 rw[ae,ak h];exact bC h
theorem yq {x:Int} (h:(x:Rat)=0):x=0:=by
 have:(x:Rat)=((0:Int):Rat):=h;exact gQ.mp this
end
def Tp (M W:Nat) (q:Rat):Prop:=∃z:Int,q*(M:Rat)=(z:Rat)/\z.natAbs<=W
theorem Tp.of {M V W:Nat} {q:Rat} (h:Fr M V q) (hW:V*M<=W):Tp M W q:=by obtain ⟨z,a,b⟩:=h;exact ⟨z,a,ar b hW⟩
theorem Tp.mono {M W W':Nat} {q:Rat} (h:Tp M W q) (hW:W<=W'):Tp M W' q:=by obtain ⟨z,a,b⟩:=h;exact ⟨z,a,ar b hW⟩
theorem Tp.fr {M W:Nat} {q:Rat} (h:Tp M W q) (h0:0 < M):Fr M W q:=by obtain ⟨z,a,b⟩:=h;exact ⟨z,a,ar b (cR _ h0)⟩
section
variable {rows:LR9} {n w i c:Nat} {xs:List Rat}
theorem zw {M W:Nat} {x:Rat} (h:Tp M W x):(nm x).2∣(M:Int):=by
 obtain ⟨z,e,b⟩:=h
 exact Fr.den (V:=z.natAbs) (M:=M) ⟨z,e,by
  rcases Nat.eq_zero_or_pos M with h | h
  ·subst h;have:(z:Rat)=0:=by rw[<- e];simp
   rw[yq this];simp
  ·exact cR _ h⟩
theorem Dn {M W:Nat} {x:Rat} (h:Tp M W x) (h0:0 < M) {B:Int} (hB:0 < B) (d1:(nm x).2∣B) (d2:B∣(M:Int)):∃t:Int,x*(B:Rat)=(t:Rat)/\t.natAbs<=W:=by
 obtain ⟨z,e,b⟩:=h;obtain ⟨s,es⟩:=d2;refine ⟨(nm x).1*(B / (nm x).2),(oZ d1).symm,?_⟩
 have s0:0 < s:=by
  rcases Int.lt_trichotomy s 0 with h | h | h
  ·have:=Int.mul_neg_of_pos_of_neg hB h
   lia
  ·rw[h] at es;lia
  ·exact h
 have e2:(((nm x).1*(B / (nm x).2)*s:Int):Rat)=(z:Rat):=by
  rw[aH,oZ d1,<- e,<- aZ,es,aH];grind
 have e3:=gQ.mp e2;have:((nm x).1*(B / (nm x).2)).natAbs*s.natAbs=z.natAbs:=by rw[<- cL,e3]
 have h1:1<=s.natAbs:=by lia
 have:=cR ((nm x).1*(B / (nm x).2)).natAbs h1
 lia
end
open PySem PySem.Spec PyProof.Rows
theorem oO {α β:Type} {F:α->β->Prop}:∀{l1:List α} {l2:List β} (_:Paired F l1 l2) (i:Nat) {x:α} {y:β},F x y->Paired F (l1.set i x) (l2.set i y)
 | _,_,.nil,_,_,_,_=>.nil
 | _,_,.cons _ r,0,_,_,h=>.cons h r
 | _,_,.cons a r,i+1,_,_,h=>.cons a (oO r i h)
theorem Ey {zs:List Int} {c:Nat} (h:c < zs.length):zg (zs.map V.int) (c:Int)=some (V.int (zs.getD c 0)):=iT (by rw[aD,ae,ak h];rfl)
section
variable {rows rs rs':LR9} {n P w a:Nat} {ps:List Nat}
end
theorem m7 {M W:Nat} {x:Rat} (h:Tp M W x) (h0:0 < M) (h1:M<=2^3995) (h2:W<=2^3995):qU x:=by
 refine ⟨?_,?_⟩
 ·obtain ⟨s,e,b⟩:=Dn h h0 (j6 x) (Int.dvd_refl _) (zw h);have e2:(((nm x).1:Int):Rat)=(s:Rat):=by rw[<- e];exact nX x
  rw[gQ.mp e2];exact ba (ar b h2) (mV (by decide) (by decide))
 ·have:=gS h0 (qY.mp (zw h));show ((x.den:Nat):Int).natAbs < _
  rw[ck];exact ba (ar this h1) (mV (by decide) (by decide))
theorem Tp.mul {M W M' W':Nat} {x y:Rat} (h:Tp M W x) (h':Tp M' W' y):Tp (M*M') (W*W') (x*y):=by
 obtain ⟨z,e,b⟩:=h;obtain ⟨z',e',b'⟩:=h';refine ⟨z*z',?_,by rw[cL];exact bB b b'⟩;rw[aH,<- e,<- e',sU];grind
def EB (K:FG9) (te:TE) (ts:TO):TE:=λσ H Q=>te σ H λx H1=>ts σ H1 λo H2=>o=some (-1)/\∃a xs,x=.ref a/\b6 K H2 a xs/\∀p,H2 p=none->Q (.ref p) (upd H2 p (.lst xs.reverse))
theorem yP {X:Cx} {e st:Expr} {te:TE} {ts:TO} {pos p2:Pos} (he:PE X e te) (hst:PO X (some st) ts):PE X (.Subscript e (.Slice none none (some st) p2) pos) (EB X.K te ts):=by
 intro pins s σ H Q I h;refine Subscript_ (d7 (he pins s σ H _ I h) λv s1 ⟨x,H1,I1,r1,q1⟩=>?_);refine wpAny_Slice ?_;rw[evalPart_none];refine wpAny_pure (wpAny_pure (d7 (hst pins s1 σ H1 _ I1 q1) λvs s3 ⟨o,H3,I3,ps,eo,a,xs,ex,hx,q⟩=>?_));subst eo ex;cases r1;have I4:Inv X pins σ H3 { s3 with heap:=s3.heap.push { cls:=.type "slice",data:=.fields #[.none,.none,vs] } }:=I3.kept (t':=s3.toks) λb ob q=>Heap.get?_push_of_some _ q
 obtain ⟨its,r,ht,hz⟩:=I4.list hx;have hlen:=r.length;show wpAny (model X.prog X.w) X.A (subscriptTail e (.Slice none none (some st) p2) (.ref a) (.ref s3.heap.objs.size)) (EP X pins σ Q) X.xe { s3 with heap:=s3.heap.push { cls:=.type "slice",data:=.fields #[.none,.none,vs] } }
 refine tail_any (ops:=[.ref a,.ref s3.heap.objs.size]) ht.isList.typeIs slot_list_getitem.lookup ?_ (by with_unfolding_all rfl);refine wpAny_getItem_list_slice ht.isList (Heap.IsSliceOf.new ..) .none .none ps (by simp) ?_ (by rw[aB];lia);rw[PySem.W.krv_pick];refine ⟨.ref _,_,I4.laid (t':=s3.toks) (o:=.lst xs.reverse) (λb ob q=>Heap.get?_push_of_some _ q) (ay _) ?_,rfl,q _ (I4.hok.fresh (ay _))⟩;exact ⟨by rw[nQ];exact hz,_,0,r.reverse,Heap.get?_push_size _ rfl⟩
theorem Tp.zero {M W:Nat}:Tp M W 0:=⟨0,by simp,by simp⟩
theorem Tp.add {M W W':Nat} {x y:Rat} (h:Tp M W x) (h':Tp M W' y):Tp M (W+W') (x+y):=by
 obtain ⟨z,e,b⟩:=h;obtain ⟨z',e',b'⟩:=h';refine ⟨z+z',?_,ar (lg _ _) (Nat.add_le_add b b')⟩;rw[jN,<- e,<- e'];grind
theorem Tp.sum {M W:Nat} {f:Nat->Rat}:∀{k:Nat},(∀j,j < k->Tp M W (f j))->Tp M (k*W) (aY k f)
 | 0,_=>Tp.zero
 | k+1,h=>by
  have:=(Tp.sum (k:=k) λj hj=>h j (by lia)).add (h k (by lia));exact this.mono (by rw[kX];exact ay _)
theorem uy {M W:Nat} {xs:List Rat} (h:∀x∈xs,Tp M W x) (c:Nat):Tp M W (xs.getD c 0):=by
 by_cases hc:c < xs.length
 ·exact h _ (getD_in hc)
 ·rw[ae,cI (by lia)];exact Tp.zero
theorem oM {α β:Type} {F:α->β->Prop}:∀{l1:List α} {l2:List β},Paired F l1 l2->Paired F l1.reverse l2.reverse
 | _,_,.nil=>.nil
 | _,_,.cons a r=>by rw[ig,ig];exact cP (oM r) (.cons a .nil)
theorem qq {K:FG9} {l:Addr} {xs:List V} {g:TG} {tf:TT} {te:TE} {Q:VK} {σ₀:St} {H:Hp} (Pv:Nat->List V->Hp->Prop) (hz:xs.length<=sizeLine) (h0:Pv 0 [] H) (hl:∀i ys H,i<=xs.length->Pv i ys H->b6 K H l xs)
  (hs:∀i x ys H p,xs[i]?=some x->ys.length<=i->Pv i ys H->H p=none->mN σ₀ g tf te (.ref p) (upd H p (.tup [.int i,x])) (λy H'=>Pv (i+1) (ys++[y]) H') (λH'=>Pv (i+1) ys H'))
  (hd:∀ys H,ys.length<=xs.length->Pv xs.length ys H->∀p,H p=none->Q (.ref p) (upd H p (.lst ys))):mT (Eo K l) σ₀ g tf te Q H:=by
 refine ⟨λi m ys H=>m=xs.length - i/\i<=xs.length/\ys.length<=i/\Pv i ys H,⟨xs.length,by simp,bP _,bP _,h0⟩,?_⟩;rintro i m ys H ⟨rfl,hi,hy,p⟩;have q1:=hl i ys H hi p;by_cases hlt:i < xs.length
 ·refine .inr ⟨⟨xs,xs[i],q1,by simp [hlt]⟩,by lia,λy H'=>Pv (i+1) (ys++[y]) H',λH'=>Pv (i+1) ys H',λy H' p'=>⟨xs.length - (i+1),by lia,rfl,hlt,by rw[bS,d5];lia,p'⟩,λH' p'=>⟨xs.length - (i+1),by lia,rfl,hlt,by lia,p'⟩,λx H' y=>?_⟩;obtain ⟨r,x',rfl,hr,rfl,e1⟩:=y;exact hs i x' ys _ r (e1 xs q1) hy p hr
 ·have e:i=xs.length:=by lia
  subst e;exact .inl ⟨⟨xs,q1,ay _⟩,by lia,hd ys H hy p⟩
section
variable {R rows:LR9} {ps:List Nat} {n a j:Nat}
theorem pL:∀{xs ys:List Rat},xs.length=ys.length->ma xs ys=aY xs.length λc=>xs.getD c 0*ys.getD c 0:=by
 intro xs ys h
 have key:∀k,k<=xs.length->ma (xs.take k) (ys.take k)=aY k λc=>xs.getD c 0*ys.getD c 0:=by
  intro k
  induction k with
  | zero=>intro _;rfl
  | succ k ih =>
   intro hk;rw[uc (by lia) (by lia),ih (by lia)];rfl
 have:=key xs.length (ay _);rwa [aV (ay _),aV (by lia)] at this
end
theorem BR {q:Rat} (h:q.den<=9):q.den∣2520:=by
 have:=q.den_pos;generalize q.den=d at h this;have:d=1\/d=2\/d=3\/d=4\/d=5\/d=6\/d=7\/d=8\/d=9:=by lia
 rcases this with rfl | rfl | rfl | rfl | rfl | rfl | rfl | rfl | rfl <;> decide
theorem Al {q:Rat} {M:Nat} (h:Dr 9 q) (hM:2520∣M):Fr M 9 q:=(Fr.own q h.1).dvd (Nat.dvd_trans (BR h.2) hM)
theorem wb {n:Nat}:((List.range n).map λ_=>(0:Rat))=List.replicate n 0:=by rw[List.map_const',aI]
def FP (rows:LR9) (ws:List Rat) (n j:Nat):List Rat:=(List.range n).map λc=>aY j λi=>ws.getD i 0*fH rows i c
def Et (rows:LR9) (ws:List Rat) (n:Nat):List Rat:=FP rows ws n ws.length
section
variable {rows:LR9} {ws xs row:List Rat} {n j:Nat}
theorem Dk:(FP rows ws n j).length=n:=by unfold FP;rw[aj,aI]
theorem xG {c:Nat} (hc:c < n):(Et rows ws n).getD c 0=aY ws.length λi=>ws.getD i 0*fH rows i c:=by
 unfold Et FP;rw[ae,aD,cx hc];rfl
theorem zt {c:Nat} (hc:c < n):(gU rows n)[c]?=some (rows.map λxs=>xs.getD c 0):=by
 unfold gU;rw[aD,cx hc];rfl
theorem D3 {c i:Nat}:(rows.map λxs=>xs.getD c 0).getD i 0=fH rows i c:=by
 unfold fH;rw[ae,aD,ae (l:=rows)];cases rows[i]? with
 | none=>rfl
 | some y=>rfl
end
section
variable {rows R:LR9} {due:List Rat} {ps:List Nat} {n:Nat}
theorem BP {xs ys:List Rat} {M V D B:Nat} (h:ys.length=xs.length) (hx:∀x∈xs,Fr M V x) (hy:∀y∈ys,Fr D B y):Fr (M*D) (xs.length*(V*B)) (ma xs ys):=by
 rw[pL h.symm]
 have key:∀j,j<=xs.length->Fr (M*D) (j*(V*B)) (aY j λc=>xs.getD c 0*ys.getD c 0):=by
  intro j
  induction j with
  | zero=>intro _;exact Fr.zero
  | succ j ih =>
   intro hj;exact ((ih (by lia)).add ((hx _ (getD_in (by lia))).mul (hy _ (getD_in (by lia))))).mono (Nat.le_of_eq (kX j (V*B)).symm)
 exact key _ (ay _)
end
section
variable {rows rows' R R':LR9} {n w W:Nat} {ps ps':List Nat}
end
section
variable {mv pt R R' S X Y:LR9} {n t m i c:Nat} {ps ps':List Nat} {a:Nat->Nat->Rat}
end
section
variable {K:FG9} {H0 H1 H H':Hp} {p l:Addr} {rows mv pt R R':LR9} {Rs:List (LR9)} {t:Nat}
theorem cg.updL {ys:List V} {o:HO} (h:cg K H0 H p rows) (hl:H l=some (.lst ys)) (nl:H0 l≠none) (pl:p≠l):cg K H0 (upd H l o) p rows:=by obtain ⟨xs,g,r,n⟩:=h;exact ⟨xs,by rw[aS pl];exact g,Paired.imp' (λ_ _ z=>cN.updL z hl nl) r,n⟩
end
theorem tV {α:Type} {v:α}:∀{l:List α},l.Nodup->v∉l->∀j,(l.set j v).Nodup
 | [],_,_,_=>oF
 | a :: l,h,hn,0=>by
  rw[cC] at h;rw[List.set_cons_zero,cC];exact ⟨λz=>hn (.tail _ z),h.2⟩
 | a :: l,h,hn,j+1=>by
  rw[cC] at h;rw[List.set_cons_succ,cC];refine ⟨λz=>?_,tV h.2 (λz=>hn (.tail _ z)) j⟩;rcases et z with z | z
  ·exact h.1 z
  ·exact hn (by rw[z];exact .head _)
structure ik (K:FG9) (A:Addr->Prop) (H:Hp) (n:Nat) (C:V->Rat->Prop) (m p l b q0:Addr) (us ws vs:List V):Prop where
 bag:il H b
 inn:Inner H b q0
 gm:H m=some (.lst us)
 gp:H p=some (.lst ws)
 gl:H l=some (.lst vs)
 lm:us.length=n
 row:∀x∈us++vs++ws,d8 K A H n (C x) x
 nd:(us++vs++ws).Nodup
section
variable {K:FG9} {A:Addr->Prop} {H H':Hp} {n:Nat} {C C':V->Rat->Prop} {m p l b q0 q:Addr} {us ws vs zs:List V} {y:Rat} {v:V}
theorem ik.same (h:ik K A H n C m p l b q0 us ws vs) (e:aF H H'):ik K A H' n C m p l b q0 us ws vs :=
 ⟨h.bag.same e,(e.upto (p:=b)).2 _ h.inn,e _ _ h.gm,e _ _ h.gp,e _ _ h.gl,h.lm,λx hx=>(h.row x hx).same e,h.nd⟩
theorem ik.upto (h:ik K A H n C m p l b q0 us ws vs) (M:xD A m p l b q0) (u:cy b H H') (B':il H' b):ik K A H' n C m p l b q0 us ws vs :=
 ⟨B',u.2 _ h.inn,u.other M.mb h.gm,u.other M.pb h.gp,u.other M.lb h.gl,h.lm,λx hx=>(h.row x hx).upto u h.bag M.ab,h.nd⟩
theorem ik.weak (h:ik K A H n C m p l b q0 us ws vs) (w:∀x∈us++vs++ws,∀y,C x y->C' x y):ik K A H n C' m p l b q0 us ws vs :=
 ⟨h.bag,h.inn,h.gm,h.gp,h.gl,h.lm,λx hx=>(h.row x hx).weak (λ_ z=>z) (w x hx),h.nd⟩
theorem ik.put (h:ik K A H n C m p l b q0 us ws vs) (M:xD A m p l b q0) (aq:A q) (hq:H q=some (.lst zs)) (hv:bO K H y v) (hc:C (.ref q) y) (j:Nat):ik K A (upd H q (.lst (zs.set j v))) n C m p l b q0 us ws vs:=by
 have ne:∀{z},¬A z->z≠q:=λh e=>h (by rw[e];exact aq)
 refine ⟨h.bag.upd h.inn (ne M.ab).symm (ne M.aq).symm,h.inn.upd (ne M.ab).symm,by rw[aS (ne M.am)];exact h.gm,by rw[aS (ne M.ap)];exact h.gp,by rw[aS (ne M.al)];exact h.gl,h.lm,λx hx=>?_,h.nd⟩;by_cases e:x=.ref q
 ·subst e;exact (h.row _ hx).put hq hv hc j
 ·obtain ⟨q1,qs,rfl,a1,r1,l1,c1⟩:=h.row x hx;exact ⟨q1,qs,rfl,a1,r1.updL hq (λz=>e (by rw[z])),l1,c1⟩
theorem ik.set (h:ik K A H n C m p l b q0 us ws vs) (M:xD A m p l b q0) (hx:d8 K A H n (C v) v) (hn:v∉us++vs++ws) (j:Nat):ik K A (upd H m (.lst (us.set j v))) n C m p l b q0 (us.set j v) ws vs:=by
 have mem:∀x∈us.set j v++vs++ws,x=v\/x∈us++vs++ws:=λx hx=>by
  rcases aL.mp hx with hx | hx
  ·rcases aL.mp hx with hx | hx
   ·rcases et hx with hx | hx
    ·exact .inr (by simp [hx])
    ·exact .inl hx
   ·exact .inr (by simp [hx])
  ·exact .inr (by simp [hx])
 refine ⟨h.bag.upd h.inn M.mb M.mq,h.inn.upd M.mb,aE,by rw[aS M.mp.symm];exact h.gp,by rw[aS M.ml.symm];exact h.gl,by rw[jQ];exact h.lm,λx hx'=>?_,?_⟩
 ·rcases mem x hx' with rfl | hx'
  ·exact hx.other h.gm M.am
  ·exact (h.row x hx').other h.gm M.am
 ·have nd:=h.nd;rw[p3] at nd hn ⊢;obtain ⟨n1,n2,n3⟩:=cH.mp nd;refine cH.mpr ⟨?_,n2,λa ha c hc=>?_⟩
  ·rcases Nat.lt_or_ge j us.length with z | z
   ·exact tV n1 (λz'=>hn (aL.mpr (.inl z'))) j
   ·rw[List.set_eq_of_length_le z];exact n1
  ·rcases et ha with ha | rfl
   ·exact n3 a ha c hc
   ·exact λz=>hn (aL.mpr (.inr (by rw[z];exact hc)))
end
theorem yi {M W:Nat} {x:Rat} (h0:0 < M) (h1:M<=2^800) (hW:W<=2^140) (h:Fr M W x):qU x :=
 xr h0 (ar h1 (ao (by decide) (by decide))) (ar hW (ao (by decide) (by decide))) h
theorem Bw {t V c:Nat} (ht:t<=3) (hV:V<=2^20) (hc:c<=9):c*(9^t*V)<=2^140:=by
 have h1:9^t<=9^3:=ao (by decide) ht;have h2:c*(9^t*V)<=9*(9^3*2^20):=bB hc (bB h1 hV);exact ar h2 (ar (show 9*(9^3*2^20)<=2^40 by decide) (ao (by decide) (by decide)))
theorem sD {α:Type} {l:List α} {v:α} (h:l.Nodup) (hn:v∉l):(l++[v]).Nodup:=cH.mpr ⟨h,by simp,λa ha c hc=>by rw[dR.mp hc];exact λz=>hn (by rw[<- z];exact ha)⟩
section
variable {K:FG9} {a:Addr} {xs:List V} {g:TG} {tf:TT} {te:TE} {Q:VK} {σ₀:St} {H:Hp} {α β:Type}
theorem uj {n:Nat} {b:Addr} (G:Hp->β->V->Prop) (C:β->Prop) (hB:il H b) (hl:n<=1000) (hG:∀{H' H'' c x},G H' c x->cy b H' H''->il H' b->G H'' c x)
  (hA:∀{H' c x},G H' c x->∃q,x=V.ref q/\H' q≠none)
  (hs:∀(i:Nat) H' NY NN,i < n->cy b H H'->il H' b->(∀y c H2,cy b H' H2->il H2 b->C c->G H2 c y->(∃q,y=V.ref q/\H' q=none)->NY y H2)->mN σ₀ g tf te (.int i) H' NY NN)
  (hd:∀ys cs H' p,H p=none->cy b H H'->il H' b->H' p=some (.lst ys)->cs.length=n->ys.Nodup->(∀c∈cs,C c)->Paired (G H') cs ys->(∃H2,H2 p=none/\Paired (G H2) cs ys)->Q (.ref p) H'):mT (wI 0 n) σ₀ g tf te Q H:=by
 refine iG (λi ys H'=>cy b H H'/\il H' b/\∃cs,cs.length=i/\ys.Nodup/\(∀c∈cs,C c)/\Paired (G H') cs ys) (bI (bT (by lia))) ⟨(aF.refl _).upto,hB,[],rfl,oF,(λ_ z=>nomatch z),.nil⟩ ?_ ?_
 ·rintro i ys H' hi hlen ⟨u,B,cs,lc,nd,hc,pr⟩;rw[rE];refine hs i H' _ _ hi u B λy c H2 u2 B2 cc gy ⟨q,ey,nq⟩=>⟨u.trans u2,B2,cs++[c],by simp [lc],sD nd (λz=>by obtain ⟨c',_,gc⟩:=dY pr z;obtain ⟨q',e',h'⟩:=hA gc;rw[ey] at e';cases e';exact h' nq),yt hc cc,cP (Paired.imp' (λ_ _ z=>hG z u2 B) pr) (.cons gy .nil)⟩
 ·rintro ys H' hy ⟨u,B,cs,lc,nd,hc,pr⟩ p hp;have s:aF H' (upd H' p (.lst ys)):=aF.new hp;exact hd ys cs _ p (u.none B hp) (u.same s) (B.same s) aE lc nd hc (Paired.imp' (λ_ _ z=>hG z s.upto B) pr) ⟨H',hp,pr⟩
end
structure xA (K:FG9) (A:Addr->Prop) (n:Nat) (C:Rat->Prop) (m p l b q0:Addr) (us ws vs:List V) (H0 H:Hp):Prop where
 mix:ik K A H n (λ_=>C) m p l b q0 us ws vs
 gp:H p=some (.lst ws)
 gl:H l=some (.lst vs)
 kp:fA A b m H0 H
section
variable {K:FG9} {A:Addr->Prop} {n:Nat} {C:Rat->Prop} {m p l b q0 q:Addr} {us ws vs:List V} {H0 H H':Hp} {y:Rat} {v:V}
theorem xA.same (h:xA K A n C m p l b q0 us ws vs H0 H) (e:aF H H'):xA K A n C m p l b q0 us ws vs H0 H':=⟨h.mix.same e,e _ _ h.gp,e _ _ h.gl,h.kp.same e⟩
theorem xA.upto (h:xA K A n C m p l b q0 us ws vs H0 H) (M:xD A m p l b q0) (u:cy b H H') (B:il H' b):xA K A n C m p l b q0 us ws vs H0 H':=⟨h.mix.upto M u B,u.other M.pb h.gp,u.other M.lb h.gl,h.kp.upto u⟩
theorem xA.row (h:xA K A n C m p l b q0 us ws vs H0 H) {x:V} (hx:x∈ws\/x∈vs):d8 K A H n C x:=h.mix.row x (by rcases hx with hx | hx <;> simp [hx])
theorem xA.put (h:xA K A n C m p l b q0 us ws vs H0 H) (M:xD A m p l b q0) (hx:V.ref q∈ws\/V.ref q∈vs) (hv:bO K H y v) (hc:C y) (j:Nat):∃zs,H q=some (.lst zs)/\zs.length=n/\xA K A n C m p l b q0 us ws vs H0 (upd H q (.lst (zs.set j v))):=by
 obtain ⟨q',zs,qs,e,a,g,lz,_⟩:=(h.row hx).at;cases e;have ne:∀{z},¬A z->z≠q:=λh e=>h (by rw[e];exact a)
 exact ⟨zs,g,lz,h.mix.put M a g hv hc j,by rw[aS (ne M.ap)];exact h.gp,by rw[aS (ne M.al)];exact h.gl,h.kp.upd (.inl a)⟩
end
inductive vJ (K:FG9) (vs:List V) (H:Hp) (Q:VK) (E9:XK):Prop
 | mk (b:Addr) (n w:Nat) (way first:Int):vs=[.ref b,.int n,.int way,.int first,.int w]->il H b->n<=8->1<=w->w<=1000000->(∀r us H',H r=none->H' r=some (.lst us)->us.length=n->us.Nodup->(∀x∈us,d8 K (λq=>H q=none/\q≠r) H' n (Dr (max w 6)) x)->il H' b->cy b H H'->Q (.ref r) H')->vJ K vs H Q E9
def PtF (n i o w c:Nat) (mv pt lk:LR9):Prop:=∃M V1:Nat,0 < M/\GF M V1 mv/\GF M V1 pt/\GF M V1 lk/\((w<=9/\M=2520/\V1=9^3*9)\/(9 < w/\M<=2^(c*((n+i+o)*n))/\V1=9^3*2^c))
section
variable {rows fs ls:LR9} {n r M W Wv Wb k P:Nat} {Pm Y Z B E a:Nat->Nat->Rat} {d:Rat} {ps:List Nat} {rs:LR9}
end
section
variable {rows R R1 R2 mv pt:LR9} {n r M V1 W W' Wv Wb k P:Nat} {Pm Y Z B E a:Nat->Nat->Rat} {d:Rat} {ps ps1 ps2:List Nat} {rs:LR9}
theorem nU {f:Nat->Rat} {a:Nat}:∀{b:Nat},aY (a+b) f=aY a f+aY b λt=>f (a+t)
 | 0=>by show aY a f=aY a f+0;grind
 | b+1=>by
  show aY (a+b) f+f (a+b)=_+(aY b _+f (a+b))
  rw[nU];grind
end
theorem zL:typeLookup (.type "list_reverseiterator") "__len__"=pure none:=by
 rw[typeLookup_type,builtinLookup_eq_fast]
 kernel_rfl
theorem AZ:typeLookup (.type "list_reverseiterator") "__length_hint__"=pure (some (.builtin "list_reverseiterator.__length_hint__")):=by
 rw[typeLookup_type,builtinLookup_eq_fast]
 kernel_rfl
section
variable {prog:Program} {w:World} {A:Around} {E:Value->Shared->Prop} {s:Shared}
theorem AX {it l:Addr} {i:Int} {Q:Bool->Shared->Prop} (hit:s.heap.IsRevIter it l i) (q:Q false s):wpAny (model prog w) A (Builtin.List.listLengthHint (.ref it)) Q E s:=by
 unfold Builtin.List.listLengthHint;refine wpAny_bind (wpAny_specialOf hit.typeIs zL ?_);show wpAny _ A (specialOf (Value.ref it) (Str.ofString "__length_hint__") >>= _) Q E s
 refine wpAny_bind (wpAny_specialOf hit.typeIs AZ ?_);generalize hid:("list_reverseiterator.__length_hint__":String)=id0
 dsimp only
 rw[show splitId id0=some ("list_reverseiterator","__length_hint__") from by subst hid;decide +kernel];subst hid;refine wpAny_bind (wpAny_isInstance (T:="list_reverseiterator") (b:=true) hit.typeIs (by rw[isSubtype_type];kernel_rfl) ?_);refine wpAny_ite_split (λz=>absurd z (by decide)) (λ_=>?_);refine wpAny_ite_split (λ_=>?_) (λz=>absurd (by decide +kernel) z);exact wpAny_ite_split (λz=>absurd z (by decide +kernel)) (λ_=>wpAny_pure q)
theorem A0 {R:Result->Shared->Prop} {I l S:Addr} {items:Array Value} {res:Value} {c0:Nat} (hh:A.handled=none) (hit:s.heap.IsRevIter I l ((items.size:Int) - 1)) (hl:s.heap.IsList l items) (nI:l≠I) (nS:S≠I) (nL:S≠l) (hn:items.size<=sizeLine) (hS:s.heap.get? S=some { cls:=.type "list",data:=.seq #[] c0 })
  (hR:∀h' tk acc c,(∀b o,b≠S->b≠I->s.heap.get? b=some o->h'.get? b=some o)->h'.get? S=some { cls:=.type "list",data:=.seq acc c }->ItemsOf (λi v=>items[items.size - 1 - i]?=some v) acc items.size->R (.ok (.ret res)) { s with heap:=h',toks:=tk }) :
  wpAny (model prog w) A.in1 (Builtin.List.listExtendWith (.ref S) (.ref I) res) (λfin s2=>match fin with | .done f=>R (.ok f) s2 | .again c=>c.quiet=true/\codeAny (model prog w) A c R s2) (λe s2=>R (.error e) s2) s:=by
 have W:=(Walks.listRev (prog:=prog) (w:=w) (A:=A.in1) hh I l nI items).toS;unfold Builtin.List.listExtendWith;refine wpAny_bind (wpAny_typeOf hit.typeIs ?_);rw[if_neg (by simp [Builtin.List.listSameRef,nS])];refine wpAny_bind (wpAny_pyIter_revIter hit ?_);refine wpAny_bind (wpAny_holding (AX hit ?_));refine wpAny_ite_split (λz=>absurd z (by decide +kernel)) (λ_=>?_);have h0:s.heap.IsRevIter I l ((items.size:Int) - 1 - ((0:Nat):Int)):=by simpa using hit
 refine wpAny_pure ⟨plainId_quiet F.plain_extend_loop _,codeAny_extend_loopS W hn S (by simp [nS,nL]) res items.size 0 s #[] c0 rfl (bP _) ⟨bP _,h0,hl⟩ hS (ItemsOf.nil _) λs2 acc c hm h2 hi=>?_⟩;rw[Moved.eq_with hm];exact hR s2.heap s2.toks acc c (λb o n1 n2 e=>hm.heap b o (by simp [n1,n2]) e) h2 hi
theorem AY {Q : Value → Shared → Prop} {I l : Addr} {items : Array Value} (hh : A.handled = none) (hit : s.heap.IsRevIter I l ((items.size : Int) - 1)) (hl : s.heap.IsList l items) (nI : l ≠ I) (hn : items.size ≤ sizeLine)
    (hQ : ∀ h' tk acc c, (∀ b o, b ≠ I → s.heap.get? b = some o → h'.get? b = some o) → h'.get? s.heap.objs.size = some { cls := .type "list", data := .seq acc c } → ItemsOf (λi v => items[items.size - 1 - i]? = some v) acc items.size → Q (.ref s.heap.objs.size) { s with heap := h', toks := tk }) :
    wpAny (model prog w) A (call (.type "list") [.ref I]) Q E s := by
  refine callType_codes (Q₁ := λx s2 => x = .ref s.heap.objs.size /\ s2 = { s with heap := s.heap.push { cls := .type "list", data := .seq #[] } }) F.called_list (F.typeCall_list_1 _) F.entry_list_init (code_list_new _ ⟨rfl, rfl⟩) λx s2 hx => ?_
  obtain ⟨rfl, rfl⟩ := hx;have up : ∀ b o, s.heap.get? b = some o → (s.heap.push { cls := .type "list", data := .seq #[] }).get? b = some o := λb o e => Heap.get?_push_of_some _ e
  have hS : (s.heap.push { cls := .type "list", data := .seq #[] }).get? s.heap.objs.size = some { cls := .type "list", data := .seq #[] } := Heap.get?_push_size _ rfl
  have lI : I ≠ s.heap.objs.size := by
    obtain ⟨o, ho, _⟩ := hit;exact bA (Heap.lt_size ho)
  have lL : l ≠ s.heap.objs.size := by
    obtain ⟨o, ho, _⟩ := hl;exact bA (Heap.lt_size ho)
  refine ⟨⟨_, hS, rfl⟩, F.args_list_init_2 _ _, ?_⟩;show wpAny _ A.in1.in1 (do let old <- Builtin.List.listItems (.ref s.heap.objs.size); Builtin.List.listUpdate (.ref s.heap.objs.size) (λ_ => #[]); letGo old.toList.reverse; Builtin.List.listExtendWith (.ref s.heap.objs.size) (.ref I) .none) _ _ _
  refine wpAny_bind ?_;unfold Builtin.List.listItems;refine wpAny_bind (wpAny_seqItems hS rfl (wpAny_pure ?_));refine wpAny_bind (m := Builtin.List.listUpdate (.ref s.heap.objs.size) (λ_ => #[])) (wpAny_updateSeq hS rfl ?_);have h3 := Heap.get?_update_self (Obj.mapSeq (λ_ => (#[] : Array Value))) hS rfl;have o3 : ∀ b o, b ≠ s.heap.objs.size → (s.heap.push { cls := .type "list", data := .seq #[] }).get? b = some o → ((s.heap.push { cls := .type "list", data := .seq #[] }).update s.heap.objs.size (Obj.mapSeq (λ_ => (#[] : Array Value)))).get? b = some o := λb o nb e => (Heap.get?_update_other _ _ (Ne.symm nb)).trans e
  refine wpAny_bind (wpAny_letGo ?_);refine A0 (A := A.in1) hh (hit.at λo e => o3 _ _ lI (up _ _ e)) (hl.at λo e => o3 _ _ lL (up _ _ e)) nI lI.symm lL.symm hn h3 λh' tk acc c hk h2 hi => ?_
  exact ⟨rfl, hQ h' tk acc c (λb o nb e => hk b o (bA (Heap.lt_size e)) nb (o3 _ _ (bA (Heap.lt_size e)) (up _ _ e))) h2 hi⟩
end
section
variable {X:Cx}
def vC (K:FG9) (ta:TA):TE:=λσ H Q=>ta σ H λvs H1=>∃l xs,vs=[.ref l]/\b6 K H1 l xs/\xs.length<=1000/\∀L H',aF H1 H'->H1 L=none->H' L=some (.lst xs.reverse)->Q (.ref L) H'
theorem vz:∀{xs:List V} {us:List Value},b7 xs us->b7 xs.reverse us.reverse
 | _,_,.nil=>.nil
 | _,_,.cons h r=>by
  rw[ig,ig];exact b7.append (vz r) (.cons h .nil)
theorem xf (K:FG9) {e1:Expr} {ta:TA} {p p2 pos pos2:Pos} (hg:Gl X "list") (hm:X.mg "list"=none) (hg2:Gl X "reversed") (hm2:X.mg "reversed"=none) (ha:PA X [e1] ta) (hK:X.K=K:=by rfl) (hc:X.calm=true:=by rfl)
  (hs:starEach [e1] X.env=[(false,eval e1 X.env)]:=by rfl)
  (hs3:starEach [Expr.Call (.Name "reversed" p2) [e1] [] pos2] X.env=[(false,eval (.Call (.Name "reversed" p2) [e1] [] pos2) X.env)]:=by rfl) :
  PE X (.Call (.Name "list" p) [.Call (.Name "reversed" p2) [e1] [] pos2] [] pos) (vC K ta):=by
 subst hK;intro pins s σ H Q I h;refine wpAny_Call_Name_kw (j8 I hg hm boot_list ?_);refine PyProof.Rows.callWith_type1 ?_ (by rw[hs3];rfl) rfl;rw[hs3];show wpAny _ _ (spliced ((false,eval (.Call (.Name "reversed" p2) [e1] [] pos2) X.env) :: [])) _ _ s
 refine Calls.spliced_cons ?_;refine Call_ (j8 I hg2 hm2 boot_reversed (PyProof.Rows.callWith_type1 (d7 (ha pos2 pins s σ H _ I h) λus s1 ⟨vs,H1,I1,r1,q1⟩=>?_) hs rfl));obtain ⟨l,xs,e,hl,hn,q⟩:=q1;subst e;obtain ⟨u,rfl,ru⟩:=vals1 r1;cases ru;obtain ⟨its,rv,pl,hz⟩:=I1.list hl;have hlen:=rv.length;have pI:=pl.isList;refine call_reversed_list pI ?_;refine Calls.spliced_nil ?_;have kp:∀b o,s1.heap.get? b=some o->(s1.heap.push (revObj l ((its.toArray.size:Int) - 1))).get? b=some o:=λb o e=>Heap.get?_push_of_some _ e
 have nI:l≠s1.heap.objs.size:=by
  obtain ⟨o,ho,_⟩:=pI;exact bA (Heap.lt_size ho)
 refine AY (I.ok.hd hc) (I:=s1.heap.objs.size) (l:=l) (items:=its.toArray) ⟨_,Heap.get?_push_size _ rfl,rfl,rfl⟩ (pI.at λo e=>kp _ _ e) nI (by rw[aB];lia) λh' tk acc c hk hS hacc=>?_
 have sz:s1.heap.objs.size<=(s1.heap.push (revObj l ((its.toArray.size:Int) - 1))).objs.size:=by rw[Heap.size_push];exact pZ _
 have nS:=I1.hok.fresh sz
 have ea:acc.toList=its.reverse:=by
  apply yy;intro j;rcases Nat.lt_or_ge j its.length with z | z
  ·have hj:j < acc.toList.length:=by rw[Array.length_toList,hacc.1,aB];exact z
   have:=hacc.2 j acc.toList[j] (by rw[<- Array.getElem?_toList];exact ak hj);rw[ak hj,List.getElem?_reverse z];simpa using this.symm
  ·rw[cI (by rw[Array.length_toList,hacc.1,aB];exact z),cI (by rw[nQ];exact z)]
 have vs':b7 xs.reverse acc.toList:=by rw[ea];exact vz rv
 have sl:xs.reverse.length<=sizeLine:=by rw[nQ];exact hz
 refine ⟨.ref _,_,I1.laid (o:=.lst xs.reverse) (λb o e=>hk b o (bA (Heap.lt_size e)) (kp b o e)) sz ?_,rfl,q _ _ (aF.new nS) nS aE⟩;exact ⟨sl,acc.toList,c,vs',by simpa using hS⟩
end
section
variable {X:Cx}
end
theorem z8 (ws vs:List V) (M1 M2 M3:Nat):∃μ:V->Nat,(∀x∈ws,μ x=M2)/\(∀x∈vs,x∉ws->μ x=M3)/\(∀x,x∉ws->x∉vs->μ x=M1)/\∀x,μ x=M1\/μ x=M2\/μ x=M3:=by
 classical
 refine ⟨λx=>if x∈ws then M2 else if x∈vs then M3 else M1,λx h=>if_pos h,λx h h'=>?_,λx h h'=>?_,λx=>?_⟩
 ·show (if x∈ws then M2 else if x∈vs then M3 else M1)=M3
  rw[if_neg h',if_pos h]
 ·show (if x∈ws then M2 else if x∈vs then M3 else M1)=M1
  rw[if_neg h,if_neg h']
 ·show (if x∈ws then M2 else if x∈vs then M3 else M1)=M1\/(if x∈ws then M2 else if x∈vs then M3 else M1)=M2\/(if x∈ws then M2 else if x∈vs then M3 else M1)=M3
  by_cases h:x∈ws
  ·rw[if_pos h];exact .inr (.inl rfl)
  ·rw[if_neg h];by_cases h':x∈vs
   ·rw[if_pos h'];exact .inr (.inr rfl)
   ·rw[if_neg h'];exact .inl rfl
theorem ik.apart {K:FG9} {A:Addr->Prop} {H:Hp} {n:Nat} {C:V->Rat->Prop} {m p l b q0:Addr} {us ws vs:List V} (h:ik K A H n C m p l b q0 us ws vs):(∀x∈us,x∉ws/\x∉vs)/\∀x∈vs,x∉ws:=by
 obtain ⟨n1,n2,n3⟩:=cH.mp h.nd;obtain ⟨n4,n5,n6⟩:=cH.mp n1;exact ⟨λx hx=>⟨λz=>n3 x (aL.mpr (.inl hx)) x z rfl,λz=>n6 x hx x z rfl⟩,λx hx z=>n3 x (aL.mpr (.inr hx)) x z rfl⟩
theorem ik.fr3 {K:FG9} {A:Addr->Prop} {H:Hp} {n c:Nat} {m p l b q0:Addr} {us ws vs:List V} (h:ik K A H n (λ_=>Dr (2^c)) m p l b q0 us ws vs):∃M1 M2 M3,0 < M1/\0 < M2/\0 < M3/\M1<=2^(c*(n*n))/\M2<=2^(c*(ws.length*n))/\M3<=2^(c*(vs.length*n))/\(∀x∈us,d8 K A H n (Fr M1 (2^c)) x)/\(∀x∈ws,d8 K A H n (Fr M2 (2^c)) x)/\∀x∈vs,d8 K A H n (Fr M3 (2^c)) x:=by
 have one:∀l:List V,(∀x∈l,x∈us++vs++ws)->∃M,0 < M/\M<=2^(c*(l.length*n))/\∀x∈l,d8 K A H n (Fr M (2^c)) x:=λl hl=>by
  obtain ⟨ra,pa,la,ha⟩:=rW λx hx=>h.row x (hl x hx)
  obtain ⟨M,m0,m1,m2⟩:=xV (c:=c) (n:=n) (rows:=ra) ha;exact ⟨M,m0,by rw[la] at m1;exact m1,xc pa λqs hq=>⟨(ha qs hq).1,m2 qs hq⟩⟩
 obtain ⟨M1,a1,a2,a3⟩:=one us λx hx=>by simp [hx]
 obtain ⟨M2,b1,b2,b3⟩:=one ws λx hx=>by simp [hx]
 obtain ⟨M3,c1,c2,c3⟩:=one vs λx hx=>by simp [hx]
 rw[h.lm] at a2;exact ⟨M1,M2,M3,a1,b1,c1,a2,b2,c2,a3,b3,c3⟩
inductive tJ (K:FG9) (xs:List V) (H:Hp) (Q:VK) (E9:XK):Prop
 | mk (b m p l q0:Addr) (n V1:Nat) (μ:V->Nat) (A:Addr->Prop) (us ws vs:List V):xs=[.ref b,.ref m,.ref p,.ref l]->xD A m p l b q0->ik K A H n (λx=>Fr (μ x) V1) m p l b q0 us ws vs->n<=8->ws.length<=4->vs.length<=4->(∀x,0 < μ x)->(∀x,μ x<=2^800)->(∃M,∀x,x∉ws->x∉vs->μ x=M)->V1<=2^20->(∀q,H q=none->A q)->(∀r us' H',H' r=some (.tup [.ref m,.ref p,.ref l])->ik K A H' n (λx=>Fr (μ x) (9^3*V1)) m p l b q0 us' ws vs->fA A b m H H'->Q (.ref r) H')->tJ K xs H Q E9
def FW (n i o w c:Nat) (mv pt lk:LR9):Prop:=∃M1 M2 M3 V1:Nat,0 < M1/\0 < M2/\0 < M3/\GF M1 V1 mv/\GF M2 V1 pt/\GF M3 V1 lk/\((w<=9/\M1=2520/\M2=2520/\M3=2520/\V1=9^3*9)\/(9 < w/\M1<=2^(c*(n*n))/\M2<=2^(c*(i*n))/\M3<=2^(c*(o*n))/\V1=9^3*2^c))
inductive tI (K:FG9) (vs:List V) (H:Hp) (Q:VK) (E9:XK):Prop
 | mk (b:Addr) (n i o w c:Nat):vs=[.ref b,.int n,.int i,.int o,.int w]->il H b->n<=8->i<=4->o<=4->1<=w->w<=1000000->max w 6<=2^c->c<=20->c*((n+i+o)*n)<=800->(∀r mv pt lk H',nF K H H' r mv pt lk->mv.length=n->pt.length=i->lk.length=o->vn mv pt lk->FW n i o w c mv pt lk->il H' b->cy b H H'->Q (.ref r) H')->tI K vs H Q E9
theorem xn {M V:Nat} {l:LR9} (h:GF M V l) (k:Nat):GF (k*M) V l:=λxs hx x hx'=>(h xs hx x hx').scaleL k
theorem FW.n {n i o w c:Nat} {mv pt lk:LR9} (h:FW n i o w c mv pt lk):PtF n i o w c mv pt lk:=by
 obtain ⟨M1,M2,M3,V1,a1,a2,a3,f1,f2,f3,hc⟩:=h;rcases hc with ⟨w9,rfl,rfl,rfl,e⟩ | ⟨w9,e1,e2,e3,e⟩
 ·exact ⟨2520,V1,by decide,f1,f2,f3,.inl ⟨w9,rfl,e⟩⟩
 ·refine ⟨M1*M2*M3,V1,kb (kb a1 a2) a3,?_,?_,?_,.inr ⟨w9,?_,e⟩⟩
  ·have:=xn f1 (M2*M3);rwa [show M2*M3*M1=M1*M2*M3 by rw[eP (M2*M3),dO]] at this
  ·have:=xn f2 (M1*M3);rwa [show M1*M3*M2=M1*M2*M3 by rw[dO,eP M3,dO]] at this
  ·exact xn f3 (M1*M2)
  ·refine ar (bB (bB e1 e2) e3) ?_;rw[<- cG,<- cG,show c*((n+i+o)*n)=c*(n*n)+c*(i*n)+c*(o*n) by rw[Nat.add_mul,Nat.add_mul,Nat.mul_add,Nat.mul_add]];exact ay _
open PySem.MeetsSeq
section
variable {K:FG9} {g:TG} {tf:TT} {te:TE} {Q:VK} {σ₀:St} {H:Hp}
theorem xu {n:Nat} (f:Nat->List Rat) (hl:n<=1000)
  (hs:∀(i:Nat) H' NY NN,i < n->aF H H'->(∀q H2,aF H' H2->H' q=none->d4 K H2 q (f i)->NY (.ref q) H2)->mN σ₀ g tf te (.int i) H' NY NN)
  (hd:∀ys H' p,H p=none->aF H H'->H' p=some (.lst ys)->ys.Nodup->Paired (cN K H H') ((List.range n).map f) ys->V.ref p∉ys->Q (.ref p) H'):mT (wI 0 n) σ₀ g tf te Q H:=by
 refine iG (λi ys H'=>aF H H'/\Paired (cN K H H') ((List.range i).map f) ys/\ys.Nodup/\∀y∈ys,∃q,y=V.ref q/\H' q≠none) (bI (bT (by lia))) ⟨aF.refl _,.nil,oF,(λ_ h=>nomatch h)⟩ ?_ ?_
 ·rintro i ys H' hi hlen ⟨s,pr,nd,ne⟩;rw[rE];refine hs i H' _ _ hi s λq H2 s2 nq R=>⟨s.trans s2,?_,?_,λy hy=>?_⟩
  ·rw[sV,jP];exact cP (Paired.imp' (λ_ _ z=>cN.same z s2) pr) (.cons ⟨q,rfl,s.none nq,R⟩ .nil)
  ·refine cH.mpr ⟨nd,by simp,λa ha b hb z=>?_⟩;rw[dR.mp hb] at z;obtain ⟨q',e,h⟩:=ne a ha;rw[z] at e;cases e;exact h nq
  ·rcases aL.mp hy with hy | hy
   ·obtain ⟨q',e,h⟩:=ne y hy;exact ⟨q',e,λz=>h (s2.none z)⟩
   ·obtain ⟨_,gg,_⟩:=R;exact ⟨q,dR.mp hy,by rw[gg];exact λz=>nomatch z⟩
 ·rintro ys H' hy ⟨s,pr,nd,ne⟩ p hp;refine hd ys _ p (s.none hp) (s.trans (aF.new hp)) aE nd (Paired.imp' (λ_ _ z=>cN.same z (aF.new hp)) pr) λz=>?_
  obtain ⟨q,e,h⟩:=ne _ z;cases e;exact h hp
end
section
variable {rows ends:LR9} {row due:List Rat} {n:Nat}
theorem mul_pow {a b c d:Nat} (h:a<=2^c) (h':b<=2^d):a*b<=2^(c+d):=by
 rw[cG];exact bB h h'
end
def cQ (a b:List Int):Int:=(List.zipWith (·*·) a b).sum
def hJ (ls:List (List Int)) (v:List Int):List Int:=ls.map λl=>cQ l v
def bN (b:Int):Nat->List Int->List Int
 | _,[]=>[]
 | 0,v :: r=>(v+b) :: r
 | p+1,v :: r=>v :: bN b p r
def bM (b:Int):Nat->List (List Int)->List (List Int)
 | _,[]=>[]
 | p,l :: r=>bN b p l :: bM b (p+1) r
def dH:Nat->List (List Int)->Int
 | _,[]=>0
 | p,l :: r=>l.getD p 0+dH (p+1) r
def bQ (T:List (List Int)) (n:Nat):Nat->List (List Int)×Int
 | 0=>(List.replicate n (List.replicate n 0),1)
 | k+1=>((bM (bQ T n k).2 0 (bQ T n k).1).map (hJ T),(-(dH 0 ((bM (bQ T n k).2 0 (bQ T n k).1).map (hJ T)))).fdiv (k+1))
theorem aT {T C C':List (List Int)} {n k:Nat} {l l':Int} (h:bQ T n k=(C,l)) (hC:(bM l 0 C).map (hJ T)=C') (ht:-(dH 0 C')=((k+1:Nat):Int)*l'):bQ T n (k+1)=(C',l'):=by
 have e:bQ T n (k+1)=((bM (bQ T n k).2 0 (bQ T n k).1).map (hJ T),(-(dH 0 ((bM (bQ T n k).2 0 (bQ T n k).1).map (hJ T)))).fdiv (k+1)):=rfl;rw[e,h]
 dsimp only
 rw[hC,ht];have:((k+1:Nat):Int)*l'=((k:Int)+1)*l':=by push_cast;rfl
 rw[this,Int.mul_fdiv_cancel_left _ (by lia)]
theorem br {α:Type} {a b:α} {s t:List α} (h:a=b) (h':s=t):a :: s=b :: t:=by rw[h,h']
theorem Di (a:Int):bQ [[a]] 1 1=([[a]],-((a))):=by
 refine aT (C:=List.replicate 1 (List.replicate 1 0)) (l:=1) rfl ?_ ?_
 ·simp only[bM,bN,hJ,cQ,List.map,List.zipWith,ax,aA,List.replicate]
  (repeat' apply br) <;> grind
 ·simp only[dH,af,ag];grind
theorem Dh (a b c d:Int):bQ [[a,b],[c,d]] 2 1=([[-((d)) - (-((a)+(d))),-(-(c))],[-(-(b)),-((a)) - (-((a)+(d)))]],-((a)+(d))):=by
 refine aT (C:=List.replicate 2 (List.replicate 2 0)) (l:=1) rfl ?_ ?_
 ·simp only[bM,bN,hJ,cQ,List.map,List.zipWith,ax,aA,List.replicate]
  (repeat' apply br) <;> grind
 ·simp only[dH,af,ag];grind
theorem Dg (a b c d:Int):bQ [[a,b],[c,d]] 2 2=([[-(((a*(d) - b*(c)))),0],[0,-(((a*(d) - b*(c))))]],((a*(d) - b*(c)))):=by
 refine aT (Dh a b c d) ?_ ?_
 ·simp only[bM,bN,hJ,cQ,List.map,List.zipWith,ax,aA,List.replicate]
  (repeat' apply br) <;> grind
 ·simp only[dH,af,ag];grind
theorem Df (a b c d e f g h i:Int):bQ [[a,b,c],[d,e,f],[g,h,i]] 3 1=([[a,d,g],[b,e,h],[c,f,i]],-((a)+(e)+(i))):=by
 refine aT (C:=List.replicate 3 (List.replicate 3 0)) (l:=1) rfl ?_ ?_
 ·simp only[bM,bN,hJ,cQ,List.map,List.zipWith,ax,aA,List.replicate]
  (repeat' apply br) <;> grind
 ·simp only[dH,af,ag];grind
theorem De (a b c d e f g h i:Int):bQ [[a,b,c],[d,e,f],[g,h,i]] 3 2=([[((e*(i) - f*(h))) - (((a*(e) - b*(d))+(a*(i) - c*(g))+(e*(i) - f*(h)))),(-(d*(i) - f*(g))),((d*(h) - e*(g)))],[(-(b*(i) - c*(h))),((a*(i) - c*(g))) - (((a*(e) - b*(d))+(a*(i) - c*(g))+(e*(i) - f*(h)))),(-(a*(h) - b*(g)))],[((b*(f) - c*(e))),(-(a*(f) - c*(d))),((a*(e) - b*(d))) - (((a*(e) - b*(d))+(a*(i) - c*(g))+(e*(i) - f*(h))))]],((a*(e) - b*(d))+(a*(i) - c*(g))+(e*(i) - f*(h)))):=by
 refine aT (Df a b c d e f g h i) ?_ ?_
 ·simp only[bM,bN,hJ,cQ,List.map,List.zipWith,ax,aA,List.replicate]
  (repeat' apply br) <;> grind
 ·simp only[dH,af,ag];grind
theorem C9 (a b c d e f g h i:Int):bQ [[a,b,c],[d,e,f],[g,h,i]] 3 3=([[-(-((a*(e*(i) - f*(h)) - b*(d*(i) - f*(g))+c*(d*(h) - e*(g))))),0,0],[0,-(-((a*(e*(i) - f*(h)) - b*(d*(i) - f*(g))+c*(d*(h) - e*(g))))),0],[0,0,-(-((a*(e*(i) - f*(h)) - b*(d*(i) - f*(g))+c*(d*(h) - e*(g)))))]],-((a*(e*(i) - f*(h)) - b*(d*(i) - f*(g))+c*(d*(h) - e*(g))))):=by
 refine aT (De a b c d e f g h i) ?_ ?_
 ·simp only[bM,bN,hJ,cQ,List.map,List.zipWith,ax,aA,List.replicate]
  (repeat' apply br) <;> grind
 ·simp only[dH,af,ag];grind
theorem C8 (a b c d e f g h i j k l m n o p:Int):bQ [[a,b,c,d],[e,f,g,h],[i,j,k,l],[m,n,o,p]] 4 1=([[a,e,i,m],[b,f,j,n],[c,g,k,o],[d,h,l,p]],-((a)+(f)+(k)+(p))):=by
 refine aT (C:=List.replicate 4 (List.replicate 4 0)) (l:=1) rfl ?_ ?_
 ·simp only[bM,bN,hJ,cQ,List.map,List.zipWith,ax,aA,List.replicate]
  (repeat' apply br) <;> grind
 ·simp only[dH,af,ag];grind
theorem C7 (a b c d e f g h i j k l m n o p:Int):bQ [[a,b,c,d],[e,f,g,h],[i,j,k,l],[m,n,o,p]] 4 2=([[a*(a+(-((a)+(f)+(k)+(p))))+b*(e)+c*(i)+d*(m),e*(a+(-((a)+(f)+(k)+(p))))+f*(e)+g*(i)+h*(m),i*(a+(-((a)+(f)+(k)+(p))))+j*(e)+k*(i)+l*(m),m*(a+(-((a)+(f)+(k)+(p))))+n*(e)+o*(i)+p*(m)],[a*(b)+b*(f+(-((a)+(f)+(k)+(p))))+c*(j)+d*(n),e*(b)+f*(f+(-((a)+(f)+(k)+(p))))+g*(j)+h*(n),i*(b)+j*(f+(-((a)+(f)+(k)+(p))))+k*(j)+l*(n),m*(b)+n*(f+(-((a)+(f)+(k)+(p))))+o*(j)+p*(n)],[a*(c)+b*(g)+c*(k+(-((a)+(f)+(k)+(p))))+d*(o),e*(c)+f*(g)+g*(k+(-((a)+(f)+(k)+(p))))+h*(o),i*(c)+j*(g)+k*(k+(-((a)+(f)+(k)+(p))))+l*(o),m*(c)+n*(g)+o*(k+(-((a)+(f)+(k)+(p))))+p*(o)],[a*(d)+b*(h)+c*(l)+d*(p+(-((a)+(f)+(k)+(p)))),e*(d)+f*(h)+g*(l)+h*(p+(-((a)+(f)+(k)+(p)))),i*(d)+j*(h)+k*(l)+l*(p+(-((a)+(f)+(k)+(p)))),m*(d)+n*(h)+o*(l)+p*(p+(-((a)+(f)+(k)+(p))))]],((a*(f) - b*(e))+(a*(k) - c*(i))+(a*(p) - d*(m))+(f*(k) - g*(j))+(f*(p) - h*(n))+(k*(p) - l*(o)))):=by
 refine aT (C8 a b c d e f g h i j k l m n o p) ?_ ?_
 ·simp only[bM,bN,hJ,cQ,List.map,List.zipWith,ax,aA,List.replicate]
  (repeat' apply br) <;> grind
 ·simp only[dH,af,ag];grind
theorem C6 (a b c d e f g h i j k l m n o p:Int):bQ [[a,b,c,d],[e,f,g,h],[i,j,k,l],[m,n,o,p]] 4 3=([[-((f*(k*(p) - l*(o)) - g*(j*(p) - l*(n))+h*(j*(o) - k*(n)))) - (-((a*(f*(k) - g*(j)) - b*(e*(k) - g*(i))+c*(e*(j) - f*(i)))+(a*(f*(p) - h*(n)) - b*(e*(p) - h*(m))+d*(e*(n) - f*(m)))+(a*(k*(p) - l*(o)) - c*(i*(p) - l*(m))+d*(i*(o) - k*(m)))+(f*(k*(p) - l*(o)) - g*(j*(p) - l*(n))+h*(j*(o) - k*(n))))),-(-(e*(k*(p) - l*(o)) - g*(i*(p) - l*(m))+h*(i*(o) - k*(m)))),-((e*(j*(p) - l*(n)) - f*(i*(p) - l*(m))+h*(i*(n) - j*(m)))),-(-(e*(j*(o) - k*(n)) - f*(i*(o) - k*(m))+g*(i*(n) - j*(m))))],[-(-(b*(k*(p) - l*(o)) - c*(j*(p) - l*(n))+d*(j*(o) - k*(n)))),-((a*(k*(p) - l*(o)) - c*(i*(p) - l*(m))+d*(i*(o) - k*(m)))) - (-((a*(f*(k) - g*(j)) - b*(e*(k) - g*(i))+c*(e*(j) - f*(i)))+(a*(f*(p) - h*(n)) - b*(e*(p) - h*(m))+d*(e*(n) - f*(m)))+(a*(k*(p) - l*(o)) - c*(i*(p) - l*(m))+d*(i*(o) - k*(m)))+(f*(k*(p) - l*(o)) - g*(j*(p) - l*(n))+h*(j*(o) - k*(n))))),-(-(a*(j*(p) - l*(n)) - b*(i*(p) - l*(m))+d*(i*(n) - j*(m)))),-((a*(j*(o) - k*(n)) - b*(i*(o) - k*(m))+c*(i*(n) - j*(m))))],[-((b*(g*(p) - h*(o)) - c*(f*(p) - h*(n))+d*(f*(o) - g*(n)))),-(-(a*(g*(p) - h*(o)) - c*(e*(p) - h*(m))+d*(e*(o) - g*(m)))),-((a*(f*(p) - h*(n)) - b*(e*(p) - h*(m))+d*(e*(n) - f*(m)))) - (-((a*(f*(k) - g*(j)) - b*(e*(k) - g*(i))+c*(e*(j) - f*(i)))+(a*(f*(p) - h*(n)) - b*(e*(p) - h*(m))+d*(e*(n) - f*(m)))+(a*(k*(p) - l*(o)) - c*(i*(p) - l*(m))+d*(i*(o) - k*(m)))+(f*(k*(p) - l*(o)) - g*(j*(p) - l*(n))+h*(j*(o) - k*(n))))),-(-(a*(f*(o) - g*(n)) - b*(e*(o) - g*(m))+c*(e*(n) - f*(m))))],[-(-(b*(g*(l) - h*(k)) - c*(f*(l) - h*(j))+d*(f*(k) - g*(j)))),-((a*(g*(l) - h*(k)) - c*(e*(l) - h*(i))+d*(e*(k) - g*(i)))),-(-(a*(f*(l) - h*(j)) - b*(e*(l) - h*(i))+d*(e*(j) - f*(i)))),-((a*(f*(k) - g*(j)) - b*(e*(k) - g*(i))+c*(e*(j) - f*(i)))) - (-((a*(f*(k) - g*(j)) - b*(e*(k) - g*(i))+c*(e*(j) - f*(i)))+(a*(f*(p) - h*(n)) - b*(e*(p) - h*(m))+d*(e*(n) - f*(m)))+(a*(k*(p) - l*(o)) - c*(i*(p) - l*(m))+d*(i*(o) - k*(m)))+(f*(k*(p) - l*(o)) - g*(j*(p) - l*(n))+h*(j*(o) - k*(n)))))]],-((a*(f*(k) - g*(j)) - b*(e*(k) - g*(i))+c*(e*(j) - f*(i)))+(a*(f*(p) - h*(n)) - b*(e*(p) - h*(m))+d*(e*(n) - f*(m)))+(a*(k*(p) - l*(o)) - c*(i*(p) - l*(m))+d*(i*(o) - k*(m)))+(f*(k*(p) - l*(o)) - g*(j*(p) - l*(n))+h*(j*(o) - k*(n))))):=by
 refine aT (C7 a b c d e f g h i j k l m n o p) ?_ ?_
 ·simp only[bM,bN,hJ,cQ,List.map,List.zipWith,ax,aA,List.replicate]
  (repeat' apply br) <;> grind
 ·simp only[dH,af,ag];grind
theorem C5 (a b c d e f g h i j k l m n o p:Int):bQ [[a,b,c,d],[e,f,g,h],[i,j,k,l],[m,n,o,p]] 4 4=([[-(((a*(f*(k*(p) - l*(o)) - g*(j*(p) - l*(n))+h*(j*(o) - k*(n))) - b*(e*(k*(p) - l*(o)) - g*(i*(p) - l*(m))+h*(i*(o) - k*(m)))+c*(e*(j*(p) - l*(n)) - f*(i*(p) - l*(m))+h*(i*(n) - j*(m))) - d*(e*(j*(o) - k*(n)) - f*(i*(o) - k*(m))+g*(i*(n) - j*(m)))))),0,0,0],[0,-(((a*(f*(k*(p) - l*(o)) - g*(j*(p) - l*(n))+h*(j*(o) - k*(n))) - b*(e*(k*(p) - l*(o)) - g*(i*(p) - l*(m))+h*(i*(o) - k*(m)))+c*(e*(j*(p) - l*(n)) - f*(i*(p) - l*(m))+h*(i*(n) - j*(m))) - d*(e*(j*(o) - k*(n)) - f*(i*(o) - k*(m))+g*(i*(n) - j*(m)))))),0,0],[0,0,-(((a*(f*(k*(p) - l*(o)) - g*(j*(p) - l*(n))+h*(j*(o) - k*(n))) - b*(e*(k*(p) - l*(o)) - g*(i*(p) - l*(m))+h*(i*(o) - k*(m)))+c*(e*(j*(p) - l*(n)) - f*(i*(p) - l*(m))+h*(i*(n) - j*(m))) - d*(e*(j*(o) - k*(n)) - f*(i*(o) - k*(m))+g*(i*(n) - j*(m)))))),0],[0,0,0,-(((a*(f*(k*(p) - l*(o)) - g*(j*(p) - l*(n))+h*(j*(o) - k*(n))) - b*(e*(k*(p) - l*(o)) - g*(i*(p) - l*(m))+h*(i*(o) - k*(m)))+c*(e*(j*(p) - l*(n)) - f*(i*(p) - l*(m))+h*(i*(n) - j*(m))) - d*(e*(j*(o) - k*(n)) - f*(i*(o) - k*(m))+g*(i*(n) - j*(m))))))]],((a*(f*(k*(p) - l*(o)) - g*(j*(p) - l*(n))+h*(j*(o) - k*(n))) - b*(e*(k*(p) - l*(o)) - g*(i*(p) - l*(m))+h*(i*(o) - k*(m)))+c*(e*(j*(p) - l*(n)) - f*(i*(p) - l*(m))+h*(i*(n) - j*(m))) - d*(e*(j*(o) - k*(n)) - f*(i*(o) - k*(m))+g*(i*(n) - j*(m)))))):=by
 refine aT (C6 a b c d e f g h i j k l m n o p) ?_ ?_
 ·simp only[bM,bN,hJ,cQ,List.map,List.zipWith,ax,aA,List.replicate]
  (repeat' apply br) <;> grind
 ·simp only[dH,af,ag];grind
section
variable {T:List (List Int)} {n:Nat}
theorem lN {b : Int} : ∀ {p : Nat} {l : List Int}, (bN b p l).length = l.length
  | _, [] => by cases ‹Nat› <;> rfl
  | 0, _ :: _ => rfl
  | p + 1, _ :: r => congrArg (· + 1) (lN (p := p) (l := r))
theorem oU {b:Int}:∀{p:Nat} {l:List Int} {i:Nat},i < l.length->(bN b p l).getD i 0=l.getD i 0+if i=p then b else 0
 | 0,v :: r,0,_=>by show v+b=v+_;rw[if_pos rfl]
 | 0,v :: r,i+1,_=>by show r.getD i 0=r.getD i 0+_;rw[if_neg (by lia),Int.add_zero]
 | p+1,v :: r,0,_=>by show v=v+_;rw[if_neg (by lia),Int.add_zero]
 | p+1,v :: r,i+1,h=>by
  show (bN b p r).getD i 0=r.getD i 0+_
  rw[oU (p:=p) (l:=r) (i:=i) (by simpa using h)];by_cases e:i=p
  ·rw[if_pos e,if_pos (by lia)]
  ·rw[if_neg e,if_neg (by lia)]
theorem gJ {b : Int} : ∀ {p : Nat} {l : List (List Int)}, (bM b p l).length = l.length
  | _, [] => rfl
  | p, _ :: r => congrArg (· + 1) (gJ (p := p + 1) (l := r))
theorem pG {b:Int}:∀{p:Nat} {l:List (List Int)} {j:Nat},(bM b p l)[j]?=(l[j]?).map (bN b (p+j))
 | _,[],_=>rfl
 | p,_ :: _,0=>rfl
 | p,_ :: r,j+1=>by
  show (bM b (p+1) r)[j]?=(r[j]?).map _
  rw[pG (p:=p+1) (l:=r) (j:=j),show p+1+j=p+(j+1) by lia]
theorem xK:∀{p:Nat} {l:List (List Int)},dH p l=((l.zipIdx p).map λx=>x.1.getD x.2 0).sum
 | _,[]=>rfl
 | p,x :: r=>by
  show x.getD p 0+dH (p+1) r=_
  rw[xK (p:=p+1) (l:=r)];rfl
theorem zd {a b:List Int} (ha:a.length=n) (hb:b.length=n):((cQ a b:Int):Rat)=aY n λl=>((a.getD l 0:Int):Rat)*((b.getD l 0:Int):Rat):=by
 have key:∀{a b:List Int},a.length=b.length->((cQ a b:Int):Rat)=ma (a.map λ(x:Int)=>(x:Rat)) (b.map λ(x:Int)=>(x:Rat)):=by
  intro a
  induction a with
  | nil=>intro b _;rfl
  | cons x a ih =>
   intro b h;cases b with
   | nil=>exact absurd h (by simp)
   | cons y b =>
    show ((x*y+cQ a b:Int):Rat)=(x:Rat)*(y:Rat)+ma _ _
    rw[jN,aH,ih (by simpa using h)]
 rw[key (by rw[ha,hb]),pL (by rw[aj,aj,ha,hb]),aj,ha];refine bh λl _=>?_
 have g:∀c:List Int,(c.map λ(x:Int)=>(x:Rat)).getD l 0=((c.getD l 0:Int):Rat):=λc=>by
  rw[ae,aD,ae];cases c[l]? with
  | none=>rfl
  | some y=>rfl
 rw[g,g]
theorem oK {B:Rat} (h:B≠0):∀k:Nat,B^k≠0
 | 0=>by rw[Rat.pow_zero];decide
 | k+1=>λz=>by
  rw[Rat.pow_succ] at z;rcases Rat.mul_eq_zero.mp z with z | z
  ·exact oK h k z
  ·exact h z
theorem jg (hT:T.length=n):∀k,(bQ T n k).1.length=n/\∀l∈(bQ T n k).1,l.length=n
 | 0=>⟨gT,λl hl=>by rw[jA hl];exact gT⟩
 | k+1=>by
  refine ⟨?_,λl hl=>?_⟩
  ·show (List.map _ (bM _ 0 _)).length=n
   rw[aj,gJ];exact (jg hT k).1
  ·obtain ⟨c,_,rfl⟩:=aG.mp (show l∈List.map _ (bM _ 0 _) from hl);show (List.map _ T).length=n
   rw[aj,hT]
def zj (T:List (List Int)) (n:Nat) (B:Rat) (k i j:Nat):Rat:=(((((bQ T n k).1.getD j []).getD i 0:Int)):Rat) / B^k
def wL (T:List (List Int)) (n:Nat) (B:Rat) (k:Nat):Rat:=((bQ T n k).2:Rat) / B^k
theorem wt {B:Rat} (hB:B≠0) (hT:T.length=n) (hw:∀l∈T,l.length=n) {k i j:Nat} (hi:i < n) (hj:j < n):zj T n B (k+1) i j=aY n λl=>(((T.getD i []).getD l 0:Int):Rat) / B*(zj T n B k l j+if l=j then wL T n B k else 0):=by
 obtain ⟨l1,l2⟩:=jg hT k;have ej:=ak (show j < (bQ T n k).1.length by lia);have ei:=ak (show i < T.length by lia);have lj:=l2 _ (bC (show j < (bQ T n k).1.length by lia))
 have e1:(bQ T n (k+1)).1.getD j []=hJ T (bN (bQ T n k).2 j ((bQ T n k).1.getD j [])):=by
  show (List.map (hJ T) (bM (bQ T n k).2 0 (bQ T n k).1)).getD j []=_
  rw[ae,aD,pG,ej,ae,ej,oh];rfl
 have e2:(hJ T (bN (bQ T n k).2 j ((bQ T n k).1.getD j []))).getD i 0=cQ (T.getD i []) (bN (bQ T n k).2 j ((bQ T n k).1.getD j [])):=by
  unfold hJ;rw[ae (l:=List.map _ T),aD,ei,ae (l:=T),ei];rfl
 have gj:(bQ T n k).1.getD j []=(bQ T n k).1[j]:=by rw[ae,ej];rfl
 have gi:T.getD i []=T[i]:=by rw[ae,ei];rfl
 have wi:=hw _ (bC (show i < T.length by lia));unfold zj wL;rw[e1,e2,zd (n:=n) (by rw[gi];exact wi) (by rw[lN,gj];exact lj),bR,rA,<- eQ];refine bh λl hl=>?_
 rw[oU (by rw[gj,lj];exact hl),jN,Rat.pow_succ];have hk:B^k≠0:=oK hB k;by_cases e:l=j
 ·rw[if_pos e,if_pos e,bR,bR,bR,AG];grind
 ·rw[if_neg e,if_neg e,bR,bR,AG];have:((0:Int):Rat)=0:=rfl;grind
end
section
variable {n:Nat} {A:Nat->Nat->Rat} {M:Nat->Nat->Nat->Rat} {c:Nat->Rat} {y:Nat->Nat->Rat}
theorem Ar (h0:∀i j,i < n->j < n->M 0 i j=0) (hs:∀k i j,i < n->j < n->M (k+1) i j=aY n λl=>A i l*(M k l j+if l=j then c k else 0)) (hy:∀t i,i < n->y (t+1) i=aY n λl=>A i l*y t l) (t:Nat):∀m i,i < n->aY n (λj=>M m i j*y t j)=aY m λs=>c (m - 1 - s)*y (t+s+1) i
 | 0,i,hi=>iq λj hj=>by rw[h0 i j hi hj,fM]
 | m+1,i,hi=>by
  have e1:aY n (λj=>M (m+1) i j*y t j)=aY n (λj=>aY n λl=>A i l*(M m l j*y t j)+if l=j then c m*(A i l*y t l) else 0):=bh λj hj=>by
   rw[hs m i j hi hj,rA,<- eQ];refine bh λl _=>?_
   by_cases e:l=j
   ·rw[if_pos e,if_pos e,e];grind
   ·rw[if_neg e,if_neg e];grind
  rw[e1,nR]
  have e2:aY n (λl=>aY n λj=>A i l*(M m l j*y t j)+if l=j then c m*(A i l*y t l) else 0)=aY n (λl=>aY m (λs=>c (m - 1 - s)*(A i l*y (t+s+1) l))+c m*(A i l*y t l)):=bh λl hl=>by
   rw[jb,eQ,Ar h0 hs hy t m l hl,jW (i:=l) hl λj _ ne=>if_neg λz=>ne z.symm,if_pos rfl,<- eQ];congr 1;exact bh λs _=>by grind
  rw[e2,jb,eQ,<- hy t i hi,nR]
  have e3:aY m (λs=>aY n λl=>c (m - 1 - s)*(A i l*y (t+s+1) l))=aY m λs=>c (m+1 - 1 - (1+s))*y (t+(1+s)+1) i:=bh λs _=>by
   rw[eQ,<- hy (t+s+1) i hi,show m+1 - 1 - (1+s)=m - 1 - s by lia,show t+(1+s)+1=t+s+1+1 by lia]
  rw[e3,show m+1=1+m by lia,nU (a:=1) (b:=m)];show _=(0+c (1+m - 1 - 0)*y (t+0+1) i)+_
  rw[show 1+m - 1 - 0=m by lia,Nat.add_zero,Rat.zero_add,Rat.add_comm]
theorem BV (h0:∀i j,i < n->j < n->M 0 i j=0) (hs:∀k i j,i < n->j < n->M (k+1) i j=aY n λl=>A i l*(M k l j+if l=j then c k else 0)) (hy:∀t i,i < n->y (t+1) i=aY n λl=>A i l*y t l) (hc:c 0=1) (hn:∀i j,i < n->j < n->M n i j=if i=j then -(c n) else 0) (t i:Nat) (hi:i < n):y (t+n) i=aY n λs=>-(c (n - s))*y (t+s) i:=by
 have r:=Ar h0 hs hy t n i hi;rw[jW (i:=i) hi λj hj ne=>by rw[hn i j hi hj,if_neg λz=>ne z.symm,fM],hn i i hi hi,if_pos rfl] at r;obtain ⟨p,rfl⟩:∃p,n=p+1:=⟨n - 1,by lia⟩;have r:-(c (p+1))*y t i=aY p (λs=>c (p+1 - 1 - s)*y (t+s+1) i)+c (p+1 - 1 - p)*y (t+p+1) i:=r;rw[show p+1 - 1 - p=0 by lia,hc] at r
 have e:aY (p+1) (λs=>-(c (p+1 - s))*y (t+s) i)=-(c (p+1))*y t i+-1*aY p (λs=>c (p+1 - 1 - s)*y (t+s+1) i):=by
  rw[show p+1=1+p by lia,nU (a:=1) (b:=p),<- eQ];show (0+-(c (1+p - 0))*y (t+0) i)+_=_
  rw[Rat.zero_add,Nat.sub_zero,Nat.add_zero];congr 1;exact bh λs _=>by rw[show 1+p - (1+s)=1+p - 1 - s by lia,show t+(1+s)=t+s+1 by lia];grind
 rw[e,r,show t+(p+1)=t+p+1 by lia];grind
end
def yG:Sp:=λvs H Q _=>∃b,vs=[.ref b]/\il H b/\∀r (n i o w:Nat) H',H' r=some (.tup [.int n,.int i,.int o,.int w])->n<=5->i<=4->o<=4->(w=4\/w=9\/(w=1000/\n<=2))->(n=5->i<=2/\o<=2)->il H' b->cy b H H'->Q (.ref r) H'
theorem BG {α:Type} {l:List α} (h:l.length=1):∃a,l=[a]:=by match l,h with | [a],_=>exact ⟨a,rfl⟩
theorem yX {α:Type} {l:List α} (h:l.length=2):∃a b,l=[a,b]:=by match l,h with | [a,b],_=>exact ⟨a,b,rfl⟩
theorem wd {α:Type} {l:List α} (h:l.length=3):∃a b c,l=[a,b,c]:=by match l,h with | [a,b,c],_=>exact ⟨a,b,c,rfl⟩
theorem tq {α:Type} {l:List α} (h:l.length=4):∃a b c d,l=[a,b,c,d]:=by match l,h with | [a,b,c,d],_=>exact ⟨a,b,c,d,rfl⟩
theorem As {T:List (List Int)} {n:Nat} (n4:n<=4) (hT:T.length=n) (hw:∀l∈T,l.length=n) {i j:Nat} (hi:i < n) (hj:j < n):((bQ T n n).1.getD j []).getD i 0=if i=j then -(bQ T n n).2 else 0:=by
 have hn:n=1\/n=2\/n=3\/n=4:=by lia
 rcases hn with rfl | rfl | rfl | rfl
 ·obtain ⟨r,rfl⟩:=BG hT;obtain ⟨a,rfl⟩:=BG (hw r (by simp));rw[Di];obtain rfl:i=0:=by lia
  obtain rfl:j=0:=by lia
  simp
 ·obtain ⟨r,s,rfl⟩:=yX hT;obtain ⟨a,b,rfl⟩:=yX (hw r (by simp));obtain ⟨c,d,rfl⟩:=yX (hw s (by simp));rw[Dg];rcases (show i=0\/i=1 by lia) with rfl | rfl <;> rcases (show j=0\/j=1 by lia) with rfl | rfl <;> rfl
 ·obtain ⟨r,s,t,rfl⟩:=wd hT;obtain ⟨a,b,c,rfl⟩:=wd (hw r (by simp));obtain ⟨d,e,f,rfl⟩:=wd (hw s (by simp));obtain ⟨g,h,k,rfl⟩:=wd (hw t (by simp));rw[C9];rcases (show i=0\/i=1\/i=2 by lia) with rfl | rfl | rfl <;> rcases (show j=0\/j=1\/j=2 by lia) with rfl | rfl | rfl <;> rfl
 ·obtain ⟨r,s,t,u,rfl⟩:=tq hT;obtain ⟨a,b,c,d,rfl⟩:=tq (hw r (by simp));obtain ⟨e,f,g,h,rfl⟩:=tq (hw s (by simp));obtain ⟨k,l,m,o,rfl⟩:=tq (hw t (by simp));obtain ⟨p,q,v,w,rfl⟩:=tq (hw u (by simp));rw[C5];rcases (show i=0\/i=1\/i=2\/i=3 by lia) with rfl | rfl | rfl | rfl <;> rcases (show j=0\/j=1\/j=2\/j=3 by lia) with rfl | rfl | rfl | rfl <;> rfl
def RI (H:Hp) (zs:List Int) (x:V):Prop:=∃q,x=.ref q/\H q=some (.lst (zs.map V.int))
def GI (H:Hp) (p:Addr) (ls:List (List Int)):Prop:=∃xs,H p=some (.lst xs)/\Paired (RI H) ls xs
theorem RI.same {H H':Hp} {zs:List Int} {x:V} (h:RI H zs x) (s:aF H H'):RI H' zs x:=by obtain ⟨q,e,g⟩:=h;exact ⟨q,e,s _ _ g⟩
theorem GI.same {H H':Hp} {p:Addr} {ls:List (List Int)} (h:GI H p ls) (s:aF H H'):GI H' p ls:=by obtain ⟨xs,g,r⟩:=h;exact ⟨xs,s _ _ g,Paired.imp' (λ_ _ z=>RI.same z s) r⟩
theorem zY (K:FG9) {X:Cx} {a:Expr} {ta:TA} {p pos tpos:Pos} {elts:List Expr} {kk:Nat} (hg:Gl X "enumerate") (hm:X.mg "enumerate"=none) (ha:PA X [a] ta) (hK:X.K=K:=by rfl) (hs:starEach [a] X.env=[(false,eval a X.env)]:=by rfl) :
  PI X (.Tuple elts kk tpos) (.Call (.Name "enumerate" p) [a] [] pos) (Ad K ta):=by subst hK;exact o8 hg hm ha hs
def zk (l:Addr) (H:Hp) (p:Addr) (ls:List (List Int)):Prop:=p≠l/\∃xs,H p=some (.lst xs)/\Paired (λzs x=>∃q,x=V.ref q/\q≠l/\H q=some (.lst (zs.map V.int))) ls xs
theorem zk.gi {l:Addr} {H:Hp} {p:Addr} {ls:List (List Int)} (h:zk l H p ls):GI H p ls:=by obtain ⟨_,xs,g,r⟩:=h;exact ⟨xs,g,Paired.imp' (λ_ _ ⟨q,e,_,g⟩=>⟨q,e,g⟩) r⟩
theorem zk.same {l:Addr} {H H':Hp} {p:Addr} {ls:List (List Int)} (h:zk l H p ls) (s:aF H H'):zk l H' p ls:=by obtain ⟨n,xs,g,r⟩:=h;exact ⟨n,xs,s _ _ g,Paired.imp' (λ_ _ ⟨q,e,n,g⟩=>⟨q,e,n,s _ _ g⟩) r⟩
theorem zk.updL {l:Addr} {H:Hp} {p:Addr} {ls:List (List Int)} {o:HO} (h:zk l H p ls):zk l (upd H l o) p ls:=by obtain ⟨n,xs,g,r⟩:=h;exact ⟨n,xs,by rw[aS n];exact g,Paired.imp' (λ_ _ ⟨q,e,n,g⟩=>⟨q,e,n,by rw[aS n];exact g⟩) r⟩
theorem GI.away {l:Addr} {H H':Hp} {p:Addr} {ls:List (List Int)} (h:GI H p ls) (n:∀q,H q≠none->q≠l) (s:aF H H'):zk l H' p ls:=by obtain ⟨xs,g,r⟩:=h;exact ⟨n p (by rw[g];exact λz=>nomatch z),xs,s _ _ g,Paired.imp' (λ_ _ ⟨q,e,g⟩=>⟨q,e,n q (by rw[g];exact λz=>nomatch z),s _ _ g⟩) r⟩
def FV (H0 H:Hp) (zs:List Int) (x:V):Prop:=∃q,x=V.ref q/\H0 q=none/\H q=some (.lst (zs.map V.int))
theorem FV.same {H0 H H':Hp} {zs:List Int} {x:V} (h:FV H0 H zs x) (s:aF H H'):FV H0 H' zs x:=by obtain ⟨q,e,n,g⟩:=h;exact ⟨q,e,n,s _ _ g⟩
theorem yj {α:Type} {m:Nat}:∀{l:List (List α)},(∀xs∈l,xs.length<=m)->l.flatten.length<=l.length*m
 | [],_=>bP _
 | x :: r,h=>by
  have h1:=h x (.head _);have h2:=yj (l:=r) λy hy=>h y (.tail _ hy)
  show (x++r.flatten).length<=(r.length+1)*m
  rw[bS,kX]
  lia
theorem Ec {α:Type} {l:List (List α)} (h:l.length<=8) (hw:∀xs∈l,xs.length<=8):l.flatten.length<=64:=ar (yj hw) (aR 8 h)
theorem su:∀{bs:List Int} {ys:List V},Paired (λz y=>y=V.int z) bs ys->ys=bs.map V.int
 | _,_,.nil=>rfl
 | _,_,.cons h t=>by rw[h,su t];rfl
inductive xQ (K:FG9) (vs:List V) (H:Hp) (Q:VK) (E9:XK):Prop
 | mk (p q:Addr) (a b:List Int) (k j:Nat):vs=[.ref p,.ref q]->H p=some (.lst (a.map V.int))->H q=some (.lst (b.map V.int))->b.length=a.length->a.length<=100->(∀x∈a,Sz k x)->(∀x∈b,Sz j x)->k+j<=1000000->(∀H',aF H H'->Q (.int (cQ a b)) H')->xQ K vs H Q E9
inductive zF (K:FG9) (vs:List V) (H:Hp) (Q:VK) (E9:XK):Prop
 | mk (p q:Addr) (ls:List (List Int)) (b:List Int) (k j:Nat):vs=[.ref p,.ref q]->GI H p ls->H q=some (.lst (b.map V.int))->(∀l∈ls,l.length=b.length)->ls.length<=100->b.length<=100->(∀l∈ls,∀x∈l,Sz k x)->(∀x∈b,Sz j x)->k+j<=1000000->(∀r H',H r=none->aF H H'->H' r=some (.lst ((hJ ls b).map V.int))->Q (.ref r) H')->zF K vs H Q E9
inductive vE (K:FG9) (vs:List V) (H:Hp) (Q:VK) (E9:XK):Prop
 | mk (p:Addr) (ls:List (List Int)) (b:Int):vs=[.ref p,.int b]->GI H p ls->ls.length<=100->(∀l∈ls,l.length<=100)->(∀r H',H r=none->aF H H'->GI H' r (bM b 0 ls)->Q (.ref r) H')->vE K vs H Q E9
inductive vK (K:FG9) (vs:List V) (H:Hp) (Q:VK) (E9:XK):Prop
 | mk (p:Addr) (H0:Hp) (rows:LR9):vs=[.ref p]->cg K H0 H p rows->rows.flatten.length<=1000->(∀r H',H r=none->aF H H'->d4 K H' r rows.flatten->Q (.ref r) H')->vK K vs H Q E9
def cU (mv:LR9):Int:=Au (mv.flatten.map nm)
def dg (mv:LR9):List (List Int):=mv.map λxs=>jw (xs.map nm) (cU mv)
inductive vF (K:FG9) (vs:List V) (H:Hp) (Q:VK) (E9:XK):Prop
 | mk (p:Addr) (H0:Hp) (rows:LR9) (M:Int):vs=[.ref p]->cg K H0 H p rows->rows.flatten.length<=1000->rows.length<=1000->(∀xs∈rows,xs.length<=1000)->jL M (rows.flatten.map nm)->(∀t r H',H' t=some (.tup [.ref r,.int (cU rows)])->aF H H'->GI H' r (dg rows)->Q (.ref t) H')->vF K vs H Q E9
def d6 (mv:LR9) (n:Nat):List Rat:=((List.range n).map λk=>-(wL (dg mv) n (cU mv:Rat) (k+1))).reverse
inductive xP (K:FG9) (C:Addr) (vs:List V) (H:Hp) (Q:VK) (E9:XK):Prop
 | mk (x:Addr) (H0:Hp) (mv pt lk:LR9) (M:Int):vs=[.ref x]->pX K H0 H C x mv pt lk->vn mv pt lk->jL M (mv.flatten.map nm)->Sz 1000 M->(∀r H',H r=none->aF H H'->d4 K H' r (d6 mv mv.length)->Q (.ref r) H')->xP K C vs H Q E9
theorem AR {k:Nat} {a:Int} {m:Nat} (h:Sz k a):Sz k (a.fdiv ((m:Int)+1)):=h.le (by
 rw[bL _ (by lia)];have h1:=Int.ediv_mul_le a (b:=(m:Int)+1) (by lia);have h2:=Int.lt_ediv_add_one_mul_self a (b:=(m:Int)+1) (by lia);generalize a / ((m:Int)+1)=q at h1 h2;rcases Int.lt_or_le q 0 with z | z
 ·have:q*((m:Int)+1)<=q*1:=AA (by lia) (by lia);rcases Int.lt_or_le a 0 with y | y
  ·have h3:(q+1)*((m:Int)+1)<=(q+1)*1:=AA (by lia) (by lia)
   lia
  ·have h3:(q+1)*((m:Int)+1)<=0:=wO (by lia) (by lia)
   lia
 ·have:q*1<=q*((m:Int)+1):=Int.mul_le_mul_of_nonneg_left (by lia) z
  lia)
theorem zu {b:Nat}:∀{p:Nat} {l:List (List Int)},(∀c∈l,∀x∈c,Sz b x)->Sz (b+l.length) (dH p l)
 | _,[],_=>by show (0:Int).natAbs < 2^_;exact jO _
 | p,c :: r,h=>by
  have h1:Sz b (c.getD p 0):=by
   rw[ae];cases e:c[p]? with
   | none=>show (0:Int).natAbs < 2^_;exact jO _
   | some x=>exact h c (.head _) x (av e)
  have h2:=zu (p:=p+1) (l:=r) λc' hc'=>h c' (.tail _ hc')
  show (c.getD p 0+dH (p+1) r).natAbs < 2^(b+(r.length+1))
  have h1:(c.getD p 0).natAbs < 2^b:=h1;have h2:(dH (p+1) r).natAbs < 2^(b+r.length):=h2;have h3:2^b<=2^(b+r.length):=ao (by decide) (by lia);have h4:2^(b+(r.length+1))=2*2^(b+r.length):=by rw[<- Nat.add_assoc,eO,eP]
  have:=lg (c.getD p 0) (dH (p+1) r)
  lia
theorem BQ {k j : Nat} {a b : List Int} (ha : ∀ x ∈ a, Sz k x) (hb : ∀ x ∈ b, Sz j x) : Sz (k + j + min a.length b.length) (cQ a b) := by
  have := zC (l := List.zipWith (· * ·) a b) (j := k + j) λv hv => by
    obtain ⟨i, hi, rfl⟩ := fz hv;rw [mY];exact (ha _ (bC _)).mul (hb _ (bC _))
  rwa [jn] at this
theorem wG {k:Nat} {b:Int} (hb:Sz k b):∀{p:Nat} {l:List Int},(∀x∈l,Sz k x)->∀x∈bN b p l,Sz (k+1) x
 | _,[],_,x,h=>by cases ‹Nat› <;> exact nomatch h
 | 0,v :: r,hl,x,h=>by
  rcases aN.mp h with rfl | h
  ·have h1:v.natAbs < 2^k:=hl v (.head _);have h2:b.natAbs < 2^k:=hb;show (v+b).natAbs < 2^(k+1)
   rw[eO];have:=lg v b
   lia
  ·exact (hl x (.tail _ h)).mono (by lia)
 | p+1,v :: r,hl,x,h=>by
  rcases aN.mp h with rfl | h
  ·exact (hl _ (.head _)).mono (by lia)
  ·exact wG hb (p:=p) (l:=r) (λy hy=>hl y (.tail _ hy)) x h
theorem yk {T:List (List Int)} {n t k:Nat} (hT:T.length=n) (h1:∀c∈(bQ T n k).1,∀x∈c,Sz (1+k*(t+17)) x) (h2:Sz (1+k*(t+17)) (bQ T n k).2):∀c∈bM (bQ T n k).2 0 (bQ T n k).1,c.length=n/\∀x∈c,Sz (2+k*(t+17)) x:=λc hc=>by
 obtain ⟨j,hj,rfl⟩:=fz hc;have e:=pG (b:=(bQ T n k).2) (p:=0) (l:=(bQ T n k).1) (j:=j);rw[ak hj,ak (by rw[gJ] at hj;exact hj)] at e;have e:=bf e;rw[e,lN];have m:=bC (l:=(bQ T n k).1) (n:=j) (by rw[gJ] at hj;exact hj);exact ⟨(jg hT k).2 _ m,λx hx=>(wG h2 (h1 _ m) x hx).mono (by lia)⟩
theorem xt {T:List (List Int)} {n t:Nat} (hT:T.length=n) (hw:∀l∈T,l.length=n) (n8:n<=8) (ht:∀l∈T,∀x∈l,Sz t x) (k:Nat):(∀c∈(bQ T n k).1,∀x∈c,Sz (1+k*(t+17)) x)/\Sz (1+k*(t+17)) (bQ T n k).2/\(∀c∈bM (bQ T n k).2 0 (bQ T n k).1,c.length=n/\∀x∈c,Sz (2+k*(t+17)) x):=by
 induction k with
 | zero =>
  have a1:∀c∈(bQ T n 0).1,∀x∈c,Sz (1+0*(t+17)) x:=λc hc x hx=>by
   rw[jA (show c∈List.replicate n (List.replicate n 0) from hc)] at hx;rw[jA hx];show (0:Int).natAbs < 2^_
   exact jO _
  have a2:Sz (1+0*(t+17)) (bQ T n 0).2:=by rw[Nat.zero_mul];show (1:Int).natAbs < 2^1;decide
  exact ⟨a1,a2,yk hT a1 a2⟩
 | succ k ih =>
  obtain ⟨_,_,i3⟩:=ih
  have a1':∀c∈(bQ T n (k+1)).1,∀x∈c,Sz (10+t+k*(t+17)) x:=λc hc x hx=>by
   obtain ⟨d,hd,rfl⟩:=aG.mp (show c∈List.map (hJ T) (bM (bQ T n k).2 0 (bQ T n k).1) from hc);obtain ⟨l,hl,rfl⟩:=aG.mp (show x∈T.map λl=>cQ l d from hx);obtain ⟨ld,sd⟩:=i3 d hd;exact (BQ (ht l hl) sd).mono (by rw[hw l hl,ld];lia)
  have e:(k+1)*(t+17)=k*(t+17)+(t+17):=kX ..;have a1:∀c∈(bQ T n (k+1)).1,∀x∈c,Sz (1+(k+1)*(t+17)) x:=λc hc x hx=>(a1' c hc x hx).mono (by lia)
  have a2:Sz (1+(k+1)*(t+17)) (bQ T n (k+1)).2:=by
   show Sz _ (Int.fdiv (-(dH 0 (bQ T n (k+1)).1)) ((k:Int)+1))
   refine AR (Sz.neg ((zu a1').mono ?_));rw[(jg hT (k+1)).1]
   lia
  exact ⟨a1,a2,yk hT a1 a2⟩
section
variable {mv:LR9} {M:Int} {n:Nat}
theorem m5:(dg mv).length=mv.length:=aj ..
theorem rG (hw:∀xs∈mv,xs.length=n):∀l∈dg mv,l.length=n:=λl hl=>by
 obtain ⟨xs,hx,rfl⟩:=aG.mp hl;unfold jw;rw[aj,aj,hw xs hx]
theorem vb {xs:List Rat} {x:Rat} (hx:xs∈mv) (h:x∈xs):nm x∈mv.flatten.map nm:=aG.mpr ⟨x,lO.mpr ⟨xs,hx,h⟩,rfl⟩
theorem xM (hM:jL M (mv.flatten.map nm)):∀l∈dg mv,∀x∈l,Sz 8800 x:=λl hl x hx=>by
 obtain ⟨xs,hxs,rfl⟩:=aG.mp hl;obtain ⟨b1,s1⟩:=hM.bot
 have hM':jL M (xs.map nm):=⟨hM.1,hM.2.1,λn hn=>by
  obtain ⟨y,hy,rfl⟩:=aG.mp hn;exact hM.2.2 _ (vb hxs hy)⟩
 exact zx hM' b1 s1 hx
theorem BO {k:Nat} {b:Int} (hM:0 < M) (hd:b∣M) (h:Sz k M):Sz k b:=h.le (gS (by lia) (cJ.mpr hd))
theorem BX {k:Nat} (hM:jL M (mv.flatten.map nm)) (sM:Sz k M):0 < cU mv/\Sz k (cU mv):=by
 have b1:=hM.bot.1;refine ⟨b1,BO hM.1 ?_ sM⟩
 exact pK (by decide) (Az _) λb hb=>by
  obtain ⟨n,hn,rfl⟩:=aG.mp hb;exact ⟨(hM.2.2 n hn).1,(hM.2.2 n hn).2.1⟩
theorem rH (hM:jL M (mv.flatten.map nm)) {i l:Nat}:((((dg mv).getD i []).getD l 0:Int):Rat)=fH mv i l*(cU mv:Rat):=by
 unfold fH dg;rw[ae (l:=List.map _ mv),aD,ae (l:=mv)];cases e:mv[i]? with
 | none =>
  show (((([]:List Int).getD l 0:Int)):Rat)=([]:List Rat).getD l 0*_
  rw[ae,ae];show ((0:Int):Rat)=0*_
  rw[fM];rfl
 | some xs =>
  show (((jw (xs.map nm) (cU mv)).getD l 0:Int):Rat)=xs.getD l 0*_
  unfold jw;rw[ae,aD,aD,ae];cases e2:xs[l]? with
  | none =>
   show ((0:Int):Rat)=0*_
   rw[fM];rfl
  | some x=>exact oZ (wB (vb (av e) (av e2)))
theorem wX {B:Int} (h:Sz 1000 B):∀k:Nat,Sz (1000*k+1) (B^k)
 | 0=>by rw[aJ];show (1:Int).natAbs < 2^1;decide
 | k+1=>by
  rw[aK];exact ((wX h k).mul h).mono (by lia)
theorem zq {B c:Int} {k:Nat} (hB:0 < B):(lo (-c) (B^k),hi (-c) (B^k))=nm (-((c:Rat) / (B:Rat)^k)):=by
 refine pH (Int.pow_pos hB) ?_;have hb:(B:Rat)≠0:=λz=>by have:=cb.mp z;lia
 have hk:=oK hb k;rw[eD,jM,bR,Rat.neg_mul,wK,oE _ hk,Rat.mul_one]
end
def qZ (mv:LR9) (st:List Rat):Nat->List Rat
 | 0=>st
 | t+1=>mv.map λxs=>ma xs (qZ mv st t)
section
variable {mv:LR9} {st:List Rat} {M:Int}
theorem lP (h:st.length=mv.length):∀t,(qZ mv st t).length=mv.length
 | 0=>h
 | t+1=>aj ..
theorem jV {n:Nat}:(d6 mv n).length=n:=by unfold d6;rw[nQ,aj,aI]
theorem xH {n i:Nat} (hi:i < n):(d6 mv n).getD i 0=-(wL (dg mv) n (cU mv:Rat) (n - i)):=by
 unfold d6;rw[ae,List.getElem?_reverse (by rw[aj,aI];exact hi),aj,aI,aD,cx (by lia)];show -(wL _ _ _ (n - 1 - i+1))=_
 rw[show n - 1 - i+1=n - i by lia]
theorem xO (hw:∀xs∈mv,xs.length=mv.length) (hl:st.length=mv.length) {t i:Nat} (hi:i < mv.length):(qZ mv st (t+1)).getD i 0=aY mv.length λl=>fH mv i l*(qZ mv st t).getD l 0:=by
 show (mv.map λxs=>ma xs (qZ mv st t)).getD i 0=_
 have e:=ak hi;have wi:=hw _ (bC hi);rw[ae,aD,e];show ma mv[i] (qZ mv st t)=_
 rw[pL (by rw[wi,lP hl]),wi];refine bh λl _=>?_
 unfold fH;rw[ae (l:=mv),e];rfl
theorem BI (n4:mv.length<=4) (hM:jL M (mv.flatten.map nm)) (hw:∀xs∈mv,xs.length=mv.length) (hl:st.length=mv.length) (t:Nat):Et ((List.range mv.length).map λi=>qZ mv st (t+i)) (d6 mv mv.length) mv.length=qZ mv st (t+mv.length):=by
 have hB:(cU mv:Rat)≠0:=λz=>by have:=cb.mp z;have:=hM.bot.1;unfold cU at *;lia
 have hT:=m5 (mv:=mv);have hW:=rG (mv:=mv) hw
 have eA:∀i l,(((dg mv).getD i []).getD l 0:Rat) / (cU mv:Rat)=fH mv i l:=λi l=>by
  rw[rH hM,bR,wK,jU _ hB,Rat.mul_one]
 apply dP (by rw[lP hl];exact Dk);intro c h1 h2;rw[lP hl] at h2;have g1:(Et ((List.range mv.length).map λi=>qZ mv st (t+i)) (d6 mv mv.length) mv.length).getD c 0=(Et ((List.range mv.length).map λi=>qZ mv st (t+i)) (d6 mv mv.length) mv.length)[c]:=by rw[ae,ak h1];rfl
 have g2:(qZ mv st (t+mv.length)).getD c 0=(qZ mv st (t+mv.length))[c]'(by rw[lP hl];exact h2):=by rw[ae,ak (by rw[lP hl];exact h2)];rfl
 rw[<- g1,<- g2,xG h2,jV];have key:=BV (n:=mv.length) (A:=λi l=>(((dg mv).getD i []).getD l 0:Rat) / (cU mv:Rat)) (M:=zj (dg mv) mv.length (cU mv:Rat)) (c:=wL (dg mv) mv.length (cU mv:Rat)) (y:=λt i=>(qZ mv st t).getD i 0) (λi j hi hj=>?_) (λk i j hi hj=>wt hB hT hW hi hj) (λt i hi=>?_) ?_ (λi j hi hj=>?_) t c h2
 ·rw[key];refine bh λs hs=>?_
  rw[xH hs];congr 1;unfold fH;rw[ae (l:=List.map _ _),aD,cx hs];rfl
 ·unfold zj
  have:((bQ (dg mv) mv.length 0).1.getD j []).getD i 0=0:=by
   show ((List.replicate mv.length (List.replicate mv.length (0:Int))).getD j []).getD i 0=0
   rw[ae (l:=List.replicate _ (List.replicate _ _)),dD,if_pos hj];show (List.replicate mv.length (0:Int)).getD i 0=0
   rw[ae,dD,if_pos hi];rfl
  rw[this];show (0:Rat) / _=0
  rw[bR,fM]
 ·show (qZ mv st (t+1)).getD i 0=_
  rw[xO hw hl hi];exact bh λl _=>by rw[eA]
 ·unfold wL;show ((1:Int):Rat) / _=1
  rw[Rat.pow_zero,show ((1:Int):Rat)=1 from rfl,bR];grind
 ·unfold zj wL;rw[As n4 hT hW hi hj];by_cases e:i=j
  ·rw[if_pos e,if_pos e,jM,bR,bR,Rat.neg_mul]
  ·rw[if_neg e,if_neg e];show (0:Rat) / _=0
   rw[bR,fM]
end
def En (mv:LR9) (ws st:List Rat):Prop:=∃M W D B:Nat,0 < M/\0 < D/\1<=W/\1<=B/\(∀t,t<=2*mv.length+2->∀x∈qZ mv st t,Tp M W x)/\(∀x∈ws,Tp D B x)/\M*D<=2^3990/\128*(W*B)<=2^3990/\∀t,t<=2*mv.length+2->∀xs∈mv,Ay xs (qZ mv st t)
section
variable {mv:LR9} {st:List Rat} {M1 V1 E V0:Nat}
theorem zD (hw:∀xs∈mv,xs.length=mv.length) (hl:st.length=mv.length) (f:GF M1 V1 mv) (h0:∀x∈st,Fr E V0 x):∀t,∀x∈qZ mv st t,Fr (M1^t*E) ((mv.length*V1)^t*V0) x
 | 0,x,hx=>by rw[Nat.pow_zero,Nat.pow_zero,uv,uv];exact h0 x hx
 | t+1,x,hx=>by
  obtain ⟨xs,hxs,rfl⟩:=aG.mp (show x∈mv.map λxs=>ma xs (qZ mv st t) from hx);have:=BP (M:=M1) (V:=V1) (by rw[lP hl,hw xs hxs]) (f xs hxs) (zD hw hl f h0 t);rw[hw xs hxs] at this;rw[eO,eO,eP (M1^t),eP ((mv.length*V1)^t),dO,dO,dO];exact this
theorem Du {N a c:Nat} (hw:∀xs∈mv,xs.length=mv.length) (hl:st.length=mv.length) (M0:0 < M1) (E0:0 < E) (f:GF M1 V1 mv) (h0:∀x∈st,Fr E V0 x) (ha:M1^N*E<=2^a) (hc:(mv.length*V1+1)^N*V0<=2^c):∃M,0 < M/\M<=2^a/\∀t,t<=N->∀x∈qZ mv st t,Fr M (2^c) x:=by
 refine ⟨M1^N*E,kb (Nat.pow_pos M0) E0,ha,λt ht x hx=>?_⟩;refine ((zD hw hl f h0 t x hx).dvd (Nat.mul_dvd_mul_right (Nat.pow_dvd_pow _ ht) _)).mono (ar (aR _ ?_) hc);exact ar (cF (pZ _) t) (ao (by lia) ht)
theorem vA {M:Int} {t:Nat} (hM:jL M (mv.flatten.map nm)) (hB:(cU mv).natAbs<=M1) (f:GF M1 V1 mv) (M0:0 < M1) (h:V1*M1 < 2^t):∀l∈dg mv,∀x∈l,Sz t x:=λl hl x hx=>by
 obtain ⟨i,hi,rfl⟩:=fz hl;obtain ⟨j,hj,rfl⟩:=fz hx;have e:=rH hM (i:=i) (l:=j);have e1:(dg mv).getD i []=(dg mv)[i]:=by rw[ae,ak hi];rfl
 have e2:((dg mv)[i]).getD j 0=(dg mv)[i][j]:=by rw[ae,ak hj];rfl
 rw[e1,e2] at e
 have fq:Fr M1 V1 (fH mv i j):=by
  unfold fH;rw[ae (l:=mv)];cases ei:mv[i]? with
  | none=>show Fr M1 V1 (([]:List Rat).getD j 0);exact Fr.zero
  | some xs =>
   show Fr M1 V1 (xs.getD j 0)
   rw[ae];cases ej:xs[j]? with
   | none=>exact Fr.zero
   | some y=>exact f xs (av ei) y (av ej)
 obtain ⟨z,ez,bz⟩:=fq
 have m0:(M1:Rat)≠0:=λw=>by
  have:((M1:Int):Rat)=0:=by rw[aZ];exact w
  have:=yq this
  lia
 have key:((dg mv)[i][j]*(M1:Int))=z*cU mv:=by
  have:(((dg mv)[i][j]*(M1:Int):Int):Rat)=((z*cU mv:Int):Rat):=by
   rw[aH,aH,e,aZ,<- ez];grind
  exact gQ.mp this
 have k2:=congrArg Int.natAbs key;rw[cL,cL,ck] at k2;show ((dg mv)[i][j]).natAbs < 2^t
 have k3:((dg mv)[i][j]).natAbs*M1<=V1*M1*M1:=by rw[k2];exact bB bz hB
 exact ba (Nat.le_of_mul_le_mul_right k3 M0) h
theorem AK {n t d:Nat} {B:Int} (n8:n<=8) (b0:0 < B) (eB:B=cU mv) (hB:B.natAbs^n<=2^d) (hs:∀k,k<=n->Sz (1+k*(t+17)) (bQ (dg mv) n k).2):∃D,0 < D/\D<=2^d/\∀x∈d6 mv n,Tp D (2^(1+n*(t+17)+d)) x:=by
 subst eB;refine ⟨(cU mv).natAbs^n,Nat.pow_pos (by lia),hB,λx hx=>?_⟩;obtain ⟨k,hk,rfl⟩:=aG.mp (List.mem_reverse.mp (show x∈((List.range n).map λk=>-(wL (dg mv) n (cU mv:Rat) (k+1))).reverse from hx));have hk:=cK.mp hk;have hb:(cU mv:Rat)≠0:=λz=>by have:=cb.mp z;lia
 have hp:=oK hb (k+1)
 have en:(((cU mv).natAbs^n:Nat):Rat)=(cU mv:Rat)^(k+1)*(cU mv:Rat)^(n - (k+1)):=by
  rw[<- aZ,Int.natCast_pow,Int.natAbs_of_nonneg (by lia),<- eD,<- eD,<- aH,<- Int.pow_add,show k+1+(n - (k+1))=n by lia]
 refine ⟨-((bQ (dg mv) n (k+1)).2*cU mv^(n - (k+1))),?_,?_⟩
 ·rw[en,jM,aH,eD];unfold wL;rw[bR];have:((cU mv:Rat)^(k+1))⁻¹*(cU mv:Rat)^(k+1)=1:=oE _ hp;grind
 ·rw[Int.natAbs_neg,cL,Int.natAbs_pow,cG];have h1:((bQ (dg mv) n (k+1)).2).natAbs < 2^(1+(k+1)*(t+17)):=hs (k+1) (by lia);have h2:(2:Nat)^(1+(k+1)*(t+17))<=2^(1+n*(t+17)):=ao (by decide) (Nat.add_le_add_left (aR _ (by lia)) _);have h3:(cU mv).natAbs^(n - (k+1))<=(cU mv).natAbs^n:=ao (by lia) (by lia);exact bB (by lia) (ar h3 hB)
end
def vo (mv:LR9):Prop:=∃M1 V1:Nat,0 < M1/\GF M1 V1 mv/\((mv.length<=4/\M1=2520/\V1=9^3*9)\/(mv.length<=2/\M1<=2^80/\V1=9^3*2^20))
theorem rh {mv:LR9} {M1 V1:Nat} (M0:0 < M1) (f:GF M1 V1 mv) (m80:M1<=2^80) (v30:V1<=2^30):jL (M1:Int) (mv.flatten.map nm)/\Sz 1000 (M1:Int):=by
 refine ⟨⟨by lia,?_,λn hn=>?_⟩,?_⟩
 ·show ((M1:Nat):Int).natAbs < 2^4400
  rw[ck];exact ba m80 (mV (by decide) (by decide))
 ·obtain ⟨x,hx,rfl⟩:=aG.mp hn;obtain ⟨xs,h1,h2⟩:=lO.mp hx;obtain ⟨a,_⟩:=(f xs h1 x h2).sz M0 m80 v30;exact ⟨j6 x,(f xs h1 x h2).den,a.mono (by decide)⟩
 ·show ((M1:Nat):Int).natAbs < 2^1000
  rw[ck];exact ba m80 (mV (by decide) (by decide))
theorem vo.nums {mv:LR9} (h:vo mv):∃M1 V1 N a c t d,0 < M1/\GF M1 V1 mv/\M1<=2^80/\V1<=2^30/\mv.length<=4/\N=2*mv.length+2/\M1^N<=2^a/\a<=480/\(mv.length*V1+1)^N<=2^c/\c<=186/\V1*M1 < 2^t/\M1^mv.length<=2^d/\d<=160/\1+mv.length*(t+17)<=260:=by
 obtain ⟨M1,V1,M0,f,hc⟩:=h;rcases hc with ⟨n4,rfl,rfl⟩ | ⟨n2,a,rfl⟩
 ·refine ⟨2520,9^3*9,_,12*(2*mv.length+2),15*(2*mv.length+2),25,12*mv.length,by decide,f,by decide,by decide,n4,rfl,?_,by lia,?_,by lia,by decide,?_,by lia,by lia⟩
  ·rw[pY];exact cF (by decide) _
  ·rw[pY];refine cF ?_ _;exact ar (cw (aR (9^3*9) n4)) (by decide)
  ·rw[pY];exact cF (by decide) _
 ·refine ⟨M1,9^3*2^20,_,80*(2*mv.length+2),31*(2*mv.length+2),111,80*mv.length,M0,f,a,by decide,by lia,rfl,?_,by lia,?_,by lia,?_,?_,by lia,by lia⟩
  ·rw[pY];exact cF a _
  ·rw[pY];refine cF ?_ _;exact ar (cw (aR (9^3*2^20) n2)) (by decide)
  ·exact ba (bB (show 9^3*2^20<=2^30 by decide) a) (by rw[<- cG];decide)
  ·rw[pY];exact cF a _
theorem wa {mv:LR9} (h:vo mv):∃M:Int,jL M (mv.flatten.map nm)/\Sz 1000 M:=by
 obtain ⟨M1,V1,_,_,_,_,_,M0,f,m80,v30,_⟩:=h.nums;exact ⟨_,rh M0 f m80 v30⟩
theorem yr {mv:LR9} {M:Int} (hM:jL M (mv.flatten.map nm)):(cU mv).natAbs<=M.natAbs:=by
 have hd:cU mv∣M:=pK (by decide) (Az _) λb hb=>by
  obtain ⟨n,hn,rfl⟩:=aG.mp hb;exact ⟨(hM.2.2 n hn).1,(hM.2.2 n hn).2.1⟩
 exact gS (by have:=hM.1;lia) (cJ.mpr hd)
theorem yd {mv:LR9} {st:List Rat} {E V0:Nat} (h:vo mv) (hw:∀xs∈mv,xs.length=mv.length) (hl:st.length=mv.length) (E0:0 < E) (E1:E<=2^20) (V1':V0<=2^10) (h0:∀x∈st,Fr E V0 x):En mv (d6 mv mv.length) st:=by
 obtain ⟨M1,V1,N,a,c,t,d,M0,f,m80,v30,n4,eN,ha,a480,hc,c186,ht,hd,d160,h260⟩:=h.nums;obtain ⟨hM,_⟩:=rh M0 f m80 v30;have bl:=yr hM;rw[ck] at bl;obtain ⟨M,m0,m1,m2⟩:=Du (N:=N) (a:=500) (c:=196) hw hl M0 E0 f h0 (ar (mul_pow ha E1) (ao (by decide) (by lia))) (ar (mul_pow hc V1') (ao (by decide) (by lia)));have hsz:=xt (m5 (mv:=mv)) (rG (mv:=mv) hw) (by lia) (vA hM bl f M0 ht);obtain ⟨D,D0,D1,D2⟩:=AK (mv:=mv) (n:=mv.length) (t:=t) (d:=d) (by lia) hM.bot.1 rfl (ar (cF bl _) hd) λk _=>(hsz k).2.1
 refine ⟨M,2^(196+500),D,2^420,m0,D0,wM,wM,λu hu x hx=>Tp.of (m2 u (by lia) x hx) (mul_pow (ay _) m1),λx hx=>(D2 x hx).mono (ao (by decide) (by lia)),ar (mul_pow m1 D1) (ao (by decide) (by lia)),?_,λu hu xs hx=>?_⟩
 ·exact ar (mul_pow (c:=7) (by decide) (mul_pow (ay _) (ay _))) (ao (by decide) (by decide))
 ·exact ⟨80,30,500,196,⟨M1,V1,M0,m80,v30,f xs hx⟩,⟨M,2^196,m0,m1,ay _,m2 u (by lia)⟩,by decide⟩
theorem Ge {xs:List Rat} {f:Nat} (h:f=9\/(f=1000/\xs.length<=2)) (dx:∀x∈xs,Dr (max f 6) x):∃E V0,0 < E/\E<=2^20/\V0<=2^10/\∀x∈xs,Fr E V0 x:=by
 rcases h with rfl | ⟨rfl,l2⟩
 ·exact ⟨2520,9,by decide,by decide,by decide,λx hx=>Al (dx x hx) (Nat.dvd_refl _)⟩
 ·obtain ⟨M,m0,m1,m2⟩:=xV (c:=10) (n:=xs.length) (rows:=[xs]) λqs hq=>by
   rw[dR.mp hq];exact ⟨rfl,λy hy=>⟨ar (dx y hy).1 (by decide),ar (dx y hy).2 (by decide)⟩⟩
  exact ⟨M,2^10,m0,ar m1 (ao (by decide) (by rw[d5];lia)),ay _,λx hx=>m2 xs (by simp) x hx⟩
theorem Gq {n i o w c:Nat} {mv pt lk:LR9} (h:FW n i o w c mv pt lk) (lm:mv.length=n) (n4:n<=4) (hw:w<=9\/(n<=2/\c=20)) (hc:c*((n+i+o)*n)<=800) (c20:c<=20):vo mv/\nE mv pt lk:=by
 refine ⟨?_,?_⟩
 ·obtain ⟨M1,M2,M3,V1,a1,a2,a3,f1,f2,f3,hcs⟩:=h;rcases hcs with ⟨w9,rfl,rfl,rfl,e⟩ | ⟨w9,e1,e2,e3,e⟩
  ·exact ⟨2520,V1,by decide,f1,.inl ⟨by lia,rfl,e⟩⟩
  ·rcases hw with hw | ⟨hn,rfl⟩
   ·lia
   ·refine ⟨M1,V1,a1,f1,.inr ⟨by lia,ar e1 (ao (by decide) ?_),e⟩⟩;have:n*n<=2*2:=bB hn hn
    lia
 ·obtain ⟨M,V1,M0,f1,f2,f3,hcs⟩:=h.n
  have b:M<=2^800/\V1<=2^400:=by
   rcases hcs with ⟨_,rfl,rfl⟩ | ⟨_,e,rfl⟩
   ·exact ⟨ar (show 2520<=2^12 by decide) (ao (by decide) (by decide)),ar (show 9^3*9<=2^20 by decide) (ao (by decide) (by decide))⟩
   ·exact ⟨ar e (ao (by decide) hc),ar (mul_pow (c:=10) (by decide) (ao (by decide) c20)) (ao (by decide) (by decide))⟩
  exact ⟨M,V1,M0,b.1,b.2,f1,f2,f3⟩
theorem Fw (a:Int):-(dH 0 (bQ [[a]] 1 1).1)=1*(bQ [[a]] 1 1).2:=by
 rw[Di];simp only[dH,af,ag];grind
theorem Fv (a b c d:Int):-(dH 0 (bQ [[a,b],[c,d]] 2 1).1)=1*(bQ [[a,b],[c,d]] 2 1).2:=by
 rw[Dh];simp only[dH,af,ag];grind
theorem Fu (a b c d:Int):-(dH 0 (bQ [[a,b],[c,d]] 2 2).1)=2*(bQ [[a,b],[c,d]] 2 2).2:=by
 rw[Dg];simp only[dH,af,ag];grind
theorem Ft (a b c d e f g h i:Int):-(dH 0 (bQ [[a,b,c],[d,e,f],[g,h,i]] 3 1).1)=1*(bQ [[a,b,c],[d,e,f],[g,h,i]] 3 1).2:=by
 rw[Df];simp only[dH,af,ag];grind
theorem Fs (a b c d e f g h i:Int):-(dH 0 (bQ [[a,b,c],[d,e,f],[g,h,i]] 3 2).1)=2*(bQ [[a,b,c],[d,e,f],[g,h,i]] 3 2).2:=by
 rw[De];simp only[dH,af,ag];grind
theorem Fq (a b c d e f g h i:Int):-(dH 0 (bQ [[a,b,c],[d,e,f],[g,h,i]] 3 3).1)=3*(bQ [[a,b,c],[d,e,f],[g,h,i]] 3 3).2:=by
 rw[C9];simp only[dH,af,ag];grind
theorem Fp (a b c d e f g h i j k l m n o p:Int):-(dH 0 (bQ [[a,b,c,d],[e,f,g,h],[i,j,k,l],[m,n,o,p]] 4 1).1)=1*(bQ [[a,b,c,d],[e,f,g,h],[i,j,k,l],[m,n,o,p]] 4 1).2:=by
 rw[C8];simp only[dH,af,ag];grind
theorem Fo (a b c d e f g h i j k l m n o p:Int):-(dH 0 (bQ [[a,b,c,d],[e,f,g,h],[i,j,k,l],[m,n,o,p]] 4 2).1)=2*(bQ [[a,b,c,d],[e,f,g,h],[i,j,k,l],[m,n,o,p]] 4 2).2:=by
 rw[C7];simp only[dH,af,ag];grind
theorem Fn (a b c d e f g h i j k l m n o p:Int):-(dH 0 (bQ [[a,b,c,d],[e,f,g,h],[i,j,k,l],[m,n,o,p]] 4 3).1)=3*(bQ [[a,b,c,d],[e,f,g,h],[i,j,k,l],[m,n,o,p]] 4 3).2:=by
 rw[C6];simp only[dH,af,ag];grind
theorem Fm (a b c d e f g h i j k l m n o p:Int):-(dH 0 (bQ [[a,b,c,d],[e,f,g,h],[i,j,k,l],[m,n,o,p]] 4 4).1)=4*(bQ [[a,b,c,d],[e,f,g,h],[i,j,k,l],[m,n,o,p]] 4 4).2:=by
 rw[C5];simp only[dH,af,ag];grind
theorem FF (B a:Int):bQ [[a]] 1 1=([[-(-(a))]],-(a)):=by
 refine aT (C:=List.replicate 1 (List.replicate 1 0)) (l:=1) rfl ?_ ?_
 ·simp only[bM,bN,hJ,cQ,List.map,List.zipWith,ax,aA,List.replicate]
  (repeat' apply br) <;> grind
 ·simp only[dH,af,ag];grind
theorem C4 (B a b:Int):bQ [[0,B],[a,b]] 2 1=([[0,a],[B*(1),-(-(b))]],-(b)):=by
 refine aT (C:=List.replicate 2 (List.replicate 2 0)) (l:=1) rfl ?_ ?_
 ·simp only[bM,bN,hJ,cQ,List.map,List.zipWith,ax,aA,List.replicate]
  (repeat' apply br) <;> grind
 ·simp only[dH,af,ag];grind
theorem FE (B a b:Int):bQ [[0,B],[a,b]] 2 2=([[-(-(B*a)),0],[0,-(-(B*a))]],-(B*a)):=by
 refine aT (C4 B a b) ?_ ?_
 ·simp only[bM,bN,hJ,cQ,List.map,List.zipWith,ax,aA,List.replicate]
  (repeat' apply br) <;> grind
 ·simp only[dH,af,ag];grind
theorem C3 (B a b c:Int):bQ [[0,B,0],[0,0,B],[a,b,c]] 3 1=([[0,0,a],[B*(1),0,b],[0,B*(1),-(-(c))]],-(c)):=by
 refine aT (C:=List.replicate 3 (List.replicate 3 0)) (l:=1) rfl ?_ ?_
 ·simp only[bM,bN,hJ,cQ,List.map,List.zipWith,ax,aA,List.replicate]
  (repeat' apply br) <;> grind
 ·simp only[dH,af,ag];grind
theorem C2 (B a b c:Int):bQ [[0,B,0],[0,0,B],[a,b,c]] 3 2=([[0,B*a,0],[B*(-(c)),-(-(B*b)),B*a],[B*B*(1),0,-(-(B*b))]],-(B*b)):=by
 refine aT (C3 B a b c) ?_ ?_
 ·simp only[bM,bN,hJ,cQ,List.map,List.zipWith,ax,aA,List.replicate]
  (repeat' apply br) <;> grind
 ·simp only[dH,af,ag];grind
theorem FD (B a b c:Int):bQ [[0,B,0],[0,0,B],[a,b,c]] 3 3=([[-(-(B*B*a)),0,0],[0,-(-(B*B*a)),0],[0,0,-(-(B*B*a))]],-(B*B*a)):=by
 refine aT (C2 B a b c) ?_ ?_
 ·simp only[bM,bN,hJ,cQ,List.map,List.zipWith,ax,aA,List.replicate]
  (repeat' apply br) <;> grind
 ·simp only[dH,af,ag];grind
theorem C1 (B a b c d:Int):bQ [[0,B,0,0],[0,0,B,0],[0,0,0,B],[a,b,c,d]] 4 1=([[0,0,0,a],[B*(1),0,0,b],[0,B*(1),0,c],[0,0,B*(1),-(-(d))]],-(d)):=by
 refine aT (C:=List.replicate 4 (List.replicate 4 0)) (l:=1) rfl ?_ ?_
 ·simp only[bM,bN,hJ,cQ,List.map,List.zipWith,ax,aA,List.replicate]
  (repeat' apply br) <;> grind
 ·simp only[dH,af,ag];grind
theorem C0 (B a b c d:Int):bQ [[0,B,0,0],[0,0,B,0],[0,0,0,B],[a,b,c,d]] 4 2=([[0,0,B*a,0],[B*(-(d)),0,B*b,B*a],[B*B*(1),B*(-(d)),-(-(B*c)),B*b],[0,B*B*(1),0,-(-(B*c))]],-(B*c)):=by
 refine aT (C1 B a b c d) ?_ ?_
 ·simp only[bM,bN,hJ,cQ,List.map,List.zipWith,ax,aA,List.replicate]
  (repeat' apply br) <;> grind
 ·simp only[dH,af,ag];grind
theorem CZ (B a b c d:Int):bQ [[0,B,0,0],[0,0,B,0],[0,0,0,B],[a,b,c,d]] 4 3=([[0,B*B*a,0,0],[B*(-(B*c)),-(-(B*B*b)),B*B*a,0],[B*B*(-(d)),0,-(-(B*B*b)),B*B*a],[B*B*B*(1),0,0,-(-(B*B*b))]],-(B*B*b)):=by
 refine aT (C0 B a b c d) ?_ ?_
 ·simp only[bM,bN,hJ,cQ,List.map,List.zipWith,ax,aA,List.replicate]
  (repeat' apply br) <;> grind
 ·simp only[dH,af,ag];grind
theorem FC (B a b c d:Int):bQ [[0,B,0,0],[0,0,B,0],[0,0,0,B],[a,b,c,d]] 4 4=([[-(-(B*B*B*a)),0,0,0],[0,-(-(B*B*B*a)),0,0],[0,0,-(-(B*B*B*a)),0],[0,0,0,-(-(B*B*B*a))]],-(B*B*B*a)):=by
 refine aT (CZ B a b c d) ?_ ?_
 ·simp only[bM,bN,hJ,cQ,List.map,List.zipWith,ax,aA,List.replicate]
  (repeat' apply br) <;> grind
 ·simp only[dH,af,ag];grind
theorem CY (B a b c d e:Int):bQ [[0,B,0,0,0],[0,0,B,0,0],[0,0,0,B,0],[0,0,0,0,B],[a,b,c,d,e]] 5 1=([[0,0,0,0,a],[B*(1),0,0,0,b],[0,B*(1),0,0,c],[0,0,B*(1),0,d],[0,0,0,B*(1),-(-(e))]],-(e)):=by
 refine aT (C:=List.replicate 5 (List.replicate 5 0)) (l:=1) rfl ?_ ?_
 ·simp only[bM,bN,hJ,cQ,List.map,List.zipWith,ax,aA,List.replicate]
  (repeat' apply br) <;> grind
 ·simp only[dH,af,ag];grind
theorem CW (B a b c d e:Int):bQ [[0,B,0,0,0],[0,0,B,0,0],[0,0,0,B,0],[0,0,0,0,B],[a,b,c,d,e]] 5 2=([[0,0,0,B*a,0],[B*(-(e)),0,0,B*b,B*a],[B*B*(1),B*(-(e)),0,B*c,B*b],[0,B*B*(1),B*(-(e)),-(-(B*d)),B*c],[0,0,B*B*(1),0,-(-(B*d))]],-(B*d)):=by
 refine aT (CY B a b c d e) ?_ ?_
 ·simp only[bM,bN,hJ,cQ,List.map,List.zipWith,ax,aA,List.replicate]
  (repeat' apply br) <;> grind
 ·simp only[dH,af,ag];grind
theorem CV (B a b c d e:Int):bQ [[0,B,0,0,0],[0,0,B,0,0],[0,0,0,B,0],[0,0,0,0,B],[a,b,c,d,e]] 5 3=([[0,0,B*B*a,0,0],[B*(-(B*d)),0,B*B*b,B*B*a,0],[B*B*(-(e)),B*(-(B*d)),-(-(B*B*c)),B*B*b,B*B*a],[B*B*B*(1),B*B*(-(e)),0,-(-(B*B*c)),B*B*b],[0,B*B*B*(1),0,0,-(-(B*B*c))]],-(B*B*c)):=by
 refine aT (CW B a b c d e) ?_ ?_
 ·simp only[bM,bN,hJ,cQ,List.map,List.zipWith,ax,aA,List.replicate]
  (repeat' apply br) <;> grind
 ·simp only[dH,af,ag];grind
theorem CU (B a b c d e:Int):bQ [[0,B,0,0,0],[0,0,B,0,0],[0,0,0,B,0],[0,0,0,0,B],[a,b,c,d,e]] 5 4=([[0,B*B*B*a,0,0,0],[B*(-(B*B*c)),-(-(B*B*B*b)),B*B*B*a,0,0],[B*B*(-(B*d)),0,-(-(B*B*B*b)),B*B*B*a,0],[B*B*B*(-(e)),0,0,-(-(B*B*B*b)),B*B*B*a],[B*B*B*B*(1),0,0,0,-(-(B*B*B*b))]],-(B*B*B*b)):=by
 refine aT (CV B a b c d e) ?_ ?_
 ·simp only[bM,bN,hJ,cQ,List.map,List.zipWith,ax,aA,List.replicate]
  (repeat' apply br) <;> grind
 ·simp only[dH,af,ag];grind
theorem FA (B a b c d e:Int):bQ [[0,B,0,0,0],[0,0,B,0,0],[0,0,0,B,0],[0,0,0,0,B],[a,b,c,d,e]] 5 5=([[-(-(B*B*B*B*a)),0,0,0,0],[0,-(-(B*B*B*B*a)),0,0,0],[0,0,-(-(B*B*B*B*a)),0,0],[0,0,0,-(-(B*B*B*B*a)),0],[0,0,0,0,-(-(B*B*B*B*a))]],-(B*B*B*B*a)):=by
 refine aT (CU B a b c d e) ?_ ?_
 ·simp only[bM,bN,hJ,cQ,List.map,List.zipWith,ax,aA,List.replicate]
  (repeat' apply br) <;> grind
 ·simp only[dH,af,ag];grind
theorem CT (B a b c d e f:Int):bQ [[0,B,0,0,0,0],[0,0,B,0,0,0],[0,0,0,B,0,0],[0,0,0,0,B,0],[0,0,0,0,0,B],[a,b,c,d,e,f]] 6 1=([[0,0,0,0,0,a],[B*(1),0,0,0,0,b],[0,B*(1),0,0,0,c],[0,0,B*(1),0,0,d],[0,0,0,B*(1),0,e],[0,0,0,0,B*(1),-(-(f))]],-(f)):=by
 refine aT (C:=List.replicate 6 (List.replicate 6 0)) (l:=1) rfl ?_ ?_
 ·simp only[bM,bN,hJ,cQ,List.map,List.zipWith,ax,aA,List.replicate]
  (repeat' apply br) <;> grind
 ·simp only[dH,af,ag];grind
theorem CS (B a b c d e f:Int):bQ [[0,B,0,0,0,0],[0,0,B,0,0,0],[0,0,0,B,0,0],[0,0,0,0,B,0],[0,0,0,0,0,B],[a,b,c,d,e,f]] 6 2=([[0,0,0,0,B*a,0],[B*(-(f)),0,0,0,B*b,B*a],[B*B*(1),B*(-(f)),0,0,B*c,B*b],[0,B*B*(1),B*(-(f)),0,B*d,B*c],[0,0,B*B*(1),B*(-(f)),-(-(B*e)),B*d],[0,0,0,B*B*(1),0,-(-(B*e))]],-(B*e)):=by
 refine aT (CT B a b c d e f) ?_ ?_
 ·simp only[bM,bN,hJ,cQ,List.map,List.zipWith,ax,aA,List.replicate]
  (repeat' apply br) <;> grind
 ·simp only[dH,af,ag];grind
theorem CQ (B a b c d e f:Int):bQ [[0,B,0,0,0,0],[0,0,B,0,0,0],[0,0,0,B,0,0],[0,0,0,0,B,0],[0,0,0,0,0,B],[a,b,c,d,e,f]] 6 3=([[0,0,0,B*B*a,0,0],[B*(-(B*e)),0,0,B*B*b,B*B*a,0],[B*B*(-(f)),B*(-(B*e)),0,B*B*c,B*B*b,B*B*a],[B*B*B*(1),B*B*(-(f)),B*(-(B*e)),-(-(B*B*d)),B*B*c,B*B*b],[0,B*B*B*(1),B*B*(-(f)),0,-(-(B*B*d)),B*B*c],[0,0,B*B*B*(1),0,0,-(-(B*B*d))]],-(B*B*d)):=by
 refine aT (CS B a b c d e f) ?_ ?_
 ·simp only[bM,bN,hJ,cQ,List.map,List.zipWith,ax,aA,List.replicate]
  (repeat' apply br) <;> grind
 ·simp only[dH,af,ag];grind
theorem CP (B a b c d e f:Int):bQ [[0,B,0,0,0,0],[0,0,B,0,0,0],[0,0,0,B,0,0],[0,0,0,0,B,0],[0,0,0,0,0,B],[a,b,c,d,e,f]] 6 4=([[0,0,B*B*B*a,0,0,0],[B*(-(B*B*d)),0,B*B*B*b,B*B*B*a,0,0],[B*B*(-(B*e)),B*(-(B*B*d)),-(-(B*B*B*c)),B*B*B*b,B*B*B*a,0],[B*B*B*(-(f)),B*B*(-(B*e)),0,-(-(B*B*B*c)),B*B*B*b,B*B*B*a],[B*B*B*B*(1),B*B*B*(-(f)),0,0,-(-(B*B*B*c)),B*B*B*b],[0,B*B*B*B*(1),0,0,0,-(-(B*B*B*c))]],-(B*B*B*c)):=by
 refine aT (CQ B a b c d e f) ?_ ?_
 ·simp only[bM,bN,hJ,cQ,List.map,List.zipWith,ax,aA,List.replicate]
  (repeat' apply br) <;> grind
 ·simp only[dH,af,ag];grind
theorem CO (B a b c d e f:Int):bQ [[0,B,0,0,0,0],[0,0,B,0,0,0],[0,0,0,B,0,0],[0,0,0,0,B,0],[0,0,0,0,0,B],[a,b,c,d,e,f]] 6 5=([[0,B*B*B*B*a,0,0,0,0],[B*(-(B*B*B*c)),-(-(B*B*B*B*b)),B*B*B*B*a,0,0,0],[B*B*(-(B*B*d)),0,-(-(B*B*B*B*b)),B*B*B*B*a,0,0],[B*B*B*(-(B*e)),0,0,-(-(B*B*B*B*b)),B*B*B*B*a,0],[B*B*B*B*(-(f)),0,0,0,-(-(B*B*B*B*b)),B*B*B*B*a],[B*B*B*B*B*(1),0,0,0,0,-(-(B*B*B*B*b))]],-(B*B*B*B*b)):=by
 refine aT (CP B a b c d e f) ?_ ?_
 ·simp only[bM,bN,hJ,cQ,List.map,List.zipWith,ax,aA,List.replicate]
  (repeat' apply br) <;> grind
 ·simp only[dH,af,ag];grind
theorem Fz (B a b c d e f:Int):bQ [[0,B,0,0,0,0],[0,0,B,0,0,0],[0,0,0,B,0,0],[0,0,0,0,B,0],[0,0,0,0,0,B],[a,b,c,d,e,f]] 6 6=([[-(-(B*B*B*B*B*a)),0,0,0,0,0],[0,-(-(B*B*B*B*B*a)),0,0,0,0],[0,0,-(-(B*B*B*B*B*a)),0,0,0],[0,0,0,-(-(B*B*B*B*B*a)),0,0],[0,0,0,0,-(-(B*B*B*B*B*a)),0],[0,0,0,0,0,-(-(B*B*B*B*B*a))]],-(B*B*B*B*B*a)):=by
 refine aT (CO B a b c d e f) ?_ ?_
 ·simp only[bM,bN,hJ,cQ,List.map,List.zipWith,ax,aA,List.replicate]
  (repeat' apply br) <;> grind
 ·simp only[dH,af,ag];grind
theorem CN (B a b c d e f g:Int):bQ [[0,B,0,0,0,0,0],[0,0,B,0,0,0,0],[0,0,0,B,0,0,0],[0,0,0,0,B,0,0],[0,0,0,0,0,B,0],[0,0,0,0,0,0,B],[a,b,c,d,e,f,g]] 7 1=([[0,0,0,0,0,0,a],[B*(1),0,0,0,0,0,b],[0,B*(1),0,0,0,0,c],[0,0,B*(1),0,0,0,d],[0,0,0,B*(1),0,0,e],[0,0,0,0,B*(1),0,f],[0,0,0,0,0,B*(1),-(-(g))]],-(g)):=by
 refine aT (C:=List.replicate 7 (List.replicate 7 0)) (l:=1) rfl ?_ ?_
 ·simp only[bM,bN,hJ,cQ,List.map,List.zipWith,ax,aA,List.replicate]
  (repeat' apply br) <;> grind
 ·simp only[dH,af,ag];grind
theorem CM (B a b c d e f g:Int):bQ [[0,B,0,0,0,0,0],[0,0,B,0,0,0,0],[0,0,0,B,0,0,0],[0,0,0,0,B,0,0],[0,0,0,0,0,B,0],[0,0,0,0,0,0,B],[a,b,c,d,e,f,g]] 7 2=([[0,0,0,0,0,B*a,0],[B*(-(g)),0,0,0,0,B*b,B*a],[B*B*(1),B*(-(g)),0,0,0,B*c,B*b],[0,B*B*(1),B*(-(g)),0,0,B*d,B*c],[0,0,B*B*(1),B*(-(g)),0,B*e,B*d],[0,0,0,B*B*(1),B*(-(g)),-(-(B*f)),B*e],[0,0,0,0,B*B*(1),0,-(-(B*f))]],-(B*f)):=by
 refine aT (CN B a b c d e f g) ?_ ?_
 ·simp only[bM,bN,hJ,cQ,List.map,List.zipWith,ax,aA,List.replicate]
  (repeat' apply br) <;> grind
 ·simp only[dH,af,ag];grind
theorem CL (B a b c d e f g:Int):bQ [[0,B,0,0,0,0,0],[0,0,B,0,0,0,0],[0,0,0,B,0,0,0],[0,0,0,0,B,0,0],[0,0,0,0,0,B,0],[0,0,0,0,0,0,B],[a,b,c,d,e,f,g]] 7 3=([[0,0,0,0,B*B*a,0,0],[B*(-(B*f)),0,0,0,B*B*b,B*B*a,0],[B*B*(-(g)),B*(-(B*f)),0,0,B*B*c,B*B*b,B*B*a],[B*B*B*(1),B*B*(-(g)),B*(-(B*f)),0,B*B*d,B*B*c,B*B*b],[0,B*B*B*(1),B*B*(-(g)),B*(-(B*f)),-(-(B*B*e)),B*B*d,B*B*c],[0,0,B*B*B*(1),B*B*(-(g)),0,-(-(B*B*e)),B*B*d],[0,0,0,B*B*B*(1),0,0,-(-(B*B*e))]],-(B*B*e)):=by
 refine aT (CM B a b c d e f g) ?_ ?_
 ·simp only[bM,bN,hJ,cQ,List.map,List.zipWith,ax,aA,List.replicate]
  (repeat' apply br) <;> grind
 ·simp only[dH,af,ag];grind
theorem CK (B a b c d e f g:Int):bQ [[0,B,0,0,0,0,0],[0,0,B,0,0,0,0],[0,0,0,B,0,0,0],[0,0,0,0,B,0,0],[0,0,0,0,0,B,0],[0,0,0,0,0,0,B],[a,b,c,d,e,f,g]] 7 4=([[0,0,0,B*B*B*a,0,0,0],[B*(-(B*B*e)),0,0,B*B*B*b,B*B*B*a,0,0],[B*B*(-(B*f)),B*(-(B*B*e)),0,B*B*B*c,B*B*B*b,B*B*B*a,0],[B*B*B*(-(g)),B*B*(-(B*f)),B*(-(B*B*e)),-(-(B*B*B*d)),B*B*B*c,B*B*B*b,B*B*B*a],[B*B*B*B*(1),B*B*B*(-(g)),B*B*(-(B*f)),0,-(-(B*B*B*d)),B*B*B*c,B*B*B*b],[0,B*B*B*B*(1),B*B*B*(-(g)),0,0,-(-(B*B*B*d)),B*B*B*c],[0,0,B*B*B*B*(1),0,0,0,-(-(B*B*B*d))]],-(B*B*B*d)):=by
 refine aT (CL B a b c d e f g) ?_ ?_
 ·simp only[bM,bN,hJ,cQ,List.map,List.zipWith,ax,aA,List.replicate]
  (repeat' apply br) <;> grind
 ·simp only[dH,af,ag];grind
theorem CJ (B a b c d e f g:Int):bQ [[0,B,0,0,0,0,0],[0,0,B,0,0,0,0],[0,0,0,B,0,0,0],[0,0,0,0,B,0,0],[0,0,0,0,0,B,0],[0,0,0,0,0,0,B],[a,b,c,d,e,f,g]] 7 5=([[0,0,B*B*B*B*a,0,0,0,0],[B*(-(B*B*B*d)),0,B*B*B*B*b,B*B*B*B*a,0,0,0],[B*B*(-(B*B*e)),B*(-(B*B*B*d)),-(-(B*B*B*B*c)),B*B*B*B*b,B*B*B*B*a,0,0],[B*B*B*(-(B*f)),B*B*(-(B*B*e)),0,-(-(B*B*B*B*c)),B*B*B*B*b,B*B*B*B*a,0],[B*B*B*B*(-(g)),B*B*B*(-(B*f)),0,0,-(-(B*B*B*B*c)),B*B*B*B*b,B*B*B*B*a],[B*B*B*B*B*(1),B*B*B*B*(-(g)),0,0,0,-(-(B*B*B*B*c)),B*B*B*B*b],[0,B*B*B*B*B*(1),0,0,0,0,-(-(B*B*B*B*c))]],-(B*B*B*B*c)):=by
 refine aT (CK B a b c d e f g) ?_ ?_
 ·simp only[bM,bN,hJ,cQ,List.map,List.zipWith,ax,aA,List.replicate]
  (repeat' apply br) <;> grind
 ·simp only[dH,af,ag];grind
theorem CI (B a b c d e f g:Int):bQ [[0,B,0,0,0,0,0],[0,0,B,0,0,0,0],[0,0,0,B,0,0,0],[0,0,0,0,B,0,0],[0,0,0,0,0,B,0],[0,0,0,0,0,0,B],[a,b,c,d,e,f,g]] 7 6=([[0,B*B*B*B*B*a,0,0,0,0,0],[B*(-(B*B*B*B*c)),-(-(B*B*B*B*B*b)),B*B*B*B*B*a,0,0,0,0],[B*B*(-(B*B*B*d)),0,-(-(B*B*B*B*B*b)),B*B*B*B*B*a,0,0,0],[B*B*B*(-(B*B*e)),0,0,-(-(B*B*B*B*B*b)),B*B*B*B*B*a,0,0],[B*B*B*B*(-(B*f)),0,0,0,-(-(B*B*B*B*B*b)),B*B*B*B*B*a,0],[B*B*B*B*B*(-(g)),0,0,0,0,-(-(B*B*B*B*B*b)),B*B*B*B*B*a],[B*B*B*B*B*B*(1),0,0,0,0,0,-(-(B*B*B*B*B*b))]],-(B*B*B*B*B*b)):=by
 refine aT (CJ B a b c d e f g) ?_ ?_
 ·simp only[bM,bN,hJ,cQ,List.map,List.zipWith,ax,aA,List.replicate]
  (repeat' apply br) <;> grind
 ·simp only[dH,af,ag];grind
theorem Fy (B a b c d e f g:Int):bQ [[0,B,0,0,0,0,0],[0,0,B,0,0,0,0],[0,0,0,B,0,0,0],[0,0,0,0,B,0,0],[0,0,0,0,0,B,0],[0,0,0,0,0,0,B],[a,b,c,d,e,f,g]] 7 7=([[-(-(B*B*B*B*B*B*a)),0,0,0,0,0,0],[0,-(-(B*B*B*B*B*B*a)),0,0,0,0,0],[0,0,-(-(B*B*B*B*B*B*a)),0,0,0,0],[0,0,0,-(-(B*B*B*B*B*B*a)),0,0,0],[0,0,0,0,-(-(B*B*B*B*B*B*a)),0,0],[0,0,0,0,0,-(-(B*B*B*B*B*B*a)),0],[0,0,0,0,0,0,-(-(B*B*B*B*B*B*a))]],-(B*B*B*B*B*B*a)):=by
 refine aT (CI B a b c d e f g) ?_ ?_
 ·simp only[bM,bN,hJ,cQ,List.map,List.zipWith,ax,aA,List.replicate]
  (repeat' apply br) <;> grind
 ·simp only[dH,af,ag];grind
theorem CH (B a b c d e f g h:Int):bQ [[0,B,0,0,0,0,0,0],[0,0,B,0,0,0,0,0],[0,0,0,B,0,0,0,0],[0,0,0,0,B,0,0,0],[0,0,0,0,0,B,0,0],[0,0,0,0,0,0,B,0],[0,0,0,0,0,0,0,B],[a,b,c,d,e,f,g,h]] 8 1=([[0,0,0,0,0,0,0,a],[B*(1),0,0,0,0,0,0,b],[0,B*(1),0,0,0,0,0,c],[0,0,B*(1),0,0,0,0,d],[0,0,0,B*(1),0,0,0,e],[0,0,0,0,B*(1),0,0,f],[0,0,0,0,0,B*(1),0,g],[0,0,0,0,0,0,B*(1),-(-(h))]],-(h)):=by
 refine aT (C:=List.replicate 8 (List.replicate 8 0)) (l:=1) rfl ?_ ?_
 ·simp only[bM,bN,hJ,cQ,List.map,List.zipWith,ax,aA,List.replicate]
  (repeat' apply br) <;> grind
 ·simp only[dH,af,ag];grind
theorem CG (B a b c d e f g h:Int):bQ [[0,B,0,0,0,0,0,0],[0,0,B,0,0,0,0,0],[0,0,0,B,0,0,0,0],[0,0,0,0,B,0,0,0],[0,0,0,0,0,B,0,0],[0,0,0,0,0,0,B,0],[0,0,0,0,0,0,0,B],[a,b,c,d,e,f,g,h]] 8 2=([[0,0,0,0,0,0,B*a,0],[B*(-(h)),0,0,0,0,0,B*b,B*a],[B*B*(1),B*(-(h)),0,0,0,0,B*c,B*b],[0,B*B*(1),B*(-(h)),0,0,0,B*d,B*c],[0,0,B*B*(1),B*(-(h)),0,0,B*e,B*d],[0,0,0,B*B*(1),B*(-(h)),0,B*f,B*e],[0,0,0,0,B*B*(1),B*(-(h)),-(-(B*g)),B*f],[0,0,0,0,0,B*B*(1),0,-(-(B*g))]],-(B*g)):=by
 refine aT (CH B a b c d e f g h) ?_ ?_
 ·simp only[bM,bN,hJ,cQ,List.map,List.zipWith,ax,aA,List.replicate]
  (repeat' apply br) <;> grind
 ·simp only[dH,af,ag];grind
theorem CF (B a b c d e f g h:Int):bQ [[0,B,0,0,0,0,0,0],[0,0,B,0,0,0,0,0],[0,0,0,B,0,0,0,0],[0,0,0,0,B,0,0,0],[0,0,0,0,0,B,0,0],[0,0,0,0,0,0,B,0],[0,0,0,0,0,0,0,B],[a,b,c,d,e,f,g,h]] 8 3=([[0,0,0,0,0,B*B*a,0,0],[B*(-(B*g)),0,0,0,0,B*B*b,B*B*a,0],[B*B*(-(h)),B*(-(B*g)),0,0,0,B*B*c,B*B*b,B*B*a],[B*B*B*(1),B*B*(-(h)),B*(-(B*g)),0,0,B*B*d,B*B*c,B*B*b],[0,B*B*B*(1),B*B*(-(h)),B*(-(B*g)),0,B*B*e,B*B*d,B*B*c],[0,0,B*B*B*(1),B*B*(-(h)),B*(-(B*g)),-(-(B*B*f)),B*B*e,B*B*d],[0,0,0,B*B*B*(1),B*B*(-(h)),0,-(-(B*B*f)),B*B*e],[0,0,0,0,B*B*B*(1),0,0,-(-(B*B*f))]],-(B*B*f)):=by
 refine aT (CG B a b c d e f g h) ?_ ?_
 ·simp only[bM,bN,hJ,cQ,List.map,List.zipWith,ax,aA,List.replicate]
  (repeat' apply br) <;> grind
 ·simp only[dH,af,ag];grind
theorem CD (B a b c d e f g h:Int):bQ [[0,B,0,0,0,0,0,0],[0,0,B,0,0,0,0,0],[0,0,0,B,0,0,0,0],[0,0,0,0,B,0,0,0],[0,0,0,0,0,B,0,0],[0,0,0,0,0,0,B,0],[0,0,0,0,0,0,0,B],[a,b,c,d,e,f,g,h]] 8 4=([[0,0,0,0,B*B*B*a,0,0,0],[B*(-(B*B*f)),0,0,0,B*B*B*b,B*B*B*a,0,0],[B*B*(-(B*g)),B*(-(B*B*f)),0,0,B*B*B*c,B*B*B*b,B*B*B*a,0],[B*B*B*(-(h)),B*B*(-(B*g)),B*(-(B*B*f)),0,B*B*B*d,B*B*B*c,B*B*B*b,B*B*B*a],[B*B*B*B*(1),B*B*B*(-(h)),B*B*(-(B*g)),B*(-(B*B*f)),-(-(B*B*B*e)),B*B*B*d,B*B*B*c,B*B*B*b],[0,B*B*B*B*(1),B*B*B*(-(h)),B*B*(-(B*g)),0,-(-(B*B*B*e)),B*B*B*d,B*B*B*c],[0,0,B*B*B*B*(1),B*B*B*(-(h)),0,0,-(-(B*B*B*e)),B*B*B*d],[0,0,0,B*B*B*B*(1),0,0,0,-(-(B*B*B*e))]],-(B*B*B*e)):=by
 refine aT (CF B a b c d e f g h) ?_ ?_
 ·simp only[bM,bN,hJ,cQ,List.map,List.zipWith,ax,aA,List.replicate]
  (repeat' apply br) <;> grind
 ·simp only[dH,af,ag];grind
theorem CC (B a b c d e f g h:Int):bQ [[0,B,0,0,0,0,0,0],[0,0,B,0,0,0,0,0],[0,0,0,B,0,0,0,0],[0,0,0,0,B,0,0,0],[0,0,0,0,0,B,0,0],[0,0,0,0,0,0,B,0],[0,0,0,0,0,0,0,B],[a,b,c,d,e,f,g,h]] 8 5=([[0,0,0,B*B*B*B*a,0,0,0,0],[B*(-(B*B*B*e)),0,0,B*B*B*B*b,B*B*B*B*a,0,0,0],[B*B*(-(B*B*f)),B*(-(B*B*B*e)),0,B*B*B*B*c,B*B*B*B*b,B*B*B*B*a,0,0],[B*B*B*(-(B*g)),B*B*(-(B*B*f)),B*(-(B*B*B*e)),-(-(B*B*B*B*d)),B*B*B*B*c,B*B*B*B*b,B*B*B*B*a,0],[B*B*B*B*(-(h)),B*B*B*(-(B*g)),B*B*(-(B*B*f)),0,-(-(B*B*B*B*d)),B*B*B*B*c,B*B*B*B*b,B*B*B*B*a],[B*B*B*B*B*(1),B*B*B*B*(-(h)),B*B*B*(-(B*g)),0,0,-(-(B*B*B*B*d)),B*B*B*B*c,B*B*B*B*b],[0,B*B*B*B*B*(1),B*B*B*B*(-(h)),0,0,0,-(-(B*B*B*B*d)),B*B*B*B*c],[0,0,B*B*B*B*B*(1),0,0,0,0,-(-(B*B*B*B*d))]],-(B*B*B*B*d)):=by
 refine aT (CD B a b c d e f g h) ?_ ?_
 ·simp only[bM,bN,hJ,cQ,List.map,List.zipWith,ax,aA,List.replicate]
  (repeat' apply br) <;> grind
 ·simp only[dH,af,ag];grind
theorem CB (B a b c d e f g h:Int):bQ [[0,B,0,0,0,0,0,0],[0,0,B,0,0,0,0,0],[0,0,0,B,0,0,0,0],[0,0,0,0,B,0,0,0],[0,0,0,0,0,B,0,0],[0,0,0,0,0,0,B,0],[0,0,0,0,0,0,0,B],[a,b,c,d,e,f,g,h]] 8 6=([[0,0,B*B*B*B*B*a,0,0,0,0,0],[B*(-(B*B*B*B*d)),0,B*B*B*B*B*b,B*B*B*B*B*a,0,0,0,0],[B*B*(-(B*B*B*e)),B*(-(B*B*B*B*d)),-(-(B*B*B*B*B*c)),B*B*B*B*B*b,B*B*B*B*B*a,0,0,0],[B*B*B*(-(B*B*f)),B*B*(-(B*B*B*e)),0,-(-(B*B*B*B*B*c)),B*B*B*B*B*b,B*B*B*B*B*a,0,0],[B*B*B*B*(-(B*g)),B*B*B*(-(B*B*f)),0,0,-(-(B*B*B*B*B*c)),B*B*B*B*B*b,B*B*B*B*B*a,0],[B*B*B*B*B*(-(h)),B*B*B*B*(-(B*g)),0,0,0,-(-(B*B*B*B*B*c)),B*B*B*B*B*b,B*B*B*B*B*a],[B*B*B*B*B*B*(1),B*B*B*B*B*(-(h)),0,0,0,0,-(-(B*B*B*B*B*c)),B*B*B*B*B*b],[0,B*B*B*B*B*B*(1),0,0,0,0,0,-(-(B*B*B*B*B*c))]],-(B*B*B*B*B*c)):=by
 refine aT (CC B a b c d e f g h) ?_ ?_
 ·simp only[bM,bN,hJ,cQ,List.map,List.zipWith,ax,aA,List.replicate]
  (repeat' apply br) <;> grind
 ·simp only[dH,af,ag];grind
theorem CA (B a b c d e f g h:Int):bQ [[0,B,0,0,0,0,0,0],[0,0,B,0,0,0,0,0],[0,0,0,B,0,0,0,0],[0,0,0,0,B,0,0,0],[0,0,0,0,0,B,0,0],[0,0,0,0,0,0,B,0],[0,0,0,0,0,0,0,B],[a,b,c,d,e,f,g,h]] 8 7=([[0,B*B*B*B*B*B*a,0,0,0,0,0,0],[B*(-(B*B*B*B*B*c)),-(-(B*B*B*B*B*B*b)),B*B*B*B*B*B*a,0,0,0,0,0],[B*B*(-(B*B*B*B*d)),0,-(-(B*B*B*B*B*B*b)),B*B*B*B*B*B*a,0,0,0,0],[B*B*B*(-(B*B*B*e)),0,0,-(-(B*B*B*B*B*B*b)),B*B*B*B*B*B*a,0,0,0],[B*B*B*B*(-(B*B*f)),0,0,0,-(-(B*B*B*B*B*B*b)),B*B*B*B*B*B*a,0,0],[B*B*B*B*B*(-(B*g)),0,0,0,0,-(-(B*B*B*B*B*B*b)),B*B*B*B*B*B*a,0],[B*B*B*B*B*B*(-(h)),0,0,0,0,0,-(-(B*B*B*B*B*B*b)),B*B*B*B*B*B*a],[B*B*B*B*B*B*B*(1),0,0,0,0,0,0,-(-(B*B*B*B*B*B*b))]],-(B*B*B*B*B*B*b)):=by
 refine aT (CB B a b c d e f g h) ?_ ?_
 ·simp only[bM,bN,hJ,cQ,List.map,List.zipWith,ax,aA,List.replicate]
  (repeat' apply br) <;> grind
 ·simp only[dH,af,ag];grind
theorem Fx (B a b c d e f g h:Int):bQ [[0,B,0,0,0,0,0,0],[0,0,B,0,0,0,0,0],[0,0,0,B,0,0,0,0],[0,0,0,0,B,0,0,0],[0,0,0,0,0,B,0,0],[0,0,0,0,0,0,B,0],[0,0,0,0,0,0,0,B],[a,b,c,d,e,f,g,h]] 8 8=([[-(-(B*B*B*B*B*B*B*a)),0,0,0,0,0,0,0],[0,-(-(B*B*B*B*B*B*B*a)),0,0,0,0,0,0],[0,0,-(-(B*B*B*B*B*B*B*a)),0,0,0,0,0],[0,0,0,-(-(B*B*B*B*B*B*B*a)),0,0,0,0],[0,0,0,0,-(-(B*B*B*B*B*B*B*a)),0,0,0],[0,0,0,0,0,-(-(B*B*B*B*B*B*B*a)),0,0],[0,0,0,0,0,0,-(-(B*B*B*B*B*B*B*a)),0],[0,0,0,0,0,0,0,-(-(B*B*B*B*B*B*B*a))]],-(B*B*B*B*B*B*B*a)):=by
 refine aT (CA B a b c d e f g h) ?_ ?_
 ·simp only[bM,bN,hJ,cQ,List.map,List.zipWith,ax,aA,List.replicate]
  (repeat' apply br) <;> grind
 ·simp only[dH,af,ag];grind
theorem zv {C:List (List Int)} {n:Nat} (h:C.length=n):((dH 0 C:Int):Rat)=aY n λi=>(((C.getD i []).getD i 0:Int):Rat):=by
 have key:∀(C:List (List Int)) (p:Nat),((dH p C:Int):Rat)=aY C.length λi=>(((C.getD i []).getD (p+i) 0:Int):Rat):=by
  intro C
  induction C with
  | nil=>intro p;rfl
  | cons c r ih =>
   intro p;show ((c.getD p 0+dH (p+1) r:Int):Rat)=_
   rw[jN,ih (p+1),cD,show r.length+1=1+r.length by lia,nU (a:=1) (b:=r.length)];congr 1
   ·show _=0+(((c.getD (p+0) 0:Int)):Rat)
    rw[Rat.zero_add,Nat.add_zero]
   ·refine bh λi _=>?_
    rw[show p+1+i=p+(1+i) by lia,show 1+i=i+1 by lia];rfl
 rw[key C 0,h];exact bh λi _=>by rw[oh]
theorem wq {T:List (List Int)} {n:Nat} (n4:n<=4) (hT:T.length=n) (hw:∀l∈T,l.length=n) {k:Nat} (hk:k < n):-(dH 0 (bQ T n (k+1)).1)=((k:Int)+1)*(bQ T n (k+1)).2:=by
 have hn:n=1\/n=2\/n=3\/n=4:=by lia
 rcases hn with rfl | rfl | rfl | rfl
 ·obtain ⟨r,rfl⟩:=BG hT;obtain ⟨a,rfl⟩:=BG (hw r (by simp));obtain rfl:k=0:=by lia
  exact Fw a
 ·obtain ⟨r,s,rfl⟩:=yX hT;obtain ⟨a,b,rfl⟩:=yX (hw r (by simp));obtain ⟨c,d,rfl⟩:=yX (hw s (by simp));rcases (show k=0\/k=1 by lia) with rfl | rfl
  ·exact Fv a b c d
  ·exact Fu a b c d
 ·obtain ⟨r,s,t,rfl⟩:=wd hT;obtain ⟨a,b,c,rfl⟩:=wd (hw r (by simp));obtain ⟨d,e,f,rfl⟩:=wd (hw s (by simp));obtain ⟨g,h,l,rfl⟩:=wd (hw t (by simp));rcases (show k=0\/k=1\/k=2 by lia) with rfl | rfl | rfl
  ·exact Ft a b c d e f g h l
  ·exact Fs a b c d e f g h l
  ·exact Fq a b c d e f g h l
 ·obtain ⟨r,s,t,u,rfl⟩:=tq hT;obtain ⟨a,b,c,d,rfl⟩:=tq (hw r (by simp));obtain ⟨e,f,g,h,rfl⟩:=tq (hw s (by simp));obtain ⟨l,m,o,p,rfl⟩:=tq (hw t (by simp));obtain ⟨q,v,w,x,rfl⟩:=tq (hw u (by simp));rcases (show k=0\/k=1\/k=2\/k=3 by lia) with rfl | rfl | rfl | rfl
  ·exact Fp a b c d e f g h l m o p q v w x
  ·exact Fo a b c d e f g h l m o p q v w x
  ·exact Fn a b c d e f g h l m o p q v w x
  ·exact Fm a b c d e f g h l m o p q v w x
def dc (A:Nat->Nat->Rat) (n:Nat):Nat->(Nat->Nat->Rat)×Rat
 | 0=>(λ_ _=>0,1)
 | k+1=>(λi j=>aY n λl=>A i l*((dc A n k).1 l j+if l=j then (dc A n k).2 else 0),-(aY n λi=>aY n λl=>A i l*((dc A n k).1 l i+if l=i then (dc A n k).2 else 0)) / ((k+1:Nat):Rat))
section
variable {A A':Nat->Nat->Rat} {n:Nat}
theorem t9 (h:∀i l,i < n->l < n->A i l=A' i l):∀k,(∀i j,i < n->j < n->(dc A n k).1 i j=(dc A' n k).1 i j)/\(dc A n k).2=(dc A' n k).2
 | 0=>⟨λ_ _ _ _=>rfl,rfl⟩
 | k+1=>by
  obtain ⟨h1,h2⟩:=t9 h k;have e:∀i j,i < n->j < n->(aY n λl=>A i l*((dc A n k).1 l j+if l=j then (dc A n k).2 else 0))=aY n λl=>A' i l*((dc A' n k).1 l j+if l=j then (dc A' n k).2 else 0):=λi j hi hj=>bh λl hl=>by rw[h i l hi hl,h1 l j hl hj,h2]
  refine ⟨e,?_⟩;show -(aY n _) / _=-(aY n _) / _
  rw[bh λi hi=>e i i hi hi]
theorem wo:∀k i j,i < n->j < n->(aY n λl=>A i l*(dc A n k).1 l j)=aY n λl=>(dc A n k).1 i l*A l j
 | 0,i,j,_,_=>by
  show (aY n λl=>A i l*0)=aY n λl=>0*A l j
  rw[iq λl _=>Rat.mul_zero _,iq λl _=>fM _]
 | k+1,i,j,hi,hj=>by
  have e1:∀m,m < n->(dc A n (k+1)).1 m j=aY n (λl=>A m l*(dc A n k).1 l j)+(dc A n k).2*A m j:=λm hm=>by
   show (aY n λl=>A m l*((dc A n k).1 l j+if l=j then (dc A n k).2 else 0))=_
   have:(aY n λl=>A m l*((dc A n k).1 l j+if l=j then (dc A n k).2 else 0))=aY n λl=>A m l*(dc A n k).1 l j+if l=j then (dc A n k).2*A m l else 0:=bh λl _=>by
    by_cases e:l=j
    ·rw[if_pos e,if_pos e];grind
    ·rw[if_neg e,if_neg e];grind
   rw[this,jb,jW (i:=j) hj λl _ ne=>if_neg ne,if_pos rfl]
  have e2:(aY n λl=>(dc A n (k+1)).1 i l*A l j)=aY n λm=>A i m*(aY n (λl=>(dc A n k).1 m l*A l j)+(dc A n k).2*A m j):=by
   have a1:(aY n λl=>(dc A n (k+1)).1 i l*A l j)=aY n λl=>aY n λm=>A i m*((dc A n k).1 m l*A l j)+if m=l then (dc A n k).2*(A i m*A m j) else 0:=bh λl hl=>by
    show (aY n λm=>A i m*((dc A n k).1 m l+if m=l then (dc A n k).2 else 0))*A l j=_
    rw[rA,<- eQ];refine bh λm _=>?_
    by_cases e:m=l
    ·rw[if_pos e,if_pos e,e];grind
    ·rw[if_neg e,if_neg e];grind
   rw[a1,nR];refine bh λm hm=>?_
   rw[jb,eQ,jW (i:=m) hm λl _ ne=>if_neg λz=>ne z.symm,if_pos rfl];grind
  rw[e2];refine bh λm hm=>?_
  rw[e1 m hm,wo k m j hm hj]
theorem wm:∀k,(∀i j,i < n->j < n->(dc (λi j=>A j i) n k).1 i j=(dc A n k).1 j i)/\(dc (λi j=>A j i) n k).2=(dc A n k).2
 | 0=>⟨λ_ _ _ _=>rfl,rfl⟩
 | k+1=>by
  obtain ⟨h1,h2⟩:=wm k
  have e:∀i j,i < n->j < n->(dc (λi j=>A j i) n (k+1)).1 i j=(dc A n (k+1)).1 j i:=λi j hi hj=>by
   show (aY n λl=>A l i*((dc (λi j=>A j i) n k).1 l j+if l=j then (dc (λi j=>A j i) n k).2 else 0))=aY n λl=>A j l*((dc A n k).1 l i+if l=i then (dc A n k).2 else 0)
   have a1:(aY n λl=>A l i*((dc (λi j=>A j i) n k).1 l j+if l=j then (dc (λi j=>A j i) n k).2 else 0))=aY n (λl=>(dc A n k).1 j l*A l i)+(dc A n k).2*A j i:=by
    have:(aY n λl=>A l i*((dc (λi j=>A j i) n k).1 l j+if l=j then (dc (λi j=>A j i) n k).2 else 0))=aY n λl=>(dc A n k).1 j l*A l i+if l=j then (dc A n k).2*A l i else 0:=bh λl hl=>by
     rw[h1 l j hl hj,h2];by_cases e:l=j
     ·rw[if_pos e,if_pos e];grind
     ·rw[if_neg e,if_neg e];grind
    rw[this,jb,jW (i:=j) hj λl _ ne=>if_neg ne,if_pos rfl]
   have a2:(aY n λl=>A j l*((dc A n k).1 l i+if l=i then (dc A n k).2 else 0))=aY n (λl=>A j l*(dc A n k).1 l i)+(dc A n k).2*A j i:=by
    have:(aY n λl=>A j l*((dc A n k).1 l i+if l=i then (dc A n k).2 else 0))=aY n λl=>A j l*(dc A n k).1 l i+if l=i then (dc A n k).2*A j l else 0:=bh λl _=>by
     by_cases e:l=i
     ·rw[if_pos e,if_pos e];grind
     ·rw[if_neg e,if_neg e];grind
    rw[this,jb,jW (i:=i) hi λl _ ne=>if_neg ne,if_pos rfl]
   rw[a1,a2,wo k j i hj hi]
  refine ⟨e,?_⟩;show -(aY n λi=>(dc (λi j=>A j i) n (k+1)).1 i i) / _=-(aY n λi=>(dc A n (k+1)).1 i i) / _
  rw[bh λi hi=>e i i hi hi]
theorem xx {T:List (List Int)} {B:Rat} (hB:B≠0) (hT:T.length=n) (hw:∀l∈T,l.length=n) (ex:∀k,k < n->-(dH 0 (bQ T n (k+1)).1)=((k:Int)+1)*(bQ T n (k+1)).2) (hA:∀i l,i < n->l < n->A i l=(((T.getD i []).getD l 0:Int):Rat) / B):∀k,k<=n->(∀i j,i < n->j < n->zj T n B k i j=(dc A n k).1 i j)/\wL T n B k=(dc A n k).2
 | 0,_=>by
  refine ⟨λi j hi hj=>?_,?_⟩
  ·unfold zj
   have:((bQ T n 0).1.getD j []).getD i 0=0:=by
    show ((List.replicate n (List.replicate n (0:Int))).getD j []).getD i 0=0
    rw[ae (l:=List.replicate _ (List.replicate _ _)),dD,if_pos hj];show (List.replicate n (0:Int)).getD i 0=0
    rw[ae,dD,if_pos hi];rfl
   rw[this];show (0:Rat) / _=0
   rw[bR,fM]
  ·unfold wL;show ((1:Int):Rat) / _=1
   rw[Rat.pow_zero,show ((1:Int):Rat)=1 from rfl,bR];grind
 | k+1,hk=>by
  obtain ⟨h1,h2⟩:=xx hB hT hw ex hA k (by lia)
  have e:∀i j,i < n->j < n->zj T n B (k+1) i j=(dc A n (k+1)).1 i j:=λi j hi hj=>by
   rw[wt hB hT hw hi hj];show _=aY n λl=>A i l*((dc A n k).1 l j+if l=j then (dc A n k).2 else 0)
   exact bh λl hl=>by rw[hA i l hi hl,h1 l j hl hj,h2]
  refine ⟨e,?_⟩;show _=-(aY n λi=>(dc A n (k+1)).1 i i) / ((k+1:Nat):Rat)
  rw[<- bh λi hi=>e i i hi hi];have x:=congrArg (λz:Int=>(z:Rat)) (ex k (by lia));have x:((-(dH 0 (bQ T n (k+1)).1):Int):Rat)=((((k:Int)+1)*(bQ T n (k+1)).2:Int):Rat):=x;rw[jM,zv (jg hT (k+1)).1,aH] at x;have kc:(((k:Int)+1:Int):Rat)=((k+1:Nat):Rat):=by rw[<- aZ];congr 1
  have k0:((k+1:Nat):Rat)≠0:=λz=>by
   have:(((k+1:Nat):Int):Rat)=0:=by rw[aZ];exact z
   have:=yq this
   lia
  rw[kc] at x;have hp:=oK hB (k+1)
  have s:(aY n λi=>zj T n B (k+1) i i)=(B^(k+1))⁻¹*aY n λi=>((((bQ T n (k+1)).1.getD i []).getD i 0:Int):Rat):=by
   rw[<- eQ];refine bh λi _=>?_
   unfold zj;rw[bR,rA]
  rw[s];unfold wL;generalize (aY n λi=>((((bQ T n (k+1)).1.getD i []).getD i 0:Int):Rat))=S at x ⊢;generalize ((k+1:Nat):Rat)=q at x k0 ⊢;rw[bR,bR];have:q*q⁻¹=1:=jU _ k0;grind
end
def AJ (A:Nat->Nat->Rat) (n:Nat):List Rat:=((List.range n).map λk=>-((dc A n (k+1)).2)).reverse
theorem yA {A A':Nat->Nat->Rat} {n:Nat} (h:∀i l,i < n->l < n->A i l=A' i l):AJ A n=AJ A' n:=by
 unfold AJ;rw[b9 λk _=>by rw[(t9 h (k+1)).2]]
theorem zp {A:Nat->Nat->Rat} {n:Nat}:AJ (λi j=>A j i) n=AJ A n:=by
 unfold AJ;rw[b9 λk _=>by rw[(wm (A:=A) (k+1)).2]]
section
variable {mv:LR9} {M:Int}
theorem vB (hM:jL M (mv.flatten.map nm)) {i l:Nat}:(((dg mv).getD i []).getD l 0:Rat) / (cU mv:Rat)=fH mv i l:=by
 have hB:(cU mv:Rat)≠0:=λz=>by have:=cb.mp z;have:=hM.bot.1;unfold cU at *;lia
 rw[rH hM,bR,wK,jU _ hB,Rat.mul_one]
theorem vh (hM:jL M (mv.flatten.map nm)):(cU mv:Rat)≠0:=λz=>by have:=cb.mp z;have:=hM.bot.1;unfold cU at *;lia
theorem rF (n4:mv.length<=4) (hM:jL M (mv.flatten.map nm)) (hw:∀xs∈mv,xs.length=mv.length):d6 mv mv.length=AJ (fH mv) mv.length:=by
 have hT:=m5 (mv:=mv);have hW:=rG (mv:=mv) hw;unfold d6 AJ;rw[b9 λk hk=>by rw[(xx (A:=fH mv) (vh hM) hT hW (λk hk=>wq n4 hT hW hk) (λi l _ _=>(vB hM).symm) (k+1) (by have:=cK.mp hk;lia)).2]]
end
def Ef (n:Nat) (B:Int) (ls:List Int):List (List Int):=(List.range n).map λi=>if i+1=n then ls else (List.range n).map λj=>if j=i+1 then B else 0
theorem Ed {n:Nat} (n8:n<=8) (B:Int) {ls:List Int} (hl:ls.length=n) {k:Nat} (hk:k < n):(bQ (Ef n B ls) n (k+1)).2=-(B^k*ls.getD (n - (k+1)) 0):=by
 have hn:n=1\/n=2\/n=3\/n=4\/n=5\/n=6\/n=7\/n=8:=by lia
 rcases hn with rfl | rfl | rfl | rfl | rfl | rfl | rfl | rfl
 ·obtain ⟨a,rfl⟩:∃a,ls=[a]:=by match ls,hl with | [a],_=>exact ⟨a,rfl⟩
  obtain rfl:k=0:=by lia
  have h:=FF B a;show (bQ [[a]] 1 1).2=_
  rw[h];simp
 ·obtain ⟨a,b,rfl⟩:∃a b,ls=[a,b]:=by match ls,hl with | [a,b],_=>exact ⟨a,b,rfl⟩
  rcases (show k=0\/k=1 by lia) with rfl | rfl
  ·show (bQ [[0,B],[a,b]] 2 1).2=_
   rw[C4];show _=-(B^0*b)
   simp only[aK,aJ];grind
  ·show (bQ [[0,B],[a,b]] 2 2).2=_
   rw[FE];show _=-(B^1*a)
   simp only[aK,aJ];grind
 ·obtain ⟨a,b,c,rfl⟩:∃a b c,ls=[a,b,c]:=by match ls,hl with | [a,b,c],_=>exact ⟨a,b,c,rfl⟩
  rcases (show k=0\/k=1\/k=2 by lia) with rfl | rfl | rfl
  ·show (bQ [[0,B,0],[0,0,B],[a,b,c]] 3 1).2=_
   rw[C3];show _=-(B^0*c)
   simp only[aK,aJ];grind
  ·show (bQ [[0,B,0],[0,0,B],[a,b,c]] 3 2).2=_
   rw[C2];show _=-(B^1*b)
   simp only[aK,aJ];grind
  ·show (bQ [[0,B,0],[0,0,B],[a,b,c]] 3 3).2=_
   rw[FD];show _=-(B^2*a)
   simp only[aK,aJ];grind
 ·obtain ⟨a,b,c,d,rfl⟩:∃a b c d,ls=[a,b,c,d]:=by match ls,hl with | [a,b,c,d],_=>exact ⟨a,b,c,d,rfl⟩
  rcases (show k=0\/k=1\/k=2\/k=3 by lia) with rfl | rfl | rfl | rfl
  ·show (bQ [[0,B,0,0],[0,0,B,0],[0,0,0,B],[a,b,c,d]] 4 1).2=_
   rw[C1];show _=-(B^0*d)
   simp only[aK,aJ];grind
  ·show (bQ [[0,B,0,0],[0,0,B,0],[0,0,0,B],[a,b,c,d]] 4 2).2=_
   rw[C0];show _=-(B^1*c)
   simp only[aK,aJ];grind
  ·show (bQ [[0,B,0,0],[0,0,B,0],[0,0,0,B],[a,b,c,d]] 4 3).2=_
   rw[CZ];show _=-(B^2*b)
   simp only[aK,aJ];grind
  ·show (bQ [[0,B,0,0],[0,0,B,0],[0,0,0,B],[a,b,c,d]] 4 4).2=_
   rw[FC];show _=-(B^3*a)
   simp only[aK,aJ];grind
 ·obtain ⟨a,b,c,d,e,rfl⟩:∃a b c d e,ls=[a,b,c,d,e]:=by match ls,hl with | [a,b,c,d,e],_=>exact ⟨a,b,c,d,e,rfl⟩
  rcases (show k=0\/k=1\/k=2\/k=3\/k=4 by lia) with rfl | rfl | rfl | rfl | rfl
  ·show (bQ [[0,B,0,0,0],[0,0,B,0,0],[0,0,0,B,0],[0,0,0,0,B],[a,b,c,d,e]] 5 1).2=_
   rw[CY];show _=-(B^0*e)
   simp only[aK,aJ];grind
  ·show (bQ [[0,B,0,0,0],[0,0,B,0,0],[0,0,0,B,0],[0,0,0,0,B],[a,b,c,d,e]] 5 2).2=_
   rw[CW];show _=-(B^1*d)
   simp only[aK,aJ];grind
  ·show (bQ [[0,B,0,0,0],[0,0,B,0,0],[0,0,0,B,0],[0,0,0,0,B],[a,b,c,d,e]] 5 3).2=_
   rw[CV];show _=-(B^2*c)
   simp only[aK,aJ];grind
  ·show (bQ [[0,B,0,0,0],[0,0,B,0,0],[0,0,0,B,0],[0,0,0,0,B],[a,b,c,d,e]] 5 4).2=_
   rw[CU];show _=-(B^3*b)
   simp only[aK,aJ];grind
  ·show (bQ [[0,B,0,0,0],[0,0,B,0,0],[0,0,0,B,0],[0,0,0,0,B],[a,b,c,d,e]] 5 5).2=_
   rw[FA];show _=-(B^4*a)
   simp only[aK,aJ];grind
 ·obtain ⟨a,b,c,d,e,f,rfl⟩:∃a b c d e f,ls=[a,b,c,d,e,f]:=by match ls,hl with | [a,b,c,d,e,f],_=>exact ⟨a,b,c,d,e,f,rfl⟩
  rcases (show k=0\/k=1\/k=2\/k=3\/k=4\/k=5 by lia) with rfl | rfl | rfl | rfl | rfl | rfl
  ·show (bQ [[0,B,0,0,0,0],[0,0,B,0,0,0],[0,0,0,B,0,0],[0,0,0,0,B,0],[0,0,0,0,0,B],[a,b,c,d,e,f]] 6 1).2=_
   rw[CT];show _=-(B^0*f)
   simp only[aK,aJ];grind
  ·show (bQ [[0,B,0,0,0,0],[0,0,B,0,0,0],[0,0,0,B,0,0],[0,0,0,0,B,0],[0,0,0,0,0,B],[a,b,c,d,e,f]] 6 2).2=_
   rw[CS];show _=-(B^1*e)
   simp only[aK,aJ];grind
  ·show (bQ [[0,B,0,0,0,0],[0,0,B,0,0,0],[0,0,0,B,0,0],[0,0,0,0,B,0],[0,0,0,0,0,B],[a,b,c,d,e,f]] 6 3).2=_
   rw[CQ];show _=-(B^2*d)
   simp only[aK,aJ];grind
  ·show (bQ [[0,B,0,0,0,0],[0,0,B,0,0,0],[0,0,0,B,0,0],[0,0,0,0,B,0],[0,0,0,0,0,B],[a,b,c,d,e,f]] 6 4).2=_
   rw[CP];show _=-(B^3*c)
   simp only[aK,aJ];grind
  ·show (bQ [[0,B,0,0,0,0],[0,0,B,0,0,0],[0,0,0,B,0,0],[0,0,0,0,B,0],[0,0,0,0,0,B],[a,b,c,d,e,f]] 6 5).2=_
   rw[CO];show _=-(B^4*b)
   simp only[aK,aJ];grind
  ·show (bQ [[0,B,0,0,0,0],[0,0,B,0,0,0],[0,0,0,B,0,0],[0,0,0,0,B,0],[0,0,0,0,0,B],[a,b,c,d,e,f]] 6 6).2=_
   rw[Fz];show _=-(B^5*a)
   simp only[aK,aJ];grind
 ·obtain ⟨a,b,c,d,e,f,g,rfl⟩:∃a b c d e f g,ls=[a,b,c,d,e,f,g]:=by match ls,hl with | [a,b,c,d,e,f,g],_=>exact ⟨a,b,c,d,e,f,g,rfl⟩
  rcases (show k=0\/k=1\/k=2\/k=3\/k=4\/k=5\/k=6 by lia) with rfl | rfl | rfl | rfl | rfl | rfl | rfl
  ·show (bQ [[0,B,0,0,0,0,0],[0,0,B,0,0,0,0],[0,0,0,B,0,0,0],[0,0,0,0,B,0,0],[0,0,0,0,0,B,0],[0,0,0,0,0,0,B],[a,b,c,d,e,f,g]] 7 1).2=_
   rw[CN];show _=-(B^0*g)
   simp only[aK,aJ];grind
  ·show (bQ [[0,B,0,0,0,0,0],[0,0,B,0,0,0,0],[0,0,0,B,0,0,0],[0,0,0,0,B,0,0],[0,0,0,0,0,B,0],[0,0,0,0,0,0,B],[a,b,c,d,e,f,g]] 7 2).2=_
   rw[CM];show _=-(B^1*f)
   simp only[aK,aJ];grind
  ·show (bQ [[0,B,0,0,0,0,0],[0,0,B,0,0,0,0],[0,0,0,B,0,0,0],[0,0,0,0,B,0,0],[0,0,0,0,0,B,0],[0,0,0,0,0,0,B],[a,b,c,d,e,f,g]] 7 3).2=_
   rw[CL];show _=-(B^2*e)
   simp only[aK,aJ];grind
  ·show (bQ [[0,B,0,0,0,0,0],[0,0,B,0,0,0,0],[0,0,0,B,0,0,0],[0,0,0,0,B,0,0],[0,0,0,0,0,B,0],[0,0,0,0,0,0,B],[a,b,c,d,e,f,g]] 7 4).2=_
   rw[CK];show _=-(B^3*d)
   simp only[aK,aJ];grind
  ·show (bQ [[0,B,0,0,0,0,0],[0,0,B,0,0,0,0],[0,0,0,B,0,0,0],[0,0,0,0,B,0,0],[0,0,0,0,0,B,0],[0,0,0,0,0,0,B],[a,b,c,d,e,f,g]] 7 5).2=_
   rw[CJ];show _=-(B^4*c)
   simp only[aK,aJ];grind
  ·show (bQ [[0,B,0,0,0,0,0],[0,0,B,0,0,0,0],[0,0,0,B,0,0,0],[0,0,0,0,B,0,0],[0,0,0,0,0,B,0],[0,0,0,0,0,0,B],[a,b,c,d,e,f,g]] 7 6).2=_
   rw[CI];show _=-(B^5*b)
   simp only[aK,aJ];grind
  ·show (bQ [[0,B,0,0,0,0,0],[0,0,B,0,0,0,0],[0,0,0,B,0,0,0],[0,0,0,0,B,0,0],[0,0,0,0,0,B,0],[0,0,0,0,0,0,B],[a,b,c,d,e,f,g]] 7 7).2=_
   rw[Fy];show _=-(B^6*a)
   simp only[aK,aJ];grind
 ·obtain ⟨a,b,c,d,e,f,g,h,rfl⟩:∃a b c d e f g h,ls=[a,b,c,d,e,f,g,h]:=by match ls,hl with | [a,b,c,d,e,f,g,h],_=>exact ⟨a,b,c,d,e,f,g,h,rfl⟩
  rcases (show k=0\/k=1\/k=2\/k=3\/k=4\/k=5\/k=6\/k=7 by lia) with rfl | rfl | rfl | rfl | rfl | rfl | rfl | rfl
  ·show (bQ [[0,B,0,0,0,0,0,0],[0,0,B,0,0,0,0,0],[0,0,0,B,0,0,0,0],[0,0,0,0,B,0,0,0],[0,0,0,0,0,B,0,0],[0,0,0,0,0,0,B,0],[0,0,0,0,0,0,0,B],[a,b,c,d,e,f,g,h]] 8 1).2=_
   rw[CH];show _=-(B^0*h)
   simp only[aK,aJ];grind
  ·show (bQ [[0,B,0,0,0,0,0,0],[0,0,B,0,0,0,0,0],[0,0,0,B,0,0,0,0],[0,0,0,0,B,0,0,0],[0,0,0,0,0,B,0,0],[0,0,0,0,0,0,B,0],[0,0,0,0,0,0,0,B],[a,b,c,d,e,f,g,h]] 8 2).2=_
   rw[CG];show _=-(B^1*g)
   simp only[aK,aJ];grind
  ·show (bQ [[0,B,0,0,0,0,0,0],[0,0,B,0,0,0,0,0],[0,0,0,B,0,0,0,0],[0,0,0,0,B,0,0,0],[0,0,0,0,0,B,0,0],[0,0,0,0,0,0,B,0],[0,0,0,0,0,0,0,B],[a,b,c,d,e,f,g,h]] 8 3).2=_
   rw[CF];show _=-(B^2*f)
   simp only[aK,aJ];grind
  ·show (bQ [[0,B,0,0,0,0,0,0],[0,0,B,0,0,0,0,0],[0,0,0,B,0,0,0,0],[0,0,0,0,B,0,0,0],[0,0,0,0,0,B,0,0],[0,0,0,0,0,0,B,0],[0,0,0,0,0,0,0,B],[a,b,c,d,e,f,g,h]] 8 4).2=_
   rw[CD];show _=-(B^3*e)
   simp only[aK,aJ];grind
  ·show (bQ [[0,B,0,0,0,0,0,0],[0,0,B,0,0,0,0,0],[0,0,0,B,0,0,0,0],[0,0,0,0,B,0,0,0],[0,0,0,0,0,B,0,0],[0,0,0,0,0,0,B,0],[0,0,0,0,0,0,0,B],[a,b,c,d,e,f,g,h]] 8 5).2=_
   rw[CC];show _=-(B^4*d)
   simp only[aK,aJ];grind
  ·show (bQ [[0,B,0,0,0,0,0,0],[0,0,B,0,0,0,0,0],[0,0,0,B,0,0,0,0],[0,0,0,0,B,0,0,0],[0,0,0,0,0,B,0,0],[0,0,0,0,0,0,B,0],[0,0,0,0,0,0,0,B],[a,b,c,d,e,f,g,h]] 8 6).2=_
   rw[CB];show _=-(B^5*c)
   simp only[aK,aJ];grind
  ·show (bQ [[0,B,0,0,0,0,0,0],[0,0,B,0,0,0,0,0],[0,0,0,B,0,0,0,0],[0,0,0,0,B,0,0,0],[0,0,0,0,0,B,0,0],[0,0,0,0,0,0,B,0],[0,0,0,0,0,0,0,B],[a,b,c,d,e,f,g,h]] 8 7).2=_
   rw[CA];show _=-(B^6*b)
   simp only[aK,aJ];grind
  ·show (bQ [[0,B,0,0,0,0,0,0],[0,0,B,0,0,0,0,0],[0,0,0,B,0,0,0,0],[0,0,0,0,B,0,0,0],[0,0,0,0,0,B,0,0],[0,0,0,0,0,0,B,0],[0,0,0,0,0,0,0,B],[a,b,c,d,e,f,g,h]] 8 8).2=_
   rw[Fx];show _=-(B^7*a)
   simp only[aK,aJ];grind
def gR (n:Nat) (ls:List Rat):LR9:=(List.range n).map λi=>if i+1=n then ls else (List.range n).map λj=>if j=i+1 then 1 else 0
theorem FG {n:Nat} {ls:List Rat} (hl:ls.length=n):∀xs∈gR n ls,xs.length=n:=λxs hx=>by
 obtain ⟨i,_,rfl⟩:=aG.mp hx
 split
 ·exact hl
 ·rw[aj,aI]
theorem pP {n:Nat} {ls:List Rat}:(gR n ls).length=n:=by unfold gR;rw[aj,aI]
theorem BS {n:Nat} {ls:List Rat}:dg (gR n ls)=Ef n (cU (gR n ls)) (jw (ls.map nm) (cU (gR n ls))):=by
 have e1:nm 1=(1,1):=by decide
 have e0:nm 0=(0,1):=by decide
 show List.map _ (List.map _ _)=_
 rw[rD];unfold Ef;refine b9 λi _=>?_
 show jw (List.map nm (if i+1=n then ls else _)) _=_
 split
 ·rfl
 ·unfold jw;rw[rD,rD];refine b9 λj _=>?_
  show (nm (if j=i+1 then 1 else 0)).1*(_ / (nm (if j=i+1 then 1 else 0)).2)=_
  split
  ·rw[e1,Int.ediv_one,Int.one_mul]
  ·rw[e0,Int.zero_mul]
theorem yE {xs:List Rat} {B:Int} (h:∀x∈xs,(nm x).2∣B) {i:Nat}:(((jw (xs.map nm) B).getD i 0:Int):Rat)=xs.getD i 0*(B:Rat):=by
 unfold jw;rw[ae,aD,aD,ae];cases e:xs[i]? with
 | none=>show ((0:Int):Rat)=0*_;rw[fM];rfl
 | some x=>exact oZ (h x (av e))
theorem Aq {n:Nat} {ls:List Rat} {M:Int} (n8:n<=8) (hl:ls.length=n) (hM:jL M ((gR n ls).flatten.map nm)):d6 (gR n ls) n=ls:=by
 have hB:=vh hM
 have hd:∀x∈ls,(nm x).2∣cU (gR n ls):=λx hx=>by
  have n0:0 < n:=by rw[<- hl];exact List.length_pos_of_mem hx
  refine wB (vb (xs:=ls) ?_ hx);exact aG.mpr ⟨n - 1,cK.mpr (by lia),by rw[if_pos (by lia)]⟩
 have lz:(jw (ls.map nm) (cU (gR n ls))).length=n:=by unfold jw;rw[aj,aj,hl]
 apply dP (by rw[jV,hl]);intro i h1 h2;rw[jV] at h1;have g1:(d6 (gR n ls) n).getD i 0=(d6 (gR n ls) n)[i]'(by rw[jV];exact h1):=by rw[ae,ak (by rw[jV];exact h1)];rfl
 have g2:ls.getD i 0=ls[i]:=by rw[ae,ak h2];rfl
 rw[<- g1,<- g2,xH h1];unfold wL;rw[BS,show n - i=(n - i - 1)+1 by lia,Ed n8 _ lz (by lia),show n - (n - i - 1+1)=i by lia,jM,aH,yE hd,eD,Rat.pow_succ,bR,AG];have hp:=oK hB (n - i - 1);have a1:(cU (gR n ls):Rat)*(cU (gR n ls):Rat)⁻¹=1:=jU _ hB;have a2:(cU (gR n ls):Rat)^(n - i - 1)*((cU (gR n ls):Rat)^(n - i - 1))⁻¹=1:=jU _ hp;generalize (cU (gR n ls):Rat)^(n - i - 1)=P at *
 grind
def cX (n:Nat) (f:Nat->Nat->Rat):LR9:=(List.range n).map λi=>(List.range n).map λj=>f i j
section
variable {n:Nat} {f g:Nat->Nat->Rat}
theorem dB:(cX n f).length=n:=by unfold cX;rw[aj,aI]
theorem BK:∀xs∈cX n f,xs.length=n:=λxs hx=>by obtain ⟨i,_,rfl⟩:=aG.mp hx;rw[aj,aI]
theorem nA {i:Nat} (h:i < n):(cX n f)[i]?=some ((List.range n).map λj=>f i j):=by unfold cX;rw[aD,cx h];rfl
theorem nW {h:Nat->Rat} {i:Nat} (hi:i < n):((List.range n).map h).getD i 0=h i:=by rw[ae,aD,cx hi];rfl
theorem qm {i:Nat} (h:i < (cX n f).length):(cX n f)[i]=(List.range n).map λj=>f i j:=by
 have:=nA (f:=f) (n:=n) (i:=i) (by rw[dB] at h;exact h);rw[ak h] at this;exact bf this
theorem jf (h:∀i j,i < n->j < n->f i j=g i j):cX n f=cX n g:=by
 unfold cX;exact b9 λi hi=>b9 λj hj=>h i j (cK.mp hi) (cK.mp hj)
theorem zc {j:Nat} (hj:j < n):(cX n f).map (λxs=>xs.getD j 0)=(List.range n).map λl=>f l j:=by
 unfold cX;rw[rD];exact b9 λi _=>nW hj
theorem zb {k:Nat} {h:Nat->Nat->Nat->Rat} (hk:k < n) (hr:∀i j,i < n->j < n->h (k+1) i j=if i=k then (if j=k then h (k+1) k k else h k k j) else h k i j):(cX n (h k)).set k (((List.range n).map λj=>h k k j).set k (h (k+1) k k))=cX n (h (k+1)):=by
 apply dP (by rw[jQ,dB,dB]);intro i h1 h2;have h2':=h2;rw[dB] at h2';rw[zo,qm h2];by_cases ei:k=i
 ·subst ei;rw[if_pos rfl];apply dP (by rw[jQ,aj,aj]);intro j h3 h4;rw[aj,aI] at h4;rw[zo,du,du,wN,hr k j h2' h4,if_pos rfl];by_cases ej:k=j
  ·rw[if_pos ej,if_pos ej.symm]
  ·rw[if_neg ej,if_neg λz=>ej z.symm]
 ·rw[if_neg ei,qm (by rw[dB];exact h2')];refine b9 λj hj=>?_
  rw[hr i j h2' (cK.mp hj),if_neg λz=>ei z.symm]
theorem prodF {mv:LR9} (lm:mv.length=n) (hw:∀xs∈mv,xs.length=n):(mv.map λxs=>(List.range n).map λj=>ma xs ((List.range n).map λl=>g l j))=cX n λi j=>aY n λl=>fH mv i l*g l j:=by
 apply dP (by rw[aj,dB,lm]);intro i h1 h2;have h2':=h2;rw[dB] at h2';have hi:i < mv.length:=by lia
 rw[du,qm h2];refine b9 λj _=>?_
 have wi:=hw _ (bC hi);rw[pL (by rw[wi,aj,aI]),wi];refine bh λl hl=>?_
 rw[nW hl];congr 1;unfold fH;rw[ae (l:=mv),ak hi];rfl
end
section
variable {K:FG9} {H0 H:Hp}
theorem cN.updN {qs:List Rat} {x:V} {l:Addr} {ys:List V} {o:HO} (h:cN K H0 H qs x) (hl:H l=some (.lst ys)) (n:x≠V.ref l):cN K H0 (upd H l o) qs x:=by obtain ⟨q,rfl,b,c⟩:=h;exact ⟨q,rfl,b,c.updL hl λz=>n (by rw[z])⟩
theorem oP {l:Addr} {zs:List V} {o:HO} (hl:H l=some (.lst zs)):∀{rows:LR9} {ys:List V},Paired (cN K H0 H) rows ys->V.ref l∉ys->Paired (cN K H0 (upd H l o)) rows ys
 | _,_,.nil,_=>.nil
 | _,_,.cons h t,n=>.cons (h.updN hl λz=>n (by rw[z];exact .head _)) (oP hl t λz=>n (.tail _ z))
theorem qD {q:Addr} {zs:List V} {o:HO} {row:List Rat} (hl:H q=some (.lst zs)) (hn:H0 q=none) (hr:d4 K (upd H q o) q row):∀{rows:LR9} {ys:List V} {j:Nat},Paired (cN K H0 H) rows ys->ys.Nodup->ys[j]?=some (.ref q)->Paired (cN K H0 (upd H q o)) (rows.set j row) ys
 | _,_,_,.nil,_,e=>by simp at e
 | _,_,0,.cons (l₂:=ys) h t,nd,e=>by
  have e:=bf e;obtain ⟨n1,n2⟩:=cC.mp nd;rw[e] at n1 ⊢;exact .cons ⟨q,rfl,hn,hr⟩ (oP hl t n1)
 | _,_,j+1,.cons (l₂:=ys) h t,nd,e=>by
  obtain ⟨n1,n2⟩:=cC.mp nd;have e:ys[j]?=some (.ref q):=e;exact .cons (h.updN hl λz=>n1 (by rw[z];exact av e)) (qD hl hn hr t n2 e)
end
section
variable {K:FG9} {H:Hp} {a:Addr} {xs:List V} {g:TG} {tf:TT} {te:TE} {Q:VK} {σ₀:St} {α:Type}
theorem xv {as:List α} {F:Hp->α->V->Prop} (f:α->List Rat) (hx:H a=some (.lst xs)) (pf:Paired (F H) as xs) (hl:as.length<=1000)
  (hF:∀{H H' c x},F H c x->aF H H'->F H' c x)
  (hs:∀(i:Nat) c x H' NY NN,as[i]?=some c->aF H H'->F H' c x->(∀q H2,aF H' H2->H' q=none->d4 K H2 q (f c)->NY (.ref q) H2)->mN σ₀ g tf te x H' NY NN)
  (hd:∀ys H' p,H p=none->aF H H'->H' p=some (.lst ys)->ys.Nodup->Paired (cN K H H') (as.map f) ys->V.ref p∉ys->Q (.ref p) H'):mT (Cc K a) σ₀ g tf te Q H:=by
 have lx:=pf.length;refine iH (K:=K) (xs:=xs) (λi ys H'=>aF H H'/\Paired (cN K H H') ((as.take i).map f) ys/\ys.Nodup/\∀y∈ys,∃q,y=V.ref q/\H' q≠none) (bI (bT (by lia))) ⟨aF.refl _,.nil,oF,(λ_ h=>nomatch h)⟩ (λi ys H' _ ⟨s,_⟩=>b6.of (s _ _ hx)) ?_ ?_
 ·rintro i x ys H' hx' hlen ⟨s,pr,nd,ne⟩;obtain ⟨c,ec,fc⟩:=df pf hx';refine hs i c x H' _ _ ec s (hF fc s) λq H2 s2 nq R=>⟨s.trans s2,?_,?_,λy hy=>?_⟩
  ·rw[take_snoc ec,jP];exact cP (Paired.imp' (λ_ _ z=>cN.same z s2) pr) (.cons ⟨q,rfl,s.none nq,R⟩ .nil)
  ·refine cH.mpr ⟨nd,by simp,λa ha b hb z=>?_⟩;rw[dR.mp hb] at z;obtain ⟨q',e,h⟩:=ne a ha;rw[z] at e;cases e;exact h nq
  ·rcases aL.mp hy with hy | hy
   ·obtain ⟨q',e,h⟩:=ne y hy;exact ⟨q',e,λz=>h (s2.none z)⟩
   ·obtain ⟨_,gg,_⟩:=R;exact ⟨q,dR.mp hy,by rw[gg];exact λz=>nomatch z⟩
 ·rintro ys H' hy ⟨s,pr,nd,ne⟩ p hp;rw[aV (by lia)] at pr;refine hd ys _ p (s.none hp) (s.trans (aF.new hp)) aE nd (Paired.imp' (λ_ _ z=>cN.same z (aF.new hp)) pr) λz=>?_
  obtain ⟨q,e,h⟩:=ne _ z;cases e;exact h hp
end
def Cd (mv:LR9):Prop:=∃D:Nat,0 < D/\D<=2^160/\(∀xs∈mv,rg 80 30 xs)/\∀k,k<=mv.length->(∀i j,i < mv.length->j < mv.length->Tp D (2^420) ((dc (fH mv) mv.length k).1 i j))/\Tp D (2^420) (dc (fH mv) mv.length k).2
theorem Cs {B z:Int} {k n s d:Nat} (b0:0 < B) (hk:k<=n) (hz:Sz s z) (hB:B.natAbs^n<=2^d):Tp (B.natAbs^n) (2^(s+d)) ((z:Rat) / (B:Rat)^k):=by
 have hb:(B:Rat)≠0:=λw=>by have:=cb.mp w;lia
 have hp:=oK hb k
 have en:((B.natAbs^n:Nat):Rat)=(B:Rat)^k*(B:Rat)^(n - k):=by
  rw[<- aZ,Int.natCast_pow,Int.natAbs_of_nonneg (by lia),<- eD,<- eD,<- aH,<- Int.pow_add,show k+(n - k)=n by lia]
 refine ⟨z*B^(n - k),?_,?_⟩
 ·rw[en,aH,eD,bR];have:((B:Rat)^k)⁻¹*(B:Rat)^k=1:=oE _ hp;grind
 ·rw[cL,Int.natAbs_pow,cG];have h1:z.natAbs < 2^s:=hz;exact bB (by lia) (ar (ao (by lia) (by lia)) hB)
theorem BL {mv:LR9} (h:vo mv) (hw:∀xs∈mv,xs.length=mv.length):Cd mv:=by
 obtain ⟨M1,V1,N,a,c,t,d,M0,f,m80,v30,n4,eN,ha,a480,hc,c186,ht,hd,d160,h260⟩:=h.nums;obtain ⟨hM,_⟩:=rh M0 f m80 v30;have bl:=yr hM;rw[ck] at bl;have hT:=m5 (mv:=mv);have hW:=rG (mv:=mv) hw;have hsz:=xt hT hW (by lia) (vA hM bl f M0 ht);have b0:0 < cU mv:=hM.bot.1;have hB:(cU mv).natAbs^mv.length<=2^d:=ar (cF bl _) hd;have fl:=xx (A:=fH mv) (vh hM) hT hW (λk hk=>wq n4 hT hW hk) (λi l _ _=>(vB hM).symm);have sz:∀k,k<=mv.length->1+k*(t+17)<=260:=λk hk=>by have:=aR (t+17) hk;lia
 refine ⟨(cU mv).natAbs^mv.length,Nat.pow_pos (by lia),ar hB (ao (by decide) d160),λxs hx=>⟨M1,V1,M0,m80,v30,f xs hx⟩,λk hk=>⟨λi j hi hj=>?_,?_⟩⟩
 ·rw[<- (fl k hk).1 i j hi hj];unfold zj;refine (Cs b0 hk (s:=260) ?_ hB).mono (ao (by decide) (by lia));have l1:=(jg (n:=mv.length) hT k).1;have e:(bQ (dg mv) mv.length k).1.getD j []=(bQ (dg mv) mv.length k).1[j]'(by lia):=by rw[ae,ak (by lia)];rfl
  have m:=bC (l:=(bQ (dg mv) mv.length k).1) (n:=j) (by lia);rw[e,ae,ak (by rw[(jg (n:=mv.length) hT k).2 _ m];exact hi)];exact ((hsz k).1 _ m _ (bC _)).mono (sz k hk)
 ·rw[<- (fl k hk).2];exact (Cs b0 hk (s:=260) ((hsz k).2.1.mono (sz k hk)) hB).mono (ao (by decide) (by lia))
def Gk (A:Nat->Nat->Rat) (n:Nat):Nat->Nat->Nat->Rat
 | 0,_,_=>0
 | i+1,a,b=>(dc A n i).1 a b+if a=b then (dc A n i).2 else 0
theorem yf {A:Nat->Nat->Rat} {n:Nat}:∀i a b,(aY n λl=>A a l*Gk A n i l b)=(dc A n i).1 a b
 | 0,a,b=>by
  show (aY n λl=>A a l*0)=0
  exact iq λl _=>Rat.mul_zero _
 | i+1,a,b=>rfl
theorem Cd.gk {mv:LR9} (h:Cd mv) {i:Nat} (hi:i<=mv.length):∀xs∈mv,∀j,j < mv.length->Ay xs ((List.range mv.length).map λl=>Gk (fH mv) mv.length i l j):=λxs hx j hj=>by
 obtain ⟨D,D0,D1,f,t⟩:=h;refine ⟨80,30,160,421,f xs hx,⟨D,2^421,D0,D1,ay _,λx hx=>?_⟩,by decide⟩;obtain ⟨l,hl,rfl⟩:=aG.mp hx;have hl:=cK.mp hl;cases i with
 | zero=>exact Fr.zero
 | succ i =>
  obtain ⟨t1,t2⟩:=t i (by lia);have e:(2:Nat)^420+2^420=2^421:=by rw[eO];lia
  show Fr D (2^421) (_+_)
  by_cases z:l=j
  ·rw[if_pos z];have:=(t1 l j hl hj).add t2;rw[e] at this;exact this.fr D0
  ·rw[if_neg z,yw];exact ((t1 l j hl hj).mono (ao (by decide) (by decide))).fr D0
inductive tH (K:FG9) (vs:List V) (H:Hp) (Q:VK) (E9:XK):Prop
 | mk (p q:Addr) (n:Nat) (H0 H1:Hp) (mv:LR9) (g:Nat->Nat->Rat):vs=[.ref p,.ref q]->cg K H0 H p mv->cg K H1 H q (cX n g)->mv.length=n->(∀xs∈mv,xs.length=n)->n<=8->(∀xs∈mv,∀j,j < n->Ay xs ((List.range n).map λl=>g l j))->(∀r ys H',H r=none->aF H H'->H' r=some (.lst ys)->ys.Nodup->Paired (cN K H H') (cX n λi j=>aY n λl=>fH mv i l*g l j) ys->V.ref r∉ys->Q (.ref r) H')->tH K vs H Q E9
inductive rP (K:FG9) (vs:List V) (H:Hp) (Q:VK) (E9:XK):Prop
 | mk (p:Addr) (H0:Hp) (mv:LR9):vs=[.ref p]->cg K H0 H p mv->(∀xs∈mv,xs.length=mv.length)->mv.length<=4->Cd mv->(∀r H',H r=none->aF H H'->d4 K H' r (AJ (fH mv) mv.length)->Q (.ref r) H')->rP K vs H Q E9
def qV (mv:LR9) (k i j:Nat):Rat:=(qZ mv (oi mv.length j) k).getD i 0
inductive tK (K:FG9) (vs:List V) (H:Hp) (Q:VK) (E9:XK):Prop
 | mk (p w:Addr) (H0:Hp) (mv:LR9) (ws:List Rat):vs=[.ref p,.ref w]->cg K H0 H p mv->d4 K H w ws->(∀xs∈mv,xs.length=mv.length)->mv.length<=8->ws.length=mv.length->(∀j,j < mv.length->En mv ws (oi mv.length j))->(∀i j,i < mv.length->j < mv.length->(aY mv.length λs=>ws.getD s 0*qV mv s i j)=qV mv mv.length i j)->(∀H',aF H H'->Q (.bl true) H')->tK K vs H Q E9
theorem BE {x:Rat}:((0 - (nm x).1,(nm x).2):Int×Int)=nm (-x):=by
 unfold nm;rw[Rat.neg_num,Rat.neg_den,Int.zero_sub]
theorem BF {a c:Int} {x:Rat} (h:(a,c)=nm x):((0 - a,c):Int×Int)=nm (-x):=by
 rw[<- BE,<- h]
theorem vw {A:Nat->Nat->Rat} {n:Nat} (i:Nat):(dc A n (i+1)).2*(((nm (aY n λa=>(dc A n (i+1)).1 a a)).2*((i+1:Nat):Int):Int):Rat)=((0 - (nm (aY n λa=>(dc A n (i+1)).1 a a)).1:Int):Rat):=by
 have e:(dc A n (i+1)).2=-(aY n λa=>(dc A n (i+1)).1 a a) / ((i+1:Nat):Rat):=rfl;have h:=qi (aY n λa=>(dc A n (i+1)).1 a a)
 have k0:((i+1:Nat):Rat)≠0:=λz=>by
  have:(((i+1:Nat):Int):Rat)=0:=by rw[aZ];exact z
  have:=yq this
  lia
 rw[e,aH,Int.zero_sub,jM,h,aZ,bR];generalize (aY n λa=>(dc A n (i+1)).1 a a)=S;have:((i+1:Nat):Rat)⁻¹*((i+1:Nat):Rat)=1:=oE _ k0;grind
theorem yW {xs:List Rat} {n:Nat} (h:xs.length=n):((List.range n).map λl=>xs.getD l 0)=xs:=by
 apply dP (by rw[aj,aI,h]);intro i h1 h2;rw[du,wN,ae,ak h2];rfl
theorem wR {n m:Nat} {w:Rat} {f g:Nat->Rat}:List.zipWith (λx y=>x+y) ((List.range n).map f) (((List.range n).map g).map λy=>w*y)=(List.range n).map λj=>f j+w*g j:=by
 rw[rD];apply dP (by rw[jn,aj,aj,aj];lia);intro i h1 h2;rw[mY,du,du,du];rfl
theorem AM {mv:LR9} {i j:Nat} (hi:i < mv.length):(((if decide ((i:Int)=(j:Int))=true then 1 else 0:Int),(1:Int)):Int×Int)=nm (qV mv 0 i j):=by
 unfold qV;show _=nm ((oi mv.length j).getD i 0)
 unfold oi;rw[ae,aD,cx hi];show _=nm (if ((i:Int)=(j:Int)) then 1 else 0)
 by_cases e:(i:Int)=(j:Int)
 ·rw[if_pos e,if_pos (decide_eq_true e)];rfl
 ·rw[if_neg e,if_neg (λz=>e (of_decide_eq_true z))];rfl
section
variable {mv:LR9} {M:Int}
theorem Dl {n:Nat} {a:Int}:∀x∈oi n a,Fr 1 1 x:=λx hx=>by
 obtain ⟨i,_,rfl⟩:=aG.mp hx
 split
 ·exact Fr.one (by decide)
 ·exact Fr.zero
theorem xJ {n:Nat} {a:Int}:(oi n a).length=n:=by unfold oi;rw[aj,aI]
theorem BH (n4:mv.length<=4) (hM:jL M (mv.flatten.map nm)) (hw:∀xs∈mv,xs.length=mv.length) {i j:Nat} (hi:i < mv.length):(aY mv.length λs=>(d6 mv mv.length).getD s 0*qV mv s i j)=qV mv mv.length i j:=by
 have h:=congrArg (λl:List Rat=>l.getD i 0) (BI n4 hM hw (st:=oi mv.length j) xJ 0);have h:(Et ((List.range mv.length).map λs=>qZ mv (oi mv.length j) (0+s)) (d6 mv mv.length) mv.length).getD i 0=(qZ mv (oi mv.length j) (0+mv.length)).getD i 0:=h;rw[xG hi,jV,oh] at h;rw[show qV mv mv.length i j=(qZ mv (oi mv.length j) mv.length).getD i 0 from rfl,<- h];refine bh λs hs=>?_
 congr 1;unfold fH;rw[ae (l:=List.map _ _),aD,cx hs];show _=(qZ mv (oi mv.length j) (0+s)).getD i 0
 rw[oh];rfl
theorem vo.turn (h:vo mv):vo (gU mv mv.length):=by
 obtain ⟨M1,V1,M0,f,hc⟩:=h;refine ⟨M1,V1,M0,λxs hx x hx'=>AN f xs hx x hx',?_⟩;rw[ip];exact hc
theorem AO {i j:Nat} (hi:i < mv.length):fH (gU mv mv.length) i j=fH mv j i:=by
 unfold fH;rw[ae (l:=gU _ _),zt hi];exact D3
theorem yB {M':Int} (n4:mv.length<=4) (hM:jL M (mv.flatten.map nm)) (hM':jL M' ((gU mv mv.length).flatten.map nm)) (hw:∀xs∈mv,xs.length=mv.length):d6 (gU mv mv.length) (gU mv mv.length).length=d6 mv mv.length:=by
 have lt:(gU mv mv.length).length=mv.length:=ip;rw[rF (by rw[lt];exact n4) hM' (λxs hx=>by rw[lt];exact tF xs hx),rF n4 hM hw,lt];exact (yA λi l hi _=>AO hi).trans zp
theorem BU {n:Nat} {ls:List Rat} (n0:0 < n):((List.range n).map λ(i:Nat)=>(List.range n).map λ(j:Nat)=>(((if decide ((j:Int)=(i:Int)+1)=true then 1 else 0:Int)):Rat)).set (n - 1) ls=gR n ls:=by
 apply dP (by rw[jQ,aj,pP,aI]);intro i h1 h2;have h2':=h2;rw[pP] at h2'
 have e:(gR n ls)[i]=if i+1=n then ls else (List.range n).map λj=>if j=i+1 then 1 else 0:=by
  have:(gR n ls)[i]?=some (if i+1=n then ls else (List.range n).map λj=>if j=i+1 then 1 else 0):=by unfold gR;rw[aD,cx h2'];rfl
  rw[ak h2] at this;exact bf this
 rw[zo,e];by_cases z:n - 1=i
 ·rw[if_pos z,if_pos (by lia)]
 ·rw[if_neg z,if_neg (by lia),du,wN];refine b9 λj _=>?_
  by_cases y:j=i+1
  ·rw[if_pos (decide_eq_true (by lia)),if_pos y];rfl
  ·rw[if_neg (λw=>y (by have:=of_decide_eq_true w;lia)),if_neg y];rfl
theorem Ee {n:Nat} {ls:List Rat} {E V0:Nat} (h:∀x∈ls,Fr E V0 x) (v1:1<=V0):GF E V0 (gR n ls):=λxs hx x hx'=>by
 obtain ⟨i,_,rfl⟩:=aG.mp hx
 split at hx'
 ·exact h x hx'
 ·obtain ⟨j,_,rfl⟩:=aG.mp hx'
  split
  ·exact Fr.one v1
  ·exact Fr.zero
def Em (n:Nat) (ls:List Rat):Prop:=ls.length=n/\n<=8/\∃E V0,0 < E/\E<=2^20/\V0<=2^11/\1<=V0/\∀x∈ls,Fr E V0 x
theorem Gr {n:Nat} {ls:List Rat} (h:Em n ls):(∃M,jL M ((gR n ls).flatten.map nm)/\Sz 1000 M)/\vn (gR n ls) [] []/\nE (gR n ls) [] []:=by
 obtain ⟨l,n8,E,V0,E0,E1,E2,E3,f⟩:=h;have g:=Ee (n:=n) f E3;refine ⟨⟨_,rh E0 g (ar E1 (by decide)) (ar E2 (by decide))⟩,⟨by rw[pP];exact n8,by decide,by decide,λxs hx=>by rw[pP];exact FG l xs hx,(λ_ h=>nomatch h),(λ_ h=>nomatch h)⟩,⟨E,V0,E0,ar E1 (ao (by decide) (by decide)),ar E2 (ao (by decide) (by decide)),g,(λ_ h=>nomatch h),(λ_ h=>nomatch h)⟩⟩
end
end L2
open L2
local macro_rules | `(tactic| walk_at "hl") => `(tactic| first | (show _ ≤ sizeLine; with_unfolding_all decide) | (with_unfolding_all exact (by decide)))
local macro_rules | `(tactic| walk_at "sq") => `(tactic| first | with_reducible assumption | with_reducible exact oj.of (by assumption) | with_reducible exact b6.of (by assumption) | with_reducible exact oj.of aE | with_reducible exact b6.of aE | assumption)
local macro_rules | `(tactic| walk_at "sc") => `(tactic| first | (with_reducible show (0 : Int) < _; decide) | with_reducible exact yo (by decide) (by decide) | with_reducible exact yp (by decide) (by decide) | with_reducible exact cpow_of (by decide) (by decide) (by decide))
local macro_rules | `(tactic| walk_at "rd") => `(tactic| first
  | with_reducible refine Dz ?_
  | with_reducible refine A6 ?_
  | with_reducible refine DP ?_
  | with_reducible refine zU ?_
  | ((with_reducible refine' Dx ?hx1 ?_); (case hx1 => with_unfolding_all rfl))
  | with_reducible refine Gg ?_
  | with_reducible refine EX ?_
  | with_reducible refine E4 ?_
  | with_reducible refine ET ?_
  | with_reducible refine Gh ?_
  | with_reducible refine DN ?_
  | with_reducible refine DE ?_
  | with_reducible refine rd_eqS ?_
  | with_reducible refine rd_neS ?_
  | with_reducible refine rd_eqB ?_
  | with_reducible refine rd_neB ?_
  | with_reducible refine A9 ?_
  | with_reducible refine rd_listZip ?_
  | with_reducible refine DL ?_
  | with_reducible refine A3 ?_
  | with_reducible refine A7 ?_
  | with_reducible refine A8 ?_
  | with_reducible refine zT ?_
  | with_reducible refine A2 ?_
  | with_reducible refine EU ?_
  | with_reducible refine DA ?_
  | with_reducible refine rd_retN ?_
  | with_reducible refine DI ?_
  | with_reducible refine DQ ?_
  | with_reducible refine EW ?_
  | with_reducible refine DC ?_
  | with_reducible refine Bs ?_
  | with_reducible refine rd_orV ?_
  | with_reducible refine A5 ?_
  | with_reducible refine DJ ?_
  | with_reducible refine Dw ?_
  | with_reducible refine BJ ?_
  | with_reducible refine Gx ?_
  | with_reducible refine Ff ?_
  | with_reducible refine iteNF ?_
  | with_reducible refine ES ?_
  | with_reducible refine DD ?_
  | with_reducible refine Bo ?_
  | with_reducible refine Dy ?_
  | with_reducible refine DF ?_
  | with_reducible refine Bq ?_
  | with_reducible refine EY ?_
  | with_reducible refine Bn ?_
  | with_reducible refine DB ?_
  | with_reducible refine Br ?_
  | ((with_reducible refine' rd_aug ?hx1 ?_); (case hx1 => with_unfolding_all rfl))
  | with_reducible refine DH ?_
  | with_reducible refine Bj ?_
  | with_reducible refine zV ?_
  | with_reducible refine Bl ?_
  | with_reducible refine EV ?_
  | with_reducible refine yM ?_
  | with_reducible refine A4 ?_
  | with_reducible refine DK ?_
  | with_reducible refine zS ?_
  | with_reducible refine Bh ?_
  | with_reducible refine zR ?_
  | with_reducible refine zQ ?_
  | ((with_reducible refine' Bp ?hx1 ?_); (case hx1 => with_unfolding_all rfl))
  | with_reducible refine A1 ?_
  | with_reducible refine EZ ?_
  | with_reducible refine rd_bm0 ?_
  | with_reducible refine rd_brk ?_
  | ((with_reducible refine' Bi ?hx1 ?hx2 ?_); (case hx1 => walk_at "sq"); (case hx2 => with_unfolding_all rfl))
  | with_reducible refine rd_cont ?_
  | ((with_reducible refine' gW ?hx1 ?_); (case hx1 => walk_at "sc"))
  | ((with_reducible refine' DG ?hx1 ?hx2 ?_); (case hx1 => walk_at "sq"); (case hx2 => with_unfolding_all rfl))
  | ((with_reducible refine' cO ?hx1 ?hx2 ?_); (case hx1 => walk_at "sq"); (case hx2 => with_unfolding_all rfl))
  | ((with_reducible refine' Bm ?hx1 ?hx2 ?_); (case hx1 => walk_at "sq"); (case hx2 => with_unfolding_all rfl))
  | ((with_reducible refine' eF ?hx1 ?hx2 ?hx3 ?_); (case hx1 => with_reducible first | assumption | exact aE); (case hx2 => with_unfolding_all rfl); (case hx3 => with_unfolding_all rfl))
  | with_reducible refine ⟨_, rfl, ?_⟩
  | with_reducible refine ⟨_, _, rfl, ?_⟩)
local macro_rules | `(tactic| walk_at "w") => `(tactic| repeat walk_at "rd")
local macro_rules | `(tactic| walk_at "d") => `(tactic| exact ⟨rfl,rfl,rfl,by decide +kernel,rfl,by decide +kernel,by decide +kernel⟩)
namespace Lw
open PySem PySem.Spec PyProof.Rows L2 Nm
set_option maxHeartbeats 4000000
def top (i:Nat):Stmt:=PySem.Challenge.pw_helmsum_k82_own_wish.main.body.getD i (.Pass ⟨0,0,0,0⟩)
abbrev iE:Stmt:=top 34
abbrev gB:Stmt:=top 35
abbrev dX:Stmt:=top 52
abbrev iC:Stmt:=top 36
abbrev ee:Stmt:=top 41
abbrev iB:Stmt:=top 42
abbrev gE:Stmt:=top 49
abbrev iz:Stmt:=top 37
abbrev gD:Stmt:=top 44
abbrev gC:Stmt:=top 39
abbrev jS:Stmt:=top 45
abbrev fe:Stmt:=top 50
abbrev fb:Stmt:=top 51
abbrev fY:Stmt:=top 23
abbrev iw:Stmt:=top 7
abbrev dr:Stmt:=top 8
abbrev gs:Stmt:=top 10
abbrev lF:Stmt:=top 13
abbrev ed:Stmt:=top 24
abbrev de:Stmt:=inClass (top 25) 0
abbrev eh:Stmt:=top 53
abbrev gF:Stmt:=top 54
abbrev iD:Stmt:=top 43
abbrev dM:Stmt:=top 55
abbrev gA:Stmt:=top 56
abbrev dd:Stmt:=top 9
abbrev dz:Stmt:=top 14
abbrev qd:Stmt:=top 18
abbrev fZ:Stmt:=top 15
abbrev eZ:Stmt:=top 27
abbrev fX:Stmt:=top 28
abbrev ir:Stmt:=top 29
abbrev fW:Stmt:=top 31
abbrev lE:Stmt:=top 11
abbrev iu:Stmt:=top 32
abbrev dt:Stmt:=top 46
abbrev ef:Stmt:=top 47
abbrev gG:Stmt:=top 57
abbrev d9:Stmt:=top 17
abbrev dA:Stmt:=inClass (top 25) 3
abbrev tL:Stmt:=top 58
set_option genInjectivity false in
set_option genSizeOf false in
structure Ads where
 mG:Addr
 mn:FuncData
 kN:Addr
 ky:FuncData
 jI:Addr
 jE:FuncData
 mE:Addr
 mj:FuncData
 iW:Addr
 iN:FuncData
 mD:Addr
 mi:FuncData
 kQ:Addr
 kC:FuncData
 mC:Addr
 mh:FuncData
 kP:Addr
 kB:FuncData
 kO:Addr
 kz:FuncData
 oe:Addr
 nZ:FuncData
 jK:Addr
 jG:FuncData
 jJ:Addr
 jF:FuncData
 kJ:Addr
 ks:FuncData
 mB:Addr
 mf:FuncData
 fw:Addr
 fj:FuncData
 kL:Addr
 kv:FuncData
 pW:Addr
 pO:FuncData
 iV:Addr
 iM:FuncData
 eL:Addr
 eI:FuncData
 iY:Addr
 iP:FuncData
 kR:Addr
 kD:FuncData
 mF:Addr
 mm:FuncData
 ib:Addr
 h9:FuncData
 kM:Addr
 kx:FuncData
 eK:Addr
 eH:FuncData
 fK:Addr
 fI:FuncData
 vm:Addr
 vd:FuncData
 kK:Addr
 ku:FuncData
 jH:Addr
 jD:FuncData
 kI:Addr
 kr:FuncData
 my:Addr
 md:FuncData
 kH:Addr
 kq:FuncData
 pV:Addr
 pN:FuncData
 mz:Addr
 me:FuncData
 fy:Addr
 fk:FuncData
 iX:Addr
 iO:FuncData
 kS:Addr
 kE:FuncData
 iU:Addr
 iL:FuncData
 fL:Addr
 fJ:FuncData
 Ax:Addr
 Ao:FuncData
 t_MOST_STATES:Tok
 t_MOST_PUTS:Tok
 t_MOST_LOOKS:Tok
 a_System:Addr
structure Txt (K:W.Frag) (mg:Str->Option Value) (Z:Ads):Prop where
 qJ:mg "_law_bag"=some (.ref Z.mG)
 sQ:Binds K Z.mn ["_law_script"] []
 oX:kf K "_law_bag" "_law_bag" iE Z.mG Z.mn
 aX:mg "_law_take"=some (.ref Z.kN)
 bu:Binds K Z.ky ["_law_bag_here","_law_many"] []
 bg:kf K "_law_take" "_law_take" gB Z.kN Z.ky
 ot:mg "_law_sizes"=some (.ref Z.jI)
 pS:Binds K Z.jE ["_law_bag_here"] []
 mK:kf K "_law_sizes" "_law_sizes" dX Z.jI Z.jE
 eU:mg "_law_low"=some (.ref Z.mE)
 fV:Binds K Z.mj ["_law_top","_law_bottom"] []
 eY:kf K "_law_low" "_law_low" iC Z.mE Z.mj
 nu:mg "_law_number"=some (.ref Z.iW)
 oz:Binds K Z.iN ["_law_bag_here","_law_wide"] []
 lC:kf K "_law_number" "_law_number" ee Z.iW Z.iN
 jd:mg "_law_row"=some (.ref Z.mD)
 ka:Binds K Z.mi ["_law_bag_here","_law_many","_law_wide"] []
 iJ:kf K "_law_row" "_law_row" iB Z.mD Z.mi
 pC:mg "_law_move"=some (.ref Z.kQ)
 qR:Binds K Z.kC ["_law_bag_here","_law_n","_law_way","_law_first","_law_wide"] []
 nN:kf K "_law_move" "_law_move" gE Z.kQ Z.kC
 eS:mg "_law_sum"=some (.ref Z.mC)
 fU:Binds K Z.mh ["_law_one","_law_other"] []
 eV:kf K "_law_sum" "_law_sum" iz Z.mC Z.mh
 lX:mg "_law_plus"=some (.ref Z.kP)
 nC:Binds K Z.kB ["_law_one","_law_other"] []
 kT:kf K "_law_plus" "_law_plus" gD Z.kP Z.kB
 h7:mg "_law_prod"=some (.ref Z.kO)
 jh:Binds K Z.kz ["_law_one","_law_other"] []
 gP:kf K "_law_prod" "_law_prod" gC Z.kO Z.kz
 oR:mg "_law_by"=some (.ref Z.oe)
 qt:Binds K Z.nZ ["_law_by_here","_law_row_here"] []
 og:kf K "_law_by" "_law_by" jS Z.oe Z.nZ
 ow:mg "_law_mixed"=some (.ref Z.jK)
 pU:Binds K Z.jG ["_law_bag_here","_law_move_here","_law_put","_law_look"] []
 mM:kf K "_law_mixed" "_law_mixed" fe Z.jK Z.jG
 ou:mg "_law_parts"=some (.ref Z.jJ)
 pT:Binds K Z.jF ["_law_bag_here","_law_n","_law_ins","_law_outs","_law_wide"] []
 mL:kf K "_law_parts" "_law_parts" fb Z.jJ Z.jF
 jC:mg "want_list"=some (.ref Z.kJ)
 kF:Binds K Z.ks ["thing","at","most"] []
 ji:kf K "want_list" "want_list" fY Z.kJ Z.ks
 ni:mg "is_whole"=some (.ref Z.mB)
 oT:Binds K Z.mf ["thing"] []
 mJ:kf K "is_whole" "is_whole" iw Z.mB Z.mf
 eG:mg "common_divisor"=some (.ref Z.fw)
 fu:Binds K Z.fj ["one","other"] []
 dN:kf K "common_divisor" "common_divisor" dr Z.fw Z.fj
 pA:mg "is_number"=some (.ref Z.kL)
 qP:Binds K Z.kv ["thing"] []
 nK:kf K "is_number" "is_number" gs Z.kL Z.kv
 tX:mg "is_row"=some (.ref Z.pW)
 wD:Binds K Z.pO ["thing","many"] []
 sT:kf K "is_row" "is_row" lF Z.pW Z.pO
 hZ:mg "copied_rows"=some (.ref Z.iV)
 iR:Binds K Z.iM ["things","wide"] []
 fE:kf K "copied_rows" "copied_rows" ed Z.iV Z.iM
 eJ:Binds K Z.eI ["self","move","put","look"] []
 kU:kf K "__init__" "System.__init__" de Z.eL Z.eI
 h8:mg "_law_copied"=some (.ref Z.iY)
 iS:Binds K Z.iP ["_law_grid"] []
 fF:kf K "_law_copied" "_law_copied" eh Z.iY Z.iP
 pE:mg "_law_made"=some (.ref Z.kR)
 qS:Binds K Z.kD ["_law_parts_here"] []
 nO:kf K "_law_made" "_law_made" gF Z.kR Z.kD
 qI:mg "_law_dot"=some (.ref Z.mF)
 sP:Binds K Z.mm ["_law_one","_law_other"] []
 oW:kf K "_law_dot" "_law_dot" iD Z.mF Z.mm
 fG:mg "_law_product"=some (.ref Z.ib)
 ia:Binds K Z.h9 ["_law_one","_law_other"] []
 eX:kf K "_law_product" "_law_product" dM Z.ib Z.h9
 pB:mg "_law_wish"=some (.ref Z.kM)
 qQ:Binds K Z.kx ["_law_move_here"] []
 nM:kf K "_law_wish" "_law_wish" gA Z.kM Z.kx
 j7:mg "common_multiple"=some (.ref Z.eK)
 kG:Binds K Z.eH ["wholes"] []
 ie:kf K "common_multiple" "common_multiple" dd Z.eK Z.eH
 lH:mg "common_bottom"=some (.ref Z.fK)
 mQ:Binds K Z.fI ["row"] []
 jv:kf K "common_bottom" "common_bottom" dz Z.fK Z.fI
 yb:mg "flat"=some (.ref Z.vm)
 Aw:Binds K Z.vd ["lists"] []
 xE:kf K "flat" "flat" qd Z.vm Z.vd
 pz:mg "tops_over"=some (.ref Z.kK)
 qO:Binds K Z.ku ["row","bottom"] []
 nJ:kf K "tops_over" "tops_over" fZ Z.kK Z.ku
 oq:mg "whole_grid"=some (.ref Z.jH)
 pR:Binds K Z.jD ["grid"] []
 mI:kf K "whole_grid" "whole_grid" eZ Z.jH Z.jD
 pk:mg "whole_dot"=some (.ref Z.kI)
 qN:Binds K Z.kr ["one","other"] []
 nH:kf K "whole_dot" "whole_dot" fX Z.kI Z.kr
 qH:mg "whole_on"=some (.ref Z.my)
 sO:Binds K Z.md ["lines","tops"] []
 oV:kf K "whole_on" "whole_on" ir Z.my Z.md
 pj:mg "with_main"=some (.ref Z.kH)
 qM:Binds K Z.kq ["lines","by"] []
 nG:kf K "with_main" "with_main" fW Z.kH Z.kq
 tW:mg "lowest"=some (.ref Z.pV)
 wC:Binds K Z.pN ["top","bottom"] []
 sS:kf K "lowest" "lowest" lE Z.pV Z.pN
 jc:mg "own_wish"=some (.ref Z.mz)
 j9:Binds K Z.me ["system"] []
 iI:kf K "own_wish" "own_wish" iu Z.mz Z.me
 ko:mg "_law_is_number"=some (.ref Z.fy)
 lM:Binds K Z.fk ["_law_thing"] []
 iK:kf K "_law_is_number" "_law_is_number" dt Z.fy Z.fk
 nv:mg "_law_is_row"=some (.ref Z.iX)
 oA:Binds K Z.iO ["_law_thing","_law_many"] []
 lD:kf K "_law_is_row" "_law_is_row" ef Z.iX Z.iO
 pF:mg "_law_kept"=some (.ref Z.kS)
 qT:Binds K Z.kE ["_law_move_here","_law_wish_here"] []
 nP:kf K "_law_kept" "_law_kept" gG Z.kS Z.kE
 nk:mg "grid_turned"=some (.ref Z.iU)
 oy:Binds K Z.iL ["grid","wide"] []
 lB:kf K "grid_turned" "grid_turned" d9 Z.iU Z.iL
 lJ:El K Z.a_System "turned" Z.fL
 mR:Binds K Z.fJ ["self"] []
 mS:kf K "turned" "System.turned" dA Z.fL Z.fJ
 Dj:kf K "law" "law" tL Z.Ax Z.Ao
 abs:mg "abs"=none
 len:mg "len"=none
 min:mg "min"=none
 range:mg "range"=none
 int:mg "int"=none
 isinstance:mg "isinstance"=none
 list:mg "list"=none
 bool:mg "bool"=none
 tuple:mg "tuple"=none
 all:mg "all"=none
 enumerate:mg "enumerate"=none
 sum:mg "sum"=none
 zip:mg "zip"=none
 reversed:mg "reversed"=none
 mg_MOST_STATES:mg "MOST_STATES"=some (.int 8 Z.t_MOST_STATES)
 mg_MOST_PUTS:mg "MOST_PUTS"=some (.int 4 Z.t_MOST_PUTS)
 mg_MOST_LOOKS:mg "MOST_LOOKS"=some (.int 4 Z.t_MOST_LOOKS)
 mg_System:mg "System"=some (.ref Z.a_System)
 cl_System:zl K Z.a_System
 na_move:ic K Z.a_System "move"
 na_states:ic K Z.a_System "states"
 na_put:ic K Z.a_System "put"
 na_ins:ic K Z.a_System "ins"
 na_look:ic K Z.a_System "look"
 na_outs:ic K Z.a_System "outs"
 mk_System:Mk K Z.a_System Z.eL
section
variable {P:Program} {w:World} {K:W.Frag} {mg:Str->Option Value} {base:Heap} {Z:Ads}
theorem vQ:bx ["_law_script"] ["_law_script"] (aw iE):=by walk_at "d"
theorem v5 (T:Txt K mg Z):cZ P w K mg base jT 1 Z.mG Z.mn ["_law_script"] (zJ K):=by
 refine T.oX.ok vQ (λvs H Q E h=>?_) (λcdv A outer s H vs Q E hr h=>?_)
 ·obtain ⟨a,ns,rfl,_⟩:=h;rfl
 ·obtain ⟨a,ns,rfl,hS,hlen,k⟩:=h;refine ⟨_,(az (bE (gY (aa ah (aa ah (aa ah (aa (cv ["_law_cell"] [] [] (dk (zZ AV (pv 0) Bx (xX ah))) (λ_=>(aM (i:=0) (show List.Nodup (α:=PySem.Str) ["_law_cell"] by decide +kernel))) (λ_=>cu) (λ_=>(bW sL (by rfl) T.abs PyProof.Rows.boot_abs (aa (pv 0) ai)))) ai))))))),?_⟩;refine bc (σ:=[some (.ref a)]) rfl ?_;walk_at "w";refine ⟨a,_,rfl,hS,λl hl=>?_⟩;have hcl:(ve (ns.map V.int) none (some 63)).length<=63:=ar (qL _ _ _) (by simpa using hlen);refine ⟨l,rfl,⟨_,b6.of aE⟩,?_⟩;refine iH (K:=K) (a:=l) (xs:=ve (ns.map V.int) none (some 63)) (λi ys H'=>H'=upd H l (.lst (ve (ns.map V.int) none (some 63)))/\∃cs:List Int,ys=cs.map V.int/\∀x∈cs,0<=x) (ar hcl (by decide)) ⟨rfl,[],rfl,λ_ z=>nomatch z⟩ (λi ys H' _ ⟨e,_⟩=>by subst e;exact b6.of aE) ?_ ?_
  ·rintro i x ys H' hx hi ⟨rfl,cs,rfl,hcs⟩
   obtain ⟨z,rfl⟩:∃z,x=V.int z:=by
    have hm:x∈ns.map V.int:=List.mem_of_mem_drop (mX (av hx));obtain ⟨z,_,e⟩:=aG.mp hm;exact ⟨z,e.symm⟩
   walk_at "w";refine ⟨rfl,cs++[if z < 0 then -z else z],by simp,λx hx=>?_⟩;rcases aL.mp hx with hx | hx
   ·exact hcs x hx
   ·have e:x=if z < 0 then -z else z:=by simpa using hx
    subst e
    split <;> lia
  ·rintro ys H' hy ⟨rfl,cs,rfl,hcs⟩ p hp;walk_at "w";refine ⟨by show 4<=sizeLine;decide,λb hb=>?_⟩;have n1:b≠p:=λz=>by rw[z,aE] at hb;cases hb
   have hb1:(upd H l (.lst (ve (ns.map V.int) none (some 63)))) b=none:=by rw[aS n1] at hb;exact hb
   have s1:aF H (upd H l (.lst (ve (ns.map V.int) none (some 63)))):=aF.new hl;refine k b _ (s1.free hb1) ⟨p,0,1234567891,0,cs,aE,by rw[aS n1.symm];exact aE,by decide,by decide,by lia,hcs⟩ ((s1.trans (aF.new hp)).trans (aF.new hb))
theorem dU:bx ["_law_bag_here","_law_many","_law_more","_law_cell","_law_value","_law_first","_law_second"] ["_law_bag_here","_law_many"] (aw gB):=by walk_at "d"
theorem bD (T:Txt K mg Z):cZ P w K mg base jT 1 Z.kN Z.ky ["_law_bag_here","_law_many"] AU:=by
 refine T.bg.ok dU (λvs H Q E h=>?_) (λcdv A outer s H vs Q E hr h=>?_)
 ·obtain ⟨p,n,rfl,_⟩:=h;rfl
 ·obtain ⟨p,n,rfl,⟨q,a,b,c,cs,hp,hq,ha,hc,hcl,hcs⟩,hn,hn2,k⟩:=h;have nqp:q≠p:=zf hp hq
  refine ⟨_,(el (dq (be eR (bF cf (pv 0) ah) ah (bo _)) (au (aW (i:=2) dU.nd rfl (Or.inl rfl) ah)
   (el (dq (be o9 (bF cf (pv 0) ah) (bW bU (by rfl) T.len bZ (aa (bF cf (pv 0) ah) ai)) (bo _)) (au (aW (i:=3) dU.nd rfl (Or.inl rfl) (bF cf (bF cf (pv 0) ah) (bF cf (pv 0) ah)))
   (au (Bv (pv 0) ah Ah ah Ea set_list)
   (au (dq (be tU (pv 3) ah (bo _)) (az (fP (pv 3) (gX (pv 0) ah set_list))) bY)
   (az (aW (i:=2) dU.nd rfl (Or.inl rfl) (bJ dZ (bJ lh (pv 3) ah) ah)))))) bY)
   (az (fP (bJ lh (bJ dZ (bJ dI (bF cf (pv 0) ah) ah) (pv 2)) ah) (gX (pv 0) ah set_list))))) bY)
   (au (dq (be qF (bF cf (pv 0) ah) ah (bo _)) (au (aW (i:=4) dU.nd rfl (Or.inl rfl) (bJ lh (bF cf (pv 0) ah) (pv 1)))
   (au (fP (bJ hE (bF cf (pv 0) ah) (pv 1)) (gX (pv 0) ah set_list))
   (az (bE (pv 4))))) bY)
   (au (aW (i:=5) dU.nd rfl (Or.inl rfl) (bJ lh (bJ dI (bF cf (pv 0) ah) ah) ah))
   (au (aW (i:=6) dU.nd rfl (Or.inl rfl) (bJ lh (bJ dI (pv 5) ah) ah))
   (au (dq (be qF (pv 1) ah (bo _)) (az (bE (bJ lh (bJ dZ (bJ dI (pv 6) ah) (pv 5)) (pv 1)))) bY)
   (az (bE (bJ lh (bJ hE (pv 6) ah) (pv 1))))))))),?_⟩
  refine bc (σ:=[some (.ref p),some (.int n),none,none,none,none,none]) rfl ?_;refine ⟨λσ' H'=>∃(x y:Option V) (a' b' c':Int),σ'=[some (.ref p),some (.int n),x,y,none,none,none]/\H' p=some (.lst [.int a',.int b',.int c',.ref q])/\0<=a'/\0<=c'/\c'<=cs.length/\cy p H H',?_,?_⟩
  ·walk_at "w";refine ij (λh0=>?_) (λh0=>?_)
   ·walk_at "w";refine ⟨λσ' H'=>∃(m:Int) (y:Option V) (a' c':Int),σ'=[some (.ref p),some (.int n),some (.int m),y,none,none,none]/\H' p=some (.lst [.int a',.int b,.int c',.ref q])/\0<=a'/\0<=c'/\c'<=cs.length/\cy p H H',?_,?_⟩
    ·walk_at "w";refine ⟨_,_,rfl,.inl (b6.of hq),?_⟩;walk_at "w";refine ij (λh1=>?_) (λh1=>?_)
     ·have h1':c < cs.length:=by simpa using of_decide_eq_true h1
      obtain ⟨z,hz⟩:∃z,cs[c.toNat]?=some z:=⟨_,ak (by lia)⟩;have hz0:0<=z:=hcs z (av hz);walk_at "w";refine cO (b6.of hq) (v:=.int z) ?_ ?_
      ·have:=iT (xs:=cs.map V.int) (j:=c.toNat) (v:=.int z) (by rw[aD,hz];rfl);rwa [Int.toNat_of_nonneg hc] at this
      walk_at "w";refine ij (λh2=>?_) (λh2=>?_)
      ·walk_at "w";exact ⟨_,_,z,c+1,rfl,aE,hz0,by lia,by lia,(cy.set hp).trans (cy.set aE)⟩
      ·walk_at "w";exact ⟨_,_,a,c+1,rfl,aE,ha,by lia,by lia,cy.set hp⟩
     ·walk_at "w";exact ⟨_,_,a,c,rfl,hp,ha,hc,hcl,cy.refl _⟩
    ·rintro σ' H' ⟨m,y,a',c',rfl,hp',ha',hc',hcl',u'⟩;walk_at "w";exact ⟨_,_,a',_,c',rfl,aE,ha',hc',hcl',u'.trans (cy.set hp')⟩
   ·walk_at "w";exact ⟨_,_,a,b,c,rfl,hp,ha,hc,hcl,cy.refl _⟩
  ·rintro σ' H' ⟨x,y,a',b',c',rfl,hp',ha',hc',hcl',u'⟩;have hq':H' q=some (.lst (cs.map V.int)):=u'.1 q _ hq nqp
   have sn:Sz 8999 n:=by
    show n.natAbs < 2^8999
    exact aP (show n.natAbs < 2^64 by lia) (ao (by decide) (by decide))
   walk_at "w";refine ij (λh0=>?_) (λh0=>?_)
   ·walk_at "w";refine gW (show (0:Int) < n from hn) ?_;walk_at "w";refine gW (show mU _ _ from ⟨by lia,sn⟩) ?_;walk_at "w";refine k _ _ (jR _ (by lia)) (fN _ hn) ⟨q,_,b',c',cs,aE,by rw[aS nqp];exact hq',?_,hc',hcl',hcs⟩ (u'.trans (cy.set hp'));rw[bL _ (by lia)];exact Int.ediv_nonneg ha' (by lia)
   ·walk_at "w";refine ij (λh1=>?_) (λh1=>?_)
    ·walk_at "w";refine gW (show (0:Int) < n from hn) ?_;exact k _ _ (jR _ (by lia)) (fN _ hn) ⟨q,a',b',c',cs,hp',hq',ha',hc',hcl',hcs⟩ u'
    ·walk_at "w";refine gW (show mU _ _ from ⟨by decide,by show (3:Nat) < 2^8999;exact aP (show 3 < 2^2 by decide) (ao (by decide) (by decide))⟩) ?_;walk_at "w";refine gW (show (0:Int) < n from hn) ?_;exact k _ _ (jR _ (by lia)) (fN _ hn) ⟨q,a',b',c',cs,hp',hq',ha',hc',hcl',hcs⟩ u'
theorem tu:∃x1 x2 x3 x4 x5 x6 x7 x8 x9 x10 x11 x12 x13 x14 x15 x16:Expr,x1=(Expr.Constant (Const.int 0) 0 ⟨241,16,241,17⟩)/\x2=(Expr.Constant (Const.int 1) 0 ⟨241,19,241,20⟩)/\x3=(Expr.Constant (Const.int 1) 0 ⟨241,22,241,23⟩)/\x4=(Expr.Constant (Const.int 1) 0 ⟨241,25,241,26⟩)/\x5=(Expr.Constant (Const.int 2) 0 ⟨241,28,241,29⟩)/\x6=(Expr.Constant (Const.int 2) 0 ⟨241,31,241,32⟩)/\x7=(Expr.Constant (Const.int 3) 0 ⟨241,34,241,35⟩)/\x8=(Expr.Constant (Const.int 4) 0 ⟨241,37,241,38⟩)/\x9=(Expr.Constant (Const.int 0) 0 ⟨242,17,242,18⟩)/\x10=(Expr.Constant (Const.int 1) 0 ⟨242,20,242,21⟩)/\x11=(Expr.Constant (Const.int 1) 0 ⟨242,23,242,24⟩)/\x12=(Expr.Constant (Const.int 1) 0 ⟨242,26,242,27⟩)/\x13=(Expr.Constant (Const.int 2) 0 ⟨242,29,242,30⟩)/\x14=(Expr.Constant (Const.int 2) 0 ⟨242,32,242,33⟩)/\x15=(Expr.Constant (Const.int 3) 0 ⟨242,35,242,36⟩)/\x16=(Expr.Constant (Const.int 4) 0 ⟨242,38,242,39⟩)/\bp dX=[ (Stmt.Assign (targets:=[(Expr.Name "_law_n" ⟨238,4,238,10⟩)]) (value:=(Expr.Call (func:=(Expr.Name "_law_take" ⟨238,13,238,22⟩)) (args:=[ (Expr.Name "_law_bag_here" ⟨238,23,238,36⟩),(Expr.Constant (Const.int 5) 0 ⟨238,38,238,39⟩)]) (keywords:=[]) (pos:=⟨238,13,238,40⟩))) (pos:=⟨238,4,238,40⟩)),(Stmt.If (test:=(Expr.Compare (left:=(Expr.Call (func:=(Expr.Name "_law_take" ⟨239,7,239,16⟩)) (args:=[ (Expr.Name "_law_bag_here" ⟨239,17,239,30⟩),(Expr.Constant (Const.int 8) 0 ⟨239,32,239,33⟩)]) (keywords:=[]) (pos:=⟨239,7,239,34⟩))) (ops:=[PySem.CmpOp.Eq]) (comparators:=[(Expr.Constant (Const.int 7) 0 ⟨239,38,239,39⟩)]) (pos:=⟨239,7,239,39⟩))) (body:=[ (Stmt.Assign (targets:=[(Expr.Name "_law_n" ⟨240,8,240,14⟩)]) (value:=(Expr.Constant (Const.int 5) 0 ⟨240,17,240,18⟩)) (pos:=⟨240,8,240,18⟩))]) (orelse:=[]) (pos:=⟨239,4,240,18⟩)),(Stmt.Assign (targets:=[(Expr.Name "_law_ins" ⟨241,4,241,12⟩)]) (value:=(Expr.Subscript (value:=(Expr.List (elts:=[x1,x2,x3,x4,x5,x6,x7,x8]) (pos:=⟨241,15,241,39⟩))) (slice:=(Expr.Call (func:=(Expr.Name "_law_take" ⟨241,40,241,49⟩)) (args:=[ (Expr.Name "_law_bag_here" ⟨241,50,241,63⟩),(Expr.Constant (Const.int 8) 0 ⟨241,65,241,66⟩)]) (keywords:=[]) (pos:=⟨241,40,241,67⟩))) (pos:=⟨241,15,241,68⟩))) (pos:=⟨241,4,241,68⟩)),(Stmt.Assign (targets:=[(Expr.Name "_law_outs" ⟨242,4,242,13⟩)]) (value:=(Expr.Subscript (value:=(Expr.List (elts:=[x9,x10,x11,x12,x13,x14,x15,x16]) (pos:=⟨242,16,242,40⟩))) (slice:=(Expr.Call (func:=(Expr.Name "_law_take" ⟨242,41,242,50⟩)) (args:=[ (Expr.Name "_law_bag_here" ⟨242,51,242,64⟩),(Expr.Constant (Const.int 8) 0 ⟨242,66,242,67⟩)]) (keywords:=[]) (pos:=⟨242,41,242,68⟩))) (pos:=⟨242,16,242,69⟩))) (pos:=⟨242,4,242,69⟩)),(Stmt.If (test:=(Expr.Compare (left:=(Expr.Name "_law_n" ⟨243,7,243,13⟩)) (ops:=[PySem.CmpOp.Eq]) (comparators:=[(Expr.Constant (Const.int 5) 0 ⟨243,17,243,18⟩)]) (pos:=⟨243,7,243,18⟩))) (body:=[ (Stmt.Assign (targets:=[ (Expr.Tuple (elts:=[(Expr.Name "_law_ins" ⟨244,8,244,16⟩),(Expr.Name "_law_outs" ⟨244,18,244,27⟩)]) (k:=0) (pos:=⟨244,8,244,27⟩))]) (value:=(Expr.Tuple (elts:=[ (Expr.Call (func:=(Expr.Name "min" ⟨244,31,244,34⟩)) (args:=[ (Expr.Name "_law_ins" ⟨244,35,244,43⟩),(Expr.Constant (Const.int 2) 0 ⟨244,45,244,46⟩)]) (keywords:=[]) (pos:=⟨244,31,244,47⟩)),(Expr.Call (func:=(Expr.Name "min" ⟨244,49,244,52⟩)) (args:=[ (Expr.Name "_law_outs" ⟨244,53,244,62⟩),(Expr.Constant (Const.int 2) 0 ⟨244,64,244,65⟩)]) (keywords:=[]) (pos:=⟨244,49,244,66⟩))]) (k:=0) (pos:=⟨244,30,244,67⟩))) (pos:=⟨244,8,244,67⟩))]) (orelse:=[]) (pos:=⟨243,4,244,67⟩)),(Stmt.Assign (targets:=[(Expr.Name "_law_wide" ⟨245,4,245,13⟩)]) (value:=(Expr.Subscript (value:=(Expr.List (elts:=[ (Expr.Constant (Const.int 4) 0 ⟨245,17,245,18⟩),(Expr.Constant (Const.int 4) 0 ⟨245,20,245,21⟩),(Expr.Constant (Const.int 9) 0 ⟨245,23,245,24⟩),(Expr.Constant (Const.int 1000) 0 ⟨245,26,245,30⟩)]) (pos:=⟨245,16,245,31⟩))) (slice:=(Expr.Call (func:=(Expr.Name "_law_take" ⟨245,32,245,41⟩)) (args:=[ (Expr.Name "_law_bag_here" ⟨245,42,245,55⟩),(Expr.Constant (Const.int 4) 0 ⟨245,57,245,58⟩)]) (keywords:=[]) (pos:=⟨245,32,245,59⟩))) (pos:=⟨245,16,245,60⟩))) (pos:=⟨245,4,245,60⟩)),(Stmt.If (test:=(Expr.Compare (left:=(Expr.Name "_law_wide" ⟨246,7,246,16⟩)) (ops:=[PySem.CmpOp.Gt]) (comparators:=[(Expr.Constant (Const.int 9) 0 ⟨246,19,246,20⟩)]) (pos:=⟨246,7,246,20⟩))) (body:=[ (Stmt.Assign (targets:=[(Expr.Name "_law_n" ⟨247,8,247,14⟩)]) (value:=(Expr.Call (func:=(Expr.Name "min" ⟨247,17,247,20⟩)) (args:=[ (Expr.Name "_law_n" ⟨247,21,247,27⟩),(Expr.Constant (Const.int 2) 0 ⟨247,29,247,30⟩)]) (keywords:=[]) (pos:=⟨247,17,247,31⟩))) (pos:=⟨247,8,247,31⟩))]) (orelse:=[]) (pos:=⟨246,4,247,31⟩)),(Stmt.Return (value:=(some (Expr.Tuple (elts:=[ (Expr.Name "_law_n" ⟨248,12,248,18⟩),(Expr.Name "_law_ins" ⟨248,20,248,28⟩),(Expr.Name "_law_outs" ⟨248,30,248,39⟩),(Expr.Name "_law_wide" ⟨248,41,248,50⟩)]) (k:=0) (pos:=⟨248,11,248,51⟩)))) (pos:=⟨248,4,248,51⟩))]:=⟨_,_,_,_,_,_,_,_,_,_,_,_,_,_,_,_,rfl,rfl,rfl,rfl,rfl,rfl,rfl,rfl,rfl,rfl,rfl,rfl,rfl,rfl,rfl,rfl,by with_unfolding_all rfl⟩
theorem dn:bx ["_law_bag_here","_law_n","_law_ins","_law_outs","_law_wide"] ["_law_bag_here"] (aw dX):=by walk_at "d"
theorem td (T:Txt K mg Z):cZ P w K mg base jT 2 Z.jI Z.jE ["_law_bag_here"] yG:=by
 refine T.mK.ok dn (λvs H Q E h=>?_) (λcdv A outer s H vs Q E hr h=>?_)
 ·obtain ⟨b,rfl,_⟩:=h;rfl
 ·obtain ⟨b,rfl,hB,k⟩:=h;obtain ⟨x1,x2,x3,x4,x5,x6,x7,x8,x9,x10,x11,x12,x13,x14,x15,x16,hx1,hx2,hx3,hx4,hx5,hx6,hx7,hx8,hx9,hx10,hx11,hx12,hx13,hx14,hx15,hx16,hbd⟩:=tu;rw[hbd]
  refine ⟨_,(au (aW (i:=1) dn.nd rfl (Or.inl rfl) (dy (bD T) hr T.aX T.bg.kp T.bu (aa (pv 0) (aa ah ai))))
   (el (dq (be eR (dy (bD T) hr T.aX T.bg.kp T.bu (aa (pv 0) (aa ah ai))) ah (bo _)) (az (aW (i:=1) dn.nd rfl (Or.inl rfl) ah)) bY)
   (au (aW (i:=2) dn.nd rfl (Or.inl rfl) (bF cf (gY (dj hx1 ah (dj hx2 ah (dj hx3 ah (dj hx4 ah (dj hx5 ah (dj hx6 ah (dj hx7 ah (dj hx8 ah ai))))))))) (dy (bD T) hr T.aX T.bg.kp T.bu (aa (pv 0) (aa ah ai)))))
   (au (aW (i:=3) dn.nd rfl (Or.inl rfl) (bF cf (gY (dj hx9 ah (dj hx10 ah (dj hx11 ah (dj hx12 ah (dj hx13 ah (dj hx14 ah (dj hx15 ah (dj hx16 ah ai))))))))) (dy (bD T) hr T.aX T.bg.kp T.bu (aa (pv 0) (aa ah ai)))))
   (el (dq (be eR (pv 1) ah (bo _)) (az (zW (i:=2) (j:=3) rfl dn.nd rfl rfl (by decide) rfl rfl (aa (bW (n9 rfl) (by rfl) T.min PyProof.Rows.boot_min (aa (pv 2) (aa ah ai))) (aa (bW (n9 rfl) (by rfl) T.min PyProof.Rows.boot_min (aa (pv 3) (aa ah ai))) ai)) rfl)) bY)
   (au (aW (i:=4) dn.nd rfl (Or.inl rfl) (bF cf (gY (aa ah (aa ah (aa ah (aa ah ai))))) (dy (bD T) hr T.aX T.bg.kp T.bu (aa (pv 0) (aa ah ai)))))
   (el (dq (be qF (pv 4) ah (bo _)) (az (aW (i:=1) dn.nd rfl (Or.inl rfl) (bW (n9 rfl) (by rfl) T.min PyProof.Rows.boot_min (aa (pv 1) (aa ah ai))))) bY)
   (az (bE (cW (aa (pv 1) (aa (pv 2) (aa (pv 3) (aa (pv 4) ai)))))))))))))),?_⟩
  refine bc (σ:=[some (.ref b),none,none,none,none]) rfl ?_;walk_at "w";refine ⟨b,5,rfl,hB,by decide,by decide,λn H1 n0 n1 B1 u1=>?_⟩;obtain ⟨n,rfl⟩:=kd n0;walk_at "w";refine ⟨λσ' H'=>(∃n:Nat,σ'=[some (.ref b),some (.int n),none,none,none]/\n<=5)/\il H' b/\cy b H H',?_,?_⟩
  ·walk_at "w";refine ⟨b,8,rfl,B1,by decide,by decide,λv H2 v0 v1 B2 u2=>?_⟩;walk_at "w";refine ij (λ_=>?_) (λ_=>?_)
   ·walk_at "w";exact ⟨⟨5,rfl,by decide⟩,B2,u1.trans u2⟩
   ·walk_at "w";exact ⟨⟨n,rfl,by lia⟩,B2,u1.trans u2⟩
  clear n0 n1 u1 B1;rintro σ' H1 ⟨⟨n,rfl,n5⟩,B1,u1⟩;walk_at "w";refine fg λl0 H2 s2 n2 g2=>?_
  walk_at "w";refine ⟨b,8,rfl,B1.same s2,by decide,by decide,λv H3 v0 v1 B3 u3=>?_⟩;have g3:=u3.other (λz=>B1.at (by rw[<- z];exact n2)) g2;obtain ⟨x,ex,mx,_⟩:=nD (xs:=[V.int 0,V.int 1,V.int 1,V.int 1,V.int 2,V.int 2,V.int 3,V.int 4]) v0 (by simpa using v1)
  obtain ⟨i,rfl,hi⟩:∃z:Nat,x=.int z/\z<=4:=by
   simp only[aN,bH,or_false] at mx;rcases mx with rfl | rfl | rfl | rfl | rfl | rfl | rfl | rfl
   ·exact ⟨0,rfl,by decide⟩
   ·exact ⟨1,rfl,by decide⟩
   ·exact ⟨1,rfl,by decide⟩
   ·exact ⟨1,rfl,by decide⟩
   ·exact ⟨2,rfl,by decide⟩
   ·exact ⟨2,rfl,by decide⟩
   ·exact ⟨3,rfl,by decide⟩
   ·exact ⟨4,rfl,by decide⟩
  walk_at "w";refine cO (b6.of g3) ex ?_;clear ex mx g3 g2;walk_at "w";refine fg λl1 H4 s4 n4 g4=>?_
  walk_at "w";refine ⟨b,8,rfl,B3.same s4,by decide,by decide,λt H5 t0 t1 B5 u5=>?_⟩;have g5:=u5.other (λz=>B3.at (by rw[<- z];exact n4)) g4;obtain ⟨x,ex,mx,_⟩:=nD (xs:=[V.int 0,V.int 1,V.int 1,V.int 1,V.int 2,V.int 2,V.int 3,V.int 4]) t0 (by simpa using t1)
  obtain ⟨o,rfl,ho⟩:∃z:Nat,x=.int z/\z<=4:=by
   simp only[aN,bH,or_false] at mx;rcases mx with rfl | rfl | rfl | rfl | rfl | rfl | rfl | rfl
   ·exact ⟨0,rfl,by decide⟩
   ·exact ⟨1,rfl,by decide⟩
   ·exact ⟨1,rfl,by decide⟩
   ·exact ⟨1,rfl,by decide⟩
   ·exact ⟨2,rfl,by decide⟩
   ·exact ⟨2,rfl,by decide⟩
   ·exact ⟨3,rfl,by decide⟩
   ·exact ⟨4,rfl,by decide⟩
  walk_at "w";refine cO (b6.of g5) ex ?_;clear ex mx g5 g4;have u15:=(((u1.same s2).trans u3).same s4).trans u5;walk_at "w";refine ⟨λσ' H'=>(∃i o:Nat,σ'=[some (.ref b),some (.int n),some (.int i),some (.int o),none]/\i<=4/\o<=4/\(n=5->i<=2/\o<=2))/\il H' b/\cy b H H',?_,?_⟩
  ·walk_at "w";refine ij (λh0=>?_) (λh0=>?_)
   ·walk_at "w";refine ⟨⟨min i 2,min o 2,?_,by lia,by lia,λ_=>⟨by lia,by lia⟩⟩,B5,u15⟩;have e1:(if (2:Int) < (i:Int) then (2:Int) else (i:Int))=((min i 2:Nat):Int):=by split <;> lia
    have e2:(if (2:Int) < (o:Int) then (2:Int) else (o:Int))=((min o 2:Nat):Int):=by split <;> lia
    rw[<- e1,<- e2];rfl
   ·walk_at "w";exact ⟨⟨i,o,rfl,hi,ho,λz=>absurd (decide_eq_true (show (n:Int)=5 by lia)) h0⟩,B5,u15⟩
  clear hi ho u15 B5 u5 u3 u1;rintro σ' H5 ⟨⟨i,o,rfl,hi,ho,h5⟩,B5,u5⟩;walk_at "w";refine fg λl2 H6 s6 n6 g6=>?_
  walk_at "w";refine ⟨b,4,rfl,B5.same s6,by decide,by decide,λv H7 v0 v1 B7 u7=>?_⟩;have g7:=u7.other (λz=>B5.at (by rw[<- z];exact n6)) g6;obtain ⟨x,ex,mx,_⟩:=nD (xs:=[V.int 4,V.int 4,V.int 9,V.int 1000]) v0 (by simpa using v1)
  obtain ⟨w,rfl,hw⟩:∃w:Nat,x=.int w/\(w=4\/w=9\/w=1000):=by
   simp only[aN,bH,or_false] at mx;rcases mx with rfl | rfl | rfl | rfl
   ·exact ⟨4,rfl,.inl rfl⟩
   ·exact ⟨4,rfl,.inl rfl⟩
   ·exact ⟨9,rfl,.inr (.inl rfl)⟩
   ·exact ⟨1000,rfl,.inr (.inr rfl)⟩
  walk_at "w";refine cO (b6.of g7) ex ?_;have u07:=(u5.same s6).trans u7;walk_at "w";refine ⟨λσ' H'=>(∃n:Nat,σ'=[some (.ref b),some (.int n),some (.int i),some (.int o),some (.int w)]/\n<=5/\(w=4\/w=9\/(w=1000/\n<=2))/\(n=5->i<=2/\o<=2))/\il H' b/\cy b H H',?_,?_⟩
  ·walk_at "w";refine ij (λh0=>?_) (λh0=>?_)
   ·walk_at "w";refine ⟨⟨min n 2,?_,by lia,by lia,λz=>by lia⟩,B7,u07⟩;have e1:(if (2:Int) < (n:Int) then (2:Int) else (n:Int))=((min n 2:Nat):Int):=by split <;> lia
    rw[<- e1];rfl
   ·walk_at "w";refine ⟨⟨n,rfl,n5,?_,h5⟩,B7,u07⟩;rcases hw with z | z | z
    ·exact .inl z
    ·exact .inr (.inl z)
    ·exact absurd (decide_eq_true (show (9:Int) < (w:Int) by lia)) h0
  ·clear h5 n5;rintro σ' H8 ⟨⟨n',rfl,n5,hwn,h5⟩,B8,u8⟩;walk_at "w";refine b8 λr H9 s9 g9=>?_
   exact k r n' i o w H9 g9 n5 hi ho hwn h5 (B8.same s9) (u8.same s9)
theorem kg:bx ["_law_top","_law_bottom","_law_one","_law_other"] ["_law_top","_law_bottom"] (aw iC):=by walk_at "d"
theorem gI (T:Txt K mg Z):cZ P w K mg base jT 1 Z.mE Z.mj ["_law_top","_law_bottom"] Dv:=by
 refine T.eY.ok kg (λvs H Q E h=>?_) (λcdv A outer s H vs Q E hr h=>?_)
 ·obtain ⟨t,b,rfl,_⟩:=h;rfl
 ·obtain ⟨t,b,rfl,hb,hs,k⟩:=h
  refine ⟨_,(au (aW (i:=2) kg.nd rfl (Or.inl rfl) (bW sL (by rfl) T.abs PyProof.Rows.boot_abs (aa (pv 0) ai)))
   (au (aW (i:=3) kg.nd rfl (Or.inl rfl) (pv 1))
   (au (vU PassesOwn.never (be tT (pv 2) ah (bo _))
    (az (zW (i:=2) (j:=3) rfl kg.nd rfl rfl (by decide) rfl rfl (aa (bJ lh (pv 3) (pv 2)) (aa (pv 2) ai)) rfl)))
   (az (bE (cW (aa (bJ hE (pv 0) (pv 3)) (aa (bJ hE (pv 1) (pv 3)) ai)))))))),?_⟩
  refine bc (σ:=[some (.int t),some (.int b),none,none]) rfl ?_;walk_at "w"
  refine xI (λσ' H'=>∃(u v:Int),σ'=[some (.int t),some (.int b),some (.int u),some (.int v)]/\H'=H/\0<=u/\0 < v/\Int.gcd u v=Int.gcd t b) (λσ' _=>match σ' with | [_,_,some (.int u),_]=>u.natAbs | _=>0) ⟨_,b,rfl,rfl,by split <;> lia,hb,by
   split
   ·rw[Int.neg_gcd]
   ·rfl⟩ ?_
  rintro σ' H' ⟨u,v,rfl,rfl,hu,hv,hg⟩;walk_at "w";refine ij (λh=>?_) (λh=>?_)
  ·have hu0:u≠0:=λz=>by subst z;simp at h
   walk_at "w";refine gW (show (0:Int) < u by lia) ?_;walk_at "w";have h1:=jR v hu0;have h2:=fN v (show 0 < u by lia);exact ⟨⟨v % u,u,rfl,rfl,h1,by lia,by rw[ja,Aj,ja];exact hg⟩,by show (v % u).natAbs < u.natAbs;lia⟩
  ·have hu0:u=0:=by
    by_cases z:u=0
    ·exact z
    ·exfalso;apply h;simp [z]
   subst hu0
   have e:v=g t b:=by
    unfold g;rw[<- hg,Int.gcd_zero_left]
    lia
   have hgs:Sz 8999 v:=hs.le (by
    rw[e];have h1:(g t b).natAbs=Int.gcd t b:=by unfold g;simp
    rw[h1];exact gS (by lia) (by have:=dE (a:=t) (b:=b);exact cJ.mpr this |> λz=>by simpa using z))
   walk_at "w";refine gW (show mU _ _ from ⟨by lia,hgs⟩) ?_;walk_at "w";refine gW (show mU _ _ from ⟨by lia,hgs⟩) ?_;walk_at "w";refine b8 λr H' s' h'=>?_
   rw[bL _ (by lia),bL _ (by lia),e] at h';exact k r H' s' h'
theorem m8:bx ["_law_bag_here","_law_wide","_law_way"] ["_law_bag_here","_law_wide"] (aw ee):=by walk_at "d"
theorem sx (T:Txt K mg Z):cZ P w K mg base jT 2 Z.iW Z.iN ["_law_bag_here","_law_wide"] (rO K):=by
 refine T.lC.ok m8 (λvs H Q E h=>?_) (λcdv A outer s H vs Q E hr h=>?_)
 ·obtain ⟨b,w,rfl,_⟩:=h;rfl
 ·obtain ⟨b,w,rfl,hB,w0,w1,k⟩:=h
  refine ⟨_,(au (aW (i:=2) m8.nd rfl (Or.inl rfl) (dy (bD T) hr T.aX T.bg.kp T.bu (aa (pv 0) (aa ah ai))))
   (au (dq (be o9 (pv 2) ah (bo _)) (az (bE (cW (aa ah (aa ah ai))))) bY)
   (au (dq (be o9 (pv 2) ah (bo _)) (az (bE (cW (aa (bJ lS (dy (bD T) hr T.aX T.bg.kp T.bu (aa (pv 0) (aa ah ai))) ah) (aa ah ai))))) bY)
   (au (dq (be eR (pv 2) ah (bo _)) (az (bE (dy (gI T) hr T.eU T.eY.kp T.fV (aa (bJ lS (dy (bD T) hr T.aX T.bg.kp T.bu (aa (pv 0) (aa ah ai))) ah) (aa (bJ dZ ah (dy (bD T) hr T.aX T.bg.kp T.bu (aa (pv 0) (aa ah ai)))) ai))))) bY)
   (az (bE (dy (gI T) hr T.eU T.eY.kp T.fV (aa (bJ lS (dy (bD T) hr T.aX T.bg.kp T.bu (aa (pv 0) (aa (bJ dZ (bJ dI ah (pv 1)) ah) ai))) (pv 1)) (aa (bJ dZ ah (dy (bD T) hr T.aX T.bg.kp T.bu (aa (pv 0) (aa (pv 1) ai)))) ai))))))))),?_⟩
  refine bc (σ:=[some (.ref b),some (.int w),none]) rfl ?_;walk_at "w";refine ⟨b,8,rfl,hB,by decide,by decide,λv H1 v0 v1 B1 u1=>?_⟩;walk_at "w";refine ij (λh0=>?_) (λh0=>?_)
  ·walk_at "w";refine b8 λr H2 s2 g2=>?_
   exact k r 0 _ ⟨bP _,by show 1<=_;lia⟩ (bO.mk g2 rfl) (B1.same s2) (u1.same s2)
  walk_at "w";refine ij (λh1=>?_) (λh1=>?_)
  ·walk_at "w";refine ⟨b,7,rfl,B1,by decide,by decide,λa H2 a0 a1 B2 u2=>?_⟩;walk_at "w";refine b8 λr H3 s3 g3=>?_
   exact k r ((a - 3:Int):Rat) _ ⟨by show (a - 3).natAbs<=_;lia,by show 1<=_;lia⟩ (bO.mk g3 rfl) (B2.same s3) ((u1.trans u2).same s3)
  walk_at "w";refine ij (λh2=>?_) (λh2=>?_)
  ·walk_at "w";refine ⟨b,13,rfl,B1,by decide,by decide,λa H2 a0 a1 B2 u2=>?_⟩;walk_at "w";refine ⟨b,6,rfl,B2,by decide,by decide,λc H3 c0 c1 B3 u3=>?_⟩;walk_at "w";refine ⟨_,_,rfl,by lia,(zA (by lia)).mono (by decide),λr H4 s4 g4=>?_⟩;obtain ⟨q,e,d,_⟩:=Aa (t:=a - 6) (b:=1+c) (W:=max w 6) (by lia) (by lia) (by lia);exact k r q _ d (bO.mk g4 e) (B3.same s4) (((u1.trans u2).trans u3).same s4)
  walk_at "w";refine ⟨b,_,rfl,B1,by lia,by lia,λa H2 a0 a1 B2 u2=>?_⟩;walk_at "w";refine ⟨b,_,rfl,B2,by lia,by lia,λc H3 c0 c1 B3 u3=>?_⟩;walk_at "w";refine ⟨_,_,rfl,by lia,(zA (by lia)).mono (by decide),λr H4 s4 g4=>?_⟩;obtain ⟨q,e,d,_⟩:=Aa (t:=a - w) (b:=1+c) (W:=max w 6) (by lia) (by lia) (by lia);exact k r q _ d (bO.mk g4 e) (B3.same s4) (((u1.trans u2).trans u3).same s4)
theorem vP:bx ["_law_bag_here","_law_many","_law_wide"] ["_law_bag_here","_law_many","_law_wide"] (aw iB):=by walk_at "d"
theorem m9 (T:Txt K mg Z):cZ P w K mg base jT 3 Z.mD Z.mi ["_law_bag_here","_law_many","_law_wide"] (vL K):=by
 refine T.iJ.ok vP (λvs H Q E h=>?_) (λcdv A outer s H vs Q E hr h=>?_)
 ·obtain ⟨b,m,w,rfl,_⟩:=h;rfl
 ·obtain ⟨b,m,w,rfl,hB,hm,w0,w1,k⟩:=h;refine ⟨_,(az (bE (cv ["_law_k"] ["_law_bag_here","_law_wide"] [0,2] (bV rfl T.range (aa (pv 1) ai)) (λ_=>(aM (i:=0) (show List.Nodup (α:=PySem.Str) ["_law_k","_law_bag_here","_law_wide"] by decide +kernel))) (λ_=>cu) (λ_=>(dy (sx T) hr T.nu T.lC.kp T.oz (aa (pv 1) (aa (pv 2) ai))))))),?_⟩;refine bc (σ:=[some (.ref b),some (.int m),some (.int w)]) rfl ?_;walk_at "w";refine ⟨by lia,by lia,?_⟩;refine ui (n:=m) (bO K) (Dr (max w 6)) hB hm (λa u B=>a.upto u B) ?_ ?_
  ·rintro i H' NY NN hi u B k1;walk_at "w";exact ⟨b,w,rfl,B,w0,w1,λr x H2 hx h2 B2 u2=>k1 _ x _ u2 B2 hx h2⟩
  ·rintro ys cs H' p hp u B g lc hc pr nx;exact k p cs H' hp ⟨ys,g,pr⟩ lc hc B u
theorem gV:bx ["_law_bag_here","_law_n","_law_way","_law_first","_law_wide","_law_move_here","_law_i","_law_row_here","_law_j"] ["_law_bag_here","_law_n","_law_way","_law_first","_law_wide"] (aw gE):=by walk_at "d"
theorem uV (T : Txt K mg Z) : cZ P w K mg base jT 4 Z.kQ Z.kC ["_law_bag_here", "_law_n", "_law_way", "_law_first", "_law_wide"] (vJ K) := by
  have mH := m9 (P := P) (w := w) (base := base) T;have gO := bD (P := P) (w := w) (base := base) T;refine T.nN.ok gV (λvs H Q E h => ?_) (λcdv A outer s H vs Q E hr h => ?_)
  · obtain ⟨b, n, w, way, first, rfl, _⟩ := h;rfl
  · obtain ⟨b, n, w, way, first, rfl, hB, n8, w0, w1, k⟩ := h
    refine ⟨_, (au (aW (i := 5) gV.nd rfl (Or.inl rfl) (gY ai))
      (au (eC PassesOwn.never rfl (bV rfl T.range (aa (pv 1) ai)) (aM (i := 6) gV.nd)
        (au (aW (i := 7) gV.nd rfl (Or.inl rfl) (dy mH hr T.jd T.iJ.kp T.ka (aa (pv 0) (aa (pv 1) (aa (pv 4) ai)))))
      (au (eC PassesOwn.never rfl (bV rfl T.range (aa (pv 1) ai)) (aM (i := 8) gV.nd)
        (el (dq (PW.pt (jq (be eR (pv 2) ah (bo _)) (kl (be qF (dy gO hr T.aX T.bg.kp T.bu (aa (pv 0) (aa ah ai))) ah (bo _))))) (az (fP (cW (aa ah (aa ah ai))) (gX (pv 7) (pv 8) set_list))) bY)
      (el (dq (PW.pt (jq (be eR (pv 2) ah (bo _)) (kl (be o9 (bJ dZ (pv 6) ah) (pv 1) (bo _))))) (az (fP (cW (aa (iF oa (by rfl) T.int PyProof.Rows.boot_int (aa (gZ eR (pv 8) (bJ dZ (pv 6) ah) (bo _)) ai)) (aa ah ai))) (gX (pv 7) (pv 8) set_list))) bY)
      (el (dq (PW.pt (lG (PW.pt (jq (be eR (pv 2) ah (bo _)) (jq (be tU (pv 6) (pv 3) (bo _)) (kl (be o9 (pv 8) (pv 3) (bo _)))))) (jo (PW.pt (jq (be eR (pv 2) ah (bo _)) (jq (be o9 (pv 6) (pv 3) (bo _)) (kl (be tU (pv 8) (pv 3) (bo _))))))))) (az (fP (cW (aa ah (aa ah ai))) (gX (pv 7) (pv 8) set_list))) bY)
      (az (dq (be eR (pv 2) ah (bo _)) (az (fP (cW (aa (bJ dI (bF cf (gY (aa ah (aa ah (aa (rY oI ah) (aa ah ai))))) (bJ lh (pv 3) ah)) (iF oa (by rfl) T.int PyProof.Rows.boot_int (aa (gZ eR (pv 6) (pv 8) (bo _)) ai))) (aa ah ai))) (gX (pv 7) (pv 8) set_list))) bY))))))
      (az (km (vX fB jy jx nY (pv 5) (aa (pv 7) ai)))))))
      (az (bE (pv 5))))), ?_⟩
    refine bc (σ := [some (.ref b), some (.int n), some (.int way), some (.int first), some (.int w), none, none, none, none]) rfl ?_;have W1 : 1 ≤ max w 6 := by lia
    walk_at "w";refine fg λr H1 s1 n1 g1 => ?_
    have rb : r ≠ b := λz => hB.at (by rw [<- z]; exact n1)
    obtain ⟨q0, I0, xs0, gq0⟩ := hB.inner;have I1 : Inner H1 b q0 := (s1.upto (p := b)).2 _ I0;obtain ⟨A, eA⟩ : ∃ A : Addr → Prop, A = λq => H q = none /\ q ≠ r := ⟨_, rfl⟩
    have nb : ¬ A b := by rw [eA]; exact λz => hB.at z.1
    have nr : ¬ A r := by rw [eA]; exact λz => z.2 rfl
    have nq : ¬ A q0 := by rw [eA]; exact λz => by have z1 := z.1; rw [gq0] at z1; cases z1
    have rq : r ≠ q0 := λz => by rw [<- z, n1] at gq0; cases gq0
    walk_at "w";refine ⟨by lia, by lia, ?_⟩;refine fS (n := n) (λi σ' H' => ∃ (x1 x2 x3 : Option V) (us : List V), σ' = [some (.ref b), some (.int n), some (.int way), some (.int first), some (.int w), some (.ref r), x1, x2, x3] /\ H' r = some (.lst us) /\ us.length = i /\ us.Nodup /\ (∀ x ∈ us, d8 K A H' n (Dr (max w 6)) x) /\ il H' b /\ Inner H' b q0 /\ cy b H H') ⟨none, none, none, [], rfl, g1, rfl, oF, (λ_ z => nomatch z), hB.same s1, I1, s1.upto⟩ ?_ ?_
    · rintro i σ' H' hi ⟨x1, x2, x3, us, rfl, gu, lu, nd, ru, B', I', u'⟩;walk_at "w";refine ⟨b, n, w, rfl, B', by lia, w0, w1, λp xs Ha np Ra la da Ba ua => ?_⟩;have hp0 : H p = none := u'.none B' np
      have pn : V.ref p ∉ us := λz => by
        obtain ⟨q', _, _, e', _, g', _⟩ := (ru _ z).at;cases e';rw [np] at g';cases g'
      have ap' : H p = none /\ p ≠ r := ⟨hp0, λz => by rw [z, gu] at np; cases np⟩;have ap : A p := by rw [eA]; exact ap'
      have X0 : yv K A n (Dr (max w 6)) r p b q0 us H Ha := ⟨ua.other rb gu, λx hx => (ru x hx).upto ua B' nb, ⟨p, xs, rfl, ap, Ra, la, da⟩, Ba, ua.2 _ I', u'.trans ua⟩;clear ru Ra gu;walk_at "w";refine ⟨by lia, by lia, ?_⟩;refine fS (n := n) (λj σ' H' => (∃ x3, σ' = [some (.ref b), some (.int n), some (.int way), some (.int first), some (.int w), some (.ref r), some (.int i), some (.ref p), x3]) /\ yv K A n (Dr (max w 6)) r p b q0 us H H') ⟨⟨_, rfl⟩, X0⟩ ?_ ?_
      · rintro j σ' Hj hj ⟨⟨x3, rfl⟩, X⟩;walk_at "w";refine ⟨λσ' H' => σ' = [some (.ref b), some (.int n), some (.int way), some (.int first), some (.int w), some (.ref r), some (.int i), some (.ref p), some (.int j)] /\ yv K A n (Dr (max w 6)) r p b q0 us H H', ?_, ?_⟩
        · walk_at "w";refine ij (λ_ => ?_) (λ_ => ?_)
          · walk_at "w";refine ⟨b, 3, rfl, X.bag, by decide, by decide, λd Hd d0 d1 Bd ud => ?_⟩;replace X := X.upto ud Bd nb rb
            repeat' (first | walk_at "rd" | refine ij (λ_ => ?_) (λ_ => ?_))
            all_goals first
              | exact ⟨rfl, X⟩
              | (refine b8 λt Hb sb gb => ?_
                 walk_at "w";obtain ⟨zs, gz, lz, Xz⟩ := (X.same sb).put ap nr nb nq hp0 (bO.mk (q := 0) gb rfl) (nB (i := 0) (bP _) W1) j;refine eF gz (fh (by lia)) rfl ?_;exact ⟨rfl, Xz⟩)
          · walk_at "w";exact ⟨rfl, X⟩
        clear X;rintro σ' Hj ⟨rfl, X⟩;refine ⟨λσ' H' => σ' = [some (.ref b), some (.int n), some (.int way), some (.int first), some (.int w), some (.ref r), some (.int i), some (.ref p), some (.int j)] /\ yv K A n (Dr (max w 6)) r p b q0 us H H', ?_, ?_⟩
        · repeat' (first | walk_at "rd" | refine ij (λ_ => ?_) (λ_ => ?_))
          all_goals first
            | exact ⟨rfl, X⟩
            | (refine b8 λt Hb sb gb => ?_
               walk_at "w";obtain ⟨zs, gz, lz, Xz⟩ := (X.same sb).put ap nr nb nq hp0 (bO.mk (q := ((if decide ((j : Int) = (i : Int) + 1) = true then (1 : Int) else 0 : Int) : Rat)) gb rfl) (nB (by split <;> lia) W1) j;refine eF gz (fh (by lia)) rfl ?_;exact ⟨rfl, Xz⟩)
        clear X;rintro σ' Hj ⟨rfl, X⟩;refine ⟨λσ' H' => σ' = [some (.ref b), some (.int n), some (.int way), some (.int first), some (.int w), some (.ref r), some (.int i), some (.ref p), some (.int j)] /\ yv K A n (Dr (max w 6)) r p b q0 us H H', ?_, ?_⟩
        · repeat' (first | walk_at "rd" | refine ij (λ_ => ?_) (λ_ => ?_))
          all_goals first
            | exact ⟨rfl, X⟩
            | (refine b8 λt Hb sb gb => ?_
               walk_at "w";obtain ⟨zs, gz, lz, Xz⟩ := (X.same sb).put ap nr nb nq hp0 (bO.mk (q := 0) gb rfl) (nB (i := 0) (bP _) W1) j;refine eF gz (fh (by lia)) rfl ?_;exact ⟨rfl, Xz⟩)
        clear X;rintro σ' Hj ⟨rfl, X⟩;walk_at "w";refine ij (λ_ => ?_) (λ_ => ?_)
        · walk_at "w";refine fg λl0 Hc sc nc gc => ?_
          walk_at "w";obtain ⟨x, ex, mx, _⟩ := nD (xs := [V.int 2, V.int 1, V.int (-1), V.int 0]) (i := first % 4) (jR _ (by decide)) (by have := fN first (show (0 : Int) < 4 by decide); simpa using this)
          obtain ⟨z, rfl, hz⟩ : ∃ z : Int, x = .int z /\ z.natAbs ≤ 2 := by
            simp only [aN, bH, or_false] at mx;rcases mx with rfl | rfl | rfl | rfl
            · exact ⟨2, rfl, by decide⟩
            · exact ⟨1, rfl, by decide⟩
            · exact ⟨-1, rfl, by decide⟩
            · exact ⟨0, rfl, by decide⟩
          refine cO (b6.of gc) ex ?_;walk_at "w";refine gW (yp (by lia) (by lia)) ?_;walk_at "w";refine b8 λt Hb sb gb => ?_
          walk_at "w";obtain ⟨zs, gz, lz, Xz⟩ := ((X.same sc).same sb).put ap nr nb nq hp0 (bO.mk (q := ((z * (if decide ((i : Int) = (j : Int)) = true then (1 : Int) else 0) : Int) : Rat)) gb rfl) (nB (by split <;> lia) W1) j;refine eF gz (fh (by lia)) rfl ?_;exact ⟨⟨_, rfl⟩, Xz⟩
        · walk_at "w";exact ⟨⟨_, rfl⟩, X⟩
      · rintro σ' Hj ⟨⟨x3, rfl⟩, X⟩;walk_at "w";refine ⟨.inl ⟨rfl, _, b6.of X.gr⟩, ?_⟩;walk_at "w";refine nV X.gr (bT (by lia)) ?_;refine ⟨_, _, _, us ++ [.ref p], rfl, aE, by simp [lu], sD nd pn, λx hx => ?_, X.bag.upd X.inn rb rq, X.inn.upd rb, X.up.after n1⟩;rcases aL.mp hx with hx | hx
        · exact (X.ru x hx).other X.gr nr
        · have e : x = V.ref p := by simpa using hx
          rw [e]; exact X.rp.other X.gr nr
    · rintro σ' H' ⟨x1, x2, x3, us, rfl, gu, lu, nd, ru, B', I', u'⟩;walk_at "w";exact k r us H' n1 gu lu nd (by rw [eA] at ru; exact ru) B' u'
theorem vO:bx ["_law_one","_law_other"] ["_law_one","_law_other"] (aw iz):=by walk_at "d"
theorem gH (T:Txt K mg Z):cZ P w K mg base jT 2 Z.mC Z.mh ["_law_one","_law_other"] (p4 K (λx y=>x+y)):=by
 refine T.eV.ok vO (λvs H Q E h=>?_) (λcdv A outer s H vs Q E hr h=>?_)
 ·obtain ⟨p,q,a,b,c,d,rfl,hp,hq,hb,hd,sa,sb,sc,sd,k⟩:=yu h;rfl
 ·obtain ⟨p,q,a,b,c,d,rfl,hp,hq,hb,hd,sa,sb,sc,sd,k⟩:=yu h;refine ⟨_,(az (bE (dy (gI T) hr T.eU T.eY.kp T.fV (aa (bJ dZ (bJ dI (bF cA (pv 0) ah) (bF cA (pv 1) ah)) (bJ dI (bF cA (pv 1) ah) (bF cA (pv 0) ah))) (aa (bJ dI (bF cA (pv 0) ah) (bF cA (pv 1) ah)) ai))))),?_⟩;refine bc (σ:=[some (.ref p),some (.ref q)]) rfl ?_;have hbd:0 < b*d:=mZ hb hd;have sbd:Sz 8999 (b*d):=(sb.mul sd).mono (by decide);walk_at "w";refine gW (show kW _ _ from .inr ⟨_,_,sa,sd,by decide⟩) ?_;walk_at "w";refine gW (show kW _ _ from .inr ⟨_,_,sc,sb,by decide⟩) ?_;walk_at "w";refine gW (show kW _ _ from .inr ⟨_,_,sb,sd,by decide⟩) ?_;walk_at "w";walk_at "w";refine ⟨_,_,rfl,hbd,sbd,k⟩
theorem uI:bx ["_law_one","_law_other"] ["_law_one","_law_other"] (aw gD):=by walk_at "d"
theorem pd (T:Txt K mg Z):cZ P w K mg base jT 3 Z.kP Z.kB ["_law_one","_law_other"] (vI K):=by
 refine T.kT.ok uI (λvs H Q E h=>?_) (λcdv A outer s H vs Q E hr h=>?_)
 ·obtain ⟨p,q,xs,ys,rfl,_⟩:=h;rfl
 ·obtain ⟨p,q,xs,ys,rfl,hp,hq,hl,hz,h1,h2,kk⟩:=h;refine ⟨_,(az (bE (cv ["_law_k"] ["_law_one","_law_other"] [0,1] (bV rfl T.range (aa (bW bU (by rfl) T.len bZ (aa (pv 0) ai)) ai)) (λ_=>(aM (i:=0) (show List.Nodup (α:=PySem.Str) ["_law_k","_law_one","_law_other"] by decide +kernel))) (λ_=>cu) (λ_=>(dy (gH T) hr T.eS T.eV.kp T.fU (aa (bF (je K (by rfl)) (pv 1) (pv 0)) (aa (bF (je K (by rfl)) (pv 2) (pv 0)) ai))))))),?_⟩;refine bc (σ:=[some (.ref p),some (.ref q)]) rfl ?_;obtain ⟨us,gu,qu⟩:=id hp;obtain ⟨ws,gw,qw⟩:=id hq;have lu:=qu.length;walk_at "w";refine ⟨_,_,rfl,.inl (b6.of gu),?_⟩;walk_at "w";refine ⟨by lia,by lia,?_⟩;refine fo (n:=us.length) (bO K) (λi=>xs.getD i 0+ys.getD i 0) (by lia) (λa b=>a.same b) ?_ ?_
  ·rintro i H' NY NN hi s k1;have ix:i < xs.length:=by lia
   have iy:i < ys.length:=by lia
   obtain ⟨vx,ex,nx⟩:=yY (Paired.imp' (λ_ _ z=>z.same s) qu) ix;obtain ⟨vy,ey,ny⟩:=yY (Paired.imp' (λ_ _ z=>z.same s) qw) iy;walk_at "w";refine cO (b6.of (s _ _ gu)) ex ?_;walk_at "w";refine cO (b6.of (s _ _ gw)) ey ?_;walk_at "w";exact ⟨_,_,_,_,rfl,nx,ny,h1 _ (getD_mem ix),h2 _ (getD_mem iy),λr3 H3 s3 n3=>k1 _ _ s3 n3⟩
  ·rintro ys' H' l hl' s g pr nx;exact kk l H' hl' s ⟨ys',g,by rw[yz (by lia)];rw[<- lu] at pr;exact pr⟩
theorem uH:bx ["_law_one","_law_other"] ["_law_one","_law_other"] (aw gC):=by walk_at "d"
theorem jB (T:Txt K mg Z):cZ P w K mg base jT 2 Z.kO Z.kz ["_law_one","_law_other"] (p4 K (λx y=>x*y)):=by
 refine T.gP.ok uH (λvs H Q E h=>?_) (λcdv A outer s H vs Q E hr h=>?_)
 ·obtain ⟨p,q,a,b,c,d,rfl,hp,hq,hb,hd,sa,sb,sc,sd,k⟩:=xZ h;rfl
 ·obtain ⟨p,q,a,b,c,d,rfl,hp,hq,hb,hd,sa,sb,sc,sd,k⟩:=xZ h;refine ⟨_,(az (bE (dy (gI T) hr T.eU T.eY.kp T.fV (aa (bJ dI (bF cA (pv 0) ah) (bF cA (pv 1) ah)) (aa (bJ dI (bF cA (pv 0) ah) (bF cA (pv 1) ah)) ai))))),?_⟩;refine bc (σ:=[some (.ref p),some (.ref q)]) rfl ?_;have hbd:0 < b*d:=mZ hb hd;have sbd:Sz 8999 (b*d):=(sb.mul sd).mono (by decide);walk_at "w";refine gW (show kW _ _ from .inr ⟨_,_,sa,sc,by decide⟩) ?_;walk_at "w";refine gW (show kW _ _ from .inr ⟨_,_,sb,sd,by decide⟩) ?_;walk_at "w";walk_at "w";refine ⟨_,_,rfl,hbd,sbd,k⟩
theorem w5:bx ["_law_by_here","_law_row_here"] ["_law_by_here","_law_row_here"] (aw jS):=by walk_at "d"
theorem sC (T:Txt K mg Z):cZ P w K mg base jT 3 Z.oe Z.nZ ["_law_by_here","_law_row_here"] (zI K):=by
 refine T.og.ok w5 (λvs H Q E h=>?_) (λcdv A outer s H vs Q E hr h=>?_)
 ·obtain ⟨u,q,c,ys,rfl,_⟩:=h;rfl
 ·obtain ⟨u,q,c,ys,rfl,hc,sc,hq,hz,h2,kk⟩:=h;refine ⟨_,(az (bE (cv ["_law_one"] ["_law_by_here"] [0] (dk (pv 1)) (λ_=>(aM (i:=0) (show List.Nodup (α:=PySem.Str) ["_law_one","_law_by_here"] by decide +kernel))) (λ_=>cu) (λ_=>(dy (jB T) hr T.h7 T.gP.kp T.jh (aa (pv 1) (aa (pv 0) ai))))))),?_⟩;refine bc (σ:=[some u,some (.ref q)]) rfl ?_;obtain ⟨us,gu,qu⟩:=id hq;walk_at "w";refine ⟨⟨_,b6.of gu⟩,?_⟩;refine gK (K:=K) (F:=bO K) (bO K) (λy=>c*y) gu qu hz (λa b=>a.same b) (λa b=>a.same b) ?_ ?_
  ·rintro i y x H' NY NN en s hx k;walk_at "w";exact ⟨_,_,_,_,rfl,hc.same s,hx,sc,h2 y (av en),λr H2 s2 h2'=>k _ _ s2 h2'⟩
  ·rintro ys' H' r hr s g pr nx;exact kk r H' hr s ⟨ys',g,pr⟩
theorem cT:bx ["_law_bag_here","_law_move_here","_law_put","_law_look","_law_n","_law_turn","_law_i","_law_j","_law_by_here","_law_less_here","_law_row_here"] ["_law_bag_here","_law_move_here","_law_put","_law_look"] (aw fe):=by walk_at "d"
theorem tm (T:Txt K mg Z):cZ P w K mg base jT 4 Z.jK Z.jG ["_law_bag_here","_law_move_here","_law_put","_law_look"] (tJ K):=by
 refine T.mM.ok cT (λvs H Q E h=>?_) (λcdv A outer s H vs Q E hr h=>?_)
 ·obtain ⟨b,m,p,l,q0,n,WV,μ,A,us,ws,vs,rfl,_⟩:=h;rfl
 ·obtain ⟨b,m,p,l,q0,n,WV,μ,A,us,ws,vs,rfl,MA,X,n8,i4,o4,M0,M1,⟨M,eM⟩,V1,hA,k⟩:=h
  refine ⟨_,(au (aW (i:=4) cT.nd rfl (Or.inl rfl) (bW bU (by rfl) T.len bZ (aa (pv 1) ai)))
   (au (dq (PW.pt (lG (be o9 (pv 4) ah (bo _)) (jo (be eR (dy (bD T) hr T.aX T.bg.kp T.bu (aa (pv 0) (aa ah ai))) ah (bo _))))) (az (bE (cW (aa (pv 1) (aa (pv 2) (aa (pv 3) ai)))))) bY)
   (au (eC PassesOwn.never rfl (bV rfl T.range (aa (bJ dZ ah (dy (bD T) hr T.aX T.bg.kp T.bu (aa (pv 0) (aa ah ai)))) ai)) (aM (i:=5) cT.nd)
    (au (aW (i:=6) cT.nd rfl (Or.inl rfl) (dy (bD T) hr T.aX T.bg.kp T.bu (aa (pv 0) (aa (pv 4) ai))))
   (au (aW (i:=7) cT.nd rfl (Or.inl rfl) (bJ lh (bJ dZ (bJ dZ (pv 6) ah) (dy (bD T) hr T.aX T.bg.kp T.bu (aa (pv 0) (aa (bJ lS (pv 4) ah) ai)))) (pv 4)))
   (au (aW (i:=8) cT.nd rfl (Or.inl rfl) (cW (aa (bF cf (gY (aa ah (aa (rY oI ah) (aa ah (aa (rY oI ah) ai))))) (dy (bD T) hr T.aX T.bg.kp T.bu (aa (pv 0) (aa ah ai)))) (aa ah ai))))
   (au (aW (i:=9) cT.nd rfl (Or.inl rfl) (cW (aa (bJ lS ah (bF cA (pv 8) ah)) (aa ah ai))))
   (au (fP (dy (pd T) hr T.lX T.kT.kp T.nC (aa (bF cf (pv 1) (pv 6)) (aa (dy (sC T) hr T.oR T.og.kp T.qt (aa (pv 8) (aa (bF cf (pv 1) (pv 7)) ai))) ai))) (gX (pv 1) (pv 6) set_list))
   (au (eC PassesOwn.never rfl (dk (bJ DW (pv 1) (pv 3))) (aM (i:=10) cT.nd)
    (az (fP (dy (gH T) hr T.eS T.eV.kp T.fU (aa (bF cf (pv 10) (pv 7)) (aa (dy (jB T) hr T.h7 T.gP.kp T.jh (aa (pv 9) (aa (bF cf (pv 10) (pv 6)) ai))) ai))) (gX (pv 10) (pv 7) set_list))))
   (az (eC PassesOwn.never rfl (dk (pv 2)) (aM (i:=10) cT.nd)
    (az (fP (dy (gH T) hr T.eS T.eV.kp T.fU (aa (bF cf (pv 10) (pv 6)) (aa (dy (jB T) hr T.h7 T.gP.kp T.jh (aa (pv 8) (aa (bF cf (pv 10) (pv 7)) ai))) ai))) (gX (pv 10) (pv 6) set_list))))))))))))
   (az (bE (cW (aa (pv 1) (aa (pv 2) (aa (pv 3) ai))))))))),?_⟩
  refine bc (σ:=[some (.ref b),some (.ref m),some (.ref p),some (.ref l),none,none,none,none,none,none,none]) rfl ?_;have done:∀r us' H' t,t<=3->H' r=some (.tup [.ref m,.ref p,.ref l])->ik K A H' n (λx=>Fr (μ x) (9^t*WV)) m p l b q0 us' ws vs->fA A b m H H'->Q (.ref r) H':=λr us' H' t ht g x kp=>k r us' H' g (x.weak λ_ _ y h=>h.mono (aR _ (ao (by decide) ht))) kp
  have X0:ik K A H n (λx=>Fr (μ x) (9^0*WV)) m p l b q0 us ws vs:=X.weak λ_ _ y h=>h.mono (by simp)
  clear X k;have gu:=X0.gm;have lu:=X0.lm;walk_at "w";refine ⟨_,_,rfl,.inl (b6.of gu),?_⟩;rw[lu];clear gu lu;have kp0:fA A b m H H:=λ_ _ h _ _ _=>h
  walk_at "w";refine ij (λh0=>?_) (λh0=>?_)
  ·walk_at "w";refine b8 λr H' s' g'=>?_
   exact done r us H' 0 (by decide) g' (X0.same s') (kp0.same s')
  have n2:2<=n:=by
   rcases Nat.lt_or_ge n 2 with z | z
   ·exact absurd (decide_eq_true (show (n:Int) < 2 by lia)) h0
   ·exact z
  walk_at "w";refine ⟨b,2,rfl,X0.bag,by decide,by decide,λv H1 v0 v1 B1 u1=>?_⟩;have X1:=X0.upto MA u1 B1;have kp1:=kp0.upto u1;walk_at "w";refine ij (λh1=>?_) (λh1=>?_)
  ·walk_at "w";refine b8 λr H' s' g'=>?_
   exact done r us H' 0 (by decide) g' (X1.same s') (kp1.same s')
  walk_at "w";refine ⟨b,3,rfl,B1,by decide,by decide,λc H2 c0 c1 B2 u2=>?_⟩;have X2:=X1.upto MA u2 B2;have kp2:=kp1.upto u2;clear X0 X1 kp0 kp1 u1 u2 B1;walk_at "w";refine ⟨by lia,by lia,?_⟩;refine fS (n:=(1+c).toNat) (λt σ' H'=>∃(x1 x2 x3 x4 x5 x6:Option V) (us:List V),σ'=[some (.ref b),some (.ref m),some (.ref p),some (.ref l),some (.int n),x1,x2,x3,x4,x5,x6]/\ik K A H' n (λx=>Fr (μ x) (9^t*WV)) m p l b q0 us ws vs/\fA A b m H H') ⟨none,none,none,none,none,none,us,rfl,X2,kp2⟩ ?_ ?_
  ·rintro t σ' H' ht ⟨x1,x2,x3,x4,x5,x6,us,rfl,X,kp⟩;have t3:t<=2:=by lia
   walk_at "w";refine ⟨b,n,rfl,X.bag,by lia,by lia,λii Ha i0 i1 Ba ua=>?_⟩;obtain ⟨ii,rfl⟩:=kd i0;have Xa:=X.upto MA ua Ba;have kpa:=kp.upto ua;walk_at "w";refine ⟨b,_,rfl,Ba,by lia,by lia,λd Hb d0 d1 Bb ub=>?_⟩;have Xb:=Xa.upto MA ub Bb;have kpb:=kpa.upto ub;walk_at "w";refine gW (show (0:Int) < n by lia) ?_;have j0:=jR ((ii:Int)+1+d) (show (n:Int)≠0 by lia);have j1:=fN ((ii:Int)+1+d) (show (0:Int) < n by lia);generalize ((ii:Int)+1+d) % (n:Int)=jj at j0 j1 ⊢;obtain ⟨jj,rfl⟩:=kd j0;walk_at "w";refine fg λl0 Hc sc nc gc=>?_
   walk_at "w";refine ⟨b,4,rfl,Bb.same sc,by decide,by decide,λv' Hd v0' v1' Bd ud=>?_⟩;have gd:=ud.other (λz=>Bb.at (by rw[<- z];exact nc)) gc;obtain ⟨x,ex,mx,_⟩:=nD (xs:=[V.int 1,V.int (-1),V.int 2,V.int (-2)]) v0' (by simpa using v1')
   obtain ⟨z,rfl,hz⟩:∃z:Int,x=.int z/\z.natAbs<=2:=by
    simp only[aN,bH,or_false] at mx;rcases mx with rfl | rfl | rfl | rfl
    ·exact ⟨1,rfl,by decide⟩
    ·exact ⟨-1,rfl,by decide⟩
    ·exact ⟨2,rfl,by decide⟩
    ·exact ⟨-2,rfl,by decide⟩
   have Xd:=(Xb.same sc).upto MA ud Bd;have kpd:=(kpb.same sc).upto ud;walk_at "w";refine cO (b6.of gd) ex ?_;walk_at "w";refine b8 λbt He se ge=>?_
   walk_at "w";refine b8 λlt Hf sf gf=>?_
   have Xf:=(Xd.same se).same sf;have kpf:=(kpd.same se).same sf;have nb:bO K Hf ((z:Int):Rat) (.ref bt):=bO.mk (sf _ _ ge) rfl;have nl:bO K Hf ((0 - z:Int):Rat) (.ref lt):=bO.mk gf rfl;clear X Xa Xb Xd kp kpa kpb kpd ua ub ud sc gc gd ex mx ge gf se sf Ba Bb Bd nc;have gu:=Xf.gm;have lu:=Xf.lm
   have ru:∀x∈us,d8 K A Hf n (Fr M (9^t*WV)) x:=λx hx=>by
    have:=Xf.row x (by simp [hx]);rwa [eM x (Xf.apart.1 x hx).1 (Xf.apart.1 x hx).2] at this
   have hM:0 < M/\M<=2^800:=by
    have hx:us[ii]'(by lia)∈us:=bC _;have:=eM _ (Xf.apart.1 _ hx).1 (Xf.apart.1 _ hx).2;rw[<- this];exact ⟨M0 _,M1 _⟩
   have e1:us[ii]?=some (us[ii]'(by lia)):=by simp
   have e2:us[jj]?=some (us[jj]'(by lia)):=by simp
   obtain ⟨q1,z1,qs1,w1,a1,g1,k1,p1,l1,c1⟩:=(ru _ (av e1)).at;obtain ⟨q2,z2,qs2,w2,a2,g2,k2,p2,l2,c2⟩:=(ru _ (av e2)).at;rw[w1] at e1;rw[w2] at e2;generalize eW:9^t*WV=W at *
   have W9:9*W<=2^140:=by rw[<- eW];exact Bw (by lia) V1 (by decide)
   have sz9M:∀{x:Rat} {U:Nat},U<=9*W->Fr M U x->qU x:=λhU h=>yi hM.1 hM.2 (ar hU W9) h
   have sz9:∀{x:Rat} {U:Nat} {v:V},U<=9*W->Fr (μ v) U x->qU x:=λhU h=>yi (M0 _) (M1 _) (ar hU W9) h
   walk_at "w";refine cO (b6.of gu) (iT e1) ?_;walk_at "w";refine cO (b6.of gu) (iT e2) ?_;walk_at "w";refine ⟨_,q2,_,qs2,rfl,nb,uz (by lia),⟨z2,g2,p2⟩,by lia,λy hy=>sz9M (by lia) (c2 y hy),λr1 Hg n1 sg R1=>?_⟩;walk_at "w";refine ⟨q1,r1,qs1,_,rfl,⟨z1,sg _ _ g1,Paired.imp' (λ_ _ y=>y.same sg) p1⟩,R1,by rw[aj,l1,l2],by lia,λy hy=>sz9M (by lia) (c1 y hy),λy hy=>?_,λr2 Hh n2' sh R2=>?_⟩
   ·obtain ⟨y',hy',rfl⟩:=aG.mp hy;exact rJ hz (c2 y' hy') hM.1 hM.2 (by lia)
   have sfh:=sg.trans sh
   have new:V.ref r2∉us++vs++ws:=λz=>by
    obtain ⟨q',_,_,e',_,g',_⟩:=((Xf.same sg).row _ z).at;cases e';rw[n2'] at g';cases g'
   have Xh:=(Xf.same sfh).weak (C':=λx y=>(x∈ws->Fr (μ x) W y)/\Fr (μ x) (3*W) y) λx _ y h=>⟨λ_=>h,h.mono (by lia)⟩
   have kph:=kpf.same sfh;have guh:=sfh _ _ gu;have ar2:A r2:=(kpf.same sg).new hA (Xf.same sg).bag (by rw[sg _ _ gu];simp) n2'
   have rp2:d8 K A Hh n (λy=>(V.ref r2∈ws->Fr (μ (.ref r2)) W y)/\Fr (μ (.ref r2)) (3*W) y) (.ref r2):=by
    rw[eM (.ref r2) (λz=>new (aL.mpr (.inr z))) (λz=>new (aL.mpr (.inl (aL.mpr (.inr z)))))];refine ⟨r2,_,rfl,ar2,R2,by rw[jn,aj];lia,λy hy=>⟨λz=>absurd (aL.mpr (.inr z)) new,?_⟩⟩;obtain ⟨j',hj',e⟩:=fz hy;rw[mY,du] at e;rw[<- e];exact va hz (c1 _ (bC _)) (c2 _ (bC _))
   walk_at "w";refine eF guh (fh (by lia)) rfl ?_;have Xi:=Xh.set MA rp2 new ii;have kpi:=kph.upd (o:=.lst (us.set ii (.ref r2))) (q:=m) (.inr rfl);have nli:bO K (upd Hh m (.lst (us.set ii (.ref r2)))) ((0 - z:Int):Rat) (.ref lt):=(nl.same sfh).updL guh;have nbi:bO K (upd Hh m (.lst (us.set ii (.ref r2)))) ((z:Int):Rat) (.ref bt):=(nb.same sfh).updL guh;generalize upd Hh m (.lst (us.set ii (.ref r2)))=Hi at Xi kpi nli nbi ⊢;generalize us.set ii (.ref r2)=um at Xi;clear nb nl Xf kpf gu ru e1 e2 g1 p1 g2 p2 R1 R2 Xh kph guh rp2 sg sh sfh new;have gm:=Xi.gm;have lm:=Xi.lm;have gl:=Xi.gl;have nd:=Xi.nd;obtain ⟨nd1,nd2,nd3⟩:=cH.mp nd;walk_at "w";refine DO gm gl (bI (bT (by lia))) λcl Hj sj nj gj=>?_
   have kpj:=kpi.same sj
   have rows:∀x∈um++vs,∀q,x=V.ref q->q≠cl:=λx hx q e y=>by
    obtain ⟨q',zs,_,e',_,g',_⟩:=(Xi.row x (aL.mpr (.inl hx))).at;rw[e] at e';cases e';rw[y,nj] at g';cases g'
   have Xj:=(Xi.same sj).weak (C':=λx y=>(x∈ws->Fr (μ x) W y)/\(x∈(um++vs).drop 0->Fr (μ x) (3*W) y)/\Fr (μ x) (9*W) y) λx _ y h=>⟨h.1,λ_=>h.2,h.2.mono (by lia)⟩
   have lj:bO K Hj ((0 - z:Int):Rat) (.ref lt):=nli.same sj;have bj:bO K Hj ((z:Int):Rat) (.ref bt):=nbi.same sj;clear Xi kpi nli nbi;refine ⟨_,rfl,⟨_,b6.of gj⟩,?_⟩;refine lK (K:=K) (a:=cl) (xs:=um++vs) (λs σ' H'=>∃x6:Option V,σ'=[some (.ref b),some (.ref m),some (.ref p),some (.ref l),some (.int n),some (.int t),some (.int ii),some (.int jj),some (.ref bt),some (.ref lt),x6]/\ik K A H' n (λx y=>(x∈ws->Fr (μ x) W y)/\(x∈(um++vs).drop s->Fr (μ x) (3*W) y)/\Fr (μ x) (9*W) y) m p l b q0 um ws vs/\fA A b m H H'/\H' cl=some (.lst (um++vs))/\bO K H' ((0 - z:Int):Rat) (.ref lt)/\bO K H' ((z:Int):Rat) (.ref bt)) ⟨_,rfl,Xj,kpj,gj,lj,bj⟩ (λs σ' H' _ ⟨_,_,_,_,e,_⟩=>b6.of e) ?_ ?_
   ·rintro s x σ' Hk hx ⟨y6,rfl,Xk,kpk,gk,lk,bk⟩;have hs:s < (um++vs).length:=(aO.mp hx).1;have mx:=av hx
    have xd:x∈(um++vs).drop s:=by
     rw[dm hs,(aO.mp hx).2];exact .head _
    have xd2:x∉(um++vs).drop (s+1):=λz=>by
     have:=nd1.sublist (List.drop_sublist s _);rw[dm hs,cC,(aO.mp hx).2] at this;exact this.1 z
    have xw:x∉ws:=λz=>nd3 x mx x z rfl
    have rx:=Xk.row x (aL.mpr (.inl mx));obtain ⟨q,zs,qs,rfl,aq,gq,lq,pq,lq2,cq⟩:=rx.at;have qcl:=rows _ mx q rfl;obtain ⟨vj,ej,nj'⟩:=yY pq (j:=jj) (by lia);obtain ⟨vi,ei,ni'⟩:=yY pq (j:=ii) (by lia);have cj:=(cq _ (getD_mem (xs:=qs) (i:=jj) (by lia))).2.1 xd;have ci:=(cq _ (getD_mem (xs:=qs) (i:=ii) (by lia))).2.1 xd;walk_at "w";refine cO (b6.of gq) ej ?_;walk_at "w";refine cO (b6.of gq) ei ?_;walk_at "w";refine ⟨_,_,_,_,rfl,lk,ni',uz (by lia),sz9 (by lia) ci,λr3 Hl sl n3=>?_⟩;walk_at "w";refine ⟨_,_,_,_,rfl,nj'.same sl,n3,sz9 (by lia) cj,rJ (by lia) ci (M0 _) (M1 _) (by lia),λr4 Hm sm n4=>?_⟩;have slm:=sl.trans sm;walk_at "w";refine eF (slm _ _ gq) (fh (by lia)) rfl ?_;refine ⟨_,rfl,?_,(kpk.same slm).upd (.inl aq),by rw[aS qcl.symm];exact slm _ _ gk,(lk.same slm).updL (slm _ _ gq),(bk.same slm).updL (slm _ _ gq)⟩;refine ((Xk.same slm).weak λx' _ y h=>⟨h.1,λz=>h.2.1 ?_,h.2.2⟩).put MA aq (slm _ _ gq) n4 ⟨λz=>absurd z xw,λz=>absurd z xd2,?_⟩ jj
    ·rw[dm hs];exact .tail _ z
    ·exact (va (by lia) cj ci).mono (by lia)
   ·rintro σ' Hk ⟨y6,rfl,Xk,kpk,gk,lk,bk⟩;have gp:=Xk.gp;have Xk2:=Xk.weak (C':=λx y=>(x∈ws.drop 0->Fr (μ x) W y)/\Fr (μ x) (9*W) y) λx _ y h=>⟨λz=>h.1 (by simpa using z),h.2.2⟩
    clear Xk;walk_at "w";refine ⟨⟨_,b6.of gp⟩,?_⟩;refine lK (K:=K) (a:=p) (xs:=ws) (λs σ' H'=>∃x6:Option V,σ'=[some (.ref b),some (.ref m),some (.ref p),some (.ref l),some (.int n),some (.int t),some (.int ii),some (.int jj),some (.ref bt),some (.ref lt),x6]/\ik K A H' n (λx y=>(x∈ws.drop s->Fr (μ x) W y)/\Fr (μ x) (9*W) y) m p l b q0 um ws vs/\fA A b m H H'/\bO K H' ((z:Int):Rat) (.ref bt)) ⟨_,rfl,Xk2,kpk,bk⟩ (λs σ' H' _ ⟨_,_,X,_⟩=>b6.of X.gp) ?_ ?_
    ·rintro s x σ' Hl hx ⟨w6,rfl,Xl,kpl,bl⟩;have hs:s < ws.length:=(aO.mp hx).1;have mx:=av hx
     have xd:x∈ws.drop s:=by
      rw[dm hs,(aO.mp hx).2];exact .head _
     have xd2:x∉ws.drop (s+1):=λz=>by
      have:=nd2.sublist (List.drop_sublist s _);rw[dm hs,cC,(aO.mp hx).2] at this;exact this.1 z
     have rx:=Xl.row x (aL.mpr (.inr mx));obtain ⟨q,zs,qs,rfl,aq,gq,lq,pq,lq2,cq⟩:=rx.at;obtain ⟨vj,ej,nj'⟩:=yY pq (j:=jj) (by lia);obtain ⟨vi,ei,ni'⟩:=yY pq (j:=ii) (by lia);have cj:=(cq _ (getD_mem (xs:=qs) (i:=jj) (by lia))).1 xd;have ci:=(cq _ (getD_mem (xs:=qs) (i:=ii) (by lia))).1 xd;walk_at "w";refine cO (b6.of gq) ei ?_;walk_at "w";refine cO (b6.of gq) ej ?_;walk_at "w";refine ⟨_,_,_,_,rfl,bl,nj',uz (by lia),sz9 (by lia) cj,λr3 Hm sm n3=>?_⟩;walk_at "w";refine ⟨_,_,_,_,rfl,ni'.same sm,n3,sz9 (by lia) ci,rJ (by lia) cj (M0 _) (M1 _) (by lia),λr4 Hn sn n4=>?_⟩;have smn:=sm.trans sn;walk_at "w";refine eF (smn _ _ gq) (fh (by lia)) rfl ?_;refine ⟨_,rfl,?_,(kpl.same smn).upd (.inl aq),(bl.same smn).updL (smn _ _ gq)⟩;refine ((Xl.same smn).weak λx' _ y h=>⟨λz=>h.1 ?_,h.2⟩).put MA aq (smn _ _ gq) n4 ⟨λz=>absurd z xd2,?_⟩ ii
     ·rw[dm hs];exact .tail _ z
     ·exact (va (by lia) ci cj).mono (by lia)
    ·rintro σ' Hl ⟨w6,rfl,Xl,kpl,bl⟩;refine ⟨_,_,_,_,_,_,um,rfl,Xl.weak λ_ _ y h=>h.2.mono ?_,kpl⟩;rw[<- eW,eO,eP (9^t) 9,dO];exact ay _
  ·rintro σ' H' ⟨x1,x2,x3,x4,x5,x6,us',rfl,X,kp⟩;walk_at "w";refine b8 λr H2' s' g'=>?_
   exact done r us' H2' _ (by lia) g' (X.same s') (kp.same s')
theorem cS:bx ["_law_bag_here","_law_n","_law_ins","_law_outs","_law_wide","_law_way","_law_first","_law_move_here","_law_put","_law_look","_law_k","_law_row_here"] ["_law_bag_here","_law_n","_law_ins","_law_outs","_law_wide"] (aw fb):=by walk_at "d"
theorem tj (T : Txt K mg Z) : cZ P w K mg base jT 5 Z.jJ Z.jF ["_law_bag_here", "_law_n", "_law_ins", "_law_outs", "_law_wide"] (tI K) := by
  have gO := bD (P := P) (w := w) (base := base) T;have wJ := uV (P := P) (w := w) (base := base) T;have mH := m9 (P := P) (w := w) (base := base) T;have vp := tm (P := P) (w := w) (base := base) T;refine T.mL.ok cS (λvs H Q E h => ?_) (λcdv A outer s H vs Q E hr h => ?_)
  · obtain ⟨b, n, i, o, w, c, rfl, _⟩ := h;rfl
  · obtain ⟨b, n, i, o, w, c, rfl, hB, n8, i4, o4, w0, w1, hc, hc20, hcM, k⟩ := h
    refine ⟨_, (au (aW (i := 5) cS.nd rfl (Or.inl rfl) (dy gO hr T.aX T.bg.kp T.bu (aa (pv 0) (aa ah ai))))
      (au (aW (i := 6) cS.nd rfl (Or.inl rfl) (dy gO hr T.aX T.bg.kp T.bu (aa (pv 0) (aa (bJ dZ (pv 1) ah) ai))))
      (au (aW (i := 7) cS.nd rfl (Or.inl rfl) (dy wJ hr T.pC T.nN.kp T.qR (aa (pv 0) (aa (pv 1) (aa (pv 5) (aa (pv 6) (aa (pv 4) ai)))))))
      (au (lQ 8 ["_law_k"] ["_law_bag_here", "_law_n", "_law_wide"] [0, 1, 4] cS.nd rfl rfl (bV rfl T.range (aa (pv 2) ai)) (λ_ => (aM (i := 0) (show List.Nodup (α := PySem.Str) ["_law_k", "_law_bag_here", "_law_n", "_law_wide"] by decide +kernel))) (λ_ => cu) (λ_ => (dy mH hr T.jd T.iJ.kp T.ka (aa (pv 1) (aa (pv 2) (aa (pv 3) ai))))))
      (au (lQ 9 ["_law_k"] ["_law_bag_here", "_law_n", "_law_wide"] [0, 1, 4] cS.nd rfl rfl (bV rfl T.range (aa (pv 3) ai)) (λ_ => (aM (i := 0) (show List.Nodup (α := PySem.Str) ["_law_k", "_law_bag_here", "_law_n", "_law_wide"] by decide +kernel))) (λ_ => cu) (λ_ => (dy mH hr T.jd T.iJ.kp T.ka (aa (pv 1) (aa (pv 2) (aa (pv 3) ai))))))
      (au (eC PassesOwn.never rfl (bV rfl T.range (aa (pv 1) ai)) (aM (i := 10) cS.nd)
        (au (eC PassesOwn.never rfl (dk (pv 8)) (aM (i := 11) cS.nd)
        (az (dq (PW.pt (lG (PW.pt (jq (be eR (pv 5) ah (bo _)) (kl (be tU (pv 10) (pv 6) (bo _))))) (jo (PW.pt (jq (be eR (pv 5) ah (bo _)) (jq (be o9 (bJ dZ (pv 10) ah) (pv 1) (bo _)) (kl (be eR (dy gO hr T.aX T.bg.kp T.bu (aa (pv 0) (aa ah ai))) ah (bo _))))))))) (az (fP (cW (aa ah (aa ah ai))) (gX (pv 11) (pv 10) set_list))) bY)))
      (az (eC PassesOwn.never rfl (dk (pv 9)) (aM (i := 11) cS.nd)
        (az (dq (PW.pt (lG (PW.pt (jq (be eR (pv 5) ah (bo _)) (kl (be tU (pv 10) (pv 6) (bo _))))) (jo (PW.pt (jq (be eR (pv 5) ah (bo _)) (jq (be qF (pv 10) ah (bo _)) (kl (be eR (dy gO hr T.aX T.bg.kp T.bu (aa (pv 0) (aa ah ai))) ah (bo _))))))))) (az (fP (cW (aa ah (aa ah ai))) (gX (pv 11) (pv 10) set_list))) bY))))))
      (az (bE (dy vp hr T.ow T.mM.kp T.pU (aa (pv 0) (aa (pv 7) (aa (pv 8) (aa (pv 9) ai))))))))))))), ?_⟩
    refine bc (σ := [some (.ref b), some (.int n), some (.int i), some (.int o), some (.int w), none, none, none, none, none, none, none]) rfl ?_;have W1 : 1 ≤ max w 6 := by lia
    obtain ⟨q0, I0, xs0, gq0⟩ := hB.inner;walk_at "w";refine ⟨b, 6, rfl, hB, by decide, by decide, λway H1 a0 a1 B1 u1 => ?_⟩;walk_at "w";refine ⟨b, _, rfl, B1, by lia, by lia, λfirst H2 f0 f1 B2 u2 => ?_⟩;have u02 := u1.trans u2;walk_at "w";refine ⟨b, n, w, way, first, rfl, B2, n8, w0, w1, λm us H3 nm0 gm lm ndm rm B3 u3 => ?_⟩;have u03 := u02.trans u3;walk_at "w";refine ⟨by lia, by lia, ?_⟩;refine uj (n := i) (b := b) (cN K H3) (λxs => xs.length = n /\ ∀ x ∈ xs, Dr (max w 6) x) B3 (by lia) (λa u B => a.upto u B B3.at) (λ⟨q, e, _, _, g, _⟩ => ⟨q, e, by rw [g]; exact λz => nomatch z⟩) ?_ ?_
    · rintro s H' NY NN hi u B k1;walk_at "w";exact ⟨b, n, w, rfl, B, by lia, w0, w1, λr xs H2 nr R lx dx B2 u2 => k1 _ xs _ u2 B2 ⟨lx, dx⟩ ⟨r, rfl, u.none B nr, R⟩ ⟨r, rfl, nr⟩⟩
    rintro ws puts H4 p np u4 B4 gp lp ndp hp pr4 nx4;have u04 := u03.trans u4;walk_at "w";refine ⟨by lia, by lia, ?_⟩;refine uj (n := o) (b := b) (cN K H4) (λxs => xs.length = n /\ ∀ x ∈ xs, Dr (max w 6) x) B4 (by lia) (λa u B => a.upto u B B4.at) (λ⟨q, e, _, _, g, _⟩ => ⟨q, e, by rw [g]; exact λz => nomatch z⟩) ?_ ?_
    · rintro s H' NY NN hi u B k1;walk_at "w";exact ⟨b, n, w, rfl, B, by lia, w0, w1, λr xs H2 nr R lx dx B2 u2 => k1 _ xs _ u2 B2 ⟨lx, dx⟩ ⟨r, rfl, u.none B nr, R⟩ ⟨r, rfl, nr⟩⟩
    rintro vs looks H5 l nl u5 B5 gl ll ndl hl pr5 nx5;have u05 := u04.trans u5;have hm0 : H m = none := u02.none B2 nm0;have hp0 : H p = none := u03.none B3 np;have hl0 : H l = none := u04.none B4 nl;have mb : m ≠ b := λz => B2.at (by rw [<- z]; exact nm0)
    have pb : p ≠ b := λz => B3.at (by rw [<- z]; exact np)
    have lb : l ≠ b := λz => B4.at (by rw [<- z]; exact nl)
    have gm4 := u4.other mb gm;have gm5 := u5.other mb gm4;have gp5 := u5.other pb gp;have mp : m ≠ p := λz => by rw [z, np] at gm; cases gm
    have ml : m ≠ l := λz => by rw [z, nl] at gm4; cases gm4
    have pl : p ≠ l := λz => by rw [z, nl] at gp; cases gp
    have mq : m ≠ q0 := λz => Inner.at B2 (u02.2 _ I0) (by rw [<- z]; exact nm0)
    obtain ⟨A, eA⟩ : ∃ A : Addr → Prop, A = λq => H q = none /\ q ≠ m /\ q ≠ p /\ q ≠ l := ⟨_, rfl⟩
    have mkA : ∀ {q}, H q = none → q ≠ m → q ≠ p → q ≠ l → A q := λh1 h2 h3 h4 => by rw [eA]; exact ⟨h1, h2, h3, h4⟩
    have unA : ∀ {q}, A q → H q = none /\ q ≠ m /\ q ≠ p /\ q ≠ l := λh => by rw [eA] at h; exact h
    have MA : xD A m p l b q0 := ⟨λz => (unA z).2.1 rfl, λz => (unA z).2.2.1 rfl, λz => (unA z).2.2.2 rfl, λz => hB.at (unA z).1, (λz => by have z1 := (unA z).1; rw [gq0] at z1; cases z1), mb, pb, lb, mp, ml, mq⟩;clear eA;have lws : ws.length = i := by rw [<- pr4.length]; exact lp
    have lvs : vs.length = o := by rw [<- pr5.length]; exact ll
    have alM : ∀ q, V.ref q ∈ us → H3 q ≠ none /\ q ≠ b /\ H4 q ≠ none := λq hq => by
      obtain ⟨q', qs, e, ⟨a1, a2⟩, r, z⟩ := rm _ hq;cases e;have qb : q ≠ b := λy => B2.at (by rw [<- y]; exact a1)
      obtain ⟨xq, gq, _⟩ := id r;obtain ⟨xq4, gq4, _⟩ := r.upto u4 B3 qb;exact ⟨(by rw [gq]; exact λz => nomatch z), qb, (by rw [gq4]; exact λz => nomatch z)⟩
    have alP : ∀ q, V.ref q ∈ ws → H3 q = none /\ H4 q ≠ none := λq hq => by
      obtain ⟨_, _, q', e, a, _, g, _⟩ := dY pr4 hq;cases e;exact ⟨a, by rw [g]; exact λz => nomatch z⟩
    have alL : ∀ q, V.ref q ∈ vs → H4 q = none := λq hq => by
      obtain ⟨_, _, q', e, a, _⟩ := dY pr5 hq;cases e;exact a
    have isR : ∀ x, x ∈ us \/ x ∈ ws \/ x ∈ vs → ∃ q, x = V.ref q := λx hx => by
      rcases hx with hx | hx | hx
      · obtain ⟨q, _, e, _⟩ := rm x hx; exact ⟨q, e⟩
      · obtain ⟨_, _, q, e, _⟩ := dY pr4 hx; exact ⟨q, e⟩
      · obtain ⟨_, _, q, e, _⟩ := dY pr5 hx; exact ⟨q, e⟩
    have nd : (us ++ vs ++ ws).Nodup := by
      refine cH.mpr ⟨cH.mpr ⟨ndm, ndl, λx hx y hy e => ?_⟩, ndp, λx hx y hy e => ?_⟩
      · subst e;obtain ⟨q, rfl⟩ := isR x (.inl hx);exact (alM q hx).2.2 (alL q hy)
      · subst e;obtain ⟨q, rfl⟩ := isR x (.inr (.inl hy));rcases aL.mp hx with hx | hx
        · exact (alM q hx).1 (alP q hy).1
        · exact (alP q hy).2 (alL q hx)
    have X5 : xA K A n (Dr (max w 6)) m p l b q0 us ws vs H H5 := by
      refine ⟨⟨B5, u05.2 _ I0, gm5, gp5, gl, lm, λx hx => ?_, nd⟩, gp5, gl, λc u e n1 _ _ => u05.1 c u e n1⟩;rcases aL.mp hx with hx | hx
      · rcases aL.mp hx with hx | hx
        · obtain ⟨q, qs, e, ⟨a1, a2⟩, r, z⟩ := rm x hx;obtain ⟨xq, gq, _⟩ := id r;have qb : q ≠ b := λy => B2.at (by rw [<- y]; exact a1)
          have r4 := r.upto u4 B3 qb;obtain ⟨xq4, gq4, _⟩ := id r4;exact ⟨q, qs, e, mkA (u02.none B2 a1) a2 (λy => by rw [y, np] at gq; cases gq) (λy => by rw [y, nl] at gq4; cases gq4), r4.upto u5 B4 qb, z⟩
        · refine zO (A := A) pr5 hl (λq hq a b' => ?_) x hx;exact mkA (u04.none B4 a) (λy => by rw [y, gm4] at a; cases a) (λy => by rw [y, gp] at a; cases a) (λy => ph nx5 (by rw [<- y]; exact hq))
      · refine d8.upto (zO (A := A) pr4 hp (λq hq a b' => ?_) x hx) u5 B4 MA.ab;exact mkA (u03.none B3 a) (λy => by rw [y, gm] at a; cases a) (λy => ph nx4 (by rw [<- y]; exact hq)) (λy => b' (by rw [y]; exact nl))
    clear alM alP alL isR rm pr4 pr5 nx4 nx5 gm gm4 gm5 gp gp5 gl hp hl;walk_at "w";refine ⟨by lia, by lia, ?_⟩;refine fS (n := n) (λkk σ' H' => (∃ x1 x2, σ' = [some (.ref b), some (.int n), some (.int i), some (.int o), some (.int w), some (.int way), some (.int first), some (.ref m), some (.ref p), some (.ref l), x1, x2]) /\ xA K A n (Dr (max w 6)) m p l b q0 us ws vs H H') ⟨⟨_, _, rfl⟩, X5⟩ ?_ ?_
    · rintro kk σ' Hj hk ⟨⟨x1, x2, rfl⟩, X⟩;walk_at "w";refine ⟨⟨_, b6.of X.gp⟩, ?_⟩;refine lK (K := K) (a := p) (xs := ws) (λs σ' H' => (∃ x2, σ' = [some (.ref b), some (.int n), some (.int i), some (.int o), some (.int w), some (.int way), some (.int first), some (.ref m), some (.ref p), some (.ref l), some (.int kk), x2]) /\ xA K A n (Dr (max w 6)) m p l b q0 us ws vs H H') ⟨⟨_, rfl⟩, X⟩ (λs σ' H' _ ⟨_, e⟩ => b6.of e.gp) ?_ ?_
      · rintro s x σ' Hk hx ⟨⟨y2, rfl⟩, X⟩;have mx := av hx;obtain ⟨q, _, rfl, _⟩ := X.row (.inl mx)
        repeat' (first | walk_at "rd" | refine ij (λ_ => ?_) (λ_ => ?_))
        all_goals first
          | exact ⟨⟨_, rfl⟩, X⟩
          | (refine b8 λt Hb sb gb => ?_
             walk_at "w";obtain ⟨zs, gz, lz, Xz⟩ := (X.same sb).put MA (.inl mx) (bO.mk (q := 0) gb rfl) (nB (i := 0) (bP _) W1) kk;refine eF gz (fh (by lia)) rfl ?_;exact ⟨⟨_, rfl⟩, Xz⟩)
          | (refine ⟨b, 2, rfl, X.mix.bag, by decide, by decide, λd Hd d0 d1 Bd ud => ?_⟩
             replace X := X.upto MA ud Bd
             repeat' (first | walk_at "rd" | refine ij (λ_ => ?_) (λ_ => ?_))
             all_goals first
               | exact ⟨⟨_, rfl⟩, X⟩
               | (refine b8 λt Hb sb gb => ?_
                  walk_at "w";obtain ⟨zs, gz, lz, Xz⟩ := (X.same sb).put MA (.inl mx) (bO.mk (q := 0) gb rfl) (nB (i := 0) (bP _) W1) kk;refine eF gz (fh (by lia)) rfl ?_;exact ⟨⟨_, rfl⟩, Xz⟩))
      · rintro σ' Hk ⟨⟨y2, rfl⟩, X⟩;walk_at "w";refine ⟨⟨_, b6.of X.gl⟩, ?_⟩;refine lK (K := K) (a := l) (xs := vs) (λs σ' H' => (∃ x2, σ' = [some (.ref b), some (.int n), some (.int i), some (.int o), some (.int w), some (.int way), some (.int first), some (.ref m), some (.ref p), some (.ref l), some (.int kk), x2]) /\ xA K A n (Dr (max w 6)) m p l b q0 us ws vs H H') ⟨⟨_, rfl⟩, X⟩ (λs σ' H' _ ⟨_, e⟩ => b6.of e.gl) ?_ ?_
        · rintro s x σ' Hk hx ⟨⟨y2, rfl⟩, X⟩;have mx := av hx;obtain ⟨q, _, rfl, _⟩ := X.row (.inr mx)
          repeat' (first | walk_at "rd" | refine ij (λ_ => ?_) (λ_ => ?_))
          all_goals first
            | exact ⟨⟨_, rfl⟩, X⟩
            | (refine b8 λt Hb sb gb => ?_
               walk_at "w";obtain ⟨zs, gz, lz, Xz⟩ := (X.same sb).put MA (.inr mx) (bO.mk (q := 0) gb rfl) (nB (i := 0) (bP _) W1) kk;refine eF gz (fh (by lia)) rfl ?_;exact ⟨⟨_, rfl⟩, Xz⟩)
            | (refine ⟨b, 2, rfl, X.mix.bag, by decide, by decide, λd Hd d0 d1 Bd ud => ?_⟩
               replace X := X.upto MA ud Bd
               repeat' (first | walk_at "rd" | refine ij (λ_ => ?_) (λ_ => ?_))
               all_goals first
                 | exact ⟨⟨_, rfl⟩, X⟩
                 | (refine b8 λt Hb sb gb => ?_
                    walk_at "w";obtain ⟨zs, gz, lz, Xz⟩ := (X.same sb).put MA (.inr mx) (bO.mk (q := 0) gb rfl) (nB (i := 0) (bP _) W1) kk;refine eF gz (fh (by lia)) rfl ?_;exact ⟨⟨_, rfl⟩, Xz⟩))
        · rintro σ' Hk ⟨⟨y2, rfl⟩, X⟩;exact ⟨⟨_, _, rfl⟩, X⟩
    · rintro σ' Hj ⟨⟨x1, x2, rfl⟩, X⟩
      obtain ⟨M1, M2, M3, V0, a1, a2, a3, V2, hcs, R1, R2, R3⟩ : ∃ M1 M2 M3 V0 : Nat, (0 < M1 /\ M1 ≤ 2 ^ 800) /\ (0 < M2 /\ M2 ≤ 2 ^ 800) /\ (0 < M3 /\ M3 ≤ 2 ^ 800) /\ V0 ≤ 2 ^ 20 /\ ((w ≤ 9 /\ M1 = 2520 /\ M2 = 2520 /\ M3 = 2520 /\ V0 = 9) \/ (9 < w /\ M1 ≤ 2 ^ (c * (n * n)) /\ M2 ≤ 2 ^ (c * (i * n)) /\ M3 ≤ 2 ^ (c * (o * n)) /\ V0 = 2 ^ c)) /\ (∀ x ∈ us, d8 K A Hj n (Fr M1 V0) x) /\ (∀ x ∈ ws, d8 K A Hj n (Fr M2 V0) x) /\ ∀ x ∈ vs, d8 K A Hj n (Fr M3 V0) x := by
        by_cases w9 : w ≤ 9
        · have XM := X.mix.weak (C' := λ_ => Fr 2520 9) λ_ _ y h => Al ⟨ar h.1 (by lia), ar h.2 (by lia)⟩ (Nat.dvd_refl _)
          have z : 0 < 2520 /\ 2520 ≤ 2 ^ 800 := ⟨by decide, ar (show 2520 ≤ 2 ^ 12 by decide) (ao (by decide) (by decide))⟩;exact ⟨2520, 2520, 2520, 9, z, z, z, by decide, .inl ⟨w9, rfl, rfl, rfl, rfl⟩, λx hx => XM.row x (by simp [hx]), λx hx => XM.row x (by simp [hx]), λx hx => XM.row x (by simp [hx])⟩
        · obtain ⟨M1, M2, M3, a1, a2, a3, b1, b2, b3, R1, R2, R3⟩ := (X.mix.weak (C' := λ_ => Dr (2 ^ c)) λ_ _ y h => ⟨ar h.1 hc, ar h.2 hc⟩).fr3;rw [lws] at b2;rw [lvs] at b3;have up : ∀ {M k : Nat}, M ≤ 2 ^ (c * k) → k ≤ (n + i + o) * n → M ≤ 2 ^ 800 := λh hk => ar h (ao (by decide) (ar (Nat.mul_le_mul_left _ hk) hcM))
          exact ⟨M1, M2, M3, 2 ^ c, ⟨a1, up b1 (aR _ (by lia))⟩, ⟨a2, up b2 (aR _ (by lia))⟩, ⟨a3, up b3 (aR _ (by lia))⟩, ao (by decide) hc20, .inr ⟨by lia, b1, b2, b3, rfl⟩, R1, R2, R3⟩
      obtain ⟨μ, e2, e3, e1, e4⟩ := z8 ws vs M1 M2 M3;obtain ⟨ap1, ap2⟩ := X.mix.apart
      have XM : ik K A Hj n (λx => Fr (μ x) V0) m p l b q0 us ws vs := by
        refine ⟨X.mix.bag, X.mix.inn, X.mix.gm, X.mix.gp, X.mix.gl, X.mix.lm, λx hx => ?_, X.mix.nd⟩;rcases aL.mp hx with hx | hx
        · rcases aL.mp hx with hx | hx
          · rw [e1 x (ap1 x hx).1 (ap1 x hx).2]; exact R1 x hx
          · rw [e3 x hx (ap2 x hx)]; exact R3 x hx
        · rw [e2 x hx]; exact R2 x hx
      have p1 : ∀ x, 0 < μ x := λx => by
        rcases e4 x with e | e | e
        · rw [e]; exact a1.1
        · rw [e]; exact a2.1
        · rw [e]; exact a3.1
      have p2 : ∀ x, μ x ≤ 2 ^ 800 := λx => by
        rcases e4 x with e | e | e
        · rw [e]; exact a1.2
        · rw [e]; exact a2.2
        · rw [e]; exact a3.2
      have gmj := X.mix.gm;walk_at "w";refine ⟨b, m, p, l, q0, n, V0, μ, A, us, ws, vs, rfl, MA, XM, n8, by lia, by lia, p1, p2, ⟨M1, e1⟩, V2, λq hq => ?_, λr us' H' g Y kp => ?_⟩
      · refine mkA ?_ (λz => by rw [z, gmj] at hq; cases hq) (λz => by rw [z, X.gp] at hq; cases hq) (λz => by rw [z, X.gl] at hq; cases hq);cases e : H q with
        | none => rfl
        | some u =>
          have := X.kp q u e (λz => X.mix.bag.at (by rw [<- z]; exact hq)) (λz => by have := (unA z).1; rw [e] at this; cases this) (λz => by rw [z, hm0] at e; cases e);rw [hq] at this; cases this
      · obtain ⟨yp1, yp2⟩ := Y.apart;obtain ⟨mv, Gm, lmv, hmv⟩ := oS (H0 := H) (n := n) (C := Fr M1 (9 ^ 3 * V0)) (m := n) ⟨us', Y.gm, Y.lm, MA.am, λx hx => by have := Y.row x (by simp [hx]); rwa [e1 x (yp1 x hx).1 (yp1 x hx).2] at this⟩ λq h => (unA h).1
        obtain ⟨pt, Gp, lpt, hpt⟩ := oS (H0 := H) (n := n) (C := Fr M2 (9 ^ 3 * V0)) (m := i) ⟨ws, Y.gp, lws, MA.ap, λx hx => by have := Y.row x (by simp [hx]); rwa [e2 x hx] at this⟩ λq h => (unA h).1
        obtain ⟨lk, Gl, llk, hlk⟩ := oS (H0 := H) (n := n) (C := Fr M3 (9 ^ 3 * V0)) (m := o) ⟨vs, Y.gl, lvs, MA.al, λx hx => by have := Y.row x (by simp [hx]); rwa [e3 x hx (yp2 x hx)] at this⟩ λq h => (unA h).1
        refine k r mv pt lk H' ⟨m, p, l, g, hm0, hp0, hl0, Gm, Gp, Gl⟩ lmv lpt llk ⟨by lia, by lia, by lia, λxs hx => by rw [(hmv xs hx).1, lmv], λxs hx => by rw [(hpt xs hx).1, lmv], λxs hx => by rw [(hlk xs hx).1, lmv]⟩ ⟨M1, M2, M3, 9 ^ 3 * V0, a1.1, a2.1, a3.1, λxs hx => (hmv xs hx).2, λxs hx => (hpt xs hx).2, λxs hx => (hlk xs hx).2, ?_⟩ Y.bag ⟨λc' u e n1 => (X.kp.trans kp) c' u e n1 (λz => by have := (unA z).1; rw [e] at this; cases this) (λz => by rw [z, hm0] at e; cases e), λq h => by rw [<- Inner.inj I0 h]; exact Y.inn⟩;rcases hcs with ⟨b1, b2, b3, b4, b5⟩ | ⟨b1, b2, b3, b4, b5⟩
        · exact .inl ⟨b1, b2, b3, b4, by rw [b5]⟩
        · exact .inr ⟨b1, b2, b3, b4, by rw [b5]⟩
theorem uD:bx ["thing","at","most"] ["thing","at","most"] (aw fY):=by walk_at "d"
theorem lV (T:Txt K mg Z):cZ P w K mg base jT 1 Z.kJ Z.ks ["thing","at","most"] xR:=by
 refine T.ji.ok uD (λvs H Q E h=>?_) (λcdv A outer s H vs Q E hr h=>?_)
 ·obtain ⟨p,xs,a,m,rfl,_⟩:=h;rfl
 ·obtain ⟨p,xs,a,m,rfl,gx,hm,k⟩:=h
  refine ⟨_,(au (dq (jY (jr (rZ rfl T.isinstance PyProof.Rows.boot_list T.list (pv 0)))) (az zX) bY)
   (az (dq (be qF (bW bU (by rfl) T.len bZ (aa (pv 0) ai)) (pv 2) (bo _)) (az zX) bY))),?_⟩
  refine bc (σ:=[some (.ref p),some (.int a),some (.int m)]) rfl ?_;walk_at "w";refine ⟨_,_,.lst gx,rfl,?_⟩;walk_at "w";refine ⟨_,_,rfl,.inl (b6.of gx),?_⟩;walk_at "w";rw[decide_eq_false (show ¬m < (xs.length:Int) by lia)];walk_at "w";exact k
theorem vN:bx ["thing"] ["thing"] (aw iw):=by walk_at "d"
theorem qG (T:Txt K mg Z):cZ P w K mg base jT 1 Z.mB Z.mf ["thing"] yF:=by
 refine T.mJ.ok vN (λvs H Q E h=>?_) (λcdv A outer s H vs Q E hr h=>?_)
 ·obtain ⟨i,rfl,_⟩:=h;rfl
 ·obtain ⟨i,rfl,k⟩:=h;refine ⟨_,(az (bE (uO (rZ rfl T.isinstance PyProof.Rows.boot_int T.int (pv 0)) (uL (DV (rZ rfl T.isinstance PyProof.Rows.boot_bool T.bool (pv 0))))))),?_⟩;refine bc (σ:=[some (.int i)]) rfl ?_;walk_at "w";refine ⟨_,_,.int i,rfl,?_⟩;walk_at "w";refine ⟨_,_,.int i,rfl,?_⟩;walk_at "w";exact k
theorem eE:bx ["one","other","rest"] ["one","other"] (aw dr):=by walk_at "d"
theorem hX (T:Txt K mg Z):cZ P w K mg base jT 1 Z.fw Z.fj ["one","other"] EN:=by
 refine T.dN.ok eE (λvs H Q E h=>?_) (λcdv A outer s H vs Q E hr h=>?_)
 ·obtain ⟨a,b,rfl,_⟩:=h;rfl
 ·obtain ⟨a,b,rfl,k⟩:=h
  refine ⟨_,(au (vU PassesOwn.never (be tT (pv 1) ah (bo _))
    (au (aW (i:=2) eE.nd rfl (Or.inl rfl) (bJ BB (pv 0) (pv 1)))
   (au (aW (i:=0) eE.nd rfl (Or.inl rfl) (pv 1))
   (az (aW (i:=1) eE.nd rfl (Or.inl rfl) (pv 2))))))
   (az (bE (bW sL (by rfl) T.abs PyProof.Rows.boot_abs (aa (pv 0) ai))))),?_⟩
  refine bc (σ:=[some (.int a),some (.int b),none]) rfl ?_;walk_at "w";refine xI (λσ' H'=>∃(u v:Int) (r:Option V),σ'=[some (.int u),some (.int v),r]/\H'=H/\Int.gcd u v=Int.gcd a b) (λσ' _=>match σ' with | [_,some (.int v),_]=>v.natAbs | _=>0) ⟨a,b,none,rfl,rfl,rfl⟩ ?_;rintro σ' H' ⟨u,v,r,rfl,rfl,hg⟩;walk_at "w";refine ij (λh=>?_) (λh=>?_)
  ·have hv:v≠0:=λz=>by subst z;simp at h
   walk_at "w";refine gW (show v≠0 from hv) ?_;walk_at "w";exact ⟨⟨v,u.fmod v,_,rfl,rfl,(Ai u v).trans hg⟩,BN u v hv⟩
  ·have hv:v=0:=by
    by_cases z:v=0
    ·exact z
    ·exfalso;apply h;simp [z]
   subst hv;walk_at "w"
   have e:(if u < 0 then -u else u)=g a b:=by
    unfold g;rw[<- hg,Int.gcd_zero_right]
    split <;> lia
   rw[e];exact k
theorem uF:bx ["thing"] ["thing"] (aw gs):=by walk_at "d"
theorem uT (T:Txt K mg Z):cZ P w K mg base jT 2 Z.kL Z.kv ["thing"] (yI K):=by
 refine T.nK.ok uF (λvs H Q E h=>?_) (λcdv A outer s H vs Q E hr h=>?_)
 ·obtain ⟨x,n,rfl,_⟩:=h;rfl
 ·obtain ⟨x,n,rfl,⟨p,rfl,hp⟩,hn,k⟩:=h
  refine ⟨_,(au (dq (PW.pt (lG (jY (jr (rk rfl T.isinstance PyProof.Rows.boot_tuple T.tuple (pv 0)))) (jo (be tT (bW bU (by rfl) T.len bZ (aa (pv 0) ai)) ah (bo _))))) (az (bE qC)) bY)
   (au (dq (PW.pt (lG (jY (jr (dy (qG T) hr T.ni T.mJ.kp T.oT (aa (bF cA (pv 0) ah) ai)))) (jo (jY (jr (dy (qG T) hr T.ni T.mJ.kp T.oT (aa (bF cA (pv 0) ah) ai))))))) (az (bE qC)) bY)
   (az (bE (uO (gZ tU (bF cA (pv 0) ah) ah (bo _)) (uL (gZ eR (dy (hX T) hr T.eG T.dN.kp T.fu (aa (bF cA (pv 0) ah) (aa (bF cA (pv 0) ah) ai))) ah (bo _)))))))),?_⟩
  refine bc (σ:=[some (.ref p)]) rfl ?_;obtain ⟨hb,hg,s1,s2⟩:=hn;walk_at "w";refine .inr ⟨p,_,_,rfl,hp,rfl,?_⟩;walk_at "w";refine ⟨_,_,rfl,.inr hp,?_⟩;walk_at "w"
  try refine BJ ?_
  walk_at "w";refine ⟨n.1,rfl,?_⟩;walk_at "w";refine ⟨n.2,rfl,?_⟩;walk_at "w";rw[decide_eq_true (show (1:Int)<=n.2 by lia)];walk_at "w";refine ⟨n.1,n.2,rfl,?_⟩;walk_at "w";have e:g n.1 n.2=1:=by unfold g;rw[hg];rfl
  rw[e,decide_eq_true rfl];exact k _ (aF.refl _)
theorem yL:bx ["thing","many"] ["thing","many"] (aw lF):=by walk_at "d"
theorem yS (T:Txt K mg Z):cZ P w K mg base jT 3 Z.pW Z.pO ["thing","many"] (p5 K):=by
 refine T.sT.ok yL (λvs H Q E h=>?_) (λcdv A outer s H vs Q E hr h=>?_)
 ·obtain ⟨p,ns,rfl,_⟩:=h;rfl
 ·obtain ⟨p,ns,rfl,hp,hl,hn,k⟩:=h
  refine ⟨_,(au (dq (PW.pt (lG (jY (jr (rZ rfl T.isinstance PyProof.Rows.boot_list T.list (pv 0)))) (jo (be tT (bW bU (by rfl) T.len bZ (aa (pv 0) ai)) (pv 1) (bo _))))) (az (bE qC)) bY)
   (az (bE (bW (wA rfl) (by rfl) T.all PyProof.Rows.boot_all (aa (cv ["value"] [] [] (dk (pv 0)) (λ_=>(aM (i:=0) (show List.Nodup (α:=PySem.Str) ["value"] by decide +kernel))) (λ_=>cu) (λ_=>(dy (uT T) hr T.pA T.nK.kp T.qP (aa (pv 0) ai)))) ai))))),?_⟩
  refine bc (σ:=[some (.ref p),some (.int ns.length)]) rfl ?_;obtain ⟨xs,gx,qx⟩:=id hp;have lx:=qx.length;walk_at "w";refine ⟨_,_,.lst gx,rfl,?_⟩;walk_at "w";refine ⟨_,_,rfl,.inl (b6.of gx),?_⟩;walk_at "w";rw[show ((xs.length:Nat):Int)=(ns.length:Nat) by rw[lx],decide_eq_true rfl];walk_at "w";refine ⟨⟨_,b6.of gx⟩,?_⟩;refine iH (K:=K) (xs:=xs) (λi ys H'=>aF H H'/\ys=List.replicate i (.bl true)) (bI (bT (by lia))) ⟨aF.refl _,rfl⟩ (λi ys H' _ ⟨s,_⟩=>b6.of (s _ _ gx)) ?_ ?_
  ·rintro i x ys H' hx hlen ⟨s,rfl⟩;obtain ⟨n,en,z⟩:=df qx hx;walk_at "w";exact ⟨x,n,rfl,s.num z,hn n (av en),λH2 s2=>⟨s.trans s2,by rw[mW]⟩⟩
  ·rintro ys H' hy ⟨s,rfl⟩ l hl';walk_at "w";refine ⟨l,List.replicate xs.length true,rfl,b6.of (by rw[aE];simp),?_⟩;have e4:(List.replicate xs.length true).all id=true:=by simp
   rw[e4];exact k _ (s.trans (aF.new hl'))
theorem jX:bx ["things","wide","place","thing"] ["things","wide"] (aw ed):=by walk_at "d"
theorem j4 (T:Txt K mg Z):cZ P w K mg base jT 4 Z.iV Z.iM ["things","wide"] (xU K):=by
 refine T.fE.ok jX (λvs H Q E h=>?_) (λcdv A outer s H vs Q E hr h=>?_)
 ·obtain ⟨p,H0,rows,w,rfl,_⟩:=h;rfl
 ·obtain ⟨p,H0,rows,w,rfl,hp,hl,hw,hn,k⟩:=h
  refine ⟨_,(au (eC PassesOwn.never rfl (o8 rfl T.enumerate (aa (pv 0) ai)) (uK rfl (di (aM (i:=2) jX.nd) (di (aM (i:=3) jX.nd) lR)))
    (az (dq (jY (jr (dy (yS T) hr T.tX T.sT.kp T.wD (aa (pv 3) (aa (pv 1) ai))))) (az zX) bY)))
   (az (bE (cv ["row"] [] [] (dk (pv 0)) (λ_=>(aM (i:=0) (show List.Nodup (α:=PySem.Str) ["row"] by decide +kernel))) (λ_=>cu) (λ_=>(iF (ox K (by rfl)) (by rfl) T.list PyProof.Rows.boot_list (aa (pv 0) ai))))))),?_⟩
  refine bc (σ:=[some (.ref p),some (.int w),none,none]) rfl ?_;obtain ⟨xs,gx,qx,_⟩:=id hp;walk_at "w";refine ⟨⟨_,b6.of gx⟩,?_⟩;refine wk (K:=K) (l:=p) (xs:=xs) (λi σ' H'=>aF H H'/\∃x y,σ'=[some (.ref p),some (.int w),x,y]) ⟨aF.refl _,none,none,rfl⟩ (λi σ' H' _ ⟨s,_⟩=>b6.of (s _ _ gx)) ?_ ?_
  ·rintro i x σ' H' t hx ⟨s,x1,y1,rfl⟩ ht;obtain ⟨qs,eq,q,rfl,_,Rq⟩:=df qx hx;have hm:=av eq;have st:aF H' (upd H' t (.tup [.int i,.ref q])):=aF.new ht;have gt:(upd H' t (.tup [.int i,.ref q])) t=some (.tup [.int i,.ref q]):=aE;have s2:=s.trans st;generalize upd H' t (.tup [.int i,.ref q])=H2 at st gt s2 ⊢;have lq:(qs.map nm).length=w:=by rw[aj];exact (hn qs hm).1
   walk_at "w";refine ⟨q,_,by rw[lq],(Rq.same s2).rowK,by rw[lq];exact hw,λn hn'=>?_,λH3 s3=>?_⟩
   ·obtain ⟨y,hy,rfl⟩:=aG.mp hn';exact (hn qs hm).2 y hy
   walk_at "w";exact ⟨s2.trans s3,_,_,rfl⟩
  ·rintro σ' H' ⟨s,x1,y1,rfl⟩;walk_at "w";refine ⟨⟨_,b6.of (s _ _ gx)⟩,?_⟩;refine gK (K:=K) (F:=cN K H0) (cN K H) id (s _ _ gx) (Paired.imp' (λ_ _ z=>z.same s) qx) hl (λa b=>a.same b) (λa b=>a.same b) ?_ ?_
   ·rintro i ns x H2 NY NN en s2 ⟨u,rfl,_,zs,gz,qz⟩ k1;walk_at "w";refine ⟨u,zs,rfl,.inl (b6.of gz),λl1 hl1=>?_⟩;exact k1 _ _ (aF.new hl1) ⟨l1,rfl,s.none (s2.none hl1),zs,aE,Paired.imp' (λ_ _ z=>z.same (aF.new hl1)) qz⟩
   ·rintro ys' H2 r hr s2 g pr nx;rw[List.map_id] at pr nx;exact k r H2 (s.none hr) (s.trans s2) ⟨ys',g,pr,ph nx⟩
theorem oJ:bx ["self","move","put","look"] ["self","move","put","look"] (aw de):=by walk_at "d"
theorem fQ (T:Txt K mg Z):cZ P w K mg base jT 5 Z.eL Z.eI ["self","move","put","look"] (xS K Z.a_System):=by
 refine T.kU.ok oJ (λvs H Q E h=>?_) (λcdv A outer s H vs Q E hr h=>?_)
 ·obtain ⟨x,dx,p,q,r,Hb,H0,H1,H2,mv,pt,lk,rfl,_⟩:=h;rfl
 ·obtain ⟨x,dx,p,q,r,Hb,H0,H1,H2,mv,pt,lk,rfl,nx,ndx,nex,rfl,gp,gq,gr,D,om,op,ol,k⟩:=h
  refine ⟨_,(au (km (dy (lV T) hr T.jC T.ji.kp T.kF (aa (pv 1) (aa ah (aa (uN (v:=.int 8) rfl T.mg_MOST_STATES ⟨_,rfl⟩) ai)))))
   (au (qe (pv 0) (dy (j4 T) hr T.hZ T.fE.kp T.iR (aa (pv 1) (aa (bW bU (by rfl) T.len bZ (aa (pv 1) ai)) ai))) rfl)
   (au (qe (pv 0) (bW bU (by rfl) T.len bZ (aa (js (pv 0) rfl) ai)) rfl)
   (au (km (dy (lV T) hr T.jC T.ji.kp T.kF (aa (pv 2) (aa ah (aa (uN (v:=.int 4) rfl T.mg_MOST_PUTS ⟨_,rfl⟩) ai)))))
   (au (qe (pv 0) (dy (j4 T) hr T.hZ T.fE.kp T.iR (aa (pv 2) (aa (js (pv 0) rfl) ai))) rfl)
   (au (qe (pv 0) (bW bU (by rfl) T.len bZ (aa (js (pv 0) rfl) ai)) rfl)
   (au (km (dy (lV T) hr T.jC T.ji.kp T.kF (aa (pv 3) (aa ah (aa (uN (v:=.int 4) rfl T.mg_MOST_LOOKS ⟨_,rfl⟩) ai)))))
   (au (qe (pv 0) (dy (j4 T) hr T.hZ T.fE.kp T.iR (aa (pv 3) (aa (js (pv 0) rfl) ai))) rfl)
   (az (qe (pv 0) (bW bU (by rfl) T.len bZ (aa (js (pv 0) rfl) ai)) rfl)))))))))),?_⟩
  refine bc (σ:=[some (.ref x),some (.ref p),some (.ref q),some (.ref r)]) rfl ?_
  have s0:aF Hb (upd (upd Hb dx (.own x)) x (.ins Z.a_System dx [])):=λb o e=>by
   rw[aS (dF e nx),aS (dF e ndx)];exact e
  have hx:(upd (upd Hb dx (.own x)) x (.ins Z.a_System dx [])) x=some (.ins Z.a_System dx []):=aE;have back:∀{b},(upd (upd Hb dx (.own x)) x (.ins Z.a_System dx [])) b=none->Hb b=none:=λh=>s0.none h
  generalize upd (upd Hb dx (.own x)) x (.ins Z.a_System dx [])=Ha at s0 hx back ⊢;obtain ⟨xs,gx,qx,_⟩:=id gp;obtain ⟨ys,gy,qy,_⟩:=id gq;obtain ⟨zs,gz,qz,_⟩:=id gr;have lx:=qx.length;have ly:=qy.length;have lz:=qz.length;have d1:=D.n8;have d2:=D.i4;have d3:=D.o4;walk_at "w";refine ⟨p,xs,0,8,rfl,s0 _ _ gx,by lia,?_⟩;walk_at "w";refine ⟨_,_,rfl,.inl (b6.of (s0 _ _ gx)),?_⟩;walk_at "w";refine ⟨p,H0,mv,mv.length,by rw[lx],gp.same s0,by lia,by lia,λws hw=>⟨D.mw ws hw,om ws hw⟩,λa H3 na s3 Ga=>?_⟩;have hx3:=s3 _ _ hx;walk_at "w";refine ⟨x,Z.a_System,dx,_,rfl,hx3,T.cl_System,T.na_move,(by show 0 < 1000;decide),?_⟩;have e3:vq x H3 (upd H3 x (.ins Z.a_System dx (bK "move" (.ref a) []))):=vq.upd;have i3:oB H3 x:=⟨_,_,_,hx3⟩;have hx4:(upd H3 x (.ins Z.a_System dx (bK "move" (.ref a) []))) x=some (.ins Z.a_System dx (bK "move" (.ref a) [])):=aE;have Ga4:=Ga.exc e3 i3;have k4:aF Hb (upd H3 x (.ins Z.a_System dx (bK "move" (.ref a) []))):=(s0.trans s3).after nx;generalize upd H3 x (.ins Z.a_System dx (bK "move" (.ref a) []))=H4 at e3 hx4 Ga4 k4 ⊢;walk_at "w";refine ⟨x,Z.a_System,dx,_,_,rfl,hx4,T.cl_System,T.na_move,(by rw[aQ,if_pos rfl]),?_⟩;obtain ⟨as,ga,qa,_⟩:=id Ga4;have la:=qa.length;walk_at "w";refine ⟨_,_,rfl,.inl (b6.of ga),?_⟩;walk_at "w";refine ⟨x,Z.a_System,dx,_,rfl,hx4,T.cl_System,T.na_states,ba dh (by show 1 < 1000;decide),?_⟩;rw[show ((as.length:Nat):Int)=((mv.length:Nat):Int) by rw[la]];have e4:vq x H4 (upd H4 x (.ins Z.a_System dx (bK "states" (.int mv.length) (bK "move" (.ref a) [])))):=vq.upd;have i4:oB H4 x:=⟨_,_,_,hx4⟩;have hx5:(upd H4 x (.ins Z.a_System dx (bK "states" (.int mv.length) (bK "move" (.ref a) [])))) x=some (.ins Z.a_System dx (bK "states" (.int mv.length) (bK "move" (.ref a) []))):=aE;have Ga5:=Ga4.exc e4 i4;have k5:aF Hb (upd H4 x (.ins Z.a_System dx (bK "states" (.int mv.length) (bK "move" (.ref a) [])))):=k4.after nx;generalize upd H4 x (.ins Z.a_System dx (bK "states" (.int mv.length) (bK "move" (.ref a) [])))=H5 at e4 hx5 Ga5 k5 ⊢;clear e3 e4 i3 i4 hx4 Ga4 ga qa;walk_at "w";refine ⟨q,ys,1,4,rfl,k5 _ _ gy,by lia,?_⟩;walk_at "w";refine ⟨x,Z.a_System,dx,_,_,rfl,hx5,T.cl_System,T.na_states,(by rw[aQ,if_pos rfl]),?_⟩;walk_at "w";refine ⟨q,H1,pt,mv.length,rfl,gq.same k5,by lia,by lia,λws hw=>⟨D.pw ws hw,op ws hw⟩,λb H6 nb s6 Gb=>?_⟩;have hx6:=s6 _ _ hx5;have i6:oB H6 x:=⟨_,_,_,hx6⟩;walk_at "w";refine ⟨x,Z.a_System,dx,_,rfl,hx6,T.cl_System,T.na_put,ba dh (ba (cw dh) (by show 2 < 1000;decide)),?_⟩;have e6:vq x H6 (upd H6 x (.ins Z.a_System dx (bK "put" (.ref b) (bK "states" (.int mv.length) (bK "move" (.ref a) []))))):=vq.upd;have hx7:(upd H6 x (.ins Z.a_System dx (bK "put" (.ref b) (bK "states" (.int mv.length) (bK "move" (.ref a) []))))) x=some (.ins Z.a_System dx (bK "put" (.ref b) (bK "states" (.int mv.length) (bK "move" (.ref a) [])))):=aE;have Ga7:=(Ga5.same s6).exc e6 i6;have Gb7:=(Gb.weak k5).exc e6 i6;have k7:aF Hb (upd H6 x (.ins Z.a_System dx (bK "put" (.ref b) (bK "states" (.int mv.length) (bK "move" (.ref a) []))))):=(k5.trans s6).after nx;generalize upd H6 x (.ins Z.a_System dx (bK "put" (.ref b) (bK "states" (.int mv.length) (bK "move" (.ref a) []))))=H7 at e6 hx7 Ga7 Gb7 k7 ⊢;obtain ⟨bs,gb,qb,_⟩:=id Gb7;have lb:=qb.length;walk_at "w";refine ⟨x,Z.a_System,dx,_,_,rfl,hx7,T.cl_System,T.na_put,(by rw[aQ,if_pos rfl]),?_⟩;walk_at "w";refine ⟨_,_,rfl,.inl (b6.of gb),?_⟩;walk_at "w";refine ⟨x,Z.a_System,dx,_,rfl,hx7,T.cl_System,T.na_ins,ba dh (ba (cw (ar dh (cw dh))) (by show 3 < 1000;decide)),?_⟩;rw[show ((bs.length:Nat):Int)=((pt.length:Nat):Int) by rw[lb]];have i7:oB H7 x:=⟨_,_,_,hx7⟩;have e7:vq x H7 (upd H7 x (.ins Z.a_System dx (bK "ins" (.int pt.length) (bK "put" (.ref b) (bK "states" (.int mv.length) (bK "move" (.ref a) [])))))):=vq.upd;have hx8:(upd H7 x (.ins Z.a_System dx (bK "ins" (.int pt.length) (bK "put" (.ref b) (bK "states" (.int mv.length) (bK "move" (.ref a) [])))))) x=some (.ins Z.a_System dx (bK "ins" (.int pt.length) (bK "put" (.ref b) (bK "states" (.int mv.length) (bK "move" (.ref a) []))))):=aE;have Ga8:=Ga7.exc e7 i7;have Gb8:=Gb7.exc e7 i7;have k8:aF Hb (upd H7 x (.ins Z.a_System dx (bK "ins" (.int pt.length) (bK "put" (.ref b) (bK "states" (.int mv.length) (bK "move" (.ref a) [])))))):=k7.after nx;generalize upd H7 x (.ins Z.a_System dx (bK "ins" (.int pt.length) (bK "put" (.ref b) (bK "states" (.int mv.length) (bK "move" (.ref a) [])))))=H8 at e7 hx8 Ga8 Gb8 k8 ⊢;clear e6 e7 i6 i7 hx7 Ga7 Gb7 gb qb;walk_at "w";refine ⟨r,zs,2,4,rfl,k8 _ _ gz,by lia,?_⟩;walk_at "w";refine ⟨x,Z.a_System,dx,_,_,rfl,hx8,T.cl_System,T.na_states,(by rw[aQ,if_neg (by decide +kernel),aQ,if_neg (by decide +kernel),aQ,if_pos rfl]),?_⟩;walk_at "w";refine ⟨r,H2,lk,mv.length,rfl,gr.same k8,by lia,by lia,λws hw=>⟨D.lw ws hw,ol ws hw⟩,λc H9 nc s9 Gc=>?_⟩;have hx9:=s9 _ _ hx8;have i9:oB H9 x:=⟨_,_,_,hx9⟩;walk_at "w";refine ⟨x,Z.a_System,dx,_,rfl,hx9,T.cl_System,T.na_look,ba dh (ba (cw (ar dh (cw (ar dh (cw dh))))) (by show 4 < 1000;decide)),?_⟩;have e9:vq x H9 (upd H9 x (.ins Z.a_System dx (bK "look" (.ref c) (bK "ins" (.int pt.length) (bK "put" (.ref b) (bK "states" (.int mv.length) (bK "move" (.ref a) []))))))):=vq.upd;have hxA:(upd H9 x (.ins Z.a_System dx (bK "look" (.ref c) (bK "ins" (.int pt.length) (bK "put" (.ref b) (bK "states" (.int mv.length) (bK "move" (.ref a) []))))))) x=some (.ins Z.a_System dx (bK "look" (.ref c) (bK "ins" (.int pt.length) (bK "put" (.ref b) (bK "states" (.int mv.length) (bK "move" (.ref a) [])))))):=aE;have GaA:=(Ga8.same s9).exc e9 i9;have GbA:=(Gb8.same s9).exc e9 i9;have GcA:=(Gc.weak k8).exc e9 i9;have kA:aF Hb (upd H9 x (.ins Z.a_System dx (bK "look" (.ref c) (bK "ins" (.int pt.length) (bK "put" (.ref b) (bK "states" (.int mv.length) (bK "move" (.ref a) []))))))):=(k8.trans s9).after nx;generalize upd H9 x (.ins Z.a_System dx (bK "look" (.ref c) (bK "ins" (.int pt.length) (bK "put" (.ref b) (bK "states" (.int mv.length) (bK "move" (.ref a) []))))))=HA at e9 hxA GaA GbA GcA kA ⊢;obtain ⟨cs,gc,qc,_⟩:=id GcA;have lc:=qc.length;walk_at "w";refine ⟨x,Z.a_System,dx,_,_,rfl,hxA,T.cl_System,T.na_look,(by rw[aQ,if_pos rfl]),?_⟩;walk_at "w";refine ⟨_,_,rfl,.inl (b6.of gc),?_⟩;walk_at "w";refine ⟨x,Z.a_System,dx,_,rfl,hxA,T.cl_System,T.na_outs,ba dh (ba (cw (ar dh (cw (ar dh (cw (ar dh (cw dh))))))) (by show 5 < 1000;decide)),?_⟩;rw[show ((cs.length:Nat):Int)=((lk.length:Nat):Int) by rw[lc]];have iA:oB HA x:=⟨_,_,_,hxA⟩;exact k _ (kA.after nx) ⟨dx,a,b,c,aE,back na,k5.none nb,k8.none nc,(GaA.exc vq.upd iA).weak s0,GbA.exc vq.upd iA,GcA.exc vq.upd iA⟩
theorem rV:bx ["_law_grid"] ["_law_grid"] (aw eh):=by walk_at "d"
theorem j5 (T:Txt K mg Z):cZ P w K mg base jT 1 Z.iY Z.iP ["_law_grid"] (rR K):=by
 refine T.fF.ok rV (λvs H Q E h=>?_) (λcdv A outer s H vs Q E hr h=>?_)
 ·obtain ⟨p,H0,rows,rfl,_⟩:=h;rfl
 ·obtain ⟨p,H0,rows,rfl,hp,hl,hm,k⟩:=h;refine ⟨_,(az (bE (cv ["_law_row_here"] [] [] (dk (pv 0)) (λ_=>(aM (i:=0) (show List.Nodup (α:=PySem.Str) ["_law_row_here"] by decide +kernel))) (λ_=>cu) (λ_=>(iF (ox K (by rfl)) (by rfl) T.list PyProof.Rows.boot_list (aa (pv 0) ai)))))),?_⟩;refine bc (σ:=[some (.ref p)]) rfl ?_;obtain ⟨xs,gx,qx,_⟩:=id hp;walk_at "w";refine ⟨⟨_,b6.of gx⟩,?_⟩;refine gK (K:=K) (F:=cN K H0) (cN K H) id gx qx hl (λa b=>a.same b) (λa b=>a.same b) ?_ ?_
  ·rintro i ns x H' NY NN en s ⟨u,rfl,_,zs,gz,qz⟩ k1;walk_at "w";refine ⟨u,zs,rfl,.inl (b6.of gz),λl1 hl1=>?_⟩;exact k1 _ _ (aF.new hl1) ⟨l1,rfl,s.none hl1,zs,aE,Paired.imp' (λ_ _ z=>z.same (aF.new hl1)) qz⟩
  ·rintro ys' H' r hr s g pr nx;rw[List.map_id] at pr nx;exact k r H' hr s ⟨ys',g,pr,ph nx⟩
theorem uJ:bx ["_law_parts_here"] ["_law_parts_here"] (aw gF):=by walk_at "d"
theorem uW (T:Txt K mg Z):cZ P w K mg base jT 7 Z.kR Z.kD ["_law_parts_here"] (rN K Z.a_System):=by
 refine T.nO.ok uJ (λvs H Q E h=>?_) (λcdv A outer s H vs Q E hr h=>?_)
 ·obtain ⟨r,H0,mv,pt,lk,rfl,_⟩:=h;rfl
 ·obtain ⟨r,H0,mv,pt,lk,rfl,PQ,D,F,k⟩:=h;refine ⟨_,(az (bE (uM T.mk_System (fQ T) (hr.mono (by decide)) rfl T.mg_System T.eJ .nil vY (aa (dy (j5 T) hr T.h8 T.fF.kp T.iS (aa (bF cA (pv 0) ah) ai)) (aa (dy (j5 T) hr T.h8 T.fF.kp T.iS (aa (bF cA (pv 0) ah) ai)) (aa (dy (j5 T) hr T.h8 T.fF.kp T.iS (aa (bF cA (pv 0) ah) ai)) ai)))))),?_⟩;refine bc (σ:=[some (.ref r)]) rfl ?_;obtain ⟨m,p,l,g,n1,n2,n3,Gm,Gp,Gl⟩:=id PQ;have d1:=D.n8;have d2:=D.i4;have d3:=D.o4;walk_at "w";refine ⟨m,H0,mv,rfl,Gm,by lia,λxs hx=>by rw[D.mw xs hx];lia,λa H1 na s1 Ga=>?_⟩;have g1:=s1 _ _ g;walk_at "w";refine ⟨p,H0,pt,rfl,Gp.same s1,by lia,λxs hx=>by rw[D.pw xs hx];lia,λb H2 nb s2 Gb=>?_⟩;have s12:=s1.trans s2;have g2:=s12 _ _ g;walk_at "w";refine ⟨l,H0,lk,rfl,Gl.same s12,by lia,λxs hx=>by rw[D.lw xs hx];lia,λc H3 nc s3 Gc=>?_⟩;have s13:=s12.trans s3;walk_at "w";intro x dx nx ndx nex;exact ⟨x,dx,a,b,c,H3,H,H1,H2,mv,pt,lk,rfl,nx,ndx,nex,rfl,(Ga.same s2).same s3,Gb.same s3,Gc,D,F.ok.1,F.ok.2.1,F.ok.2.2,λH' s' S'=>⟨rfl,k x H' (s13.none nx) (s13.trans s') (S'.weak s13)⟩⟩
theorem ki:bx ["_law_one","_law_other","_law_total","_law_k"] ["_law_one","_law_other"] (aw iD):=by walk_at "d"
theorem v3 (T:Txt K mg Z):cZ P w K mg base jT 3 Z.mF Z.mm ["_law_one","_law_other"] (xT K):=by
 refine T.oW.ok ki (λvs H Q E h=>?_) (λcdv A outer s H vs Q E hr h=>?_)
 ·obtain ⟨p,q,xs,ys,rfl,_⟩:=h;rfl
 ·obtain ⟨p,q,xs,ys,rfl,hp,hq,hl,hz,⟨k1,j1,k2,j2,h1,h2,hkj⟩,kk⟩:=h
  refine ⟨_,(au (aW (i:=2) ki.nd rfl (Or.inl rfl) (cW (aa ah (aa ah ai))))
   (au (eC PassesOwn.never rfl (bV rfl T.range (aa (bW bU (by rfl) T.len bZ (aa (pv 0) ai)) ai)) (aM (i:=3) ki.nd)
    (az (aW (i:=2) ki.nd rfl (Or.inl rfl) (dy (gH T) hr T.eS T.eV.kp T.fU (aa (pv 2) (aa (dy (jB T) hr T.h7 T.gP.kp T.jh (aa (bF cf (pv 0) (pv 3)) (aa (bF cf (pv 1) (pv 3)) ai))) ai))))))
   (az (bE (pv 2))))),?_⟩
  refine bc (σ:=[some (.ref p),some (.ref q),none,none]) rfl ?_;obtain ⟨us,gu,qu⟩:=id hp;obtain ⟨ws,gw,qw⟩:=id hq;have lu:=qu.length;have lw:=qw.length;walk_at "w";refine b8 λr0 H0 s0 g0=>?_
  walk_at "w";refine ⟨_,_,rfl,.inl (b6.of (s0 _ _ gu)),?_⟩;walk_at "w";refine ⟨by lia,by lia,?_⟩;refine fS (n:=us.length) (λi σ' H'=>aF H H'/\∃(r:V) (v:Option V),σ'=[some (.ref p),some (.ref q),some r,v]/\bO K H' (ma (xs.take i) (ys.take i)) r) ⟨s0,_,none,rfl,bO.mk g0 rfl⟩ ?_ ?_
  ·rintro i σ' H' hi ⟨s,r,v,rfl,hr⟩;have ix:i < xs.length:=by lia
   have iy:i < ys.length:=by lia
   obtain ⟨vx,ex,nx⟩:=yY (Paired.imp' (λ_ _ z=>z.same s) qu) ix;obtain ⟨vy,ey,ny⟩:=yY (Paired.imp' (λ_ _ z=>z.same s) qw) iy;walk_at "w";refine cO (b6.of (s _ _ gu)) ex ?_;walk_at "w";refine cO (b6.of (s _ _ gw)) ey ?_;walk_at "w";refine ⟨_,_,_,_,rfl,nx,ny,h1.szn (getD_mem ix) (by lia),h2.szn (getD_mem iy) (by lia),λr3 H3 s3 n3=>?_⟩;walk_at "w";refine ⟨_,_,_,_,rfl,hr.same s3,n3,Am h1 h2 hz i hkj,z7 (h1.one (getD_mem ix)) (h2.one (getD_mem iy)) hkj,λr4 H4 s4 n4=>?_⟩;walk_at "w";exact ⟨(s.trans s3).trans s4,_,_,rfl,by rw[uc ix iy];exact n4⟩
  ·rintro σ' H' ⟨s,r,v,rfl,hr⟩;rw[aV (by lia),aV (by lia)] at hr;obtain ⟨t,rfl,ht⟩:=hr;walk_at "w";exact kk _ H' s ⟨t,rfl,ht⟩
theorem mP:bx ["_law_one","_law_other","_law_n"] ["_law_one","_law_other"] (aw dM):=by walk_at "d"
theorem jt (T:Txt K mg Z):cZ P w K mg base jT 4 Z.ib Z.h9 ["_law_one","_law_other"] (tH K):=by
 refine T.eX.ok mP (λvs H Q E h=>?_) (λcdv A outer s H vs Q E hr h=>?_)
 ·obtain ⟨p,q,n,H0,H1,mv,g,rfl,_⟩:=h;rfl
 ·obtain ⟨p,q,n,H0,H1,mv,g,rfl,G,Go,lm,hw,n8,fit,k⟩:=h
  refine ⟨_,(au (aW (i:=2) mP.nd rfl (Or.inr rfl) (bW bU (by rfl) T.len bZ (aa (pv 0) ai)))
   (az (bE (cv ["_law_row_here"] ["_law_n","_law_other"] [2,1] (dk (pv 0)) (λ_=>(aM (i:=0) (show List.Nodup (α:=PySem.Str) ["_law_row_here","_law_n","_law_other"] by decide +kernel) rfl (Or.inr rfl) (Or.inl rfl))) (λ_=>cu) (λ_=>(cv ["_law_j"] ["_law_row_here","_law_other"] [0,2] (bV rfl T.range (aa (pv 1) ai)) (λ_=>(aM (i:=0) (show List.Nodup (α:=PySem.Str) ["_law_j","_law_row_here","_law_other"] by decide +kernel) rfl (Or.inr rfl) (Or.inl rfl))) (λ_=>cu) (λ_=>(dy (v3 T) hr T.qI T.oW.kp T.sP (aa (pv 1) (aa (cv ["_law_line"] ["_law_j"] [0] (vW K (pv 2)) (λ_=>(aM (i:=0) (show List.Nodup (α:=PySem.Str) ["_law_line","_law_j"] by decide +kernel))) (λ_=>cu) (λ_=>(bF (je K (by rfl)) (pv 0) (pv 1)))) ai)))))))))),?_⟩
  refine bc (σ:=[some (.ref p),some (.ref q),none]) rfl ?_;obtain ⟨xs,gx,qx,_⟩:=id G;have lx:=qx.length;obtain ⟨os,go,qo,_⟩:=id Go;have lo:=qo.length;rw[dB] at lo;walk_at "w";refine ⟨_,_,rfl,.inl (b6.of gx),?_⟩;rw[<- lx,lm];walk_at "w";refine ⟨⟨_,b6.of gx⟩,?_⟩;refine xv (K:=K) (as:=mv) (F:=cN K H0) (λc=>(List.range n).map λj=>ma c ((List.range n).map λl=>g l j)) gx qx (by lia) (λh s=>h.same s) ?_ ?_
  ·rintro i c v H2 NY NN ec s2 ⟨u,rfl,_,Ru⟩ k1;have mc:=av ec;walk_at "w";refine ⟨by lia,by lia,?_⟩;refine fo (n:=n) (bO K) (λj=>ma c ((List.range n).map λl=>g l j)) (by lia) (λh s=>h.same s) ?_ ?_
   ·rintro j H3 NY3 NN3 hj s3 k3;have go3:=(s2.trans s3) _ _ go;walk_at "w";refine ⟨⟨_,b6.of go3⟩,?_⟩;refine gK (K:=K) (as:=cX n g) (F:=cN K H1) (bO K) (λxs=>xs.getD j 0) go3 (Paired.imp' (λ_ _ z=>cN.same z (s2.trans s3)) qo) (by rw[dB];lia) (λh s=>h.same s) (λh s=>h.same s) ?_ ?_
    ·rintro l r v H4 NY4 NN4 er s4 ⟨w,rfl,_,Rw⟩ k4;have lr:=BK r (av er);obtain ⟨ws,gw,qw⟩:=id Rw;obtain ⟨vx,ex,nx⟩:=yY qw (j:=j) (by lia);walk_at "w";refine cO (b6.of gw) ex ?_;exact k4 _ _ (aF.refl _) nx
    rintro ys5 H5 l5 hl5 s5 g5 pr5 _;rw[zc hj] at pr5;walk_at "w";refine ⟨u,l5,c,_,rfl,(Ru.same s3).same s5,⟨ys5,g5,pr5⟩,by rw[aj,aI,hw c mc],by rw[hw c mc];lia,fit c mc j hj,λr6 H6 s6 n6=>?_⟩;exact k3 _ _ (s5.trans s6) n6
   rintro ys7 H7 l7 hl7 s7 g7 pr7 _;exact k1 l7 H7 s7 hl7 ⟨ys7,g7,pr7⟩
  rintro ys H' r nr s' g' nd pr nn;rw[prodF lm hw] at pr;exact k r ys H' nr s' g' nd pr nn
theorem cm:bx ["_law_move_here","_law_n","_law_grid","_law_factor","_law_found","_law_k","_law_j","_law_total","_law_row_here"] ["_law_move_here"] (aw gA):=by walk_at "d"
theorem uU (T:Txt K mg Z):cZ P w K mg base jT 5 Z.kM Z.kx ["_law_move_here"] (rP K):=by
 refine T.nM.ok cm (λvs H Q E h=>?_) (λcdv A outer s H vs Q E hr h=>?_)
 ·obtain ⟨p,H0,mv,rfl,_⟩:=h;rfl
 ·obtain ⟨p,H0,mv,rfl,G,hw,n4,FS,k⟩:=h
  refine ⟨_,(au (aW (i:=1) cm.nd rfl (Or.inr rfl) (bW bU (by rfl) T.len bZ (aa (pv 0) ai)))
   (au (lQ 2 ["_law_k"] ["_law_n"] [1] cm.nd rfl rfl (bV rfl T.range (aa (pv 1) ai)) (λ_=>(aM (i:=0) (show List.Nodup (α:=PySem.Str) ["_law_k","_law_n"] by decide +kernel))) (λ_=>cu) (λ_=>(bJ z5 (gY (aa (cW (aa ah (aa ah ai))) ai)) (pv 1))))
   (au (aW (i:=3) cm.nd rfl (Or.inl rfl) (cW (aa ah (aa ah ai))))
   (au (aW (i:=4) cm.nd rfl (Or.inl rfl) (gY ai))
   (au (eC PassesOwn.never rfl (tS rfl T.range (aa ah (aa (bJ dZ (pv 1) ah) ai))) (aM (i:=5) cm.nd)
    (au (aW (i:=2) cm.nd rfl (Or.inl rfl) (dy (jt T) hr T.fG T.eX.kp T.ia (aa (pv 0) (aa (pv 2) ai))))
   (au (eC PassesOwn.never rfl (bV rfl T.range (aa (pv 1) ai)) (aM (i:=6) cm.nd)
    (az (fP (dy (gH T) hr T.eS T.eV.kp T.fU (aa (bF cf (bF cf (pv 2) (pv 6)) (pv 6)) (aa (pv 3) ai))) (gX (bF cf (pv 2) (pv 6)) (pv 6) set_list))))
   (au (aW (i:=7) cm.nd rfl (Or.inl rfl) (cW (aa ah (aa ah ai))))
   (au (eC PassesOwn.never rfl (o8 rfl T.enumerate (aa (dy (jt T) hr T.fG T.eX.kp T.ia (aa (pv 0) (aa (pv 2) ai))) ai)) (uK rfl (di (aM (i:=6) cm.nd) (di (aM (i:=8) cm.nd) lR)))
    (az (aW (i:=7) cm.nd rfl (Or.inl rfl) (dy (gH T) hr T.eS T.eV.kp T.fU (aa (pv 7) (aa (bF cf (pv 8) (pv 6)) ai))))))
   (au (aW (i:=3) cm.nd rfl (Or.inl rfl) (dy (gI T) hr T.eU T.eY.kp T.fV (aa (bJ lS ah (bF cA (pv 7) ah)) (aa (bJ dI (bF cA (pv 7) ah) (pv 5)) ai))))
   (az (km (vX fB jy jx nY (pv 4) (aa (cW (aa (bJ lS ah (bF cA (pv 3) ah)) (aa (bF cA (pv 3) ah) ai))) ai))))))))))
   (az (bE (yP (pv 4) (xX (rY oI ah)))))))))),?_⟩
  refine bc (σ:=[some (.ref p),none,none,none,none,none,none,none,none]) rfl ?_;obtain ⟨Dd,D0,D1,ff,tt⟩:=id FS;obtain ⟨xs,gx,qx,_⟩:=id G;have lx:=qx.length;have p16:Dd<=2^3995:=ar D1 (ao (by decide) (by decide));have szM:∀k,k<=mv.length->∀i j,i < mv.length->j < mv.length->qU ((dc (fH mv) mv.length k).1 i j):=λk hk i j hi hj=>m7 ((tt k hk).1 i j hi hj) D0 p16 (ao (by decide) (by decide))
  have szC:∀k,k<=mv.length->qU (dc (fH mv) mv.length k).2:=λk hk=>m7 (tt k hk).2 D0 p16 (ao (by decide) (by decide))
  have szS:∀k,k<=mv.length->∀j,j<=mv.length->qU (aY j λa=>(dc (fH mv) mv.length k).1 a a):=λk hk j hj=>by
   have t:=Tp.sum (k:=j) (M:=Dd) (W:=2^420) (f:=λa=>(dc (fH mv) mv.length k).1 a a) λa ha=>(tt k hk).1 a a (by lia) (by lia)
   refine m7 t D0 p16 (ar (aR _ (show j<=2^3 by lia)) ?_);rw[<- cG];exact ao (by decide) (by decide)
  walk_at "w";refine ⟨_,_,rfl,.inl (b6.of gx),?_⟩;rw[<- lx];walk_at "w";refine ⟨by lia,by lia,?_⟩;refine xu (K:=K) (n:=mv.length) (λ_=>(List.range mv.length).map λ_=>0) (by lia) ?_ ?_
  ·rintro i H1 NY NN hi s1 k1;walk_at "w";refine b8 λt2 H2 s2 g2=>?_
   walk_at "w";refine fg λl3 H3 s3 n3 g3=>?_
   walk_at "w";refine zP g3 (by lia) λl4 H4 s4 n4' g4=>?_
   refine k1 l4 H4 ((s2.trans s3).trans s4) (s2.none (s3.none n4')) ?_;rw[wb];exact ⟨_,g4,oN (bO.mk (q:=0) ((s3.trans s4) _ _ g2) rfl) mv.length⟩
  rintro ys0 H1 gp0 n1 s1 g1 nd1 pr1 nn1;have G1:cg K H H1 gp0 (cX mv.length (Gk (fH mv) mv.length 0)):=⟨ys0,g1,pr1,nn1⟩;walk_at "w";refine b8 λf0 H2 s2 g2=>?_
  walk_at "w";refine fg λfl H3 s3 n3 g3=>?_
  have s03:=(s1.trans s2).trans s3;have nfl:H fl=none:=s1.none (s2.none n3);have N0:bO K H3 (dc (fH mv) mv.length 0).2 (.ref f0):=bO.mk (q:=1) (s3 _ _ g2) rfl;walk_at "w";refine ⟨⟨by lia,by lia,by lia,by lia⟩,?_⟩;refine qp (lo:=1) (n:=(((mv.length:Int)+1) - 1).toNat) (λi σ' H'=>aF H H'/\∃Hz gp fv us y1 y2 y3 y4,σ'=[some (.ref p),some (.int mv.length),some (.ref gp),some fv,some (.ref fl),y1,y2,y3,y4]/\cg K Hz H' gp (cX mv.length (Gk (fH mv) mv.length i))/\bO K H' (dc (fH mv) mv.length i).2 fv/\H' fl=some (.lst us)/\Paired (bO K H') ((List.range i).map λk=>-((dc (fH mv) mv.length (k+1)).2)) us) ⟨s03,H,gp0,.ref f0,[],none,none,none,none,rfl,G1.same (s2.trans s3),N0,g3,.nil⟩ ?_ ?_
  ·rintro i σ' H4 hi ⟨s4,Hz,gp,fv,us,y1,y2,y3,y4,rfl,G4,N4,gf4,pr4⟩;have i4:i < mv.length:=by lia
   have lu:=pr4.length;rw[aj,aI] at lu;rw[show ((1:Int)+(i:Int))=((i+1:Nat):Int) by lia];walk_at "w";refine ⟨p,gp,mv.length,H0,Hz,mv,_,rfl,G.same s4,G4,rfl,hw,by lia,FS.gk (by lia),λgq ys5 H5 n5 s5 g5 nd5 pr5 nn5=>?_⟩;have e5:(cX mv.length λa b=>aY mv.length λl=>fH mv a l*Gk (fH mv) mv.length i l b)=cX mv.length λa b=>(dc (fH mv) mv.length i).1 a b+if a=b/\a < 0 then (dc (fH mv) mv.length i).2 else 0:=jf λa b _ _=>by rw[yf,if_neg (by lia),yw]
   rw[e5] at pr5;have ly5:=pr5.length;rw[dB] at ly5;have s45:=s4.trans s5;have gf5:=s5 _ _ gf4;have fl5:H4 fl≠none:=by rw[gf4];exact λz=>nomatch z
   have gqf:gq≠fl:=λz=>fl5 (by rw[<- z];exact n5)
   walk_at "w";refine ⟨by lia,by lia,?_⟩;refine fS (n:=mv.length) (λj σ' H'=>aF H H'/\aF H4 H'/\(∃y1 y2 y3,σ'=[some (.ref p),some (.int mv.length),some (.ref gq),some fv,some (.ref fl),some (.int (i+1:Nat)),y1,y2,y3])/\H' gq=some (.lst ys5)/\Paired (cN K H4 H') (cX mv.length λa b=>(dc (fH mv) mv.length i).1 a b+if a=b/\a < j then (dc (fH mv) mv.length i).2 else 0) ys5) ⟨s45,s5,⟨_,_,_,rfl⟩,g5,pr5⟩ ?_ ?_
   ·rintro j σ' H6 hj ⟨s6,s46,⟨y1,y2,y3,rfl⟩,g6,pr6⟩;have ev:=ak (show j < ys5.length by lia);obtain ⟨row,er,q,eq,nq,Rq⟩:=df pr6 ev;rw[eq] at ev;rw[nA hj] at er;have er:=bf er;subst er;obtain ⟨zs,gz,qz⟩:=id Rq;have lz:=qz.length;rw[aj,aI] at lz;obtain ⟨vx,ex,nx⟩:=yY qz (j:=j) (by rw[aj,aI];exact hj);rw[nW hj,if_neg (by lia),yw] at nx;have qg:gq≠q:=λz=>nn5 (by rw[z];exact av ev)
    walk_at "w";refine cO (b6.of g6) (iT ev) ?_;walk_at "w";refine cO (b6.of gz) ex ?_;walk_at "w";refine ⟨_,_,_,_,rfl,nx,N4.same s46,szM i (by lia) j j hj hj,szC i (by lia),λr7 H7 s7 n7=>?_⟩;have gz7:=s7 _ _ gz;walk_at "w";refine cO (b6.of (s7 _ _ g6)) (iT ev) ?_;walk_at "w";refine eF gz7 (fh (by lia)) rfl ?_;have hq:H q=none:=s4.none nq;refine ⟨(s6.trans s7).after hq,(s46.trans s7).after nq,⟨_,_,_,rfl⟩,by rw[aS qg];exact s7 _ _ g6,?_⟩;have R7:d4 K (upd H7 q (.lst (zs.set j (.ref r7)))) q (((List.range mv.length).map λb=>(dc (fH mv) mv.length i).1 j b+if j=b/\j < j then (dc (fH mv) mv.length i).2 else 0).set j ((dc (fH mv) mv.length i).1 j j+(dc (fH mv) mv.length i).2)):=⟨_,aE,oO (Paired.imp' (λ_ _ z=>bO.updL (bO.same z s7) gz7) qz) j (n7.updL gz7)⟩;have P7:=qD gz7 nq R7 (Paired.imp' (λ_ _ z=>cN.same z s7) pr6) nd5 ev
    have e7:=zb (n:=mv.length) (k:=j) (h:=λj a b=>(dc (fH mv) mv.length i).1 a b+if a=b/\a < j then (dc (fH mv) mv.length i).2 else 0) hj λa b _ _=>by
     by_cases e1:a=j
     ·subst e1;rw[if_pos rfl];by_cases e2:b=a
      ·subst e2;rw[if_pos rfl]
      ·rw[if_neg e2,if_neg (by lia),if_neg (by lia)]
     ·rw[if_neg e1];by_cases e2:a=b/\a < j
      ·rw[if_pos e2,if_pos (by lia)]
      ·rw[if_neg e2,if_neg (by lia)]
    have e8:(dc (fH mv) mv.length i).1 j j+(dc (fH mv) mv.length i).2=(dc (fH mv) mv.length i).1 j j+if j=j/\j < j+1 then (dc (fH mv) mv.length i).2 else 0:=by rw[if_pos ⟨rfl,by lia⟩]
    rw[e8] at P7;rw[<- e7];exact P7
   rintro σ' H6 ⟨s6,s46,⟨y5,y6,y7,rfl⟩,g6,pr6⟩
   have e6:(cX mv.length λa b=>(dc (fH mv) mv.length i).1 a b+if a=b/\a < mv.length then (dc (fH mv) mv.length i).2 else 0)=cX mv.length (Gk (fH mv) mv.length (i+1)):=jf λa b ha hb=>by
    show _=_+_
    by_cases e:a=b
    ·rw[if_pos ⟨e,ha⟩,if_pos e]
    ·rw[if_neg (λz=>e z.1),if_neg e]
   rw[e6] at pr6;have G6:cg K H4 H6 gq (cX mv.length (Gk (fH mv) mv.length (i+1))):=⟨ys5,g6,pr6,nn5⟩;have gf6:=s46 _ _ gf4;walk_at "w";refine b8 λt7 H7 s7 g7=>?_
   walk_at "w";refine ⟨p,gq,mv.length,H0,H4,mv,_,rfl,G.same (s6.trans s7),G6.same s7,rfl,hw,by lia,FS.gk (by lia),λgr ys8 H8 n8 s8 g8 nd8 pr8 nn8=>?_⟩;have e8:(cX mv.length λa b=>aY mv.length λl=>fH mv a l*Gk (fH mv) mv.length (i+1) l b)=cX mv.length (dc (fH mv) mv.length (i+1)).1:=jf λa b _ _=>yf _ _ _
   rw[e8] at pr8;have ly8:=pr8.length;rw[dB] at ly8;walk_at "w";refine ⟨⟨_,b6.of g8⟩,?_⟩;refine wk (K:=K) (xs:=ys8) (λj σ' H'=>aF H8 H'/\∃tv y1 y3,σ'=[some (.ref p),some (.int mv.length),some (.ref gq),some fv,some (.ref fl),some (.int (i+1:Nat)),y1,some tv,y3]/\bO K H' (aY j λa=>(dc (fH mv) mv.length (i+1)).1 a a) tv) ⟨aF.refl _,.ref t7,_,_,rfl,bO.mk (q:=0) (s8 _ _ g7) rfl⟩ (λj σ' H' _ ⟨s,_⟩=>b6.of (s _ _ g8)) ?_ ?_
   ·rintro j v σ' H9 r9 hv ⟨s9,tv,y1,y3,rfl,N9⟩ hr9;have hj:j < mv.length:=by have:=(aO.mp hv).1;lia
    obtain ⟨row,er,q,rfl,nq,Rq⟩:=df pr8 hv;rw[nA hj] at er;have er:=bf er;subst er;have sr:aF H9 (upd H9 r9 (.tup [.int j,.ref q])):=aF.new hr9;have gr:(upd H9 r9 (.tup [.int j,.ref q])) r9=some (.tup [.int j,.ref q]):=aE;generalize upd H9 r9 (.tup [.int j,.ref q])=Ha at sr gr ⊢;obtain ⟨zs,gz,qz⟩:=Rq.same (s9.trans sr);obtain ⟨vx,ex,nx⟩:=yY qz (j:=j) (by rw[aj,aI];exact hj);rw[nW hj] at nx;walk_at "w";refine cO (b6.of gz) ex ?_;walk_at "w";refine ⟨_,_,_,_,rfl,N9.same sr,nx,szS (i+1) (by lia) j (by lia),szM (i+1) (by lia) j j hj hj,λrb Hb sb nb=>?_⟩;walk_at "w";exact ⟨(s9.trans sr).trans sb,_,_,_,rfl,nb⟩
   rintro σ' H9 ⟨s9,tv,y8,y9,rfl,N9⟩;rw[ly8.symm] at N9;obtain ⟨tp,rfl,sq⟩:=id N9;have k0:((i+1:Nat):Int)≠0:=by lia
   have dpos:=j6 (aY mv.length λa=>(dc (fH mv) mv.length (i+1)).1 a a);have szt:=szS (i+1) (by lia) mv.length (by lia);walk_at "w";refine gW (yo (by lia) (by lia)) ?_;walk_at "w";refine ⟨_,_,rfl,mZ dpos (by lia),(szt.2.mul (show Sz 4 ((i+1:Nat):Int) by show ((i+1:Nat):Int).natAbs < 2^4;rw[ck];lia)).mono (by decide),λra Ha sa ga=>?_⟩;have Na:bO K Ha (dc (fH mv) mv.length (i+1)).2 (.ref ra):=bO.mk ga (pH (mZ dpos (by lia)) (vw i));obtain ⟨_,e0,sqa⟩:=id Na;cases e0;have s4a:=(((s46.trans s7).trans s8).trans s9).trans sa;have gfa:=s4a _ _ gf4;walk_at "w";refine ⟨.inl ⟨rfl,_,b6.of gfa⟩,?_⟩;walk_at "w";refine b8 λtb Hb sb gb=>?_
   have gfb:=sb _ _ gfa;have Nb:bO K Hb (-((dc (fH mv) mv.length (i+1)).2)) (.ref tb):=bO.mk gb (BF (pH (mZ dpos (by lia)) (vw i)));walk_at "w";refine nV gfb (bT (by lia)) ?_;have s8b:=((s7.trans s8).trans s9).trans (sa.trans sb);refine ⟨((s4.trans s4a).trans sb).after nfl,H4,gq,.ref ra,_,_,_,_,_,rfl,(G6.same s8b).updL gfb fl5 gqf,(Na.same sb).updL gfb,aE,?_⟩;rw[sV,jP];exact cP (Paired.imp' (λ_ _ z=>bO.updL (bO.same z (s4a.trans sb)) gfb) pr4) (.cons (Nb.updL gfb) .nil)
  rintro σ' H4 ⟨s4,Hz,gp,fv,us,y1,y2,y3,y4,rfl,G4,N4,gf4,pr4⟩;rw[show (((mv.length:Int)+1) - 1).toNat=mv.length by lia] at pr4;walk_at "w";unfold EB;walk_at "w";refine ⟨rfl,fl,us,rfl,b6.of gf4,λr5 n5=>?_⟩;exact k r5 _ (s4.none n5) (s4.trans (aF.new n5)) ⟨_,aE,Paired.imp' (λ_ _ z=>bO.same z (aF.new n5)) (oM pr4)⟩
theorem dS:bx ["wholes","multiple","whole"] ["wholes"] (aw dd):=by walk_at "d"
theorem oQ (T:Txt K mg Z):cZ P w K mg base jT 2 Z.eK Z.eH ["wholes"] (zG K):=by
 refine T.ie.ok dS (λvs H Q E h=>?_) (λcdv A outer s H vs Q E hr h=>?_)
 ·obtain ⟨p,bs,M,rfl,_⟩:=h;rfl
 ·obtain ⟨p,bs,M,rfl,hp,hM,sM,hb,q⟩:=h
  refine ⟨_,(au (aW (i:=1) dS.nd rfl (Or.inl rfl) ah)
   (au (eC PassesOwn.never rfl (dk (pv 0)) (aM (i:=2) dS.nd)
    (az (aW (i:=1) dS.nd rfl (Or.inl rfl) (bJ dI (pv 1) (bJ hE (pv 2) (dy (hX T) hr T.eG T.dN.kp T.fu (aa (pv 1) (aa (pv 2) ai))))))))
   (az (bE (pv 1))))),?_⟩
  refine bc (σ:=[some (.ref p),none,none]) rfl ?_;walk_at "w";refine ⟨⟨_,hp⟩,?_⟩;refine lK (K:=K) (a:=p) (xs:=bs.map V.int) (λi σ' H'=>H'=H/\∃x,σ'=[some (.ref p),some (.int (qj (bs.take i) 1)),x]) ⟨rfl,none,rfl⟩ (λi σ' H' _ ⟨e,_⟩=>by subst e;exact hp) ?_ ?_
  ·rintro i x σ' H' hx ⟨rfl,y,rfl⟩;rw[aD] at hx
   obtain ⟨b,eb,rfl⟩:∃b,bs[i]?=some b/\x=.int b:=by
    cases e:bs[i]? with
    | none=>rw[e] at hx;cases hx
    | some b=>rw[e] at hx;cases hx;exact ⟨b,rfl,rfl⟩
   have b1:=hb b (av eb);have sb:Sz 4400 b:=vc hM b1.2 sM;have ht:∀c∈bs.take i,0 < c/\c∣M:=λc hc=>hb c (mX hc)
   have msz:Sz 4400 (qj (bs.take i) 1):=vc hM (pK (by decide) (Az _) ht) sM;generalize hm:qj (bs.take i) 1=m at msz ⊢;have gp:0 < g m b:=sI (by lia);walk_at "w";refine ⟨m,b,rfl,?_⟩;walk_at "w";refine gW (show mU _ _ from ⟨by lia,(Gy b1.1 sb).mono (by decide)⟩) ?_;rw[bL _ (by lia)];walk_at "w";refine gW (show kW _ _ from .inr ⟨_,_,msz,sb.hi (t:=m) (by lia),by decide⟩) ?_;walk_at "w";exact ⟨rfl,_,by rw[take_snoc eb,tY,hm];rfl⟩
  ·rintro σ' H' ⟨rfl,y,rfl⟩;walk_at "w";rw[aV (by simp)];exact q
theorem p7:bx ["row"] ["row"] (aw dz):=by walk_at "d"
theorem qf (T:Txt K mg Z):cZ P w K mg base jT 3 Z.fK Z.fI ["row"] (zH K):=by
 refine T.jv.ok p7 (λvs H Q E h=>?_) (λcdv A outer s H vs Q E hr h=>?_)
 ·obtain ⟨p,ns,M,rfl,_⟩:=h;rfl
 ·obtain ⟨p,ns,M,rfl,hp,hl,hz,q⟩:=h;refine ⟨_,(az (bE (dy (oQ T) hr T.j7 T.ie.kp T.kG (aa (cv ["value"] [] [] (dk (pv 0)) (λ_=>(aM (i:=0) (show List.Nodup (α:=PySem.Str) ["value"] by decide +kernel))) (λ_=>cu) (λ_=>(bF (rl K (by rfl)) (pv 0) ah))) ai)))),?_⟩;refine bc (σ:=[some (.ref p)]) rfl ?_;obtain ⟨xs,gx,qx⟩:=id hp;have lx:=qx.length;walk_at "w";refine ⟨⟨_,b6.of gx⟩,?_⟩;refine iH (K:=K) (xs:=xs) (λi ys H'=>H'=H/\ys=((ns.take i).map (·.2)).map V.int) (bI (bT (by lia))) ⟨rfl,rfl⟩ (λi ys H' _ ⟨e,_⟩=>by subst e;exact b6.of gx) ?_ ?_
  ·rintro i x ys H' hx hlen ⟨rfl,rfl⟩;obtain ⟨n,en,r,rfl,hr1⟩:=df qx hx;walk_at "w";exact ⟨rfl,by rw[take_snoc en];simp⟩
  ·rintro ys H' hy ⟨rfl,rfl⟩ l hl';walk_at "w";refine ⟨l,ns.map (·.2),M,rfl,b6.of (by rw[aE,aV (by lia)]),hz.1,hz.2.1,λb hb=>?_,?_⟩
   ·obtain ⟨n,hn,rfl⟩:=aG.mp hb;exact ⟨(hz.2.2 n hn).1,(hz.2.2 n hn).2.1⟩
   ·exact q _ (aF.new hl')
theorem uG:bx ["lists","joined","each"] ["lists"] (aw qd):=by walk_at "d"
theorem BC (T:Txt K mg Z):cZ P w K mg base jT 1 Z.vm Z.vd ["lists"] (vK K):=by
 refine T.xE.ok uG (λvs H Q E h=>?_) (λcdv A outer s H vs Q E hr h=>?_)
 ·obtain ⟨p,H0,rows,rfl,_⟩:=h;rfl
 ·obtain ⟨p,H0,rows,rfl,G,hl,k⟩:=h
  refine ⟨_,(au (aW (i:=1) uG.nd rfl (Or.inl rfl) (gY ai))
   (au (eC PassesOwn.never rfl (dk (pv 0)) (aM (i:=2) uG.nd)
    (az (km (vX fB PySem.F.slot_list_extend PySem.F.type_list_extend yU (pv 1) (aa (pv 2) ai)))))
   (az (bE (pv 1))))),?_⟩
  refine bc (σ:=[some (.ref p),none,none]) rfl ?_;obtain ⟨xs,gx,qx,_⟩:=id G;have lx:=qx.length;walk_at "w";refine fg λj H1 s1 n1 g1=>?_
  walk_at "w";refine ⟨⟨_,b6.of (s1 _ _ gx)⟩,?_⟩;refine lK (K:=K) (a:=p) (xs:=xs) (λi σ' H'=>aF H H'/\∃(us:List V) (x:Option V),σ'=[some (.ref p),some (.ref j),x]/\H' j=some (.lst us)/\Paired (bO K H') (rows.take i).flatten us) ⟨s1,[],none,rfl,g1,.nil⟩ (λi σ' H' _ ⟨s,_⟩=>b6.of (s _ _ gx)) ?_ ?_
  ·rintro i x σ' H' hx ⟨s,us,y,rfl,gj,pr⟩;obtain ⟨qs,eq,q,rfl,_,Rq⟩:=df qx hx;obtain ⟨zs,gz,qz⟩:=Rq.same s;have lz:=qz.length;have lu:=pr.length;have tl:(rows.take (i+1)).flatten=(rows.take i).flatten++qs:=by rw[take_snoc eq,List.flatten_append];simp
   have bl:(rows.take i).flatten.length+qs.length<=1000:=by
    have e:rows.flatten=(rows.take (i+1)).flatten++(rows.drop (i+1)).flatten:=by rw[<- List.flatten_append,List.take_append_drop]
    rw[e,tl,bS,bS] at hl
    lia
   walk_at "w";refine ⟨.inl ⟨rfl,_,b6.of gj⟩,?_⟩;walk_at "w";refine ⟨j,q,us,zs,rfl,rfl,gj,gz,bI (bT (by lia)),?_⟩;refine ⟨s.after n1,_,_,rfl,aE,?_⟩;rw[tl];exact cP (Paired.imp' (λ_ _ z=>bO.updL z gj) pr) (Paired.imp' (λ_ _ z=>bO.updL z gj) qz)
  ·rintro σ' H' ⟨s,us,y,rfl,gj,pr⟩;rw[aV (by lia)] at pr;walk_at "w";exact k j H' n1 s ⟨us,gj,pr⟩
theorem uE:bx ["row","bottom"] ["row","bottom"] (aw fZ):=by walk_at "d"
theorem uS (T:Txt K mg Z):cZ P w K mg base jT 1 Z.kK Z.ku ["row","bottom"] (vH K):=by
 refine T.nJ.ok uE (λvs H Q E h=>?_) (λcdv A outer s H vs Q E hr h=>?_)
 ·obtain ⟨p,ns,M,B,rfl,_⟩:=h;rfl
 ·obtain ⟨p,ns,M,B,rfl,hp,hl,hz,hB,sB,q⟩:=h;refine ⟨_,(az (bE (cv ["value"] ["bottom"] [1] (dk (pv 0)) (λ_=>(aM (i:=0) (show List.Nodup (α:=PySem.Str) ["value","bottom"] by decide +kernel))) (λ_=>cu) (λ_=>(bJ dI (bF (rl K (by rfl)) (pv 0) ah) (bJ hE (pv 1) (bF (rl K (by rfl)) (pv 0) ah))))))),?_⟩;refine bc (σ:=[some (.ref p),some (.int B)]) rfl ?_;obtain ⟨xs,gx,qx⟩:=id hp;have lx:=qx.length;walk_at "w";refine ⟨⟨_,b6.of gx⟩,?_⟩;refine iH (K:=K) (xs:=xs) (λi ys H'=>H'=H/\ys=(jw (ns.take i) B).map V.int) (bI (bT (by lia))) ⟨rfl,rfl⟩ (λi ys H' _ ⟨e,_⟩=>by subst e;exact b6.of gx) ?_ ?_
  ·rintro i x ys H' hx hlen ⟨rfl,rfl⟩;obtain ⟨n,en,r,rfl,hr1⟩:=df qx hx;have nz:=hz.2.2 n (av en);have sn:Sz 4400 n.2:=vc hz.1 nz.2.1 hz.2.1;walk_at "w";refine gW (show mU _ _ from ⟨by lia,sn.mono (by decide)⟩) ?_;rw[bL _ (by lia)]
   have sq:Sz 4400 (B / n.2):=sB.le (by
    rw[Es (by lia)];exact Nat.div_le_self ..)
   walk_at "w";refine gW (show kW _ _ from .inr ⟨_,_,nz.2.2,sq,by decide⟩) ?_;exact ⟨rfl,by rw[take_snoc en];simp [jw]⟩
  ·rintro ys H' hy ⟨rfl,rfl⟩ l hl';exact q l _ hl' (aF.new hl') (by rw[aE,aV (by lia)])
theorem oo:bx ["grid","bottom"] ["grid"] (aw eZ):=by walk_at "d"
theorem sZ (T:Txt K mg Z):cZ P w K mg base jT 4 Z.jH Z.jD ["grid"] (vF K):=by
 refine T.mI.ok oo (λvs H Q E h=>?_) (λcdv A outer s H vs Q E hr h=>?_)
 ·obtain ⟨p,H0,rows,M,rfl,_⟩:=h;rfl
 ·obtain ⟨p,H0,rows,M,rfl,G,hl,r1000,w1000,hM,k⟩:=h
  refine ⟨_,(au (aW (i:=1) oo.nd rfl (Or.inr rfl) (dy (qf T) hr T.lH T.jv.kp T.mQ (aa (dy (BC T) hr T.yb T.xE.kp T.Aw (aa (pv 0) ai)) ai)))
   (az (bE (cW (aa (cv ["row"] ["bottom"] [1] (dk (pv 0)) (λ_=>(aM (i:=0) (show List.Nodup (α:=PySem.Str) ["row","bottom"] by decide +kernel))) (λ_=>cu) (λ_=>(dy (uS T) hr T.pz T.nJ.kp T.qO (aa (pv 0) (aa (pv 1) ai))))) (aa (pv 1) ai)))))),?_⟩
  refine bc (σ:=[some (.ref p),none]) rfl ?_;have hM':=hM;obtain ⟨b1,s1⟩:=hM.bot;obtain ⟨xs,gx,qx,_⟩:=id G;have lx:=qx.length;walk_at "w";refine ⟨p,H0,rows,rfl,G,hl,λr1 H1 n1 t1 R1=>?_⟩;walk_at "w";refine ⟨r1,rows.flatten.map nm,M,rfl,R1.rowK,by rw[aj];exact hl,hM,λH2 t2=>?_⟩;have t02:=t1.trans t2;have g2:=t02 _ _ gx;walk_at "w";refine ⟨⟨_,b6.of g2⟩,?_⟩;refine gK (K:=K) (as:=rows) (F:=cN K H0) RI (λxs=>jw (xs.map nm) (cU rows)) g2 (Paired.imp' (λ_ _ z=>cN.same z t02) qx) r1000 (λh s=>h.same s) (λh s=>h.same s) ?_ ?_
  ·rintro i c x H' NY NN ec s' ⟨u,rfl,_,Ru⟩ k1;have mc:=av ec;walk_at "w";refine ⟨u,c.map nm,M,cU rows,rfl,Ru.rowK,by rw[aj];exact w1000 c mc,⟨hM.1,hM.2.1,λn hn=>hM.2.2 n ?_⟩,b1,s1,λr3 H3 n3 t3 g3=>k1 _ _ t3 ⟨r3,rfl,g3⟩⟩;obtain ⟨y,hy,rfl⟩:=aG.mp hn;exact aG.mpr ⟨y,lO.mpr ⟨c,mc,hy⟩,rfl⟩
  rintro ys H3 l hl3 s3 g3 pr _;walk_at "w";refine b8 λt4 H4 s4 g4=>?_
  exact k t4 l H4 g4 ((t02.trans s3).trans s4) (GI.same ⟨ys,g3,pr⟩ s4)
theorem uC:bx ["one","other"] ["one","other"] (aw fX):=by walk_at "d"
theorem uR (T : Txt K mg Z) : cZ P w K mg base jT 1 Z.kI Z.kr ["one", "other"] (xQ K) := by
  refine T.nH.ok uC (λvs H Q E h => ?_) (λcdv A outer s H vs Q E hr h => ?_)
  · obtain ⟨p, q, a, b, k, j, rfl, _⟩ := h;rfl
  · obtain ⟨p, q, a, b, k, j, rfl, ga, gb, hl, h100, sa, sb, kj, kk⟩ := h;refine ⟨_, (az (bE (bW (wz rfl) (by rfl) T.sum PyProof.Rows.boot_sum (aa (cv ["mine", "yours"] [] [] (By rfl T.zip (aa (pv 0) (aa (pv 1) ai))) (λ_ => (rj K 2 (di (aM (i := 0) (show List.Nodup (α := PySem.Str) ["mine", "yours"] by decide +kernel)) (di (aM (i := 1) (show List.Nodup (α := PySem.Str) ["mine", "yours"] by decide +kernel)) lR)))) (λ_ => cu) (λ_ => (bJ dI (pv 0) (pv 1)))) ai)))), ?_⟩;refine bc (σ := [some (.ref p), some (.ref q)]) rfl ?_;walk_at "w";refine ⟨⟨_, b6.of ga⟩, ⟨_, b6.of gb⟩, ?_⟩;refine Ap (K := K) (xs := a.map V.int) (ws := b.map V.int) (λi ys H' => aF H H' /\ ys = ((List.zipWith (· * ·) a b).take i).map V.int) (bI (bT (by rw [aj]; lia))) (by rw [aj, aj]; lia) ⟨aF.refl _, rfl⟩ (λi ys H' _ ⟨s, _⟩ => ⟨b6.of (s _ _ ga), b6.of (s _ _ gb)⟩) ?_ ?_
    · rintro i x y ys H' r hx hy hlen ⟨s', rfl⟩ hr;rw [aD] at hx hy;obtain ⟨u, eu, rfl⟩ := rC.mp hx;obtain ⟨v, ev, rfl⟩ := rC.mp hy;have sr : aF H' (upd H' r (.tup [.int u, .int v])) := aF.new hr;have gr : (upd H' r (.tup [.int u, .int v])) r = some (.tup [.int u, .int v]) := aE;generalize upd H' r (.tup [.int u, .int v]) = H2 at sr gr ⊢;walk_at "w";refine gW (show kW _ _ from .inr ⟨_, _, sa u (av eu), sb v (av ev), kj⟩) ?_;have ez : (List.zipWith (· * ·) a b)[i]? = some (u * v) := by rw [List.getElem?_zipWith, eu, ev]
      exact ⟨s'.trans sr, by rw [take_snoc ez]; simp⟩
    rintro ys H' hy ⟨s', rfl⟩ l hl';walk_at "w";refine ⟨l, List.zipWith (· * ·) a b, rfl, b6.of (by rw [aE, aV (by rw [jn, aj]; lia)]), ?_⟩;exact kk _ (s'.trans (aF.new hl'))
theorem vM:bx ["lines","tops"] ["lines","tops"] (aw ir):=by walk_at "d"
theorem vZ (T:Txt K mg Z):cZ P w K mg base jT 2 Z.my Z.md ["lines","tops"] (zF K):=by
 refine T.oV.ok vM (λvs H Q E h=>?_) (λcdv A outer s H vs Q E hr h=>?_)
 ·obtain ⟨p,q,ls,b,k,j,rfl,_⟩:=h;rfl
 ·obtain ⟨p,q,ls,b,k,j,rfl,G,gb,hw,l100,b100,sk,sj,kj,kk⟩:=h;refine ⟨_,(az (bE (cv ["line"] ["tops"] [1] (dk (pv 0)) (λ_=>(aM (i:=0) (show List.Nodup (α:=PySem.Str) ["line","tops"] by decide +kernel))) (λ_=>cu) (λ_=>(dy (uR T) hr T.pk T.nH.kp T.qN (aa (pv 0) (aa (pv 1) ai))))))),?_⟩;refine bc (σ:=[some (.ref p),some (.ref q)]) rfl ?_;obtain ⟨xs,gx,qx⟩:=id G;have lx:=qx.length;walk_at "w";refine ⟨⟨_,b6.of gx⟩,?_⟩;refine gK (K:=K) (as:=ls) (F:=RI) (λ_ z y=>y=V.int z) (λl=>cQ l b) gx qx (by lia) (λh s=>h.same s) (λh _=>h) ?_ ?_
  ·rintro i c x H' NY NN ec s' ⟨u,rfl,gu⟩ k1;have mc:=av ec;walk_at "w";exact ⟨u,q,c,b,k,j,rfl,gu,s' _ _ gb,(hw c mc).symm,by rw[hw c mc];lia,sk c mc,sj,kj,λH2 s2=>k1 _ _ s2 rfl⟩
  rintro ys H2 l hl s2 g2 pr _;have ey:ys=(hJ ls b).map V.int:=su pr;refine kk l _ hl s2 (by rw[g2,ey])
theorem uB:bx ["lines","by"] ["lines","by"] (aw fW):=by walk_at "d"
theorem uQ (T:Txt K mg Z):cZ P w K mg base jT 1 Z.kH Z.kq ["lines","by"] (vE K):=by
 refine T.nG.ok uB (λvs H Q E h=>?_) (λcdv A outer s H vs Q E hr h=>?_)
 ·obtain ⟨p,ls,b,rfl,_⟩:=h;rfl
 ·obtain ⟨p,ls,b,rfl,G,l100,w100,kk⟩:=h;refine ⟨_,(az (bE (cv ["place","line"] ["by"] [1] (o8 rfl T.enumerate (aa (pv 0) ai)) (λ_=>(rj K 2 (di (aM (i:=0) (show List.Nodup (α:=PySem.Str) ["place","line","by"] by decide +kernel) rfl (Or.inr rfl) (Or.inl rfl)) (di (aM (i:=1) (show List.Nodup (α:=PySem.Str) ["place","line","by"] by decide +kernel)) lR)))) (λ_=>cu) (λ_=>(cv ["at","value"] ["place","by"] [0,2] (zY K rfl T.enumerate (aa (pv 1) ai)) (λ_=>(rj K 2 (di (aM (i:=0) (show List.Nodup (α:=PySem.Str) ["at","value","place","by"] by decide +kernel)) (di (aM (i:=1) (show List.Nodup (α:=PySem.Str) ["at","value","place","by"] by decide +kernel)) lR)))) (λ_=>cu) (λ_=>(z4 (be eR (pv 0) (pv 2) (bo _)) (bJ dZ (pv 1) (pv 3)) (pv 1)))))))),?_⟩;refine bc (σ:=[some (.ref p),some (.int b)]) rfl ?_;obtain ⟨xs,gx,qx⟩:=id G;have lx:=qx.length;walk_at "w";refine ⟨⟨_,b6.of gx⟩,?_⟩;refine qq (K:=K) (xs:=xs) (λi ys H'=>aF H H'/\Paired (RI H') ((bM b 0 ls).take i) ys) (bI (bT (by lia))) ⟨aF.refl _,.nil⟩ (λi ys H' _ ⟨s,_⟩=>b6.of (s _ _ gx)) ?_ ?_
  ·rintro i v ys H' r hx hlen ⟨s',pr⟩ hr;obtain ⟨c,ec,u,rfl,gu⟩:=df qx hx;have mc:=av ec;have sr:aF H' (upd H' r (.tup [.int i,.ref u])):=aF.new hr;have gr:(upd H' r (.tup [.int i,.ref u])) r=some (.tup [.int i,.ref u]):=aE;generalize upd H' r (.tup [.int i,.ref u])=H2 at sr gr ⊢;have s2:=s'.trans sr;have gu2:=s2 _ _ gu;walk_at "w";refine ⟨⟨_,b6.of gu2⟩,?_⟩;refine qq (K:=K) (xs:=c.map V.int) (λj ys H'=>aF H2 H'/\ys=((bN b i c).take j).map V.int) (bI (bT (by rw[aj];have:=w100 c mc;lia))) ⟨aF.refl _,rfl⟩ (λi ys H' _ ⟨s,_⟩=>b6.of (s _ _ gu2)) ?_ ?_
   ·rintro j w ys3 H3 r3 hw hl3 ⟨s3,rfl⟩ hr3;rw[aD] at hw;obtain ⟨z,ez,rfl⟩:=rC.mp hw;have jl:=(aO.mp ez).1;have sr3:aF H3 (upd H3 r3 (.tup [.int j,.int z])):=aF.new hr3;have gr3:(upd H3 r3 (.tup [.int j,.int z])) r3=some (.tup [.int j,.int z]):=aE;generalize upd H3 r3 (.tup [.int j,.int z])=H4 at sr3 gr3 ⊢
    have ea:(bN b i c)[j]?=some (z+if j=i then b else 0):=by
     have h1:=oU (b:=b) (p:=i) (l:=c) (i:=j) jl;have h2:c.getD j 0=z:=by rw[ae,ez];rfl
     rw[h2,ae] at h1;rw[<- h1,ak (by rw[lN];exact jl)];rfl
    walk_at "w";refine ij (λh0=>?_) (λh0=>?_)
    ·have h0:=of_decide_eq_true h0;walk_at "w";refine ⟨s3.trans sr3,?_⟩;rw[take_snoc ea,if_pos (by lia)];simp
    ·have h0:¬(j:Int)=(i:Int):=λz=>h0 (decide_eq_true z)
     walk_at "w";refine ⟨s3.trans sr3,?_⟩;rw[take_snoc ea,if_neg (by lia),Int.add_zero];simp
   rintro ys3 H3 hy3 ⟨s3,rfl⟩ l3 hl3;have sn:aF H3 (upd H3 l3 (.lst (((bN b i c).take (c.map V.int).length).map V.int))):=aF.new hl3;have gn:(upd H3 l3 (.lst (((bN b i c).take (c.map V.int).length).map V.int))) l3=some (.lst (((bN b i c).take (c.map V.int).length).map V.int)):=aE;have gn:(upd H3 l3 (.lst (((bN b i c).take (c.map V.int).length).map V.int))) l3=some (.lst ((bN b i c).map V.int)):=by rw[gn,aV (by rw[aj,lN];lia)]
   generalize upd H3 l3 (.lst (((bN b i c).take (c.map V.int).length).map V.int))=H5 at sn gn ⊢;have s25:=s3.trans sn;refine ⟨s2.trans s25,?_⟩;have em:(bM b 0 ls)[i]?=some (bN b i c):=by rw[pG,ec,oh];rfl
   rw[take_snoc em];exact cP (Paired.imp' (λ_ _ z=>RI.same z (sr.trans s25)) pr) (.cons ⟨l3,rfl,gn⟩ .nil)
  rintro ys H' hy ⟨s',pr⟩ l hl';rw[aV (by rw[gJ];lia)] at pr;exact kk l _ (s'.none hl') (s'.trans (aF.new hl')) ⟨_,aE,Paired.imp' (λ_ _ z=>RI.same z (aF.new hl')) pr⟩
theorem p6:bx ["top","bottom","divisor"] ["top","bottom"] (aw lE):=by walk_at "d"
theorem yR (T:Txt K mg Z):cZ P w K mg base jT 2 Z.pV Z.pN ["top","bottom"] yH:=by
 refine T.sS.ok p6 (λvs H Q E h=>?_) (λcdv A outer s H vs Q E hr h=>?_)
 ·obtain ⟨t,b,rfl,_⟩:=h;rfl
 ·obtain ⟨t,b,rfl,hb,hs,k⟩:=h
  refine ⟨_,(au (aW (i:=2) p6.nd rfl (Or.inl rfl) (dy (hX T) hr T.eG T.dN.kp T.fu (aa (pv 0) (aa (pv 1) ai))))
   (au (dq (be o9 (pv 1) ah (bo _)) (az (aW (i:=2) p6.nd rfl (Or.inl rfl) (rY oI (pv 2)))) bY)
   (az (bE (cW (aa (bJ hE (pv 0) (pv 2)) (aa (bJ hE (pv 1) (pv 2)) ai))))))),?_⟩
  refine bc (σ:=[some (.int t),some (.int b),none]) rfl ?_;walk_at "w";refine ⟨t,b,rfl,?_⟩;have hg:=sI (t:=t) hb
  have hgs:Sz 8999 (g t b):=hs.le (by
   have h1:(g t b).natAbs=Int.gcd t b:=by unfold g;simp
   rw[h1];exact gS (by lia) (by have:=dE (a:=t) (b:=b);exact cJ.mpr this |> λz=>by simpa using z))
  have hgn:g (-t) (-b)=g t b:=by unfold g;rw[Int.gcd_neg,Int.neg_gcd]
  walk_at "w";refine ij (λh=>?_) (λh=>?_)
  ·have hb0:b < 0:=of_decide_eq_true h;walk_at "w";refine gW (show mU _ _ from ⟨by lia,hgs.neg⟩) ?_;walk_at "w";refine gW (show mU _ _ from ⟨by lia,hgs.neg⟩) ?_;walk_at "w";refine b8 λr H' s' h'=>?_
   have e1:t.fdiv (-g t b)=lo (-t) (-b):=by
    unfold Nm.lo;rw[hgn,<- bL _ (by lia),<- Int.neg_fdiv_neg (-t),Int.neg_neg]
   have e2:b.fdiv (-g t b)=hi (-t) (-b):=by
    unfold Nm.hi;rw[hgn,<- bL _ (by lia),<- Int.neg_fdiv_neg (-b),Int.neg_neg]
   exact k r H' s' (by rw[if_pos hb0,if_pos hb0,<- e1,<- e2];exact h')
  ·have hb0:¬b < 0:=λz=>h (decide_eq_true z)
   walk_at "w";refine gW (show mU _ _ from ⟨by lia,hgs⟩) ?_;walk_at "w";refine gW (show mU _ _ from ⟨by lia,hgs⟩) ?_;walk_at "w";refine b8 λr H' s' h'=>?_
   rw[bL _ (by lia),bL _ (by lia)] at h';exact k r H' s' (by rw[if_neg hb0,if_neg hb0];exact h')
theorem cV:bx ["system","many","move","columns","last","bottom","wish","turn"] ["system"] (aw iu):=by walk_at "d"
theorem kn (T:Txt K mg Z):cZ P w K mg base jT 5 Z.mz Z.me ["system"] (xP K Z.a_System):=by
 refine T.iI.ok cV (λvs H Q E h=>?_) (λcdv A outer s H vs Q E hr h=>?_)
 ·obtain ⟨x,H0,mv,pt,lk,M,rfl,_⟩:=h;rfl
 ·obtain ⟨x,H0,mv,pt,lk,M,rfl,S,D,hM,sM,k⟩:=h
  refine ⟨_,(au (aW (i:=1) cV.nd rfl (Or.inr rfl) (js (pv 0) rfl))
   (au (aW (i:=2) cV.nd rfl (Or.inr rfl) (dy (sZ T) hr T.oq T.mI.kp T.pR (aa (js (pv 0) rfl) ai)))
   (au (lQ 3 ["turn"] ["many"] [1] cV.nd rfl rfl (bV rfl T.range (aa (pv 1) ai)) (λ_=>(aM (i:=0) (show List.Nodup (α:=PySem.Str) ["turn","many"] by decide +kernel))) (λ_=>cu) (λ_=>(cv ["place"] [] [] (bV rfl T.range (aa (pv 1) ai)) (λ_=>(aM (i:=0) (show List.Nodup (α:=PySem.Str) ["place"] by decide +kernel))) (λ_=>cu) (λ_=>ah))))
   (au (aW (i:=4) cV.nd rfl (Or.inl rfl) ah)
   (au (aW (i:=5) cV.nd rfl (Or.inl rfl) ah)
   (au (aW (i:=6) cV.nd rfl (Or.inl rfl) (gY ai))
   (au (eC PassesOwn.never rfl (tS rfl T.range (aa ah (aa (bJ dZ (pv 1) ah) ai))) (aM (i:=7) cV.nd)
    (au (lQ 3 ["column"] ["move"] [2] cV.nd rfl rfl (dk (dy (uQ T) hr T.pj T.nG.kp T.qM (aa (pv 3) (aa (pv 4) ai)))) (λ_=>(aM (i:=0) (show List.Nodup (α:=PySem.Str) ["column","move"] by decide +kernel))) (λ_=>cu) (λ_=>(dy (vZ T) hr T.qH T.oV.kp T.sO (aa (bF (rl K (by rfl)) (pv 1) ah) (aa (pv 0) ai)))))
   (au (aW (i:=4) cV.nd rfl (Or.inl rfl) (bJ hE (rY oI (bW (wz rfl) (by rfl) T.sum PyProof.Rows.boot_sum (aa (cv ["place","column"] [] [] (o8 rfl T.enumerate (aa (pv 3) ai)) (λ_=>(rj K 2 (di (aM (i:=0) (show List.Nodup (α:=PySem.Str) ["place","column"] by decide +kernel)) (di (aM (i:=1) (show List.Nodup (α:=PySem.Str) ["place","column"] by decide +kernel)) lR)))) (λ_=>cu) (λ_=>(bF (je K (by rfl)) (pv 1) (pv 0)))) ai))) (pv 7)))
   (au (aW (i:=5) cV.nd rfl (Or.inl rfl) (bJ dI (pv 5) (bF cA (pv 2) ah)))
   (az (km (vX fB jy jx nY (pv 6) (aa (dy (yR T) hr T.tW T.sS.kp T.wC (aa (rY oI (pv 4)) (aa (pv 5) ai))) ai))))))))
   (az (bE (xf K rfl T.list rfl T.reversed (aa (pv 6) ai))))))))))),?_⟩
  refine bc (σ:=[some (.ref x),none,none,none,none,none,none,none]) rfl ?_;obtain ⟨dx,am,ap,al,gx,_,_,_,Gm,_,_⟩:=id S;have d1:=D.n8;obtain ⟨b0,sB⟩:=BX hM sM;have hT:=m5 (mv:=mv);have hw:=rG (mv:=mv) D.mw;have hsz:=xt hT hw d1 (xM hM);have hwd:=jg (n:=mv.length) hT;have fl:mv.flatten.length<=64:=Ec d1 λxs hx=>by rw[D.mw xs hx];exact d1
  walk_at "w";refine ⟨x,Z.a_System,dx,_,_,rfl,gx,T.cl_System,T.na_states,rK,?_⟩;walk_at "w";refine ⟨x,Z.a_System,dx,_,_,rfl,gx,T.cl_System,T.na_move,rL,?_⟩;walk_at "w";refine ⟨am,H0,mv,M,rfl,Gm,by lia,by lia,λxs hx=>by rw[D.mw xs hx];lia,hM,λt tp H1 g1 s1 G1=>?_⟩;walk_at "w";refine ⟨by lia,by lia,?_⟩;refine iG (n:=mv.length) (λi ys H'=>aF H1 H'/\Paired (RI H') (List.replicate i (List.replicate mv.length 0)) ys) (bI (bT (by lia))) ⟨aF.refl _,.nil⟩ ?_ ?_
  ·rintro i ys H' hi hlen ⟨s',pr⟩;walk_at "w";refine ⟨by lia,by lia,?_⟩;refine iG (n:=mv.length) (λi ys H2=>aF H' H2/\ys=(List.replicate i (0:Int)).map V.int) (bI (bT (by lia))) ⟨aF.refl _,rfl⟩ ?_ ?_
   ·rintro i2 ys2 H2 hi2 hl2 ⟨s2,rfl⟩;walk_at "w";exact ⟨s2,by rw[mW];simp⟩
   rintro ys2 H2 hy2 ⟨s2,rfl⟩ l2 hl2;have sn:aF H2 (upd H2 l2 (.lst ((List.replicate mv.length (0:Int)).map V.int))):=aF.new hl2;refine ⟨s'.trans (s2.trans sn),?_⟩;rw[mW];exact cP (Paired.imp' (λ_ _ z=>RI.same z (s2.trans sn)) pr) (.cons ⟨l2,rfl,aE⟩ .nil)
  rintro ys H2 hy ⟨s2,pr⟩ cp hcp;have sn:aF H2 (upd H2 cp (.lst ys)):=aF.new hcp;have gc:(upd H2 cp (.lst ys)) cp=some (.lst ys):=aE;generalize upd H2 cp (.lst ys)=H3 at sn gc ⊢;have s13:=s2.trans sn;have Gc:GI H3 cp (bQ (dg mv) mv.length 0).1:=⟨ys,gc,Paired.imp' (λ_ _ z=>RI.same z sn) pr⟩;walk_at "w";refine fg λwl H4 s4 n4 g4=>?_
  have Gc4:=Gc.same s4;have ncp:∀q,H3 q≠none->q≠wl:=λq h z=>h (by rw[z];exact n4)
  have Gw:zk wl H4 cp (bQ (dg mv) mv.length 0).1:=Gc.away ncp s4;have g14:=(s13.trans s4) _ _ g1;have G14:=G1.same (s13.trans s4);clear Gc4;walk_at "w";refine ⟨⟨by lia,by lia,by lia,by lia⟩,?_⟩;refine qp (lo:=1) (n:=(((mv.length:Int)+1) - 1).toNat) (λi σ' H'=>aF H3 H'/\∃cp us y,σ'=[some (.ref x),some (.int mv.length),some (.ref t),some (.ref cp),some (.int (bQ (dg mv) mv.length i).2),some (.int (cU mv^i)),some (.ref wl),y]/\zk wl H' cp (bQ (dg mv) mv.length i).1/\H' wl=some (.lst us)/\Paired (bO K H') ((List.range i).map λk=>-(wL (dg mv) mv.length (cU mv:Rat) (k+1))) us) ⟨s4,cp,[],none,by rw[aJ];rfl,Gw,g4,.nil⟩ ?_ ?_
  ·rintro i σ' H5 hi ⟨s5,cp5,us,y,rfl,G5,gw5,pr5⟩;have i8:i < mv.length:=by lia
   have g5:=(s13.trans s5) _ _ g1;have GT5:=G1.same (s13.trans s5);obtain ⟨z1,z2,z3⟩:=hsz i;obtain ⟨w1,w2⟩:=hwd i;have lu:=pr5.length;rw[aj,aI] at lu;rw[show ((1:Int)+(i:Int))=((i+1:Nat):Int) by lia];have b78:i*(8800+17)<=8*(8800+17):=aR _ (by lia);walk_at "w";refine ⟨cp5,_,_,rfl,G5.gi,by lia,λl hl=>by rw[w2 l hl];lia,λmp H6 nm6 s6 G6=>?_⟩;obtain ⟨ms,gm6,qm6⟩:=id G6;have lm6:=qm6.length;rw[gJ,w1] at lm6;have gw6:=s6 _ _ gw5;have g6:=s6 _ _ g5;walk_at "w";refine ⟨⟨_,b6.of gm6⟩,?_⟩;refine gK (K:=K) (as:=bM (bQ (dg mv) mv.length i).2 0 (bQ (dg mv) mv.length i).1) (F:=RI) (FV H6) (hJ (dg mv)) gm6 qm6 (by rw[gJ];lia) (λh s=>h.same s) (λh s=>h.same s) ?_ ?_
   ·rintro j c v H' NY NN ec s' ⟨u,rfl,gu⟩ k1;have mc:=av ec;obtain ⟨lc,sc⟩:=z3 c mc;have g':=s' _ _ g6;walk_at "w";exact ⟨tp,u,dg mv,c,8800,_,rfl,(GT5.same s6).same s',gu,λl hl=>by rw[hw l hl,lc],by lia,by lia,xM hM,sc,by lia,λr H2 nr s2 gr=>k1 _ _ s2 ⟨r,rfl,s'.none nr,gr⟩⟩
   rintro ys7 H7 cp7 n7 s7 g7 pr7 _;have gw7:=s7 _ _ gw6;have s57:=s6.trans s7;have c7:cp7≠wl:=λz=>by rw[<- z,n7] at gw6;cases gw6
   have G7:zk wl H7 cp7 (bQ (dg mv) mv.length (i+1)).1:=⟨c7,ys7,g7,Paired.imp' (λ_ _ ⟨q,e,n,g⟩=>⟨q,e,(λz=>by rw[<- z,n] at gw6;cases gw6),g⟩) pr7⟩;have ly7:=pr7.length;rw[aj,gJ,w1] at ly7;obtain ⟨zz1,zz2,_⟩:=hsz (i+1);obtain ⟨ww1,ww2⟩:=hwd (i+1);walk_at "w";refine ⟨⟨_,b6.of g7⟩,?_⟩;refine qq (K:=K) (xs:=ys7) (λj ys H'=>aF H7 H'/\ys=List.map V.int (List.take j (((bQ (dg mv) mv.length (i+1)).1.zipIdx 0).map λx=>x.1.getD x.2 0))) (bI (bT (by lia))) ⟨aF.refl _,rfl⟩ (λi ys H' _ ⟨s,_⟩=>b6.of (s _ _ g7)) ?_ ?_
   ·rintro j v ys8 H8 r8 hv hl8 ⟨s8,rfl⟩ hr8;have jl:=(aO.mp hv).1;obtain ⟨c,ec,q,rfl,_,gq⟩:=df pr7 hv;have ec:(bQ (dg mv) mv.length (i+1)).1[j]?=some c:=ec;have lc:=ww2 c (av ec);have sr:aF H8 (upd H8 r8 (.tup [.int j,.ref q])):=aF.new hr8;have gr:(upd H8 r8 (.tup [.int j,.ref q])) r8=some (.tup [.int j,.ref q]):=aE;generalize upd H8 r8 (.tup [.int j,.ref q])=H9 at sr gr ⊢;have s79:=s8.trans sr;walk_at "w";refine cO (b6.of (s79 _ _ gq)) (Ey (c:=j) (by lia)) ?_;refine ⟨s79,?_⟩
    have ez:(((bQ (dg mv) mv.length (i+1)).1.zipIdx 0).map λx=>x.1.getD x.2 0)[j]?=some (c.getD j 0):=by
     rw[aD,List.getElem?_zipIdx,ec,oh];rfl
    rw[take_snoc ez];simp
   rintro ys8 H8 hy8 ⟨s8,rfl⟩ l8 hl8;have sn8:aF H8 (upd H8 l8 (.lst (List.map V.int (List.take ys7.length (((bQ (dg mv) mv.length (i+1)).1.zipIdx 0).map λx=>x.1.getD x.2 0))))):=aF.new hl8;have gn8:(upd H8 l8 (.lst (List.map V.int (List.take ys7.length (((bQ (dg mv) mv.length (i+1)).1.zipIdx 0).map λx=>x.1.getD x.2 0))))) l8=some (.lst (List.map V.int (((bQ (dg mv) mv.length (i+1)).1.zipIdx 0).map λx=>x.1.getD x.2 0))):=by rw[aE,aV (by rw[aj,List.length_zipIdx];lia)]
   generalize upd H8 l8 (.lst (List.map V.int (List.take ys7.length (((bQ (dg mv) mv.length (i+1)).1.zipIdx 0).map λx=>x.1.getD x.2 0))))=H9 at sn8 gn8 ⊢;have s79:=s8.trans sn8;have s59:=s57.trans s79;walk_at "w";refine ⟨l8,_,rfl,b6.of gn8,?_⟩;rw[<- xK];walk_at "w";refine gW (show mU _ _ from ⟨by lia,?_⟩) ?_
   ·show ((i+1:Nat):Int).natAbs < 2^8999
    rw[ck];exact aP (show i+1 < 2^4 by lia) (ao (by decide) (by decide))
   have g9:=s59 _ _ g5;have e9:(-(dH 0 (bQ (dg mv) mv.length (i+1)).1)).fdiv ((i+1:Nat):Int)=(bQ (dg mv) mv.length (i+1)).2:=rfl;rw[e9];walk_at "w";refine gW (show kW _ _ from .inr ⟨_,_,wX sB i,sB,by lia⟩) ?_;rw[<- aK,show Nat.succ i=i+1 from rfl];have gw9:=s79 _ _ gw7;have sp9:=wX sB (i+1);have p9:0 < cU mv^(i+1):=Int.pow_pos b0;walk_at "w";refine ⟨.inl ⟨rfl,_,b6.of gw9⟩,?_⟩;walk_at "w";refine ⟨_,_,rfl,by lia,sp9.mono (by lia),λra Ha sa ga=>?_⟩;rw[if_neg (by lia),if_neg (by lia)] at ga;have na:bO K Ha (-(wL (dg mv) mv.length (cU mv:Rat) (i+1))) (.ref ra):=bO.mk ga (zq b0);have gwa:=sa _ _ gw9;walk_at "w";refine nV gwa (bT (by lia)) ?_;refine ⟨(s5.trans (s59.trans sa)).after n4,cp7,_,_,rfl,(G7.same (s79.trans sa)).updL,aE,?_⟩;rw[sV,jP];exact cP (Paired.imp' (λ_ _ z=>bO.updL (bO.same z (s59.trans sa)) gwa) pr5) (.cons (na.updL gwa) .nil)
  rintro σ' H5 ⟨s5,cp5,us,y,rfl,G5,gw5,pr5⟩;rw[show (((mv.length:Int)+1) - 1).toNat=mv.length by lia] at pr5;have lu:=pr5.length;rw[aj,aI] at lu;walk_at "w";unfold vC;walk_at "w";refine ⟨wl,us,rfl,b6.of gw5,by lia,λL H6 s6 nL gL=>?_⟩;have s06:=(s1.trans s13).trans (s5.trans s6);exact k L H6 ((s1.trans (s13.trans s5)).none nL) s06 ⟨us.reverse,gL,oM (Paired.imp' (λ_ _ z=>bO.same z s6) pr5)⟩
theorem kh:bx ["_law_thing","_law_part"] ["_law_thing"] (aw dt):=by walk_at "d"
theorem pe (T:Txt K mg Z):cZ P w K mg base jT 2 Z.fy Z.fk ["_law_thing"] (yJ K):=by
 refine T.iK.ok kh (λvs H Q E h=>?_) (λcdv A outer s H vs Q E hr h=>?_)
 ·obtain ⟨x,n,rfl,_⟩:=h;rfl
 ·obtain ⟨x,n,rfl,⟨p,rfl,hp⟩,hn,k⟩:=h
  refine ⟨_,(au (dq (PW.pt (lG (jY (jr (rk rfl T.isinstance PyProof.Rows.boot_tuple T.tuple (pv 0)))) (jo (be tT (bW bU (by rfl) T.len bZ (aa (pv 0) ai)) ah (bo _))))) (az (bE qC)) bY)
   (au (eC PassesOwn.never rfl (DT (pv 0)) (aM (i:=1) kh.nd)
    (az (dq (PW.pt (lG (jY (jr (rk rfl T.isinstance PyProof.Rows.boot_int T.int (pv 1)))) (jo (jr (rk rfl T.isinstance PyProof.Rows.boot_bool T.bool (pv 1)))))) (az (bE qC)) bY)))
   (az (bE (uO (gZ qF (bF cA (pv 0) ah) ah (bo _)) (uL (gZ (uP (xm hr)) (dy (gI T) hr T.eU T.eY.kp T.fV (aa (bF cA (pv 0) ah) (aa (bF cA (pv 0) ah) ai))) (pv 0) (bo _)))))))),?_⟩
  refine bc (σ:=[some (.ref p),none]) rfl ?_;obtain ⟨hb,hg,_,hs⟩:=hn;walk_at "w";refine .inr ⟨p,_,_,rfl,hp,rfl,?_⟩;walk_at "w";refine ⟨_,_,rfl,.inr hp,?_⟩;walk_at "w"
  try refine BJ ?_
  walk_at "w";refine ⟨⟨_,hp⟩,?_⟩;refine BM (K:=K) (a:=p) (xs:=[.int n.1,.int n.2]) (λi σ' H'=>H'=H/\∃x,σ'=[some (.ref p),x]) ⟨rfl,none,rfl⟩ (λi σ' H' _ ⟨e,_⟩=>by subst e;exact hp) ?_ ?_
  ·rintro i x σ' H' hx ⟨rfl,y,rfl⟩
   obtain ⟨z,rfl⟩:∃z,x=V.int z:=by
    have hm:x∈[V.int n.1,V.int n.2]:=av hx;simp only[aN,bH,or_false] at hm;rcases hm with e | e
    ·exact ⟨_,e⟩
    ·exact ⟨_,e⟩
   walk_at "w";refine .inl ⟨_,_,.int z,rfl,?_⟩;walk_at "w";refine .inl ⟨_,_,.int z,rfl,?_⟩;walk_at "w";exact ⟨rfl,_,rfl⟩
  ·rintro σ' H' ⟨rfl,x,rfl⟩;walk_at "w";rw[decide_eq_true hb];walk_at "w";refine ⟨n.1,n.2,rfl,hb,hs.mono (by decide),λr H' s1 h'=>?_⟩;obtain ⟨e1,e2⟩:=D5 hb hg;walk_at "w";refine ⟨_,_,Fd,(lo n.1 n.2,hi n.1 n.2),n,by decide,⟨r,rfl,oj.of h'⟩,⟨p,rfl,s1.sqt hp⟩,?_⟩;rw[e1,e2,decide_eq_true rfl];exact k _ s1
theorem rT:bx ["_law_thing","_law_many"] ["_law_thing","_law_many"] (aw ef):=by walk_at "d"
theorem sA (T:Txt K mg Z):cZ P w K mg base jT 3 Z.iX Z.iO ["_law_thing","_law_many"] (p5 K):=by
 refine T.lD.ok rT (λvs H Q E h=>?_) (λcdv A outer s H vs Q E hr h=>?_)
 ·obtain ⟨p,ns,rfl,_⟩:=h;rfl
 ·obtain ⟨p,ns,rfl,hp,hl,hn,k⟩:=h
  refine ⟨_,(au (dq (PW.pt (lG (jY (jr (rZ rfl T.isinstance PyProof.Rows.boot_list T.list (pv 0)))) (jo (be tT (bW bU (by rfl) T.len bZ (aa (pv 0) ai)) (pv 1) (bo _))))) (az (bE qC)) bY)
   (az (bE (bW (wA rfl) (by rfl) T.all PyProof.Rows.boot_all (aa (cv ["_law_one"] [] [] (dk (pv 0)) (λ_=>(aM (i:=0) (show List.Nodup (α:=PySem.Str) ["_law_one"] by decide +kernel))) (λ_=>cu) (λ_=>(dy (pe T) hr T.ko T.iK.kp T.lM (aa (pv 0) ai)))) ai))))),?_⟩
  refine bc (σ:=[some (.ref p),some (.int ns.length)]) rfl ?_;obtain ⟨xs,gx,qx⟩:=id hp;have lx:=qx.length;walk_at "w";refine ⟨_,_,.lst gx,rfl,?_⟩;walk_at "w";refine ⟨_,_,rfl,.inl (b6.of gx),?_⟩;walk_at "w";rw[show ((xs.length:Nat):Int)=(ns.length:Nat) by rw[lx],decide_eq_true rfl];walk_at "w";refine ⟨⟨_,b6.of gx⟩,?_⟩;refine iH (K:=K) (xs:=xs) (λi ys H'=>aF H H'/\ys=List.replicate i (.bl true)) (bI (bT (by lia))) ⟨aF.refl _,rfl⟩ (λi ys H' _ ⟨s,_⟩=>b6.of (s _ _ gx)) ?_ ?_
  ·rintro i x ys H' hx hlen ⟨s,rfl⟩;obtain ⟨n,en,z⟩:=df qx hx;walk_at "w";exact ⟨x,n,rfl,s.num z,hn n (av en),λH2 s2=>⟨s.trans s2,by rw[mW]⟩⟩
  ·rintro ys H' hy ⟨s,rfl⟩ l hl';walk_at "w";refine ⟨l,List.replicate xs.length true,rfl,b6.of (by rw[aE];simp),?_⟩;have e4:(List.replicate xs.length true).all id=true:=by simp
   rw[e4];exact k _ (s.trans (aF.new hl'))
theorem dW:bx ["_law_move_here","_law_wish_here","_law_n","_law_power","_law_total","_law_k"] ["_law_move_here","_law_wish_here"] (aw gG):=by walk_at "d"
theorem uX (T:Txt K mg Z):cZ P w K mg base jT 5 Z.kS Z.kE ["_law_move_here","_law_wish_here"] (tK K):=by
 refine T.nP.ok dW (λvs H Q E h=>?_) (λcdv A outer s H vs Q E hr h=>?_)
 ·obtain ⟨p,w,H0,mv,ws,rfl,_⟩:=h;rfl
 ·obtain ⟨p,w,H0,mv,ws,rfl,G,Rw,hw,n8,lw,KS,eq,k⟩:=h
  refine ⟨_,(au (aW (i:=2) dW.nd rfl (Or.inr rfl) (bW bU (by rfl) T.len bZ (aa (pv 0) ai)))
   (au (aW (i:=3) dW.nd rfl (Or.inr rfl) (cv ["_law_i"] ["_law_n"] [2] (bV rfl T.range (aa (pv 2) ai)) (λ_=>(aM (i:=0) (show List.Nodup (α:=PySem.Str) ["_law_i","_law_n"] by decide +kernel) rfl (Or.inr rfl) (Or.inl rfl))) (λ_=>cu) (λ_=>(cv ["_law_j"] ["_law_i"] [0] (bV rfl T.range (aa (pv 1) ai)) (λ_=>(aM (i:=0) (show List.Nodup (α:=PySem.Str) ["_law_j","_law_i"] by decide +kernel))) (λ_=>cu) (λ_=>(cW (aa (iF oa (by rfl) T.int PyProof.Rows.boot_int (aa (gZ eR (pv 1) (pv 0) (bo _)) ai)) (aa ah ai))))))))
   (au (aW (i:=4) dW.nd rfl (Or.inr rfl) (cv ["_law_k"] ["_law_n"] [2] (bV rfl T.range (aa (pv 2) ai)) (λ_=>(aM (i:=0) (show List.Nodup (α:=PySem.Str) ["_law_k","_law_n"] by decide +kernel))) (λ_=>cu) (λ_=>(bJ z5 (gY (aa (cW (aa ah (aa ah ai))) ai)) (pv 1)))))
   (au (eC PassesOwn.never rfl (bV rfl T.range (aa (pv 2) ai)) (aM (i:=5) dW.nd rfl (Or.inr rfl) (Or.inl rfl))
    (au (aW (i:=4) dW.nd rfl (Or.inr rfl) (cv ["_law_i"] ["_law_total","_law_wish_here","_law_k","_law_power"] [4,1,5,3] (bV rfl T.range (aa (pv 2) ai)) (λ_=>(aM (i:=0) (show List.Nodup (α:=PySem.Str) ["_law_i","_law_total","_law_wish_here","_law_k","_law_power"] by decide +kernel))) (λ_=>cu) (λ_=>(dy (pd T) hr T.lX T.kT.kp T.nC (aa (bF (je K (by rfl)) (pv 1) (pv 0)) (aa (dy (sC T) hr T.oR T.og.kp T.qt (aa (bF (je K (by rfl)) (pv 2) (pv 3)) (aa (bF (je K (by rfl)) (pv 4) (pv 0)) ai))) ai))))))
   (az (aW (i:=3) dW.nd rfl (Or.inr rfl) (dy (jt T) hr T.fG T.eX.kp T.ia (aa (pv 0) (aa (pv 3) ai)))))))
   (az (bE (gZ (uP (xm hr)) (pv 4) (pv 3) (bo _)))))))),?_⟩
  refine bc (σ:=[some (.ref p),some (.ref w),none,none,none,none]) rfl ?_;obtain ⟨xs,gx,qx,_⟩:=id G;have lx:=qx.length;have lU:∀j:Nat,(oi mv.length j).length=mv.length:=λj=>by unfold oi;rw[aj,aI]
  have szp:∀j,j < mv.length->∀t,t<=mv.length->∀i,qU (qV mv t i j)/\(∀s,qU (ws.getD s 0*qV mv t i j))/\(∀s,qU (ws.getD s 0))/\∀m,m<=8->m<=mv.length+1->qU (aY m λs=>ws.getD s 0*qV mv s i j):=λj hj t ht i=>by
   obtain ⟨M,W,Dd,Bb,M0,D0,W1,B1,tM,tD,b1,b2,fit⟩:=KS j hj;have WB:W<=W*Bb:=cR _ B1;have BW:Bb<=W*Bb:=kY _ W1;have MD:M<=M*Dd:=cR _ D0;have DM:Dd<=M*Dd:=kY _ M0;have p39:(2:Nat)^3990<=2^3995:=ao (by decide) (by decide);have tP:∀s,s<=2*mv.length+2->Tp M W (qV mv s i j):=λs hs=>uy (tM s hs) i
   have tQ:∀s s',s'<=2*mv.length+2->Tp (M*Dd) (W*Bb) (ws.getD s 0*qV mv s' i j):=λs s' hs=>by rw[rA];exact (tP s' hs).mul (uy tD s)
   refine ⟨m7 (tP t (by lia)) M0 (by lia) (by lia),λs=>m7 (tQ s t (by lia)) (kb M0 D0) (by lia) (by lia),λs=>m7 (uy tD s) D0 (by lia) (by lia),λm hm hm'=>?_⟩;have t:=Tp.sum (k:=m) (M:=M*Dd) (W:=W*Bb) (f:=λs=>ws.getD s 0*qV mv s i j) λs hs=>tQ s s (by lia)
   have:m*(W*Bb)<=128*(W*Bb):=aR _ (by lia);exact m7 t (kb M0 D0) (by lia) (by lia)
  have fitP:∀t,t<=mv.length->∀xs∈mv,∀j,j < mv.length->Ay xs ((List.range mv.length).map λl=>qV mv t l j):=λt ht xs hx j hj=>by
   obtain ⟨_,_,_,_,_,_,_,_,_,_,_,_,fit⟩:=KS j hj;have:=fit t (by lia) xs hx;rwa [show ((List.range mv.length).map λl=>qV mv t l j)=qZ mv (oi mv.length j) t from yW (lP (lU j) t)]
  walk_at "w";refine ⟨_,_,rfl,.inl (b6.of gx),?_⟩;rw[<- lx];walk_at "w";refine ⟨by lia,by lia,?_⟩;refine fo (n:=mv.length) (cN K H) (λi=>(List.range mv.length).map λj=>qV mv 0 i j) (by lia) (λh s=>h.same s) ?_ ?_
  ·rintro i H1 NY NN hi s1 k1;walk_at "w";refine ⟨by lia,by lia,?_⟩;refine fo (n:=mv.length) (bO K) (λj=>qV mv 0 i j) (by lia) (λh s=>h.same s) ?_ ?_
   ·rintro j H2 NY2 NN2 hj s2 k2;walk_at "w";refine b8 λt3 H3 s3 g3=>?_
    refine k2 _ _ s3 (bO.mk g3 ?_);exact AM hi
   rintro ys3 H3 l3 hl3 s3 g3 pr3 _;exact k1 _ _ s3 ⟨l3,rfl,s1.none hl3,⟨ys3,g3,pr3⟩⟩
  rintro ys1 H1 pp n1 s1 g1 pr1 nx1;have G1:cg K H H1 pp (cX mv.length (qV mv 0)):=⟨ys1,g1,pr1,ph nx1⟩;walk_at "w";refine ⟨by lia,by lia,?_⟩;refine fo (n:=mv.length) (cN K H) (λi=>(List.range mv.length).map λj=>aY 0 λs=>ws.getD s 0*qV mv s i j) (by lia) (λh s=>h.same s) ?_ ?_
  ·rintro i H2 NY NN hi s2 k2;walk_at "w";refine b8 λt3 H3 s3 g3=>?_
   walk_at "w";refine fg λl4 H4 s4 n4 g4=>?_
   walk_at "w";refine zP g4 (by lia) λl5 H5 s5 n5 g5=>?_
   refine k2 _ _ ((s3.trans s4).trans s5) ⟨l5,rfl,(s1.trans s2).none (s3.none (s4.none n5)),?_⟩;show d4 K H5 l5 ((List.range mv.length).map λ_=>(0:Rat))
   rw[wb];exact ⟨_,g5,oN (bO.mk (q:=0) ((s4.trans s5) _ _ g3) rfl) mv.length⟩
  rintro ys2 H2 tp n2 s2 g2 pr2 nx2;have G2:cg K H H2 tp (cX mv.length λi j=>aY 0 λs=>ws.getD s 0*qV mv s i j):=⟨ys2,g2,pr2,ph nx2⟩;have s02:=s1.trans s2;walk_at "w";refine ⟨by lia,by lia,?_⟩;refine fS (n:=mv.length) (λm σ' H'=>aF H H'/\∃pp tp y,σ'=[some (.ref p),some (.ref w),some (.int mv.length),some (.ref pp),some (.ref tp),y]/\cg K H H' pp (cX mv.length (qV mv m))/\cg K H H' tp (cX mv.length λi j=>aY m λs=>ws.getD s 0*qV mv s i j)) ⟨s02,pp,tp,_,rfl,G1.same s2,G2⟩ ?_ ?_
  ·rintro m σ' H3 hm ⟨s3,pp,tp,y,rfl,GP,GT⟩;obtain ⟨us,gu,qu,_⟩:=id GP;obtain ⟨vs,gv,qv,_⟩:=id GT;have lu:=qu.length;have lv:=qv.length;rw[dB] at lu lv;obtain ⟨wv,gw,qw⟩:=Rw.same s3;walk_at "w";refine ⟨by lia,by lia,?_⟩;refine fo (n:=mv.length) (cN K H) (λi=>(List.range mv.length).map λj=>aY (m+1) λs=>ws.getD s 0*qV mv s i j) (by lia) (λh s=>h.same s) ?_ ?_
   ·rintro i H4 NY NN hi s4 k4;have e1:=ak (show i < vs.length by lia);obtain ⟨r1,er1,q1,eq1,_,R1⟩:=df qv e1;rw[eq1] at e1;rw[nA hi] at er1;have er1:=bf er1;subst er1;have e2:=ak (show i < us.length by lia);obtain ⟨r2,er2,q2,eq2,_,R2⟩:=df qu e2;rw[eq2] at e2;rw[nA hi] at er2;have er2:=bf er2;subst er2;obtain ⟨vx,ex,nx⟩:=yY (Paired.imp' (λ_ _ z=>bO.same z s4) qw) (show m < ws.length by lia);walk_at "w";refine cO (b6.of (s4 _ _ gv)) (iT e1) ?_;walk_at "w";refine cO (b6.of (s4 _ _ gw)) ex ?_;walk_at "w";refine cO (b6.of (s4 _ _ gu)) (iT e2) ?_;walk_at "w";refine ⟨_,q2,_,_,rfl,nx,(szp i hi 0 (by lia) 0).2.2.1 m,R2.same s4,by rw[aj,aI];lia,λz hz=>?_,λr5 H5 n5 s5 R5=>?_⟩
    ·obtain ⟨j,hj,rfl⟩:=aG.mp hz;exact (szp j (cK.mp hj) m (by lia) i).1
    walk_at "w";refine ⟨q1,r5,_,_,rfl,(R1.same s4).same s5,R5,by rw[aj,aj,aj],by rw[aj,aI];lia,λz hz=>?_,λz hz=>?_,λr6 H6 n6 s6 R6=>?_⟩
    ·obtain ⟨j,hj,rfl⟩:=aG.mp hz;exact (szp j (cK.mp hj) m (by lia) i).2.2.2 m (by lia) (by lia)
    ·obtain ⟨z',hz',rfl⟩:=aG.mp hz;obtain ⟨j,hj,rfl⟩:=aG.mp hz';exact (szp j (cK.mp hj) m (by lia) i).2.1 m
    refine k4 _ _ (s5.trans s6) ⟨r6,rfl,(s3.trans s4).none (s5.none n6),?_⟩;rw[wR (m:=0)] at R6;exact R6
   rintro ys5 H5 tp5 n5 s5 g5 pr5 nx5;have s35:=s3.trans s5;have GT5:cg K H H5 tp5 (cX mv.length λi j=>aY (m+1) λs=>ws.getD s 0*qV mv s i j):=⟨ys5,g5,pr5,ph nx5⟩;walk_at "w";refine ⟨p,pp,mv.length,H0,H,mv,_,rfl,G.same s35,GP.same s5,rfl,hw,by lia,fitP m (by lia),λpq ys6 H6 n6 s6 g6 nd6 pr6 nn6=>?_⟩;have e6:(cX mv.length λi j=>aY mv.length λl=>fH mv i l*qV mv m l j)=cX mv.length (qV mv (m+1)):=jf λi j hi hj=>(xO hw (lU j) hi).symm
   rw[e6] at pr6;walk_at "w";refine ⟨s35.trans s6,pq,tp5,_,rfl,⟨ys6,g6,Paired.imp' (λ_ _ z=>cN.weak z s35) pr6,nn6⟩,GT5.same s6⟩
  rintro σ' H3 ⟨s3,pp,tp,y,rfl,GP,GT⟩;rw[jf eq] at GT;walk_at "w";refine ⟨_,_,xl,_,_,by decide,GT.kind,GP.kind,?_⟩;rw[decide_eq_true rfl];exact k _ s3
theorem rS:bx ["grid","wide"] ["grid","wide"] (aw d9):=by walk_at "d"
theorem sv (T:Txt K mg Z):cZ P w K mg base jT 1 Z.iU Z.iL ["grid","wide"] (vG K):=by
 refine T.lB.ok rS (λvs H Q E h=>?_) (λcdv A outer s H vs Q E hr h=>?_)
 ·obtain ⟨p,w,H0,rows,rfl,_⟩:=h;rfl
 ·obtain ⟨p,w,H0,rows,rfl,hp,hz,hw,hl,kk⟩:=h;refine ⟨_,(az (bE (cv ["place"] ["grid"] [0] (bV rfl T.range (aa (pv 1) ai)) (λ_=>(aM (i:=0) (show List.Nodup (α:=PySem.Str) ["place","grid"] by decide +kernel) rfl (Or.inr rfl) (Or.inl rfl))) (λ_=>cu) (λ_=>(cv ["line"] ["place"] [0] (vW K (pv 1)) (λ_=>(aM (i:=0) (show List.Nodup (α:=PySem.Str) ["line","place"] by decide +kernel))) (λ_=>cu) (λ_=>(bF (je K (by rfl)) (pv 0) (pv 1)))))))),?_⟩;refine bc (σ:=[some (.ref p),some (.int w)]) rfl ?_;walk_at "w";refine ⟨by lia,by lia,?_⟩;refine fo (n:=w) (cN K H) (λj=>rows.map λxs=>xs.getD j 0) hw (λa b=>a.same b) ?_ ?_
  ·rintro j H1 NY NN hj s1 k1;obtain ⟨xs,gx,qx,_⟩:=hp.same s1;walk_at "w";refine ⟨⟨_,b6.of gx⟩,?_⟩;refine gK (K:=K) (F:=cN K H0) (bO K) (λxs=>xs.getD j 0) gx qx hz (λa b=>a.same b) (λa b=>a.same b) ?_ ?_
   ·rintro i ns x H2 NY2 NN2 en s2 ⟨u,rfl,_,zs,gz,qz⟩ k2;obtain ⟨v,ev,hv⟩:=yY qz (j:=j) (by rw[hl ns (av en)];exact hj);walk_at "w";refine cO (b6.of gz) ev ?_;exact k2 _ _ (aF.refl _) hv
   ·rintro ys' H2 r hr s2 g pr nx;exact k1 _ _ s2 ⟨r,rfl,s1.none hr,ys',g,pr⟩
  ·rintro ys' H1 r hr s1 g pr nx;exact kk r H1 hr s1 ⟨ys',g,pr,ph nx⟩
theorem p8:bx ["self"] ["self"] (aw dA):=by walk_at "d"
theorem qh (T:Txt K mg Z):cZ P w K mg base jT 7 Z.fL Z.fJ ["self"] (rM K Z.a_System):=by
 refine T.mS.ok p8 (λvs H Q E h=>?_) (λcdv A outer s H vs Q E hr h=>?_)
 ·obtain ⟨x,H0,mv,pt,lk,rfl,_⟩:=h;rfl
 ·obtain ⟨x,H0,mv,pt,lk,rfl,S,D,F,k⟩:=h;refine ⟨_,(az (bE (uM T.mk_System (fQ T) (hr.mono (by decide)) rfl T.mg_System T.eJ .nil vY (aa (dy (sv T) hr T.nk T.lB.kp T.oy (aa (js (pv 0) rfl) (aa (js (pv 0) rfl) ai))) (aa (js (pv 0) rfl) (aa (js (pv 0) rfl) ai)))))),?_⟩;refine bc (σ:=[some (.ref x)]) rfl ?_;obtain ⟨dx,a,b,c,gx,n1,n2,n3,Ga,Gb,Gc⟩:=id S;have d1:=D.n8;walk_at "w";refine ⟨x,Z.a_System,dx,_,_,rfl,gx,T.cl_System,T.na_move,rL,?_⟩;walk_at "w";refine ⟨x,Z.a_System,dx,_,_,rfl,gx,T.cl_System,T.na_states,rK,?_⟩;walk_at "w";refine ⟨a,mv.length,H0,mv,rfl,Ga,by lia,by lia,D.mw,λt H1 nt s1 Gt=>?_⟩;have gx1:=s1 _ _ gx;walk_at "w";refine ⟨x,Z.a_System,dx,_,_,rfl,gx1,T.cl_System,T.na_look,zB,?_⟩;walk_at "w";refine ⟨x,Z.a_System,dx,_,_,rfl,gx1,T.cl_System,T.na_put,AS,?_⟩;walk_at "w";intro x' dx' nx ndx nex;have F':=F.turn;exact ⟨x',dx',t,c,b,H1,H,H0,H0,_,_,_,rfl,nx,ndx,nex,rfl,Gt,Gc.same s1,Gb.same s1,D.turn,F'.ok.1,F'.ok.2.1,F'.ok.2.2,λH' s' S'=>⟨rfl,k x' H' (s1.none nx) (s1.trans s') (S'.weak s1)⟩⟩
theorem fO:bx ["_law_script","_law_bag_here","_law_n","_law_ins","_law_outs","_law_wide","_law_parts_here","_law_system","_law_due","_law_told","_law_last","_law_move_here"] ["_law_script"] (aw tL):=by walk_at "d"
theorem DY (T:Txt K mg Z):cZ P w K mg base jT 8 Z.Ax Z.Ao ["_law_script"] (rQ K):=by
 refine T.Dj.ok fO (λvs H Q E h=>?_) (λcdv A outer s H vs Q E hr h=>?_)
 ·obtain ⟨a0,ns,rfl,_⟩:=h;rfl
 ·obtain ⟨a0,ns,rfl,hS,hlen,k⟩:=h
  refine ⟨_,(au (aW (i:=1) fO.nd rfl (Or.inr rfl) (dy (v5 T) hr T.qJ T.oX.kp T.sQ (aa (pv 0) ai)))
   (au (fP (dy (td T) hr T.ot T.mK.kp T.pS (aa (pv 1) ai)) (uK rfl (di (aM (i:=2) fO.nd rfl (Or.inr rfl) (Or.inl rfl)) (di (aM (i:=3) fO.nd) (di (aM (i:=4) fO.nd) (di (aM (i:=5) fO.nd) lR))))))
   (au (aW (i:=2) fO.nd rfl (Or.inr rfl) (bW (n9 rfl) (by rfl) T.min PyProof.Rows.boot_min (aa (pv 2) (aa ah ai))))
   (au (aW (i:=6) fO.nd rfl (Or.inl rfl) (dy (tj T) hr T.ou T.mL.kp T.pT (aa (pv 1) (aa (pv 2) (aa (pv 3) (aa (pv 4) (aa (pv 5) ai)))))))
   (au (aW (i:=7) fO.nd rfl (Or.inl rfl) (dy (uW T) hr T.pE T.nO.kp T.qS (aa (pv 6) ai)))
   (au (aW (i:=8) fO.nd rfl (Or.inl rfl) (dy (uU T) hr T.pB T.nM.kp T.qQ (aa (bF cA (pv 6) ah) ai)))
   (au (aW (i:=9) fO.nd rfl (Or.inl rfl) (dy (kn T) hr T.jc T.iI.kp T.j9 (aa (pv 7) ai)))
   (au (dq (PW.pt (lG (jY (jr (dy (sA T) hr T.nv T.lD.kp T.oA (aa (pv 9) (aa (pv 2) ai))))) (lG (be (xg (xm hr)) (pv 9) (pv 8) (bo _)) (jo (jY (jr (dy (uX T) hr T.pF T.nP.kp T.qT (aa (bF cA (pv 6) ah) (aa (pv 9) ai))))))))) (az (bE qC)) bY)
   (au (km (vX fB jy jx nY (pv 9) (aa (cW (aa ah (aa ah ai))) ai)))
   (au (dq (PW.pt (lG (be (xg (xm hr)) (dy (kn T) hr T.jc T.iI.kp T.j9 (aa (pv 7) ai)) (pv 8) (bo _)) (jo (be (xg (xm hr)) (dy (kn T) hr T.jc T.iI.kp T.j9 (aa (z0 (pv 7) T.cl_System T.lJ (qh T) (hr.mono (by decide)) T.mR .nil vY) ai)) (pv 8) (bo _))))) (az (bE qC)) bY)
   (au (aW (i:=10) fO.nd rfl (Or.inl rfl) (dy (m9 T) hr T.jd T.iJ.kp T.ka (aa (pv 1) (aa (pv 2) (aa (pv 5) ai)))))
   (el (dq (be eR (dy (bD T) hr T.aX T.bg.kp T.bu (aa (pv 1) (aa ah ai))) ah (bo _)) (au (aW (i:=2) fO.nd rfl (Or.inr rfl) (bJ dZ ah (dy (bD T) hr T.aX T.bg.kp T.bu (aa (pv 1) (aa ah ai)))))
   (az (lQ 10 ["_law_k"] ["_law_bag_here"] [1] fO.nd rfl rfl (bV rfl T.range (aa (pv 2) ai)) (λ_=>(aM (i:=0) (show List.Nodup (α:=PySem.Str) ["_law_k","_law_bag_here"] by decide +kernel))) (λ_=>cu) (λ_=>(cW (aa (bJ lS (dy (bD T) hr T.aX T.bg.kp T.bu (aa (pv 1) (aa ah ai))) ah) (aa ah ai))))))) bY)
   (au (lQ 11 ["_law_i"] ["_law_n"] [2] fO.nd rfl rfl (bV rfl T.range (aa (pv 2) ai)) (λ_=>(aM (i:=0) (show List.Nodup (α:=PySem.Str) ["_law_i","_law_n"] by decide +kernel) rfl (Or.inr rfl) (Or.inl rfl))) (λ_=>cu) (λ_=>(cv ["_law_j"] ["_law_i"] [0] (bV rfl T.range (aa (pv 1) ai)) (λ_=>(aM (i:=0) (show List.Nodup (α:=PySem.Str) ["_law_j","_law_i"] by decide +kernel))) (λ_=>cu) (λ_=>(cW (aa (iF oa (by rfl) T.int PyProof.Rows.boot_int (aa (gZ eR (pv 0) (bJ dZ (pv 1) ah) (bo _)) ai)) (aa ah ai)))))))
   (el (dq (be qF (pv 2) ah (bo _)) (az (fP (iF pQ (by rfl) T.list PyProof.Rows.boot_list (aa (pv 10) ai)) (gX (pv 11) (bJ lS (pv 2) ah) set_list))) bY)
   (az (bE (uO (gZ (uP (xm hr)) (dy (kn T) hr T.jc T.iI.kp T.j9 (aa (uM T.mk_System (fQ T) (hr.mono (by decide)) rfl T.mg_System T.eJ .nil vY (aa (pv 11) (aa (gY ai) (aa (gY ai) ai)))) ai)) (pv 10) (bo _)) (uL (gZ (uP (xm hr)) (js (pv 7) rfl) (bF cA (pv 6) ah) (bo _)))))))))))))))))))),?_⟩
  refine bc (σ:=[some (.ref a0),none,none,none,none,none,none,none,none,none,none,none]) rfl ?_;walk_at "w";refine ⟨a0,ns,rfl,hS,hlen,λb H0 hb0 B0 s0=>?_⟩;walk_at "w";refine ⟨b,rfl,B0,λt1 n i o w H1 g1 n5 i4 o4 hw hn B1 u1=>?_⟩;walk_at "w"
  obtain ⟨n2,en,n4,nn⟩:∃n2:Nat,(if (4:Int) < (n:Int) then (4:Int) else (n:Int))=(n2:Int)/\n2<=4/\n2<=n:=by
   by_cases h:(4:Int) < n
   ·exact ⟨4,by rw[if_pos h];rfl,by lia,by lia⟩
   ·exact ⟨n,by rw[if_neg h],by lia,by lia⟩
  rw[en]
  obtain ⟨c,c20,wc,hc2,cn⟩:∃c,c<=20/\max w 6<=2^c/\(w<=9\/(n2<=2/\c=20))/\c*((n2+i+o)*n2)<=800:=by
   have a1:(n2+i+o)*n2<=12*4:=bB (by lia) n4;rcases hw with rfl | rfl | ⟨rfl,h2⟩
   ·exact ⟨4,by decide,by decide,.inl (by decide),by lia⟩
   ·exact ⟨4,by decide,by decide,.inl (by decide),by lia⟩
   ·have a2:(n2+i+o)*n2<=10*2:=bB (by lia) (by lia);exact ⟨20,by decide,by decide,.inr ⟨by lia,rfl⟩,by lia⟩
  refine ⟨b,n2,i,o,w,c,rfl,B1,by lia,i4,o4,by lia,by lia,wc,c20,cn,λr mv pt lk H2 P2 lm lp ll D PG B2 u2=>?_⟩;obtain ⟨mv83,SF⟩:=Gq PG lm n4 hc2 cn c20;clear PG;obtain ⟨Mz,hM,sM⟩:=wa mv83;have nw83:=mv83.turn;have lT:(gU mv mv.length).length=mv.length:=ip;obtain ⟨Mt,hMt,sMt⟩:=wa nw83;have FS:=BL mv83 D.mw;have eW:=rF (by lia) hM D.mw;have eT:=yB (by lia) hM hMt D.mw;have KS:∀j,j < mv.length->En mv (d6 mv mv.length) (oi mv.length j):=λj _=>yd mv83 D.mw xJ (by decide) (by decide) (by decide) Dl
  have lW:(d6 mv mv.length).length=mv.length:=jV
  have szx:∀y∈d6 mv mv.length,qU y:=λy hy=>by
   obtain ⟨M,W,Dd,Bb,M0,D0,W1,B1',tM,tD,b1,b2,_⟩:=yd (st:=List.replicate mv.length 0) (E:=1) (V0:=1) mv83 D.mw gT (by decide) (by decide) (by decide) λx hx=>by rw[jA hx];exact Fr.zero
   have p39:(2:Nat)^3990<=2^3995:=ao (by decide) (by decide);have BW:Bb<=W*Bb:=kY _ W1;have DM:Dd<=M*Dd:=kY _ M0;exact m7 (tD y hy) D0 (by lia) (by lia)
  obtain ⟨m0,p0,l0,gr,nm0,np0,nl0,Gm,_,_⟩:=id P2;walk_at "w";refine ⟨r,H1,mv,pt,lk,rfl,P2,D,SF,λx H3 nx s3 S3=>?_⟩;have gr3:=s3 _ _ gr;walk_at "w";refine ⟨m0,H1,mv,rfl,Gm.same s3,D.mw,by lia,FS,λdue H4 nd s4 R4=>?_⟩;rw[<- eW] at R4;have s24:=s3.trans s4;have gr4:=s24 _ _ gr;have S4:=S3.same s4;walk_at "w";refine ⟨x,H2,mv,pt,lk,Mz,rfl,S4,D,hM,sM,λwr H5 nw s5 R5=>?_⟩;walk_at "w";refine ⟨wr,(d6 mv mv.length).map nm,by rw[aj,lW,lm],R5.rowK,by rw[aj];lia,λy hy=>by obtain ⟨y',hy',rfl⟩:=aG.mp hy;exact Ds (szx y' hy'),λH6 s6=>?_⟩;have s46:=s5.trans s6;walk_at "w";refine ⟨_,_,tZ,_,_,by decide,(R5.same s6).kind,(R4.same s46).kind,?_⟩;rw[decide_eq_true rfl];have gr6:=s46 _ _ gr4;walk_at "w";refine ⟨m0,wr,H1,mv,d6 mv mv.length,rfl,(Gm.same s24).same s46,R5.same s6,D.mw,by lia,lW,KS,λi j hi _=>BH (by lia) hM D.mw hi,λH7 s7=>?_⟩;have s57:=s6.trans s7;obtain ⟨wv,gwv,qwv⟩:=R5.same s57;have lwv:=qwv.length;walk_at "w";refine ⟨.inl ⟨rfl,_,b6.of gwv⟩,?_⟩;walk_at "w";refine b8 λt8 H8 s8 g8=>?_
  have gw8:=s8 _ _ gwv;walk_at "w";refine nV gw8 (bT (by lia)) ?_;have s49:aF H4 (upd H8 wr (.lst (wv++[.ref t8]))):=((s5.trans s57).trans s8).after nw;generalize upd H8 wr (.lst (wv++[.ref t8]))=H9 at s49 ⊢;walk_at "w";refine ⟨x,H2,mv,pt,lk,Mz,rfl,S4.same s49,D,hM,sM,λw2 Ha n2' sa Ra=>?_⟩;have s4a:=s49.trans sa;walk_at "w";refine ⟨_,_,tZ,_,_,by decide,Ra.kind,(R4.same s4a).kind,?_⟩;rw[decide_eq_true rfl];walk_at "w";obtain ⟨dxa,_,_,_,gxa,_⟩:=S4.same s4a;refine ⟨x,dxa,_,rfl,gxa,wY,?_⟩;refine ⟨x,H2,mv,pt,lk,rfl,S4.same s4a,D,SF,λx2 Hb nb sb Sb=>?_⟩;walk_at "w";refine ⟨x2,Ha,gU mv mv.length,lk,pt,Mt,rfl,Sb,D.turn,hMt,sMt,λw3 Hc nc sc Rc=>?_⟩;rw[eT] at Rc;have s4c:=(s4a.trans sb).trans sc;walk_at "w";refine ⟨_,_,tZ,_,_,by decide,Rc.kind,(R4.same s4c).kind,?_⟩;rw[decide_eq_true rfl];have s2c:=s24.trans s4c;have Bc:=B2.same s2c;have Pc:=P2.same s2c;have Sc:=S4.same s4c;have xb:x≠b:=λz=>B2.at (by rw[<- z];exact nx)
  walk_at "w";refine ⟨b,n2,w,rfl,Bc,by lia,by lia,by lia,λlr ls Hd nlr Rl ll dl Bd ud=>?_⟩;have lrb:lr≠b:=λz=>Bc.at (by rw[<- z];exact nlr)
  have L0:Em n2 ls:=by
   obtain ⟨E,V0,e0,e1,e2,e3⟩:=Ge (xs:=ls) (f:=if w=1000 then 1000 else 9) (by
    by_cases e:w=1000
    ·rw[if_pos e];exact .inr ⟨rfl,by lia⟩
    ·rw[if_neg e];exact .inl rfl) λx hx=>⟨ar (dl x hx).1 (by split <;> lia),ar (dl x hx).2 (by split <;> lia)⟩
   exact ⟨ll,by lia,E,V0+1,e0,e1,by lia,by lia,λx hx=>(e3 x hx).mono (by lia)⟩
  walk_at "w";refine ⟨λσ' H'=>∃(n3:Nat) (lr:Addr),σ'=[some (.ref a0),some (.ref b),some (.int n3),some (.int i),some (.int o),some (.int w),some (.ref r),some (.ref x),some (.ref due),some (.ref wr),some (.ref lr),none]/\∃ls,d4 K H' lr ls/\Em n3 ls/\lr≠b/\il H' b/\cy b Hc H',?_,?_⟩
  ·walk_at "w";refine ⟨b,16,rfl,Bd,by decide,by decide,λv He v0 v1 Be ue=>?_⟩;walk_at "w";refine ij (λh0=>?_) (λh0=>?_)
   ·walk_at "w";refine ⟨b,4,rfl,Be,by decide,by decide,λv2 Hf v20 v21 Bf uf=>?_⟩;obtain ⟨v2,rfl⟩:=kd v20;walk_at "w";rw[show ((5:Int)+(v2:Int))=((5+v2:Nat):Int) by lia];walk_at "w";refine ⟨by lia,by lia,?_⟩;refine ui (n:=5+v2) (b:=b) (bO K) (Fr 1 1) Bf (by lia) (λa u B=>a.upto u B) ?_ ?_
    ·rintro j Ha NY NN hj ua Ba k1;walk_at "w";refine ⟨b,3,rfl,Ba,by decide,by decide,λv Hb v0 v1 Bb ub=>?_⟩;walk_at "w";refine b8 λt Hc sc gc=>?_
     exact k1 _ ((v - 1:Int):Rat) _ (ub.same sc) (Bb.same sc) (Fr.int (by lia)) (bO.mk gc rfl)
    rintro ys2 cs Hg q2 hq2 ug Bg gg lc hc pr2 _;walk_at "w";exact ⟨cs,⟨ys2,gg,pr2⟩,⟨lc,by lia,1,1,by decide,by decide,by decide,by decide,hc⟩,(λz=>Bf.at (by rw[<- z];exact hq2)),Bg,((ud.trans ue).trans uf).trans ug⟩
   ·walk_at "w";exact ⟨ls,Rl.upto ue Bd lrb,L0,lrb,Be,ud.trans ue⟩
  clear L0 dl ll Rl nlr lrb Bd ud;rintro σ' Hd ⟨n3,lr,rfl,ls,Rl,L3,lrb,Bd,ud⟩;obtain ⟨l3,n8,_⟩:=id L3;obtain ⟨⟨Mc,hMc,sMc⟩,Dc,Fc⟩:=Gr L3;have Pd:=Pc.upto ud Bc B1.at;have Sd:=Sc.upto ud Bc B2.at;walk_at "w";refine ⟨by lia,by lia,?_⟩;refine fo (n:=n3) (cN K Hd) (λ(i:Nat)=>(List.range n3).map λ(j:Nat)=>(((if decide ((j:Int)=(i:Int)+1)=true then 1 else 0:Int)):Rat)) (by lia) (λa b=>a.same b) ?_ ?_
  ·rintro i Hb NY NN hi sa k1;walk_at "w";refine ⟨by lia,by lia,?_⟩;refine fo (n:=n3) (bO K) (λ(j:Nat)=>(((if decide ((j:Int)=(i:Int)+1)=true then 1 else 0:Int)):Rat)) (by lia) (λa b=>a.same b) ?_ ?_
   ·rintro j Hz NY2 NN2 hj sz k2;walk_at "w";refine b8 λt Hy sy gy=>?_
    exact k2 _ _ sy (bO.mk gy rfl)
   ·rintro ys Hz t ht sz g pr nx;exact k1 _ _ sz ⟨t,rfl,sa.none ht,ys,g,pr⟩
  rintro ys He mp nmp se ge pre nxe;have nne:=ph nxe;have lye:=pre.length;rw[aj,aI] at lye;walk_at "w";refine ⟨λσ' H'=>σ'=[some (.ref a0),some (.ref b),some (.int n3),some (.int i),some (.int o),some (.int w),some (.ref r),some (.ref x),some (.ref due),some (.ref wr),some (.ref lr),some (.ref mp)]/\aF Hd H'/\cg K Hd H' mp (gR n3 ls),?_,?_⟩
  ·walk_at "w";refine ij (λh0=>?_) (λh0=>?_)
   ·have h0:=of_decide_eq_true h0;obtain ⟨lv,glv,qlv⟩:=Rl.same se;walk_at "w";refine ⟨lr,lv,rfl,.inl (b6.of glv),λf hf=>?_⟩;have sf:aF He (upd He f (.lst lv)):=aF.new hf;have gf:(upd He f (.lst lv)) f=some (.lst lv):=aE;generalize upd He f (.lst lv)=Hf at sf gf ⊢;have gef:=sf _ _ ge;have fm:f≠mp:=λz=>by rw[z,ge] at hf;cases hf
    walk_at "w";rw[show ((n3:Int) - 1)=((n3 - 1:Nat):Int) by lia];refine eF gef (fh (by lia)) rfl ?_;refine ⟨rfl,(se.trans sf).after nmp,?_⟩;rw[<- BU (by lia)];have P1:=oP (o:=.lst (ys.set (n3 - 1) (.ref f))) gef (Paired.imp' (λ_ _ z=>cN.same z sf) pre) nne;refine ⟨_,aE,oO P1 (n3 - 1) ⟨f,rfl,se.none hf,d4.updL ⟨lv,gf,Paired.imp' (λ_ _ z=>bO.same z sf) qlv⟩ gef fm⟩,λz=>?_⟩;rcases et z with z | z
    ·exact nne z
    ·cases z;exact fm rfl
   ·have e0:n3=0:=Classical.byContradiction λz=>h0 (decide_eq_true (by lia))
    subst e0;walk_at "w";exact ⟨rfl,se,⟨ys,ge,pre,nne⟩⟩
  rintro σ' Hf ⟨rfl,sf,Gf⟩;walk_at "w";refine fg λe1 Hg sg ng gg=>?_
  walk_at "w";refine fg λe2 Hh sh nh gh=>?_
  walk_at "w";intro x3 dx3 nx3 ndx3 nex3;have sfh:=sg.trans sh;refine ⟨x3,dx3,mp,e1,e2,Hh,Hd,Hf,Hg,gR n3 ls,[],[],rfl,nx3,ndx3,nex3,rfl,Gf.same sfh,⟨[],sh _ _ gg,.nil,λz=>nomatch z⟩,⟨[],gh,.nil,λz=>nomatch z⟩,Dc,Fc.ok.1,Fc.ok.2.1,Fc.ok.2.2,λHi si Si=>⟨rfl,?_⟩⟩;have sfi:=sfh.trans si;have sdi:=sf.trans sfi;walk_at "w";refine ⟨x3,Hh,gR n3 ls,[],[],Mc,rfl,Si,Dc,hMc,sMc,λw4 Hj nj sj Rj=>?_⟩;have e4:d6 (gR n3 ls) (gR n3 ls).length=ls:=by rw[pP];exact Aq n8 l3 hMc
  rw[e4] at Rj;have sdj:=sdi.trans sj;walk_at "w";refine ⟨_,_,tZ,_,_,by decide,Rj.kind,(Rl.same sdj).kind,?_⟩;rw[decide_eq_true rfl];obtain ⟨dx,am,ap,al,gx,_,_,_,Gsm,_,_⟩:=Sd.same sdj;obtain ⟨m1,p1,l1,grj,_,_,_,Gmj,_,_⟩:=Pd.same sdj;walk_at "w";refine ⟨x,Z.a_System,dx,_,_,rfl,gx,T.cl_System,T.na_move,rL,?_⟩;walk_at "w";refine ⟨_,_,xl,_,_,by decide,Gsm.kind,Gmj.kind,?_⟩;rw[decide_eq_true rfl];exact k _
end
theorem yc {P:List Value->Prop} (h:∀x0,P [x0]):∀us:List Value,us.length=1->P us
 | [x0],_=>h x0
theorem ln2 {P:List Value->Prop} (h:∀x0 x1,P [x0,x1]):∀us:List Value,us.length=2->P us
 | [x0,x1],_=>h x0 x1
theorem ln3 {P:List Value->Prop} (h:∀x0 x1 x2,P [x0,x1,x2]):∀us:List Value,us.length=3->P us
 | [x0,x1,x2],_=>h x0 x1 x2
theorem ln4 {P:List Value->Prop} (h:∀x0 x1 x2 x3,P [x0,x1,x2,x3]):∀us:List Value,us.length=4->P us
 | [x0,x1,x2,x3],_=>h x0 x1 x2 x3
theorem ln5 {P:List Value->Prop} (h:∀x0 x1 x2 x3 x4,P [x0,x1,x2,x3,x4]):∀us:List Value,us.length=5->P us
 | [x0,x1,x2,x3,x4],_=>h x0 x1 x2 x3 x4
theorem all_mk {l:W.OpenLaw} {w:World} {K:W.Frag} {h:Heap} {mg:Str->Option Value} {fa:Addr}
  {f0 f1 f2 f3 f4 f5 f6 f7 f8 f9 f10 f11 f12 f13 f14 f15 f16 f17 f18 f19 f20 f21 f22 f23 f24 f25 f26 f27 f28 f29 f30 f31 f32 f33 f34 f35 f36 f37 f38 f39 f40:Addr} {od0 od1 od2 od3 od4 od5 od6 od7 od8 od9 od10 od11 od12 od13 od14 od15 od16 od17 od18 od19 od20 od21 od22 od23 od24 od25 od26 od27 od28 od29 od30 od31 od32 od33 od34 od35 od36 od37 od38 od39 od40 an0 an1 an2 an3 an4 an5 an6 an7 an8 an9 an10 an11 an12 an13 an14 an15 an16 an17 an18 an19 an20 an21 an22 an23 an24 an25 an26 an27 an28 an29 an30 an31 an32 an33 an34 an35 an36 an37 an38 an39 an40:Option Addr} {sl0 sl1 sl2 sl3 sl4 sl5 sl6 sl7 sl8 sl9 sl10 sl11 sl12 sl13 sl14 sl15 sl16 sl17 sl18 sl19 sl20 sl21 sl22 sl23 sl24 sl25 sl26 sl27 sl28 sl29 sl30 sl31 sl32 sl33 sl34 sl35 sl36 sl37 sl38 sl39 sl40:Array (Option Value)} {oc0 oc1 oc2 oc3 oc4 oc5 oc6 oc7 oc8 oc9 oc10 oc11 oc12 oc13 oc14 oc15 oc16 oc17 oc18 oc19 oc20 oc21 oc22 oc23 oc24 oc25 oc26 oc27 oc28 oc29 oc30 oc31 oc32 oc33 oc34 oc35 oc36 oc37 oc38 oc39 oc40 kV0 kV1 kV2 kV3 kV4 kV5 kV6 kV7 kV8 kV9 kV10 kV11 kV12 kV13 kV14 kV15 kV16 kV17 kV18 kV19 kV20 kV21 kV22 kV23 kV24 kV25 kV26 kV27 kV28 kV29 kV30 kV31 kV32 kV33 kV34 kV35 kV36 kV37 kV38 kV39 kV40 dc0 dc1 dc2 dc3 dc4 dc5 dc6 dc7 dc8 dc9 dc10 dc11 dc12 dc13 dc14 dc15 dc16 dc17 dc18 dc19 dc20 dc21 dc22 dc23 dc24 dc25 dc26 dc27 dc28 dc29 dc30 dc31 dc32 dc33 dc34 dc35 dc36 dc37 dc38 dc39 dc40 pm0 pm1 pm2 pm3 pm4 pm5 pm6 pm7 pm8 pm9 pm10 pm11 pm12 pm13 pm14 pm15 pm16 pm17 pm18 pm19 pm20 pm21 pm22 pm23 pm24 pm25 pm26 pm27 pm28 pm29 pm30 pm31 pm32 pm33 pm34 pm35 pm36 pm37 pm38 pm39 pm40 cd0 cd1 cd2 cd3 cd4 cd5 cd6 cd7 cd8 cd9 cd10 cd11 cd12 cd13 cd14 cd15 cd16 cd17 cd18 cd19 cd20 cd21 cd22 cd23 cd24 cd25 cd26 cd27 cd28 cd29 cd30 cd31 cd32 cd33 cd34 cd35 cd36 cd37 cd38 cd39 cd40 ct0 ct1 ct2 ct3 ct4 ct5 ct6 ct7 ct8 ct9 ct10 ct11 ct12 ct13 ct14 ct15 ct16 ct17 ct18 ct19 ct20 ct21 ct22 ct23 ct24 ct25 ct26 ct27 ct28 ct29 ct30 ct31 ct32 ct33 ct34 ct35 ct36 ct37 ct38 ct39 ct40:Value}
  (X:K.In h) (G:h.Ns mainGlobals mg) (hfa:mg "law"=some (.ref fa))
  {C:Addr} (aC:W.nsIn K mainGlobals "System"=some (some (.ref C)))
  (a0:W.nsIn K mainGlobals "_law_bag"=some (some (.ref f0))) (l0:K.lookup f0=some ⟨oc0,od0,.func (W.fnOf "_law_bag" "_law_bag" (bw iE) (bp iE) (aw iE) .none kV0 dc0 pm0 an0 cd0 ct0),sl0⟩) (c0:W.codeIn K cd0 "_law_bag"=true) (k0:W.keepIn K (.ref f0)=true)
  (a1:W.nsIn K mainGlobals "_law_take"=some (some (.ref f1))) (l1:K.lookup f1=some ⟨oc1,od1,.func (W.fnOf "_law_take" "_law_take" (bw gB) (bp gB) (aw gB) .none kV1 dc1 pm1 an1 cd1 ct1),sl1⟩) (c1:W.codeIn K cd1 "_law_take"=true) (k1:W.keepIn K (.ref f1)=true)
  (a2:W.nsIn K mainGlobals "_law_sizes"=some (some (.ref f2))) (l2:K.lookup f2=some ⟨oc2,od2,.func (W.fnOf "_law_sizes" "_law_sizes" (bw dX) (bp dX) (aw dX) .none kV2 dc2 pm2 an2 cd2 ct2),sl2⟩) (c2:W.codeIn K cd2 "_law_sizes"=true) (k2:W.keepIn K (.ref f2)=true)
  (a3:W.nsIn K mainGlobals "_law_low"=some (some (.ref f3))) (l3:K.lookup f3=some ⟨oc3,od3,.func (W.fnOf "_law_low" "_law_low" (bw iC) (bp iC) (aw iC) .none kV3 dc3 pm3 an3 cd3 ct3),sl3⟩) (c3:W.codeIn K cd3 "_law_low"=true) (k3:W.keepIn K (.ref f3)=true)
  (a4:W.nsIn K mainGlobals "_law_number"=some (some (.ref f4))) (l4:K.lookup f4=some ⟨oc4,od4,.func (W.fnOf "_law_number" "_law_number" (bw ee) (bp ee) (aw ee) .none kV4 dc4 pm4 an4 cd4 ct4),sl4⟩) (c4:W.codeIn K cd4 "_law_number"=true) (k4:W.keepIn K (.ref f4)=true)
  (a5:W.nsIn K mainGlobals "_law_row"=some (some (.ref f5))) (l5:K.lookup f5=some ⟨oc5,od5,.func (W.fnOf "_law_row" "_law_row" (bw iB) (bp iB) (aw iB) .none kV5 dc5 pm5 an5 cd5 ct5),sl5⟩) (c5:W.codeIn K cd5 "_law_row"=true) (k5:W.keepIn K (.ref f5)=true)
  (a6:W.nsIn K mainGlobals "_law_move"=some (some (.ref f6))) (l6:K.lookup f6=some ⟨oc6,od6,.func (W.fnOf "_law_move" "_law_move" (bw gE) (bp gE) (aw gE) .none kV6 dc6 pm6 an6 cd6 ct6),sl6⟩) (c6:W.codeIn K cd6 "_law_move"=true) (k6:W.keepIn K (.ref f6)=true)
  (a7:W.nsIn K mainGlobals "_law_sum"=some (some (.ref f7))) (l7:K.lookup f7=some ⟨oc7,od7,.func (W.fnOf "_law_sum" "_law_sum" (bw iz) (bp iz) (aw iz) .none kV7 dc7 pm7 an7 cd7 ct7),sl7⟩) (c7:W.codeIn K cd7 "_law_sum"=true) (k7:W.keepIn K (.ref f7)=true)
  (a8:W.nsIn K mainGlobals "_law_plus"=some (some (.ref f8))) (l8:K.lookup f8=some ⟨oc8,od8,.func (W.fnOf "_law_plus" "_law_plus" (bw gD) (bp gD) (aw gD) .none kV8 dc8 pm8 an8 cd8 ct8),sl8⟩) (c8:W.codeIn K cd8 "_law_plus"=true) (k8:W.keepIn K (.ref f8)=true)
  (a9:W.nsIn K mainGlobals "_law_prod"=some (some (.ref f9))) (l9:K.lookup f9=some ⟨oc9,od9,.func (W.fnOf "_law_prod" "_law_prod" (bw gC) (bp gC) (aw gC) .none kV9 dc9 pm9 an9 cd9 ct9),sl9⟩) (c9:W.codeIn K cd9 "_law_prod"=true) (k9:W.keepIn K (.ref f9)=true)
  (a10:W.nsIn K mainGlobals "_law_by"=some (some (.ref f10))) (l10:K.lookup f10=some ⟨oc10,od10,.func (W.fnOf "_law_by" "_law_by" (bw jS) (bp jS) (aw jS) .none kV10 dc10 pm10 an10 cd10 ct10),sl10⟩) (c10:W.codeIn K cd10 "_law_by"=true) (k10:W.keepIn K (.ref f10)=true)
  (a11:W.nsIn K mainGlobals "_law_mixed"=some (some (.ref f11))) (l11:K.lookup f11=some ⟨oc11,od11,.func (W.fnOf "_law_mixed" "_law_mixed" (bw fe) (bp fe) (aw fe) .none kV11 dc11 pm11 an11 cd11 ct11),sl11⟩) (c11:W.codeIn K cd11 "_law_mixed"=true) (k11:W.keepIn K (.ref f11)=true)
  (a12:W.nsIn K mainGlobals "_law_parts"=some (some (.ref f12))) (l12:K.lookup f12=some ⟨oc12,od12,.func (W.fnOf "_law_parts" "_law_parts" (bw fb) (bp fb) (aw fb) .none kV12 dc12 pm12 an12 cd12 ct12),sl12⟩) (c12:W.codeIn K cd12 "_law_parts"=true) (k12:W.keepIn K (.ref f12)=true)
  (a13:W.nsIn K mainGlobals "want_list"=some (some (.ref f13))) (l13:K.lookup f13=some ⟨oc13,od13,.func (W.fnOf "want_list" "want_list" (bw fY) (bp fY) (aw fY) .none kV13 dc13 pm13 an13 cd13 ct13),sl13⟩) (c13:W.codeIn K cd13 "want_list"=true) (k13:W.keepIn K (.ref f13)=true)
  (a14:W.nsIn K mainGlobals "is_whole"=some (some (.ref f14))) (l14:K.lookup f14=some ⟨oc14,od14,.func (W.fnOf "is_whole" "is_whole" (bw iw) (bp iw) (aw iw) .none kV14 dc14 pm14 an14 cd14 ct14),sl14⟩) (c14:W.codeIn K cd14 "is_whole"=true) (k14:W.keepIn K (.ref f14)=true)
  (a15:W.nsIn K mainGlobals "common_divisor"=some (some (.ref f15))) (l15:K.lookup f15=some ⟨oc15,od15,.func (W.fnOf "common_divisor" "common_divisor" (bw dr) (bp dr) (aw dr) .none kV15 dc15 pm15 an15 cd15 ct15),sl15⟩) (c15:W.codeIn K cd15 "common_divisor"=true) (k15:W.keepIn K (.ref f15)=true)
  (a16:W.nsIn K mainGlobals "is_number"=some (some (.ref f16))) (l16:K.lookup f16=some ⟨oc16,od16,.func (W.fnOf "is_number" "is_number" (bw gs) (bp gs) (aw gs) .none kV16 dc16 pm16 an16 cd16 ct16),sl16⟩) (c16:W.codeIn K cd16 "is_number"=true) (k16:W.keepIn K (.ref f16)=true)
  (a17:W.nsIn K mainGlobals "is_row"=some (some (.ref f17))) (l17:K.lookup f17=some ⟨oc17,od17,.func (W.fnOf "is_row" "is_row" (bw lF) (bp lF) (aw lF) .none kV17 dc17 pm17 an17 cd17 ct17),sl17⟩) (c17:W.codeIn K cd17 "is_row"=true) (k17:W.keepIn K (.ref f17)=true)
  (a18:W.nsIn K mainGlobals "copied_rows"=some (some (.ref f18))) (l18:K.lookup f18=some ⟨oc18,od18,.func (W.fnOf "copied_rows" "copied_rows" (bw ed) (bp ed) (aw ed) .none kV18 dc18 pm18 an18 cd18 ct18),sl18⟩) (c18:W.codeIn K cd18 "copied_rows"=true) (k18:W.keepIn K (.ref f18)=true)
  (a19:W.findIn K (.ref C) "__init__"=some (some (.ref f19))) (i19:W.isFn K (.ref f19)=true) (l19:K.lookup f19=some ⟨oc19,od19,.func (W.fnOf "__init__" "System.__init__" (bw de) (bp de) (aw de) .none kV19 dc19 pm19 an19 cd19 ct19),sl19⟩) (c19:W.codeIn K cd19 "System.__init__"=true) (k19:W.keepIn K (.ref f19)=true)
  (a20:W.nsIn K mainGlobals "_law_copied"=some (some (.ref f20))) (l20:K.lookup f20=some ⟨oc20,od20,.func (W.fnOf "_law_copied" "_law_copied" (bw eh) (bp eh) (aw eh) .none kV20 dc20 pm20 an20 cd20 ct20),sl20⟩) (c20:W.codeIn K cd20 "_law_copied"=true) (k20:W.keepIn K (.ref f20)=true)
  (a21:W.nsIn K mainGlobals "_law_made"=some (some (.ref f21))) (l21:K.lookup f21=some ⟨oc21,od21,.func (W.fnOf "_law_made" "_law_made" (bw gF) (bp gF) (aw gF) .none kV21 dc21 pm21 an21 cd21 ct21),sl21⟩) (c21:W.codeIn K cd21 "_law_made"=true) (k21:W.keepIn K (.ref f21)=true)
  (a22:W.nsIn K mainGlobals "_law_dot"=some (some (.ref f22))) (l22:K.lookup f22=some ⟨oc22,od22,.func (W.fnOf "_law_dot" "_law_dot" (bw iD) (bp iD) (aw iD) .none kV22 dc22 pm22 an22 cd22 ct22),sl22⟩) (c22:W.codeIn K cd22 "_law_dot"=true) (k22:W.keepIn K (.ref f22)=true)
  (a23:W.nsIn K mainGlobals "_law_product"=some (some (.ref f23))) (l23:K.lookup f23=some ⟨oc23,od23,.func (W.fnOf "_law_product" "_law_product" (bw dM) (bp dM) (aw dM) .none kV23 dc23 pm23 an23 cd23 ct23),sl23⟩) (c23:W.codeIn K cd23 "_law_product"=true) (k23:W.keepIn K (.ref f23)=true)
  (a24:W.nsIn K mainGlobals "_law_wish"=some (some (.ref f24))) (l24:K.lookup f24=some ⟨oc24,od24,.func (W.fnOf "_law_wish" "_law_wish" (bw gA) (bp gA) (aw gA) .none kV24 dc24 pm24 an24 cd24 ct24),sl24⟩) (c24:W.codeIn K cd24 "_law_wish"=true) (k24:W.keepIn K (.ref f24)=true)
  (a25:W.nsIn K mainGlobals "common_multiple"=some (some (.ref f25))) (l25:K.lookup f25=some ⟨oc25,od25,.func (W.fnOf "common_multiple" "common_multiple" (bw dd) (bp dd) (aw dd) .none kV25 dc25 pm25 an25 cd25 ct25),sl25⟩) (c25:W.codeIn K cd25 "common_multiple"=true) (k25:W.keepIn K (.ref f25)=true)
  (a26:W.nsIn K mainGlobals "common_bottom"=some (some (.ref f26))) (l26:K.lookup f26=some ⟨oc26,od26,.func (W.fnOf "common_bottom" "common_bottom" (bw dz) (bp dz) (aw dz) .none kV26 dc26 pm26 an26 cd26 ct26),sl26⟩) (c26:W.codeIn K cd26 "common_bottom"=true) (k26:W.keepIn K (.ref f26)=true)
  (a27:W.nsIn K mainGlobals "flat"=some (some (.ref f27))) (l27:K.lookup f27=some ⟨oc27,od27,.func (W.fnOf "flat" "flat" (bw qd) (bp qd) (aw qd) .none kV27 dc27 pm27 an27 cd27 ct27),sl27⟩) (c27:W.codeIn K cd27 "flat"=true) (k27:W.keepIn K (.ref f27)=true)
  (a28:W.nsIn K mainGlobals "tops_over"=some (some (.ref f28))) (l28:K.lookup f28=some ⟨oc28,od28,.func (W.fnOf "tops_over" "tops_over" (bw fZ) (bp fZ) (aw fZ) .none kV28 dc28 pm28 an28 cd28 ct28),sl28⟩) (c28:W.codeIn K cd28 "tops_over"=true) (k28:W.keepIn K (.ref f28)=true)
  (a29:W.nsIn K mainGlobals "whole_grid"=some (some (.ref f29))) (l29:K.lookup f29=some ⟨oc29,od29,.func (W.fnOf "whole_grid" "whole_grid" (bw eZ) (bp eZ) (aw eZ) .none kV29 dc29 pm29 an29 cd29 ct29),sl29⟩) (c29:W.codeIn K cd29 "whole_grid"=true) (k29:W.keepIn K (.ref f29)=true)
  (a30:W.nsIn K mainGlobals "whole_dot"=some (some (.ref f30))) (l30:K.lookup f30=some ⟨oc30,od30,.func (W.fnOf "whole_dot" "whole_dot" (bw fX) (bp fX) (aw fX) .none kV30 dc30 pm30 an30 cd30 ct30),sl30⟩) (c30:W.codeIn K cd30 "whole_dot"=true) (k30:W.keepIn K (.ref f30)=true)
  (a31:W.nsIn K mainGlobals "whole_on"=some (some (.ref f31))) (l31:K.lookup f31=some ⟨oc31,od31,.func (W.fnOf "whole_on" "whole_on" (bw ir) (bp ir) (aw ir) .none kV31 dc31 pm31 an31 cd31 ct31),sl31⟩) (c31:W.codeIn K cd31 "whole_on"=true) (k31:W.keepIn K (.ref f31)=true)
  (a32:W.nsIn K mainGlobals "with_main"=some (some (.ref f32))) (l32:K.lookup f32=some ⟨oc32,od32,.func (W.fnOf "with_main" "with_main" (bw fW) (bp fW) (aw fW) .none kV32 dc32 pm32 an32 cd32 ct32),sl32⟩) (c32:W.codeIn K cd32 "with_main"=true) (k32:W.keepIn K (.ref f32)=true)
  (a33:W.nsIn K mainGlobals "lowest"=some (some (.ref f33))) (l33:K.lookup f33=some ⟨oc33,od33,.func (W.fnOf "lowest" "lowest" (bw lE) (bp lE) (aw lE) .none kV33 dc33 pm33 an33 cd33 ct33),sl33⟩) (c33:W.codeIn K cd33 "lowest"=true) (k33:W.keepIn K (.ref f33)=true)
  (a34:W.nsIn K mainGlobals "own_wish"=some (some (.ref f34))) (l34:K.lookup f34=some ⟨oc34,od34,.func (W.fnOf "own_wish" "own_wish" (bw iu) (bp iu) (aw iu) .none kV34 dc34 pm34 an34 cd34 ct34),sl34⟩) (c34:W.codeIn K cd34 "own_wish"=true) (k34:W.keepIn K (.ref f34)=true)
  (a35:W.nsIn K mainGlobals "_law_is_number"=some (some (.ref f35))) (l35:K.lookup f35=some ⟨oc35,od35,.func (W.fnOf "_law_is_number" "_law_is_number" (bw dt) (bp dt) (aw dt) .none kV35 dc35 pm35 an35 cd35 ct35),sl35⟩) (c35:W.codeIn K cd35 "_law_is_number"=true) (k35:W.keepIn K (.ref f35)=true)
  (a36:W.nsIn K mainGlobals "_law_is_row"=some (some (.ref f36))) (l36:K.lookup f36=some ⟨oc36,od36,.func (W.fnOf "_law_is_row" "_law_is_row" (bw ef) (bp ef) (aw ef) .none kV36 dc36 pm36 an36 cd36 ct36),sl36⟩) (c36:W.codeIn K cd36 "_law_is_row"=true) (k36:W.keepIn K (.ref f36)=true)
  (a37:W.nsIn K mainGlobals "_law_kept"=some (some (.ref f37))) (l37:K.lookup f37=some ⟨oc37,od37,.func (W.fnOf "_law_kept" "_law_kept" (bw gG) (bp gG) (aw gG) .none kV37 dc37 pm37 an37 cd37 ct37),sl37⟩) (c37:W.codeIn K cd37 "_law_kept"=true) (k37:W.keepIn K (.ref f37)=true)
  (a38:W.nsIn K mainGlobals "grid_turned"=some (some (.ref f38))) (l38:K.lookup f38=some ⟨oc38,od38,.func (W.fnOf "grid_turned" "grid_turned" (bw d9) (bp d9) (aw d9) .none kV38 dc38 pm38 an38 cd38 ct38),sl38⟩) (c38:W.codeIn K cd38 "grid_turned"=true) (k38:W.keepIn K (.ref f38)=true)
  (a39:W.findIn K (.ref C) "turned"=some (some (.ref f39))) (i39:W.isFn K (.ref f39)=true) (l39:K.lookup f39=some ⟨oc39,od39,.func (W.fnOf "turned" "System.turned" (bw dA) (bp dA) (aw dA) .none kV39 dc39 pm39 an39 cd39 ct39),sl39⟩) (c39:W.codeIn K cd39 "System.turned"=true) (k39:W.keepIn K (.ref f39)=true)
  (a40:W.nsIn K mainGlobals "law"=some (some (.ref f40))) (l40:K.lookup f40=some ⟨oc40,od40,.func (W.fnOf "law" "law" (bw tL) (bp tL) (aw tL) .none kV40 dc40 pm40 an40 cd40 ct40),sl40⟩) (c40:W.codeIn K cd40 "law"=true) (k40:W.keepIn K (.ref f40)=true)
  {it0:Tok} (ci0:W.nsIn K mainGlobals "MOST_STATES"=some (some (.int 8 it0)))
  {it1:Tok} (ci1:W.nsIn K mainGlobals "MOST_PUTS"=some (some (.int 4 it1)))
  {it2:Tok} (ci2:W.nsIn K mainGlobals "MOST_LOOKS"=some (some (.int 4 it2)))
  (pg:W.plainGet K C Str.empty=true) (hd:W.hasDictIn K C=true) (po:W.plainOver K C=true) (sa:W.findIn K (.ref C) "__setattr__"=some (some (.builtin "object.__setattr__"))) (mk:W.makesIn K C=true) (kc:W.keepIn K (.ref C)=true)
  (n_move:W.findIn K (.ref C) "move"=some none)
  (n_states:W.findIn K (.ref C) "states"=some none)
  (n_put:W.findIn K (.ref C) "put"=some none)
  (n_ins:W.findIn K (.ref C) "ins"=some none)
  (n_look:W.findIn K (.ref C) "look"=some none)
  (n_outs:W.findIn K (.ref C) "outs"=some none)
  (z_abs:W.nsIn K mainGlobals "abs"=some none)
  (z_len:W.nsIn K mainGlobals "len"=some none)
  (z_min:W.nsIn K mainGlobals "min"=some none)
  (z_range:W.nsIn K mainGlobals "range"=some none)
  (z_int:W.nsIn K mainGlobals "int"=some none)
  (z_isinstance:W.nsIn K mainGlobals "isinstance"=some none)
  (z_list:W.nsIn K mainGlobals "list"=some none)
  (z_bool:W.nsIn K mainGlobals "bool"=some none)
  (z_tuple:W.nsIn K mainGlobals "tuple"=some none)
  (z_all:W.nsIn K mainGlobals "all"=some none)
  (z_enumerate:W.nsIn K mainGlobals "enumerate"=some none)
  (z_sum:W.nsIn K mainGlobals "sum"=some none)
  (z_zip:W.nsIn K mainGlobals "zip"=some none)
  (z_reversed:W.nsIn K mainGlobals "reversed"=some none)
  : ∃fd:FuncData,(∀(s:Shared) (v:Value),BindsTo s fd ⟨[v],[]⟩ [("_law_script",v)])/\∀base:Heap,K.In base->base.Ns mainGlobals mg->cZ l.prog w K mg base jT 8 fa fd ["_law_script"] (rQ K):=by
 have e:=hfa.symm.trans (W.mg_of X G a40);cases e;have F0:=bX (st:=iE) l0 c0 k0;have F1:=bX (st:=gB) l1 c1 k1;have F2:=bX (st:=dX) l2 c2 k2;have F3:=bX (st:=iC) l3 c3 k3;have F4:=bX (st:=ee) l4 c4 k4;have F5:=bX (st:=iB) l5 c5 k5;have F6:=bX (st:=gE) l6 c6 k6;have F7:=bX (st:=iz) l7 c7 k7;have F8:=bX (st:=gD) l8 c8 k8;have F9:=bX (st:=gC) l9 c9 k9;have F10:=bX (st:=jS) l10 c10 k10;have F11:=bX (st:=fe) l11 c11 k11;have F12:=bX (st:=fb) l12 c12 k12;have F13:=bX (st:=fY) l13 c13 k13;have F14:=bX (st:=iw) l14 c14 k14;have F15:=bX (st:=dr) l15 c15 k15;have F16:=bX (st:=gs) l16 c16 k16;have F17:=bX (st:=lF) l17 c17 k17;have F18:=bX (st:=ed) l18 c18 k18;have F19:=bX (st:=de) l19 c19 k19;have F20:=bX (st:=eh) l20 c20 k20;have F21:=bX (st:=gF) l21 c21 k21;have F22:=bX (st:=iD) l22 c22 k22;have F23:=bX (st:=dM) l23 c23 k23;have F24:=bX (st:=gA) l24 c24 k24;have F25:=bX (st:=dd) l25 c25 k25;have F26:=bX (st:=dz) l26 c26 k26;have F27:=bX (st:=qd) l27 c27 k27;have F28:=bX (st:=fZ) l28 c28 k28;have F29:=bX (st:=eZ) l29 c29 k29;have F30:=bX (st:=fX) l30 c30 k30;have F31:=bX (st:=ir) l31 c31 k31;have F32:=bX (st:=fW) l32 c32 k32;have F33:=bX (st:=lE) l33 c33 k33;have F34:=bX (st:=iu) l34 c34 k34;have F35:=bX (st:=dt) l35 c35 k35;have F36:=bX (st:=ef) l36 c36 k36;have F37:=bX (st:=gG) l37 c37 k37;have F38:=bX (st:=d9) l38 c38 k38;have F39:=bX (st:=dA) l39 c39 k39;have F40:=bX (st:=tL) l40 c40 k40
 have T:Txt K mg { mG:=f0,mn:=_,kN:=f1,ky:=_,jI:=f2,jE:=_,mE:=f3,mj:=_,iW:=f4,iN:=_,mD:=f5,mi:=_,kQ:=f6,kC:=_,mC:=f7,mh:=_,kP:=f8,kB:=_,kO:=f9,kz:=_,oe:=f10,nZ:=_,jK:=f11,jG:=_,jJ:=f12,jF:=_,kJ:=f13,ks:=_,mB:=f14,mf:=_,fw:=f15,fj:=_,kL:=f16,kv:=_,pW:=f17,pO:=_,iV:=f18,iM:=_,eL:=f19,eI:=_,iY:=f20,iP:=_,kR:=f21,kD:=_,mF:=f22,mm:=_,ib:=f23,h9:=_,kM:=f24,kx:=_,eK:=f25,eH:=_,fK:=f26,fI:=_,vm:=f27,vd:=_,kK:=f28,ku:=_,jH:=f29,jD:=_,kI:=f30,kr:=_,my:=f31,md:=_,kH:=f32,kq:=_,pV:=f33,pN:=_,mz:=f34,me:=_,fy:=f35,fk:=_,iX:=f36,iO:=_,kS:=f37,kE:=_,iU:=f38,iL:=_,fL:=f39,fJ:=_,Ax:=fa,Ao:=_,t_MOST_STATES:=it0,t_MOST_PUTS:=it1,t_MOST_LOOKS:=it2,a_System:=C }:={
  qJ:=W.mg_of X G a0
  sQ:=F0.binds (ps:=["_law_script"]) λ_ _ _ _ _ _=>by refine yc ?_;intros;rfl
  oX:=F0
  aX:=W.mg_of X G a1
  bu:=F1.binds (ps:=["_law_bag_here","_law_many"]) λ_ _ _ _ _ _=>by refine ln2 ?_;intros;rfl
  bg:=F1
  ot:=W.mg_of X G a2
  pS:=F2.binds (ps:=["_law_bag_here"]) λ_ _ _ _ _ _=>by refine yc ?_;intros;rfl
  mK:=F2
  eU:=W.mg_of X G a3
  fV:=F3.binds (ps:=["_law_top","_law_bottom"]) λ_ _ _ _ _ _=>by refine ln2 ?_;intros;rfl
  eY:=F3
  nu:=W.mg_of X G a4
  oz:=F4.binds (ps:=["_law_bag_here","_law_wide"]) λ_ _ _ _ _ _=>by refine ln2 ?_;intros;rfl
  lC:=F4
  jd:=W.mg_of X G a5
  ka:=F5.binds (ps:=["_law_bag_here","_law_many","_law_wide"]) λ_ _ _ _ _ _=>by refine ln3 ?_;intros;rfl
  iJ:=F5
  pC:=W.mg_of X G a6
  qR:=F6.binds (ps:=["_law_bag_here","_law_n","_law_way","_law_first","_law_wide"]) λ_ _ _ _ _ _=>by refine ln5 ?_;intros;rfl
  nN:=F6
  eS:=W.mg_of X G a7
  fU:=F7.binds (ps:=["_law_one","_law_other"]) λ_ _ _ _ _ _=>by refine ln2 ?_;intros;rfl
  eV:=F7
  lX:=W.mg_of X G a8
  nC:=F8.binds (ps:=["_law_one","_law_other"]) λ_ _ _ _ _ _=>by refine ln2 ?_;intros;rfl
  kT:=F8
  h7:=W.mg_of X G a9
  jh:=F9.binds (ps:=["_law_one","_law_other"]) λ_ _ _ _ _ _=>by refine ln2 ?_;intros;rfl
  gP:=F9
  oR:=W.mg_of X G a10
  qt:=F10.binds (ps:=["_law_by_here","_law_row_here"]) λ_ _ _ _ _ _=>by refine ln2 ?_;intros;rfl
  og:=F10
  ow:=W.mg_of X G a11
  pU:=F11.binds (ps:=["_law_bag_here","_law_move_here","_law_put","_law_look"]) λ_ _ _ _ _ _=>by refine ln4 ?_;intros;rfl
  mM:=F11
  ou:=W.mg_of X G a12
  pT:=F12.binds (ps:=["_law_bag_here","_law_n","_law_ins","_law_outs","_law_wide"]) λ_ _ _ _ _ _=>by refine ln5 ?_;intros;rfl
  mL:=F12
  jC:=W.mg_of X G a13
  kF:=F13.binds (ps:=["thing","at","most"]) λ_ _ _ _ _ _=>by refine ln3 ?_;intros;rfl
  ji:=F13
  ni:=W.mg_of X G a14
  oT:=F14.binds (ps:=["thing"]) λ_ _ _ _ _ _=>by refine yc ?_;intros;rfl
  mJ:=F14
  eG:=W.mg_of X G a15
  fu:=F15.binds (ps:=["one","other"]) λ_ _ _ _ _ _=>by refine ln2 ?_;intros;rfl
  dN:=F15
  pA:=W.mg_of X G a16
  qP:=F16.binds (ps:=["thing"]) λ_ _ _ _ _ _=>by refine yc ?_;intros;rfl
  nK:=F16
  tX:=W.mg_of X G a17
  wD:=F17.binds (ps:=["thing","many"]) λ_ _ _ _ _ _=>by refine ln2 ?_;intros;rfl
  sT:=F17
  hZ:=W.mg_of X G a18
  iR:=F18.binds (ps:=["things","wide"]) λ_ _ _ _ _ _=>by refine ln2 ?_;intros;rfl
  fE:=F18
  eJ:=F19.binds (ps:=["self","move","put","look"]) λ_ _ _ _ _ _=>by refine ln4 ?_;intros;rfl
  kU:=F19
  h8:=W.mg_of X G a20
  iS:=F20.binds (ps:=["_law_grid"]) λ_ _ _ _ _ _=>by refine yc ?_;intros;rfl
  fF:=F20
  pE:=W.mg_of X G a21
  qS:=F21.binds (ps:=["_law_parts_here"]) λ_ _ _ _ _ _=>by refine yc ?_;intros;rfl
  nO:=F21
  qI:=W.mg_of X G a22
  sP:=F22.binds (ps:=["_law_one","_law_other"]) λ_ _ _ _ _ _=>by refine ln2 ?_;intros;rfl
  oW:=F22
  fG:=W.mg_of X G a23
  ia:=F23.binds (ps:=["_law_one","_law_other"]) λ_ _ _ _ _ _=>by refine ln2 ?_;intros;rfl
  eX:=F23
  pB:=W.mg_of X G a24
  qQ:=F24.binds (ps:=["_law_move_here"]) λ_ _ _ _ _ _=>by refine yc ?_;intros;rfl
  nM:=F24
  j7:=W.mg_of X G a25
  kG:=F25.binds (ps:=["wholes"]) λ_ _ _ _ _ _=>by refine yc ?_;intros;rfl
  ie:=F25
  lH:=W.mg_of X G a26
  mQ:=F26.binds (ps:=["row"]) λ_ _ _ _ _ _=>by refine yc ?_;intros;rfl
  jv:=F26
  yb:=W.mg_of X G a27
  Aw:=F27.binds (ps:=["lists"]) λ_ _ _ _ _ _=>by refine yc ?_;intros;rfl
  xE:=F27
  pz:=W.mg_of X G a28
  qO:=F28.binds (ps:=["row","bottom"]) λ_ _ _ _ _ _=>by refine ln2 ?_;intros;rfl
  nJ:=F28
  oq:=W.mg_of X G a29
  pR:=F29.binds (ps:=["grid"]) λ_ _ _ _ _ _=>by refine yc ?_;intros;rfl
  mI:=F29
  pk:=W.mg_of X G a30
  qN:=F30.binds (ps:=["one","other"]) λ_ _ _ _ _ _=>by refine ln2 ?_;intros;rfl
  nH:=F30
  qH:=W.mg_of X G a31
  sO:=F31.binds (ps:=["lines","tops"]) λ_ _ _ _ _ _=>by refine ln2 ?_;intros;rfl
  oV:=F31
  pj:=W.mg_of X G a32
  qM:=F32.binds (ps:=["lines","by"]) λ_ _ _ _ _ _=>by refine ln2 ?_;intros;rfl
  nG:=F32
  tW:=W.mg_of X G a33
  wC:=F33.binds (ps:=["top","bottom"]) λ_ _ _ _ _ _=>by refine ln2 ?_;intros;rfl
  sS:=F33
  jc:=W.mg_of X G a34
  j9:=F34.binds (ps:=["system"]) λ_ _ _ _ _ _=>by refine yc ?_;intros;rfl
  iI:=F34
  ko:=W.mg_of X G a35
  lM:=F35.binds (ps:=["_law_thing"]) λ_ _ _ _ _ _=>by refine yc ?_;intros;rfl
  iK:=F35
  nv:=W.mg_of X G a36
  oA:=F36.binds (ps:=["_law_thing","_law_many"]) λ_ _ _ _ _ _=>by refine ln2 ?_;intros;rfl
  lD:=F36
  pF:=W.mg_of X G a37
  qT:=F37.binds (ps:=["_law_move_here","_law_wish_here"]) λ_ _ _ _ _ _=>by refine ln2 ?_;intros;rfl
  nP:=F37
  nk:=W.mg_of X G a38
  oy:=F38.binds (ps:=["grid","wide"]) λ_ _ _ _ _ _=>by refine ln2 ?_;intros;rfl
  lB:=F38
  lJ:=⟨a39,i39,k39⟩
  mR:=F39.binds (ps:=["self"]) λ_ _ _ _ _ _=>by refine yc ?_;intros;rfl
  mS:=F39
  Dj:=F40
  abs:=W.mg_none_of X G z_abs
  len:=W.mg_none_of X G z_len
  min:=W.mg_none_of X G z_min
  range:=W.mg_none_of X G z_range
  int:=W.mg_none_of X G z_int
  isinstance:=W.mg_none_of X G z_isinstance
  list:=W.mg_none_of X G z_list
  bool:=W.mg_none_of X G z_bool
  tuple:=W.mg_none_of X G z_tuple
  all:=W.mg_none_of X G z_all
  enumerate:=W.mg_none_of X G z_enumerate
  sum:=W.mg_none_of X G z_sum
  zip:=W.mg_none_of X G z_zip
  reversed:=W.mg_none_of X G z_reversed
  mg_MOST_STATES:=W.mg_of X G ci0
  mg_MOST_PUTS:=W.mg_of X G ci1
  mg_MOST_LOOKS:=W.mg_of X G ci2
  mg_System:=W.mg_of X G aC
  cl_System:=⟨pg,hd,po,sa⟩
  na_move:=n_move
  na_states:=n_states
  na_put:=n_put
  na_ins:=n_ins
  na_look:=n_look
  na_outs:=n_outs
  mk_System:=⟨mk,a19,i19,kc⟩ }
 exact ⟨_,λs v=>.of_eq rfl,λbase _ _=>DY T⟩
theorem walk {l:W.OpenLaw} {q:Program} {loose:List Str} {XP:(Str->Option Value)->Heap->Prop} {YP:World->Heap->Prop} {d:DefRec} {K:Params->W.Frag} (hn:l.most=some 63) (hdf:d.params.defaults=[])
  (hY:∀(w:World) (h:Heap),YP w h->(K w.params).In h)
  (F:∀(w:World) (mg:Str->Option Value) (fa:Addr) (h:Heap),(K w.params).In h->h.Ns mainGlobals mg->mg d.name=some (.ref fa) →
   ∃fd:FuncData,(∀(s:Shared) (u:Value),BindsTo s fd ⟨[u],[]⟩ [("_law_script",u)])/\∀base:Heap,(K w.params).In base->base.Ns mainGlobals mg->cZ l.prog w (K w.params) mg base jT 8 fa fd ["_law_script"] (rQ (K w.params))) :
  W.WalkO q loose XP YP l.row.toRowW d [] (λf vs=>PySem.call f vs) :=
 L2.AL (n:=63) (k:=8) (x:="_law_script") (CX:=λ_=>jT) (sp:=λw=>rQ (K w.params)) hn (by decide) hdf ⟨rfl,by decide,by decide⟩ hY F (λ_ _ a ns hl _ hS=>⟨a,ns,rfl,hS,hl,λ_=>rfl⟩) λ_ _ _ _ _ z=>z
end Lw
namespace PySem.W.Fast
def tw7946939166997059874:=()
def tw7554945643674186205:=()
def tw12665889977183571719:=()
def tw6985061763836801979:=()
def tw1214677622076105470:=()
def tw730500244455004109:=()
def tw12065650732501751893:=()
def tw17158833766432667557:=()
def tw10648242089577013156:=()
def tw15830206524224236762:=()
def tw11691678088490605612:=()
def tw16912471525501936143:=()
def tw728181240626079049:=()
def tw1616075000435537881:=()
def tw10594942160080638935:=()
def tw8891392524650732555:=()
def tw2848283051472021195:=()
def tw2676710263502706736:=()
def tw12971944488768667811:=()
def tw16792175825829492599:=()
def tw1969655195612627127:=()
def tw8602664895130476198:=()
def tw12906148755657032053:=()
def tw6656492497428557201:=()
def tw2524766049559500747:=()
def tw15174703248394018691:=()
def tw17591042098812477521:=()
def tw1097023130319940497:=()
def tw8862070532973689524:=()
def tw4532954823142342226:=()
def tw14786058185792713223:=()
def tw10898295519788866855:=()
def tw14237848195395716410:=()
def tw10930669353849299077:=()
def tw17522550617986881424:=()
def tw14744880641542165832:=()
def tw9857528080724981482:=()
def tw24941187109070605:=()
def tw12327494465270642894:=()
def tw3038496327084001237:=()
def tw15979554125282547519:=()
def tw1587713143980140875:=()
def tw15587203879006348400:=()
def tw7256135648041622195:=()
def tw8574529593108229943:=()
def tw11467638896022727880:=()
def tw7156927245821210866:=()
def tw12786750730134449068:=()
def tw580755648267096907:=()
def tw18381618825022285550:=()
def tw18165753396915494639:=()
def tw10703130437494073003:=()
def tw16077152634677660051:=()
def tw807012685115554273:=()
def tw14890044162773979683:=()
def tw15453598740416835046:=()
def tw11005734504052440173:=()
def tw12615734348923398639:=()
def tw9703593832325264137:=()
def tw4239367601253946078:=()
def tw2360548203217339265:=()
def tw5492058891241563077:=()
def tw11418885151032121874:=()
def tw6816493582500428795:=()
def tw11832427335090027783:=()
def tw9594392427558098165:=()
def tw9292480413613197259:=()
def tw14521994900856462130:=()
def tw11975355503044935276:=()
def tw14167675112439597015:=()
def tw6057288997928626518:=()
def tw15153441669327503844:=()
def tw10559373699211013047:=()
def tw12646260174278595557:=()
def tw11999260137808062886:=()
def tw3537346628088683871:=()
def tw6537534552636099687:=()
def tw2998178865328047916:=()
def tw7242347627254084784:=()
def tw6486379172943470344:=()
def tw13102508886380192414:=()
def tw17612104412248591481:=()
def tw7088332903800358459:=()
def tw7477543937809217544:=()
def tw10345722787131200025:=()
def tw8446328944023003873:=()
def tw3116998504469747127:=()
def tw15029133259118538728:=()
def tw2506898188162737014:=()
def tw11752730298092579817:=()
def tw4918533795876546915:=()
def tw9788303201993833056:=()
def tw9793271586380534412:=()
def tw18017056108948887415:=()
def tw7256963945840068759:=()
def tw14751343995720504134:=()
def tw18212180062953016183:=()
def tw5747490452506899758:=()
def tw1759014761782840121:=()
def tw12249115735771048814:=()
def tw740693572832934548:=()
def tw596674893984554081:=()
def tw10080339679635572827:=()
def tw5690172544779807895:=()
def tw2261306045178960030:=()
def tw7184600301428810700:=()
def tw7644873947361169613:=()
def tw5632904285390480357:=()
def tw3513476577673543837:=()
def tw12522126852232683074:=()
def tw467649739807531902:=()
def tw16031784198182763094:=()
def tw6303251947220363960:=()
def tw15251461579944786027:=()
def tw3894512396792649629:=()
def tw12026666035420041700:=()
def tw201058178480005055:=()
def tw9843817447153811958:=()
def tw9970833946343412994:=()
def tw6316454123972049255:=()
def tw10960553765463567121:=()
def tw579431286982109860:=()
def tw10698820225779259022:=()
def tw309361992344523451:=()
def tw18304481590496138963:=()
def tw5957858363564236117:=()
def tw6297263614570248509:=()
def tw13822505155955593669:=()
def tw3490866557288422377:=()
def tw15789425016244838623:=()
def tw5967651354748906348:=()
def tw9610906441928035873:=()
def tw14555927369838323453:=()
def tw16234251057474927765:=()
def tw17103016774768304032:=()
def tw17451634836080382988:=()
def tw539914577697050782:=()
def tw2301251469549369442:=()
def tw4409375445637903803:=()
def tw6515121417151400407:=()
def tw277911215788367101:=()
def tw8535322416163619095:=()
def tw14913675461093086518:=()
def tw14574796701465461048:=()
def tw11090627400257852916:=()
def tw14227108615518740126:=()
def tw1928705934441366455:=()
def tw3394410715044663758:=()
def tw6455576036765870724:=()
def tw3552907455681959775:=()
def tw8493529953892012839:=()
def tw11248012629592442858:=()
def tw4391195156597179200:=()
def tw11932223420406875706:=()
def tw17208931650292889845:=()
def tw14310183419650885445:=()
def tw13646094323794887679:=()
def tw1102513059822936478:=()
def tw8697686870069489602:=()
def tw1770230651621822988:=()
def tw2335652832116287541:=()
def tw12228653119221517642:=()
def tw6616489232041213700:=()
def tw15031586560728823129:=()
def tw3250153081628797836:=()
def tw14217548401412275657:=()
def tw1890973904055006986:=()
def tw15101783021418900948:=()
def tw16169923932757500881:=()
def tw211569949425196819:=()
def tw2361615355892662423:=()
def tw1539120018420056676:=()
def tw10290822482109721020:=()
def tw4016017706669886609:=()
def tw17931724248161322111:=()
def tw2870606132046478224:=()
def tw16201955733266596016:=()
def tw4350558557016370720:=()
def tw16117461021224178447:=()
def tw6354743563332728022:=()
def tw4865501494911343703:=()
def tw14948715200629925175:=()
def tw14108144410098087243:=()
def tw4039002526971011285:=()
def tw9233288882590020175:=()
def tw1483213840581052957:=()
def tw12113957191979699066:=()
def tw13060632473358083798:=()
def tw11614957315502056847:=()
def tw12850209027574956025:=()
def tw14128856952634040094:=()
def tw15240306947729142283:=()
def tw1465261579799712715:=()
def tw14736583616920492088:=()
def tw18194255690041485928:=()
def tw15856161821171894566:=()
def tw904494453679018148:=()
def tw13702301628216637633:=()
def tw9529125240390434532:=()
def tw2464180549396634446:=()
def tw18098937186889584370:=()
def tw3902823275908138677:=()
def tw6305903526736861141:=()
def tw15791789428331659098:=()
def tw1414622119684944849:=()
def tw5147266280970837947:=()
def tw6265990028409504437:=()
def tw2017944738529706966:=()
def tw6686210673969082575:=()
def tw2228777414881686037:=()
def tw8914858865592966785:=()
def tw18248542778613836762:=()
def tw2380599644109688506:=()
def tw1278980803103160620:=()
def tw18110647174953732358:=()
def tw285384957009833246:=()
def tw5547406047699717929:=()
def tw14958071333274746812:=()
def tw10485689384261507866:=()
def tw52849373257555540:=()
def tw18241996017813121133:=()
def tw17849761596066118856:=()
def tw5292799435633473873:=()
def tw16667616923343921550:=()
def tw7771926286260744174:=()
def tw4025834782401940189:=()
def tw13993506282139810103:=()
def tw1256314175772974159:=()
def tw8445431159902611391:=()
def tw13512296863704189452:=()
def tw6439464024030086236:=()
def tw1542614223236838948:=()
def tw15605849744205158682:=()
def tw4615175570667983377:=()
def tw9776905709950508834:=()
def tw1442263121922709402:=()
def tw13939696486686265648:=()
def tw385987724008895934:=()
def tw18166996948792358610:=()
def tw13688982249619568375:=()
def tw10498815323026112958:=()
def tw5067770421740483830:=()
def tw8271291047677369343:=()
def tw5557156005015345873:=()
def tw10321794936586862799:=()
def tw6141635763485662136:=()
def tw12395159139371342255:=()
def tw9016422268666555820:=()
def tw4536869656020834558:=()
def tw7537234758029231345:=()
def tw14212979039437771159:=()
def tw1773725218814103238:=()
def tw236341004441304226:=()
def tw6148033186826712206:=()
def tw13927015670339372180:=()
def tw11473410005500968791:=()
def tw17514591543504369522:=()
def tw2518364619340539254:=()
def tw8521187117012206307:=()
def tw2719582523778617759:=()
def tw13334600517054767290:=()
def tw16732038261750723762:=()
def tw12317882995807115578:=()
def tw12830689873187153747:=()
def tw16686696289998909276:=()
def tw16280138386257821395:=()
def tw11932707533660176866:=()
def tw12563381261188759377:=()
def tw15939923051288983834:=()
def tw14557429358458923152:=()
def tw17866300506146748297:=()
def tw13803064767447857701:=()
def tw1699311938817429183:=()
def tw10333021463772012095:=()
def tw3182341959532150576:=()
def tw2308597509094701096:=()
def tw2264488734478351393:=()
def tw16143821094845433024:=()
def tw2122654391438046051:=()
def tw960344631728686856:=()
def tw15809834087195207628:=()
def tw3954529717041092123:=()
def tw9136987419599251753:=()
def tw2592211826146042366:=()
def tw12920903485446278646:=()
def tw15711457147578092063:=()
def tw8934178298329332660:=()
def tw13140018296541015337:=()
def tw9154315517503412494:=()
def tw3612745712110431428:=()
def tw4617575212703360870:=()
def tw11078008695520698172:=()
def tw7854478008766702946:=()
def tw16685592638590976076:=()
def tw7453153799834726731:=()
def tw10944119305028274592:=()
def tw17648386301449523473:=()
def tw10099821640830955414:=()
def tw6231008664699095266:=()
def tw11838356542671400041:=()
def tw2268399250588305591:=()
def tw2508014102708514218:=()
def tw7756201438281264715:=()
def tw15425488041080089926:=()
def tw18443561913993421321:=()
def tw6813076065441475177:=()
def tw6657249219240707970:=()
def tw14457767830257773670:=()
def tw8659897827377680241:=()
def tw13044967034780984405:=()
def tw11181788602804444734:=()
def tw17417527100644911412:=()
def tw14409560607520279211:=()
def tw3162172661758735918:=()
def tw9205961315364315749:=()
def tw11099495362543497879:=()
def tw3537862895038815820:=()
def tw9979475145153099686:=()
def tw11313777278723762962:=()
def tw6212599137155071768:=()
def tw15528039984078903151:=()
def tw8793000078000164039:=()
def tw16383268736239686016:=()
def tw3753608662837619353:=()
def tw13380109381047843557:=()
def tw14789055148634433727:=()
def tw15575010153937289898:=()
def tw6171322315859014338:=()
def tw12799647418366050049:=()
def tw11981304763845334411:=()
def tw15305180540744850603:=()
def tw13740766958777423613:=()
def tw7658824409157015712:=()
def tw11402773031738240377:=()
def tw7150870867792188302:=()
def tw17304801528664366204:=()
def tw234727915882406288:=()
def tw9371703460587637511:=()
def tw16948134373297179210:=()
def tw4658314411244356469:=()
def tw210927012884605551:=()
def tw8610297902932934028:=()
def tw12800466902397327920:=()
def tw10580793477410899274:=()
def tw5483437352616009559:=()
def tw8678721919924343634:=()
def tw6562649275084024297:=()
theorem te7946939166997059874:True:=trivial
end PySem.W.Fast
open PySem PySem.W PyProof.Rows
set_option maxRecDepth 100000 in
set_option maxHeartbeats 0 in
theorem PySem.Challenge.cw_helmsum_k82_own_wish_holds : PySem.Challenge.rw_helmsum_k82_own_wish.Holds := by
 w_on;o_law;k_head;(case hw=>w_witness2)
 k_fill
 refine Lw.walk (l:=PySem.Challenge.rw_helmsum_k82_own_wish) rfl rfl (λw h Y=>PySem.W.kIn_of Y) ?F
 case F =>
  intro w mg fa h KX G hmg;refine' Lw.all_mk KX G hmg ?aC ?a0 ?l0 ?c0 ?k0 ?a1 ?l1 ?c1 ?k1 ?a2 ?l2 ?c2 ?k2 ?a3 ?l3 ?c3 ?k3 ?a4 ?l4 ?c4 ?k4 ?a5 ?l5 ?c5 ?k5 ?a6 ?l6 ?c6 ?k6 ?a7 ?l7 ?c7 ?k7 ?a8 ?l8 ?c8 ?k8 ?a9 ?l9 ?c9 ?k9 ?a10 ?l10 ?c10 ?k10 ?a11 ?l11 ?c11 ?k11 ?a12 ?l12 ?c12 ?k12 ?a13 ?l13 ?c13 ?k13 ?a14 ?l14 ?c14 ?k14 ?a15 ?l15 ?c15 ?k15 ?a16 ?l16 ?c16 ?k16 ?a17 ?l17 ?c17 ?k17 ?a18 ?l18 ?c18 ?k18 ?a19 ?i19 ?l19 ?c19 ?k19 ?a20 ?l20 ?c20 ?k20 ?a21 ?l21 ?c21 ?k21 ?a22 ?l22 ?c22 ?k22 ?a23 ?l23 ?c23 ?k23 ?a24 ?l24 ?c24 ?k24 ?a25 ?l25 ?c25 ?k25 ?a26 ?l26 ?c26 ?k26 ?a27 ?l27 ?c27 ?k27 ?a28 ?l28 ?c28 ?k28 ?a29 ?l29 ?c29 ?k29 ?a30 ?l30 ?c30 ?k30 ?a31 ?l31 ?c31 ?k31 ?a32 ?l32 ?c32 ?k32 ?a33 ?l33 ?c33 ?k33 ?a34 ?l34 ?c34 ?k34 ?a35 ?l35 ?c35 ?k35 ?a36 ?l36 ?c36 ?k36 ?a37 ?l37 ?c37 ?k37 ?a38 ?l38 ?c38 ?k38 ?a39 ?i39 ?l39 ?c39 ?k39 ?a40 ?l40 ?c40 ?k40 ?ci0 ?ci1 ?ci2 ?pg ?hd ?po ?sa ?mk ?kc ?n_move ?n_states ?n_put ?n_ins ?n_look ?n_outs ?z_abs ?z_len ?z_min ?z_range ?z_int ?z_isinstance ?z_list ?z_bool ?z_tuple ?z_all ?z_enumerate ?z_sum ?z_zip ?z_reversed
  all_goals try k_is