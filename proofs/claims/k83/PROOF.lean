import PyProof.Rows.All
import Wide.All
import OpenK.AllK
import Wide.FinOn
import Lean
import PyProof.EqAt
import PyProof.EqKinds
import PyProof.TupleCall
import PyProof.NeKinds
import PySem.Challenge.RW_helmsum_k83_whole_courses_keep_their_wis
set_option Elab.async false
set_option linter.all false
set_option maxRecDepth 100000
abbrev ae:=@List.getD_eq_getElem?_getD
abbrev ah:=@Nat.le_trans
abbrev ai:=@List.getElem?_eq_getElem
abbrev aj:=@Nat.pow_le_pow_right
abbrev ao:=@List.mem_of_getElem?
abbrev ar:=@List.length_map
abbrev av:=@Nat.le_refl
abbrev ax:=@List.size_toArray
abbrev aA:=@List.mem_cons
abbrev aB:=@List.getElem?_map
abbrev aD:=@List.mem_append
abbrev aE:=@Nat.lt_of_lt_of_le
abbrev aF:=@Rat.intCast_mul
abbrev aG:=@List.getElem?_eq_some_iff
abbrev aI:=@Bool.false_ne_true
abbrev aJ:=@List.take_of_length_le
abbrev aK:=@Nat.lt_of_le_of_lt
abbrev aL:=@Nat.mul_le_mul_right
abbrev aN:=@List.mem_map
abbrev aP:=@List.mem_cons_of_mem
abbrev aU:=@Nat.ne_of_lt
abbrev aY:=@Nat.mul_le_mul
abbrev aZ:=@List.mem_append_right
abbrev be:=@List.not_mem_nil
abbrev bh:=@Int.fdiv_eq_ediv_of_nonneg
abbrev bq:=@Nat.zero_le
abbrev bu:=@Nat.le_of_lt
abbrev bx:=@List.length_append
abbrev bA:=@Rat.intCast_natCast
abbrev bB:=@List.getElem_mem
abbrev bG:=@Option.some.inj
abbrev bM:=@PySem.boot_len
abbrev bN:=@Nat.succ_le_succ
abbrev bO:=@List.getD_cons_zero
abbrev bP:=@List.getD_cons_succ
abbrev bS:=@List.mem_cons_self
abbrev bT:=@PySem.W.kia_one
abbrev bV:=@List.getElem?_eq_none
abbrev bW:=@Int.natAbs_dvd_natAbs
abbrev bX:=@Int.mul_assoc
abbrev bZ:=@Int.natAbs_natCast
abbrev b6:=@List.length_cons
abbrev cg:=@List.sum_cons
abbrev cv:=@List.length_range
abbrev cw:=@Int.natAbs_mul
abbrev cy:=@Nat.pow_le_pow_left
abbrev cB:=@Rat.div_def
abbrev cC:=@Nat.pow_add
abbrev cD:=@List.nodup_cons
abbrev cF:=@List.drop_eq_getElem_cons
abbrev cK:=@Int.gcd_dvd_left
abbrev cP:=@Nat.lt_irrefl
abbrev cZ:=@Rat.intCast_eq_zero_iff
abbrev dc:=@Nat.le_mul_of_pos_right
abbrev dd:=@List.nodup_append
abbrev de:=@Int.gcd_dvd_right
abbrev dh:=@List.getElem?_range
abbrev dj:=@Int.mul_comm
abbrev dr:=@Nat.mul_assoc
abbrev dt:=@Bool.and_eq_true
abbrev dA:=@List.length_singleton
abbrev dS:=@Nat.mul_comm
abbrev dU:=@List.sum_nil
abbrev eh:=@List.getElem_of_mem
abbrev eI:=@Nat.pow_succ
abbrev eJ:=@Int.emod_lt_of_pos
abbrev fk:=@Rat.intCast_inj
abbrev fm:=@Nat.le_of_dvd
abbrev fo:=@List.length_replicate
abbrev gJ:=@Nat.lt_succ_self
abbrev gK:=@List.lookup_cons
abbrev gM:=@Int.gcd_comm
abbrev gS:=@List.mem_or_eq_of_mem_set
abbrev gT:=@PySem.mem_of_lookup
abbrev gU:=@List.replicate_succ
abbrev gV:=@List.length_zipWith
abbrev gY:=@List.map_cons
abbrev gZ:=@List.eq_of_mem_replicate
abbrev ik:=@Nat.two_pow_pos
abbrev il:=@Int.emod_nonneg
abbrev iK:=@PySem.F.plainAttrs_list
abbrev iL:=@Nat.mul_pos
abbrev iM:=@List.getElem?_replicate
abbrev iN:=@Int.dvd_mul_of_dvd_left
abbrev jx:=@Nat.succ_mul
abbrev jy:=@Nat.le_mul_of_pos_left
abbrev jz:=@List.flatten_cons
abbrev jA:=@Int.natAbs_add_le
abbrev jR:=@List.mem_flatten
abbrev kC:=@Nat.pow_lt_pow_right
abbrev kD:=@List.replicate_succ'
abbrev kE:=@List.mem_of_mem_take
abbrev kF:=@List.getElem_zipWith
abbrev kI:=@Rat.intCast_add
abbrev kJ:=@Bool.eq_iff_iff
abbrev lN:=@Rat.zero_mul
abbrev mj:=@List.getElem?_append_right
abbrev mm:=@Int.eq_of_mul_eq_mul_right
abbrev nk:=@Nat.pow_mul
abbrev nu:=@Nat.le_succ
abbrev nv:=@List.reverse_cons
abbrev nA:=@List.append_assoc
abbrev nB:=@PySem.F.type_list_append
abbrev nC:=@PySem.F.slot_list_append
abbrev oC:=@List.all_eq_true
abbrev oE:=@Int.natCast_dvd_natCast
abbrev oF:=@Int.eq_ofNat_of_zero_le
abbrev oP:=@PySem.W.cellsFrom_some
abbrev oQ:=@Option.map_eq_some_iff
abbrev oR:=@Int.zero_add
abbrev qd:=@Rat.natCast_mul
abbrev qe:=@Rat.intCast_pow
abbrev qf:=@List.map_append
abbrev qh:=@Bool.beq_eq_decide_eq
abbrev qZ:=@Nat.one_mul
abbrev rd:=@List.mem_range
abbrev rf:=@List.mem_append_left
abbrev sG:=@List.length_reverse
abbrev sH:=@List.filterMap_cons
abbrev t7:=@Nat.one_le_two_pow
abbrev t8:=@List.mem_singleton
abbrev t9:=@Int.mul_nonpos_of_nonpos_of_nonneg
abbrev uc:=@Bool.false_eq_true
abbrev vC:=@Rat.mul_comm
abbrev vD:=@Nat.ne_of_gt
abbrev vE:=@List.ext_getElem?
abbrev wu:=@List.length_take
abbrev wx:=@List.getElem_map
abbrev xZ:=@Int.one_dvd
abbrev ya:=@Int.mul_pos
abbrev yb:=@Int.mul_le_mul_of_nonpos_left
abbrev yc:=@Int.dvd_gcd
abbrev yg:=@Rat.intCast_neg
abbrev yh:=@List.range_succ
abbrev yi:=@List.of_mem_zip
abbrev yj:=@List.length_set
abbrev yk:=@List.append_nil
abbrev yl:=@Int.gcd_pos_of_ne_zero_right
abbrev zX:=@List.nodup_nil
abbrev A3:=@List.getElem?_append_left
abbrev A4:=@Int.natAbs_ediv_of_nonneg
abbrev A8:=@Rat.mul_assoc
abbrev A9:=@Option.isSome_iff_exists
abbrev LR9:=List (List Rat)
abbrev FG9:=PySem.W.Frag
namespace L2
open PySem PySem.Spec PyProof.Rows
abbrev Key:=Sum Int Str
def zM:Key->Value->Bool
 | .inl k,v=>Value.isInt k v
 | .inr x,v=>Value.isStrOf x v
def CL (w:World):Key->Int
 | .inl k=>hashInt k
 | .inr x=>hashStr w x
theorem cW:∀{k:Key} {v:Value},zM k v=true->(∃i t,k=Sum.inl i/\v=Value.int i t)\/(∃x t,k=Sum.inr x/\v=Value.str x t)
 | .inl i,v,h=>by
  obtain ⟨t,e⟩:=Value.isInt_shape (k:=i) (v:=v) h;exact .inl ⟨i,t,rfl,e⟩
 | .inr x,v,h=>by
  obtain ⟨t,e⟩:=Value.isStrOf_shape (x:=x) (v:=v) h;exact .inr ⟨x,t,rfl,e⟩
theorem AQ (a b:Int):decide ((Sum.inl a:Key)=Sum.inl b)=(a == b):=by
 by_cases e:a=b
 ·subst e;simp
 ·have h:¬(Sum.inl a:Key)=Sum.inl b:=λq=>e (Sum.inl.inj q)
  rw[decide_eq_false h];exact (beq_eq_false_iff_ne.mpr e).symm
theorem AM (a b:Str):decide ((Sum.inr a:Key)=Sum.inr b)=decide (a=b):=by
 by_cases e:a=b
 ·subst e;simp
 ·have h:¬(Sum.inr a:Key)=Sum.inr b:=λq=>e (Sum.inr.inj q)
  rw[decide_eq_false h,decide_eq_false e]
theorem AO (a:Int) (b:Str):decide ((Sum.inl a:Key)=Sum.inr b)=false:=decide_eq_false (λq=>nomatch q)
theorem AN (a:Str) (b:Int):decide ((Sum.inr a:Key)=Sum.inl b)=false:=decide_eq_false (λq=>nomatch q)
def ve (prog:Program) (w:World):PySem.KeyKind prog w Key where
 is:=zM
 hash:=CL w
 inj:=λv a b ha hb=>by
  rcases cW ha with ⟨i,t,rfl,rfl⟩ | ⟨x,t,rfl,rfl⟩
  ·rcases cW hb with ⟨j,u,rfl,e⟩ | ⟨y,u,rfl,e⟩
   ·injection e with e1 _;rw[e1]
   ·exact nomatch e
  ·rcases cW hb with ⟨j,u,rfl,e⟩ | ⟨y,u,rfl,e⟩
   ·exact nomatch e
   ·injection e with e1 _;rw[e1]
 byValue:=λk v h=>by
  rcases cW h with ⟨i,t,rfl,rfl⟩ | ⟨x,t,rfl,rfl⟩ <;> rfl
 pyHash:=λhv h=>by
  rcases cW hv with ⟨i,t,rfl,rfl⟩ | ⟨x,t,rfl,rfl⟩
  ·exact wpAny_pyHash_int h
  ·exact wpAny_pyHash_str h
 eqBool:=λhu hv h=>by
  rcases cW hu with ⟨i,t,rfl,rfl⟩ | ⟨x,t,rfl,rfl⟩
  ·rcases cW hv with ⟨j,u,rfl,rfl⟩ | ⟨y,u,rfl,rfl⟩
   ·rw[AQ] at h;exact wpAny_eqBool_int h
   ·rw[AO] at h;exact SeqAt.EqAt.int_str i t y u _ _ _ _ h
  ·rcases cW hv with ⟨j,u,rfl,rfl⟩ | ⟨y,u,rfl,rfl⟩
   ·rw[AN] at h;exact SeqAt.EqAt.str_int x t j u _ _ _ _ h
   ·rw[AM] at h;exact wpAny_eqBool_str h
 «strs»:=λk x t v h=>by
  rcases cW h with ⟨i,u,rfl,e⟩ | ⟨y,u,rfl,e⟩
  ·exact nomatch e
  ·injection e with e1 _
   subst e1;cases v <;> rfl
inductive V where
  | non | bl (b : Bool) | int (i : Int) | str (x : Str) | byt (b : Array UInt8) | flt (b : UInt64) | ref (a : Addr) | ty (n : String)
  deriving DecidableEq

def RelV:V->Value->Prop
 | .non,u=>u=Value.none
 | .bl b,u=>u=Value.bool b
 | .int i,u=>∃t,u=Value.int i t
 | .str x,u=>∃t,u=Value.str x t
 | .byt b,u=>∃t,u=Value.bytes b t
 | .flt b,u=>∃t,u=Value.float b t
 | .ref a,u=>u=Value.ref a
 | .ty n,u=>u=Value.type n
abbrev bJ:List V->List Value->Prop:=Paired RelV
theorem bJ.length {xs:List V} {us:List Value} (r:bJ xs us):xs.length=us.length:=Paired.length r
theorem bJ.get:∀{xs:List V} {us:List Value} {i:Nat} {x:V},bJ xs us->xs[i]?=some x->∃u,us[i]?=some u/\RelV x u
 | _,_,_,_,.nil,e=>by simp at e
 | _,_,0,_,.cons r _,e=>by simp at e;subst e;exact ⟨_,rfl,r⟩
 | _,_,i+1,x,.cons _ t,e=>by
  obtain ⟨u,h1,h2⟩:=bJ.get (i:=i) (x:=x) t (by simpa using e);exact ⟨u,by simpa using h1,h2⟩
theorem bJ.set {x:V} {u:Value} (r:RelV x u):∀{xs:List V} {us:List Value} (i:Nat),bJ xs us->bJ (xs.set i x) (us.set i u)
 | _,_,_,.nil=>.nil
 | _,_,0,.cons _ t=>.cons r t
 | _,_,i+1,.cons q t=>.cons q (bJ.set r i t)
theorem bJ.append:∀{xs ys:List V} {us ws:List Value},bJ xs us->bJ ys ws->bJ (xs++ys) (us++ws)
 | _,_,_,_,.nil,s=>s
 | _,_,_,_,.cons r t,s=>.cons r (bJ.append t s)
theorem bJ.take:∀{xs:List V} {us:List Value} (n:Nat),bJ xs us->bJ (xs.take n) (us.take n)
 | _,_,0,_=>.nil
 | _,_,_+1,.nil=>.nil
 | _,_,n+1,.cons r t=>.cons r (bJ.take n t)
theorem bJ.drop:∀{xs:List V} {us:List Value} (n:Nat),bJ xs us->bJ (xs.drop n) (us.drop n)
 | _,_,0,r=>r
 | _,_,_+1,.nil=>.nil
 | _,_,n+1,.cons _ t=>bJ.drop n t
def uF:Option V->Option Value->Prop
 | some v,some u=>RelV v u
 | none,none=>True
 | _,_=>False
def KV {κ:Type}:List (κ×V)->List (κ×Value)->Prop:=Paired λ(p:κ×V) (q:κ×Value)=>p.1=q.1/\RelV p.2 q.2
def kV:Key->V
 | .inl i=>.int i
 | .inr x=>.str x
inductive HO where
 | lst (xs:List V)
 | tup (xs:List V)
 | dK (kvs:List (Key×V)) | dT (kvs:List (List Key×V))
 | set (S:Int->Bool) (n:Nat)
 | ins (C dx:Addr) (fs:List (Str×V))
 | own (x:Addr)
 | xd (fs:List (Str×V))
 | met (f x:Addr)
 | rng (lo hi:Int)
 | frz (o:Obj) (u:HO)
 | tbl (ps:Array Value)
 | ext (φ:Heap->Prop)
abbrev Hp:=Addr->Option HO
def upd (H:Hp) (a:Addr) (o:HO):Hp:=λb=>if b=a then some o else H b
theorem ay {H:Hp} {a:Addr} {o:HO}:upd H a o a=some o:=by unfold upd;rw[if_pos rfl]
theorem aH {H:Hp} {a b:Addr} {o:HO} (h:b≠a):upd H a o b=H b:=by unfold upd;rw[if_neg h]
theorem df {H:Hp} {a b:Addr} {o:HO} (h:H a=some o) (h':H b=none):a≠b:=by
 intro e;subst e;rw[h] at h';cases h'
section
variable (P:Program) (w:World)
def fg (H:Hp) (h:Heap) (a:Addr):HO->Prop
 | .lst xs=>xs.length<=sizeLine/\∃(its:List Value) (n:Nat),bJ xs its/\h.get? a=some { cls:=.type "list",data:=.seq its.toArray n }
 | .tup xs=>xs.length<=sizeLine/\∃its:List Value,bJ xs its/\IsTup h a its.toArray
 | .dK kvs=>kvs.length<=sizeLine/\(a == sysModules)=false/\∃vs,KV kvs vs/\h.DictOf (ve P w) a vs
 | .dT kvs=>kvs.length<=sizeLine/\(a == sysModules)=false/\∃xs:List (List Key×Addr×Value),
   Paired (λ(p:List Key×V) (q:List Key×Addr×Value)=>p.1=q.1/\H q.2.1=some (.tup (p.1.map kV))/\RelV p.2 q.2.2) kvs xs /\
   ∃o es ep,h.get? a=some o/\o.ExactDict/\o.data=.dict es ep/\es.toList=xs.map (entryOfKey (tupleKind (ve P w)))/\(xs.map (·.1)).Nodup
 | .set S n=>h.SetOf (intKind P w) a S n
 | .ins C dx fs=>H dx=some (.own a)/\fs.length<=1000/\dx≠a/\h.get? a=some (PySem.W.instObj C dx) /\
   ∃mA,h.Ns1 dx mA/\(∀f,uF (fs.lookup f) (mA f))/\PySem.Within mA (fs.map (·.1))
 | .own _=>∃o,h.get? a=some o
 | .xd fs=>∃mA,h.Ns1 a mA/\∀f,uF (fs.lookup f) (mA f)
 | .rng lo hi=>∃t u v,h.get? a=some { cls:=.type "range",data:=.fields #[.int lo t,.int hi u,.int 1 v] }
 | .frz o u=>h.get? a=some o/\fg H h a u
 | .tbl ps=>h.get? a=some { cls:=.none,data:=.fields ps }
 | .met f x=>h.get? a=some (PySem.W.methodObj (.ref f) (.ref x))
 | .ext φ=>φ h/\(∃o,h.get? a=some o)/\∀h1 h2:Heap,φ h1->(∀o,h1.get? a=some o->h2.get? a=some o)->φ h2
def oO (H:Hp) (h:Heap):Prop:=∀a o,H a=some o->fg P w H h a o
end
section
variable {P:Program} {w:World} {H H':Hp} {h h':Heap} {a:Addr} {o:HO}
theorem fg.lt (x:fg P w H h a o):a < h.objs.size:=by
 cases o with
 | lst xs=>obtain ⟨_,_,_,_,e⟩:=x;exact Heap.lt_size e
 | tup xs=>obtain ⟨_,_,_,p⟩:=x;exact p.lt
 | dK kvs=>obtain ⟨_,_,_,_,o,_,_,e,_⟩:=x;exact Heap.lt_size e
 | dT kvs=>obtain ⟨_,_,_,_,o,_,_,e,_⟩:=x;exact Heap.lt_size e
 | set S n=>obtain ⟨o,_,_,_,e,_⟩:=x;exact Heap.lt_size e
 | ins C dx fs=>obtain ⟨_,_,_,e,_⟩:=x;exact Heap.lt_size e
 | own y=>obtain ⟨_,e⟩:=x;exact Heap.lt_size e
 | xd fs=>obtain ⟨_,⟨_,_,_,e,_⟩,_⟩:=x;exact Heap.lt_size e
 | rng lo hi=>obtain ⟨_,_,_,e⟩:=x;exact Heap.lt_size e
 | frz ob u=>obtain ⟨e,_⟩:=x;exact Heap.lt_size e
 | tbl ps=>exact Heap.lt_size (show h.get? a=some _ from x)
 | met f y=>exact Heap.lt_size (show h.get? a=some _ from x)
 | ext φ=>obtain ⟨_,⟨_,e⟩,_⟩:=x;exact Heap.lt_size e
theorem Paired.mapP {α β:Type} {F G:α->β->Prop}:∀{l₁:List α} {l₂:List β},Paired F l₁ l₂->(∀a b,F a b->G a b)->Paired G l₁ l₂
 | _,_,.nil,_=>.nil
 | _,_,.cons r t,f=>.cons (f _ _ r) (Paired.mapP t f)
theorem Paired.imp' {α β:Type} {F G:α->β->Prop} (f:∀a b,F a b->G a b) {l₁:List α} {l₂:List β} (r:Paired F l₁ l₂):Paired G l₁ l₂:=Paired.mapP r f
theorem fg.stay (x:fg P w H h a o) (k:∀b u,(b=a\/H b=some (.own a))->h.get? b=some u->h'.get? b=some u)
  (ho:∀b,H b=some (.own a)->H' b=some (.own a)) (ht:∀b xs,H b=some (.tup xs)->H' b=some (.tup xs)):fg P w H' h' a o:=by
 induction o with
 | lst xs=>obtain ⟨z,its,n,r,e⟩:=x;exact ⟨z,its,n,r,k _ _ (.inl rfl) e⟩
 | tup xs=>obtain ⟨z,its,r,ob,e,c⟩:=x;exact ⟨z,its,r,ob,k _ _ (.inl rfl) e,c⟩
 | dK kvs=>obtain ⟨z,y,vs,r,ob,es,ep,e,c⟩:=x;exact ⟨z,y,vs,r,ob,es,ep,k _ _ (.inl rfl) e,c⟩
 | dT kvs =>
  obtain ⟨z,y,xs,r,ob,es,ep,e,c⟩:=x;exact ⟨z,y,xs,Paired.mapP r λp q z=>⟨z.1,ht _ _ z.2.1,z.2.2⟩,ob,es,ep,k _ _ (.inl rfl) e,c⟩
 | set S n=>obtain ⟨ob,es,ep,t,e,c⟩:=x;exact ⟨ob,es,ep,t,k _ _ (.inl rfl) e,c⟩
 | ins C dx fs =>
  obtain ⟨d,z,ne,e,mA,⟨od,es,ep,e2,c⟩,r⟩:=x;exact ⟨ho _ d,z,ne,k _ _ (.inl rfl) e,mA,⟨od,es,ep,k _ _ (.inr d) e2,c⟩,r⟩
 | own y=>obtain ⟨ob,e⟩:=x;exact ⟨ob,k _ _ (.inl rfl) e⟩
 | xd fs=>obtain ⟨mA,⟨od,es,ep,e,c⟩,r⟩:=x;exact ⟨mA,⟨od,es,ep,k _ _ (.inl rfl) e,c⟩,r⟩
 | rng lo hi=>obtain ⟨t,u,v,e⟩:=x;exact ⟨t,u,v,k _ _ (.inl rfl) e⟩
 | frz ob u ih=>obtain ⟨e,q⟩:=x;exact ⟨k _ _ (.inl rfl) e,ih q⟩
 | tbl ps =>
  have e:h.get? a=some { cls:=.none,data:=.fields ps }:=x;show h'.get? a=some { cls:=.none,data:=.fields ps }
  exact k a _ (.inl rfl) e
 | met f y =>
  have e:h.get? a=some (PySem.W.methodObj (.ref f) (.ref y)):=x;show h'.get? a=some (PySem.W.methodObj (.ref f) (.ref y))
  exact k a _ (.inl rfl) e
 | ext φ=>obtain ⟨p,⟨o,e⟩,st⟩:=x;exact ⟨st _ _ p λo q=>k _ _ (.inl rfl) q,⟨o,k _ _ (.inl rfl) e⟩,st⟩
theorem oO.lt (x:oO P w H h) (e:H a=some o):a < h.objs.size:=(x a o e).lt
theorem oO.fresh (x:oO P w H h) (e:h.objs.size<=a):H a=none:=by
 cases q:H a with
 | none=>rfl
 | some u=>exact absurd (aE (x.lt q) e) (cP _)
theorem oO.kept (x:oO P w H h) (k:∀b u,h.get? b=some u->h'.get? b=some u):oO P w H h':=λa o e =>
 (x a o e).stay (λb u _ q=>k b u q) (λ_ q=>q) λ_ _ q=>q
theorem oO.laid (x:oO P w H h) (k:∀b u,h.get? b=some u->h'.get? b=some u) (hp:h.objs.size<=a) (new:fg P w (upd H a o) h' a o):oO P w (upd H a o) h':=λb u e=>by
 have hn:=x.fresh hp;by_cases hb:b=a
 ·subst hb;rw[ay] at e;cases e;exact new
 ·rw[aH hb] at e;exact (x b u e).stay (λc v _ q=>k c v q) (λc q=>by rw[aH (df q hn)];exact q) λc xs q=>by rw[aH (df q hn)];exact q
end
def Rd (H:Hp) (a:Addr) (u:HO):Prop:=H a=some u\/∃o,H a=some (.frz o u)
theorem Rd.ok {P:Program} {w:World} {H:Hp} {h:Heap} {a:Addr} {u:HO} (r:Rd H a u) (x:oO P w H h):fg P w H h a u:=by
 rcases r with r | ⟨o,r⟩
 ·exact x a u r
 ·obtain ⟨_,q⟩:=x a _ r;exact q
def Cz:Option HO->Prop
 | some (.lst _)=>True
 | some (.dK _)=>True
 | some (.dT _)=>True
 | some (.set _ _)=>True
 | some (.ins _ _ _)=>True
 | some (.ext _)=>True
 | _=>False
section
variable {P:Program} {w:World} {H:Hp} {h h':Heap} {x e:Addr} {o':HO}
theorem oO.write (ok:oO P w H h) (mu:Cz (H x)) (he:e=x\/H e=some (.own x)) (k:∀b u,b≠e->h.get? b=some u->h'.get? b=some u) (heo:∃u,h'.get? e=some u)
  (new:fg P w (upd H x o') h' x o'):oO P w (upd H x o') h':=λb u q=>by
 have nown:∀c y,H c=some (.own y)->c≠x:=λc y r z=>by subst z;rw[r] at mu;exact mu
 have ntup:∀c xs,H c=some (.tup xs)->c≠x:=λc xs r z=>by subst z;rw[r] at mu;exact mu
 by_cases hb:b=x
 ·subst hb;rw[ay] at q;cases q;exact new
 ·rw[aH hb] at q;by_cases hbe:b=e
  ·have q':H b=some (.own x):=by
    rcases he with z | z
    ·exact absurd (hbe.trans z) hb
    ·rw[hbe];exact z
   rw[q] at q';cases q';obtain ⟨v,hv⟩:=heo;exact ⟨v,by rw[hbe];exact hv⟩
  ·refine (ok b u q).stay (λc v hc r=>k c v ?_ r) (λc r=>by rw[aH (nown c b r)];exact r) λc xs r=>by rw[aH (ntup c xs r)];exact r
   rcases hc with rfl | hc
   ·exact hbe
   ·rintro rfl;rcases he with z | z
    ·exact nown c b hc z
    ·rw[hc] at z;cases z;exact hb rfl
end
structure Un (fs ex:List Addr) (H H':Hp) (h h':Heap):Prop where
 keep:∀b o,h.get? b=some o->H b=none->b∉fs->b∉ex->h'.get? b=some o
 slot:∀b o,h.get? b=some o->H b=none->b∈fs->b∉ex->∃sl,h'.get? b=some { o with slots:=sl }
 free:∀b o,h.get? b=some o->H b=none->b∉ex->H' b=none
 there:∀b o,h.get? b=some o->b∉ex->∃o',h'.get? b=some o'
 tups:∀b xs,H b=some (.tup xs)->H' b=some (.tup xs)
 frzs:∀b o u,H b=some (.frz o u)->H' b=some (.frz o u)
 tbls:∀b ps,H b=some (.tbl ps)->∃more,H' b=some (.tbl (ps++more))
section
variable {fs fs' ex ex':List Addr} {H H1 H2:Hp} {h h1 h2 h':Heap} {a x e:Addr} {o:HO}
theorem Un.any (u:Un fs ex H H1 h h1) {b:Addr} {ob:Obj} (q:h.get? b=some ob) (n:H b=none) (hx:b∉ex):∃sl,h1.get? b=some { ob with slots:=sl }:=by
 by_cases hb:b∈fs
 ·exact u.slot b ob q n hb hx
 ·exact ⟨ob.slots,u.keep b ob q n hb hx⟩
theorem Un.kept (k:∀b u,h.get? b=some u->h'.get? b=some u):Un fs ex H H h h' :=
 ⟨λb ob q _ _ _=>k b ob q,λb ob q _ _ _=>⟨ob.slots,k b ob q⟩,λ_ _ _ n _=>n,λb ob q _=>⟨ob,k b ob q⟩,λ_ _ q=>q,λ_ _ _ q=>q,λ_ ps q=>⟨#[],by rw[q];simp⟩⟩
theorem Un.refl:Un fs ex H H h h:=Un.kept λ_ _ q=>q
theorem Un.laid (k:∀b u,h.get? b=some u->h'.get? b=some u) (hp:h.objs.size<=a) (hn:H a=none):Un fs ex H (upd H a o) h h' where
 keep:=λb u q _ _ _=>k b u q
 slot:=λb u q _ _ _=>⟨u.slots,k b u q⟩
 free:=λb u q n _=>by rw[aH (aU (aE (Heap.lt_size q) hp))];exact n
 there:=λb u q _=>⟨u,k b u q⟩
 tups:=λb xs q=>by rw[aH (df q hn)];exact q
 frzs:=λb u xs q=>by rw[aH (df q hn)];exact q
 tbls:=λb ps q=>⟨#[],by rw[aH (df q hn),q];simp⟩
theorem Un.write (mu:Cz (H x)) (he:e=x\/H e=some (.own x)) (k:∀b u,b≠e->h.get? b=some u->h'.get? b=some u) (heo:∃u,h'.get? e=some u):Un fs ex H (upd H x o) h h':=by
 have hx:∀b,H b=none->b≠x:=λb n z=>by subst z;rw[n] at mu;exact mu
 have hb:∀b,H b=none->b≠e:=λb n z=>by
  subst z;rcases he with r | r
  ·exact hx b n r
  ·rw[n] at r;cases r
 have hm:∀b u,H b=some u->¬Cz (some u)->b≠x:=λb u q nm z=>by subst z;rw[q] at mu;exact nm mu
 refine ⟨λb u q n _ _=>k b u (hb b n) q,λb u q n _ _=>⟨u.slots,k b u (hb b n) q⟩,λb u q n _=>by rw[aH (hx b n)];exact n,λb u q _=>?_,
  λb xs q=>by rw[aH (hm b _ q λz=>z)];exact q,λb u xs q=>by rw[aH (hm b _ q λz=>z)];exact q,λb ps q=>⟨#[],by rw[aH (hm b _ q λz=>z),q];simp⟩⟩
 by_cases hbe:b=e
 ·subst hbe;exact heo
 ·exact ⟨u,k b u hbe q⟩
end
def Cs (h:Heap) (H:Hp):List Addr:=(List.range h.objs.size).filter λa=>(H a).isSome
def rX (h:Heap) (H:Hp):Heap:=PySem.W.hideAll h (Cs h H)
theorem v5 (h:Heap) (H:Hp):(rX h H).objs.size=h.objs.size:=PySem.W.hideAll_size _ _
theorem xA {h:Heap} {H:Hp} {b:Addr} {o:Obj} (e:h.get? b=some o) (n:H b=none):(rX h H).get? b=some o :=
 PySem.W.hideAll_get _ e λhm=>by
  have q:(H b).isSome=true:=(List.mem_filter.mp hm).2;rw[n] at q;simp at q
theorem zd {h:Heap} {H:Hp} {b:Addr} {o:Obj} (e:(rX h H).get? b=some o):h.get? b=some o/\H b=none:=by
 have e':h.get? b=some o:=PySem.W.of_hideAll (Cs h H) e;refine ⟨e',?_⟩;cases q:H b with
 | none=>rfl
 | some x =>
  have hm:b∈Cs h H:=List.mem_filter.mpr ⟨rd.mpr (Heap.lt_size e'),by simp [q]⟩;have z:(rX h H).get? b=none:=PySem.W.hideAll_none (Cs h H) hm;rw[z] at e;cases e
structure Mod (K:FG9) (mg:Str->Option Value) (base:Heap):Prop where
 kin:K.In base
 glob:base.Ns mainGlobals mg
 blt:∃mb,base.Ns builtinsNs mb/\∀x:Str,x≠"__name__"->mb x=bootBuiltins x
 nolimit:base.NoLimit
structure Cx where
 prog:Program
 w:World
 K:FG9
 mg:Str->Option Value
 base:Heap
 A:Around
 N:List Str
 s₀:Shared
 H₀:Hp
 env:Env
 outer:List Env
 stack:List Env
 ex:List Addr
 fn:Str->Bool
 calm:Bool
 pn:List (Addr×Obj)
 xe:Value->Shared->Prop
def wo (l:List Env):List Addr:=l.filterMap (·.frame)
abbrev Cx.fs (X:Cx):List Addr:=wo X.outer
def CT (sc:Scope) (x:Str):Prop:=sc.names.lookup x=some .local\/sc.names.lookup x=some .cell\/sc.names.lookup x=some .free
def Loc (sc:Scope) (x:Str):Prop:=sc.names.lookup x=some .local\/sc.names.lookup x=some .cell
def Look (env:Env) (h:Heap) (m:Str->Option Value) (x:Str) (u:Value):Prop :=
 (env.kindOf x=some .local/\m x=some u)\/((env.kindOf x=some .cell\/env.kindOf x=some .free)/\∃c,env.cells.lookup x=some c/\h.IsCell c (some u))
structure Cx.Ok (X:Cx):Prop where
 mod:Mod X.K X.mg X.base
 kind:X.env.scope.kind=.function
 glob:X.env.globals=mainGlobals
 blt:X.env.builtins=builtinsNs
 above:X.s₀.heap.objs.size<=X.env.locals
 inj:∀x y c,X.env.cells.lookup x=some c->X.env.cells.lookup y=some c->x=y
 has:∀x,(X.env.kindOf x=some .cell\/X.env.kindOf x=some .free)->∃c,X.env.cells.lookup x=some c
 cab:∀x c,X.fn x=true->X.env.cells.lookup x=some c->X.s₀.heap.objs.size<=c
 hd:X.calm=true->X.A.handled=none
 frames:X.A.frames=some X.stack
 stk:X.stack=X.outer\/(X.stack=X.env :: X.outer/\X.env.frame=some X.env.locals)
 exf:∀b∈X.ex,b≠X.env.locals/\∀x c,X.env.cells.lookup x=some c->c≠b
 bs:∀b o,X.base.get? b=some o->X.s₀.heap.get? b=some o/\X.H₀ b=none
 bsz:X.base.objs.size<=X.s₀.heap.objs.size
 noex:∀b o,X.base.get? b=some o->b∉X.ex
 exfs:∀b∈X.ex,b∉X.fs
 funs:X.s₀.heap.FunFrames X.base X.outer
 frf:∀b∈X.fs,X.H₀ b=none
structure Inv (X:Cx) (pins:List (Addr×Obj)) (σ:List (Option V)) (H:Hp) (s:Shared):Prop where
 ok:X.Ok
 os:s.os=X.s₀.os
 bare:AllBare s.gens
 base:Un X.fs X.ex X.H₀ H X.s₀.heap s.heap
 loc:∃m,s.heap.Ns X.env.locals m/\∀(i:Nat) (x:Str) (v:V),X.N[i]?=some x->σ[i]?=some (some v)->CT X.env.scope x->∃u,RelV v u/\Look X.env s.heap m x u
 cell:∀x c,X.env.cells.lookup x=some c->∃v,s.heap.IsCell c v
 free:H X.env.locals=none
 freeC:∀x c,X.env.cells.lookup x=some c->H c=none
 pin:∀p∈X.pn++pins,s.heap.get? p.1=some p.2/\H p.1=none/\p.1≠X.env.locals/\p.1∉X.fs/\∀v,p.2.data≠.cell v
 hok:oO X.prog X.w H s.heap
 len:σ.length=X.N.length
section
variable {X:Cx} {pins:List (Addr×Obj)} {σ:List (Option V)} {H H':Hp} {s:Shared} {h':Heap}
theorem Cx.Ok.nofr (ok:X.Ok) {b:Addr} {o:Obj} (e:X.base.get? b=some o):b∉X.fs:=λhb=>by
 have:=(ok.funs.mem hb).1;rw[e] at this;cases this
theorem Inv.bs (I:Inv X pins σ H s):∀b o,X.base.get? b=some o->s.heap.get? b=some o/\H b=none:=λb o e =>
 ⟨I.base.keep b o (I.ok.bs b o e).1 (I.ok.bs b o e).2 (I.ok.nofr e) (I.ok.noex b o e),I.base.free b o (I.ok.bs b o e).1 (I.ok.bs b o e).2 (I.ok.noex b o e)⟩
theorem Inv.bk (I:Inv X pins σ H s):∀b o,X.base.get? b=some o->s.heap.get? b=some o:=λb o e=>(I.bs b o e).1
theorem Inv.mod (I:Inv X pins σ H s):Mod X.K X.mg X.base:=I.ok.mod
theorem Inv.kIn (I:Inv X pins σ H s):X.K.In s.heap:=I.ok.mod.kin.keeps I.bk
theorem Inv.lt (I:Inv X pins σ H s):X.env.locals < s.heap.objs.size:=let ⟨_,hn,_⟩:=I.loc;hn.lt
theorem Inv.sz (I:Inv X pins σ H s):X.s₀.heap.objs.size<=s.heap.objs.size:=ah I.ok.above (bu I.lt)
theorem Inv.nofs (I:Inv X pins σ H s) {a:Addr} (h:s.heap.objs.size<=a):a∉X.fs:=λhb=>by
 obtain ⟨_,o,ho,_⟩:=I.ok.funs.mem hb;exact absurd (aE (Heap.lt_size ho) (ah I.sz h)) (cP _)
theorem Inv.cne (I:Inv X pins σ H s):∀x c,X.env.cells.lookup x=some c->c≠X.env.locals:=λx c e z=>by
 obtain ⟨v,o,ho,hd⟩:=I.cell x c e;obtain ⟨m,⟨o',es,ep,ho',hd',_⟩,_⟩:=I.loc;rw[z,ho'] at ho;cases ho;rw[hd'] at hd;cases hd
theorem Inv.funs (I:Inv X pins σ H s):s.heap.FunFrames X.base X.outer:=by
 have all:∀(l:List Env),(∀b∈wo l,b∈X.fs)->X.s₀.heap.FunFrames X.base l->s.heap.FunFrames X.base l:=by
  intro l
  induction l with
  | nil=>intro _ _;trivial
  | cons env r ih =>
   intro hs hl;obtain ⟨hk,⟨L,o,hf,hn,ho,hd⟩,hr⟩:=hl;have hL:L∈X.fs:=hs L (by unfold wo;rw[sH,hf];exact bS);obtain ⟨sl,e⟩:=I.base.slot L o ho (I.ok.frf L hL) hL λz=>I.ok.exfs L z hL
   exact ⟨hk,⟨L,_,hf,hn,e,hd⟩,ih (λb hb=>hs b (by unfold wo;rw[sH,hf];exact aP _ hb)) hr⟩
 exact all X.outer (λ_ hb=>hb) I.ok.funs
theorem Inv.stack (I:Inv X pins σ H s):s.heap.FunFrames X.base X.stack:=by
 rcases I.ok.stk with e | ⟨e,hf⟩
 ·rw[e];exact I.funs
 ·rw[e];obtain ⟨m,hn,_⟩:=I.loc;refine .cons (by rw[I.ok.kind];decide) hf hn ?_ I.funs;exact Heap.get?_none_of_le (ah I.ok.bsz I.ok.above)
theorem Inv.stkSub (I:Inv X pins σ H s):∀b∈wo X.stack,b∈X.env.locals :: X.fs:=λb hb=>by
 rcases I.ok.stk with e | ⟨e,hf⟩
 ·rw[e] at hb;exact aP _ hb
 ·rw[e] at hb;unfold wo at hb;rw[sH,hf] at hb;exact hb
theorem Inv.stkFree (I:Inv X pins σ H s):∀b∈wo X.stack,H b=none:=λb hb=>by
 rcases aA.mp (I.stkSub b hb) with e | hb
 ·rw[e];exact I.free
 ·obtain ⟨_,o,ho,_⟩:=I.ok.funs.mem hb;exact I.base.free b o ho (I.ok.frf b hb) λz=>I.ok.exfs b z hb
theorem Inv.step {g':Array GenState} {t':Nat} {d':Drawn} {ch:List Addr} (I:Inv X pins σ H s)
  (hch:∀b∈ch,(b∈X.ex\/X.s₀.heap.objs.size<=b)/\b≠X.env.locals/\(∀x c,X.env.cells.lookup x=some c->c≠b)/\∀p∈X.pn++pins,p.1≠b)
  (keep:∀b o,b≠X.env.locals->b∉X.fs->b∉ch->s.heap.get? b=some o->H b=none->h'.get? b=some o)
  (slot:∀b o,b≠X.env.locals->b∈X.fs->b∉ch->s.heap.get? b=some o->H b=none->∃sl,h'.get? b=some { o with slots:=sl }) (free:∀b o,b∉ch->s.heap.get? b=some o->H b=none->H' b=none)
  (there:∀b o,b∉ch->s.heap.get? b=some o->∃o',h'.get? b=some o')
  (tups:∀b xs,H b=some (.tup xs)->H' b=some (.tup xs)) (frzs:∀b o u,H b=some (.frz o u)->H' b=some (.frz o u)) (tbls:∀b ps,H b=some (.tbl ps)->∃more,H' b=some (.tbl (ps++more)))
  (ns:∀m,s.heap.Ns X.env.locals m->h'.Ns X.env.locals m) (hok:oO X.prog X.w H' h') (hg:AllBare g') :
  Inv X pins σ H' { s with heap:=h',gens:=g',drawn:=d',toks:=t' }:=by
 have neL:∀b o,X.s₀.heap.get? b=some o->b≠X.env.locals:=λb o e=>aU (aE (Heap.lt_size e) I.ok.above)
 have neC:∀b o,X.s₀.heap.get? b=some o->b∉X.ex->b∉ch:=λb o e hx hb=>by
  rcases (hch b hb).1 with z | z
  ·exact hx z
  ·exact absurd (aE (Heap.lt_size e) z) (cP _)
 have cellK:∀x c,X.env.cells.lookup x=some c->∀v,s.heap.IsCell c v->h'.IsCell c v:=λx c e v ⟨o,ho,hd⟩=>by
  have nch:c∉ch:=λz=>(hch c z).2.2.1 x c e rfl
  by_cases hc:c∈X.fs
  ·obtain ⟨sl,q⟩:=slot c o (I.cne x c e) hc nch ho (I.freeC x c e);exact ⟨_,q,hd⟩
  ·exact ⟨o,keep c o (I.cne x c e) hc nch ho (I.freeC x c e),hd⟩
 refine ⟨I.ok,I.os,hg,⟨λb o e n hb hx=>?_,λb o e n hb hx=>?_,λb o e n hx=>?_,λb o e hx=>?_,λb xs e=>tups b xs (I.base.tups b xs e),λb o xs e=>frzs b o xs (I.base.frzs b o xs e),λb ps e=>?_⟩,?_,λx c e=>?_,?_,λx c e=>?_,λp hp=>?_,hok,I.len⟩
 ·exact keep b o (neL b o e) hb (neC b o e hx) (I.base.keep b o e n hb hx) (I.base.free b o e n hx)
 ·obtain ⟨sl,e1⟩:=I.base.slot b o e n hb hx;obtain ⟨sl',e2⟩:=slot b _ (neL b o e) hb (neC b o e hx) e1 (I.base.free b o e n hx);exact ⟨sl',e2⟩
 ·obtain ⟨o',e1⟩:=I.base.there b o e hx;exact free b o' (neC b o e hx) e1 (I.base.free b o e n hx)
 ·obtain ⟨o',e1⟩:=I.base.there b o e hx;exact there b o' (neC b o e hx) e1
 ·obtain ⟨m1,e1⟩:=I.base.tbls b ps e;obtain ⟨m2,e2⟩:=tbls b _ e1;exact ⟨m1++m2,by rw[e2,Array.append_assoc]⟩
 ·obtain ⟨m,hn,hl⟩:=I.loc;refine ⟨m,ns m hn,λi x v e1 e2 e3=>?_⟩;obtain ⟨u,r,l⟩:=hl i x v e1 e2 e3;refine ⟨u,r,?_⟩;rcases l with l | ⟨k,c,e,z⟩
  ·exact .inl l
  ·exact .inr ⟨k,c,e,cellK x c e _ z⟩
 ·obtain ⟨v,z⟩:=I.cell x c e;exact ⟨v,cellK x c e v z⟩
 ·obtain ⟨m,⟨o,_,_,ho,_⟩,_⟩:=I.loc;exact free _ o (λz=>(hch _ z).2.1 rfl) ho I.free
 ·obtain ⟨v,o,ho,hd⟩:=I.cell x c e;exact free c o (λz=>(hch c z).2.2.1 x c e rfl) ho (I.freeC x c e)
 ·obtain ⟨e,n,ne,nf,d⟩:=I.pin p hp;have nch:p.1∉ch:=λz=>(hch p.1 z).2.2.2 p hp rfl
  exact ⟨keep p.1 p.2 ne nf nch e n,free p.1 p.2 nch e n,ne,nf,d⟩
theorem Inv.un {t':Nat} (I:Inv X pins σ H s) (u:Un X.fs [] H H' s.heap h') (hok:oO X.prog X.w H' h'):Inv X pins σ H' { s with heap:=h',toks:=t' }:=by
 obtain ⟨m,⟨o,es,ep,ho,r⟩,_⟩:=id I.loc;obtain ⟨sl,hL⟩:=u.any ho I.free (by simp)
 exact I.step (g':=s.gens) (d':=s.drawn) (ch:=[]) (λ_ z=>nomatch z) (λb o _ hb _ e n=>u.keep b o e n hb (by simp)) (λb o _ hb _ e n=>u.slot b o e n hb (by simp)) (λb o _ e n=>u.free b o e n (by simp)) (λb o _ e=>u.there b o e (by simp)) u.tups u.frzs u.tbls (λm' hm=>by
  obtain ⟨o',es',ep',ho',r'⟩:=hm;rw[ho] at ho';cases ho';exact ⟨_,es',ep',hL,r'⟩) hok I.bare
theorem Inv.call {g':Array GenState} {t':Nat} {d':Drawn} {ch:List Addr} (I:Inv X pins σ H s) (u:Un (wo X.stack) ch H H' s.heap h') (hok:oO X.prog X.w H' h') (hg:AllBare g')
  (hch:∀b∈ch,(b∈X.ex\/X.s₀.heap.objs.size<=b)/\b≠X.env.locals/\(∀x c,X.env.cells.lookup x=some c->c≠b)/\∀p∈X.pn++pins,p.1≠b) :
  Inv X pins σ H' { s with heap:=h',gens:=g',drawn:=d',toks:=t' }:=by
 obtain ⟨m,⟨o,es,ep,ho,r⟩,_⟩:=id I.loc;obtain ⟨sl,hL⟩:=u.any ho I.free λz=>(hch _ z).2.1 rfl
 exact I.step (ch:=ch) hch (λb o hL hb hc e n=>u.keep b o e n (λz=>(aA.mp (I.stkSub b z)).elim hL hb) hc) (λb o _ _ hc e n=>u.any e n hc) (λb o hc e n=>u.free b o e n hc) (λb o hc e=>u.there b o e hc) u.tups u.frzs u.tbls (λm' hm=>by
  obtain ⟨o',es',ep',ho',r'⟩:=hm;rw[ho] at ho';cases ho';exact ⟨_,es',ep',hL,r'⟩) hok hg
theorem Inv.turned {t':Nat} {it:Addr} (I:Inv X pins σ H s) (k:∀b o,b≠it->s.heap.get? b=some o->h'.get? b=some o) (hn:H it=none) (hL:it≠X.env.locals)
  (h1:it∈X.ex\/X.s₀.heap.objs.size<=it) (h2:∀x c,X.env.cells.lookup x=some c->c≠it) (h3:∀p∈X.pn++pins,p.1≠it):Inv X pins σ H { s with heap:=h',toks:=t' }:=by
 have nit:∀b u,H b=some u->b≠it:=λb u e z=>by rw[z,hn] at e;cases e
 refine I.step (g':=s.gens) (d':=s.drawn) (ch:=[it]) (λb hb=>?_) (λb o _ _ hc e _=>k b o (λz=>hc (by simp [z])) e) (λb o _ _ hc e _=>⟨o.slots,k b o (λz=>hc (by simp [z])) e⟩) (λ_ _ _ _ n=>n)
  (λb o hc e=>⟨o,k b o (λz=>hc (by simp [z])) e⟩) (λ_ _ e=>e) (λ_ _ _ e=>e) (λb ps e=>⟨#[],by rw[e];simp⟩) (λm hm=>?_) (λb u e=>?_) I.bare
 ·have e:b=it:=by simpa using hb
  subst e;exact ⟨h1,hL,h2,h3⟩
 ·obtain ⟨o,es,ep,ho,r⟩:=hm;exact ⟨o,es,ep,k _ o (Ne.symm hL) ho,r⟩
 ·refine (I.hok b u e).stay (λc v hc q=>k c v ?_ q) (λ_ q=>q) λ_ _ q=>q
  rcases hc with z | z
  ·rw[z];exact nit b u e
  ·exact nit c _ z
theorem Inv.tok (I:Inv X pins σ H s) (t:Nat):Inv X pins σ H { s with toks:=t }:=I.un (h':=s.heap) (t':=t) Un.refl I.hok
theorem Inv.kept {t':Nat} (I:Inv X pins σ H s) (k:∀b u,s.heap.get? b=some u->h'.get? b=some u):Inv X pins σ H { s with heap:=h',toks:=t' }:=I.un (Un.kept k) (I.hok.kept k)
theorem Inv.laid {a:Addr} {o:HO} {t':Nat} (I:Inv X pins σ H s) (k:∀b u,s.heap.get? b=some u->h'.get? b=some u) (hp:s.heap.objs.size<=a) (new:fg X.prog X.w (upd H a o) h' a o) :
  Inv X pins σ (upd H a o) { s with heap:=h',toks:=t' }:=I.un (Un.laid k hp (I.hok.fresh hp)) (I.hok.laid k hp new)
theorem Inv.write {x e:Addr} {o:HO} {t':Nat} (I:Inv X pins σ H s) (mu:Cz (H x)) (he:e=x\/H e=some (.own x)) (k:∀b u,b≠e->s.heap.get? b=some u->h'.get? b=some u) (heo:∃u,h'.get? e=some u)
  (new:fg X.prog X.w (upd H x o) h' x o):Inv X pins σ (upd H x o) { s with heap:=h',toks:=t' }:=I.un (Un.write mu he k heo) (I.hok.write mu he k heo new)
theorem Inv.pins_of {pins':List (Addr×Obj)} (I:Inv X pins σ H s) (h:∀p∈pins',s.heap.get? p.1=some p.2/\H p.1=none/\p.1≠X.env.locals/\p.1∉X.fs/\∀v,p.2.data≠.cell v):Inv X pins' σ H s :=
 ⟨I.ok,I.os,I.bare,I.base,I.loc,I.cell,I.free,I.freeC,λp hp=>(aD.mp hp).elim (λz=>I.pin p (rf _ z)) (h p),I.hok,I.len⟩
theorem tI {N:List Str} (hN:N.Nodup) {i j:Nat} {x:Str} (a:N[i]?=some x) (b:N[j]?=some x):i=j:=by
 obtain ⟨h1,e1⟩:=aG.mp a;obtain ⟨h2,e2⟩:=aG.mp b;exact (List.getElem_inj hN).mp (e1.trans e2.symm)
theorem qv {M:Model} {A:Around} {E:Value->Shared->Prop} {i:Nat} {x:Str} {v:V} {u:Value} {Q:Unit->Shared->Prop} (I:Inv X pins σ H s) (hN:X.N.Nodup) (hi:X.N[i]?=some x) (hx:Loc X.env.scope x) (r:RelV v u)
  (h:∀s',Inv X pins (σ.set i (some v)) H s'->(∃a,Heap.SameBut a s.heap s'.heap/\(a=X.env.locals\/X.env.cells.lookup x=some a))->Q () s') (hf:X.fn x=true\/X.env.scope.names.lookup x=some .local:=by first | exact .inl rfl | exact .inr rfl | assumption):wpAny M A (storeName X.env x u) Q E s:=by
 obtain ⟨m,hn,hl⟩:=id I.loc;have hcls:(X.env.scope.kind == .class || (X.env.scope.kind == .module && X.env.locals != X.env.globals))=false:=by rw[I.ok.kind];rfl
 have hiσ:i < σ.length:=by rw[I.len];exact (aG.mp hi).1
 have cne:=I.cne
 have tracked:∀{a:Addr} {h':Heap},(∃o,s.heap.get? a=some o/\H a=none)->Heap.SameBut a s.heap h'->oO X.prog X.w H h':=λ{a h'} ha hs b ob e=>by
  obtain ⟨_,_,hfree⟩:=ha;refine (I.hok b ob e).stay (λc w' hc q=>(hs.2 c ?_).trans q) (λ_ q=>q) λ_ _ q=>q
  rintro rfl;rcases hc with rfl | hc
  ·rw[hfree] at e;cases e
  ·rw[hfree] at hc;cases hc
 rcases hx with hk | hk
 ·refine wpAny_storeName_local hk hn (λh' hn' hs=>?_) hcls;obtain ⟨oL,_,_,hoL,_⟩:=id hn;refine h _ ⟨I.ok,I.os,I.bare,⟨λb o e n hb hx=>?_,λb o e n hb hx=>?_,I.base.free,λb o e hx=>?_,I.base.tups,I.base.frzs,I.base.tbls⟩,⟨_,hn',λj y v' e1 e2 e3=>?_⟩,λy c e=>?_,I.free,I.freeC,λp hp=>?_,tracked ⟨oL,hoL,I.free⟩ hs,by simpa using I.len⟩ ⟨_,hs,.inl rfl⟩
  ·exact (hs.2 b (aU (aE (Heap.lt_size e) I.ok.above))).trans (I.base.keep b o e n hb hx)
  ·obtain ⟨sl,e1⟩:=I.base.slot b o e n hb hx;exact ⟨sl,(hs.2 b (aU (aE (Heap.lt_size e) I.ok.above))).trans e1⟩
  ·obtain ⟨o',e1⟩:=I.base.there b o e hx;exact ⟨o',(hs.2 b (aU (aE (Heap.lt_size e) I.ok.above))).trans e1⟩
  ·by_cases hj:j=i
   ·subst hj;rw[hi] at e1;cases e1;rw[List.getElem?_set_self hiσ] at e2;cases e2;exact ⟨u,r,.inl ⟨hk,by simp⟩⟩
   ·rw[List.getElem?_set_ne (Ne.symm hj)] at e2;obtain ⟨u',r',q⟩:=hl j y v' e1 e2 e3;refine ⟨u',r',?_⟩;rcases q with ⟨k,e⟩ | ⟨k,c,e,z⟩
    ·refine .inl ⟨k,?_⟩;have:y≠x:=λe=>hj (tI hN e1 (e ▸ hi))
     simp [this,e]
    ·exact .inr ⟨k,c,e,z.sameBut hs (cne y c e)⟩
  ·obtain ⟨w',z⟩:=I.cell y c e;exact ⟨w',z.sameBut hs (cne y c e)⟩
  ·obtain ⟨e,n,ne,nf,d⟩:=I.pin p hp;exact ⟨(hs.2 p.1 ne).trans e,n,ne,nf,d⟩
 ·have hfn:X.fn x=true:=by
   rcases hf with z | z
   ·exact z
   ·rw[z] at hk;cases hk
  obtain ⟨c,hc⟩:=I.ok.has x (.inl hk);obtain ⟨w',z⟩:=I.cell x c hc;refine wpAny_storeName_cell I.ok.kind hk hc z (λh' hc' hs=>?_);obtain ⟨oc,hoc,hocd⟩:=id z;refine h { s with heap:=h' } ⟨I.ok,I.os,I.bare,⟨λb o e n hb hx=>?_,λb o e n hb hx=>?_,I.base.free,λb o e hx=>?_,I.base.tups,I.base.frzs,I.base.tbls⟩,⟨m,hn.sameBut hs (Ne.symm (cne x c hc)),λj y v' e1 e2 e3=>?_⟩,λy c' e=>?_,I.free,I.freeC,λp hp=>?_,tracked ⟨oc,hoc,I.freeC x c hc⟩ hs,by simpa using I.len⟩ ⟨c,hs,.inr hc⟩
  ·exact (hs.2 b (aU (aE (Heap.lt_size e) (I.ok.cab x c hfn hc)))).trans (I.base.keep b o e n hb hx)
  ·obtain ⟨sl,e1⟩:=I.base.slot b o e n hb hx;exact ⟨sl,(hs.2 b (aU (aE (Heap.lt_size e) (I.ok.cab x c hfn hc)))).trans e1⟩
  ·obtain ⟨o',e1⟩:=I.base.there b o e hx;exact ⟨o',(hs.2 b (aU (aE (Heap.lt_size e) (I.ok.cab x c hfn hc)))).trans e1⟩
  ·by_cases hj:j=i
   ·subst hj;rw[hi] at e1;cases e1;rw[List.getElem?_set_self hiσ] at e2;cases e2;exact ⟨u,r,.inr ⟨.inl hk,c,hc,hc'⟩⟩
   ·rw[List.getElem?_set_ne (Ne.symm hj)] at e2;obtain ⟨u',r',q⟩:=hl j y v' e1 e2 e3;refine ⟨u',r',?_⟩;rcases q with q | ⟨k,c',e,z'⟩
    ·exact .inl q
    ·refine .inr ⟨k,c',e,z'.sameBut hs ?_⟩;rintro rfl;exact hj (tI hN e1 (I.ok.inj _ _ _ e hc ▸ hi))
  ·by_cases hcc:c'=c
   ·subst hcc;exact ⟨_,hc'⟩
   ·obtain ⟨w2,z2⟩:=I.cell y c' e;exact ⟨w2,z2.sameBut hs hcc⟩
  ·obtain ⟨e,n,ne,nf,d⟩:=I.pin p hp;refine ⟨(hs.2 p.1 ?_).trans e,n,ne,nf,d⟩;intro q;rw[q,hoc] at e;have q':oc=p.2:=bG e;exact d w' (by rw[<- q'];exact hocd)
theorem mM {M:Model} {A:Around} {E:Value->Shared->Prop} {i:Nat} {x:Str} {v:V} {u:Value} {Q:Unit->Shared->Prop} (I:Inv X pins σ H s) (hN:X.N.Nodup) (hi:X.N[i]?=some x) (hx:Loc X.env.scope x) (r:RelV v u)
  (h:∀s',Inv X pins (σ.set i (some v)) H s'->Q () s') (hf:X.fn x=true\/X.env.scope.names.lookup x=some .local:=by first | exact .inl rfl | exact .inr rfl | assumption):wpAny M A (storeName X.env x u) Q E s :=
 qv I hN hi hx r (λs' I' _=>h s' I') hf
theorem Inv.call' {s':Shared} {ch:List Addr} (I:Inv X pins σ H s) (ho:s'.os=s.os) (u:Un (wo X.stack) ch H H' s.heap s'.heap) (hok:oO X.prog X.w H' s'.heap) (hg:AllBare s'.gens)
  (hch:∀b∈ch,(b∈X.ex\/X.s₀.heap.objs.size<=b)/\b≠X.env.locals/\(∀x c,X.env.cells.lookup x=some c->c≠b)/\∀p∈X.pn++pins,p.1≠b):Inv X pins σ H' s':=by
 obtain ⟨h',g',d',t',o'⟩:=s';have e:o'=s.os:=ho;subst e;exact I.call (g':=g') (t':=t') (d':=d') u hok hg hch
end
abbrev XK:=Value->Option Addr->Hp->Prop
abbrev St:=List (Option V)
abbrev VK:=V->Hp->Prop
abbrev TE:=St->Hp->VK->Prop
abbrev TT:=St->Hp->(Bool->Hp->Prop)->Prop
abbrev TA:=St->Hp->(List V->Hp->Prop)->Prop
structure Ends where
 nx:St->Hp->Prop
 rt:VK
 bk:St->Hp->Prop:=λ_ _=>False
 ct:St->Hp->Prop:=λ_ _=>False
abbrev TS:=Ends->St->Hp->Prop
def EP (X:Cx) (pins:List (Addr×Obj)) (σ:St) (Q:VK) (u:Value) (s':Shared):Prop:=∃v H',Inv X pins σ H' s'/\RelV v u/\Q v H'
def TP (X:Cx) (pins:List (Addr×Obj)) (σ:St) (Q:Bool->Hp->Prop) (b:Bool) (s':Shared):Prop:=∃H',Inv X pins σ H' s'/\Q b H'
def AP (X:Cx) (pins:List (Addr×Obj)) (σ:St) (Q:List V->Hp->Prop) (us:List Value) (s':Shared):Prop:=∃vs H',Inv X pins σ H' s'/\bJ vs us/\Q vs H'
def SP (X:Cx) (pins:List (Addr×Obj)) (D:Ends) (f:Flow) (s':Shared):Prop :=
 match f with
 | .next=>∃σ' H',Inv X pins σ' H' s'/\D.nx σ' H'
 | .brk=>∃σ' H',Inv X pins σ' H' s'/\D.bk σ' H'
 | .cont=>∃σ' H',Inv X pins σ' H' s'/\D.ct σ' H'
 | .ret u=>∃v σ' H',Inv X pins σ' H' s'/\RelV v u/\D.rt v H'
def PE (X:Cx) (e:Expr) (t:TE):Prop :=
 ∀(pins:List (Addr×Obj)) (s:Shared) (σ:St) (H:Hp) (Q:VK),Inv X pins σ H s->t σ H Q->wpAny (model X.prog X.w) X.A (eval e X.env) (EP X pins σ Q) X.xe s
def PT (X:Cx) (e:Expr) (t:TT):Prop :=
 ∀(pins:List (Addr×Obj)) (s:Shared) (σ:St) (H:Hp) (Q:Bool->Hp->Prop),Inv X pins σ H s->t σ H Q->wpAny (model X.prog X.w) X.A (isTrue e X.env (eval e X.env)) (TP X pins σ Q) X.xe s
def PW (X:Cx) (e:Expr) (t:TT):Prop :=
 ∀(whole:Sem Value) (pins:List (Addr×Obj)) (s:Shared) (σ:St) (H:Hp) (Q:Bool->Hp->Prop),Inv X pins σ H s->t σ H Q->wpAny (model X.prog X.w) X.A (isTrue e X.env whole) (TP X pins σ Q) X.xe s
theorem PW.pt {X:Cx} {e:Expr} {t:TT} (h:PW X e t):PT X e t:=h _
def PA (X:Cx) (es:List Expr) (t:TA):Prop :=
 ∀(pos:Pos) (pins:List (Addr×Obj)) (s:Shared) (σ:St) (H:Hp) (Q:List V->Hp->Prop),Inv X pins σ H s->t σ H Q->wpAny (model X.prog X.w) X.A (spliced (backTo pos (starEach es X.env))) (AP X pins σ Q) X.xe s
def PS (X:Cx) (st:Stmt) (t:TS):Prop :=
 ∀(pins:List (Addr×Obj)) (s:Shared) (σ:St) (H:Hp) (D:Ends),Inv X pins σ H s->t D σ H->wpAny (model X.prog X.w) X.A (exec st X.env) (SP X pins D) X.xe s
def uH (X:Cx) (st:List Stmt) (t:TS):Prop :=
 ∀(pins:List (Addr×Obj)) (s:Shared) (σ:St) (H:Hp) (D:Ends),Inv X pins σ H s->t D σ H->wpAny (model X.prog X.w) X.A (execs st X.env) (SP X pins D) X.xe s
theorem dJ {α:Type} {t:Sem α} {Q Q':α->Shared->Prop} {M:Model} {A:Around} {E:Value->Shared->Prop} {s:Shared} (h:wpAny M A t Q E s) (hQ:∀a s,Q a s->Q' a s):wpAny M A t Q' E s:=wpAny_mono h hQ λ_ _ x=>x
section
variable {X:Cx}
def z5 (i:Nat):TE:=λσ H Q=>∃v,σ[i]?=some (some v)/\Q v H
def tC (v:V):TE:=λ_ H Q=>Q v H
theorem Az {i:Nat} {x:Str} {pos:Pos} (hN:X.N[i]?=some x) (hv:CT X.env.scope x) (hd:(x == ("__debug__":Str))=false:=by decide) (hcd:(x == ("__classdict__":Str))=false:=by decide):PE X (.Name x pos) (z5 i):=by
 intro pins s σ H Q I h;obtain ⟨v,e,h⟩:=h;obtain ⟨m,hn,hl⟩:=I.loc;obtain ⟨u,r,l⟩:=hl i x v hN e hv;have fin:EP X pins σ Q u s:=⟨v,H,I,r,h⟩;rcases l with ⟨hk,hm⟩ | ⟨hk,c,hc,hcell⟩
 ·exact wpAny_Name (wpAny_loadName_local I.ok.kind hk hn hm fin) hd
 ·rcases hk with hk | hk
  ·exact wpAny_Name (wpAny_loadName_cell I.ok.kind hk hc hcell fin) hd
  ·exact wpAny_Name (wpAny_loadName_free I.ok.kind hk hc hcell fin hcd) hd
theorem af {i j pos}:PE X (.Constant (.int i) j pos) (tC (.int i)):=λ_ _ _ H _ I h=>wpAny_Constant_int ⟨.int i,H,I.tok _,⟨_,rfl⟩,h⟩
theorem mP {b j pos}:PE X (.Constant (.bool b) j pos) (tC (.bl b)):=λ_ _ _ H _ I h=>Constant_bool ⟨.bl b,H,I,rfl,h⟩
def Gl (X:Cx) (x:Str):Prop:=X.env.kindOf x=some .globalImplicit
theorem rS {E:Value->Shared->Prop} {pins:List (Addr×Obj)} {s:Shared} {σ:St} {H:Hp} {x:Str} {u:Value} {pos:Pos} {Q:Value->Shared->Prop} (I:Inv X pins σ H s) (hg:Gl X x) (hm:X.mg x=some u) (h:Q u s)
  (hd:(x == ("__debug__":Str))=false:=by decide):wpAny (model X.prog X.w) X.A (eval (.Name x pos) X.env) Q E s :=
 Calls.Name_function_global I.ok.kind hg (Calls.loadGlobal_global (by rw[I.ok.glob];exact I.mod.glob.keeps I.bk) hm h) hd
theorem iH {E:Value->Shared->Prop} {pins:List (Addr×Obj)} {s:Shared} {σ:St} {H:Hp} {x:Str} {u:Value} {pos:Pos} {Q:Value->Shared->Prop} (I:Inv X pins σ H s) (hg:Gl X x) (hm:X.mg x=none) (hv:bootBuiltins x=some u) (h:Q u s)
  (hn:x≠"__name__":=by decide) (hd:(x == ("__debug__":Str))=false:=by decide):wpAny (model X.prog X.w) X.A (eval (.Name x pos) X.env) Q E s:=by
 obtain ⟨mb,h1,h2⟩:=I.mod.blt;exact Calls.Name_function_global I.ok.kind hg (Calls.loadGlobal_builtin (by rw[I.ok.glob];exact I.mod.glob.keeps I.bk) hm (by rw[I.ok.blt];exact h1.keeps I.bk) ((h2 x hn).trans hv) h) hd
theorem rH {x:Str} {v:V} {u:Value} {pos:Pos} (hg:Gl X x) (hm:X.mg x=some u) (r:RelV v u) (hd:(x == ("__debug__":Str))=false:=by decide):PE X (.Name x pos) (tC v) :=
 λ_ _ _ H _ I h=>rS I hg hm ⟨v,H,I,r,h⟩ hd
theorem vb {x:Str} {v:V} {u:Value} {pos:Pos} (hg:Gl X x) (hm:X.mg x=none) (hv:bootBuiltins x=some u) (r:RelV v u) (hn:x≠"__name__":=by decide) (hd:(x == ("__debug__":Str))=false:=by decide):PE X (.Name x pos) (tC v) :=
 λ_ _ _ H _ I h=>iH I hg hm hv ⟨v,H,I,r,h⟩ hn hd
variable {a b:Expr} {ta tb:TE} {pos:Pos}
def tB (t:TE):TT:=λσ H Q=>t σ H λx H1=>∃c,x=.bl c/\Q c H1
theorem iz {e : Expr} {t : TE} (h : PE X e t) (he : ∀ whole, isTrue e X.env whole = (do let v <- whole; standAt e.pos; holding [v] (truthy v)) := by intro _; rfl) : PT X e (tB t) := by
  intro pins s σ H Q I hw;refine isTrue_plain (dJ (h pins s σ H _ I hw) λv s1 ⟨x, H1, I1, r1, q1⟩ => ?_) (he _);obtain ⟨d, rfl, q⟩ := q1;cases r1;exact wpAny_truthy_bool ⟨H1, I1, q⟩

variable {tA tB':TT} {rest:List Expr}
def Bs (t u:TT):TT:=λσ H Q=>t σ H λc H1=>if c=true then u σ H1 Q else Q false H1
def tOr (t u:TT):TT:=λσ H Q=>t σ H λc H1=>if c=true then Q true H1 else u σ H1 Q
def Bn (t:TT):TT:=λσ H Q=>t σ H λc H1=>Q (!c) H1
theorem g8 (ha:PT X a tA):PW X (.BoolOp .And [a] pos) tA:=by
 intro wh pins s σ H Q I h;refine isTrue_and (dJ (ha pins s σ H Q I h) λc s1 e=>?_);cases c with
 | true=>exact isTrue_and_nil e
 | false=>exact e
theorem jB (ha:PT X a tA):PW X (.BoolOp .Or [a] pos) tA:=by
 intro wh pins s σ H Q I h;refine isTrue_or (dJ (ha pins s σ H Q I h) λc s1 e=>?_);cases c with
 | false=>exact isTrue_or_nil e
 | true=>exact e
theorem fQ (ha:PT X a tA) (hb:PW X (.BoolOp .And (b :: rest) pos) tB'):PW X (.BoolOp .And (a :: b :: rest) pos) (Bs tA tB'):=by
 intro wh pins s σ H Q I h;refine isTrue_and (dJ (ha pins s σ H _ I h) λc s1 ⟨H1,I1,q1⟩=>?_);cases c with
 | true=>exact hb wh pins s1 σ H1 Q I1 q1
 | false=>exact ⟨H1,I1,q1⟩
theorem lS (ha:PT X a tA) (hb:PW X (.BoolOp .Or (b :: rest) pos) tB'):PW X (.BoolOp .Or (a :: b :: rest) pos) (tOr tA tB'):=by
 intro wh pins s σ H Q I h;refine isTrue_or (dJ (ha pins s σ H _ I h) λc s1 ⟨H1,I1,q1⟩=>?_);cases c with
 | true=>exact ⟨H1,I1,q1⟩
 | false=>exact hb wh pins s1 σ H1 Q I1 q1
theorem jC (ha:PT X a tA):PT X (.UnaryOp .Not a pos) (Bn tA):=by
 intro pins s σ H Q I h;exact isTrue_not (ha pins s σ H (λc H1=>Q (!c) H1) I h)
def zH (ta tb:TE):TE:=λσ H Q=>ta σ H λx H1=>∃c,x=.bl c/\if c=true then tb σ H1 Q else Q (.bl false) H1
def zC (ta:TE):TE:=λσ H Q=>ta σ H λx H1=>∃c,x=.bl c/\Q (.bl (!c)) H1
theorem rG {op} {t:TE} (h:PE X a t):PE X (.BoolOp op [a] pos) t:=λpins s σ H Q I hw=>BoolOp_one (h pins s σ H Q I hw)
theorem rJ (ha:PE X a ta) (hb:PE X (.BoolOp .And (b :: rest) pos) tb):PE X (.BoolOp .And (a :: b :: rest) pos) (zH ta tb):=by
 intro pins s σ H Q I h;refine BoolOp_and (dJ (ha pins s σ H _ I h) λv s1 ⟨x,H1,I1,r1,q1⟩=>?_);obtain ⟨c,rfl,q1⟩:=q1;cases r1;refine wpAny_truthy_bool ?_;cases c with
 | true=>exact hb pins s1 σ H1 Q I1 q1
 | false=>exact ⟨.bl false,H1,I1,rfl,q1⟩
theorem AA (ha:PE X a ta):PE X (.UnaryOp .Not a pos) (zC ta):=by
 intro pins s σ H Q I h;refine UnaryOp_ (dJ (ha pins s σ H _ I h) λv s1 ⟨x,H1,I1,r1,q1⟩=>?_);obtain ⟨c,rfl,q1⟩:=q1;cases r1;exact not_of (wpAny_truthy_bool ⟨.bl (!c),H1,I1,rfl,q1⟩)
def tIf (t:TT) (ta tb:TE):TE:=λσ H Q=>t σ H λc H1=>if c=true then ta σ H1 Q else tb σ H1 Q
theorem xj {c:Expr} (hc:PT X c tA) (ha:PE X a ta) (hb:PE X b tb):PE X (.IfExp c a b pos) (tIf tA ta tb):=by
 intro pins s σ H Q I h;refine wpAny_IfExp (dJ (hc pins s σ H _ I h) λd s1 ⟨H1,I1,q1⟩=>?_);cases d with
 | true=>exact ha pins s1 σ H1 Q I1 q1
 | false=>exact hb pins s1 σ H1 Q I1 q1
end
def bL (K:FG9) (H:Hp) (a:Addr) (xs:List V):Prop :=
 Rd H a (.lst xs) \/
  ∃(o:Obj) (its:Array Value) (n:Nat),K.lookup a=some o/\o.cls=.type "list"/\o.dict=none/\o.data=.seq its n/\its.size<=sizeLine/\bJ xs its.toList
def lO (K:FG9) (H:Hp) (a:Addr) (xs:List V):Prop :=
 Rd H a (.tup xs) \/
  ∃(o:Obj) (its:Array Value) (n:Nat),K.lookup a=some o/\o.cls=.type "tuple"/\o.data=.seq its n/\its.size<=sizeLine/\bJ xs its.toList
def CS:Value->Option V
 | .none=>some .non
 | .bool b=>some (.bl b)
 | .int i _=>some (.int i)
 | .str x _=>some (.str x)
 | .bytes b _=>some (.byt b)
 | .float b _=>some (.flt b)
 | .ref a=>some (.ref a)
 | .type n=>some (.ty n)
 | _=>none
theorem RelV.abs {x:V} {u:Value} (r:RelV x u):CS u=some x:=by
 cases x with
 | non=>cases r;rfl
 | bl _=>cases r;rfl
 | int _=>obtain ⟨t,rfl⟩:=r;rfl
 | str _=>obtain ⟨t,rfl⟩:=r;rfl
 | byt _=>obtain ⟨t,rfl⟩:=r;rfl
 | flt _=>obtain ⟨t,rfl⟩:=r;rfl
 | ref _=>cases r;rfl
 | ty _=>cases r;rfl
theorem RelV.inj {x y:V} {u:Value} (r:RelV x u) (q:RelV y u):x=y:=bG (r.abs.symm.trans q.abs)
theorem bJ.inj:∀{xs ys:List V} {us:List Value},bJ xs us->bJ ys us->xs=ys
 | _,_,_,.nil,.nil=>rfl
 | _,_,_,.cons r t,.cons r' t'=>by rw[r.inj r',bJ.inj t t']
section
variable {X:Cx} {pins:List (Addr×Obj)} {σ:St} {H:Hp} {s:Shared} {a:Addr} {xs ys:List V}
theorem bL.of {K:FG9} (h:H a=some (.lst xs)):bL K H a xs:=.inl (.inl h)
theorem lO.of {K:FG9} (h:H a=some (.tup xs)):lO K H a xs:=.inl (.inl h)
theorem Inv.list (I:Inv X pins σ H s) (h:bL X.K H a xs):∃its:List Value,bJ xs its/\PlainL s.heap a its.toArray/\xs.length<=sizeLine:=by
 rcases h with h | ⟨o,its,n,hk,hc,hd,hs,hz,r⟩
 ·obtain ⟨z,its,n,r,e⟩:=h.ok I.hok;exact ⟨its,r,⟨_,n,e,rfl,rfl,rfl⟩,z⟩
 ·refine ⟨its.toList,r,⟨o,n,I.kIn a o hk,hc,hd,by simpa using hs⟩,?_⟩;have e:=r.length;simp only[Array.length_toList] at e
  lia
theorem Inv.tuple (I:Inv X pins σ H s) (h:lO X.K H a xs):∃its:List Value,bJ xs its/\IsTup s.heap a its.toArray/\xs.length<=sizeLine:=by
 rcases h with h | ⟨o,its,n,hk,hc,hs,hz,r⟩
 ·obtain ⟨z,its,r,p⟩:=h.ok I.hok;exact ⟨its,r,p,z⟩
 ·refine ⟨its.toList,r,⟨o,I.kIn a o hk,hc,n,by simpa using hs⟩,?_⟩;have e:=r.length;simp only[Array.length_toList] at e
  lia
theorem Inv.list_inj (I:Inv X pins σ H s) (h:bL X.K H a xs) (h':bL X.K H a ys):xs=ys:=by
 obtain ⟨its,r,⟨o,n,e,_,_,d⟩,_⟩:=I.list h;obtain ⟨its',r',⟨o',n',e',_,_,d'⟩,_⟩:=I.list h';rw[e] at e';cases e';rw[d] at d';injection d' with d1 _
 have:its=its':=by simpa using congrArg Array.toList d1
 subst this;exact r.inj r'
theorem Inv.tuple_inj (I:Inv X pins σ H s) (h:lO X.K H a xs) (h':lO X.K H a ys):xs=ys:=by
 obtain ⟨its,r,⟨o,e,_,n,d⟩,_⟩:=I.tuple h;obtain ⟨its',r',⟨o',e',_,n',d'⟩,_⟩:=I.tuple h';rw[e] at e';cases e';rw[d] at d';injection d' with d1 _
 have:its=its':=by simpa using congrArg Array.toList d1
 subst this;exact r.inj r'
end
abbrev Cx.wish (X:Cx) (E:Value->Shared->Prop):Cx:={ X with xe:=E }
abbrev Cx.nox (X:Cx):Cx:=X.wish λ_ _=>False
theorem Cx.Ok.wish {X:Cx} (ok:X.Ok) (E:Value->Shared->Prop):(X.wish E).Ok :=
 ⟨ok.mod,ok.kind,ok.glob,ok.blt,ok.above,ok.inj,ok.has,ok.cab,ok.hd,ok.frames,ok.stk,ok.exf,ok.bs,ok.bsz,ok.noex,ok.exfs,ok.funs,ok.frf⟩
theorem Cx.Ok.unwish {X:Cx} {E:Value->Shared->Prop} (ok:(X.wish E).Ok):X.Ok :=
 ⟨ok.mod,ok.kind,ok.glob,ok.blt,ok.above,ok.inj,ok.has,ok.cab,ok.hd,ok.frames,ok.stk,ok.exf,ok.bs,ok.bsz,ok.noex,ok.exfs,ok.funs,ok.frf⟩
section
variable {X:Cx} {pins:List (Addr×Obj)} {σ:St} {H:Hp} {s:Shared} {E:Value->Shared->Prop}
theorem Inv.wish (I:Inv X pins σ H s) (E:Value->Shared->Prop):Inv (X.wish E) pins σ H s:=⟨I.ok.wish E,I.os,I.bare,I.base,I.loc,I.cell,I.free,I.freeC,I.pin,I.hok,I.len⟩
theorem Inv.unwish (I:Inv (X.wish E) pins σ H s):Inv X pins σ H s:=⟨I.ok.unwish,I.os,I.bare,I.base,I.loc,I.cell,I.free,I.freeC,I.pin,I.hok,I.len⟩
theorem SP.unwish {D:Ends} {f:Flow} {s':Shared} (h:SP (X.wish E) pins D f s'):SP X pins D f s':=by
 cases f with
 | next=>obtain ⟨σ',H',I,q⟩:=h;exact ⟨σ',H',I.unwish,q⟩
 | brk=>obtain ⟨σ',H',I,q⟩:=h;exact ⟨σ',H',I.unwish,q⟩
 | cont=>obtain ⟨σ',H',I,q⟩:=h;exact ⟨σ',H',I.unwish,q⟩
 | ret u=>obtain ⟨v,σ',H',I,r,q⟩:=h;exact ⟨v,σ',H',I.unwish,r,q⟩
theorem uH.nox {st:List Stmt} {t:TS} (h:uH X.nox st t):uH X st t:=λpins s σ H D I hw =>
 wpAny_mono (h pins s σ H D (I.wish _) hw) (λ_ _ q=>q.unwish) λ_ _ z=>False.elim z
end
section
variable {X:Cx} {st:Stmt} {rest:List Stmt} {t u:TS} {e:Expr} {te:TE} {pos:Pos}
def zD:TS:=λD σ H=>D.nx σ H
def Bi (t u:TS):TS:=λD σ H=>t { D with nx:=u D } σ H
theorem bC:uH X [] zD:=λ_ _ σ H _ I h=>wpAny_execs_nil ⟨σ,H,I,h⟩
theorem ak (h1:PS X st t) (h2:uH X rest u):uH X (st :: rest) (Bi t u):=by
 intro pins s σ H D I h;refine wpAny_execs_cons (dJ (h1 pins s σ H { D with nx:=u D } I h) λf s1 q=>?_);cases f with
 | next =>
  obtain ⟨σ',H',I',q⟩:=q;exact h2 pins s1 σ' H' D I' q
 | ret v=>exact q
 | brk=>exact q
 | cont=>exact q
theorem aw (h1:PS X st t):uH X [st] t:=by
 intro pins s σ H D I h;refine wpAny_execs_cons (dJ (h1 pins s σ H D I h) λf s1 q=>?_);cases f with
 | next=>exact wpAny_execs_nil q
 | ret v=>exact q
 | brk=>exact q
 | cont=>exact q
theorem Inv.quiet {pins:List (Addr×Obj)} {σ:St} {H:Hp} {s:Shared} (I:Inv X pins σ H s):interactive X.env=false:=by simp [interactive,I.ok.kind]
def zF (te:TE):TS:=λD σ H=>te σ H λ_ H1=>D.nx σ H1
theorem jT (he:PE X e te) (hs:swapsWith e none pos.line X.env=pure false:=by rfl):PS X (.Expr e pos) (zF te):=by
 intro pins s σ H D I h;exact wpAny_Expr_any (dJ (he pins s σ H _ I h) λv s1 ⟨x,H1,I1,r1,q1⟩=>⟨σ,H1,I1,q1⟩) I.quiet hs
def Bj (te:TE):TS:=λD σ H=>te σ H D.rt
theorem bf (he:PE X e te):PS X (.Return (some e) pos) (Bj te):=by
 intro pins s σ H D I h;exact wpAny_Return_some (dJ (he pins s σ H _ I h) λv s1 ⟨x,H1,I1,r1,q1⟩=>⟨x,σ,H1,I1,r1,q1⟩)
def Bp (c:TT) (t u:TS):TS:=λD σ H=>c σ H λb H1=>if b=true then t D σ H1 else u D σ H1
theorem cL {c:Expr} {a b:List Stmt} {tc:TT} (hc:PT X c tc) (ha:uH X a t) (hb:uH X b u):PS X (.If c a b pos) (Bp tc t u):=by
 intro pins s σ H D I h;refine wpAny_If (dJ (hc pins s σ H _ I h) λd s1 ⟨H1,I1,q1⟩=>?_);cases d with
 | true=>exact ha pins s1 σ H1 D I1 q1
 | false=>exact hb pins s1 σ H1 D I1 q1
end
abbrev TG:=V->St->Hp->(St->Hp->Prop)->Prop
abbrev yd:=List V->St->Hp->(St->Hp->Prop)->Prop
def PG (X:Cx) (target:Expr) (t:TG):Prop :=
 ∀(pins:List (Addr×Obj)) (s:Shared) (σ:St) (H:Hp) (v:V) (u:Value) (Q:St->Hp->Prop),Inv X pins σ H s->RelV v u->t v σ H Q →
  wpAny (model X.prog X.w) X.A (assign target X.env u) (λ_ s'=>∃σ' H',Inv X pins σ' H' s'/\Q σ' H') X.xe s
def Ck (X:Cx) (ts:List Expr) (t:yd):Prop :=
 ∀(pins:List (Addr×Obj)) (s:Shared) (σ:St) (H:Hp) (vs:List V) (us:List Value) (Q:St->Hp->Prop),Inv X pins σ H s->bJ vs us->t vs σ H Q →
  wpAny (model X.prog X.w) X.A (assignInOrder ((assignEach ts X.env).map (·.2)) us) (λ_ s'=>∃σ' H',Inv X pins σ' H' s'/\Q σ' H') X.xe s
abbrev uE:=V->V->V->Hp->(Hp->Prop)->Prop
def AY (X:Cx) (t:uE):Prop :=
 ∀(pins:List (Addr×Obj)) (s:Shared) (σ:St) (H:Hp) (o i v:V) (ov iv u:Value) (Q:Hp->Prop),Inv X pins σ H s->RelV o ov->RelV i iv->RelV v u->t o i v H Q →
  wpAny (model X.prog X.w) X.A (setItem ov iv u) (λ_ s'=>∃H',Inv X pins σ H' s'/\Q H') X.xe s
abbrev Cj:=V->V->Hp->VK->Prop
def PIp (X:Cx) (op:Operator) (t:Cj):Prop :=
 ∀(pins:List (Addr×Obj)) (s:Shared) (σ:St) (H:Hp) (x y:V) (v u:Value) (Q:VK),Inv X pins σ H s->RelV x v->RelV y u->t x y H Q →
  wpAny (model X.prog X.w) X.A (inplaceOp op v u) (EP X pins σ Q) X.xe s
section
variable {X:Cx} {pos:Pos}
def vk (i:Nat):TG:=λv σ H Q=>Q (σ.set i (some v)) H
theorem aM {i:Nat} {x:Str} (hN:X.N.Nodup) (hi:X.N[i]?=some x:=by exact rfl) (hx:Loc X.env.scope x:=by exact Or.inl rfl) (hf:X.fn x=true\/X.env.scope.names.lookup x=some .local:=by first | exact .inl rfl | exact .inr rfl | assumption):PG X (.Name x pos) (vk i):=by
 intro pins s σ H v u Q I r h;exact wpAny_assign_Name (mM I hN hi hx r (λs' I'=>⟨_,H,I',h⟩) hf)
def BU:yd:=λvs σ H Q=>vs=[]/\Q σ H
def zS (t:TG) (u:yd):yd:=λvs σ H Q=>∃v r,vs=v :: r/\t v σ H λσ' H'=>u r σ' H' Q
theorem lA:Ck X [] BU:=by
 intro pins s σ H vs us Q I r h;obtain ⟨e,h⟩:=h;subst e;cases r;exact assignInOrder_nil ⟨σ,H,I,h⟩
theorem cU {e:Expr} {es:List Expr} {t:TG} {u:yd} (h1:PG X e t) (h2:Ck X es u)
  (hs:(assignEach (e :: es) X.env).map (·.2)=assign e X.env :: (assignEach es X.env).map (·.2):=by rfl):Ck X (e :: es) (zS t u):=by
 intro pins s σ H vs us Q I r h;obtain ⟨v,vr,e1,h⟩:=h;subst e1;cases r with
 | cons r rr =>
  rw[hs];refine assignInOrder_cons (dJ (h1 pins s σ H _ _ _ I r h) λ_ s1 ⟨σ1,H1,I1,q1⟩=>?_);exact h2 pins s1 σ1 H1 _ _ Q I1 rr q1
def AS (K:FG9) (n:Nat) (t:yd):TG:=λv σ H Q=>∃a xs,v=.ref a/\lO K H a xs/\xs.length=n/\t xs σ H Q
theorem uu {es:List Expr} {k:Nat} {t:yd} {n:Nat} (hc:X.calm=true) (h:Ck X es t)
  (hn:(assignEach es X.env).length=n:=by rfl) (hst:(assignEach es X.env).findIdx? (·.1)=none:=by rfl):PG X (.Tuple es k pos) (AS X.K n t):=by
 intro pins s σ H v u Q I r hw;obtain ⟨a,xs,e1,hq,hl,hw⟩:=hw;subst e1;cases r;obtain ⟨its,rv,ht,hz⟩:=I.tuple hq;refine assign_Tuple_tuple (I.ok.hd hc) ht (by simp [hn,<- hl,rv.length]) hst λh' hx=>?_
 have I1:Inv X pins σ H { s with heap:=h' }:=I.kept (t':=s.toks) λb o e=>hx b o (aU (Heap.lt_size e)) e
 exact h pins _ σ H xs _ Q I1 (by simpa using rv) hw
def BS (to ti:TE) (t:uE):TG:=λv σ H Q=>to σ H λo H1=>ti σ H1 λi H2=>t o i v H2 λH3=>Q σ H3
theorem gW {o i : Expr} {to ti : TE} {t : uE} (ho : PE X o to) (hi : PE X i ti) (hs : AY X t)
    (ha : ∀ v, assign (.Subscript o i pos) X.env v = (do
      let ov <- holding [v] (eval o X.env)
      let iv <- holding [v, ov] (eval i X.env)
      standAt pos
      holding [v, ov, iv] (setItem ov iv v)
      release [v, ov, iv] []) := by intro _; rfl) : PG X (.Subscript o i pos) (BS to ti t) := by
  intro pins s σ H v u Q I r h;rw [ha];refine wpAny_bind (wpAny_holding (dJ (ho pins s σ H _ I h) λov s1 ⟨x, H1, I1, r1, q1⟩ => ?_));refine wpAny_bind (wpAny_holding (dJ (hi pins s1 σ H1 _ I1 q1) λiv s2 ⟨y, H2, I2, r2, q2⟩ => ?_));refine wpAny_bind (wpAny_standAt (wpAny_bind (wpAny_holding (dJ (hs pins s2 σ H2 x y v ov iv u _ I2 r1 r2 r q2) λ_ s3 ⟨H3, I3, q3⟩ => ?_))));exact wpAny_release ⟨σ, H3, I3, q3⟩
def yt (te:TE) (g:TG):TS:=λD σ H=>te σ H λx H1=>g x σ H1 D.nx
theorem fR {tg e:Expr} {te:TE} {g:TG} (he:PE X e te) (hg:PG X tg g) (hs:swapsWithSole [tg] e pos.line X.env=pure false:=by rfl) (hw:swappedStores [tg] e X.env=pure none:=by rfl)
  (h1:(assignEach [tg] X.env).map (·.2)=[assign tg X.env]:=by rfl):PS X (.Assign [tg] e pos) (yt te g):=by
 intro pins s σ H D I h;refine wpAny_Assign_stores (dJ (he pins s σ H _ I h) λv s1 ⟨x,H1,I1,r1,q1⟩=>?_) hs hw;rw[h1];exact dJ (hg pins s1 σ H1 x v _ I1 r1 q1) λ_ s2 q=>q
theorem aV {i:Nat} {x:Str} {e:Expr} {te:TE} {pos':Pos} (hN:X.N.Nodup) (hi:X.N[i]?=some x) (hx:Loc X.env.scope x) (he:PE X e te) (hs:swapsWith e (some (.Name x pos')) pos.line X.env=pure false:=by rfl) (hf:X.fn x=true\/X.env.scope.names.lookup x=some .local:=by first | exact .inl rfl | exact .inr rfl | assumption) :
  PS X (.Assign [.Name x pos'] e pos) (yt te (vk i)):=by
 intro pins s σ H D I h;refine wpAny_Assign_Name (dJ (he pins s σ H _ I h) λv s1 ⟨y,H1,I1,r1,q1⟩=>?_) hs;exact mM I1 hN hi hx r1 (λs2 I2=>⟨_,H1,I2,q1⟩) hf
def Bl (i j:Nat) (ta:TA):TS:=λD σ H=>ta σ H λvs H1=>∃v w,vs=[v,w]/\D.nx ((σ.set i (some v)).set j (some w)) H1
theorem xf {i j : Nat} {x y : Str} {a b : Expr} {ta : TA} {px py pt : Pos} {kt k2 pt2} (hc : X.calm = true) (hN : X.N.Nodup) (hi : X.N[i]? = some x) (hj : X.N[j]? = some y) (hij : i ≠ j)
    (hx : X.env.scope.names.lookup x = some .local) (hy : X.env.scope.names.lookup y = some .local) (ha : PA X [a, b] ta)
    (hw : swappedStores [.Tuple [.Name x px, .Name y py] kt pt] (.Tuple [a, b] k2 pt2) X.env = pure (some [x, y]))
    (hs : swapsWithSole [.Tuple [.Name x px, .Name y py] kt pt] (.Tuple [a, b] k2 pt2) pos.line X.env = pure false := by rfl) :
    PS X (.Assign [.Tuple [.Name x px, .Name y py] kt pt] (.Tuple [a, b] k2 pt2) pos) (Bl i j ta) := by
  intro pins s σ H D I h;rw [exec_Assign_arm];refine wpAny_bind (wpAny_standAt ?_);rw [hs];refine wpAny_bind (wpAny_pure ?_);rw [if_neg (by decide)];refine wpAny_bind (Tuple_ (dJ (ha _ pins s σ H _ I h) λus s1 ⟨vs, H1, I1, r1, q1⟩ => ?_));obtain ⟨v, w, e1, q1⟩ := q1;subst e1
  obtain ⟨u1, u2, rfl, rv, rw'⟩ : ∃ u1 u2, us = [u1, u2] /\ RelV v u1 /\ RelV w u2 := by
    cases r1 with
    | cons p q =>
      cases q with
      | cons p' q' =>
        cases q';exact ⟨_, _, rfl, p, p'⟩
  refine wpAny_newObj_type ?_ (by show 2 ≤ sizeLine; decide);have I2 : Inv X pins σ H1 { s1 with heap := s1.heap.push { cls := .type "tuple", data := .seq [u1, u2].toArray } } := I1.kept (t' := s1.toks) λb o e => Heap.get?_push_of_some _ e
  rw [hw];refine wpAny_bind (wpAny_pure ?_);show wpAny (model X.prog X.w) X.A (do rule "assign.swapped-stores"; let items <- unpackItems (.ref s1.heap.objs.size) 2 none; assignInOrder [λv => bindName X.env y v, λv => bindName X.env x v] items.reverse; pure Flow.next) _ _ _
  refine wpAny_bind (wpAny_rule (wpAny_bind (unpackItems_tuple (items := #[u1, u2]) (I.ok.hd hc) (IsTup.new s1.heap _) λh' hx' => ?_)));have I3 := I2.kept (h' := h') (t' := s1.toks) λb o e => hx' b o (aU (Heap.lt_size e)) e
  show wpAny _ _ (assignInOrder [λv => bindName X.env y v, λv => bindName X.env x v] [u2, u1] >>= λ_ => pure Flow.next) _ _ _
  refine wpAny_bind (assignInOrder_cons (wpAny_bindName (mM I3 hN hj (.inl hy) rw' (λs2 I4 => ?_) (.inr hy))));refine assignInOrder_cons (wpAny_bindName (mM I4 hN hi (.inl hx) rv (λs3 I5 => assignInOrder_nil (wpAny_pure ?_)) (.inr hx)));rw [List.set_comm _ _ (Ne.symm hij)] at I5;exact ⟨_, H1, I5, q1⟩
def zG (to ti te:TE) (tget:V->V->Hp->VK->Prop) (tip:Cj) (tset:uE):TS:=λD σ H=>to σ H λo H1=>ti σ H1 λi H2=>tget o i H2 λx H3=>te σ H3 λy H4=>tip x y H4 λz H5=>tset o i z H5 λH6=>D.nx σ H6
def Cm (X:Cx) (t:V->V->Hp->VK->Prop):Prop :=
 ∀(pins:List (Addr×Obj)) (s:Shared) (σ:St) (H:Hp) (o i:V) (ov iv:Value) (Q:VK),Inv X pins σ H s->RelV o ov->RelV i iv->t o i H Q →
  wpAny (model X.prog X.w) X.A (getItem ov iv) (EP X pins σ Q) X.xe s
theorem yY {o i e : Expr} {to ti te : TE} {tget : V → V → Hp → VK → Prop} {tip : Cj} {tset : uE} {op : Operator} {tpos : Pos} (ho : PE X o to) (hi : PE X i ti) (hg : Cm X tget) (he : PE X e te) (hp : PIp X op tip) (hs : AY X tset)
    (ha : ∀ ov iv new, augStore i ov iv new = (do holding [new, ov, iv] (setItem ov iv new); release [new, ov, iv] []; pure .next) := by intros; rfl) : PS X (.AugAssign (.Subscript o i tpos) op e pos) (zG to ti te tget tip tset) := by
  intro pins s σ H D I h;refine wpAny_AugAssign_SubscriptAny (dJ (ho pins s σ H _ I h) λov s1 ⟨x1, H1, I1, r1, q1⟩ => ?_) ha;refine dJ (hi pins s1 σ H1 _ I1 q1) λiv s2 ⟨x2, H2, I2, r2, q2⟩ => ?_
  refine dJ (hg pins s2 σ H2 x1 x2 ov iv _ I2 r1 r2 q2) λold s3 ⟨x3, H3, I3, r3, q3⟩ => ?_
  refine dJ (he pins s3 σ H3 _ I3 q3) λv s4 ⟨x4, H4, I4, r4, q4⟩ => ?_
  refine dJ (hp pins s4 σ H4 x3 x4 old v _ I4 r3 r4 q4) λnew s5 ⟨x5, H5, I5, r5, q5⟩ => ?_
  exact dJ (hs pins s5 σ H5 x1 x2 x5 ov iv new _ I5 r1 r2 r5 q5) λ_ s6 ⟨H6, I6, q6⟩ => ⟨σ, H6, I6, q6⟩
def ipI (f:Int->Int->Int):Cj:=λx y H Q=>∃i j,x=.int i/\y=.int j/\Q (.int (f i j)) H
theorem AR:PIp X .Add (ipI λi j=>i+j):=by
 intro pins s σ H x y v u Q I r1 r2 h;obtain ⟨i,j,e1,e2,q⟩:=h;subst e1;subst e2;obtain ⟨t,rfl⟩:=r1;obtain ⟨t',rfl⟩:=r2;exact iadd_int ⟨.int _,H,I.tok _,⟨_,rfl⟩,q⟩
end
section
variable {X:Cx} {pos:Pos}
def wF (c:TT) (tb:TS):TS:=λD σ H=>∃W:Nat->St->Hp->Prop,(∃m,W m σ H)/\∀m σ H,W m σ H →
 c σ H λb H1=>if b=true then ∃N:St->Hp->Prop,(∀σ' H',N σ' H'->∃m',m' < m/\W m' σ' H')/\tb { D with nx:=N,ct:=N,bk:=D.nx } σ H1 else D.nx σ H1
theorem tw {c:Expr} {body:List Stmt} {tc:TT} {tb:TS} (hp:PassesOwn (model X.prog X.w) X.A X.env X.xe) (hc:PT X c tc) (hb:uH X body tb):PS X (.While c body [] pos) (wF tc tb):=by
 intro pins s σ H D I h;obtain ⟨W,⟨m0,w0⟩,turn⟩:=h;refine wpAny_While (codeAny_whileLoop (λn s'=>∃σ' H',Inv X pins σ' H' s'/\W n σ' H') ?_ m0 ⟨σ,H,I,w0⟩);rintro n s1 ⟨σ1,H1,I1,w1⟩;refine wpAny_passesOwn hp (dJ (hc pins s1 σ1 H1 _ I1 (turn n σ1 H1 w1)) λb s2 ⟨H2,I2,q2⟩=>?_);cases b with
 | true =>
  obtain ⟨N,hN,q2⟩:=q2;rw[if_pos rfl];refine wpAny_passesOwn hp (dJ (hb pins s2 σ1 H2 _ I2 q2) λf s3 q3=>?_);cases f with
  | next =>
   obtain ⟨σ3,H3,I3,n3⟩:=q3;obtain ⟨m',hm,w3⟩:=hN σ3 H3 n3;exact ⟨m',hm,σ3,H3,I3,w3⟩
  | cont =>
   obtain ⟨σ3,H3,I3,n3⟩:=q3;obtain ⟨m',hm,w3⟩:=hN σ3 H3 n3;exact ⟨m',hm,σ3,H3,I3,w3⟩
  | brk=>exact q3
  | ret v=>exact q3
 | false =>
  rw[if_neg aI];exact wpAny_execs_nil ⟨σ1,H2,I2,q2⟩
end
structure It where
 go:Nat->Hp->Prop
 yld:Nat->Hp->V->Hp->Prop
 stop:Nat->Hp->Prop
def kH (X:Cx) (pins:List (Addr×Obj)) (H:Hp) (b:Addr):Prop :=
 H b=none/\b≠X.env.locals/\b∉X.fs/\(b∈X.ex\/X.s₀.heap.objs.size<=b)/\(∀x c,X.env.cells.lookup x=some c->c≠b)/\∀p∈X.pn++pins,p.1≠b
theorem Inv.fpOk {X:Cx} {pins:List (Addr×Obj)} {σ:St} {H H':Hp} {s:Shared} {b:Addr} (I:Inv X pins σ H s) (hb:s.heap.objs.size<=b) (hn:H' b=none):kH X pins H' b:=by
 refine ⟨hn,vD (aE I.lt hb),I.nofs hb,.inr (ah I.sz hb),λx c e z=>?_,λp hp z=>?_⟩
 ·obtain ⟨v,q⟩:=I.cell x c e;exact absurd (aE q.lt (by rw[z];exact hb)) (cP _)
 ·exact absurd (aE (Heap.lt_size (I.pin p hp).1) (by rw[z];exact hb)) (cP _)
structure Turn (P:Program) (w:World) (K:FG9) (tg:Expr) (J:It) (fp:List Addr) (it:Addr) (tn:Nat->Heap->Prop):Prop where
 mem:it∈fp
 obj:∀i h,tn i h->∀b∈fp,∃o,h.get? b=some o/\∀v,o.data≠.cell v
 keep:∀i h h',tn i h->(∀b∈fp,∀o,h.get? b=some o->h'.get? b=some o)->tn i h'
 item:∀(X:Cx),X.prog=P->X.w=w->X.K=K->X.calm=true->∀(i:Nat) (pins:List (Addr×Obj)) (s:Shared) (σ:St) (H:Hp) (E:Value->Shared->Prop),Inv X pins σ H s->(∀b∈fp,kH X pins H b)->tn i s.heap->J.go i H →
  wpAny (model P w) X.A (pyNext (.ref it)) (λr s1=>∃u,r=some u /\
   wpAny (model P w) X.A (letOwnedTupleGo tg (.ref it) u) (λ_ s2=>∃x H',Inv X pins σ H' s2/\RelV x u/\J.yld i H x H'/\tn (i+1) s2.heap/\∀b∈fp,H' b=none) E s1) E s
 done:∀(X:Cx),X.prog=P->X.w=w->X.K=K->X.calm=true->∀(i:Nat) (pins:List (Addr×Obj)) (s:Shared) (σ:St) (H:Hp) (E:Value->Shared->Prop),Inv X pins σ H s->(∀b∈fp,kH X pins H b)->tn i s.heap->J.stop i H →
  wpAny (model P w) X.A (pyNext (.ref it)) (λr s1=>r=none/\Inv X pins σ H s1) E s
 self:∀(A:Around) (i:Nat) (s:Shared) (Q:Value->Shared->Prop) (E:Value->Shared->Prop),tn i s.heap->Q (.ref it) s->wpAny (model P w) A (pyIter (.ref it)) Q E s
abbrev TI:=St->Hp->(It->Hp->Prop)->Prop
def PIE (X:Cx) (pins:List (Addr×Obj)) (σ:St) (tg:Expr) (R:It->Hp->Prop) (itv:Value) (s2:Shared):Prop :=
 ∃(it:Addr) (fp:List Addr) (tn:Nat->Heap->Prop) (J:It) (H':Hp),itv=.ref it/\Inv X pins σ H' s2/\Turn X.prog X.w X.K tg J fp it tn/\tn 0 s2.heap/\(∀b∈fp,kH X pins H' b)/\R J H'
def PI (X:Cx) (tg iter:Expr) (wi:TI):Prop :=
 ∀(pins:List (Addr×Obj)) (s:Shared) (σ:St) (H:Hp) (R:It->Hp->Prop),Inv X pins σ H s->wi σ H R →
  wpAny (model X.prog X.w) X.A (eval iter X.env) (λv s1=>wpAny (model X.prog X.w) X.A (pyIter v) (PIE X pins σ tg R) X.xe s1) X.xe s
theorem xB {M : Model} {A : Around} {E : Value → Shared → Prop} {s : Shared} {tg : Expr} {it : Addr} {u : Value} {o : Obj} {n : String} {vs : Array Value} {Q : Unit → Shared → Prop} (ho : s.heap.get? it = some o) (hc : o.cls = .type n) (hd : o.data = .fields vs)
    (hn : ["enumerate", "zip", "dict_itemiterator", "dict_reverseitemiterator", "odict_iterator", "itertools.zip_longest", "itertools.pairwise"].contains n = false) (hQ : Q () s) : wpAny M A (letOwnedTupleGo tg (.ref it) u) Q E s := by
  unfold letOwnedTupleGo
  cases tg <;> first
    | exact wpAny_pure hQ
    | (cases u <;> first
        | exact wpAny_pure hQ
        | (refine wpAny_bind (wpAny_load ho ?_)
           rw [hc, hd];show wpAny M A (if (["enumerate", "zip", "dict_itemiterator", "dict_reverseitemiterator", "odict_iterator", "itertools.zip_longest", "itertools.pairwise"].contains n && vs[0]? == some (rawInt _)) = true then _ else _) Q E s
           rw [if_neg (by intro h; rw [hn, Bool.false_and] at h; cases h)];exact wpAny_pure hQ))

def zV (K:FG9) (a:Addr):It :=
 ⟨λi H=>∃xs x,bL K H a xs/\xs[i]?=some x,λi H x H'=>H'=H/\∀xs,bL K H a xs->xs[i]?=some x,λi H=>∃xs,bL K H a xs/\xs.length<=i⟩
def A6 (K:FG9) (a:Addr):It :=
 ⟨λi H=>∃xs x,lO K H a xs/\xs[i]?=some x,λi H x H'=>H'=H/\∀xs,lO K H a xs->xs[i]?=some x,λi H=>∃xs,lO K H a xs/\xs.length<=i⟩
def t6 (lo:Int) (n:Nat):It:=⟨λi _=>i < n,λi H x H'=>H'=H/\x=.int (lo+i),λi _=>n<=i⟩
theorem vG {P:Program} {w:World} {K:FG9} {tg:Expr} (a it:Addr):Turn P w K tg (zV K a) [it] it (λi h=>h.IsListIter it a i) where
 mem:=by simp
 obj:=λi h st b hb=>by
  have e:b=it:=by simpa using hb
  subst e;obtain ⟨o,e,c,d⟩:=st;exact ⟨o,e,λv z=>by rw[d] at z;cases z⟩
 keep:=λi h h' st k=>st.at λo e=>k it (by simp) o e
 item:=by
  intro X hP hw hK hc i pins s σ H E I hf st hg;subst hP hw hK;obtain ⟨xs,x,hq,hx⟩:=hg;obtain ⟨its,rv,p,hz⟩:=I.list hq;obtain ⟨u,hu,ru⟩:=rv.get hx;obtain ⟨f0,f1,f2,f3,f4,f5⟩:=hf it (by simp);refine wpAny_pyNext_list_item st p.isList (x:=u) (by simpa using hu) λh' st' sb=>?_
  have I1:Inv X pins σ H { s with heap:=h' }:=I.turned (t':=s.toks) (λb o hb e=>(sb.2 b hb).trans e) f0 f1 f3 f4 f5;obtain ⟨o,e,c,d⟩:=id st';exact ⟨u,rfl,xB (s:={ s with heap:=h' }) e c d (by decide) ⟨x,H,I1,ru,⟨rfl,λys hy=>by rw[I.list_inj hy hq];exact hx⟩,st',λb hb=>(hf b hb).1⟩⟩
 done:=by
  intro X hP hw hK hc i pins s σ H E I hf st hg;subst hP hw hK;obtain ⟨xs,hq,hx⟩:=hg;obtain ⟨its,rv,p,hz⟩:=I.list hq;obtain ⟨f0,f1,f2,f3,f4,f5⟩:=hf it (by simp);have hl:=rv.length;exact wpAny_pyNext_list_end (I.ok.hd hc) st p.isList (by simp;lia) λh' eb=>⟨rfl,I.turned (t':=s.toks) (λb o hb e=>eb b o hb e) f0 f1 f3 f4 f5⟩
 self:=λ_ _ _ _ _ st h=>wpAny_pyIter_listiter st h
theorem ue {P:Program} {w:World} {K:FG9} {tg:Expr} (a it:Addr):Turn P w K tg (A6 K a) [it] it (λi h=>h.IsTupleIter it a i) where
 mem:=by simp
 obj:=λi h st b hb=>by
  have e:b=it:=by simpa using hb
  subst e;obtain ⟨o,e,c,d⟩:=st;exact ⟨o,e,λv z=>by rw[d] at z;cases z⟩
 keep:=λi h h' st k=>st.at λo e=>k it (by simp) o e
 item:=by
  intro X hP hw hK hc i pins s σ H E I hf st hg;subst hP hw hK;obtain ⟨xs,x,hq,hx⟩:=hg;obtain ⟨its,rv,p,hz⟩:=I.tuple hq;obtain ⟨u,hu,ru⟩:=rv.get hx;obtain ⟨f0,f1,f2,f3,f4,f5⟩:=hf it (by simp);refine wpAny_pyNext_tuple_item st (show s.heap.IsTuple a its.toArray from p) (x:=u) (by simpa using hu) λh' st' sb=>?_
  have I1:Inv X pins σ H { s with heap:=h' }:=I.turned (t':=s.toks) (λb o hb e=>(sb.2 b hb).trans e) f0 f1 f3 f4 f5;obtain ⟨o,e,c,d⟩:=id st';exact ⟨u,rfl,xB (s:={ s with heap:=h' }) e c d (by decide) ⟨x,H,I1,ru,⟨rfl,λys hy=>by rw[I.tuple_inj hy hq];exact hx⟩,st',λb hb=>(hf b hb).1⟩⟩
 done:=by
  intro X hP hw hK hc i pins s σ H E I hf st hg;subst hP hw hK;obtain ⟨xs,hq,hx⟩:=hg;obtain ⟨its,rv,p,hz⟩:=I.tuple hq;obtain ⟨f0,f1,f2,f3,f4,f5⟩:=hf it (by simp);have hl:=rv.length;exact wpAny_pyNext_tuple_end (I.ok.hd hc) st (show s.heap.IsTuple a its.toArray from p) (by simp;lia) λh' eb=>⟨rfl,I.turned (t':=s.toks) (λb o hb e=>eb b o hb e) f0 f1 f3 f4 f5⟩
 self:=λ_ _ _ _ _ st h=>wpAny_pyIter_tupleiter st h
theorem uf {P:Program} {w:World} {K:FG9} {tg:Expr} (it:Addr) (lo:Int) (n:Nat):Turn P w K tg (t6 lo n) [it] it (λi h=>IsRangeIter h it (lo+(i:Nat)*1) ((n:Int) - (i:Nat)) 1) where
 mem:=by simp
 obj:=λi h st b hb=>by
  have e:b=it:=by simpa using hb
  subst e
  exact ⟨_,st,λv z=>by
   have z':Data.fields _=Data.cell v:=z;cases z'⟩
 keep:=λi h h' st k=>k it (by simp) _ st
 item:=by
  intro X hP hw hK hc i pins s σ H E I hf st hg;subst hP hw hK;obtain ⟨f0,f1,f2,f3,f4,f5⟩:=hf it (by simp);have W:=Walks.range (prog:=X.prog) (w:=X.w) (I.ok.hd hc) it lo 1 n;refine W.item i s _ _ hg st λv h' tk hv st' kk=>?_
  obtain ⟨t,rfl⟩:=hv;have I1:Inv X pins σ H { s with heap:=h',toks:=tk }:=I.turned (λb o hb e=>kk b o (by simpa using hb) e) f0 f1 f3 f4 f5;refine ⟨_,rfl,xB (s:={ s with heap:=h',toks:=tk }) (n:="range_iterator") st' rfl rfl (by decide) ⟨.int (lo+i),H,I1,⟨t,?_⟩,⟨rfl,rfl⟩,st',λb hb=>(hf b hb).1⟩⟩;rw[Int.mul_one]
 done:=by
  intro X hP hw hK hc i pins s σ H E I hf st hg;subst hP hw hK;obtain ⟨f0,f1,f2,f3,f4,f5⟩:=hf it (by simp);exact wpAny_pyNext_range_end (I.ok.hd hc) st (by have:n<=i:=hg;lia) λh' eb=>⟨rfl,I.turned (t':=s.toks) (λb o hb e=>eb b o hb e) f0 f1 f3 f4 f5⟩
 self:=λ_ _ _ _ _ st h=>wpAny_pyIter_rangeiter st h
section
variable {X:Cx} {tg:Expr}
def zQ (K:FG9) (tl:TE):TI:=λσ H R=>tl σ H λx H1=>∃a,x=.ref a/\(∃xs,bL K H1 a xs)/\R (zV K a) H1
def BQ (K:FG9) (tl:TE):TI:=λσ H R=>tl σ H λx H1=>∃a,x=.ref a/\(∃xs,lO K H1 a xs)/\R (A6 K a) H1
theorem cN {l:Expr} {tl:TE} (hl:PE X l tl):PI X tg l (zQ X.K tl):=by
 intro pins s σ H R I h;refine dJ (hl pins s σ H _ I h) λv s1 ⟨x,H1,I1,r1,q1⟩=>?_
 obtain ⟨a,e,⟨xs,hq⟩,q⟩:=q1;subst e;cases r1;obtain ⟨its,rv,p,hz⟩:=I1.list hq;refine wpAny_pyIter_list p.isList ?_;refine ⟨s1.heap.objs.size,[s1.heap.objs.size],_,_,H1,rfl,I1.kept (t':=s1.toks) λb o e=>Heap.get?_push_of_some _ e,vG a _,⟨_,Heap.get?_push_size _ rfl,rfl,rfl⟩,λb hb=>?_,q⟩;have e:b=s1.heap.objs.size:=by simpa using hb
 subst e;exact I1.fpOk (av _) (I1.hok.fresh (av _))
theorem Ay {l:Expr} {tl:TE} (hl:PE X l tl):PI X tg l (BQ X.K tl):=by
 intro pins s σ H R I h;refine dJ (hl pins s σ H _ I h) λv s1 ⟨x,H1,I1,r1,q1⟩=>?_
 obtain ⟨a,e,⟨xs,hq⟩,q⟩:=q1;subst e;cases r1;obtain ⟨its,rv,p,hz⟩:=I1.tuple hq;refine wpAny_pyIter_tuple (show s1.heap.IsTuple a its.toArray from p) ?_;refine ⟨s1.heap.objs.size,[s1.heap.objs.size],_,_,H1,rfl,I1.kept (t':=s1.toks) λb o e=>Heap.get?_push_of_some _ e,ue a _,⟨_,Heap.get?_push_size _ rfl,rfl,rfl⟩,λb hb=>?_,q⟩;have e:b=s1.heap.objs.size:=by simpa using hb
 subst e;exact I1.fpOk (av _) (I1.hok.fresh (av _))
theorem tq {pins:List (Addr×Obj)} {σ:St} {H:Hp} {s:Shared} {R:It->Hp->Prop} {E:Value->Shared->Prop} {lo hi:Int} {t u v:Tok} {tk:Nat} (I:Inv X pins σ H s) (h1:-(2^62)<=lo) (h2:lo < 2^62) (h3:-(2^62)<=hi) (h4:hi < 2^62)
  (q:R (t6 lo (hi - lo).toNat) H):wpAny (model X.prog X.w) X.A (pyIter (.ref s.heap.objs.size)) (PIE X pins σ tg R) E { s with heap:=s.heap.push { cls:=.type "range",data:=.fields #[.int lo t,.int hi u,.int 1 v] },toks:=tk }:=by
 refine wpAny_pyIter_range (IsRange.new ..) (small_one h1 h2 h3 h4) ?_;have I1:Inv X pins σ H { s with heap:=s.heap.push { cls:=.type "range",data:=.fields #[.int lo t,.int hi u,.int 1 v] },toks:=tk }:=I.kept λb o e=>Heap.get?_push_of_some _ e
 refine ⟨(s.heap.push { cls:=.type "range",data:=.fields #[.int lo t,.int hi u,.int 1 v] }).objs.size,[(s.heap.push { cls:=.type "range",data:=.fields #[.int lo t,.int hi u,.int 1 v] }).objs.size],_,_,H,rfl,
  I1.kept (t':=tk) λb o e=>Heap.get?_push_of_some _ e,uf _ lo (hi - lo).toNat,?_,λb hb=>?_,q⟩
 ·have e1:lo+((0:Nat):Int)*1=lo:=by simp
  have e2:(((hi - lo).toNat:Nat):Int) - ((0:Nat):Int)=Builtin.Range.rangeSize lo hi 1:=by rw[rangeSize_one];split <;> lia
  show IsRangeIter _ _ (lo+((0:Nat):Int)*1) ((((hi - lo).toNat:Nat):Int) - ((0:Nat):Int)) 1
  rw[e1,e2];exact Heap.get?_push_size _ rfl
 ·have e:b=(s.heap.push { cls:=.type "range",data:=.fields #[.int lo t,.int hi u,.int 1 v] }).objs.size:=by simpa using hb
  subst e;exact I1.fpOk (av _) (I1.hok.fresh (av _))
def zP (ta:TA):TI:=λσ H R=>ta σ H λvs H1=>∃j:Int,vs=[.int j]/\-(2^62)<=j/\j < 2^62/\R (t6 0 j.toNat) H1
def zO (ta:TA):TI:=λσ H R=>ta σ H λvs H1=>∃i j:Int,vs=[.int i,.int j]/\(-(2^62)<=i/\i < 2^62/\-(2^62)<=j/\j < 2^62)/\R (t6 i (j - i).toNat) H1
theorem cu {a:Expr} {ta:TA} {p pos:Pos} (hg:Gl X "range") (hm:X.mg "range"=none) (ha:PA X [a] ta) (hs:starEach [a] X.env=[(false,eval a X.env)]:=by rfl):PI X tg (.Call (.Name "range" p) [a] [] pos) (zP ta):=by
 intro pins s σ H R I h;refine Call_ (iH I hg hm boot_range (PyProof.Rows.callWith_type1 (dJ (ha pos pins s σ H _ I h) λus s1 ⟨vs,H1,I1,r1,q1⟩=>?_) hs rfl));obtain ⟨j,e,q1,q2,q⟩:=q1;subst e;cases r1 with
 | cons r rr =>
  cases rr;obtain ⟨t,rfl⟩:=r;exact call_range_1 (tq I1 (by lia) (by lia) q1 q2 (by simpa using q))
theorem vT {a b:Expr} {ta:TA} {p pos:Pos} (hg:Gl X "range") (hm:X.mg "range"=none) (ha:PA X [a,b] ta) (hs:starEach [a,b] X.env=[(false,eval a X.env),(false,eval b X.env)]:=by rfl) (hs2:starEach [b] X.env=[(false,eval b X.env)]:=by rfl) :
  PI X tg (.Call (.Name "range" p) [a,b] [] pos) (zO ta):=by
 intro pins s σ H R I h;refine Call_ (iH I hg hm boot_range (PyProof.Rows.callWith_type1 (dJ (ha pos pins s σ H _ I h) λus s1 ⟨vs,H1,I1,r1,q1⟩=>?_) (by rw[hs,hs2]) (by rw[hs2];rfl)));obtain ⟨i,j,e,⟨q1,q2,q3,q4⟩,q⟩:=q1;subst e;cases r1 with
 | cons r rr =>
  cases rr with
  | cons r' rr =>
   cases rr;obtain ⟨t,rfl⟩:=r;obtain ⟨t',rfl⟩:=r';exact call_range_2 (tq I1 q1 q2 q3 q4 q)
def Bq (wi:TI) (g:TG) (tb:TS):TS:=λD σ H=>wi σ H λJ H1=>∃W:Nat->Nat->St->Hp->Prop,(∃m,W 0 m σ H1)/\∀i m σ H,W i m σ H →
 (J.stop i H/\D.nx σ H)\/(J.go i H/\∃N:St->Hp->Prop,(∀σ' H',N σ' H'->∃m',m' < m/\W (i+1) m' σ' H')/\∀x H',J.yld i H x H'->g x σ H' λσ2 H2=>tb { D with nx:=N,ct:=N,bk:=D.nx } σ2 H2)
def pd (fp:List Addr) (h:Heap):List (Addr×Obj):=fp.filterMap λb=>(h.get? b).map λo=>(b,o)
theorem jW {fp:List Addr} {h:Heap} {b:Addr} {o:Obj} (hb:b∈fp) (e:h.get? b=some o):(b,o)∈pd fp h:=List.mem_filterMap.mpr ⟨b,hb,by rw[e];rfl⟩
theorem vX {fp:List Addr} {h:Heap} {p:Addr×Obj} (hp:p∈pd fp h):p.1∈fp/\h.get? p.1=some p.2:=by
 obtain ⟨b,hb,e⟩:=List.mem_filterMap.mp hp;cases q:h.get? b with
 | none=>rw[q] at e;cases e
 | some o =>
  rw[q] at e;have e':(b,o)=p:=bG e;subst e';exact ⟨hb,q⟩
theorem Inv.pinned {pins:List (Addr×Obj)} {σ:St} {H:Hp} {s:Shared} {fp:List Addr} (I:Inv X pins σ H s) (hf:∀b∈fp,kH X pins H b) (ho:∀b∈fp,∃o,s.heap.get? b=some o/\∀v,o.data≠.cell v):Inv X (pins++pd fp s.heap) σ H s :=
 I.pins_of λp hp=>(aD.mp hp).elim (λz=>I.pin p (aZ _ z)) λz=>by
  obtain ⟨hb,e⟩:=vX z;obtain ⟨f0,f1,f2,_⟩:=hf p.1 hb;obtain ⟨o,e',d⟩:=ho p.1 hb;rw[e] at e';cases e';exact ⟨e,f0,f1,f2,d⟩
theorem Inv.unpinned {pins pl:List (Addr×Obj)} {σ:St} {H:Hp} {s:Shared} (I:Inv X (pins++pl) σ H s):Inv X pins σ H s:=I.pins_of λp hp=>I.pin p (aZ _ (rf _ hp))
theorem dW {iter : Expr} {body : List Stmt} {wi : TI} {g : TG} {tb : TS} {pos : Pos} (hp : PassesOwn (model X.prog X.w) X.A X.env X.xe) (hc : X.calm = true) (hi : PI X tg iter wi) (hg : PG X tg g) (hb : uH X body tb)
    (hs : ∀ x, foldedSetIterable iter X.env x = pure x := by intro _; rfl) : PS X (.For tg iter body [] pos) (Bq wi g tb) := by
  intro pins s σ H D I h;refine wpAny_For (dJ (hi pins s σ H _ I h) λv s1 h1 => dJ h1 λitv s2 h2 => ?_) hs;obtain ⟨it, fp, tn, J, H2, e, I2, T, st2, f2, W, ⟨m0, w0⟩, turn⟩ := h2;subst e;have stat : ∀ {H' : Hp}, (∀ b ∈ fp, H' b = none) → ∀ b ∈ fp, kH X pins H' b := λhn b hb => ⟨hn b hb, (f2 b hb).2⟩
  refine codeAny_forLoop_any (λn s' => ∃ i σ' H', Inv X pins σ' H' s' /\ tn i s'.heap /\ (∀ b ∈ fp, H' b = none) /\ W i n σ' H') ?_ m0 ⟨0, σ, H2, I2, st2, λb hb => (f2 b hb).1, w0⟩;rintro n s3 ⟨i, σ3, H3, I3, st3, fr3, w3⟩;rcases turn i n σ3 H3 w3 with ⟨stop, qn⟩ | ⟨go, N, hN, step⟩
  · refine wpAny_passesOwn hp (dJ (T.done X rfl rfl rfl hc i pins s3 σ3 H3 X.xe I3 (stat fr3) st3 stop) λr s4 ⟨hr, I4⟩ => ?_);subst hr;exact wpAny_execs_nil ⟨σ3, H3, I4, qn⟩
  · refine wpAny_passesOwn hp (dJ (T.item X rfl rfl rfl hc i pins s3 σ3 H3 X.xe I3 (stat fr3) st3 go) λr s4 ⟨u, hr, h4⟩ => ?_);subst hr;refine wpAny_passesOwn hp (dJ h4 λ_ s5 ⟨x, H5, I5, r5, y5, st5, fr5⟩ => ?_);have I5' := I5.pinned (stat fr5) (T.obj _ _ st5);refine wpAny_passesOwn hp (dJ (hg _ s5 σ3 H5 x u _ I5' r5 (step x H5 y5)) λ_ s6 ⟨σ6, H6, I6, q6⟩ => ?_);refine wpAny_passesOwn hp (dJ (hb _ s6 σ6 H6 _ I6 q6) λf s7 q7 => ?_)
    have again : ∀ {σ7 : St} {H7 : Hp}, Inv X (pins ++ pd fp s5.heap) σ7 H7 s7 → N σ7 H7 → ∃ m, m < n /\ ∃ i σ' H', Inv X pins σ' H' s7 /\ tn i s7.heap /\ (∀ b ∈ fp, H' b = none) /\ W i m σ' H' := λ{σ7 H7} I7 n7 => by
      obtain ⟨m', hm, w7⟩ := hN σ7 H7 n7;refine ⟨m', hm, i + 1, σ7, H7, I7.unpinned, T.keep _ _ _ st5 λb hb o e => (I7.pin (b, o) (aZ _ (aZ _ (jW hb e)))).1, λb hb => ?_, w7⟩;obtain ⟨o, e, d⟩ := T.obj _ _ st5 b hb;exact (I7.pin (b, o) (aZ _ (aZ _ (jW hb e)))).2.1
    cases f with
    | next => obtain ⟨σ7, H7, I7, n7⟩ := q7; exact again I7 n7
    | cont => obtain ⟨σ7, H7, I7, n7⟩ := q7; exact again I7 n7
    | brk => obtain ⟨σ7, H7, I7, q7⟩ := q7; exact ⟨σ7, H7, I7.unpinned, q7⟩
    | ret v => obtain ⟨x7, σ7, H7, I7, r7, q7⟩ := q7; exact ⟨x7, σ7, H7, I7.unpinned, r7, q7⟩
end
theorem jO {K:FG9} {a:Addr} {xs:List V} {g:TG} {tb:TS} {D:Ends} {σ:St} {H:Hp} (Pv:Nat->St->Hp->Prop) (h0:Pv 0 σ H) (hl:∀i σ H,i<=xs.length->Pv i σ H->bL K H a xs)
  (hs:∀i x σ H,xs[i]?=some x->Pv i σ H->g x σ H λσ2 H2=>tb { D with nx:=Pv (i+1),ct:=Pv (i+1),bk:=D.nx } σ2 H2) (hd:∀σ H,Pv xs.length σ H->D.nx σ H) :
  ∃W:Nat->Nat->St->Hp->Prop,(∃m,W 0 m σ H)/\∀i m σ H,W i m σ H →
   ((zV K a).stop i H/\D.nx σ H)\/((zV K a).go i H/\∃N:St->Hp->Prop,(∀σ' H',N σ' H'->∃m',m' < m/\W (i+1) m' σ' H')/\∀x H',(zV K a).yld i H x H'->g x σ H' λσ2 H2=>tb { D with nx:=N,ct:=N,bk:=D.nx } σ2 H2):=by
 refine ⟨λi m σ H=>m=xs.length - i/\i<=xs.length/\Pv i σ H,⟨xs.length,by simp,bq _,h0⟩,?_⟩;rintro i m σ H ⟨rfl,hi,p⟩;have q:=hl i σ H hi p;by_cases hlt:i < xs.length
 ·refine .inr ⟨⟨xs,xs[i],q,by simp [hlt]⟩,Pv (i+1),λσ' H' p'=>⟨xs.length - (i+1),by lia,rfl,hlt,p'⟩,λx H' y=>?_⟩;obtain ⟨e,y⟩:=y;subst e;exact hs i x σ _ (y xs q) p
 ·have e:i=xs.length:=by lia
  subst e;exact .inl ⟨⟨xs,q,av _⟩,hd σ H p⟩
theorem zh {K:FG9} {a:Addr} {xs:List V} {g:TG} {tb:TS} {D:Ends} {σ:St} {H:Hp} (Pv:Nat->St->Hp->Prop) (h0:Pv 0 σ H) (hl:∀i σ H,i<=xs.length->Pv i σ H->lO K H a xs)
  (hs:∀i x σ H,xs[i]?=some x->Pv i σ H->g x σ H λσ2 H2=>tb { D with nx:=Pv (i+1),ct:=Pv (i+1),bk:=D.nx } σ2 H2) (hd:∀σ H,Pv xs.length σ H->D.nx σ H) :
  ∃W:Nat->Nat->St->Hp->Prop,(∃m,W 0 m σ H)/\∀i m σ H,W i m σ H →
   ((A6 K a).stop i H/\D.nx σ H)\/((A6 K a).go i H/\∃N:St->Hp->Prop,(∀σ' H',N σ' H'->∃m',m' < m/\W (i+1) m' σ' H')/\∀x H',(A6 K a).yld i H x H'->g x σ H' λσ2 H2=>tb { D with nx:=N,ct:=N,bk:=D.nx } σ2 H2):=by
 refine ⟨λi m σ H=>m=xs.length - i/\i<=xs.length/\Pv i σ H,⟨xs.length,by simp,bq _,h0⟩,?_⟩;rintro i m σ H ⟨rfl,hi,p⟩;have q:=hl i σ H hi p;by_cases hlt:i < xs.length
 ·refine .inr ⟨⟨xs,xs[i],q,by simp [hlt]⟩,Pv (i+1),λσ' H' p'=>⟨xs.length - (i+1),by lia,rfl,hlt,p'⟩,λx H' y=>?_⟩;obtain ⟨e,y⟩:=y;subst e;exact hs i x σ _ (y xs q) p
 ·have e:i=xs.length:=by lia
  subst e;exact .inl ⟨⟨xs,q,av _⟩,hd σ H p⟩
theorem lE {lo:Int} {n:Nat} {g:TG} {tb:TS} {D:Ends} {σ:St} {H:Hp} (Pv:Nat->St->Hp->Prop) (h0:Pv 0 σ H)
  (hs:∀i σ H,i < n->Pv i σ H->g (.int (lo+i)) σ H λσ2 H2=>tb { D with nx:=Pv (i+1),ct:=Pv (i+1),bk:=D.nx } σ2 H2) (hd:∀σ H,Pv n σ H->D.nx σ H) :
  ∃W:Nat->Nat->St->Hp->Prop,(∃m,W 0 m σ H)/\∀i m σ H,W i m σ H →
   ((t6 lo n).stop i H/\D.nx σ H)\/((t6 lo n).go i H/\∃N:St->Hp->Prop,(∀σ' H',N σ' H'->∃m',m' < m/\W (i+1) m' σ' H')/\∀x H',(t6 lo n).yld i H x H'->g x σ H' λσ2 H2=>tb { D with nx:=N,ct:=N,bk:=D.nx } σ2 H2):=by
 refine ⟨λi m σ H=>m=n - i/\i<=n/\Pv i σ H,⟨n,by simp,bq _,h0⟩,?_⟩;rintro i m σ H ⟨rfl,hi,p⟩;by_cases hlt:i < n
 ·refine .inr ⟨hlt,Pv (i+1),λσ' H' p'=>⟨n - (i+1),by lia,rfl,hlt,p'⟩,λx H' y=>?_⟩;obtain ⟨e,y⟩:=y;subst e y;exact hs i σ _ hlt p
 ·have e:i=n:=by lia
  subst e;exact .inl ⟨av _,hd σ H p⟩
abbrev R2:=V->V->Hp->VK->Prop
def qq (X:Cx) (f:Value->Value->Sem Value) (r:R2):Prop :=
 ∀(pins:List (Addr×Obj)) (s:Shared) (σ:St) (H:Hp) (x y:V) (v u:Value) (Q:VK),Inv X pins σ H s->RelV x v->RelV y u->r x y H Q →
  wpAny (model X.prog X.w) X.A (f v u) (EP X pins σ Q) X.xe s
def CU (X:Cx) (f:Value->Sem Value) (r:V->Hp->VK->Prop):Prop :=
 ∀(pins:List (Addr×Obj)) (s:Shared) (σ:St) (H:Hp) (x:V) (v:Value) (Q:VK),Inv X pins σ H s->RelV x v->r x H Q →
  wpAny (model X.prog X.w) X.A (f v) (EP X pins σ Q) X.xe s
def mi (X:Cx) (f:Value) (r:List V->Hp->VK->Prop):Prop :=
 ∀(pins:List (Addr×Obj)) (s:Shared) (σ:St) (H:Hp) (xs:List V) (us:List Value) (Q:VK),Inv X pins σ H s->bJ xs us->r xs H Q →
  wpAny (model X.prog X.w) X.A (call f us) (EP X pins σ Q) X.xe s
def Bm (r:R2) (ta tb:TE):TE:=λσ H Q=>ta σ H λx H1=>tb σ H1 λy H2=>r x y H2 Q
def Ct (r:V->Hp->VK->Prop) (ta:TE):TE:=λσ H Q=>ta σ H λx H1=>r x H1 Q
def rI (C:Int->Int->Prop) (g:Int->Int->V):R2:=λx y H Q=>∃i j,x=.int i/\y=.int j/\C i j/\Q (g i j) H
def zJ (g:Int->Int->V):R2:=λx y H Q=>∃i j,x=.int i/\y=.int j/\Q (g i j) H
def rU (g:Int->V):V->Hp->VK->Prop:=λx H Q=>∃i,x=.int i/\Q (g i) H
section
variable {X:Cx} {a b c:Expr} {ta tb tc:TE} {pos:Pos}
theorem AW (ha:PE X a ta) (hb:PE X b tb) {pins:List (Addr×Obj)} {s:Shared} {σ:St} {H:Hp} {R:V->V->Hp->Prop} (I:Inv X pins σ H s)
  (h:ta σ H λx H1=>tb σ H1 λy H2=>R x y H2) {Q:Value->Shared->Prop} {f:Value->Value->Sem Value}
  (hf:∀v u s2 x y H2,Inv X pins σ H2 s2->RelV x v->RelV y u->R x y H2->wpAny (model X.prog X.w) X.A (f v u) Q X.xe s2) :
  wpAny (model X.prog X.w) X.A (eval a X.env) (λv s₁=>wpAny (model X.prog X.w) X.A (eval b X.env) (λu s₂=>wpAny (model X.prog X.w) X.A (f v u) Q X.xe s₂) X.xe s₁) X.xe s:=by
 refine dJ (ha pins s σ H _ I h) λv s1 ⟨x,H1,I1,r1,q1⟩=>?_
 refine dJ (hb pins s1 σ H1 _ I1 q1) λu s2 ⟨y,H2,I2,r2,q2⟩=>?_
 exact hf v u s2 x y H2 I2 r1 r2 q2
theorem bp {op:Operator} {r:R2} (ho:qq X (binaryOp op) r) (ha:PE X a ta) (hb:PE X b tb):PE X (.BinOp a op b pos) (Bm r ta tb):=by
 intro pins s σ H Q I h;exact wpAny_BinOp (AW ha hb I h λv u s2 x y H2 I2 rx ry q=>ho pins s2 σ H2 x y v u Q I2 rx ry q)
theorem pe {op:UnaryOp} {r:V->Hp->VK->Prop} (ho:CU X (unaryOp op) r) (ha:PE X a ta):PE X (.UnaryOp op a pos) (Ct r ta):=by
 intro pins s σ H Q I h;exact UnaryOp_ (dJ (ha pins s σ H _ I h) λv s1 ⟨x,H1,I1,r1,q1⟩=>ho pins s1 σ H1 x v Q I1 r1 q1)
theorem Cu {f:Value->Value->Sem Value} {C:Int->Int->Prop} {g:Int->Int->Int}
  (rule:∀(i j:Int) (t u:Tok) (s:Shared) (Q:Value->Shared->Prop) (E:Value->Shared->Prop),C i j->Q (.int (g i j) s.toks) { s with toks:=s.toks+1 }->wpAny (model X.prog X.w) X.A (f (.int i t) (.int j u)) Q E s) :
  qq X f (rI C λi j=>.int (g i j)):=by
 intro pins s σ H x y v u Q I rx ry h;obtain ⟨i,j,rfl,rfl,hc,q⟩:=h;obtain ⟨t,rfl⟩:=rx;obtain ⟨t',rfl⟩:=ry;exact rule i j t t' s _ _ hc ⟨.int (g i j),H,I.tok _,⟨_,rfl⟩,q⟩
theorem BJ {f:Value->Value->Sem Value} {g:Int->Int->Int}
  (rule:∀(i j:Int) (t u:Tok) (s:Shared) (Q:Value->Shared->Prop) (E:Value->Shared->Prop),Q (.int (g i j) s.toks) { s with toks:=s.toks+1 }->wpAny (model X.prog X.w) X.A (f (.int i t) (.int j u)) Q E s) :
  qq X f (zJ λi j=>.int (g i j)):=by
 intro pins s σ H x y v u Q I rx ry h;obtain ⟨i,j,rfl,rfl,q⟩:=h;obtain ⟨t,rfl⟩:=rx;obtain ⟨t',rfl⟩:=ry;exact rule i j t t' s _ _ ⟨.int (g i j),H,I.tok _,⟨_,rfl⟩,q⟩
theorem AG {f:Value->Value->Sem Value} {g:Int->Int->Bool}
  (rule:∀(i j:Int) (t u:Tok) (s:Shared) (Q:Value->Shared->Prop) (E:Value->Shared->Prop),Q (.bool (g i j)) s->wpAny (model X.prog X.w) X.A (f (.int i t) (.int j u)) Q E s) :
  qq X f (zJ λi j=>.bl (g i j)):=by
 intro pins s σ H x y v u Q I rx ry h;obtain ⟨i,j,rfl,rfl,q⟩:=h;obtain ⟨t,rfl⟩:=rx;obtain ⟨t',rfl⟩:=ry;exact rule i j t t' s _ _ ⟨.bl (g i j),H,I,rfl,q⟩
def A2 (i j:Int):Prop:=(-(2^64) < i/\i < 2^64)\/(-(2^64) < j/\j < 2^64)
theorem A2.ok {i j:Int} (h:A2 i j):IntMulOk i j:=by
 rcases h with ⟨h1,h2⟩ | ⟨h1,h2⟩
 ·exact .of_left (intBits_le_64 h1 h2)
 ·exact .of_right (intBits_le_64 h1 h2)
theorem dn:qq X (binaryOp .Add) (zJ λi j=>.int (i+j)):=BJ λ_ _ _ _ _ _ _ q=>add_int q
theorem pB:qq X (binaryOp .Sub) (zJ λi j=>.int (i - j)):=BJ λ_ _ _ _ _ _ _ q=>sub_int q
theorem jD:qq X (binaryOp .Mod) (rI (λ_ j=>0 < j) λi j=>.int (i % j)):=Cu λi j _ _ _ _ _ hc q=>by
 have h1:(0:Int) < j:=hc;exact mod_int' (by lia) (by rw[Int.fmod_eq_emod_of_nonneg i (by lia)];exact q)
theorem zb:qq X (binaryOp .Mod) (rI (λ_ j=>j≠0) λi j=>.int (i.fmod j)):=Cu λ_ _ _ _ _ _ _ hc q=>mod_int' hc q
theorem unI {f:Value->Sem Value} {g:Int->Int}
  (rule:∀(i:Int) (t:Tok) (s:Shared) (Q:Value->Shared->Prop) (E:Value->Shared->Prop),Q (.int (g i) s.toks) { s with toks:=s.toks+1 }->wpAny (model X.prog X.w) X.A (f (.int i t)) Q E s) :
  CU X f (rU λi=>.int (g i)):=by
 intro pins s σ H x v Q I rx h;obtain ⟨i,rfl,q⟩:=h;obtain ⟨t,rfl⟩:=rx;exact rule i t s _ _ ⟨.int (g i),H,I.tok _,⟨_,rfl⟩,q⟩
theorem mn:CU X (unaryOp .USub) (rU λi=>.int (-i)):=unI λ_ _ _ _ _ q=>neg_int q
end
def Bv:V->V->Bool
 | .non,.non=>true | .non,.int _=>true | .int _,.non=>true | .non,.bl _=>true | .bl _,.non=>true | .non,.str _=>true | .str _,.non=>true
 | .int _,.int _=>true | .bl _,.bl _=>true | .str _,.str _=>true | .byt _,.byt _=>true
 | .int _,.str _=>true | .str _,.int _=>true | .bl _,.str _=>true | .str _,.bl _=>true
 | _,_=>false
def rEq:R2:=λx y H Q=>Bv x y=true/\Q (.bl (decide (x=y))) H
def rNe:R2:=λx y H Q=>Bv x y=true/\Q (.bl (!decide (x=y))) H
theorem vv {i j:Int}:decide (V.int i=V.int j)=(i == j):=by
 rw[kJ];simp
theorem xK {i j:Bool}:decide (V.bl i=V.bl j)=(i == j):=by
 rw[kJ];simp
theorem vt {i j:Str}:decide (V.str i=V.str j)=(i == j):=by
 rw[kJ];simp
theorem vw {i j:Array UInt8}:decide (V.byt i=V.byt j)=(i.toList == j.toList):=by
 rw[kJ];cases i;cases j;simp
section
variable {X:Cx} {a b c:Expr} {ta tb tc:TE} {pos:Pos}
theorem bU {pins:List (Addr×Obj)} {σ:St} {H:Hp} {s:Shared} {Q:VK} {k k':Bool} (I:Inv X pins σ H s) (q:Q (.bl k) H) (e:k=k'):EP X pins σ Q (.bool k') s:=by
 subst e;exact ⟨.bl k,H,I,rfl,q⟩
theorem et:qq X (compareOp .Eq) rEq:=by
 intro pins s σ H x y v u Q I rx ry h;obtain ⟨hs,q⟩:=h;cases x with
 | non =>
  cases rx;cases y with
  | non=>cases ry;exact PySem.EqNone.eq_none_none (bU I q (by simp))
  | bl j=>cases ry;exact PySem.EqNone.eq_none_bool (bU I q (by simp))
  | int j=>obtain ⟨t',rfl⟩:=ry;exact PySem.EqNone.eq_none_int (bU I q (by simp))
  | str j=>obtain ⟨t',rfl⟩:=ry;exact PySem.EqNone.eq_none_str (bU I q (by simp))
  | _=>exact absurd (show false=true from hs) aI
 | bl i =>
  cases rx;cases y with
  | non=>cases ry;exact PySem.EqNone.eq_bool_none (bU I q (by simp))
  | bl j=>cases ry;exact eq_bool (bU I q xK)
  | str j=>obtain ⟨t',rfl⟩:=ry;exact PySem.EqMixed.eq_bool_str (bU I q (by simp))
  | _=>exact absurd (show false=true from hs) aI
 | int i =>
  obtain ⟨t,rfl⟩:=rx;cases y with
  | non=>cases ry;exact PySem.EqNone.eq_int_none (bU I q (by simp))
  | int j=>obtain ⟨t',rfl⟩:=ry;exact eq_int (bU I q vv)
  | str j=>obtain ⟨t',rfl⟩:=ry;exact PySem.EqMixed.eq_int_str (bU I q (by simp))
  | _=>exact absurd (show false=true from hs) aI
 | str i =>
  obtain ⟨t,rfl⟩:=rx;cases y with
  | non=>cases ry;exact PySem.EqNone.eq_str_none (bU I q (by simp))
  | bl j=>cases ry;exact PySem.EqMixed.eq_str_bool (bU I q (by simp))
  | int j=>obtain ⟨t',rfl⟩:=ry;exact PySem.EqMixed.eq_str_int (bU I q (by simp))
  | str j=>obtain ⟨t',rfl⟩:=ry;exact eq_str (bU I q vt)
  | _=>exact absurd (show false=true from hs) aI
 | byt i =>
  obtain ⟨t,rfl⟩:=rx;cases y with
  | byt j=>obtain ⟨t',rfl⟩:=ry;exact PySem.W.eq_bytes (bU I q vw)
  | _=>exact absurd (show false=true from hs) aI
 | _=>cases y <;> exact absurd (show false=true from hs) aI
theorem qG:qq X (compareOp .NotEq) rNe:=by
 intro pins s σ H x y v u Q I rx ry h;obtain ⟨hs,q⟩:=h;cases x with
 | non =>
  cases rx;cases y with
  | non=>cases ry;exact PySem.EqNone.ne_none_none (bU I q (by simp))
  | bl j=>cases ry;exact PySem.EqNone.ne_none_bool (bU I q (by simp))
  | int j=>obtain ⟨t',rfl⟩:=ry;exact PySem.EqNone.ne_none_int (bU I q (by simp))
  | str j=>obtain ⟨t',rfl⟩:=ry;exact PySem.EqNone.ne_none_str (bU I q (by simp))
  | _=>exact absurd (show false=true from hs) aI
 | bl i =>
  cases rx;cases y with
  | non=>cases ry;exact PySem.EqNone.ne_bool_none (bU I q (by simp))
  | bl j=>cases ry;exact ne_bool (bU I q (congrArg not xK))
  | str j=>obtain ⟨t',rfl⟩:=ry;exact PySem.EqMixed.ne_bool_str (bU I q (by simp))
  | _=>exact absurd (show false=true from hs) aI
 | int i =>
  obtain ⟨t,rfl⟩:=rx;cases y with
  | non=>cases ry;exact PySem.EqNone.ne_int_none (bU I q (by simp))
  | int j=>obtain ⟨t',rfl⟩:=ry;exact ne_int (bU I q (congrArg not vv))
  | str j=>obtain ⟨t',rfl⟩:=ry;exact PySem.EqMixed.ne_int_str (bU I q (by simp))
  | _=>exact absurd (show false=true from hs) aI
 | str i =>
  obtain ⟨t,rfl⟩:=rx;cases y with
  | non=>cases ry;exact PySem.EqNone.ne_str_none (bU I q (by simp))
  | bl j=>cases ry;exact PySem.EqMixed.ne_str_bool (bU I q (by simp))
  | int j=>obtain ⟨t',rfl⟩:=ry;exact PySem.EqMixed.ne_str_int (bU I q (by simp))
  | str j=>obtain ⟨t',rfl⟩:=ry;exact ne_str (bU I q (congrArg not vt))
  | _=>exact absurd (show false=true from hs) aI
 | byt i =>
  obtain ⟨t,rfl⟩:=rx;cases y with
  | byt j=>obtain ⟨t',rfl⟩:=ry;exact PySem.W.ne_bytes (bU I q (congrArg not vw))
  | _=>exact absurd (show false=true from hs) aI
 | _=>cases y <;> exact absurd (show false=true from hs) aI
theorem lT:qq X (compareOp .Lt) (zJ λi j=>.bl (decide (i < j))):=AG λ_ _ _ _ _ _ _ q=>lt_int q
theorem pC:qq X (compareOp .Gt) (zJ λi j=>.bl (decide (j < i))):=AG λ_ _ _ _ _ _ _ q=>gt_int q
theorem qH:qq X (compareOp .GtE) (zJ λi j=>.bl (decide (j<=i))):=AG λ_ _ _ _ _ _ _ q=>ge_int q
theorem ba (b:Expr) {op:CmpOp} (h:op≠.In:=by decide) (h2:op≠.NotIn:=by decide):behindInMarks op b=false:=by
 have e1:(op == CmpOp.In)=false:=by cases op <;> first | rfl | exact absurd rfl h
 have e2:(op == CmpOp.NotIn)=false:=by cases op <;> first | rfl | exact absurd rfl h2
 cases b <;> simp [behindInMarks,e1,e2]
theorem lB {op:CmpOp} {r:R2} (ho:qq X (compareOp op) r) (ha:PE X a ta) (hb:PE X b tb) (hm:behindInMarks op b=false):PE X (.Compare a [op] [b] pos) (Bm r ta tb):=by
 intro pins s σ H Q I h;exact wpAny_Compare1 (AW ha hb I h λv u s2 x y H2 I2 rx ry q=>ho pins s2 σ H2 x y v u Q I2 rx ry q) hm
def zA (t:TE):TT:=λσ H Q=>t σ H λx H'=>∃k,x=.bl k/\Q k H'
theorem aQ {op:CmpOp} {r:R2} (ho:qq X (compareOp op) r) (ha:PE X a ta) (hb:PE X b tb) (hm:behindInMarks op b=false):PT X (.Compare a [op] [b] pos) (zA (Bm r ta tb)):=by
 intro pins s σ H Q I h
 refine wpAny_isTrue_Compare1 (dJ (ha pins s σ H _ I h) λv s1 ⟨x,H1,I1,r1,q1⟩=>dJ (hb pins s1 σ H1 _ I1 q1) λu s2 ⟨y,H2,I2,r2,q2⟩ =>
  dJ (ho pins s2 σ H2 x y v u _ I2 r1 r2 q2) λc s3 ⟨z,H3,I3,r3,k,e,q3⟩=>?_) hm
 subst e;cases r3;exact wpAny_truthy_bool ⟨H3,I3,q3⟩
theorem pP:(sizeLine:Nat) < 2^63:=by rw[sizeLine_eq];decide
theorem vals1 {x:V} {us:List Value} (r:bJ [x] us):∃u,us=[u]/\RelV x u:=by
 cases r with
 | cons r1 r2=>cases r2;exact ⟨_,rfl,r1⟩
theorem vals2 {x y:V} {us:List Value} (r:bJ [x,y] us):∃u w',us=[u,w']/\RelV x u/\RelV y w':=by
 cases r with
 | cons r1 r2 =>
  cases r2 with
  | cons r3 r4=>cases r4;exact ⟨_,_,rfl,r1,r3⟩
theorem pU:mi X (.builtin "abs") (λxs H Q=>∃i,xs=[.int i]/\Q (.int (if i < 0 then -i else i)) H):=by
 intro pins s σ H xs us Q I r h;obtain ⟨i,rfl,q⟩:=h;obtain ⟨u,rfl,t,rfl⟩:=vals1 r;exact call_abs_int λu tk=>⟨.int (if i < 0 then -i else i),H,I.tok _,⟨_,rfl⟩,q⟩
theorem lH (hc:X.calm=true):mi X (.builtin "min") (λxs H Q=>∃i j,xs=[.int i,.int j]/\Q (.int (if j < i then j else i)) H):=by
 intro pins s σ H xs us Q I r h;obtain ⟨i,j,rfl,q⟩:=h;obtain ⟨u,w',rfl,⟨t,rfl⟩,⟨t',rfl⟩⟩:=vals2 r;refine min_two_ints (I.ok.hd hc) λh' tk k=>⟨_,H,I.kept k,?_,q⟩
 by_cases hj:j < i
 ·rw[if_pos hj,if_pos hj];exact ⟨_,rfl⟩
 ·rw[if_neg hj,if_neg hj];exact ⟨_,rfl⟩
end
structure wg (h:Heap) (x dx C:Addr) (mA:Str->Option Value):Prop where
 obj:h.get? x=some (PySem.W.instObj C dx)
 ns:h.Ns1 dx mA
 ne:dx≠x
theorem vZ {h:Heap} {dx:Addr} {mA:Str->Option Value} (n:h.Ns1 dx mA):∃od,h.get? dx=some od/\∀name,PySem.W.lookIn name od=some (mA name):=by
 obtain ⟨o,es,ep,ho,hd,hk,_,hm⟩:=n;refine ⟨o,ho,λname=>?_⟩;have e:=hm name;unfold nsFind findBy at e;rw[<- Array.find?_toList] at e;unfold PySem.W.lookIn;rw[hd]
 dsimp only
 split
 ·rename_i y q
  rw[q] at e;exact congrArg some e
 ·rename_i q
  rw[q] at e
  have a:es.toList.any (·.refKey)=false:=by
   rw[List.any_eq_false];intro y hy;obtain ⟨z,t,hkey⟩:=hk y (Array.mem_toList_iff.mp hy);simp [DictEntry.refKey,hkey]
  have a':¬es.toList.any (·.refKey)=true:=by rw[a];exact aI
  rw[if_neg a'];exact congrArg some e
theorem wg.look {h:Heap} {x dx C:Addr} {mA:Str->Option Value} (I:wg h x dx C mA):∃od,PySem.W.InstAt h x (PySem.W.instObj C dx) C (some od)/\∀name,PySem.W.lookIn name od=some (mA name) :=
 let ⟨od,ho,hl⟩:=vZ I.ns
 ⟨od,⟨I.obj,rfl,rfl,ho⟩,hl⟩
section
variable {prog:Program} {w:World} {A:Around} {E:Value->Shared->Prop} {s:Shared} {K:FG9} {x dx C f:Addr} {mA:Str->Option Value} {name:Str} {v:Value}
theorem get_map {expr:Bool} {Q:Value->Shared->Prop} (X:K.In s.heap) (I:wg s.heap x dx C mA) (hg:PySem.W.plainGet K C name=true) (hh:PySem.W.hasDictIn K C=true)
  (ha:PySem.W.findIn K (.ref C) name=some none) (hv:mA name=some v) (hv':PySem.W.handedIn v=true) (h:Q v { s with toks:=s.toks+1 }) :
  wpAny (model prog w) A (getAttr (.ref x) name expr) Q E s:=by
 obtain ⟨od,J,hl⟩:=I.look;exact PySem.W.get_value X J (PySem.W.plainGet_of hg).1 (PySem.W.findObj_own hh ha rfl (by rw[hl,hv])) hv' h
theorem yy {ns:List Str} {Q:Unit->Shared->Prop} (X:K.In s.heap) (I:wg s.heap x dx C mA)
  (hs:PySem.W.findIn K (.ref C) "__setattr__"=some (some (.builtin "object.__setattr__"))) (hp:PySem.W.plainOver K C=true) (ht:PySem.W.takerIn K C name=some none) (hh:PySem.W.hasDictIn K C=true)
  (hw:PySem.Within mA ns) (hsz:ns.length<=sizeLine)
  (h:∀h',wg h' x dx C (λy=>if y=name then some v else mA y)->Heap.SameBut dx s.heap h'->Q () { s with heap:=h',toks:=s.toks+2 }) :
  wpAny (model prog w) A (setAttr (.ref x) name v) Q E s:=by
 obtain ⟨od,J,hl⟩:=I.look;refine PySem.W.set_plain X J hs (PySem.W.osa_open (s:={ s with toks:=s.toks+1 }) (r:=none) X J hp ht λb=>?_);obtain ⟨cd,hc,hd'⟩:=PySem.W.any_some hh;have hx:s.heap.get? x=some ⟨.ref C,some dx,.plain,#[]⟩:=I.obj;refine wpAny_bind (wpAny_pure (wpAny_bind (wpAny_bind (wpAny_loadPart hx (wpAny_bind (PySem.W.Looks.here (s:={ s with toks:=s.toks+1 }) (PySem.W.looks_clsIn X hc) ?_))))));rw[hd'];refine wpAny_pure (a:=some dx) (wpAny_bind (wpAny_pure (wpAny_bind ?_)));refine wpAny_nsSet1 (s:={ s with toks:=s.toks+1 }) I.ns λh' hn2 hs2=>?_
 obtain ⟨oD,esD,epD,hoD,hdD,hcD⟩:=hn2.count (PySem.Within.cons name v hw);refine wpAny_bind (wpAny_lookBehind hoD (by rw[hdD];exact pastItsLine_dict (ah hcD (by rw[b6];lia))) ?_);exact wpAny_pure (h _ ⟨(hs2.2 _ (Ne.symm I.ne)).trans I.obj,hn2,I.ne⟩ hs2)
theorem xt {R:Result->Shared->Prop} {vs:List Value} {kw:List (Str×Value)} (X:K.In s.heap) (hm:PySem.W.makesIn K C=true)
  (hi:PySem.W.findIn K (.ref C) "__init__"=some (some (.ref f))) (hf:PySem.W.typeIn K (.ref f)=some (.type "function"))
  (h:codeAny (model prog w) (A.under (.builtin "type.__call__" ⟨.ref C :: vs,kw⟩)) (.call (.ref f) ⟨.ref (s.heap.objs.size+1) :: vs,kw⟩) (PySem.W.InitBack (s.heap.objs.size+1) R)
   { s with heap:=(s.heap.push PySem.W.emptyDict).push (PySem.W.instObj C s.heap.objs.size) }) :
  codeAny (model prog w) A (.call (.ref C) ⟨vs,kw⟩) R s:=by
 obtain ⟨hh,g,d,t,os⟩:=s;exact PySem.W.make_core (PySem.W.makes_of X hm) (PySem.W.looks_findIn X hi) (λself=>PySem.W.bind_fn X self hf) (.inl rfl) h
end
def bg (f:Str) (v:V):List (Str×V)->List (Str×V)
 | []=>[(f,v)]
 | (g,x) :: r=>if g=f then (g,v) :: r else (g,x) :: bg f v r
theorem br (f g:Str) (v:V):∀fs:List (Str×V),(bg f v fs).lookup g=if g=f then some v else fs.lookup g
 | []=>by
  show List.lookup g [(f,v)]=_
  by_cases h:g=f
  ·have hb:(g == f)=true:=beq_iff_eq.mpr h;simp only[List.lookup,hb,if_pos h]
  ·have hb:(g == f)=false:=beq_eq_false_iff_ne.mpr h;simp only[List.lookup,hb,if_neg h]
 | (k,x) :: r=>by
  have ih:=br f g v r;rw[show bg f v ((k,x) :: r)=(if k=f then (k,v) :: r else (k,x) :: bg f v r) from rfl];by_cases hk:k=f
  ·rw[if_pos hk];by_cases h:g=k
   ·have hb:(g == k)=true:=beq_iff_eq.mpr h;simp only[List.lookup,hb,if_pos (h.trans hk)]
   ·have hb:(g == k)=false:=beq_eq_false_iff_ne.mpr h;simp only[List.lookup,hb,if_neg (λe:g=f=>h (e.trans hk.symm))]
  ·rw[if_neg hk];by_cases h:g=k
   ·have hb:(g == k)=true:=beq_iff_eq.mpr h;simp only[List.lookup,hb,if_neg (λe:g=f=>hk (h.symm.trans e))]
   ·have hb:(g == k)=false:=beq_eq_false_iff_ne.mpr h;simp only[List.lookup,hb];exact ih
theorem nU (f:Str) (v:V):∀fs:List (Str×V),f∈(bg f v fs).map (·.1)/\∀g,g∈fs.map (·.1)->g∈(bg f v fs).map (·.1)
 | []=>⟨by simp [bg],λg h=>by simp at h⟩
 | (k,x) :: r=>by
  obtain ⟨i1,i2⟩:=nU f v r;rw[show bg f v ((k,x) :: r)=(if k=f then (k,v) :: r else (k,x) :: bg f v r) from rfl];by_cases hk:k=f
  ·rw[if_pos hk];subst hk;exact ⟨by simp,λg h=>by simpa using h⟩
  ·rw[if_neg hk];refine ⟨?_,λg h=>?_⟩
   ·rw[gY];exact aP _ i1
   ·rw[gY] at h ⊢;rcases aA.mp h with e | e
    ·exact aA.mpr (.inl e)
    ·exact aP _ (i2 g e)
theorem oq (f:Str) (v:V):∀fs:List (Str×V),(bg f v fs).length<=fs.length+1
 | []=>by simp [bg]
 | (k,x) :: r=>by
  have ih:=oq f v r;rw[show bg f v ((k,x) :: r)=(if k=f then (k,v) :: r else (k,x) :: bg f v r) from rfl];by_cases hk:k=f
  ·rw[if_pos hk,b6,b6];lia
  ·rw[if_neg hk,b6,b6];lia
theorem uF.some_of {v:V} {o:Option Value} (r:uF (some v) o):∃u,o=some u/\RelV v u:=by
 cases o with
 | none=>exact (show False from r).elim
 | some u=>exact ⟨u,rfl,r⟩
theorem v7 {v:V} {u:Value} (r:RelV v u):PySem.W.handedIn u=true:=by
 cases v with
 | non=>cases (show u=Value.none from r);rfl
 | bl b=>cases (show u=Value.bool b from r);rfl
 | int i=>obtain ⟨t,e⟩:=(show ∃t,u=Value.int i t from r);cases e;rfl
 | str x=>obtain ⟨t,e⟩:=(show ∃t,u=Value.str x t from r);cases e;rfl
 | byt b=>obtain ⟨t,e⟩:=(show ∃t,u=Value.bytes b t from r);cases e;rfl
 | flt b=>obtain ⟨t,e⟩:=(show ∃t,u=Value.float b t from r);cases e;rfl
 | ref a=>cases (show u=Value.ref a from r);rfl
 | ty n=>cases (show u=Value.type n from r);rfl
section
variable {P:Program} {w:World} {H H':Hp} {h h':Heap} {a C dx:Addr} {fs fs':List (Str×V)}
theorem rW (hok:oO P w H h) (e:H a=some (.ins C dx fs)):∃mA,wg h a dx C mA/\(∀f,uF (fs.lookup f) (mA f))/\PySem.Within mA (fs.map (·.1))/\fs.length<=1000/\H dx=some (.own a):=by
 obtain ⟨d,z,ne,ob,mA,n,r,q⟩:=(show fg P w H h a (.ins C dx fs) from hok a _ e);exact ⟨mA,⟨ob,n,ne⟩,r,q,z,d⟩
end
structure ye (K:FG9) (C:Addr):Prop where
 pg:PySem.W.plainGet K C Str.empty=true
 hd:PySem.W.hasDictIn K C=true
 po:PySem.W.plainOver K C=true
 sa:PySem.W.findIn K (.ref C) "__setattr__"=some (some (.builtin "object.__setattr__"))
theorem ye.get {K:FG9} {C:Addr} (c:ye K C) (f:Str):PySem.W.plainGet K C f=true:=c.pg
def fD (K:FG9) (C:Addr) (f:Str):Prop:=PySem.W.findIn K (.ref C) f=some none
theorem fD.taker {K:FG9} {C:Addr} {f:Str} (n:fD K C f):PySem.W.takerIn K C f=some none:=by
 unfold PySem.W.takerIn;rw[show PySem.W.findIn K (.ref C) f=some none from n];rfl
section
variable {X:Cx} {pins:List (Addr×Obj)} {σ:St} {H:Hp} {s:Shared} {a C dx:Addr} {fs:List (Str×V)} {f:Str} {v:V} {A:Around} {E:Value->Shared->Prop}
theorem uC {b:Bool} {Q:Value->Shared->Prop} (I:Inv X pins σ H s) (e:H a=some (.ins C dx fs)) (c:ye X.K C) (n:fD X.K C f) (l:fs.lookup f=some v)
  (h:∀u s',Inv X pins σ H s'->RelV v u->Q u s'):wpAny (model X.prog X.w) A (getAttr (.ref a) f b) Q E s:=by
 obtain ⟨mA,O,r,_,_,_⟩:=rW I.hok e;obtain ⟨u,hu,ru⟩:=uF.some_of (v:=v) (o:=mA f) (by rw[<- l];exact r f);exact get_map I.kIn O (c.get f) c.hd n hu (v7 ru) (h u _ (I.tok _) ru)
theorem uj {y:V} {u:Value} {Q:Unit->Shared->Prop} (I:Inv X pins σ H s) (e:H a=some (.ins C dx fs)) (c:ye X.K C) (n:fD X.K C f) (hl:fs.length < 1000) (ry:RelV y u)
  (h:∀s',Inv X pins σ (upd H a (.ins C dx (bg f y fs))) s'->Q () s'):wpAny (model X.prog X.w) A (setAttr (.ref a) f u) Q E s:=by
 obtain ⟨mA,O,r,wi,_,ho⟩:=rW I.hok e;have hz:(fs.map (·.1)).length<=sizeLine:=by rw[ar,sizeLine_eq];lia
 refine yy I.kIn O c.sa c.po n.taker c.hd wi hz λh' O' sb=>h _ ?_
 have hd:∃o,h'.get? dx=some o:=let ⟨o,_,_,e',_⟩:=O'.ns;⟨o,e'⟩
 refine I.write (x:=a) (e:=dx) (by rw[e];exact True.intro) (.inr ho) (λb q hb z=>(sb.2 b hb).trans z) hd ?_;refine ⟨by rw[aH O.ne];exact ho,?_,O.ne,O'.obj,_,O'.ns,λg=>?_,λg hg=>?_⟩
 ·have:=oq f y fs;lia
 ·show uF ((bg f y fs).lookup g) (if g=f then some u else mA g)
  rw[br];by_cases q:g=f
  ·rw[if_pos q,if_pos q];exact ry
  ·rw[if_neg q,if_neg q];exact r g
 ·by_cases q:g=f
  ·rw[q];exact (nU f y fs).1
  ·refine (nU f y fs).2 g (wi g λz=>hg ?_);show (if g=f then some u else mA g)=none
   rw[if_neg q];exact z
theorem Inv.made (I:Inv X pins σ H s):Inv X pins σ (upd (upd H s.heap.objs.size (.own (s.heap.objs.size+1))) (s.heap.objs.size+1) (.ins C s.heap.objs.size []))
  { s with heap:=(s.heap.push PySem.W.emptyDict).push (PySem.W.instObj C s.heap.objs.size) }:=by
 have e1:(s.heap.push PySem.W.emptyDict).get? s.heap.objs.size=some PySem.W.emptyDict:=Heap.get?_push_size s.heap rfl
 have e2:((s.heap.push PySem.W.emptyDict).push (PySem.W.instObj C s.heap.objs.size)).get? (s.heap.objs.size+1)=some (PySem.W.instObj C s.heap.objs.size):=by
  have:=Heap.get?_push_size (s.heap.push PySem.W.emptyDict) (o:=PySem.W.instObj C s.heap.objs.size) rfl;rwa [Heap.size_push] at this
 have e3:(s.heap.push PySem.W.emptyDict).Ns s.heap.objs.size (λ_=>none):=⟨PySem.W.emptyDict,#[],_,e1,rfl,(λe he=>absurd he (by simp)),λ_=>rfl⟩;have I1:=I.laid (a:=s.heap.objs.size) (o:=.own (s.heap.objs.size+1)) (h':=s.heap.push PySem.W.emptyDict) (t':=s.toks) (λb u q=>Heap.get?_push_of_some _ q) (av _) ⟨_,e1⟩;refine I1.laid (a:=s.heap.objs.size+1) (o:=.ins C s.heap.objs.size []) (t':=s.toks) (λb u q=>Heap.get?_push_of_some _ q) (Nat.le_of_eq (Heap.size_push _ _)) ?_;have ne:s.heap.objs.size≠s.heap.objs.size+1:=aU (gJ _);refine ⟨by rw[aH ne,ay],bq _,ne,e2,λ_=>none,(Heap.Ns1.of_empty e3).at λo q=>Heap.get?_push_of_some _ q,λ_=>True.intro,λy hy=>absurd rfl hy⟩
theorem zw {prog:Program} {w:World} {env:Env} {e:Expr} {f:Str} {pos:Pos} {s:Shared} {Q:Value->Shared->Prop} (hb:attributeBase e f env (eval e env)=eval e env)
  (h:wpAny (model prog w) A (eval e env) (λo s₁=>wpAny (model prog w) A (getAttr o f true) Q E s₁) E s):wpAny (model prog w) A (eval (.Attribute e f pos) env) Q E s :=
 Attribute_any_ h (by rw[arm_eval_Attribute,hb])
end
def Br (K:FG9) (ta:TE) (f:Str):TE:=λσ H Q=>ta σ H λx H1=>∃a C dx fs v,x=.ref a/\H1 a=some (.ins C dx fs)/\ye K C/\fD K C f/\fs.lookup f=some v/\Q v H1
def Bw (K:FG9) (ta tv:TE) (f:Str):TS:=λD σ H=>tv σ H λy H1=>ta σ H1 λx H2=>∃a C dx fs,x=.ref a/\H2 a=some (.ins C dx fs)/\ye K C/\fD K C f/\fs.length < 1000 /\
 D.nx σ (upd H2 a (.ins C dx (bg f y fs)))
section
variable {X:Cx} {o e value:Expr} {f:Str} {pos pos' tpos:Pos} {ta tv:TE}
theorem mr (he:PE X e ta) (hb:attributeBase e f X.env (eval e X.env)=eval e X.env):PE X (.Attribute e f pos) (Br X.K ta f):=by
 intro pins s σ H Q I h;refine zw hb (dJ (he pins s σ H _ I h) λu s1 ⟨x,H1,I1,rx,a,C,dx,fs,v,ex,ea,c,n,l,q⟩=>?_);subst ex;obtain rfl:u=Value.ref a:=rx;exact uC I1 ea c n l λu' s2 I2 ru=>⟨v,H1,I2,ru,q⟩
theorem nO (ha:PE X o ta) (hv:PE X value tv) (hs:swapsWith value (some (.Attribute o f pos')) pos.line X.env=pure false):PS X (.Assign [.Attribute o f pos'] value pos) (Bw X.K ta tv f):=by
 intro pins s σ H D I h;refine plainObj_wpAny_Assign_Attribute (dJ (hv pins s σ H _ I h) λu s1 ⟨y,H1,I1,ry,q⟩=>dJ (ha pins s1 σ H1 _ I1 q) λov s2 ⟨x,H2,I2,rx,a,C,dx,fs,ex,ea,c,n,l,q2⟩=>?_) hs;subst ex;obtain rfl:ov=Value.ref a:=rx;exact uj I2 ea c n l ry λs3 I3=>⟨σ,_,I3,q2⟩
end
section
variable {X:Cx} {pins:List (Addr×Obj)} {σ:St} {H:Hp} {s:Shared} {A:Around} {E:Value->Shared->Prop} {Q:Value->Shared->Prop} {c:Value} {b:Bool}
inductive nZ (K:FG9) (H:Hp):V->Value->Prop where
 | non:nZ K H .non (.type "NoneType")
 | bl (x:Bool):nZ K H (.bl x) (.type "bool")
 | int (i:Int):nZ K H (.int i) (.type "int")
 | str (x:Str):nZ K H (.str x) (.type "str")
 | flt (x:UInt64):nZ K H (.flt x) (.type "float")
 | lst {a:Addr} {xs:List V} (e:H a=some (.lst xs)):nZ K H (.ref a) (.type "list")
 | frz {a:Addr} {o:Obj} {xs:List V} (e:H a=some (.frz o (.lst xs))):nZ K H (.ref a) (.type "list")
 | tup {a:Addr} {xs:List V} (e:H a=some (.tup xs)):nZ K H (.ref a) (.type "tuple")
 | dK {a:Addr} {kvs:List (Key×V)} (e:H a=some (.dK kvs)):nZ K H (.ref a) (.type "dict")
 | dT {a:Addr} {kvs:List (List Key×V)} (e:H a=some (.dT kvs)):nZ K H (.ref a) (.type "dict")
 | ins {a C dx:Addr} {fs:List (Str×V)} (e:H a=some (.ins C dx fs)) (cl:ye K C) (ha:PySem.W.findIn K (.ref C) "__class__"=some (some (.builtin "object.__class__")))
   (hn:PySem.W.specialIn K (.builtin "object.__class__") "__get__"=some (some (.builtin "getset_descriptor.__get__"))) (htk:PySem.W.takesIn K (.builtin "object.__class__")=some true)
   (hm:PySem.W.mroIn K C (.type "object")=some true):nZ K H (.ref a) (.ref C)
theorem qM {x:V} {u t:Value} (I:Inv X pins σ H s) (rx:RelV x u) (ty:nZ X.K H x t) (e:PySem.W.kitOne X.K t c=some b) (h:∀tk,Q (.bool b) { s with toks:=tk }) :
  wpAny (model X.prog X.w) A (call (.builtin "isinstance") [u,c]) Q E s:=by
 cases ty with
 | non=>cases (show u=Value.none from rx);exact bT PySem.W.kitx_none I.kIn True.intro e (λz=>nomatch z) h
 | bl y=>cases (show u=Value.bool y from rx);exact bT PySem.W.kitx_bool I.kIn True.intro e (λz=>nomatch z) h
 | int i=>obtain ⟨t,q⟩:=(show ∃t,u=Value.int i t from rx);cases q;exact bT PySem.W.kitx_int I.kIn True.intro e (λz=>nomatch z) h
 | str y=>obtain ⟨t,q⟩:=(show ∃t,u=Value.str y t from rx);cases q;exact bT PySem.W.kitx_str I.kIn True.intro e (λz=>nomatch z) h
 | flt y=>obtain ⟨t,q⟩:=(show ∃t,u=Value.float y t from rx);cases q;exact bT PySem.W.kitx_float I.kIn True.intro e (λz=>nomatch z) h
 | @lst a xs ea =>
  cases (show u=Value.ref a from rx);obtain ⟨_,_,n,_,h1⟩:=(show fg X.prog X.w H s.heap a (.lst xs) from I.hok a _ ea);exact bT PySem.W.kitx_list I.kIn ⟨_,h1,rfl⟩ e (λz=>nomatch z) h
 | @frz a ob xs ea =>
  cases (show u=Value.ref a from rx);obtain ⟨_,_,_,n,_,h1⟩:=(show fg X.prog X.w H s.heap a (.frz ob (.lst xs)) from I.hok a _ ea);exact bT PySem.W.kitx_list I.kIn ⟨_,h1,rfl⟩ e (λz=>nomatch z) h
 | @tup a xs ea =>
  cases (show u=Value.ref a from rx);obtain ⟨_,_,_,p⟩:=(show fg X.prog X.w H s.heap a (.tup xs) from I.hok a _ ea);obtain ⟨o,h1,h2,_⟩:=p;exact bT PySem.W.kitx_tuple I.kIn ⟨o,h1,h2⟩ e (λz=>nomatch z) h
 | @dK a kvs ea =>
  cases (show u=Value.ref a from rx);obtain ⟨_,_,vs,_,p⟩:=(show fg X.prog X.w H s.heap a (.dK kvs) from I.hok a _ ea);obtain ⟨o,es,ep,h1,h2,_⟩:=p;exact bT PySem.W.kitx_dict I.kIn ⟨o,h1,h2.1⟩ e (λz=>nomatch z) h
 | @dT a kvs ea =>
  cases (show u=Value.ref a from rx);obtain ⟨_,_,xs,_,o,es,ep,h1,h2,_⟩:=(show fg X.prog X.w H s.heap a (.dT kvs) from I.hok a _ ea);exact bT PySem.W.kitx_dict I.kIn ⟨o,h1,h2.1⟩ e (λz=>nomatch z) h
 | @ins a C dx fs ea cl ha hn htk hm =>
  cases (show u=Value.ref a from rx);obtain ⟨mA,O,_⟩:=rW I.hok ea;obtain ⟨od,J,_⟩:=O.look;exact bT (PySem.W.kitx_own (cl.get _) cl.hd ha hn htk hm) I.kIn J e (λz=>nomatch z) h
end
structure ig (k:Nat) (A:Around):Prop where
 hd:A.handled=none
 dp:A.depth+3*k+5 < recursionLimit
 un:A.units+16*k+200 < cLine
theorem ig.mono {j k:Nat} {A:Around} (r:ig k A) (h:j<=k):ig j A:=⟨r.hd,by have:=r.dp;lia,by have:=r.un;lia⟩
theorem ig.deeper {k:Nat} {A:Around} (r:ig (k+1) A) (env:Env):ig k (A.deeper env) :=
 ⟨r.hd,by have:=r.dp;show A.depth+1+3*k+5 < _;lia,by have:=r.un;show A.units+3+16*k+200 < _;lia⟩
theorem uz {A:Around} {C:Addr} {us:List Value} {kw:List (Str×Value)}:(A.under (.builtin "type.__call__" ⟨.ref C :: us,kw⟩)).depth=A.depth+1:=by
 first | rfl | simp [Around.under,Code.weight,Code.isCreation,Code.isGuard,Code.isCaller,Code.frames,Code.isFrame,guardIds]
theorem uy {A:Around} {C:Addr} {us:List Value} {kw:List (Str×Value)}:(A.under (.builtin "type.__call__" ⟨.ref C :: us,kw⟩)).units=A.units+1:=by
 first | rfl | simp [Around.under,Code.cUnits,Code.frames,Code.isFrame]
theorem ig.make {k:Nat} {A:Around} (r:ig (k+1) A) (C:Addr) (us:List Value) (kw:List (Str×Value)):ig k (A.under (.builtin "type.__call__" ⟨.ref C :: us,kw⟩)) :=
 ⟨r.hd,by have:=r.dp;rw[uz];lia,by have:=r.un;rw[uy];lia⟩
theorem ig.depth {k:Nat} {A:Around} (r:ig k A):A.depth < recursionLimit:=by have:=r.dp;lia
theorem ig.units {k:Nat} {A:Around} (r:ig k A):A.units+64 < cLine:=by have:=r.un;lia
def vI:TA:=λ_ H Q=>Q [] H
def kK (ta:TE) (tr:TA):TA:=λσ H Q=>ta σ H λx H1=>tr σ H1 λxs H2=>Q (x :: xs) H2
section
variable {X:Cx} {e:Expr} {es:List Expr} {te:TE} {t:TA} {pos:Pos}
theorem ag:PA X [] vI:=λ_ _ _ _ H Q I h=>Calls.spliced_nil ⟨[],H,I,.nil,h⟩
theorem aa (ha:PE X e te) (hr:PA X es t) (hs:starEach (e :: es) X.env=(false,eval e X.env) :: starEach es X.env:=by rfl):PA X (e :: es) (kK te t):=by
 intro pos pins s σ H Q I h;rw[hs];show wpAny _ _ (spliced ((false,eval e X.env) :: backTo pos (starEach es X.env))) _ _ s
 refine Calls.spliced_cons (dJ (ha pins s σ H _ I h) λu s1 ⟨x,H1,I1,r1,q1⟩=>?_);exact dJ (hr pos pins s1 σ H1 _ I1 q1) λus s2 ⟨xs,H2,I2,r2,q2⟩=>⟨x :: xs,H2,I2,.cons r1 r2,q2⟩
def Bg (t:TA):TE:=λσ H Q=>t σ H λxs H1=>xs.length<=sizeLine/\∀p,H1 p=none->Q (.ref p) (upd H1 p (.tup xs))
def Bo (t:TA):TE:=λσ H Q=>t σ H λxs H1=>xs.length<=sizeLine/\∀p,H1 p=none->Q (.ref p) (upd H1 p (.lst xs))
theorem dH {x1} (h:PA X es t):PE X (.Tuple es x1 pos) (Bg t):=by
 intro pins s σ H Q I hq;refine wpAny_Tuple_spliced (dJ (h pos pins s σ H _ I hq) λus s1 ⟨xs,H1,I1,r,z,q⟩=>⟨by rw[<- r.length];exact z,?_⟩);have hf:H1 s1.heap.objs.size=none:=I1.hok.fresh (av _);refine ⟨.ref s1.heap.objs.size,upd H1 s1.heap.objs.size (.tup xs),I1.laid (t':=s1.toks) (λb u e=>Heap.get?_push_of_some _ e) (av _) ?_,rfl,q _ hf⟩;exact ⟨z,us,r,⟨_,Heap.get?_push_size _ rfl,rfl,_,rfl⟩⟩
theorem iB (h:PA X es t):PE X (.List es pos) (Bo t):=by
 intro pins s σ H Q I hq;refine wpAny_List_spliced (dJ (h pos pins s σ H _ I hq) λus s1 ⟨xs,H1,I1,r,z,q⟩=>⟨by rw[<- r.length];exact z,?_⟩);have hf:H1 s1.heap.objs.size=none:=I1.hok.fresh (av _);refine ⟨.ref s1.heap.objs.size,upd H1 s1.heap.objs.size (.lst xs),I1.laid (t':=s1.toks) (λb u e=>Heap.get?_push_of_some _ e) (av _) ?_,rfl,q _ hf⟩;exact ⟨z,us,0,r,Heap.get?_push_size _ rfl⟩
end
abbrev Sp:=List V->Hp->VK->XK->Prop
abbrev yf:=List Env->Hp->Shared->XK->Value->Shared->Prop
structure uK (P:Program) (w:World) (K:FG9) (mg:Str->Option Value) (base:Heap) (A:Around) (outer:List Env) (s:Shared) (H:Hp):Prop where
 frames:A.frames=some outer
 mod:Mod K mg base
 bs:∀b o,base.get? b=some o->s.heap.get? b=some o/\H b=none
 bsz:base.objs.size<=s.heap.objs.size
 funs:s.heap.FunFrames base outer
 frf:∀b∈wo outer,H b=none
 hok:oO P w H s.heap
 bare:AllBare s.gens
def CE (outer:List Env) (P:Program) (w:World) (H:Hp) (s:Shared) (Q:VK) (u:Value) (s':Shared):Prop :=
 ∃v H',s'.os=s.os/\AllBare s'.gens/\Un (wo outer) [] H H' s.heap s'.heap/\oO P w H' s'.heap/\RelV v u/\Q v H'
def CR (CX:yf) (outer:List Env) (P:Program) (w:World) (H:Hp) (s:Shared) (Q:VK) (E:XK) (r:Result) (s':Shared):Prop :=
 match r with
 | .ok (.ret u)=>CE outer P w H s Q u s'
 | .ok _=>False
 | .error e=>CX outer H s E e s'
structure cE (P:Program) (w:World) (K:FG9) (mg:Str->Option Value) (base:Heap) (CX:yf) (k:Nat) (f:Addr) (fd:FuncData) (ps:List Str) (sp:Sp):Prop where
 len:∀vs H Q E,sp vs H Q E->vs.length=ps.length
 run:∀(A:Around) (outer:List Env) (s:Shared) (H:Hp) (args:Args) (us:List Value) (vs:List V) (Q:VK) (E:XK),ig k A->uK P w K mg base A outer s H->BindsTo s fd args (ps.zip us)->bJ vs us->sp vs H Q E →
  codeAny (model P w) A (.call (.ref f) args) (CR CX outer P w H s Q E) s
theorem uK.make {P:Program} {w:World} {K:FG9} {mg:Str->Option Value} {base:Heap} {A:Around} {outer:List Env} {s:Shared} {H:Hp} (e:uK P w K mg base A outer s H) (C:Addr) (us:List Value) (kw:List (Str×Value)) :
  uK P w K mg base (A.under (.builtin "type.__call__" ⟨.ref C :: us,kw⟩)) outer s H:=⟨by first | exact e.frames | (simpa [Around.under,Code.envs,Code.isFrame,pushEnvs] using e.frames),e.mod,e.bs,e.bsz,e.funs,e.frf,e.hok,e.bare⟩
section
variable {X:Cx} {pins:List (Addr×Obj)} {σ:St} {H:Hp} {s s':Shared}
theorem Inv.env0 (I:Inv X pins σ H s):uK X.prog X.w X.K X.mg X.base X.A X.stack s H :=
 ⟨I.ok.frames,I.ok.mod,I.bs,ah I.ok.bsz I.sz,I.stack,I.stkFree,I.hok,I.bare⟩
theorem Inv.after {Q:VK} {u:Value} (I:Inv X pins σ H s) (h:CE X.stack X.prog X.w H s Q u s'):EP X pins σ Q u s':=by
 obtain ⟨v,H',os,bare,un,hok,r,q⟩:=h;obtain ⟨hh,g,d,t,os'⟩:=s';obtain rfl:os'=s.os:=os;exact ⟨v,H',I.call (h':=hh) (g':=g) (d':=d) (t':=t) (ch:=[]) un hok bare (λb z=>absurd z (by simp)),r,q⟩
end
def wG (sp:Sp) (dvs:List V) (E:XK) (t:TA):TE:=λσ H Q=>t σ H λvs H1=>sp (vs++dvs) H1 Q E
def zE (C:Addr) (sp:Sp) (dvs:List V) (E:XK) (t:TA):TE:=λσ H Q=>t σ H λvs H1=>∀x dx,H1 x=none->H1 dx=none->dx≠x →
 sp (.ref x :: (vs++dvs)) (upd (upd H1 dx (.own x)) x (.ins C dx [])) (λv H2=>v=.non/\Q (.ref x) H2) E
def Binds (K:FG9) (fd:FuncData) (ps:List Str) (ds:List Value):Prop :=
 ∀(s:Shared) (us:List Value),K.In s.heap->(us++ds).length=ps.length->BindsTo s fd ⟨us,[]⟩ (ps.zip (us++ds))
theorem Binds.all {K:FG9} {fd:FuncData} {ps:List Str} (h:∀us:List Value,us.length=ps.length->bindArgs fd ⟨us,[]⟩=pure (ps.zip us)):Binds K fd ps []:=λs us _ hl=>by
 rw[yk] at hl ⊢;exact .of_eq (h us hl)
def p4 (CX:yf) (X:Cx) (E:XK):Prop:=∀(pins:List (Addr×Obj)) (σ:St) (H:Hp) (s:Shared) (e:Value) (s':Shared),Inv X pins σ H s->CX X.stack H s E e s'->X.xe e s'
section
variable {X:Cx} {CX:yf} {k:Nat} {f C:Addr} {fd:FuncData} {ps:List Str} {sp:Sp} {dvs:List V} {ds:List Value} {E:XK} {x m:Str} {p pos apos:Pos} {e o:Expr} {es:List Expr} {ta:TE} {t:TA}
theorem z9 {pins:List (Addr×Obj)} {σ:St} {H:Hp} {s:Shared} {Q:VK} {us:List Value} {vs:List V} (F:cE X.prog X.w X.K X.mg X.base CX k f fd ps sp) (hr:ig k X.A) (hb:Binds X.K fd ps ds) (hd:bJ dvs ds) (hx:p4 CX X E)
  (I:Inv X pins σ H s) (r:bJ vs us) (h:sp (vs++dvs) H Q E):wpAny (model X.prog X.w) X.A (call (.ref f) us) (EP X pins σ Q) X.xe s:=by
 have r2:bJ (vs++dvs) (us++ds):=r.append hd;have hl:(us++ds).length=ps.length:=by rw[<- r2.length];exact F.len _ _ _ _ h
 refine wpAny_call (codeAny_mono (F.run X.A X.stack s H ⟨us,[]⟩ (us++ds) (vs++dvs) Q E hr I.env0 (hb s us I.kIn hl) r2 h) λr s' hq=>?_);cases r with
 | error e=>exact hx pins σ H s e s' I hq
 | ok fl =>
  cases fl with
  | ret u=>exact I.after hq
  | next=>exact False.elim hq
  | brk=>exact False.elim hq
  | cont=>exact False.elim hq
theorem za (F:cE X.prog X.w X.K X.mg X.base CX k f fd ps sp) (hr:ig k X.A) (hg:Gl X x) (hm:X.mg x=some (.ref f)) (hk:PySem.W.keepIn X.K (.ref f)=true) (hb:Binds X.K fd ps ds) (hd:bJ dvs ds) (hx:p4 CX X E)
  (ha:PA X (e :: es) t) (hdb:(x == ("__debug__":Str))=false:=by decide) (he:starEach (e :: es) X.env=(false,eval e X.env) :: starEach es X.env:=by rfl) (hpl:(backTo pos (starEach es X.env)).any (·.1)=false:=by rfl) :
  PE X (.Call (.Name x p) (e :: es) [] pos) (wG sp dvs E t):=by
 intro pins s σ H Q I h;refine wpAny_Call_Name_kw (rS I hg hm ?_ hdb);refine PySem.W.callWith_K (h₀:=X.base) I.ok.mod.kin hk (dJ (ha pos pins s σ H _ I h) λus s1 ⟨vs,H1,I1,r,q⟩=>⟨I1.kIn,?_⟩) he hpl;exact z9 F hr hb hd hx I1 r q
structure Mk (K:FG9) (C f:Addr):Prop where
 makes:PySem.W.makesIn K C=true
 init:PySem.W.findIn K (.ref C) "__init__"=some (some (.ref f))
 fn:PySem.W.isFn K (.ref f)=true
 kp:PySem.W.keepIn K (.ref C)=true
theorem wW {pins:List (Addr×Obj)} {σ:St} {H:Hp} {s:Shared} {Q:VK} {us:List Value} {vs:List V} (M:Mk X.K C f) (F:cE X.prog X.w X.K X.mg X.base CX k f fd ps sp) (hr:ig (k+1) X.A) (hb:Binds X.K fd ps ds) (hd:bJ dvs ds)
  (hx:p4 CX X E) (I:Inv X pins σ H s) (r:bJ vs us)
  (h:∀x dx,H x=none->H dx=none->dx≠x->sp (.ref x :: (vs++dvs)) (upd (upd H dx (.own x)) x (.ins C dx [])) (λv H2=>v=.non/\Q (.ref x) H2) E) :
  wpAny (model X.prog X.w) X.A (call (.ref C) us) (EP X pins σ Q) X.xe s:=by
 have hq:=h (s.heap.objs.size+1) s.heap.objs.size (I.hok.fresh (nu _)) (I.hok.fresh (av _)) (aU (gJ _));have I2:=Inv.made (C:=C) I;have r2:bJ (V.ref (s.heap.objs.size+1) :: (vs++dvs)) (Value.ref (s.heap.objs.size+1) :: (us++ds)):=.cons rfl (r.append hd)
 have hl:(Value.ref (s.heap.objs.size+1) :: us++ds).length=ps.length:=by
  have e:=r2.length;rw[F.len _ _ _ _ hq] at e;exact e.symm
 refine wpAny_call (xt (f:=f) I.kIn M.makes M.init (beq_iff_eq.mp M.fn) (codeAny_mono (F.run _ X.stack _ _ ⟨Value.ref (s.heap.objs.size+1) :: us,[]⟩ (Value.ref (s.heap.objs.size+1) :: (us++ds)) _ _ E (hr.make C us [])
  (I2.env0.make C us []) (hb _ (Value.ref (s.heap.objs.size+1) :: us) I2.kIn hl) r2 hq) λr s' hq'=>?_))
 cases r with
 | error e=>exact hx pins σ _ _ e s' I2 hq'
 | ok fl =>
  cases fl with
  | ret u =>
   obtain ⟨v,H',I3,rv,ev,q3⟩:=I2.after hq';subst ev;exact ⟨rv,⟨V.ref (s.heap.objs.size+1),H',I3,rfl,q3⟩⟩
  | next=>exact False.elim hq'
  | brk=>exact False.elim hq'
  | cont=>exact False.elim hq'
theorem y9 (M:Mk X.K C f) (F:cE X.prog X.w X.K X.mg X.base CX k f fd ps sp) (hr:ig (k+1) X.A) (hg:Gl X x) (hm:X.mg x=some (.ref C)) (hb:Binds X.K fd ps ds) (hd:bJ dvs ds) (hx:p4 CX X E)
  (ha:PA X (e :: es) t) (hdb:(x == ("__debug__":Str))=false:=by decide) (he:starEach (e :: es) X.env=(false,eval e X.env) :: starEach es X.env:=by rfl) (hpl:(backTo pos (starEach es X.env)).any (·.1)=false:=by rfl) :
  PE X (.Call (.Name x p) (e :: es) [] pos) (zE C sp dvs E t):=by
 intro pins s σ H Q I h;refine wpAny_Call_Name_kw (rS I hg hm ?_ hdb);refine PySem.W.callWith_K (h₀:=X.base) I.ok.mod.kin M.kp (dJ (ha pos pins s σ H _ I h) λus s1 ⟨vs,H1,I1,r,q⟩=>⟨I1.kIn,?_⟩) he hpl;exact wW M F hr hb hd hx I1 r q
end
structure bc (N P:List Str) (sc:Scope):Prop where
 kind:sc.kind=.function
 co:sc.isCoroutine=false
 gen:sc.isGenerator=false
 nd:N.Nodup
 pre:N.take P.length=P
 par:∀x∈P,sc.names.lookup x=some .local\/sc.names.lookup x=some .cell
 nofree:∀y∈sc.names,y.2≠.free
theorem qT {kindOf:Str->Option NameKind} {x:Str}:∀{binds:List (Str×Value)} {m:Str->Option Value},(∀v,(x,v)∉binds)->bindL kindOf binds m x=m x
 | [],_,_=>rfl
 | (n,v) :: r,m,h=>by
  unfold bindL;rw[qT λw hw=>h w (aP _ hw)]
  split
  ·have:x≠n:=by rintro rfl;exact h v bS
   simp [this]
  ·rfl
theorem qV {kindOf:Str->Option NameKind} {x:Str}:∀{binds:List (Str×Value)} {m:Str->Option Value},(∀v,(x,v)∉binds)->bindC kindOf binds m x=m x
 | [],_,_=>rfl
 | (n,v) :: r,m,h=>by
  unfold bindC;rw[qV λw hw=>h w (aP _ hw)]
  split
  ·rfl
  ·have:x≠n:=by rintro rfl;exact h v bS
   simp [this]
theorem qU {kindOf:Str->Option NameKind} {x:Str} {v:Value}:∀{P:List Str} {vs:List Value} {i:Nat} {m:Str->Option Value},P.Nodup->P[i]?=some x->vs[i]?=some v->kindOf x=some .local →
  bindL kindOf (P.zip vs) m x=some v
 | [],_,_,_,_,h,_,_=>by simp at h
 | _ :: _,[],_,_,_,_,h,_=>by simp at h
 | p :: P,w :: vs,0,m,nd,h1,h2,hk=>by
  simp at h1 h2;subst h1;subst h2;show bindL kindOf ((p,w) :: P.zip vs) m p=_
  unfold bindL;rw[qT λv hv=>(cD.mp nd).1 (yi hv).1,if_pos hk];simp
 | p :: P,w :: vs,i+1,m,nd,h1,h2,hk=>by
  show bindL kindOf ((p,w) :: P.zip vs) m x=_
  unfold bindL;exact qU (i:=i) (cD.mp nd).2 (by simpa using h1) (by simpa using h2) hk
theorem qW {kindOf:Str->Option NameKind} {x:Str} {v:Value}:∀{P:List Str} {vs:List Value} {i:Nat} {m:Str->Option Value},P.Nodup->P[i]?=some x->vs[i]?=some v->kindOf x≠some .local →
  bindC kindOf (P.zip vs) m x=some v
 | [],_,_,_,_,h,_,_=>by simp at h
 | _ :: _,[],_,_,_,_,h,_=>by simp at h
 | p :: P,w :: vs,0,m,nd,h1,h2,hk=>by
  simp at h1 h2;subst h1;subst h2;show bindC kindOf ((p,w) :: P.zip vs) m p=_
  unfold bindC;rw[qV λv hv=>(cD.mp nd).1 (yi hv).1,if_neg hk];simp
 | p :: P,w :: vs,i+1,m,nd,h1,h2,hk=>by
  show bindC kindOf ((p,w) :: P.zip vs) m x=_
  unfold bindC;exact qW (i:=i) (cD.mp nd).2 (by simpa using h1) (by simpa using h2) hk
def start (N:List Str) (vs:List V):St:=vs.map some++List.replicate (N.length - vs.length) none
def v9 (CX:yf) (P:Program) (w:World) (K:FG9) (mg:Str->Option Value) (base:Heap) (N:List Str) (qual:Str) (scope:Scope) (f:Addr) (cd:Value) (A:Around) (outer:List Env) (s:Shared) (H:Hp) (E:XK):Cx where
 prog:=P
 w:=w
 K:=K
 mg:=mg
 base:=base
 A:=A.deeper (envOfC qual scope s.heap.objs.size f cd)
 N:=N
 s₀:=s
 H₀:=H
 env:=envOfC qual scope s.heap.objs.size f cd
 outer:=outer
 stack:=envOfC qual scope s.heap.objs.size f cd :: outer
 ex:=[]
 calm:=true
 fn:=λ_=>true
 pn:=[]
 xe:=λe s'=>wpAny (model P w) (A.deeper (envOfC qual scope s.heap.objs.size f cd)) (leaving (envOfC qual scope s.heap.objs.size f cd) e) (λ_ s''=>CX outer H s E e s'') (λe' s''=>CX outer H s E e' s'') s'
theorem tO {sc:Scope} {n:Nat} {x:Str} (h:sc.names.lookup x=some .cell):∃c,(cellsFrom n sc.names []).lookup x=some c:=by
 have q:=oP sc.names n [] (.inl h);exact A9.mp q
theorem v3 {CX:yf} {P:Program} {w:World} {K:FG9} {mg:Str->Option Value} {base:Heap} {N ps:List Str} {qual:Str} {scope:Scope} {f:Addr} {cd:Value} {A:Around} {outer:List Env} {s s1:Shared} {H:Hp} {E:XK} {us:List Value} {vs:List V}
  (S:bc N ps scope) (hd:A.handled=none) (e0:uK P w K mg base A outer s H) (hl:vs.length=ps.length) (r:bJ vs us)
  (x:InCallC s s.heap.objs.size (bindL (envOfC qual scope s.heap.objs.size f cd).kindOf (ps.zip us) λ_=>none) (cellsFrom (s.heap.objs.size+1) scope.names []) (bindC (envOfC qual scope s.heap.objs.size f cd).kindOf (ps.zip us) λ_=>none) s1) :
  Inv (v9 CX P w K mg base N qual scope f cd A outer s H E) [] (start N vs) H s1:=by
 have hpl:ps.length<=N.length:=by have:=congrArg List.length S.pre;rw[wu] at this;lia
 obtain ⟨h1,tk,rfl,hk⟩:=x.done;have noA:∀b:Addr,b∉(v9 CX P w K mg base N qual scope f cd A outer s H E).ex:=λb z=>absurd (show b∈([]:List Addr) from z) (by simp)
 refine ⟨⟨e0.mod,S.kind,rfl,rfl,av _,λy z c h1 h2=>?_,λy hy=>?_,λy c _ h=>?_,λ_=>hd,Around.frames_deeper e0.frames,.inr ⟨rfl,rfl⟩,λb z=>absurd z (noA b),e0.bs,e0.bsz,λb _ _=>noA b,λb z=>absurd z (noA b),e0.funs,e0.frf⟩,
  rfl,e0.bare,Un.kept hk,⟨_,x.toInCall.ns,λi y v h1 h2 h3=>?_⟩,λy c h=>⟨_,x.cell y c h⟩,e0.hok.fresh (av _),λy c h=>?_,λp hp=>absurd (show p∈([]:List (Addr×Obj)) from hp) (by simp),e0.hok.kept hk,?_⟩
 ·exact name_of_addr x.apart (gT h1) (gT h2)
 ·have hy:scope.names.lookup y=some .cell\/scope.names.lookup y=some .free:=hy;rcases hy with hy | hy
  ·exact tO hy
  ·exact absurd rfl (S.nofree _ (gT hy))
 ·exact bu (x.above y c (gT h))
 ·have hi:i < vs.length:=by
   unfold start at h2;by_cases hi:i < vs.length
   ·exact hi
   ·rw[mj (by simpa using hi)] at h2;rw[iM] at h2
    split at h2 <;> cases h2
  have ha:vs[i]?=some v:=by
   unfold start at h2;rw[A3 (by simpa using hi),aB] at h2;cases e:vs[i]? with
   | none=>rw[e] at h2;cases h2
   | some a=>rw[e] at h2;cases h2;rfl
  obtain ⟨u,hu,rv⟩:=r.get ha
  have hp:ps[i]?=some y:=by
   rw[<- S.pre,List.getElem?_take_of_lt (by lia)];exact h1
  have ndP:ps.Nodup:=by rw[<- S.pre];exact S.nd.sublist (List.take_sublist _ _)
  refine ⟨u,rv,?_⟩;rcases S.par y (ao hp) with k | k
  ·exact .inl ⟨k,qU ndP hp hu k⟩
  ·obtain ⟨c,e⟩:=tO (n:=s.heap.objs.size+1) k;refine .inr ⟨.inl k,c,e,?_⟩;have q:=x.cell y c e;rw[qW ndP hp hu (by show scope.names.lookup y≠_;rw[k];decide)] at q;exact q
 ·exact e0.hok.fresh (bu (x.above y c (gT h)))
 ·unfold start;show _=N.length
  rw[bx,ar,fo]
  lia
theorem BX {CX:yf} {P:Program} {w:World} {K:FG9} {mg:Str->Option Value} {base:Heap} {k:Nat} {f:Addr} {name qual:Str} {params:Arguments} {body:List Stmt} {scope:Scope} {dV kV doc pm cdv ct oc:Value} {an od:Option Addr}
  {osl:Array (Option Value)} {N ps:List Str} {sp:Sp} (lk:K.lookup f=some ⟨oc,od,.func (PySem.W.fnOf name qual params body scope dV kV doc pm an cdv ct),osl⟩) (hcd:PySem.W.codeIn K cdv qual=true) (S:bc N ps scope)
  (len:∀vs H Q E,sp vs H Q E->vs.length=ps.length)
  (hbody:∀(A:Around) (outer:List Env) (s:Shared) (H:Hp) (vs:List V) (Q:VK) (E:XK),ig k (A.deeper (envOfC qual scope s.heap.objs.size f cdv))->sp vs H Q E →
   ∃t,uH (v9 CX P w K mg base N qual scope f cdv A outer s H E) body t/\t { nx:=λ_ H'=>Q .non H',rt:=Q } (start N vs) H) :
  cE P w K mg base CX (k+1) f (PySem.W.fnOf name qual params body scope dV kV doc pm an cdv ct) ps sp:=by
 refine ⟨len,λA outer s H args us vs Q E hr e0 hb r hsp=>?_⟩;have hl:=len _ _ _ _ hsp;have KX:K.In s.heap:=e0.mod.kin.keeps λb o e=>(e0.bs b o e).1
 have lim:s.heap.NoLimit:=e0.mod.nolimit.keeps λb o e=>(e0.bs b o e).1
 have hkind:∀y∈ps.zip us,scope.names.lookup y.1=some .local\/(scope.names.lookup y.1=some .cell/\((cellsFrom (s.heap.objs.size+1) scope.names []).lookup y.1).isSome=true):=λ⟨n,v⟩ hy=>by
  rcases S.par n (yi hy).1 with q | q
  ·exact .inl q
  ·exact .inr ⟨q,oP _ _ _ (.inl q)⟩
 refine codeAny_call_function hr.depth (KX _ _ lk) rfl S.co S.gen rfl (PySem.W.codeRec_of KX hcd) (hb _ _ _ _ ?_);refine wpAny_newFunctionEnv_cells S.kind hkind λenv he s1 x=>?_
 subst he;refine ⟨lim.keeps x.toInCall.keep,codeAny_func ?_⟩;obtain ⟨t,ht,hq⟩:=hbody A outer s H vs Q E (hr.deeper _) hsp;have I:Inv (v9 CX P w K mg base N qual scope f cdv A outer s H E) [] (start N vs) H s1:=v3 S hr.hd e0 hl r x;refine wpAny_mono (ht [] s1 (start N vs) H _ I hq) (λfl s' hs=>?_) λe s' hs=>hs
 have fin:∀{σ':St} {H':Hp} {v:V} {u:Value},Inv (v9 CX P w K mg base N qual scope f cdv A outer s H E) [] σ' H' s'->RelV v u->Q v H'->CE outer P w H s Q u s' :=
  λ{σ' H' v u} J rv q=>⟨v,H',J.os,J.bare,J.base,J.hok,rv,q⟩
 cases fl with
 | ret u =>
  obtain ⟨v,σ',H',J,rv,q⟩:=hs;exact fin J rv q
 | next =>
  obtain ⟨σ',H',J,q⟩:=hs;exact fin (v:=V.non) (u:=Value.none) J rfl q
 | brk =>
  obtain ⟨_,_,_,q⟩:=hs;exact False.elim q
 | cont =>
  obtain ⟨_,_,_,q⟩:=hs;exact False.elim q
section
variable {X:Cx} {x:Str} {p pos:Pos} {e:Expr} {es:List Expr} {t:TA} {id T:String} {r:List V->Hp->VK->Prop}
def CC (r:List V->Hp->VK->Prop) (t:TA):TE:=λσ H Q=>t σ H λvs H1=>r vs H1 Q
theorem bD (hc:mi X (.builtin id) r) (hg:Gl X x) (hm:X.mg x=none) (hv:bootBuiltins x=some (.builtin id)) (ha:PA X (e :: es) t) (hn:x≠"__name__":=by decide) (hdb:(x == ("__debug__":Str))=false:=by decide)
  (he:starEach (e :: es) X.env=(false,eval e X.env) :: starEach es X.env:=by rfl) (hpl:(backTo pos (starEach es X.env)).any (·.1)=false:=by rfl):PE X (.Call (.Name x p) (e :: es) [] pos) (CC r t):=by
 intro pins s σ H Q I h;refine wpAny_Call_Name_kw (iH I hg hm hv ?_ hn hdb);exact PyProof.Rows.callWith_builtin1 (dJ (ha pos pins s σ H _ I h) λus s1 ⟨vs,H1,I1,r1,q1⟩=>hc pins s1 σ H1 vs us Q I1 r1 q1) he hpl
theorem lC (hc:mi X (.type T) r) (hg:Gl X x) (hm:X.mg x=none) (hv:bootBuiltins x=some (.type T)) (ha:PA X (e :: es) t) (hn:x≠"__name__":=by decide) (hdb:(x == ("__debug__":Str))=false:=by decide)
  (he:starEach (e :: es) X.env=(false,eval e X.env) :: starEach es X.env:=by rfl) (hpl:(backTo pos (starEach es X.env)).any (·.1)=false:=by rfl):PE X (.Call (.Name x p) (e :: es) [] pos) (CC r t):=by
 intro pins s σ H Q I h;refine wpAny_Call_Name_kw (iH I hg hm hv ?_ hn hdb);exact PyProof.Rows.callWith_type1 (dJ (ha pos pins s σ H _ I h) λus s1 ⟨vs,H1,I1,r1,q1⟩=>hc pins s1 σ H1 vs us Q I1 r1 q1) he hpl
end
end L2
namespace HT
open PySem PyProof.Rows
section
open PySem.SeqAt
open PySem.AutoSeq1 (wpAny_loadPart')
open PySem.MeetsSeq PySem.MeetsSeq2 PySem.MeetsSeq3
end
section
variable {prog:Program} {w:World} {A:Around} {E:Value->Shared->Prop} {s:Shared}
def uq (n d:Nat):Option Int->Nat
 | none=>d
 | some v=>if v < 0 then (v+(n:Int)).toNat else min v.toNat n
end
end HT
namespace L2
open PySem PySem.Spec PyProof.Rows
abbrev TO:=St->Hp->(Option Int->Hp->Prop)->Prop
def PO (X:Cx) (e:Option Expr) (t:TO):Prop :=
 ∀(pins:List (Addr×Obj)) (s:Shared) (σ:St) (H:Hp) (Q:Option Int->Hp->Prop),Inv X pins σ H s->t σ H Q →
  wpAny (model X.prog X.w) X.A (evalPart e X.env) (λu s'=>∃o H',Inv X pins σ H' s'/\IsPart u o/\Q o H') X.xe s
def uQ:TO:=λ_ H Q=>Q none H
def zB (t:TE):TO:=λσ H Q=>t σ H λx H1=>∃i,x=.int i/\Q (some i) H1
theorem intsAre_of {ns:List Int}:∀{us:List Value},bJ (ns.map V.int) us->IntsAre us ns:=by
 induction ns with
 | nil=>intro us r;rw[List.map_nil] at r;cases r;exact .nil
 | cons n ns ih =>
  intro us r;rw[gY] at r;cases r with
  | cons r1 r2 =>
   obtain ⟨t,e⟩:=r1;subst e;exact .cons n t (ih r2)
section
variable {X:Cx} {e:Expr} {te:TE} {lo hi:Option Expr} {tl th:TO} {pos p2:Pos}
theorem y4:PO X none uQ:=by
 intro pins s σ H Q I h;rw[evalPart_none];exact wpAny_pure ⟨none,H,I,.none,h⟩
theorem y0 (h:PE X e te):PO X (some e) (zB te):=by
 intro pins s σ H Q I hw;rw[evalPart_some];refine dJ (h pins s σ H _ I hw) λu s1 ⟨x,H1,I1,r1,q1⟩=>?_
 obtain ⟨i,rfl,q⟩:=q1;obtain ⟨t,rfl⟩:=r1;exact ⟨some i,H1,I1,.int i t,q⟩
def SlR (X:Cx) (r:V->Option Int->Option Int->Hp->VK->Prop):Prop :=
 ∀(pins:List (Addr×Obj)) (s:Shared) (σ:St) (H:Hp) (x:V) (v vl vu:Value) (lo hi:Option Int) (sl:Addr) (Q:VK),Inv X pins σ H s->RelV x v->s.heap.IsSliceOf sl vl vu .none->IsPart vl lo->IsPart vu hi->r x lo hi H Q →
  ∃T id,typeLookup (.type T) "__getitem__"=pure (some (.builtin id))/\s.TypeIs v T/\wpAny (model X.prog X.w) X.A (getItem v (.ref sl)) (EP X pins σ Q) X.xe s
def tSl (r:V->Option Int->Option Int->Hp->VK->Prop) (te:TE) (tl th:TO):TE:=λσ H Q=>te σ H λx H1=>tl σ H1 λl H2=>th σ H2 λu H3=>r x l u H3 Q
theorem xi {r:V->Option Int->Option Int->Hp->VK->Prop} (hr:SlR X r) (he:PE X e te) (hl:PO X lo tl) (hu:PO X hi th):PE X (.Subscript e (.Slice lo hi none p2) pos) (tSl r te tl th):=by
 intro pins s σ H Q I h;refine Subscript_ (dJ (he pins s σ H _ I h) λv s1 ⟨x,H1,I1,r1,q1⟩=>?_);refine wpAny_Slice (dJ (hl pins s1 σ H1 _ I1 q1) λvl s2 ⟨l,H2,I2,pl,q2⟩=>dJ (hu pins s2 σ H2 _ I2 q2) λvu s3 ⟨u,H3,I3,pu,q3⟩=>?_);rw[evalPart_none];refine wpAny_pure ?_;have I4:Inv X pins σ H3 { s3 with heap:=s3.heap.push { cls:=.type "slice",data:=.fields #[vl,vu,.none] } }:=I3.kept (t':=s3.toks) λb ob q=>Heap.get?_push_of_some _ q
 obtain ⟨T,id,hT,ht,hg⟩:=hr pins { s3 with heap:=s3.heap.push { cls:=.type "slice",data:=.fields #[vl,vu,.none] } } σ H3 x v vl vu l u s3.heap.objs.size Q I4 r1 (Heap.IsSliceOf.new ..) pl pu q3;show wpAny (model X.prog X.w) X.A (subscriptTail e (.Slice lo hi none p2) v (.ref s3.heap.objs.size)) (EP X pins σ Q) X.xe { s3 with heap:=s3.heap.push { cls:=.type "slice",data:=.fields #[vl,vu,.none] } }
 exact tail_any (ops:=[.ref s3.heap.objs.size,v]) ht hT hg (by with_unfolding_all rfl)
def su (xs:List V) (lo hi:Option Int):List V:=(xs.drop (HT.uq xs.length 0 lo)).take (HT.uq xs.length xs.length hi - HT.uq xs.length 0 lo)
theorem ot (xs:List V) (lo hi:Option Int):(su xs lo hi).length<=xs.length:=by
 unfold su;rw[wu,List.length_drop]
 lia
end
def wm (n:Nat) (i:Int):Option Nat:=if 0<=i then (if i < n then some i.toNat else none) else if -(n:Int)<=i then some (i+n).toNat else none
def t5 {α:Type} (xs:List α) (i:Int):Option α:=(wm xs.length i).bind λj=>xs[j]?
theorem vh {n:Nat} {i:Int} {j:Nat} (h:wm n i=some j):seqIndex? i n=some j/\j < n/\-(n:Int)<=i/\i < n:=by
 unfold wm at h;by_cases h0:0<=i
 ·rw[if_pos h0] at h;by_cases h1:i < n
  ·rw[if_pos h1] at h;have e:i.toNat=j:=bG h;exact ⟨by rw[seqIndex_of h0 h1,e],by lia,by lia,h1⟩
  ·rw[if_neg h1] at h;cases h
 ·rw[if_neg h0] at h;by_cases h1:-(n:Int)<=i
  ·rw[if_pos h1] at h;have e:(i+n).toNat=j:=bG h;exact ⟨by rw[seqIndex_neg (by lia) h1,e],by lia,h1,by lia⟩
  ·rw[if_neg h1] at h;cases h
theorem sC {α:Type} {xs:List α} {i:Int} {v:α} (h:t5 xs i=some v):∃j,seqIndex? i xs.length=some j/\xs[j]?=some v/\j < xs.length/\-(xs.length:Int)<=i/\i < xs.length:=by
 unfold t5 at h;cases e:wm xs.length i with
 | none=>rw[e] at h;cases h
 | some j =>
  rw[e] at h;obtain ⟨h1,h2,h3,h4⟩:=vh e;exact ⟨j,h1,h,h2,h3,h4⟩
theorem ke {α:Type} {xs:List α} {j:Nat} {v:α} (h:xs[j]?=some v):t5 xs (j:Int)=some v:=by
 have hj:j < xs.length:=(aG.mp h).1
 have e:wm xs.length (j:Int)=some j:=by
  unfold wm;rw[if_pos (by lia),if_pos (by lia)];simp
 unfold t5;rw[e];exact h
theorem xV {α:Type} (xs:List α) (v:α):t5 (xs++[v]) (-1)=some v:=by
 have hl:(xs++[v]).length=xs.length+1:=by simp
 have e:wm (xs++[v]).length (-1)=some xs.length:=by
  unfold wm;rw[hl,if_neg (by decide),if_pos (by lia)];congr 1
  lia
 unfold t5;rw[e];show (xs++[v])[xs.length]?=some v
 simp
def zy (b:Expr):Prop:=∀o i,subscripted b false o i=operate [o,i] (getItem o i)
def Cq (X:Cx) (r:R2):Prop :=
 ∀(value slice:Expr) (pins:List (Addr×Obj)) (s:Shared) (σ:St) (H:Hp) (x y:V) (v u:Value) (Q:VK),Inv X pins σ H s->RelV x v->RelV y u->r x y H Q →
  subscripted slice false v u=operate [v,u] (getItem v u)->wpAny (model X.prog X.w) X.A (subscriptTail value slice v u) (EP X pins σ Q) X.xe s
def MtR (X:Cx) (id:String) (r:V->List V->Hp->VK->Prop):Prop :=
 ∀(pins:List (Addr×Obj)) (s:Shared) (σ:St) (H:Hp) (x:V) (xs:List V) (v:Value) (us:List Value) (Q:VK),Inv X pins σ H s->RelV x v->bJ xs us->r x xs H Q →
  wpAny (model X.prog X.w) X.A (call (.builtin id) (v :: us)) (EP X pins σ Q) X.xe s
section
variable {X:Cx} {a b:Expr} {ta tb:TE} {pos:Pos}
theorem bw {r:R2} (hr:Cq X r) (ha:PE X a ta) (hb:PE X b tb) (hs:zy b:=by intro _ _;rfl):PE X (.Subscript a b pos) (Bm r ta tb):=by
 intro pins s σ H Q I h;exact Subscript_ (AW ha hb I h λv u s2 x y H2 I2 rx ry q=>hr a b pins s2 σ H2 x y v u Q I2 rx ry q (hs _ _))
def Ax (K:FG9):R2:=λx y H Q=>∃p xs i v,x=.ref p/\y=.int i/\bL K H p xs/\t5 xs i=some v/\Q v H
def Aw (K:FG9):R2:=λx y H Q=>∃p xs i v,x=.ref p/\y=.int i/\lO K H p xs/\t5 xs i=some v/\Q v H
theorem bH:Cq X (Ax X.K):=by
 intro value slice pins s σ H x y v u Q I rx ry h hs;obtain ⟨p,xs,i,z,rfl,rfl,hq,he,q⟩:=h;cases rx;obtain ⟨t,rfl⟩:=ry;obtain ⟨its,r,pl,hz⟩:=I.list hq;obtain ⟨j,h1,h2,h3,h4,h5⟩:=sC he;obtain ⟨w,ew,rw'⟩:=r.get h2;have hl:=r.length;have hn:=pP;have fin:EP X pins σ Q w s:=⟨z,H,I,rw',q⟩;by_cases h0:0<=i
 ·have hj:i.toNat=j:=by
   rw[seqIndex_of h0 h5] at h1;exact bG h1
  exact item_listR pl.isList h0 (by lia) (by rw[hj];simpa using ew) fin hs
 ·have hj:(i+(its.toArray.size:Int)).toNat=j:=by
   rw[seqIndex_neg (by lia) h4] at h1;rw[ax,<- hl];exact bG h1
  exact subscriptTail_builtinR (x:=w) pl.isList.typeIs slot_list_getitem.lookup
   (wpAny_getItem_list_neg (Q:=λr s'=>r=w/\EP X pins σ Q r s') pl.isList (by lia) (by rw[ax] <;> lia) (by lia) (by rw[hj];simpa using ew) ⟨rfl,fin⟩) hs
theorem cb:Cq X (Aw X.K):=by
 intro value slice pins s σ H x y v u Q I rx ry h hs;obtain ⟨p,xs,i,z,rfl,rfl,hq,he,q⟩:=h;cases rx;obtain ⟨t,rfl⟩:=ry;obtain ⟨its,r,pl,hz⟩:=I.tuple hq;obtain ⟨j,h1,h2,h3,h4,h5⟩:=sC he;obtain ⟨w,ew,rw'⟩:=r.get h2;have hl:=r.length;have hn:=pP;have fin:EP X pins σ Q w s:=⟨z,H,I,rw',q⟩
 exact subscriptTail_builtinR (x:=w) pl.typeIs slot_tuple_getitem.lookup
  (getItem_tuple (j:=j) (Q:=λr s'=>r=w/\EP X pins σ Q r s') pl (by lia) (by lia) (by rw[ax,<- hl];exact h1) (by simpa using ew) ⟨rfl,fin⟩) hs
theorem ux (its:List Value) (n j:Nat) (u:Value):Obj.mapSeq (·.setIfInBounds j u) { cls:=.type "list",data:=.seq its.toArray n }={ cls:=.type "list",data:=.seq (its.set j u).toArray n }:=by
 simp [Obj.mapSeq]
theorem Inv.lst {pins:List (Addr×Obj)} {σ:St} {H:Hp} {s:Shared} {p:Addr} {xs:List V} (I:Inv X pins σ H s) (h:H p=some (.lst xs)) :
  ∃(its:List Value) (n:Nat),bJ xs its/\s.heap.get? p=some { cls:=.type "list",data:=.seq its.toArray n }/\xs.length<=sizeLine:=by
 obtain ⟨z,its,n,r,e⟩:=I.hok p _ h;exact ⟨its,n,r,e,z⟩
theorem Inv.lstUpd {pins:List (Addr×Obj)} {σ:St} {H:Hp} {s:Shared} {p:Addr} {xs ys:List V} {its its':List Value} {n n':Nat} {f:Obj->Obj} (I:Inv X pins σ H s) (h:H p=some (.lst xs))
  (ho:s.heap.get? p=some { cls:=.type "list",data:=.seq its.toArray n }) (hf:f { cls:=.type "list",data:=.seq its.toArray n }={ cls:=.type "list",data:=.seq its'.toArray n' }) (r:bJ ys its') (hz:ys.length<=sizeLine) (t:Nat) :
  Inv X pins σ (upd H p (.lst ys)) { s with heap:=s.heap.update p f,toks:=t }:=by
 have e:(s.heap.update p f).get? p=some { cls:=.type "list",data:=.seq its'.toArray n' }:=by
  rw[Heap.get?_update_self f ho (by rw[hf] <;> rfl),hf]
 refine I.write (x:=p) (e:=p) (by rw[h];trivial) (.inl rfl) (λb u hb q=>(Heap.get?_update_other _ _ (Ne.symm hb)).trans q) ⟨_,e⟩ ?_;exact ⟨hz,its',n',r,e⟩
def zI:V->V->V->Hp->(Hp->Prop)->Prop:=λo i v H Q=>∃p xs k j,o=.ref p/\i=.int k/\H p=some (.lst xs)/\wm xs.length k=some j/\Q (upd H p (.lst (xs.set j v)))
theorem set_list:AY X zI:=by
 intro pins s σ H o i v ov iv u Q I ro ri rv h;obtain ⟨p,xs,k,j,rfl,rfl,hp,hj,q⟩:=h;cases ro;obtain ⟨t,rfl⟩:=ri;obtain ⟨its,n,r,ho,hz⟩:=I.lst hp;obtain ⟨h1,h2,h3,h4⟩:=vh hj;have hl:=r.length;have hn:=pP
 have I':Inv X pins σ (upd H p (.lst (xs.set j v))) { s with heap:=s.heap.update p (Obj.mapSeq (·.setIfInBounds j u)) } :=
  I.lstUpd hp ho (ux its n j u) (r.set rv j) (by rw[yj];exact hz) s.toks
 by_cases h0:0<=k
 ·have hk:k.toNat=j:=by
   rw[seqIndex_of h0 h4] at h1;exact bG h1
  exact PySem.W.ki_setAt ho h0 (by lia) (by rw[ax,<- hl];exact h4) (by rw[hk];exact ⟨_,I',q⟩)
 ·have hk:(k+(its.toArray.size:Int)).toNat=j:=by
   rw[seqIndex_neg (by lia) h3] at h1;rw[ax,<- hl];exact bG h1
  exact PySem.W.ki_setBack ho (by lia) (by rw[ax,<- hl];exact h3) (by lia) (by rw[hk];exact ⟨_,I',q⟩)
theorem rj (lo hi:Option Int) (n:Nat):(sliceBounds lo hi none n).1=((HT.uq n 0 lo:Nat):Int)/\(sliceBounds lo hi none n).2.1=((HT.uq n n hi:Nat):Int)/\(sliceBounds lo hi none n).2.2=1:=by
 refine ⟨?_,?_,rfl⟩
 ·cases lo with
  | none=>simp [sliceBounds,HT.uq]
  | some i =>
   simp only[sliceBounds,HT.uq,Option.getD_none,show (1:Int) > 0 by decide,if_true];by_cases h:i < 0
   ·simp only[h,if_true] <;> lia
   ·simp only[h,if_false] <;> lia
 ·cases hi with
  | none=>simp [sliceBounds,HT.uq]
  | some i =>
   simp only[sliceBounds,HT.uq,Option.getD_none,show (1:Int) > 0 by decide,if_true];by_cases h:i < 0
   ·simp only[h,if_true] <;> lia
   ·simp only[h,if_false] <;> lia
theorem qi (its:List Value) (lo hi:Option Int):slicePick its.toArray lo hi none=((its.drop (HT.uq its.length 0 lo)).take (HT.uq its.length its.length hi - HT.uq its.length 0 lo)).toArray:=by
 obtain ⟨h1,h2,h3⟩:=rj lo hi its.toArray.size;unfold slicePick;rw[h1,h2,h3];simp only[sliceRange_one,pick_run,ax] <;> rfl
def CG (K:FG9):V->Option Int->Option Int->Hp->VK->Prop:=λx lo hi H Q=>∃a xs,x=.ref a/\bL K H a xs/\∀p,H p=none->Q (.ref p) (upd H p (.lst (su xs lo hi)))
theorem yx:SlR X (CG X.K):=by
 intro pins s σ H x v vl vu lo hi sl Q I rx hs pl pu h;obtain ⟨a,xs,rfl,hx,q⟩:=h;cases rx;obtain ⟨its,r,ht,hz⟩:=I.list hx;have hlen:=r.length;refine ⟨"list",_,slot_list_getitem.lookup,ht.isList.typeIs,?_⟩;refine wpAny_getItem_list_slice ht.isList hs pl pu .none (by simp) ?_ (by rw[ax] <;> lia);rw[qi,<- hlen];refine ⟨.ref s.heap.objs.size,_,I.laid (t':=s.toks) (o:=.lst (su xs lo hi)) (λb ob q=>Heap.get?_push_of_some _ q) (av _) ?_,rfl,q _ (I.hok.fresh (av _))⟩;exact ⟨ah (ot xs lo hi) hz,_,0,(r.drop (HT.uq xs.length 0 lo)).take (HT.uq xs.length xs.length hi - HT.uq xs.length 0 lo),Heap.get?_push_size _ rfl⟩
theorem bI:mi X (.builtin "len") (λxs H Q=>∃p ys,xs=[.ref p]/\(bL X.K H p ys\/lO X.K H p ys)/\Q (.int ys.length) H):=by
 intro pins s σ H xs us Q I r h;obtain ⟨p,ys,rfl,hq,q⟩:=h;obtain ⟨u,rfl,rx⟩:=vals1 r;cases rx;have hn:=pP;rcases hq with hq | hq
 ·obtain ⟨its,r',pl,hz⟩:=I.list hq;have hlen:=r'.length;exact Calls.call_len_list pl.isList (by simp only[ax] <;> lia) ⟨.int ys.length,H,I.tok _,⟨s.toks+1,by rw[ax,hlen]⟩,q⟩
 ·obtain ⟨its,r',pl,hz⟩:=I.tuple hq;have hlen:=r'.length;exact len_tuple pl (by simp only[ax] <;> lia) ⟨.int ys.length,H,I.tok _,⟨s.toks+1,by rw[ax,hlen]⟩,q⟩
theorem sA:mi X (.type "list") (λxs H Q=>∃p ys,xs=[.ref p]/\(bL X.K H p ys\/lO X.K H p ys)/\∀l,H l=none->Q (.ref l) (upd H l (.lst ys))):=by
 intro pins s σ H xs us Q I r h;obtain ⟨p,ys,rfl,hq,q⟩:=h;obtain ⟨u,rfl,rx⟩:=vals1 r;cases rx
 have fin:∀(its:List Value),bJ ys its->ys.length<=sizeLine->∀(h':Heap) (c':Nat),(∀b o',s.heap.get? b=some o'->h'.get? b=some o') →
   h'.get? s.heap.objs.size=some { cls:=.type "list",dict:=none,data:=.seq its.toArray c',slots:=#[] }->EP X pins σ Q (.ref s.heap.objs.size) { s with heap:=h' }:=λits r' hz h' c' kp e =>
  ⟨.ref s.heap.objs.size,_,I.laid (t':=s.toks) kp (av _) (show fg X.prog X.w _ h' _ (.lst ys) from ⟨hz,its,c',r',e⟩),rfl,q _ (I.hok.fresh (av _))⟩
 rcases hq with hq | hq
 ·obtain ⟨its,r',pl,hz⟩:=I.list hq;have hlen:=r'.length;obtain ⟨o,ho,hc,n,hd⟩:=pl.isList;exact call_list_seq p (.inl rfl) ho hc hd (λh' c' kp e=>fin its r' hz h' c' kp e) (by simp only[ax] <;> lia)
 ·obtain ⟨its,r',pl,hz⟩:=I.tuple hq;have hlen:=r'.length;obtain ⟨o,ho,hc,n,hd⟩:=pl;exact call_list_seq p (.inr rfl) ho hc hd (λh' c' kp e=>fin its r' hz h' c' kp e) (by simp only[ax] <;> lia)
def CB (K:FG9) (T:String) (x:V) (H:Hp):Prop:=match x with
 | .str _=>T="str"
 | .int _=>T="int"
 | .ref p=>(T="list"/\∃xs,bL K H p xs)\/(T="tuple"/\∃o,K.lookup p=some o/\o.cls=.type "tuple"/\o.dict=none) \/
   (T="dict"/\((∃kvs,H p=some (.dK kvs))\/∃kvs,H p=some (.dT kvs)))\/(T="set"/\∃S n,H p=some (.set S n))
 | _=>False
theorem zZ {pins:List (Addr×Obj)} {σ:St} {H:Hp} {s:Shared} {T:String} {x:V} {v:Value} (I:Inv X pins σ H s) (r:RelV x v) (ty:CB X.K T x H) :
  s.TypeIs v T/\∀a,v=.ref a->∃ob,s.heap.get? a=some ob/\ob.dict=none:=by
 cases x with
 | str z =>
  obtain ⟨t,rfl⟩:=r;cases (show T="str" from ty);exact ⟨typeIs_str s z t,λ_ e=>nomatch e⟩
 | int i =>
  obtain ⟨t,rfl⟩:=r;cases (show T="int" from ty);exact ⟨typeIs_int s i t,λ_ e=>nomatch e⟩
 | ref p =>
  cases r;rcases ty with ⟨rfl,xs,hq⟩ | ⟨rfl,o,hk,hc,hd⟩ | ⟨rfl,hk⟩ | ⟨rfl,S,n,hk⟩
  ·obtain ⟨its,_,pl,_⟩:=I.list hq;refine ⟨pl.isList.typeIs,λa e=>?_⟩;cases e;obtain ⟨o,n,e,c,hd,_⟩:=pl;exact ⟨o,e,hd⟩
  ·refine ⟨⟨o,I.kIn p o hk,hc⟩,λa e=>?_⟩;cases e;exact ⟨o,I.kIn _ o hk,hd⟩
  ·have z:∃o,s.heap.get? p=some o/\o.ExactDict:=by
    rcases hk with ⟨kvs,hk⟩ | ⟨kvs,hk⟩
    ·obtain ⟨_,_,_,_,o,_,_,e,ex,_⟩:=I.hok p _ hk;exact ⟨o,e,ex⟩
    ·obtain ⟨_,_,_,_,o,_,_,e,ex,_⟩:=I.hok p _ hk;exact ⟨o,e,ex⟩
   obtain ⟨o,e,ex⟩:=z;refine ⟨⟨o,e,ex.1⟩,λa e2=>?_⟩;cases e2;exact ⟨o,e,ex.2.1⟩
  ·obtain ⟨o,_,_,_,e,ex,_⟩:=I.hok p _ hk;refine ⟨⟨o,e,ex.1⟩,λa e2=>?_⟩;cases e2;exact ⟨o,e,ex.2.1⟩
 | _=>exact False.elim ty
def tBM (K:FG9) (T:String) (r:V->List V->Hp->VK->Prop) (to:TE) (t:TA):TE:=λσ H Q=>to σ H λx H1=>CB K T x H1/\t σ H1 λxs H2=>r x xs H2 Q
variable {o e:Expr} {es:List Expr} {to:TE} {t:TA} {name:Str} {apos cpos:Pos} {T id:String} {r:V->List V->Hp->VK->Prop}
theorem va (pa:PlainAttrs T) (slot:Slot T name id) (hty:typeOf (.builtin id)=pure (.type "method_descriptor")) (hm:MtR X id r) (ho:PE X o to) (ha:PA X (e :: es) t)
  (hbase:attributeBase o name X.env (eval o X.env)=eval o X.env:=by rfl)
  (hfew:((backTo cpos (starEach (e :: es) X.env)).all (λx=>!x.1) && (backToKw cpos (keywordEach [] X.env)).all (λx=>x.1.isSome)
   && decide ((e :: es).length+([]:List Keyword).length+(if ([]:List Keyword).isEmpty then 0 else 1) < 30))=true:=by rfl)
  (hline:(apos.endLine == cpos.line)=true:=by rfl) (hs:starEach (e :: es) X.env=(false,eval e X.env) :: starEach es X.env:=by rfl) (hplain:(backTo cpos (starEach es X.env)).any (·.1)=false:=by rfl) :
  PE X (.Call (.Attribute o name apos) (e :: es) [] cpos) (tBM X.K T r to t):=by
 intro pins s σ H Q I h;refine wpAny_Call_method_late hbase hfew hline rfl (dJ (ho pins s σ H _ I h) λv s1 ⟨x,H1,I1,r1,ty,q1⟩=>?_);obtain ⟨h1,h2⟩:=zZ I1 r1 ty;refine ⟨T,id,pa,slot,hty,h1,h2,?_⟩;have hA:=ha cpos pins s1 σ H1 _ I1 q1;rw[hs] at hA ⊢;refine Calls.callWith_builtin (by show (false || (backTo cpos (starEach es X.env)).any (·.1))=false;rw[hplain] <;> rfl) (Calls.evalArgs_plain ?_);exact dJ hA λus s2 ⟨vs,H2,I2,r2,q2⟩=>hm pins s2 σ H2 x vs v us Q I2 r1 r2 q2
end
def MtM (X:Cx) (id:String) (r:V->List V->Hp->VK->Prop):Prop :=
 ∀(pins:List (Addr×Obj)) (s:Shared) (σ:St) (H:Hp) (x:V) (xs:List V) (v:Value) (us:List Value) (Q:VK),Inv X pins σ H s->RelV x v->bJ xs us->r x xs H Q →
  wpAny (model X.prog X.w) X.A (call (.builtin id) (v :: us)) (EP X pins σ Q) X.xe s
theorem bJ.one:∀{x:V} {us:List Value},bJ [x] us->∃u,us=[u]/\RelV x u
 | _,_,.cons r .nil=>⟨_,rfl,r⟩
theorem bJ.rep {xs:List V} {us:List Value} (h:bJ xs us):∀k:Nat,bJ (List.replicate k xs).flatten (List.replicate k us).flatten
 | 0=>.nil
 | k+1=>by
  rw[gU,gU,jz,jz];exact bJ.append h (bJ.rep h k)
theorem foldl_rep (its:List Value):∀(k:Nat) (acc:List Value),
  List.foldl (λx1 x2=>x1++x2) acc.toArray (List.replicate k its.toArray)=(acc++(List.replicate k its).flatten).toArray
 | 0,acc=>by simp
 | k+1,acc=>by
  have e:acc.toArray++its.toArray=(acc++its).toArray:=by simp
  have e2:(acc++its)++(List.replicate k its).flatten=acc++(List.replicate (k+1) its).flatten:=by
   rw[gU,jz,nA]
  rw[<- e2,<- foldl_rep its k (acc++its),<- e,gU,List.foldl_cons]
section
variable {X:Cx} {pins:List (Addr×Obj)} {σ:St} {H:Hp} {s:Shared} {l b:Addr} {xs ys zs:List V}
theorem Inv.lset {its its':List Value} {n:Nat} {f:Array Value->Array Value} {t':Nat} (I:Inv X pins σ H s) (hH:H l=some (.lst xs))
  (e:s.heap.get? l=some { cls:=.type "list",data:=.seq its.toArray n }) (hf:f its.toArray=its'.toArray) (hv:bJ ys its') (hz:ys.length<=sizeLine) :
  Inv X pins σ (upd H l (.lst ys)) { s with heap:=s.heap.update l (Obj.mapSeq f),toks:=t' }:=by
 have q:=PySem.IsL.update e f;rw[hf] at q;refine I.write (x:=l) (e:=l) (by rw[hH];exact trivial) (.inl rfl) (λb' u hb hu=>(Heap.get?_update_other s.heap (Obj.mapSeq f) (Ne.symm hb)).trans hu) ⟨_,q⟩ ?_;exact ⟨hz,its',_,hv,q⟩
theorem Inv.lnew {its:List Value} {t':Nat} (I:Inv X pins σ H s) (hv:bJ ys its) (hz:ys.length<=sizeLine) :
  Inv X pins σ (upd H s.heap.objs.size (.lst ys)) { s with heap:=s.heap.push { cls:=.type "list",data:=.seq its.toArray },toks:=t' } :=
 I.laid (λ_ _ q=>Heap.get?_push_of_some _ q) (av _) ⟨hz,its,0,hv,Heap.get?_push_size _ rfl⟩
theorem Inv.fresh (I:Inv X pins σ H s):H s.heap.objs.size=none:=I.hok.fresh (av _)
theorem Inv.lstM (I:Inv X pins σ H s) (hH:H l=some (.lst xs)):xs.length<=sizeLine/\∃(its:List Value) (n:Nat),bJ xs its/\xs.length=its.length/\s.heap.get? l=some { cls:=.type "list",data:=.seq its.toArray n }:=by
 obtain ⟨z,its,n,r,e⟩:=I.hok l _ hH;exact ⟨z,its,n,r,r.length,e⟩
theorem tH {n:Nat} (h:n<=sizeLine):Builtin.List.listTooLong n=false:=by
 unfold Builtin.List.listTooLong;exact decide_eq_false (by lia)
end
section
variable {X:Cx}
def u0:V->List V->Hp->VK->Prop:=λx vs H Q=>∃l xs y,x=.ref l/\vs=[y]/\H l=some (.lst xs)/\xs.length < sizeLine/\Q .non (upd H l (.lst (xs++[y])))
theorem nQ:MtM X "list.append" u0:=by
 intro pins s σ H x vs v us Q I rx rv h;obtain ⟨l,xs,y,rfl,rfl,hH,hz,q⟩:=h;cases rx;obtain ⟨u,rfl,ru⟩:=rv.one;obtain ⟨z,its,n,r,hl,e⟩:=I.lstM hH;refine call_meets F.slot_list_append ⟨_,e,rfl⟩ F.entry_list_append (F.args_list_append_2 _ _) (PySem.list_append l its.toArray n u (by rw[ax];lia)) ⟨e,?_⟩;refine ⟨.non,_,I.lset (its':=its++[u]) hH e (by simp) (r.append (.cons ru .nil)) ?_,rfl,q⟩;rw[bx,dA]
 lia
def yX:V->List V->Hp->VK->Prop:=λx vs H Q=>∃l b xs zs,x=.ref l/\vs=[.ref b]/\H l=some (.lst xs)/\H b=some (.lst zs)/\xs.length+zs.length<=sizeLine/\Q .non (upd H l (.lst (xs++zs)))
theorem vY:MtM X "list.extend" yX:=by
 intro pins s σ H x vs v us Q I rx rv h;obtain ⟨l,b,xs,zs,rfl,rfl,hH,hB,hz,q⟩:=h;cases rx;obtain ⟨u,rfl,ru⟩:=rv.one;cases ru;obtain ⟨z,its,n,r,hl,e⟩:=I.lstM hH;obtain ⟨z2,its2,n2,r2,hl2,e2⟩:=I.lstM hB;have hsz:its.toArray.size+its2.toArray.size<=sizeLine:=by rw[ax,ax];lia
 have hlong:¬(!its.toArray.isEmpty && Builtin.List.listTooLong (its.toArray.size+its2.toArray.size))=true:=by
  rw[tH hsz,Bool.and_false];exact aI
 refine call_meets F.slot_list_extend ⟨_,e,rfl⟩ F.entry_list_extend (F.args_list_extend_2 _ _)
  (AutoSeq1.list_extend_list_list_0 l its.toArray n b its2.toArray n2 hlong (by rw[ax];lia) (by lia)) ⟨e,e2,?_⟩
 refine ⟨.non,_,I.lset (its':=its++its2) hH e (by simp) (r.append r2) ?_,rfl,q⟩;rw[bx]
 lia
def BI:R2:=λx y H Q=>∃l b xs zs,x=.ref l/\y=.ref b/\H l=some (.lst xs)/\H b=some (.lst zs)/\xs.length+zs.length<=sizeLine/\∀p,H p=none->Q (.ref p) (upd H p (.lst (xs++zs)))
theorem AF:qq X (binaryOp .Add) BI:=by
 intro pins s σ H x y v u Q I rx ry h;obtain ⟨l,b,xs,zs,rfl,rfl,hH,hB,hz,q⟩:=h;cases rx;cases ry;obtain ⟨z,its,n,r,hl,e⟩:=I.lstM hH;obtain ⟨z2,its2,n2,r2,hl2,e2⟩:=I.lstM hB;refine PySem.P.add_list e e2 ?_ (by rw[ax,ax];lia);have ea:its.toArray++its2.toArray=(its++its2).toArray:=by simp
 rw[ea];exact ⟨.ref _,_,I.lnew (t':=s.toks) (r.append r2) (by rw[bx];lia),rfl,q _ I.fresh⟩
def BH:R2:=λx y H Q=>∃l k xs,x=.ref l/\y=.int k/\H l=some (.lst xs)/\-(2^63)<=k/\k < 2^63/\xs.length*k.toNat<=sizeLine /\
 ∀p,H p=none->Q (.ref p) (upd H p (.lst (List.replicate k.toNat xs).flatten))
theorem len_rep {α:Type} (xs:List α) (k:Nat):(List.replicate k xs).flatten.length=k*xs.length:=by
 induction k with
 | zero=>simp
 | succ k ih=>rw[gU,jz,bx,ih,jx,Nat.add_comm]
theorem AB:qq X (binaryOp .Mult) BH:=by
 intro pins s σ H x y v u Q I rx ry h;obtain ⟨l,k,xs,rfl,rfl,hH,h1,h2,hz,q⟩:=h;cases rx;obtain ⟨t,rfl⟩:=ry;obtain ⟨z,its,n,r,hl,e⟩:=I.lstM hH;have hlen:its.toArray.size*k.toNat<=sizeLine:=by rw[ax,<- hl];exact hz
 have hcap:¬its.toArray.size*k.toNat > (2^63 - 1) / 8:=by
  have:(sizeLine:Nat)<=(2^63 - 1) / 8:=by decide
  lia
 have hfit:¬(!Builtin.List.listFitsIndex k)=true:=by
  rw[fitsIndex_both h1 h2];exact aI
 have hlong:¬Builtin.List.listTooLong (its.toArray.size*k.toNat)=true:=by
  rw[tH hlen];exact aI
 have hnew:List.foldl (λx1 x2=>x1++x2) #[] (List.replicate (if its.toArray.isEmpty=true then 0 else k.toNat) its.toArray)=(List.replicate k.toNat its).flatten.toArray:=by
  have f0:∀m:Nat,List.foldl (λx1 x2=>x1++x2) #[] (List.replicate m its.toArray)=(List.replicate m its).flatten.toArray:=λm=>by
   have:=foldl_rep its m [];rw[List.nil_append] at this;exact this
  rw[f0];cases its with
  | nil=>simp
  | cons a r'=>rw[if_neg (by simp)]
 refine wpAny_binaryOp_repeat_ref (T:="list") (U:="int") (by decide) ⟨_,e,rfl⟩ (λs'=>typeIs_int s' k t) noFill_list_mul F.fills_int_mul F.slot_int_rmul repeat_list F.slot_int_index.lookup
  (call_meets F.slot_int_rmul (typeIs_int s k t) F.entry_int_rmul (F.args_int_rmul_2 _ _) (int___rmul___int_list k t l its.toArray n)
   ⟨e,rfl,⟨_,e,rfl⟩,call_meets F.slot_list_mul ⟨_,e,rfl⟩ F.entry_list_mul (F.args_list_mul_2 _ _) (AutoListH.list___mul___list_int_3 l its.toArray n k t hfit hcap hlong) ⟨e,?_⟩⟩)
 rw[hnew];exact ⟨.ref _,_,I.lnew (t':=s.toks) (r.rep k.toNat) (by rw[len_rep,dS];exact hz),rfl,q _ I.fresh⟩
end
end L2
namespace Att
open PySem PySem.W PySem.Calls PyProof.Rows
theorem oG {P:Params} {h:Heap}:∀(ns:List Int) (vs:List Value),WellAll P h vs (ns.map WData.int)->IntsAre vs ns:=by
 intro ns
 induction ns with
 | nil =>
  intro vs w;rw[List.map_nil] at w;cases w;exact .nil
 | cons n ns ih =>
  intro vs w;rw[gY] at w;cases w with
  | cons a b =>
   cases a;exact .cons _ _ (ih _ b)
theorem vO {l:OpenLaw} {n:Nat} (hn:l.most=some n) {P:Params} {h:Heap} {args:List WData} {vals:List Value}
  (hpre:l.row.toRowW.claim.pre args=true) (hwl:WellAll P h vals args) :
  ∃a vs ns,vals=[Value.ref a]/\args=[WData.list (ns.map WData.int)]/\h.get? a=some { cls:=.type "list",data:=.seq vs.toArray }/\IntsAre vs ns/\ns.length<=n:=by
 have hsh:WShape.hasAll [] args [.list .int]=true:=(pre_splitW hpre).1;have hc:l.pre.holds [] { args:=args }=true:=(pre_splitW hpre).2;obtain ⟨d,r,rfl,h1,h2⟩:=hasAllW_cons hsh;obtain rfl:=hasAllW_nil h2;obtain ⟨xs,rfl,h3⟩:=hasW_list h1;obtain ⟨ns,rfl⟩:=items_int h3
 have hlen:ns.length<=n:=by
  unfold OpenLaw.pre at hc
  have h4:(WTm.not (.lt (.lit (.int (n:Int))) (.len (.arg 0)))).holds [] { args:=[.list (ns.map .int)] }=true:=by
   have h4:=(holds_andW hc).1;rw[hn] at h4;exact h4
  have h5:=condW_of h4 (w_not (w_lt w_lit (w_len_list (w_arg rfl))));rw[ar] at h5;refine Nat.le_of_not_lt λq=>?_
  have q':(n:Int) < ((ns.length:Nat):Int):=by lia
  first
   | (rw[decide_eq_true q'] at h5;exact absurd h5 (by decide))
   | (simp at h5;lia)
 cases hwl with
 | cons w1 w2 =>
  cases w2;cases w1 with
  | list ho hall=>exact ⟨_,_,ns,rfl,rfl,ho,oG ns _ hall,hlen⟩
theorem vS (l:OpenLaw) (args:List WData):l.row.toRowW.claim.post args (.bool true) args=true :=
 postW_of (r:=l.row.toRowW) (X:=(true == true))
  (show WShape.has [] (.bool true) .bool=true by first | rfl | decide | simp [WShape.has,WShape.arms,WShape.armsAll])
  (show (WTm.eq .res (.lit (.bool true))).value [] { args:=args,res:=some (.bool true),after:=args }=some (.bool (true == true)) from w_eq_bool (w_res rfl) w_lit) rfl
theorem tV {l:OpenLaw} {n:Nat} {q:Program} {loose:List Str} {XP:(Str->Option Value)->Heap->Prop} {YP:World->Heap->Prop} {d:DefRec}
  (hn:l.most=some n) (hdf:d.params.defaults=[])
  (call:∀(w:World) (s₀ s₁:Shared) (mg mb:Str->Option Value) (fa:Addr) (o:Obj) (pm cd doc:Value) (a:Addr) (vs:List Value) (ns:List Int),
   Ground q loose [] XP w s₀ mg mb s₁.heap->YP w s₁.heap →
   s₁.heap.get? fa=some o->o.data=.func (docDef d.name d.params d.body d.scope pm cd doc)->s₁.heap.CodeRec cd d.name->mg d.name=some (.ref fa) →
   s₁.heap.get? a=some { cls:=.type "list",data:=.seq vs.toArray }->IntsAre vs ns->ns.length<=n->s₁.gens=#[] →
   codeAny (model l.prog w) callerA (.call (.ref fa) ⟨[.ref a],[]⟩) (λr s'=>r=.ok (.ret (.bool true))/\OldK s₁.heap s'.heap/\s'.os=s₁.os/\AllBare s'.gens) s₁) :
  WalkO q loose XP YP l.row.toRowW d [] (λf vs=>PySem.call f vs):=by
 intro w s₀ s₁ mg mb G Y fa o pm cd doc dV kV ho hd hcd hD hmg hg args vals as hpre hlay hrd hwl hlo;obtain rfl:dV=.none:=Dflts.none hD hdf;obtain rfl:kV=.none:=Dflts.noKw hD;obtain ⟨a,vs,ns,rfl,rfl,hobj,hints,hlen⟩:=vO hn hpre hwl;refine enter_call (codeAny_mono (call w s₀ s₁ mg mb fa o pm cd doc a vs ns G Y ho (fd_plain hd) hcd hmg hobj hints hlen hg) λr s' hq=>?_);obtain ⟨rfl,h2,h3,h4⟩:=hq;exact ⟨.inl ⟨.bool true,.bool true,[],rfl,λ_=>rfl,.bool true,vS l _,λ_=>⟨List.Pairwise.nil,λ_ hm=>(nomatch hm)⟩⟩,h2,h3,h4⟩
section
variable {prog:Program} {w:World} {A:Around} {E:Value->Shared->Prop} {s:Shared} {K:Frag}
end
end Att
namespace L2
open PySem PySem.Spec PyProof.Rows
theorem qt:∀{vs:List Value} {ns:List Int},IntsAre vs ns->bJ (ns.map V.int) vs
 | _,_,.nil=>.nil
 | _,_,.cons n t h=>.cons ⟨t,rfl⟩ (qt h)
def AZ (H:Hp):Prop:=∀b,H b=none\/∃o xs,H b=some (.frz o (.lst xs))
theorem xx {P : Program} {w : World} {K : FG9} {mg mb : Str → Option Value} {CX : yf} {k : Nat} {fa a : Addr} {fd : FuncData} {x : Str} {sp : Sp} {s₁ : Shared} {vs : List Value} {ns : List Int}
    (KX : K.In s₁.heap) (hns : s₁.heap.Ns mainGlobals mg) (hb : s₁.heap.Ns builtinsNs mb) (hbb : ∀ x : Str, x ≠ "__name__" → mb x = bootBuiltins x) (hlim : s₁.heap.NoLimit) (hg : s₁.gens = #[])
    (ha : s₁.heap.get? a = some { cls := .type "list", data := .seq vs.toArray }) (hi : IntsAre vs ns) (hl : ns.length ≤ sizeLine) (hr : ig k callerA)
    (F : ∀ base : Heap, K.In base → base.Ns mainGlobals mg → cE P w K mg base CX k fa fd [x] sp) (hbind : ∀ (s : Shared) (u : Value), BindsTo s fd ⟨[u], []⟩ [(x, u)])
    (hsp : ∀ H : Hp, AZ H → bL K H a (ns.map V.int) → sp [.ref a] H (λv _ => v = .bl true) λ_ _ _ => False)
    (hCX : ∀ H e s', CX [] H s₁ (λ_ _ _ => False) e s' → False) :
    codeAny (model P w) callerA (.call (.ref fa) ⟨[.ref a], []⟩) (λr s' => r = .ok (.ret (.bool true)) /\ OldK s₁.heap s'.heap /\ s'.os = s₁.os /\ AllBare s'.gens) s₁ := by
  have rv := qt hi;have lenV := hi.length
  have core : ∀ H : Hp, AZ H → bL K H a (ns.map V.int) → oO P w H s₁.heap → (∀ b, H b ≠ none → b = a) → (H a ≠ none → K.lookup a = none) →
      codeAny (model P w) callerA (.call (.ref fa) ⟨[.ref a], []⟩) (λr s' => r = .ok (.ret (.bool true)) /\ OldK s₁.heap s'.heap /\ s'.os = s₁.os /\ AllBare s'.gens) s₁ := by
    intro H hO hS hok hA hK;have base_of : ∀ {b : Addr} {o : Obj}, s₁.heap.get? b = some o → H b = none → (rX s₁.heap H).get? b = some o := λe n => xA e n
    have noA : ∀ {b : Addr} {o : Obj} {es : Array DictEntry} {ep : Nat}, s₁.heap.get? b = some o → o.data = .dict es ep → H b = none := λ{b o es ep} e d => by
      cases q : H b with
      | none => rfl
      | some u =>
        have e' : b = a := hA b (by rw [q]; simp);subst e';rw [ha] at e; cases e;have d' : Data.seq vs.toArray _ = Data.dict es ep := d;cases d'
    have nsK : ∀ {b : Addr} {m : Str → Option Value}, s₁.heap.Ns b m → (rX s₁.heap H).Ns b m := λ{b m} ⟨o, es, ep, e, d, r⟩ => ⟨o, es, ep, base_of e (noA e d), d, r⟩
    have hKb : K.In (rX s₁.heap H) := λb o e => base_of (KX b o e) (by
      cases q : H b with
      | none => rfl
      | some u =>
        have e' : b = a := hA b (by rw [q]; simp);subst e';rw [hK (by rw [q]; simp)] at e; cases e)
    have hM : Mod K mg (rX s₁.heap H) := ⟨hKb, nsK hns, ⟨mb, nsK hb, hbb⟩, let ⟨mc, h1, h2⟩ := hlim; ⟨mc, nsK h1, h2⟩⟩;have e0 : uK P w K mg (rX s₁.heap H) callerA [] s₁ H := ⟨rfl, hM, λb o e => zd e, Nat.le_of_eq (v5 _ _), trivial, λb hb => absurd (show b ∈ ([] : List Addr) from hb) (by simp), hok, .of_eq hg⟩;refine codeAny_mono ((F _ hKb (nsK hns)).run callerA [] s₁ H ⟨[.ref a], []⟩ [.ref a] [.ref a] _ _ hr e0 (hbind s₁ (.ref a)) (.cons rfl .nil) (hsp H hO hS)) λr s' h => ?_
    cases r with
    | error e => exact (hCX H e s' h).elim
    | ok fl =>
      cases fl with
      | next => exact False.elim h
      | brk => exact False.elim h
      | cont => exact False.elim h
      | ret u =>
        obtain ⟨v, H', os, bare, un, hok', r', q⟩ := h;have q' : v = .bl true := q;subst q';obtain rfl : u = Value.bool true := r';refine ⟨rfl, OldK.of_keep λb o e => ?_, os, bare⟩;cases q : H b with
        | none => exact un.keep b o e q (by intro z; exact absurd (show b ∈ ([] : List Addr) from z) (by simp)) (by simp)
        | some u =>
          rcases hO b with z | ⟨ob, xs, z⟩
          · rw [q] at z; cases z
          · have z2 := un.frzs b ob _ z;obtain ⟨e1, _⟩ := hok b _ z;obtain ⟨e2, _⟩ := hok' b _ z2;rw [e] at e1; cases e1;exact e2
  cases hk : K.lookup a with
  | some o =>
    have e := KX a o hk;rw [ha] at e;cases e;refine core (λ_ => none) (λ_ => .inl rfl) (.inr ⟨_, vs.toArray, _, hk, rfl, rfl, rfl, by rw [ax, lenV]; exact hl, by simpa using rv⟩) (λb u z => by have z' : (none : Option HO) = some u := z; cases z') (λb z => absurd rfl z) λz => absurd rfl z
  | none =>
    refine core (λb => if b = a then some (.frz { cls := .type "list", data := .seq vs.toArray } (.lst (ns.map V.int))) else none) (λb => ?_) (.inl (.inr ⟨{ cls := .type "list", data := .seq vs.toArray }, if_pos rfl⟩)) (λb u z => ?_) (λb z => ?_) λ_ => hk
    · by_cases hb : b = a
      · exact .inr ⟨_, _, if_pos hb⟩
      · exact .inl (if_neg hb)
    · by_cases hb : b = a
      · have z' := (if_pos hb).symm.trans z;cases z';subst hb;exact ⟨ha, by rw [ar]; exact hl, vs, _, rv, ha⟩
      · have z' := (if_neg hb).symm.trans z;cases z'
    · by_cases hb : b = a
      · exact hb
      · exact absurd (if_neg hb) z
theorem yr {l:PySem.W.OpenLaw} {n k:Nat} {q:Program} {loose:List Str} {XP:(Str->Option Value)->Heap->Prop} {YP:World->Heap->Prop} {d:DefRec} {K:Params->FG9} {CX:World->yf} {sp:World->Sp} {x:Str}
  (hn:l.most=some n) (hn2:n<=sizeLine) (hdf:d.params.defaults=[]) (hr:ig k callerA)
  (hY:∀(w:World) (h:Heap),YP w h->(K w.params).In h)
  (F:∀(w:World) (mg:Str->Option Value) (fa:Addr) (h:Heap),(K w.params).In h->h.Ns mainGlobals mg->mg d.name=some (.ref fa) →
   ∃fd:FuncData,(∀(s:Shared) (u:Value),BindsTo s fd ⟨[u],[]⟩ [(x,u)]) /\
    ∀base:Heap,(K w.params).In base->base.Ns mainGlobals mg->cE l.prog w (K w.params) mg base (CX w) k fa fd [x] (sp w))
  (hsp:∀(w:World) (H:Hp) (a:Addr) (ns:List Int),ns.length<=n->AZ H->bL (K w.params) H a (ns.map V.int)->sp w [.ref a] H (λv _=>v=.bl true) λ_ _ _=>False)
  (hCX:∀(w:World) (H:Hp) (s:Shared) (e:Value) (s':Shared),CX w [] H s (λ_ _ _=>False) e s'->False) :
  PySem.W.WalkO q loose XP YP l.row.toRowW d [] (λf vs=>PySem.call f vs):=by
 refine Att.tV hn hdf λw s₀ s₁ mg mb fa o pm cd doc a vs ns G Y ho hd hcd hmg hobj hints hlen hg=>?_
 have KX:=hY w _ Y;obtain ⟨fd,hb,hF⟩:=F w mg fa _ KX G.T.g hmg;exact xx KX G.T.g G.T.b G.T.builtins G.T.nolimit hg hobj hints (ah hlen hn2) hr hF hb (λH hO hS=>hsp w H a ns hlen hO hS) λH e s'=>hCX w H s₁ e s'
end L2


namespace L2
open PySem PySem.Spec PyProof.Rows
def inClass (s:Stmt) (j:Nat):Stmt:=match s with
 | .ClassDef _ _ _ body _ _ _ _ _ _ _=>body.getD j (.Pass ⟨0,0,0,0⟩)
 | _=>.Pass ⟨0,0,0,0⟩
def aX (s:Stmt):Arguments:=match s with
 | .FunctionDef _ a _ _ _ _ _ _ _ _=>a
 | _=>{ posonlyargs:=[],args:=[],vararg:=none,kwonlyargs:=[],kw_defaults:=[],kwarg:=none,defaults:=[] }
def aS (s:Stmt):List Stmt:=match s with
 | .FunctionDef _ _ b _ _ _ _ _ _ _=>b
 | _=>[]
def au (s:Stmt):Scope:=match s with
 | .FunctionDef _ _ _ _ _ _ sc _ _ _=>sc
 | _=>{ kind:=.function,names:=[],isGenerator:=false,isCoroutine:=false }
abbrev iO:yf:=λ_ _ _ _ _ _=>False
abbrev E0:XK:=λ_ _ _=>False
theorem zL {X:Cx}:p4 iO X E0:=λ_ _ _ _ _ _ _ h=>h.elim
theorem dk {X:Cx} {k k':Nat} {f:Addr} {fd:FuncData} {ps:List Str} {sp:Sp} {x:Str} {p pos:Pos} {e:Expr} {es:List Expr} {t:TA} (F:cE X.prog X.w X.K X.mg X.base iO k f fd ps sp) (hr:ig k' X.A) (hm:X.mg x=some (.ref f)) (hk:PySem.W.keepIn X.K (.ref f)=true) (hb:Binds X.K fd ps []) (ha:PA X (e::es) t) (hle:k<=k':=by decide) (hg:Gl X x:=by exact rfl) (hdb:(x==("__debug__":Str))=false:=by decide) (he:starEach (e::es) X.env=(false,eval e X.env)::starEach es X.env:=by rfl) (hpl:(backTo pos (starEach es X.env)).any (·.1)=false:=by rfl):PE X (.Call (.Name x p) (e::es) [] pos) (wG sp [] E0 t):=za F (hr.mono hle) hg hm hk hb .nil zL ha hdb he hpl
structure jH (K:FG9) (x qual:Str) (st:Stmt) (f:Addr) (fd:FuncData):Prop where
 ex:∃(oc:Value) (od:Option Addr) (kV doc pm:Value) (an:Option Addr) (cdv ct:Value) (osl:Array (Option Value)),
  fd=PySem.W.fnOf x qual (aX st) (aS st) (au st) .none kV doc pm an cdv ct/\K.lookup f=some ⟨oc,od,.func fd,osl⟩/\PySem.W.codeIn K cdv qual=true
 kp:PySem.W.keepIn K (.ref f)=true
section
variable {P:Program} {w:World} {K:FG9} {mg:Str->Option Value} {base:Heap}
theorem jH.ok {x qual:Str} {st:Stmt} {f:Addr} {fd:FuncData} {N ps:List Str} {k:Nat} {sp:Sp} (F:jH K x qual st f fd) (S:bc N ps (au st)) (len:∀vs H Q E,sp vs H Q E->vs.length=ps.length)
  (hbody:∀(cdv:Value) (A:Around) (outer:List Env) (s:Shared) (H:Hp) (vs:List V) (Q:VK) (E:XK),ig k (A.deeper (envOfC qual (au st) s.heap.objs.size f cdv))->sp vs H Q E →
   ∃t,uH (v9 iO P w K mg base N qual (au st) f cdv A outer s H E).nox (aS st) t/\t { nx:=λ_ H'=>Q .non H',rt:=Q } (start N vs) H):cE P w K mg base iO (k+1) f fd ps sp:=by
 obtain ⟨oc,od,kV,doc,pm,an,cdv,ct,osl,rfl,lk,hcd⟩:=F.ex;refine BX lk hcd S len λA outer s H vs Q E hr hsp=>?_
 obtain ⟨t,h,q⟩:=hbody cdv A outer s H vs Q E hr hsp;exact ⟨t,h.nox,q⟩
theorem jH.binds {x qual:Str} {st:Stmt} {f:Addr} {fd:FuncData} {ps:List Str} (F:jH K x qual st f fd)
  (h:∀(kV doc pm:Value) (an:Option Addr) (cdv ct:Value) (us:List Value),us.length=ps.length->bindArgs (PySem.W.fnOf x qual (aX st) (aS st) (au st) .none kV doc pm an cdv ct) ⟨us,[]⟩=pure (ps.zip us)):Binds K fd ps []:=by
 obtain ⟨oc,od,kV,doc,pm,an,cdv,ct,osl,rfl,lk,hcd⟩:=F.ex;exact .all (h kV doc pm an cdv ct)
theorem bE {x qual:Str} {st:Stmt} {f:Addr} {oc:Value} {od an:Option Addr} {osl:Array (Option Value)} {kV doc pm cdv ct:Value} (l:K.lookup f=some ⟨oc,od,.func (PySem.W.fnOf x qual (aX st) (aS st) (au st) .none kV doc pm an cdv ct),osl⟩)
  (c:PySem.W.codeIn K cdv qual=true) (k:PySem.W.keepIn K (.ref f)=true):jH K x qual st f (PySem.W.fnOf x qual (aX st) (aS st) (au st) .none kV doc pm an cdv ct):=⟨⟨oc,od,kV,doc,pm,an,cdv,ct,osl,rfl,l,c⟩,k⟩
end
theorem bF {n:Nat} (h:n<=1000):n < sizeLine:=aK h (by decide)
section
variable {X:Cx}
theorem pv (i:Nat) {x:Str} {pos:Pos} (hN:X.N[i]?=some x:=by rfl) (hv:CT X.env.scope x:=by first | exact Or.inl rfl | exact Or.inr (Or.inl rfl) | exact Or.inr (Or.inr rfl)) (hd:(x == ("__debug__":Str))=false:=by decide)
  (hcd:(x == ("__classdict__":Str))=false:=by decide):PE X (.Name x pos) (z5 i):=Az hN hv hd hcd
end
theorem zg {A B:Prop} (h:B):if false=true then A else B:=by
 rw[if_neg aI];exact h
theorem CP {A B:Prop} (h:A):if true=true then A else B:=by
 rw[if_pos rfl];exact h
theorem fF {c A B:Prop} [Decidable c] (h1:c->A) (h2:¬c->B):if c then A else B:=by
 by_cases h:c
 ·rw[if_pos h];exact h1 h
 ·rw[if_neg h];exact h2 h
def az (H H':Hp):Prop:=∀b o,H b=some o->H' b=some o
theorem az.refl (H:Hp):az H H:=λ_ _ h=>h
theorem az.trans {H H1 H2:Hp} (a:az H H1) (b:az H1 H2):az H H2:=λc o h=>b c o (a c o h)
theorem az.free {H H':Hp} (e:az H H') {l:Addr} (h:H' l=Option.none):H l=Option.none:=by
 cases q:H l with
 | none=>rfl
 | some o =>
  rw[e l o q] at h;cases h
end L2
namespace Nm
theorem xD (a b:Int):Int.gcd b (a.fmod b)=Int.gcd a b:=by
 rw[Int.fmod_def,gM a b];apply Nat.dvd_antisymm
 ·apply yc
  ·exact cK ..
  ·have h1:=cK (a:=b) (b:=a - b*a.fdiv b);have h2:=de (a:=b) (b:=a - b*a.fdiv b);have h3:=Int.dvd_add h2 (iN (c:=a.fdiv b) h1);rwa [Int.sub_add_cancel] at h3
 ·apply yc
  ·exact cK ..
  ·exact Int.dvd_sub (de ..) (iN (cK ..))
theorem xE (a b:Int):Int.gcd b (a % b)=Int.gcd a b:=by
 rw[Int.emod_def,gM a b];apply Nat.dvd_antisymm
 ·apply yc
  ·exact cK ..
  ·have h1:=cK (a:=b) (b:=a - b*(a / b));have h2:=de (a:=b) (b:=a - b*(a / b));have h3:=Int.dvd_add h2 (iN (c:=a / b) h1);rwa [Int.sub_add_cancel] at h3
 ·apply yc
  ·exact cK ..
  ·exact Int.dvd_sub (de ..) (iN (cK ..))
theorem zi (a b:Int) (h:b≠0):(a.fmod b).natAbs < b.natAbs:=by
 rcases Int.lt_or_gt_of_ne h with h | h
 ·have e:a.fmod b=-((-a).fmod (-b)):=by
   have:=Int.neg_fmod_neg (-a) (-b);simp only[Int.neg_neg] at this;exact this
  have h1:=Int.fmod_nonneg_of_pos (-a) (b:=-b) (by lia);have h2:=Int.fmod_lt_of_pos (-a) (b:=-b) (by lia)
  lia
 ·have h1:=Int.fmod_nonneg_of_pos a h;have h2:=Int.fmod_lt_of_pos a h
  lia
def g (t b:Int):Int:=(Int.gcd t b:Int)
def lo (t b:Int):Int:=t / g t b
def hi (t b:Int):Int:=b / g t b
theorem pR {t b:Int} (h:b≠0):0 < g t b:=by
 unfold g;have:0 < Int.gcd t b:=yl _ h
 lia
theorem pO (t b:Int):lo t b*g t b=t:=Int.ediv_mul_cancel (cK ..)
theorem nV (t b:Int):hi t b*g t b=b:=Int.ediv_mul_cancel (de ..)
theorem rY {t b:Int} (h:0 < b):0 < hi t b:=by
 have h1:=pR (t:=t) (b:=b) (by lia);have h2:=nV t b;by_cases h3:0 < hi t b
 ·exact h3
 ·have:hi t b*g t b<=0:=t9 (by lia) (by lia)
  lia
theorem pM {t b:Int} (h:b≠0):Int.gcd (lo t b) (hi t b)=1:=by
 have h1:=pR (t:=t) h;have e:=Int.gcd_mul_right (lo t b) (g t b) (hi t b);rw[pO,nV] at e;have e2:(g t b).natAbs=Int.gcd t b:=by unfold g;simp
 rw[e2] at e;have h2:0 < Int.gcd t b:=yl _ h;exact Nat.eq_of_mul_eq_mul_right h2 (by rw[<- e,qZ])
theorem pN (t b : Int) : lo t b * b = t * hi t b := by
  have h1 := pO t b;have h2 := nV t b
  calc lo t b * b = lo t b * (hi t b * g t b) := by rw [h2]
    _ = (lo t b * g t b) * hi t b := by rw [dj (hi t b), <- bX]
    _ = t * hi t b := by rw [h1]
theorem jX {a b c:Int} (h:Int.gcd a b=1) (hd:a∣b*c):a∣c:=by
 have h1:a.natAbs∣b.natAbs*c.natAbs:=by rw[<- cw];exact bW.mpr hd
 have h2:Nat.Coprime a.natAbs b.natAbs:=h;exact bW.mp (h2.dvd_of_dvd_mul_left h1)
theorem uniq {a b c d:Int} (hb:0 < b) (hd:0 < d) (h1:Int.gcd a b=1) (h2:Int.gcd c d=1) (e:a*d=c*b):a=c/\b=d:=by
 have e1:b∣d:=by
  have:b∣a*d:=⟨c,by rw[e,dj]⟩;exact jX (by rw[gM];exact h1) this
 have e2:d∣b:=by
  have:d∣c*b:=⟨a,by rw[<- e,dj]⟩;exact jX (by rw[gM];exact h2) this
 have e3:b=d:=Int.dvd_antisymm (by lia) (by lia) e1 e2;subst e3;exact ⟨mm (by lia) e,rfl⟩
theorem AJ {t b c d : Int} (hb : 0 < b) (hd : 0 < d) (h2 : Int.gcd c d = 1) (e : t * d = c * b) : lo t b = c /\ hi t b = d := by
  refine uniq (rY hb) hd (pM (by lia)) h2 ?_;have h := pN t b;have hb' : b ≠ 0 := by lia
  apply mm hb'
  calc lo t b * d * b = lo t b * b * d := by rw [bX, dj d b, <- bX]
    _ = t * hi t b * d := by rw [h]
    _ = t * d * hi t b := by rw [bX, dj (hi t b), <- bX]
    _ = c * b * hi t b := by rw [e]
    _ = c * hi t b * b := by rw [bX, dj b, <- bX]
theorem AK {a b:Int} (hb:0 < b) (h:Int.gcd a b=1):lo a b=a/\hi a b=b:=AJ hb hb h rfl
theorem jF {a b:Int} (h:b≠0):a.natAbs<=(a*b).natAbs:=by
 rw[cw];exact dc _ (Int.natAbs_pos.mpr h)
theorem lo_le {t b:Int} (h:b≠0):(lo t b).natAbs<=t.natAbs:=by
 have:=jF (a:=lo t b) (b:=g t b) (by have:=pR (t:=t) h;lia);rwa [pO] at this
theorem zR {t b:Int} (h:b≠0):(hi t b).natAbs<=b.natAbs:=by
 have:=jF (a:=hi t b) (b:=g t b) (by have:=pR (t:=t) h;lia);rwa [nV] at this
def Sz (k:Nat) (x:Int):Prop:=x.natAbs < 2^k
theorem Sz.mono {j k:Nat} {x:Int} (h:Sz j x) (l:j<=k):Sz k x:=aE h (aj (by decide) l)
theorem Sz.mul {j k:Nat} {x y:Int} (h1:Sz j x) (h2:Sz k y):Sz (j+k) (x*y):=by
 unfold Sz at *
 rw[cw,cC];exact Nat.mul_lt_mul'' h1 h2
theorem Sz.neg {k:Nat} {x:Int} (h:Sz k x):Sz k (-x):=by unfold Sz at *;rw[Int.natAbs_neg];exact h
theorem Sz.le {k:Nat} {x y:Int} (h:Sz k y) (l:x.natAbs<=y.natAbs):Sz k x:=aK l h
theorem Sz.hi {k:Nat} {t b:Int} (h:Sz k b) (hb:b≠0):Sz k (hi t b):=h.le (zR hb)
end Nm
namespace L2
open PySem PySem.Spec PyProof.Rows
structure Bk (env:Env) (scope:Scope) (own capN:List Str):Prop where
 kind:scope.kind=.function
 locs:∀y∈scope.names,y.2=.local->scope.names.lookup y.1=some .local
 ownk:∀x∈own,scope.names.lookup x=some .local\/scope.names.lookup x=some .cell
 cells:∀y∈scope.names,y.2=.cell->y.1∈own/\y.1∉capN
 frees:∀y∈scope.names,y.2=.free->y.1∈capN/\y.1∉own
 capf:∀x∈capN,scope.names.lookup x=some .free
 caps:∀x∈capN,env.kindOf x=some .cell\/env.kindOf x=some .free
def Cv (scope:Scope) (own capN:List Str):Bool :=
 decide (scope.kind=.function) && scope.names.all (λy=>decide (y.2=.local->scope.names.lookup y.1=some .local) && decide (y.2=.cell->y.1∈own/\y.1∉capN) && decide (y.2=.free->y.1∈capN/\y.1∉own)) &&
 own.all (λx=>decide (scope.names.lookup x=some .local\/scope.names.lookup x=some .cell)) && capN.all λx=>decide (scope.names.lookup x=some .free)
def qR (env:Env):List Str->Bool
 | []=>true
 | x :: r=>(match env.kindOf x with | some .cell=>true | some .free=>true | _=>false) && qR env r
theorem tP {env:Env}:∀{capN:List Str},qR env capN=true->∀x∈capN,env.kindOf x=some .cell\/env.kindOf x=some .free
 | [],_,_,h=>nomatch h
 | y :: r,h,x,hx=>by
  unfold qR at h;rw[dt] at h;rcases aA.mp hx with e | hx
  ·subst e;have h1:=h.1
   split at h1
   ·rename_i e;exact .inl e
   ·rename_i e;exact .inr e
   ·cases h1
  ·exact tP h.2 x hx
theorem Bk.of {env:Env} {scope:Scope} {own capN:List Str} (h1:Cv scope own capN=true) (h2:qR env capN=true):Bk env scope own capN:=by
 unfold Cv at h1;rw[dt,dt,dt,oC,oC,oC] at h1;obtain ⟨⟨⟨a1,a2⟩,a3⟩,a4⟩:=h1
 have a2':∀y∈scope.names,(y.2=.local->scope.names.lookup y.1=some .local)/\(y.2=.cell->y.1∈own/\y.1∉capN)/\(y.2=.free->y.1∈capN/\y.1∉own):=λy hy=>by
  have q:=a2 y hy;rw[dt,dt] at q;exact ⟨of_decide_eq_true q.1.1,of_decide_eq_true q.1.2,of_decide_eq_true q.2⟩
 exact ⟨of_decide_eq_true a1,λy hy=>(a2' y hy).1,λx hx=>of_decide_eq_true (a3 x hx),λy hy=>(a2' y hy).2.1,λy hy=>(a2' y hy).2.2,λx hx=>of_decide_eq_true (a4 x hx),tP h2⟩
def cf (env:Env):List (Str×NameKind)->List (Str×Addr)->List (Str×Addr)
 | [],acc=>acc
 | (n,k) :: r,acc=>if k == .free then cf env r ((n,(env.cells.lookup n).getD 0) :: acc) else cf env r acc
theorem d9 (env:Env):∀(names:List (Str×NameKind)) (acc:List (Str×Addr)),cf env names acc=cf env names []++acc
 | [],_=>rfl
 | (n,k) :: r,acc=>by
  unfold cf
  split
  ·rw[d9 env r (_ :: acc),d9 env r [_],nA];rfl
  ·exact d9 env r acc
theorem ka (env:Env):∀(names:List (Str×NameKind)) {x:Str} {c:Addr},(x,c)∈cf env names []->(x,NameKind.free)∈names/\c=(env.cells.lookup x).getD 0
 | [],_,_,h=>nomatch h
 | (n,k) :: r,x,c,h=>by
  unfold cf at h
  split at h
  ·rename_i hk
   have ek:k=.free:=by simpa using hk
   subst ek;rw[d9] at h;rcases aD.mp h with h | h
   ·have q:=ka env r h;exact ⟨aP _ q.1,q.2⟩
   ·have e:(x,c)=(n,(env.cells.lookup n).getD 0):=by simpa using h
    cases e;exact ⟨bS,rfl⟩
  ·have q:=ka env r h;exact ⟨aP _ q.1,q.2⟩
theorem eK {α:Type}:∀{l:List (Str×α)} {x:Str} {c:α},(x,c)∈l->∃d,l.lookup x=some d
 | (k,v) :: r,x,c,h=>by
  rw[gK];cases hb:x == k with
  | true=>exact ⟨v,rfl⟩
  | false =>
   rcases aA.mp h with e | h
   ·cases e;simp at hb
   ·exact eK h
theorem kb (env:Env):∀(names:List (Str×NameKind)) {x:Str},(x,NameKind.free)∈names->∃c,(x,c)∈cf env names []
 | (n,k) :: r,x,h=>by
  unfold cf;rcases aA.mp h with e | h
  ·cases e;rw[if_pos (by decide),d9];exact ⟨_,aZ _ bS⟩
  ·obtain ⟨c,q⟩:=kb env r h
   split
   ·rw[d9];exact ⟨c,rf _ q⟩
   ·exact ⟨c,q⟩
theorem pT {scope : Scope} {env : Env} (h : ∀ y ∈ scope.names, y.2 = .free → ∃ c, env.cells.lookup y.1 = some c) : closureFor scope env = pure (cf env scope.names []) := by
  have gen : ∀ (names : List (Str × NameKind)) (acc : List (Str × Addr)) (f : Str × NameKind → List (Str × Addr) → Sem (ForInStep (List (Str × Addr)))),
      (∀ name kind cells, f (name, kind) cells = if kind == .free then (do let a <- cellOf env name; pure (.yield ((name, a) :: cells))) else pure (.yield cells)) →
      (∀ y ∈ names, y.2 = .free → ∃ c, env.cells.lookup y.1 = some c) → forIn names acc f = pure (cf env names acc) := by
    intro names
    induction names with
    | nil => intro acc f hf _; rw [List.forIn_nil]; rfl
    | cons y r ih =>
      intro acc f hf hh;obtain ⟨n, k⟩ := y;rw [List.forIn_cons, hf];unfold cf;by_cases hk : (k == NameKind.free) = true
      · obtain ⟨c, hc⟩ := hh (n, k) bS (by simpa using hk);have hc' : env.cells.lookup n = some c := hc;have e : cellOf env n = pure c := by unfold cellOf; rw [hc']
        rw [if_pos hk, if_pos hk, e, hc'];simp only [pure_bind, Option.getD_some];exact ih _ f hf λy hy => hh y (aP _ hy)
      · rw [if_neg hk, if_neg hk];simp only [pure_bind];exact ih _ f hf λy hy => hh y (aP _ hy)
  simp only [closureFor];rw [gen scope.names [] _ (λname kind cells => by cases hkc : kind == NameKind.free <;> simp [hkc]) h];rfl

theorem dg:∀(names:List (Str×NameKind)) (n:Nat) (acc:List (Str×Addr)),cellsFrom n names acc=cellsFrom n names []++acc
 | [],_,_=>rfl
 | (x,k) :: r,n,acc=>by
  unfold cellsFrom
  split
  ·rw[dg r (n+1) (_ :: acc),dg r (n+1) [_],nA];rfl
  ·exact dg r n acc
theorem gC:∀(names:List (Str×NameKind)) (n:Nat) {x:Str} {c:Addr},(x,c)∈cellsFrom n names []->(x,NameKind.cell)∈names
 | [],_,_,_,h=>nomatch h
 | (y,k) :: r,n,x,c,h=>by
  unfold cellsFrom at h
  split at h
  ·rename_i hk
   have ek:k=.cell:=by simpa using hk
   subst ek;rw[dg] at h;rcases aD.mp h with h | h
   ·exact aP _ (gC r _ h)
   ·have e:(x,c)=(y,n):=by simpa using h
    cases e;exact bS
  ·exact aP _ (gC r _ h)
def nX (env:Env) (scope:Scope) (C:Addr):Env :=
 { scope:=relabel scope env,locals:=C,globals:=env.globals,cells:=cellsFrom (C+1) scope.names (cf env scope.names []),qual:=env.qual,func:=none,code:=env.code,frame:=env.frame,builtins:=env.builtins }
theorem tJ {M:Model} {A:Around} {E:Value->Shared->Prop} {s:Shared} {scope:Scope} {g:Addr} {cl:List (Str×Addr)} {qual:Str} {env:Env} {Q:Env->Shared->Prop}
  (h:Q (newEnv scope s.heap.objs.size g (cellsFrom (s.heap.objs.size+1) scope.names cl) qual none .none (some env) builtinsNs) { s with heap:=pushCells (s.heap.push { cls:=.type "dict",data:=.dict #[] }) scope.names }) :
  wpAny M A (newFunctionEnv scope g cl [] qual none .none (some env)) Q E s:=by
 simp only[newFunctionEnv,Option.isSome_some,if_true];refine wpAny_bind (wpAny_alloc ?_);refine wpAny_bind (wpAny_layCells _ (λname kind cells=>by cases hkc:kind == NameKind.cell <;> simp [hkc]) _ _ _ _ ?_);rw[show ({ s with heap:=s.heap.push { cls:=.type "dict",data:=.dict #[] } }:Shared).heap.objs.size=s.heap.objs.size+1 from Heap.size_push ..];rw[List.forIn_nil];exact wpAny_bind (wpAny_pure (wpAny_pure h))
theorem mO {scope:Scope} {env:Env} {x:Str}:∀{k:NameKind},(relabel scope env).names.lookup x=some k->∃k0,scope.names.lookup x=some k0/\(k=k0\/(k0=.free/\k=.cell)):=by
 unfold relabel;show ∀{k:NameKind},(scope.names.map λ(n,k)=>if (k == NameKind.free && env.scope.kind == .function && env.kindOf n == some .cell) then (n,NameKind.cell) else (n,k)).lookup x=some k->_
 induction scope.names with
 | nil=>intro k h;cases h
 | cons y r ih =>
  intro k h;obtain ⟨n,k1⟩:=y;rw[gY,gK] at h;rw[gK];by_cases hc:(k1 == NameKind.free && env.scope.kind == .function && env.kindOf n == some .cell)=true
  ·simp only[hc,if_true] at h;cases hb:x == n with
   | true =>
    simp only[hb] at h
    have e1:k1=.free:=by
     rw[dt,dt] at hc;simpa using hc.1.1
    cases h;exact ⟨k1,rfl,.inr ⟨e1,rfl⟩⟩
   | false=>simp only[hb] at h;exact ih h
  ·have hc':(k1 == NameKind.free && env.scope.kind == .function && env.kindOf n == some .cell)=false:=by simpa using hc
   simp only[hc',uc,if_false] at h;cases hb:x == n with
   | true=>simp only[hb] at h;cases h;exact ⟨_,rfl,.inl rfl⟩
   | false=>simp only[hb] at h;exact ih h
theorem tm {scope:Scope} {env:Env} {x:Str}:scope.names.lookup x=some .free->(relabel scope env).names.lookup x=some .cell\/(relabel scope env).names.lookup x=some .free:=by
 unfold relabel;show _->(scope.names.map λ(n,k)=>if (k == NameKind.free && env.scope.kind == .function && env.kindOf n == some .cell) then (n,NameKind.cell) else (n,k)).lookup x=some .cell\/(scope.names.map λ(n,k)=>if (k == NameKind.free && env.scope.kind == .function && env.kindOf n == some .cell) then (n,NameKind.cell) else (n,k)).lookup x=some .free
 induction scope.names with
 | nil=>intro h;cases h
 | cons y r ih =>
  intro h;obtain ⟨n,k1⟩:=y;rw[gK] at h;rw[gY];by_cases hc:(k1 == NameKind.free && env.scope.kind == .function && env.kindOf n == some .cell)=true
  ·simp only[hc,if_true,gK];cases hb:x == n with
   | true=>exact .inl rfl
   | false=>rw[hb] at h;exact ih h
  ·have hc':(k1 == NameKind.free && env.scope.kind == .function && env.kindOf n == some .cell)=false:=by simpa using hc
   simp only[hc',uc,if_false,gK];cases hb:x == n with
   | true=>rw[hb] at h;cases h;exact .inr rfl
   | false=>rw[hb] at h;exact ih h
structure Bz where
 s:Shared
 H:Hp
 fp:List Addr
 C:Addr
def oH (X:Cx) (own capN:List Str) (scope:Scope) (Z:Bz):Cx where
 prog:=X.prog
 w:=X.w
 K:=X.K
 mg:=X.mg
 base:=X.base
 A:=X.A
 N:=own++capN
 s₀:=Z.s
 H₀:=Z.H
 env:=nX X.env scope Z.C
 outer:=X.stack
 stack:=X.stack
 ex:=Z.fp
 fn:=λx=>own.contains x
 calm:=true
 pn:=[]
 xe:=λ_ _=>False
section
variable {X:Cx} {pins:List (Addr×Obj)} {σ:St} {own capN:List Str} {scope:Scope} {Z:Bz}
theorem ff (B:Bk X.env scope own capN) (I:Inv X pins σ Z.H Z.s) {x:Str} {c:Addr} (h:(nX X.env scope Z.C).cells.lookup x=some c) :
  (x∈own/\(x,c)∈cellsFrom (Z.C+1) scope.names [])\/(x∈capN/\x∉own/\X.env.cells.lookup x=some c):=by
 have h':(cellsFrom (Z.C+1) scope.names (cf X.env scope.names [])).lookup x=some c:=h;rw[dg] at h';rcases aD.mp (mem_of_lookup h') with m | m
 ·exact .inl ⟨(B.cells _ (gC _ _ m) rfl).1,m⟩
 ·obtain ⟨m1,e⟩:=ka _ _ m;obtain ⟨q1,q2⟩:=B.frees _ m1 rfl;obtain ⟨d,hd⟩:=I.ok.has x (B.caps x q1);rw[hd] at e;exact .inr ⟨q1,q2,by rw[hd,e];rfl⟩
theorem zv (B:Bk X.env scope own capN) (I:Inv X pins σ Z.H Z.s) {x:Str} {c:Addr} (hx:x∈capN) (h:X.env.cells.lookup x=some c):(nX X.env scope Z.C).cells.lookup x=some c:=by
 have hm:(x,NameKind.free)∈scope.names:=mem_of_lookup (B.capf x hx);obtain ⟨c1,m1⟩:=kb X.env scope.names hm
 have hs:∃d,(nX X.env scope Z.C).cells.lookup x=some d:=by
  show ∃d,(cellsFrom (Z.C+1) scope.names (cf X.env scope.names [])).lookup x=some d
  rw[dg];exact eK (aZ _ m1)
 obtain ⟨d,hd⟩:=hs;rcases ff B I hd with ⟨q,m⟩ | ⟨_,_,q⟩
 ·exact absurd hx (B.cells _ (gC _ _ m) rfl).2
 ·rw[h] at q;cases q;exact hd
theorem vU (h:Heap) (C:Addr) (hC:h.objs.size=C+1) (names:List (Str×NameKind)):CellsOk (pushCells h names) (C+1) (cellsFrom (C+1) names []):=by
 have q:=cellsFrom_ok names h (C+1) [] ⟨λ_ _ hm=>(nomatch hm),List.Pairwise.nil⟩ (by rw[hC];exact av _);rwa [hC] at q
theorem sy (I:Inv X pins σ Z.H Z.s) {x:Str} {c:Addr} (h:X.env.cells.lookup x=some c):@LT.lt Nat instLTNat c Z.s.heap.objs.size:=by
 obtain ⟨v,q⟩:=I.cell x c h;exact q.lt
theorem AV {h1:Heap} (I:Inv X pins σ Z.H Z.s) (hc:X.calm=true) (B:Bk X.env scope own capN) (hC:Z.s.heap.objs.size<=Z.C) (hcl:CellsOk h1 (Z.C+1) (cellsFrom (Z.C+1) scope.names []))
  (hf:∀b∈Z.fp,kH X pins Z.H b/\@LT.lt Nat instLTNat b Z.s.heap.objs.size):(oH X own capN scope Z).Ok:=by
 refine ⟨I.ok.mod,B.kind,I.ok.glob,I.ok.blt,hC,λx y c h1 h2=>?_,λx hx=>?_,λx c hx h=>?_,λ_=>I.ok.hd hc,I.ok.frames,.inl rfl,λb hb=>⟨?_,λx c h=>?_⟩,I.bs,ah I.ok.bsz I.sz,λb o e hb=>?_,λb hb hz=>?_,I.stack,I.stkFree⟩
 ·rcases ff B I h1 with ⟨q1,m1⟩ | ⟨q1,n1,m1⟩ <;> rcases ff B I h2 with ⟨q2,m2⟩ | ⟨q2,n2,m2⟩
  ·exact name_of_addr hcl.apart m1 m2
  ·have l1:=(hcl.empty _ _ m1).2;have l2:=sy I m2
   lia
  ·have l1:=(hcl.empty _ _ m2).2;have l2:=sy I m1
   lia
  ·exact I.ok.inj x y c m1 m2
 ·have hx':(relabel scope X.env).names.lookup x=some .cell\/(relabel scope X.env).names.lookup x=some .free:=hx
  have hk:scope.names.lookup x=some .cell\/scope.names.lookup x=some .free:=by
   rcases hx' with h | h
   ·obtain ⟨k0,e,q | ⟨q,_⟩⟩:=mO h
    ·exact .inl (by rw[e,<- q])
    ·exact .inr (by rw[e,q])
   ·obtain ⟨k0,e,q | ⟨_,q⟩⟩:=mO h
    ·exact .inr (by rw[e,<- q])
    ·cases q
  show ∃c,(cellsFrom (Z.C+1) scope.names (cf X.env scope.names [])).lookup x=some c
  rcases hk with h | h
  ·exact A9.mp (oP scope.names (Z.C+1) _ (.inl h))
  ·obtain ⟨c,m⟩:=kb X.env scope.names (mem_of_lookup h);rw[dg];exact eK (aZ _ m)
 ·have ho:x∈own:=by have hx':own.contains x=true:=hx;simpa using hx'
  rcases ff B I h with ⟨_,m⟩ | ⟨_,n,_⟩
  ·have:=(hcl.empty _ _ m).2;have hC':Z.s.heap.objs.size<=Z.C:=hC;show Z.s.heap.objs.size<=c
   lia
  ·exact absurd ho n
 ·intro e;have e':@Eq Nat b Z.C:=e;have:=(hf b hb).2
  lia
 ·have l:=(hf b hb).2;rcases ff B I h with ⟨_,m⟩ | ⟨_,_,m⟩
  ·intro e;have e':@Eq Nat c b:=e;have:=(hcl.empty _ _ m).2
   lia
  ·exact (hf b hb).1.2.2.2.2.1 x c m
 ·obtain ⟨_,_,_,f3,_⟩:=(hf b hb).1;rcases f3 with f3 | f3
  ·exact I.ok.noex b o e f3
  ·exact absurd (aE (Heap.lt_size e) (ah I.ok.bsz f3)) (cP _)
 ·obtain ⟨_,f1,f2,_⟩:=(hf b hb).1;rcases aA.mp (I.stkSub b hz) with e | e
  ·exact f1 e
  ·exact f2 e
def wj (k:Nat) (cap:List Nat) (σ:St):St:=List.replicate k none++cap.map λj=>(σ[j]?).join
def oB (X:Cx) (capN:List Str) (cap:List Nat):Prop:=cap.map (λj=>X.N[j]?)=capN.map some
theorem oB.get {cap:List Nat} (h:oB X capN cap) {i:Nat} {x:Str} (e:capN[i]?=some x):∃j,cap[i]?=some j/\X.N[j]?=some x:=by
 have q:=congrArg (λl=>l[i]?) h;simp only[aB,e,Option.map_some] at q;cases hc:cap[i]? with
 | none=>rw[hc] at q;cases q
 | some j=>rw[hc] at q;exact ⟨j,rfl,by simpa using q⟩
theorem tQ {cap:List Nat} {h':Heap} {m:Str->Option Value} (I:Inv X pins σ Z.H Z.s) (B:Bk X.env scope own capN) (hcap:oB X capN cap)
  (kc:∀x c,X.env.cells.lookup x=some c->∀v,Z.s.heap.IsCell c v->h'.IsCell c v) {i:Nat} {x:Str} {v:V} (e1:(own++capN)[i]?=some x) (e2:(wj own.length cap σ)[i]?=some (some v)) :
  ∃u,RelV v u/\Look (nX X.env scope Z.C) h' m x u:=by
 have hi:own.length<=i:=by
  by_cases hi:own.length<=i
  ·exact hi
  ·exfalso
   unfold wj at e2;rw[A3 (by simpa using hi),iM] at e2
   split at e2 <;> cases e2
 rw[mj hi] at e1;unfold wj at e2;rw[mj (by simpa using hi),fo,aB] at e2;obtain ⟨j,hj,hN⟩:=hcap.get e1;rw[hj] at e2;have e3:(σ[j]?).join=some v:=by simpa using e2
 have e4:σ[j]?=some (some v):=by
  cases q:σ[j]? with
  | none=>rw[q] at e3;cases e3
  | some o=>rw[q] at e3;simp at e3;rw[e3]
 have hx:x∈capN:=ao e1;have hk:=B.caps x hx;obtain ⟨m0,_,hl⟩:=I.loc;obtain ⟨u,r,l⟩:=hl j x v hN e4 (.inr hk);refine ⟨u,r,.inr ⟨tm (B.capf x hx),?_⟩⟩;rcases l with ⟨hk2,_⟩ | ⟨_,c,hc,z⟩
 ·rcases hk with hk | hk
  ·rw[hk] at hk2;cases hk2
  ·rw[hk] at hk2;cases hk2
 ·exact ⟨c,zv B I hx hc,kc x c hc _ z⟩
theorem BV (I:Inv X pins σ Z.H Z.s) {b:Addr} (h:b∈wo X.stack):@LT.lt Nat instLTNat b Z.s.heap.objs.size:=by
 obtain ⟨_,o,ho,_⟩:=I.stack.mem h;exact Heap.lt_size ho
theorem zt {cap:List Nat} {h1:Heap} {D:Addr} {oD:Obj} {t1:Nat} (I:Inv X pins σ Z.H Z.s) (hc:X.calm=true) (B:Bk X.env scope own capN) (hcap:oB X capN cap) (hC:Z.s.heap.objs.size<=Z.C)
  (hcl:CellsOk h1 (Z.C+1) (cellsFrom (Z.C+1) scope.names [])) (hf:∀b∈Z.fp,kH X pins Z.H b/\@LT.lt Nat instLTNat b Z.s.heap.objs.size)
  (hk:∀b o,Z.s.heap.get? b=some o->h1.get? b=some o) (hn:h1.Ns Z.C λ_=>none) (hD:Z.s.heap.objs.size<=D) (hDC:D≠Z.C) (hoD:h1.get? D=some oD) (hdD:∀v,oD.data≠.cell v) :
  Inv (oH X own capN scope Z) [(D,oD)] (wj own.length cap σ) Z.H { Z.s with heap:=h1,toks:=t1 }:=by
 refine ⟨AV I hc B hC hcl hf,rfl,I.bare,Un.kept hk,⟨_,hn,λi x v e1 e2 _=>tQ I B hcap (λx c _ v z=>z.keeps hk) e1 e2⟩,λx c h=>?_,I.hok.fresh hC,λx c h=>?_,λp hp=>?_,I.hok.kept hk,?_⟩
 ·rcases ff B I h with ⟨_,m⟩ | ⟨_,_,m⟩
  ·exact ⟨none,(hcl.empty _ _ m).1⟩
  ·obtain ⟨v,q⟩:=I.cell x c m;exact ⟨v,q.keeps hk⟩
 ·rcases ff B I h with ⟨_,m⟩ | ⟨_,_,m⟩
  ·exact I.hok.fresh (by have:=(hcl.empty _ _ m).2;lia)
  ·exact I.freeC x c m
 ·have e:p=(D,oD):=by simpa [oH] using hp
  subst e;exact ⟨hoD,I.hok.fresh hD,hDC,λz=>cP _ (aE (BV I z) hD),hdD⟩
 ·show (wj own.length cap σ).length=(own++capN).length
  have:=congrArg List.length hcap;simp only[ar] at this;unfold wj;simp [this]
theorem xT {cap:List Nat} {pins':List (Addr×Obj)} {σ':St} {H':Hp} {s':Shared} (I:Inv X pins σ Z.H Z.s) (B:Bk X.env scope own capN) (hcap:oB X capN cap) (hf:∀b∈Z.fp,kH X pins Z.H b/\@LT.lt Nat instLTNat b Z.s.heap.objs.size)
  (J:Inv (oH X own capN scope Z) pins' σ' H' s'):Inv (oH X own capN scope Z) pins' (wj own.length cap σ) H' s':=by
 refine ⟨J.ok,J.os,J.bare,J.base,?_,J.cell,J.free,J.freeC,J.pin,J.hok,?_⟩
 ·obtain ⟨m,hn,_⟩:=J.loc;refine ⟨m,hn,λi x v e1 e2 _=>tQ I B hcap (λx c hx v z=>?_) e1 e2⟩;obtain ⟨o,ho,hd⟩:=z;obtain ⟨sl,e⟩:=J.base.any ho (I.freeC x c hx) λz=>(hf c z).1.2.2.2.2.1 x c hx rfl
  exact ⟨_,e,hd⟩
 ·show (wj own.length cap σ).length=(own++capN).length
  have:=congrArg List.length hcap;simp only[ar] at this;unfold wj;simp [this]
theorem zu {σ':St} {H':Hp} {s':Shared} {D:Addr} {its:List Value} {n:Nat} {ys:List V} (I:Inv X pins σ Z.H Z.s) (hf:∀b∈Z.fp,kH X pins Z.H b/\@LT.lt Nat instLTNat b Z.s.heap.objs.size) (hD:Z.s.heap.objs.size<=D)
  (J:Inv (oH X own capN scope Z) [(D,{ cls:=.type "list",data:=.seq its.toArray n })] σ' H' s') (r:bJ ys its) (hz:ys.length<=sizeLine) :
  Inv X pins σ (upd H' D (.lst ys)) s':=by
 have pD:=J.pin (D,{ cls:=.type "list",data:=.seq its.toArray n }) (by simp);have ne:∀{b:Addr} {o:Obj},Z.s.heap.get? b=some o->b≠D:=λe z=>by subst z;exact cP _ (aE (Heap.lt_size e) hD)
 have nt:∀{b:Addr} {u:HO},H' b=some u->b≠D:=λe z=>by rw[z,pD.2.1] at e;cases e
 refine I.call' (ch:=Z.fp) J.os ⟨J.base.keep,J.base.slot,λb o e h hx=>?_,J.base.there,λb xs e=>?_,λb o u e=>?_,λb ps e=>?_⟩ (λb u e=>?_) J.bare λb hb=>?_
 ·rw[aH (ne e)];exact J.base.free b o e h hx
 ·have q:=J.base.tups b xs e;rw[aH (nt q)];exact q
 ·have q:=J.base.frzs b o u e;rw[aH (nt q)];exact q
 ·obtain ⟨more,q⟩:=J.base.tbls b ps e;exact ⟨more,by rw[aH (nt q)];exact q⟩
 ·by_cases hb:b=D
  ·subst hb;rw[ay] at e;cases e;exact ⟨hz,its,n,r,pD.1⟩
  ·rw[aH hb] at e;exact (J.hok b u e).stay (λc v _ q=>q) (λc q=>by rw[aH (nt q)];exact q) λc xs q=>by rw[aH (nt q)];exact q
 ·obtain ⟨_,f1,_,f3,f4,f5⟩:=(hf b hb).1;exact ⟨f3,f1,f4,f5⟩
end
theorem z4 {α:Type} {t:Sem α} {Q Q':α->Shared->Prop} {M:Model} {A:Around} {E:Value->Shared->Prop} {s:Shared} (h:wpAny M A t Q (λ_ _=>False) s) (hQ:∀a s,Q a s->Q' a s):wpAny M A t Q' E s :=
 wpAny_mono h hQ λ_ _ z=>False.elim z
theorem sv {prog : Program} {w : World} {A : Around} {R : Result → Shared → Prop} {s : Shared} {elt target iter : Expr} {ifs : List Expr} {scope : Scope} {pos : Pos} {it acc : Value} {env : Env} (I : Nat → Shared → Prop)
    (turn : ∀ (E : Value → Shared → Prop) n s, I n s → wpAny (model prog w) A (pyNext it) (λr s₁ => match r with
      | none => R (.ok .next) s₁
      | some v => wpAny (model prog w) A (letOwnedTupleGo target it v) (λ_ s₂ => wpAny (model prog w) A (assign target env v) (λ_ s₃ =>
          wpAny (model prog w) A (forIn ifs true λc r => if r = true then do let ok <- isTrue c env (eval c env); pure (ForInStep.yield ok) else pure (ForInStep.yield r)) (λok s₄ =>
            if ok = true then wpAny (model prog w) A (eval elt env) (λx s₅ => wpAny (model prog w) A (call (.builtin "list.append") [acc, x]) (λ_ s₆ => ∃ m, m < n /\ I m s₆) E s₅) E s₄
            else ∃ m, m < n /\ I m s₄) E s₃) E s₂) E s₁) E s)
    (n : Nat) (h : I n s) : codeAny (model prog w) A (.compLoop (.ListComp elt [⟨target, iter, ifs, 0⟩] scope pos) 0 it acc env) R s := by
  refine codeAny_loop rfl I (λn s hI => ?_) n h;show wpAny _ A ((compTurn (.ListComp elt [⟨target, iter, ifs, 0⟩] scope pos) 0 it acc env).onRaise (λx => do noteFrame x env; theTreesLotGoes x)) _ _ s
  refine wpAny_noted ?_;rw [compTurn_list];refine wpAny_bind (wpAny_standAt (wpAny_bind (wpAny_mono (turn _ n s hI) (λr s₁ h₁ => ?_) λ_ _ h' => h')));cases r with
  | none => exact wpAny_pure h₁
  | some v =>
    refine wpAny_bind (wpAny_mono h₁ (λ_ s₂ h₂ => wpAny_bind (wpAny_mono h₂ (λ_ s₃ h₃ => wpAny_bind (wpAny_mono h₃ (λok s₄ h₄ => ?_) λ_ _ h' => h')) λ_ _ h' => h')) λ_ _ h' => h');cases ok with
    | false => exact wpAny_pure ⟨rfl, h₄⟩
    | true =>
      exact wpAny_bind (wpAny_bind (wpAny_mono h₄ (λx s₅ h₅ => wpAny_bind (wpAny_mono h₅ (λ_ s₆ h₆ => wpAny_pure (wpAny_pure ⟨rfl, h₆⟩)) λ_ _ h' => h')) λ_ _ h' => h'))

def PF (X : Cx) (ifs : List Expr) (t : TT) : Prop :=
  ∀ (pins : List (Addr × Obj)) (s : Shared) (σ : St) (H : Hp) (Q : Bool → Hp → Prop), Inv X pins σ H s → t σ H Q →
    wpAny (model X.prog X.w) X.A (forIn ifs true λc r => if r = true then do let ok <- isTrue c X.env (eval c X.env); pure (ForInStep.yield ok) else pure (ForInStep.yield r)) (TP X pins σ Q) X.xe s
def Bf:TT:=λ_ H Q=>Q true H
theorem cS {X:Cx}:PF X [] Bf:=λ_ _ _ H _ I h=>wpAny_tests_nil ⟨H,I,h⟩
def lQ (σ₀:St) (g:TG) (tf:TT) (te:TE) (x:V) (H:Hp) (NY:V->Hp->Prop) (NN:Hp->Prop):Prop :=
 g x σ₀ H λσ2 H2=>tf σ2 H2 λb H3=>if b=true then te σ2 H3 NY else NN H3
def mh (J:It) (σ₀:St) (g:TG) (tf:TT) (te:TE) (Q:VK) (H1:Hp):Prop :=
 ∃W:Nat->Nat->List V->Hp->Prop,(∃m,W 0 m [] H1)/\∀i m ys H,W i m ys H →
  (J.stop i H/\ys.length<=sizeLine/\∀p,H p=none->Q (.ref p) (upd H p (.lst ys))) \/
  (J.go i H/\ys.length < sizeLine/\∃(NY:V->Hp->Prop) (NN:Hp->Prop),(∀y H',NY y H'->∃m',m' < m/\W (i+1) m' (ys++[y]) H')/\(∀H',NN H'->∃m',m' < m/\W (i+1) m' ys H') /\
   ∀x H',J.yld i H x H'->lQ σ₀ g tf te x H' NY NN)
def sO (wi:TI) (k:Nat) (cap:List Nat) (g:TG) (tf:TT) (te:TE):TE:=λσ H Q=>wi σ H λJ H1=>mh J (wj k cap σ) g tf te Q H1
abbrev lobj (its:List Value) (n:Nat):Obj:={ cls:=.type "list",data:=.seq its.toArray n }
section
variable {X:Cx} {own capN:List Str} {cap:List Nat} {scope:Scope} {elt tg iter:Expr} {ifs:List Expr} {pos:Pos} {wi:TI} {g:TG} {tf:TT} {te:TE}
theorem qP {use:Option (Value->Sem Unit)} {Qe:Value->Shared->Prop} {fpos:Pos} (hc:X.calm=true) (B:Bk X.env scope own capN) (hcap:oB X capN cap)
  (hi:PI X tg iter wi) (hg:∀Z,PG (oH X own capN scope Z) tg g) (hf:∀Z,PF (oH X own capN scope Z) ifs tf) (he:∀Z,PE (oH X own capN scope Z) elt te)
  (hs:∀x,foldedSetIterable iter X.env x=pure x) {pins:List (Addr×Obj)} {s:Shared} {σ:St} {H:Hp} {Q:VK} (I:Inv X pins σ H s) (h:sO wi own.length cap g tf te σ H Q)
  (fin:∀(D C:Addr) (s':Shared) (H':Hp),Inv X pins σ H' s'->kH X pins H' C->(∃m,s'.heap.Ns C m)->Q (.ref D) H'->compPost (model X.prog X.w) X.A X.xe use Qe (.ref D) C (.ok .next) s') :
  wpAny (model X.prog X.w) X.A (comprehension (.ListComp elt [⟨tg,iter,ifs,0⟩] scope pos) scope X.env fpos (newList []) false (eval iter X.env) use) Qe X.xe s:=by
 refine wpAny_comprehension_free (use:=use) rfl hs (pT λy hy hk=>I.ok.has y.1 (B.caps _ (B.frees y hy hk).1)) B.kind B.locs ?_;refine dJ (hi pins s σ H _ I h) λv s1 h1=>dJ h1 λitv s2 h2=>?_
 obtain ⟨it,fp,tn,J,H2,e,I2,T,st2,f2,W,⟨m0,w0⟩,turn⟩:=h2;subst e;have hfp:∀b∈fp,kH X pins H2 b/\@LT.lt Nat instLTNat b s2.heap.objs.size:=λb hb=>⟨f2 b hb,let ⟨_,e,_⟩:=T.obj _ _ st2 b hb;Heap.lt_size e⟩
 refine wpAny_newObj_type (tJ ?_) (bq _);have es:(s2.heap.push { cls:=.type "list",data:=.seq ([]:List Value).toArray }).objs.size=s2.heap.objs.size+1:=Heap.size_push ..
 show codeAny _ _ (.compStart _ 0 (.ref it) (.ref s2.heap.objs.size) { newEnv scope (s2.heap.push { cls:=.type "list",data:=.seq ([]:List Value).toArray }).objs.size X.env.globals (cellsFrom ((s2.heap.push { cls:=.type "list",data:=.seq ([]:List Value).toArray }).objs.size+1) scope.names (cf X.env scope.names [])) X.env.qual none .none (some X.env) builtinsNs with scope:=relabel scope X.env })
  (compPost (model X.prog X.w) X.A X.xe use Qe (.ref s2.heap.objs.size) (s2.heap.push { cls:=.type "list",data:=.seq ([]:List Value).toArray }).objs.size)
  { s2 with heap:=pushCells ((s2.heap.push { cls:=.type "list",data:=.seq ([]:List Value).toArray }).push { cls:=.type "dict",data:=.dict #[] }) scope.names }
 have hk1:∀b o,(s2.heap.push { cls:=.type "list",data:=.seq ([]:List Value).toArray }).get? b=some o->(pushCells ((s2.heap.push { cls:=.type "list",data:=.seq ([]:List Value).toArray }).push { cls:=.type "dict",data:=.dict #[] }) scope.names).get? b=some o :=
  λb o e=>pushCells_keeps _ _ _ _ (Heap.get?_push_of_some _ e)
 have hk:∀b o,s2.heap.get? b=some o->(pushCells ((s2.heap.push { cls:=.type "list",data:=.seq ([]:List Value).toArray }).push { cls:=.type "dict",data:=.dict #[] }) scope.names).get? b=some o:=λb o e=>hk1 b o (Heap.get?_push_of_some _ e)
 have hoD:=hk1 s2.heap.objs.size _ (Heap.get?_push_size s2.heap (o:={ cls:=.type "list",data:=.seq ([]:List Value).toArray }) rfl);have hn:=(Heap.Ns.new (s2.heap.push { cls:=.type "list",data:=.seq ([]:List Value).toArray }) (.type "dict")).keeps (pushCells_keeps scope.names _);have hcl:=vU ((s2.heap.push { cls:=.type "list",data:=.seq ([]:List Value).toArray }).push { cls:=.type "dict",data:=.dict #[] }) (s2.heap.objs.size+1) (by rw[Heap.size_push,es]) scope.names;rw[es] at hn ⊢;generalize pushCells ((s2.heap.push { cls:=.type "list",data:=.seq ([]:List Value).toArray }).push { cls:=.type "dict",data:=.dict #[] }) scope.names=h3 at hk hoD hn hcl ⊢;have Z:Bz:=⟨s2,H2,fp,s2.heap.objs.size+1⟩
 have I3:Inv (oH X own capN scope ⟨s2,H2,fp,s2.heap.objs.size+1⟩) [(s2.heap.objs.size,lobj [] 0)] (wj own.length cap σ) H2 { s2 with heap:=h3 } :=
  zt (Z:=⟨s2,H2,fp,s2.heap.objs.size+1⟩) (t1:=s2.toks) I2 hc B hcap (nu _) hcl hfp hk hn (av _) (aU (gJ _)) hoD (λv z=>nomatch z)
 have st3:tn 0 h3:=T.keep _ _ _ st2 λb _ o e=>hk b o e
 have loop:codeAny (model X.prog X.w) X.A (.compLoop (.ListComp elt [⟨tg,iter,ifs,0⟩] scope pos) 0 (.ref it) (.ref s2.heap.objs.size) (nX X.env scope (s2.heap.objs.size+1))) (compPost (model X.prog X.w) X.A X.xe use Qe (.ref s2.heap.objs.size) (s2.heap.objs.size+1)) { s2 with heap:=h3 }:=by
  refine sv (λm s'=>∃i ys σ' H' its n,Inv (oH X own capN scope ⟨s2,H2,fp,s2.heap.objs.size+1⟩) [(s2.heap.objs.size,lobj its n)] σ' H' s'/\tn i s'.heap/\(∀b∈fp,H' b=none)/\bJ ys its/\W i m ys H') ?_ m0
   ⟨0,[],_,H2,[],0,I3,st3,λb hb=>(f2 b hb).1,.nil,w0⟩
  rintro E n s4 ⟨i,ys,σ4,H4,its,k,I4,st4,fr4,rv,w4⟩
  have fpo:∀{pp:List (Addr×Obj)} {H':Hp},(∀p∈pp,p.1=s2.heap.objs.size)->(∀b∈fp,H' b=none)->∀b∈fp,kH (oH X own capN scope ⟨s2,H2,fp,s2.heap.objs.size+1⟩) pp H' b:=λ{pp H'} hpp hn b hb=>by
   obtain ⟨e1,e2⟩:=I4.ok.exf b hb;refine ⟨hn b hb,e1,I4.ok.exfs b hb,.inl hb,e2,λp hp=>?_⟩;have hp':p∈pp:=by simpa [oH] using hp
   have l:=(hfp b hb).2;rw[hpp p hp'];exact λz=>cP _ (by rw[<- z] at l;exact l)
  have pinD:∀{its:List Value} {n:Nat},∀p∈[(s2.heap.objs.size,lobj its n)],p.1=s2.heap.objs.size:=λp hp=>by simp at hp;rw[hp]
  rcases turn i n ys H4 w4 with ⟨stop,hz,q⟩ | ⟨go,hlt,NY,NN,hNY,hNN,step⟩
  ·refine dJ (T.done (oH X own capN scope ⟨s2,H2,fp,s2.heap.objs.size+1⟩) rfl rfl rfl rfl i _ s4 σ4 H4 E I4 (fpo pinD fr4) st4 stop) λr s5 ⟨hr,I5⟩=>?_
   subst hr;have pD:=I5.pin (s2.heap.objs.size,lobj its k) (by simp);have I6:=zu (Z:=⟨s2,H2,fp,s2.heap.objs.size+1⟩) I2 hfp (av _) I5 rv hz
   have hC:upd H4 s2.heap.objs.size (.lst ys) (s2.heap.objs.size+1)=none:=by
    rw[aH (vD (gJ _))];exact I5.free
   obtain ⟨m,hm,_⟩:=I5.loc;exact fin _ _ s5 _ I6 (I2.fpOk (nu _) hC) ⟨m,hm⟩ (q _ pD.2.1)
  ·refine dJ (T.item (oH X own capN scope ⟨s2,H2,fp,s2.heap.objs.size+1⟩) rfl rfl rfl rfl i _ s4 σ4 H4 E I4 (fpo pinD fr4) st4 go) λr s5 ⟨u,hr,h5⟩=>?_
   subst hr;refine dJ h5 λ_ s6 ⟨x,H6,I6,r6,y6,st6,fr6⟩=>?_
   have I6':=(xT (Z:=⟨s2,H2,fp,s2.heap.objs.size+1⟩) I2 B hcap hfp I6).pinned (fpo pinD fr6) (T.obj _ _ st6)
   have back:∀{σ7:St} {H7:Hp} {s7:Shared},Inv (oH X own capN scope ⟨s2,H2,fp,s2.heap.objs.size+1⟩) ([(s2.heap.objs.size,lobj its k)]++pd fp s6.heap) σ7 H7 s7 →
     Inv (oH X own capN scope ⟨s2,H2,fp,s2.heap.objs.size+1⟩) [(s2.heap.objs.size,lobj its k)] σ7 H7 s7/\tn (i+1) s7.heap/\∀b∈fp,H7 b=none:=λ{σ7 H7 s7} I7=>by
    refine ⟨I7.unpinned,T.keep _ _ _ st6 λb hb o e=>(I7.pin (b,o) (aZ _ (aZ _ (jW hb e)))).1,λb hb=>?_⟩;obtain ⟨o,e,d⟩:=T.obj _ _ st6 b hb;exact (I7.pin (b,o) (aZ _ (aZ _ (jW hb e)))).2.1
   refine z4 (hg _ _ s6 _ H6 x u _ I6' r6 (step x H6 y6)) λ_ s7 ⟨σ7,H7,I7,q7⟩=>?_
   refine z4 (hf _ _ s7 σ7 H7 _ I7 q7) λok s8 ⟨H8,I8,q8⟩=>?_
   cases ok with
   | false =>
    rw[if_neg aI] at q8 ⊢;obtain ⟨m',hm,w8⟩:=hNN H8 q8;obtain ⟨J1,J2,J3⟩:=back I8;exact ⟨m',hm,i+1,ys,σ7,H8,its,k,J1,J2,J3,rv,w8⟩
   | true =>
    rw[if_pos rfl] at q8 ⊢;refine z4 (he _ _ s8 σ7 H8 _ I8 q8) λz s9 ⟨y,H9,I9,r9,q9⟩=>?_
    obtain ⟨J1,J2,J3⟩:=back I9;obtain ⟨m',hm,w9⟩:=hNY y H9 q9;have pD:=J1.pin (s2.heap.objs.size,lobj its k) (by simp);have hl:=rv.length;refine call_meets F.slot_list_append ⟨_,pD.1,rfl⟩ F.entry_list_append (F.args_list_append_2 _ _) (PySem.list_append s2.heap.objs.size its.toArray k z (by rw[ax];lia)) ⟨pD.1,?_⟩;have e9:=PySem.IsL.update pD.1 (λa=>a.push z);have e9':(its.toArray.push z)=(its++[z]).toArray:=by simp
    rw[e9'] at e9;obtain ⟨n',e9⟩:∃n',(s9.heap.update s2.heap.objs.size (Obj.mapSeq λa=>a.push z)).get? s2.heap.objs.size=some (lobj (its++[z]) n'):=⟨_,e9⟩
    have J4:Inv (oH X own capN scope ⟨s2,H2,fp,s2.heap.objs.size+1⟩) [] σ7 H9 { s9 with heap:=s9.heap.update s2.heap.objs.size (Obj.mapSeq λa=>a.push z),toks:=s9.toks } :=
     (J1.pins_of (pins':=[]) λp hp=>nomatch hp).turned (λb o hb e=>(Heap.get?_update_other s9.heap _ (Ne.symm hb)).trans e) pD.2.1 pD.2.2.1 (.inr (av _)) (λx c hx z=>by
      rcases ff (Z:=⟨s2,H2,fp,s2.heap.objs.size+1⟩) B I2 hx with ⟨_,m⟩ | ⟨_,_,m⟩
      ·have:=(hcl.empty _ _ m).2;have z':@Eq Nat c s2.heap.objs.size:=z
       lia
      ·have:=sy (Z:=⟨s2,H2,fp,s2.heap.objs.size+1⟩) I2 m;rw[z] at this;exact cP _ this) λp hp=>by simp [oH] at hp
    have nfp:∀b∈fp,b≠s2.heap.objs.size:=λb hb z=>by have:=(hfp b hb).2;rw[z] at this;exact cP _ this
    refine ⟨m',hm,i+1,ys++[y],σ7,H9,its++[z],n',J4.pins_of λp hp=>?_,T.keep _ _ _ J2 λb hb o e=>(Heap.get?_update_other s9.heap _ (Ne.symm (nfp b hb))).trans e,J3,rv.append (.cons r9 .nil),w9⟩;have ep:p=(s2.heap.objs.size,lobj (its++[z]) n'):=by simpa using hp
    rw[ep];exact ⟨e9,pD.2.1,pD.2.2.1,pD.2.2.2.1,λv z=>nomatch z⟩
 exact codeAny_compStart_list loop (T.self _ _ _ _ _ st3 loop)
theorem cO (own capN:List Str) (cap:List Nat) (hi:PI X tg iter wi) (hg:∀Z,PG (oH X own capN scope Z) tg g) (hf:∀Z,PF (oH X own capN scope Z) ifs tf) (he:∀Z,PE (oH X own capN scope Z) elt te)
  (h1:Cv scope own capN=true:=by decide +kernel) (h2:qR X.env capN=true:=by rfl) (hcap:oB X capN cap:=by rfl) (hc:X.calm=true:=by rfl) (hs:∀x,foldedSetIterable iter X.env x=pure x:=by intro _;rfl) :
  PE X (.ListComp elt [⟨tg,iter,ifs,0⟩] scope pos) (sO wi own.length cap g tf te):=by
 intro pins s σ H Q I h;rw[eval_ListComp];refine qP (use:=none) hc (Bk.of h1 h2) hcap hi hg hf he hs I h λD C s' H' I' fC hm q=>?_
 obtain ⟨m,hm⟩:=hm;refine ⟨m,hm,λh' hs'=>?_⟩;obtain ⟨f0,f1,f2,f3,f4,f5⟩:=fC;exact ⟨.ref D,H',I'.turned (t':=s'.toks) (λb o hb e=>(hs'.2 b hb).trans e) f0 f1 f3 f4 f5,rfl,q⟩
theorem oI (i:Nat) (own capN:List Str) (cap:List Nat) {x:Str} {pos' spos:Pos} (hN:X.N.Nodup) (hi':X.N[i]?=some x) (hx:X.env.scope.names.lookup x=some .local) (hi:PI X tg iter wi) (hg:∀Z,PG (oH X own capN scope Z) tg g) (hf:∀Z,PF (oH X own capN scope Z) ifs tf) (he:∀Z,PE (oH X own capN scope Z) elt te)
  (h1:Cv scope own capN=true:=by decide +kernel) (h2:qR X.env capN=true:=by rfl) (hcap:oB X capN cap:=by rfl) (hc:X.calm=true:=by rfl) (hs:∀x,foldedSetIterable iter X.env x=pure x:=by intro _;rfl)
  (hsw:swapsWith (.ListComp elt [⟨tg,iter,ifs,0⟩] scope pos) (some (.Name x pos')) spos.line X.env=pure true:=by rfl) :
  PS X (.Assign [.Name x pos'] (.ListComp elt [⟨tg,iter,ifs,0⟩] scope pos) spos) (yt (sO wi own.length cap g tf te) (vk i)):=by
 intro pins s σ H D I h;rw[exec_Assign_Name_used _ _ _ _ hsw];refine wpAny_bind (wpAny_standAt (wpAny_bind ?_));rw[arm_evalThenUse_ListComp];refine wpAny_bind (qP (Q:=λv H1=>D.nx (σ.set i (some v)) H1) (use:=some _) hc (Bk.of h1 h2) hcap hi hg hf he hs I h λL C s' H' I' fC hm q=>?_);obtain ⟨m,hm⟩:=hm;obtain ⟨f0,f1,f2,f3,f4,f5⟩:=fC;refine wpAny_assign_Name (qv I' hN hi' (.inl hx) (v:=.ref L) rfl (λs'' I'' ⟨a,sb,ha⟩=>?_) (.inr hx))
 have hCa:C≠a:=by
  rcases ha with e | e
  ·rw[e];exact f1
  ·exact (f4 x a e).symm
 refine ⟨m,hm.at' λo e=>(sb.2 C hCa).trans e,λh' hs'=>?_⟩;have I3:=I''.turned (h':=h') (t':=s''.toks) (λb o hb e=>(hs'.2 b hb).trans e) f0 f1 f3 f4 f5;exact wpAny_pure (wpAny_pure ⟨_,H',I3,q⟩)
end
section
variable {K:FG9} {a:Addr} {xs:List V} {g:TG} {tf:TT} {te:TE} {Q:VK} {σ₀:St} {H:Hp}
theorem ir (Pv:Nat->List V->Hp->Prop) (hz:xs.length<=sizeLine) (h0:Pv 0 [] H) (hl:∀i ys H,i<=xs.length->Pv i ys H->bL K H a xs)
  (hs:∀i x ys H,xs[i]?=some x->ys.length<=i->Pv i ys H->lQ σ₀ g tf te x H (λy H'=>Pv (i+1) (ys++[y]) H') (λH'=>Pv (i+1) ys H'))
  (hd:∀ys H,ys.length<=xs.length->Pv xs.length ys H->∀p,H p=none->Q (.ref p) (upd H p (.lst ys))):mh (zV K a) σ₀ g tf te Q H:=by
 refine ⟨λi m ys H=>m=xs.length - i/\i<=xs.length/\ys.length<=i/\Pv i ys H,⟨xs.length,by simp,bq _,bq _,h0⟩,?_⟩;rintro i m ys H ⟨rfl,hi,hy,p⟩;have q:=hl i ys H hi p;by_cases hlt:i < xs.length
 ·refine .inr ⟨⟨xs,xs[i],q,by simp [hlt]⟩,by lia,λy H'=>Pv (i+1) (ys++[y]) H',λH'=>Pv (i+1) ys H',λy H' p'=>⟨xs.length - (i+1),by lia,rfl,hlt,by rw[bx,dA];lia,p'⟩,λH' p'=>⟨xs.length - (i+1),by lia,rfl,hlt,by lia,p'⟩,λx H' y=>?_⟩;obtain ⟨e,y⟩:=y;subst e;exact hs i x ys _ (y xs q) hy p
 ·have e:i=xs.length:=by lia
  subst e;exact .inl ⟨⟨xs,q,av _⟩,by lia,hd ys H hy p⟩
theorem iI {lo:Int} {n:Nat} (Pv:Nat->List V->Hp->Prop) (hz:n<=sizeLine) (h0:Pv 0 [] H)
  (hs:∀i ys H,i < n->ys.length<=i->Pv i ys H->lQ σ₀ g tf te (.int (lo+i)) H (λy H'=>Pv (i+1) (ys++[y]) H') (λH'=>Pv (i+1) ys H'))
  (hd:∀ys H,ys.length<=n->Pv n ys H->∀p,H p=none->Q (.ref p) (upd H p (.lst ys))):mh (t6 lo n) σ₀ g tf te Q H:=by
 refine ⟨λi m ys H=>m=n - i/\i<=n/\ys.length<=i/\Pv i ys H,⟨n,by simp,bq _,bq _,h0⟩,?_⟩;rintro i m ys H ⟨rfl,hi,hy,p⟩;by_cases hlt:i < n
 ·refine .inr ⟨hlt,by lia,λy H'=>Pv (i+1) (ys++[y]) H',λH'=>Pv (i+1) ys H',λy H' p'=>⟨n - (i+1),by lia,rfl,hlt,by rw[bx,dA];lia,p'⟩,λH' p'=>⟨n - (i+1),by lia,rfl,hlt,by lia,p'⟩,λx H' y=>?_⟩;obtain ⟨e,y⟩:=y;subst e y;exact hs i ys _ hlt hy p
 ·have e:i=n:=by lia
  subst e;exact .inl ⟨av _,by lia,hd ys H hy p⟩
end
open Nm
def jw (i j:Int):Prop:=A2 i j\/∃m n,Sz m i/\Sz n j/\m+n<=1000000
def kB (i j:Int):Prop:=j≠0/\Sz 8999 j
theorem pV {k:Nat} {i:Int} (h:Sz k i):Builtin.Int.intBits i<=k:=by
 unfold Builtin.Int.intBits;by_cases e:i=0
 ·subst e;simp
 ·have e':(i == 0)=false:=by simpa using e
  rw[e'];have hn:i.natAbs≠0:=by lia
  have:=(Nat.log2_lt hn).mpr h;simp only[uc,if_false]
  lia
theorem jw.ok {i j:Int} (h:jw i j):IntMulOk i j:=by
 rcases h with h | ⟨m,n,h1,h2,h3⟩
 ·exact h.ok
 ·have e:(2:Nat)^20=1048576:=by decide
  exact .of_bits (by have:=pV h1;lia) (by have:=pV h2;lia)
section
variable {X:Cx} {a b:Expr} {ta tb:TE} {pos:Pos}
theorem di:qq X (binaryOp .Mult) (rI jw λi j=>.int (i*j)):=Cu λ_ _ _ _ _ _ _ hc q=>mul_int q hc.ok
theorem fv:qq X (binaryOp .FloorDiv) (rI kB λi j=>.int (i.fdiv j)):=Cu λi j _ _ _ _ _ hc q=>by
 refine floordiv_int hc.1 q (.inl (PyProof.noPylong_of_log2 ?_));have hn:j.natAbs≠0:=by have:=hc.1;lia
 have:=(Nat.log2_lt hn).mpr hc.2
 lia
def Bh (t u:TS):TS:=λD σ H=>∃N:St->Hp->Prop,t { D with nx:=N } σ H/\∀σ' H',N σ' H'->u D σ' H'
theorem d5 {st:Stmt} {rest:List Stmt} {t u:TS} (h1:PS X st t) (h2:uH X rest u):uH X (st :: rest) (Bh t u):=by
 intro pins s σ H D I h;obtain ⟨N,h,k⟩:=h;refine wpAny_execs_cons (dJ (h1 pins s σ H { D with nx:=N } I h) λf s1 q=>?_);cases f with
 | next =>
  obtain ⟨σ',H',I',q⟩:=q;exact h2 pins s1 σ' H' D I' (k _ _ q)
 | ret v=>exact q
 | brk=>exact q
 | cont=>exact q
def zK (K:FG9):V->V->Hp->VK->Prop:=λo i H Q=>∃p xs k v,o=.ref p/\i=.int k/\bL K H p xs/\t5 xs k=some v/\Q v H
theorem xC:Cm X (zK X.K):=by
 intro pins s σ H o i ov iv Q I ro ri h;obtain ⟨p,xs,k,z,rfl,rfl,hq,he,q⟩:=h;cases ro;obtain ⟨t,rfl⟩:=ri;obtain ⟨its,r,pl,hz⟩:=I.list hq;obtain ⟨j,h1,h2,h3,h4,h5⟩:=sC he;obtain ⟨w,ew,rw'⟩:=r.get h2;have hl:=r.length;have hn:=pP;have fin:EP X pins σ Q w s:=⟨z,H,I,rw',q⟩;by_cases h0:0<=k
 ·have hj:k.toNat=j:=by
   rw[seqIndex_of h0 h5] at h1;exact bG h1
  exact wpAny_getItem_list pl.isList h0 (by lia) (by rw[hj];simpa using ew) fin
 ·have hj:(k+(its.toArray.size:Int)).toNat=j:=by
   rw[seqIndex_neg (by lia) h4] at h1;rw[ax,<- hl];exact bG h1
  exact wpAny_getItem_list_neg pl.isList (by lia) (by rw[ax] <;> lia) (by lia) (by rw[hj];simpa using ew) fin
def vR (K:FG9) (T:String):V->Hp->VK->Prop:=λx H Q=>∃t b,nZ K H x t/\PySem.W.kitOne K t (.type T)=some b/\Q (.bl b) H
theorem ph {c:Str} {T:String} {p p2:Pos} (hg:Gl X "isinstance") (hm:X.mg "isinstance"=none) (hb:bootBuiltins c=some (.type T)) (hmc:X.mg c=none) (ha:PE X a ta) (hgc:Gl X c:=by rfl) (hn:c≠"__name__":=by decide)
  (hd:(c == ("__debug__":Str))=false:=by decide) (he:starEach [a,.Name c p2] X.env=[(false,eval a X.env),(false,eval (.Name c p2) X.env)]:=by rfl)
  (hpl:(backTo pos (starEach [.Name c p2] X.env)).any (·.1)=false:=by rfl) (he2:starEach [.Name c p2] X.env=[(false,eval (.Name c p2) X.env)]:=by rfl):PE X (.Call (.Name "isinstance" p) [a,.Name c p2] [] pos) (Ct (vR X.K T) ta):=by
 intro pins s σ H Q I h;refine wpAny_Call_Name_kw (iH I hg hm PyProof.Rows.boot_isinstance ?_);have hA:PA X [a,.Name c p2] (kK ta (kK (tC (.ty T)) vI)):=aa ha (aa (vb hgc hmc hb rfl hn hd) ag he2) (by rw[he,he2])
 have hq:kK ta (kK (tC (.ty T)) vI) σ H (λvs H1=>∃x,vs=[x,.ty T]/\vR X.K T x H1 Q):=by
  show ta σ H λx H1=>∃x',[x,V.ty T]=[x',V.ty T]/\vR X.K T x' H1 Q
  have e:(λx H1=>∃x',[x,V.ty T]=[x',V.ty T]/\vR X.K T x' H1 Q)=λx H1=>vR X.K T x H1 Q:=by
   funext x H1;apply propext;constructor
   ·rintro ⟨x',e,q⟩;cases e;exact q
   ·intro q;exact ⟨x,rfl,q⟩
  rw[e];exact h
 refine PyProof.Rows.callWith_builtin1 (dJ (hA pos pins s σ H _ I hq) λus s1 ⟨vs,H1,I1,r1,x,e,q1⟩=>?_) (by rw[he,he2]) hpl;subst e;obtain ⟨u,w',rfl,ru,rt⟩:=vals2 r1;cases rt;obtain ⟨t,bb,ty,ek,q⟩:=q1;exact qM I1 ru ty ek λtk=>⟨.bl bb,H1,I1.tok tk,rfl,q⟩
end
structure Kind (α:Type) [DecidableEq α] where
 R:FG9->Hp->V->α->Prop
 d:Nat
 inj:∀{X:Cx} {pins:List (Addr×Obj)} {σ:St} {H:Hp} {s:Shared} {x:V} {a b:α},Inv X pins σ H s->R X.K H x a->R X.K H x b->a=b
 rc:∀{X:Cx} {pins:List (Addr×Obj)} {σ:St} {H:Hp} {s:Shared} {x y:V} {v u:Value} {a b:α} {A:Around},Inv X pins σ H s->RelV x v->RelV y u->R X.K H x a->R X.K H y b->A.units+d < cLine->SeqAt.RcAt A s v u (decide (a=b))
 ne:∀{X:Cx} {pins:List (Addr×Obj)} {σ:St} {H:Hp} {s:Shared} {x y:V} {v u:Value} {a b:α} {A:Around},Inv X pins σ H s->RelV x v->RelV y u->R X.K H x a->R X.K H y b->A.units+d < cLine->SeqAt.RcNeAt A s v u (!decide (a=b))
 eq:∀{X:Cx} {pins:List (Addr×Obj)} {σ:St} {H:Hp} {s:Shared} {x y:V} {v u:Value} {a b:α} {A:Around},Inv X pins σ H s->RelV x v->RelV y u->R X.K H x a->R X.K H y b->A.units+d < cLine->SeqAt.EqAt A s v u (decide (a=b))
def CO:Kind Int where
 R:=λ_ _ x i=>x=.int i
 d:=0
 inj:=λ_ h1 h2=>by rw[h1] at h2;cases h2;rfl
 rc:=λ{X pins σ H s x y v u a b A} I rx ry h1 h2 _=>by
  subst h1 h2;obtain ⟨t,rfl⟩:=rx;obtain ⟨t',rfl⟩:=ry;have q:=SeqAt.RcAt.int_int (A:=A) (s:=s) a t b t';rwa [qh] at q
 ne:=λ{X pins σ H s x y v u a b A} I rx ry h1 h2 _=>by
  subst h1 h2;obtain ⟨t,rfl⟩:=rx;obtain ⟨t',rfl⟩:=ry;have q:=SeqAt.RcNeAt.int_int (A:=A) (s:=s) a t b t';rwa [qh] at q
 eq:=λ{X pins σ H s x y v u a b A} I rx ry h1 h2 _=>by
  subst h1 h2;obtain ⟨t,rfl⟩:=rx;obtain ⟨t',rfl⟩:=ry;have q:=SeqAt.EqAt.int_int (A:=A) (s:=s) a t b t';rwa [qh] at q
theorem iD {α β:Type} {F:α->β->Prop}:∀{l1:List α} {l2:List β} {i:Nat} (_:Paired F l1 l2) (h1:i < l1.length) (h2:i < l2.length),F l1[i] l2[i]
 | _,_,_,.nil,h1,_=>absurd h1 (Nat.not_lt_zero _)
 | _,_,0,.cons r _,_,_=>r
 | _,_,i+1,.cons _ t,h1,h2=>iD (i:=i) t (Nat.lt_of_succ_lt_succ h1) (Nat.lt_of_succ_lt_succ h2)
theorem iC {α β:Type} {F:α->β->Prop} (hF:∀a b x,F a x->F b x->a=b):∀{l1 l2:List α} {l:List β},Paired F l1 l->Paired F l2 l->l1=l2
 | _,_,_,.nil,.nil=>rfl
 | _,_,_,.cons r t,.cons r' t'=>by rw[hF _ _ _ r r',iC hF t t']
theorem m4 {α:Type} [DecidableEq α] (as bs:List α) (h:as.length=bs.length):(List.range as.length).all (λj=>decide (as[j]?=bs[j]?))=decide (as=bs):=by
 rw[kJ,oC,decide_eq_true_iff];constructor
 ·intro q;apply vE;intro i;by_cases hi:i < as.length
  ·exact of_decide_eq_true (q i (rd.mpr hi))
  ·rw[bV (by lia),bV (by lia)]
 ·rintro rfl i _;simp
section
variable {α:Type} [DecidableEq α] (k:Kind α)
theorem Kind.items {X:Cx} {pins:List (Addr×Obj)} {σ:St} {H:Hp} {s:Shared} {A:Around} (I:Inv X pins σ H s) (hA:A.units+k.d < cLine) {xs ys:List V} {us ws:List Value} {as bs:List α}
  (rx:bJ xs us) (ry:bJ ys ws) (ha:Paired (λa x=>k.R X.K H x a) as xs) (hb:Paired (λa x=>k.R X.K H x a) bs ys) :
  ∀j (h1:j < us.toArray.size) (h2:j < ws.toArray.size),SeqAt.EqAt A s us.toArray[j] ws.toArray[j] (decide (as[j]?=bs[j]?)):=λj h1 h2=>by
 have l1:j < us.length:=by simpa using h1
 have l2:j < ws.length:=by simpa using h2
 have e1:=rx.length;have e2:=ry.length;have e3:=ha.length;have e4:=hb.length;obtain ⟨u,hu,ru⟩:=rx.get (i:=j) (x:=xs[j]'(by lia)) (by simp);obtain ⟨w,hw,rw'⟩:=ry.get (i:=j) (x:=ys[j]'(by lia)) (by simp);have q:=k.eq (A:=A) I ru rw' (iD ha (by lia) (by lia)) (iD hb (by lia) (by lia)) hA
 have eu:us.toArray[j]=u:=by
  have:=hu;rw[ai l1] at this;simpa using this
 have ew:ws.toArray[j]=w:=by
  have:=hw;rw[ai l2] at this;simpa using this
 rw[eu,ew,ai (show j < as.length by lia),ai (show j < bs.length by lia)];have e5:decide (some as[j]=some bs[j])=decide (as[j]=bs[j]):=by simp
 rw[e5];exact q
theorem rg {α:Type} [DecidableEq α] (as bs:List α) {n m:Nat} (h1:as.length=n) (h2:bs.length=m):((List.range (min n m)).all (λj=>decide (as[j]?=bs[j]?)) && n == m)=decide (as=bs):=by
 subst h1 h2;by_cases e:as.length=bs.length
 ·rw[show min as.length bs.length=as.length by lia,m4 as bs e];simp [e]
 ·have h1:(as.length == bs.length)=false:=by simpa using e
  rw[h1,Bool.and_false];exact (decide_eq_false λz=>e (by rw[z])).symm
def CM:Kind (List α) where
 R:=λK H x as=>∃p xs,x=.ref p/\lO K H p xs/\Paired (λa x=>k.R K H x a) as xs
 d:=k.d+1
 inj:=λ{X pins σ H s x a b} I h1 h2=>by
  obtain ⟨p,xs,rfl,hp,pa⟩:=h1;obtain ⟨q,ys,e,hq,pb⟩:=h2;cases e;have e:=I.tuple_inj hp hq;subst e;exact iC (F:=λa x=>k.R X.K H x a) (λa b x=>k.inj I) pa pb
 rc:=λ{X pins σ H s x y v u a b A} I rx ry h1 h2 hA=>by
  obtain ⟨p,xs,rfl,hp,pa⟩:=h1;obtain ⟨q,ys,rfl,hq,pb⟩:=h2;cases rx;cases ry;obtain ⟨us,r1,t1,_⟩:=I.tuple hp;obtain ⟨ws,r2,t2,_⟩:=I.tuple hq;have z:=SeqAt.RcAt.tuples (A:=A) (e:=λj=>decide (a[j]?=b[j]?)) (show s.heap.IsTuple p us.toArray from t1) (show s.heap.IsTuple q ws.toArray from t2) (by lia) (k.items (A:=A.in1) I (by show A.units+1+k.d < cLine;lia) r1 r2 pa pb);rwa [rg a b (by rw[pa.length,r1.length];simp) (by rw[pb.length,r2.length];simp)] at z
 ne:=λ{X pins σ H s x y v u a b A} I rx ry h1 h2 hA=>by
  obtain ⟨p,xs,rfl,hp,pa⟩:=h1;obtain ⟨q,ys,rfl,hq,pb⟩:=h2;cases rx;cases ry;obtain ⟨us,r1,t1,_⟩:=I.tuple hp;obtain ⟨ws,r2,t2,_⟩:=I.tuple hq;have z:=SeqAt.RcNeAt.tuples (A:=A) (e:=λj=>decide (a[j]?=b[j]?)) (show s.heap.IsTuple p us.toArray from t1) (show s.heap.IsTuple q ws.toArray from t2) (by lia) (k.items (A:=A.in1) I (by show A.units+1+k.d < cLine;lia) r1 r2 pa pb);rwa [rg a b (by rw[pa.length,r1.length];simp) (by rw[pb.length,r2.length];simp)] at z
 eq:=λ{X pins σ H s x y v u a b A} I rx ry h1 h2 hA=>by
  obtain ⟨p,xs,rfl,hp,pa⟩:=h1;obtain ⟨q,ys,rfl,hq,pb⟩:=h2;cases rx;cases ry;by_cases e:p=q
  ·subst e;have e:=I.tuple_inj hp hq;subst e;rw[iC (F:=λa x=>k.R X.K H x a) (λa b x=>k.inj I) pa pb,decide_eq_true rfl];exact SeqAt.EqAt.same _
  ·obtain ⟨us,r1,t1,_⟩:=I.tuple hp;obtain ⟨ws,r2,t2,_⟩:=I.tuple hq;have z:=SeqAt.RcAt.tuples (A:=A) (e:=λj=>decide (a[j]?=b[j]?)) (show s.heap.IsTuple p us.toArray from t1) (show s.heap.IsTuple q ws.toArray from t2) (by lia) (k.items (A:=A.in1) I (by show A.units+1+k.d < cLine;lia) r1 r2 pa pb);rw[rg a b (by rw[pa.length,r1.length];simp) (by rw[pb.length,r2.length];simp)] at z;exact .of_refs e z
theorem uA {X:Cx} {pins:List (Addr×Obj)} {σ:St} {H:Hp} {s:Shared} {p q:Addr} {xs ys:List V} {a b:List α} {A:Around} (I:Inv X pins σ H s) (hp:bL X.K H p xs) (hq:bL X.K H q ys)
  (pa:Paired (λa x=>k.R X.K H x a) a xs) (pb:Paired (λa x=>k.R X.K H x a) b ys) (hA:A.units+(k.d+1) < cLine) :
  SeqAt.RcAt A s (.ref p) (.ref q) (decide (a=b))/\SeqAt.RcNeAt A s (.ref p) (.ref q) (!decide (a=b)):=by
 obtain ⟨us,r1,t1,_⟩:=I.list hp;obtain ⟨ws,r2,t2,_⟩:=I.list hq;have l1:=r1.length;have l2:=r2.length;have l3:=pa.length;have l4:=pb.length;by_cases e:us.length=ws.length
 ·have it:=k.items (A:=A.in1) I (by show A.units+1+k.d < cLine;lia) r1 r2 pa pb;have z:=SeqAt.RcAt.lists (A:=A) (e:=λj=>decide (a[j]?=b[j]?)) t1.isList t2.isList (by simpa using e) (by lia) it;have z2:=SeqAt.RcNeAt.lists (A:=A) (e:=λj=>decide (a[j]?=b[j]?)) t1.isList t2.isList (by simpa using e) (by lia) it;have e1:us.toArray.size=a.length:=by rw[ax];lia
  rw[e1,m4 a b (by lia)] at z z2;exact ⟨z,z2⟩
 ·have hne:¬a=b:=λz=>e (by have:=congrArg List.length z;lia)
  rw[decide_eq_false hne];exact ⟨SeqAt.RcAt.lists_lengths t1.isList t2.isList (by simpa using e) (by lia),SeqAt.RcNeAt.lists_lengths t1.isList t2.isList (by simpa using e) (by lia)⟩
def CN:Kind (List α) where
 R:=λK H x as=>∃p xs,x=.ref p/\bL K H p xs/\Paired (λa x=>k.R K H x a) as xs
 d:=k.d+1
 inj:=λ{X pins σ H s x a b} I h1 h2=>by
  obtain ⟨p,xs,rfl,hp,pa⟩:=h1;obtain ⟨q,ys,e,hq,pb⟩:=h2;cases e;have e:=I.list_inj hp hq;subst e;exact iC (F:=λa x=>k.R X.K H x a) (λa b x=>k.inj I) pa pb
 rc:=λ{X pins σ H s x y v u a b A} I rx ry h1 h2 hA=>by
  obtain ⟨p,xs,rfl,hp,pa⟩:=h1;obtain ⟨q,ys,rfl,hq,pb⟩:=h2;cases rx;cases ry;exact (uA k I hp hq pa pb hA).1
 ne:=λ{X pins σ H s x y v u a b A} I rx ry h1 h2 hA=>by
  obtain ⟨p,xs,rfl,hp,pa⟩:=h1;obtain ⟨q,ys,rfl,hq,pb⟩:=h2;cases rx;cases ry;exact (uA k I hp hq pa pb hA).2
 eq:=λ{X pins σ H s x y v u a b A} I rx ry h1 h2 hA=>by
  obtain ⟨p,xs,rfl,hp,pa⟩:=h1;obtain ⟨q,ys,rfl,hq,pb⟩:=h2;cases rx;cases ry;by_cases e:p=q
  ·subst e;have e:=I.list_inj hp hq;subst e;rw[iC (F:=λa x=>k.R X.K H x a) (λa b x=>k.inj I) pa pb,decide_eq_true rfl];exact SeqAt.EqAt.same _
  ·exact .of_refs e (uA k I hp hq pa pb hA).1
def Kind.via {β:Type} [DecidableEq β] (f:β->α) (fi:∀a b,f a=f b->a=b) (R':FG9->Hp->V->β->Prop) (im:∀{K H x b},R' K H x b->k.R K H x (f b)):Kind β where
 R:=R'
 d:=k.d
 inj:=λI h1 h2=>fi _ _ (k.inj I (im h1) (im h2))
 rc:=λ{X pins σ H s x y v u a b A} I rx ry h1 h2 hA=>by
  have z:=k.rc (A:=A) I rx ry (im h1) (im h2) hA;rwa [decide_eq_decide.mpr (show f a=f b↔a=b from ⟨fi a b,λe=>by rw[e]⟩)] at z
 ne:=λ{X pins σ H s x y v u a b A} I rx ry h1 h2 hA=>by
  have z:=k.ne (A:=A) I rx ry (im h1) (im h2) hA;rwa [decide_eq_decide.mpr (show f a=f b↔a=b from ⟨fi a b,λe=>by rw[e]⟩)] at z
 eq:=λ{X pins σ H s x y v u a b A} I rx ry h1 h2 hA=>by
  have z:=k.eq (A:=A) I rx ry (im h1) (im h2) hA;rwa [decide_eq_decide.mpr (show f a=f b↔a=b from ⟨fi a b,λe=>by rw[e]⟩)] at z
end
def tX (K:FG9) (H:Hp) (x:V) (n:Int×Int):Prop:=∃p,x=.ref p/\lO K H p [.int n.1,.int n.2]
def BN:Kind (Int×Int):=(CM CO).via (λn=>[n.1,n.2]) (λa b e=>by cases a;cases b;simp at e;rw[e.1,e.2]) tX λ⟨p,e,h⟩=>⟨p,_,e,h,.cons rfl (.cons rfl .nil)⟩
def CI (K:FG9):R2:=λx y H Q=>∃(α:Type) (_:DecidableEq α) (k:Kind α) (a b:α),k.d<=50/\k.R K H x a/\k.R K H y b/\Q (.bl (decide (a=b))) H
def CH (K:FG9):R2:=λx y H Q=>∃(α:Type) (_:DecidableEq α) (k:Kind α) (a b:α),k.d<=50/\k.R K H x a/\k.R K H y b/\Q (.bl (!decide (a=b))) H
theorem AE {X:Cx} (hu:X.A.units+50 < cLine):qq X (compareOp .Eq) (CI X.K):=by
 intro pins s σ H x y v u Q I rx ry h;obtain ⟨α,_,k,a,b,hd,ha,hb,q⟩:=h;exact k.rc (A:=X.A) I rx ry ha hb (by lia) _ _ _ _ ⟨.bl (decide (a=b)),H,I,rfl,q⟩
theorem AD {X:Cx} (hu:X.A.units+50 < cLine):qq X (compareOp .NotEq) (CH X.K):=by
 intro pins s σ H x y v u Q I rx ry h;obtain ⟨α,_,k,a,b,hd,ha,hb,q⟩:=h;exact k.ne (A:=X.A) I rx ry ha hb (by lia) _ _ _ _ ⟨.bl (!decide (a=b)),H,I,rfl,q⟩
theorem BR {A:Around} {k:Nat} (hr:ig k A):A.units+50 < cLine:=by have:=hr.units;lia
def Inner (H:Hp) (p q:Addr):Prop:=∃a b c:Int,H p=some (.lst [.int a,.int b,.int c,.ref q])
def bR (p:Addr) (H H':Hp):Prop:=(∀b o,H b=some o->b≠p->H' b=some o)/\∀q,Inner H p q->Inner H' p q
theorem bR.refl {p:Addr} (H:Hp):bR p H H:=⟨λ_ _ h _=>h,λ_ h=>h⟩
theorem bR.trans {p:Addr} {H H1 H2:Hp} (a:bR p H H1) (b:bR p H1 H2):bR p H H2:=⟨λc o h n=>b.1 c o (a.1 c o h n) n,λq h=>b.2 q (a.2 q h)⟩
theorem Inner.inj {H:Hp} {p q q':Addr} (h:Inner H p q) (h':Inner H p q'):q=q':=by
 obtain ⟨a,b,c,e⟩:=h;obtain ⟨a',b',c',e'⟩:=h';rw[e] at e';have:=HO.lst.inj (bG e');simp at this;exact this.2.2.2
theorem bR.set {p q:Addr} {H:Hp} {a b c a' b' c':Int} (h:H p=some (.lst [.int a,.int b,.int c,.ref q])):bR p H (upd H p (.lst [.int a',.int b',.int c',.ref q])) :=
 ⟨λb u h n=>by rw[aH n];exact h,λq' h'=>by
  rw[(Inner.inj ⟨a,b,c,h⟩ h').symm];exact ⟨a',b',c',ay⟩⟩
theorem az.upto {p:Addr} {H H':Hp} (h:az H H'):bR p H H':=⟨λb o e _=>h b o e,λq ⟨a,b,c,e⟩=>⟨a,b,c,h _ _ e⟩⟩
theorem az.new {H:Hp} {p:Addr} {o:HO} (h:H p=Option.none):az H (upd H p o):=λb u e=>by rw[aH (df e h)];exact e
theorem az.sqt {K:FG9} {H H':Hp} {a:Addr} {xs:List V} (e:az H H') (h:lO K H a xs):lO K H' a xs:=by
 rcases h with (h | ⟨o,h⟩) | h
 ·exact .inl (.inl (e _ _ h))
 ·exact .inl (.inr ⟨o,e _ _ h⟩)
 ·exact .inr h
theorem az.num {K:FG9} {H H':Hp} {x:V} {n:Int×Int} (e:az H H') (h:tX K H x n):tX K H' x n:=by obtain ⟨p,q,r⟩:=h;exact ⟨p,q,e.sqt r⟩
section
variable {σ:St} {H:Hp} {D:Ends}
theorem aR {t:TS} {σ0 σ:St} {D:Ends} {H:Hp} (e:σ0=σ) (h:t D σ H):t D σ0 H:=by rw[e];exact h
theorem Ad {t u:TS} (h:t { D with nx:=u D } σ H):Bi t u D σ H:=h
theorem yI (h:D.nx σ H):zD D σ H:=h
theorem Au {te:TE} {g:TG} (h:te σ H λx H1=>g x σ H1 D.nx):yt te g D σ H:=h
theorem xb {i:Nat} {v:V} {Q:St->Hp->Prop} (h:Q (σ.set i (some v)) H):vk i v σ H Q:=h
theorem Ae {te:TE} (h:te σ H D.rt):Bj te D σ H:=h
theorem An {c:TT} {t u:TS} (h:c σ H λb H1=>if b=true then t D σ H1 else u D σ H1):Bp c t u D σ H:=h
theorem yQ {te:TE} (h:te σ H λ_ H1=>D.nx σ H1):zF te D σ H:=h
theorem Ag {i j:Nat} {ta:TA} (h:ta σ H λvs H1=>∃v w,vs=[v,w]/\D.nx ((σ.set i (some v)).set j (some w)) H1):Bl i j ta D σ H:=h
theorem yU {to ti te:TE} {tget:V->V->Hp->VK->Prop} {tip:Cj} {tset:uE}
  (h:to σ H λo H1=>ti σ H1 λi H2=>tget o i H2 λx H3=>te σ H3 λy H4=>tip x y H4 λz H5=>tset o i z H5 λH6=>D.nx σ H6):zG to ti te tget tip tset D σ H:=h
theorem Am {f:Int->Int->Int} {i j:Int} {Q:VK} (h:Q (.int (f i j)) H):ipI f (.int i) (.int j) H Q:=⟨i,j,rfl,rfl,h⟩
theorem Ap {wi:TI} {g:TG} {tb:TS} (h:wi σ H λJ H1=>∃W:Nat->Nat->St->Hp->Prop,(∃m,W 0 m σ H1)/\∀i m σ H,W i m σ H →
  (J.stop i H/\D.nx σ H)\/(J.go i H/\∃N:St->Hp->Prop,(∀σ' H',N σ' H'->∃m',m' < m/\W (i+1) m' σ' H')/\∀x H',J.yld i H x H'->g x σ H' λσ2 H2=>tb { D with nx:=N,ct:=N,bk:=D.nx } σ2 H2)):Bq wi g tb D σ H:=h
variable {Q:VK} {QA:List V->Hp->Prop} {QB:Bool->Hp->Prop}
theorem Ab {i:Nat} {v:V} (e:σ[i]?=some (some v)) (h:Q v H):z5 i σ H Q:=⟨v,e,h⟩
theorem CD {v:V} (h:Q v H):tC v σ H Q:=h
theorem BD {r:R2} {ta tb:TE} (h:ta σ H λx H1=>tb σ H1 λy H2=>r x y H2 Q):Bm r ta tb σ H Q:=h
theorem By {r:V->Hp->VK->Prop} {ta:TE} (h:ta σ H λx H1=>r x H1 Q):Ct r ta σ H Q:=h
theorem BG {g:Int->Int->V} {i j:Int} (h:Q (g i j) H):zJ g (.int i) (.int j) H Q:=⟨i,j,rfl,rfl,h⟩
theorem fu {C:Int->Int->Prop} {g:Int->Int->V} {i j:Int} (hc:C i j) (h:Q (g i j) H):rI C g (.int i) (.int j) H Q:=⟨i,j,rfl,rfl,hc,h⟩
theorem CF {g:Int->V} {i:Int} (h:Q (g i) H):rU g (.int i) H Q:=⟨i,rfl,h⟩
theorem Ar {i j:Int} (h:Q (.bl (decide (i=j))) H):rEq (.int i) (.int j) H Q:=⟨rfl,by
 have e:decide (V.int i=V.int j)=decide (i=j):=by simp
 rw[e];exact h⟩
theorem Aj {i j:Int} (h:Q (.bl (!decide (i=j))) H):rNe (.int i) (.int j) H Q:=⟨rfl,by
 have e:decide (V.int i=V.int j)=decide (i=j):=by simp
 rw[e];exact h⟩
theorem yE {t:TE} (h:t σ H λx H'=>∃k,x=.bl k/\QB k H'):zA t σ H QB:=h
theorem BA {t:TE} (h:t σ H λx H'=>∃k,x=.bl k/\QB k H'):tB t σ H QB:=h
theorem Av {t u:TT} (h:t σ H λc H1=>if c=true then u σ H1 QB else QB false H1):Bs t u σ H QB:=h
theorem BC {t u:TT} (h:t σ H λc H1=>if c=true then QB true H1 else u σ H1 QB):tOr t u σ H QB:=h
theorem Ah {t:TT} (h:t σ H λc H1=>QB (!c) H1):Bn t σ H QB:=h
theorem yV {t u:TE} (h:t σ H λx H1=>∃c,x=.bl c/\if c=true then u σ H1 Q else Q (.bl false) H1):zH t u σ H Q:=h
theorem yH {t:TE} (h:t σ H λx H1=>∃c,x=.bl c/\Q (.bl (!c)) H1):zC t σ H Q:=h
theorem Ao {c:TT} {ta tb:TE} (h:c σ H λb H1=>if b=true then ta σ H1 Q else tb σ H1 Q):tIf c ta tb σ H Q:=h
theorem Aa (h:QB true H):Bf σ H QB:=h
theorem Ai (h:QA [] H):vI σ H QA:=h
theorem yR {ta:TE} {tr:TA} (h:ta σ H λx H1=>tr σ H1 λxs H2=>QA (x :: xs) H2):kK ta tr σ H QA:=h
theorem yT {sp:Sp} {E:XK} {t:TA} (h:t σ H λvs H1=>sp vs H1 Q E):wG sp [] E t σ H Q:=by
 have e:(λvs H1=>sp (vs++[]) H1 Q E)=λvs H1=>sp vs H1 Q E:=by funext vs H1;rw[yk]
 show t σ H λvs H1=>sp (vs++[]) H1 Q E
 rw[e];exact h
theorem BE {r:List V->Hp->VK->Prop} {t:TA} (h:t σ H λvs H1=>r vs H1 Q):CC r t σ H Q:=h
theorem Al {K:FG9} {p:Addr} {xs:List V} {i:Int} {v:V} (hx:lO K H p xs) (e:t5 xs i=some v) (h:Q v H):Aw K (.ref p) (.int i) H Q:=⟨p,xs,i,v,rfl,rfl,hx,e,h⟩
theorem cR {K:FG9} {p:Addr} {xs:List V} {i:Int} (hx:bL K H p xs) {v:V} (e:t5 xs i=some v) (h:Q v H):Ax K (.ref p) (.int i) H Q:=⟨p,xs,i,v,rfl,rfl,hx,e,h⟩
theorem yP {K:FG9} {p:Addr} {xs:List V} {i:Int} (hx:bL K H p xs) {v:V} (e:t5 xs i=some v) (h:Q v H):zK K (.ref p) (.int i) H Q:=⟨p,xs,i,v,rfl,rfl,hx,e,h⟩
theorem eF {QH:Hp->Prop} {p:Addr} {xs:List V} {i:Int} {v:V} {j:Nat} {ys:List V} (hx:H p=some (.lst xs)) (e:wm xs.length i=some j) (ey:xs.set j v=ys) (h:QH (upd H p (.lst ys))):zI (.ref p) (.int i) v H QH:=⟨p,xs,i,j,rfl,rfl,hx,e,by rw[ey];exact h⟩
theorem yN {to ti:TE} {t:uE} {v:V} {QS:St->Hp->Prop} (h:to σ H λo H1=>ti σ H1 λi H2=>t o i v H2 λH3=>QS σ H3):BS to ti t v σ H QS:=h
theorem xc {t:TG} {u:yd} {v:V} {r:List V} {QS:St->Hp->Prop} (h:t v σ H λσ' H'=>u r σ' H' QS):zS t u (v :: r) σ H QS:=⟨v,r,rfl,h⟩
theorem yO {QS:St->Hp->Prop} (h:QS σ H):BU [] σ H QS:=⟨rfl,h⟩
theorem yM {K:FG9} {n:Nat} {t:yd} {a:Addr} {xs:List V} {QS:St->Hp->Prop} (hx:lO K H a xs) (hl:xs.length=n) (h:t xs σ H QS):AS K n t (.ref a) σ H QS:=⟨a,xs,rfl,hx,hl,h⟩
theorem BB {r:V->Option Int->Option Int->Hp->VK->Prop} {te:TE} {tl th:TO} (h:te σ H λx H1=>tl σ H1 λl H2=>th σ H2 λu H3=>r x l u H3 Q):tSl r te tl th σ H Q:=h
theorem vQ {QO:Option Int->Hp->Prop} (h:QO none H):uQ σ H QO:=h
theorem yG {t:TE} {QO:Option Int->Hp->Prop} (h:t σ H λx H1=>∃i,x=.int i/\QO (some i) H1):zB t σ H QO:=h
variable {R:It->Hp->Prop} {K:FG9}
theorem w5 {tl:TE} (h:tl σ H λx H1=>∃a,x=.ref a/\(∃xs,bL K H1 a xs)/\R (zV K a) H1):zQ K tl σ H R:=h
theorem yL {tl:TE} (h:tl σ H λx H1=>∃a,x=.ref a/\(∃xs,lO K H1 a xs)/\R (A6 K a) H1):BQ K tl σ H R:=h
theorem wZ {ta:TA} (h:ta σ H λvs H1=>∃j:Int,vs=[.int j]/\-(2^62)<=j/\j < 2^62/\R (t6 0 j.toNat) H1):zP ta σ H R:=h
theorem wY {ta:TA} (h:ta σ H λvs H1=>∃i j:Int,vs=[.int i,.int j]/\(-(2^62)<=i/\i < 2^62/\-(2^62)<=j/\j < 2^62)/\R (t6 i (j - i).toNat) H1):zO ta σ H R:=h
theorem yS {wi:TI} {k:Nat} {cap:List Nat} {g:TG} {tf:TT} {te:TE} {σ₀:St} (e:wj k cap σ=σ₀) (h:wi σ H λJ H1=>mh J σ₀ g tf te Q H1):sO wi k cap g tf te σ H Q:=by
 unfold sO;rw[e];exact h
theorem yD {g:TG} {tf:TT} {te:TE} {x:V} {NY:V->Hp->Prop} {NN:Hp->Prop} (h:g x σ H λσ2 H2=>tf σ2 H2 λb H3=>if b=true then te σ2 H3 NY else NN H3):lQ σ g tf te x H NY NN:=h
theorem BF {T:String} {r:V->List V->Hp->VK->Prop} {to:TE} {t:TA} (h:to σ H λx H1=>CB K T x H1/\t σ H1 λxs H2=>r x xs H2 Q):tBM K T r to t σ H Q:=h
def Cn (Q:VK) (xs:List V) (H:Hp):Prop:=xs.length<=sizeLine/\∀p,H p=none->Q (.ref p) (upd H p (.tup xs))
def Co (Q:VK) (xs:List V) (H:Hp):Prop:=xs.length<=sizeLine/\∀p,H p=none->Q (.ref p) (upd H p (.lst xs))
theorem Ac {t:TA} (h:t σ H (Cn Q)):Bg t σ H Q:=h
theorem Ak {t:TA} (h:t σ H (Co Q)):Bo t σ H Q:=h
theorem mN {n:Nat} (h:Nat.ble n 1000=true):n<=sizeLine:=bu (bF (Nat.le_of_ble_eq_true h))
theorem bY {xs:List V} (h:∀p H',az H H'->H' p=some (.tup xs)->Q (.ref p) H') (hl:Nat.ble xs.length 1000=true:=by rfl):Cn Q xs H :=
 ⟨mN hl,λp hp=>h p _ (az.new hp) ay⟩
theorem fZ {xs:List V} (h:∀p H',az H H'->H p=none->H' p=some (.lst xs)->Q (.ref p) H') (hl:Nat.ble xs.length 1000=true:=by rfl):Co Q xs H :=
 ⟨mN hl,λp hp=>h p _ (az.new hp) hp ay⟩
theorem BO {A B:Prop} (h:B):if (!true)=true then A else B:=zg h
def WB (tb:TS) (D:Ends) (Pv:St->Hp->Prop) (μ:St->Hp->Nat) (n:Nat) (σ:St) (H:Hp):Prop:=∃N:St->Hp->Prop,(∀σ' H',N σ' H'->∃m',m' < n/\(m'=μ σ' H'/\Pv σ' H'))/\tb { D with nx:=N,ct:=N,bk:=D.nx } σ H
theorem Bx {tb:TS} {Pv:St->Hp->Prop} {μ:St->Hp->Nat} {n:Nat} (h:tb { D with nx:=λσ' H'=>Pv σ' H'/\μ σ' H' < n,ct:=λσ' H'=>Pv σ' H'/\μ σ' H' < n,bk:=D.nx } σ H):WB tb D Pv μ n σ H :=
 ⟨_,λσ' H' ⟨p,l⟩=>⟨_,l,rfl,p⟩,h⟩
theorem uM {c:TT} {tb:TS} (Pv:St->Hp->Prop) (μ:St->Hp->Nat) (h0:Pv σ H) (hs:∀σ H,Pv σ H->c σ H λb H1=>if b=true then WB tb D Pv μ (μ σ H) σ H1 else D.nx σ H1):wF c tb D σ H:=by
 refine ⟨λm σ H=>m=μ σ H/\Pv σ H,⟨_,rfl,h0⟩,?_⟩;rintro m σ H ⟨rfl,p⟩;exact hs σ H p
end
def fH (H:Hp) (p:Addr):Prop:=∃(q:Addr) (a b c:Int) (cs:List Int),H p=some (.lst [.int a,.int b,.int c,.ref q])/\H q=some (.lst (cs.map V.int))/\0<=a/\0<=c/\c<=(cs.length:Int)/\∀x∈cs,(0:Int)<=x
theorem wd {H:Hp} {p q:Addr} {a b c:Int} {cs:List Int} (hp:H p=some (.lst [.int a,.int b,.int c,.ref q])) (hq:H q=some (.lst (cs.map V.int))):q≠p:=λe=>by
 rw[e,hp] at hq;have h:=HO.lst.inj (bG hq);cases cs with
 | nil=>cases h
 | cons x1 cs=>cases cs with
  | nil=>cases h
  | cons x2 cs=>cases cs with
   | nil=>cases h
   | cons x3 cs=>cases cs with
    | nil=>cases h
    | cons x4 cs=>simp at h
theorem fH.same {H H':Hp} {p:Addr} (h:fH H p) (e:az H H'):fH H' p:=by obtain ⟨q,a,b,c,cs,h1,h2,r⟩:=h;exact ⟨q,a,b,c,cs,e _ _ h1,e _ _ h2,r⟩
theorem bR.tup {H H':Hp} {p r:Addr} {xs:List V} (u:bR p H H') (B:fH H p) (h:H r=some (.tup xs)):H' r=some (.tup xs):=by
 obtain ⟨q,a,b,c,cs,h1,_⟩:=B;exact u.1 r _ h λe=>by rw[e,h1] at h;cases h
theorem bR.other {H H':Hp} {p r:Addr} {o:HO} (u:bR p H H') (n:r≠p) (h:H r=some o):H' r=some o:=u.1 r _ h n
theorem fH.inner {H:Hp} {p:Addr} (h:fH H p):∃q,Inner H p q/\∃xs,H q=some (.lst xs):=by obtain ⟨q,a,b,c,cs,h1,h2,_⟩:=h;exact ⟨q,⟨a,b,c,h1⟩,_,h2⟩
theorem fH.upd {H:Hp} {p q r:Addr} {o:HO} (h:fH H p) (hi:Inner H p q) (n1:r≠p) (n2:r≠q):fH (L2.upd H r o) p:=by
 obtain ⟨q',a,b,c,cs,h1,h2,z⟩:=h;have e:q'=q:=Inner.inj ⟨a,b,c,h1⟩ hi;subst e;exact ⟨q',a,b,c,cs,by rw[aH n1.symm];exact h1,by rw[aH n2.symm];exact h2,z⟩
theorem Inner.upd {H:Hp} {p q r:Addr} {o:HO} (hi:Inner H p q) (n1:r≠p):Inner (L2.upd H r o) p q:=by obtain ⟨a,b,c,h⟩:=hi;exact ⟨a,b,c,by rw[aH n1.symm];exact h⟩
def yw:Sp:=λvs H Q _=>∃p n,vs=[.ref p,.int n]/\fH H p/\0 < n/\n < 2^64/\∀v H',0<=v->v < n->fH H' p->bR p H H'->Q (.int v) H'
inductive wR (K:FG9) (vs:List V) (H:Hp) (Q:VK) (E9:XK):Prop
 | mk (a:Addr) (ns:List Int):vs=[.ref a]->bL K H a (ns.map V.int)->ns.length<=63->(∀p H',H p=none->fH H' p->az H H'->Q (.ref p) H')->wR K vs H Q E9
inductive oZ (K:FG9) (vs:List V) (H:Hp) (Q:VK) (E9:XK):Prop
 | mk (a:Addr) (ns:List Int):vs=[.ref a]->bL K H a (ns.map V.int)->ns.length<=63->(∀H',Q (.bl true) H')->oZ K vs H Q E9
def z8:Sp:=λvs H Q _=>∃t b,vs=[.int t,.int b]/\0 < b/\Sz 8999 b/\∀r H',az H H'->H' r=some (.tup [.int (lo t b),.int (hi t b)])->Q (.ref r) H'
def Bu:Sp:=λvs H Q _=>∃a b,vs=[.int a,.int b]/\Q (.int (g a b)) H
def vL:Sp:=λvs H Q _=>∃t b,vs=[.int t,.int b]/\b≠0/\Sz 8999 b/\∀r H',az H H'->H' r=some (.tup [.int (lo (if b < 0 then -t else t) (if b < 0 then -b else b)),.int (hi (if b < 0 then -t else t) (if b < 0 then -b else b))])->Q (.ref r) H'
def zT (a b c d:Int):Int:=a*d+c*b
def xH (a _b c _d:Int):Int:=a*c
def wU (K:FG9) (f:Int->Int->Int->Int->Int):Sp:=λvs H Q _=>∃p q a b c d,vs=[.ref p,.ref q]/\lO K H p [.int a,.int b]/\lO K H q [.int c,.int d]/\0 < b/\0 < d/\Sz 4000 a/\Sz 4000 b/\Sz 4000 c/\Sz 4000 d /\
 ∀r H',az H H'->H' r=some (.tup [.int (lo (f a b c d) (b*d)),.int (hi (f a b c d) (b*d))])->Q (.ref r) H'
theorem cM {α β:Type} {F:α->β->Prop}:∀{l1 l1':List α} {l2 l2':List β},Paired F l1 l2->Paired F l1' l2'->Paired F (l1++l1') (l2++l2')
 | _,_,_,_,.nil,h=>h
 | _,_,_,_,.cons r t,h=>.cons r (cM t h)
theorem eo {h:Heap} {a b:Addr} {o u:Obj} (ha:h.get? a=some o) (hb:h.get? b=some u) (hc:o.cls≠u.cls):a≠b:=λe=>by
 subst e;rw[ha] at hb;cases hb;exact hc rfl
theorem mJ {a b:String} (h:a≠b):Value.type a≠Value.type b:=λe=>h (by injection e)
theorem qr {h:Heap} {z TI TO i1 i2 l1 l2:Addr} {f0 a b:Value} {k1 k2:Nat} {xs ys:Array Value} (hz:IsZip h z TI TO f0) (hTI:IsPair h TI (.ref i1) (.ref i2)) (hTO:IsPair h TO a b)
  (h1:h.IsListIter i1 l1 k1) (h2:h.IsListIter i2 l2 k2) (hl1:h.IsList l1 xs) (hl2:h.IsList l2 ys) (hT:TI≠TO) (hi:i1≠i2):ZipApart z TI TO i1 i2 l1 l2:=by
 obtain ⟨o1,g1,c1,_⟩:=h1;obtain ⟨o2,g2,c2,_⟩:=h2;obtain ⟨p1,q1,d1,_⟩:=hl1;obtain ⟨p2,q2,d2,_⟩:=hl2;refine ⟨eo hTI hz ?_,eo hTO hz ?_,eo g1 hz ?_,eo g2 hz ?_,hT,eo hTI g1 ?_,eo hTI g2 ?_,eo hTO g1 ?_,eo hTO g2 ?_,hi,eo q1 hz ?_,eo q1 hTO ?_,eo q1 g1 ?_,eo q1 g2 ?_,eo q2 hz ?_,eo q2 hTO ?_,eo q2 g1 ?_,eo q2 g2 ?_⟩
 all_goals first
  | (rw[d1];first | (rw[c1];exact mJ (by decide)) | (rw[c2];exact mJ (by decide)) | exact mJ (by decide))
  | (rw[d2];first | (rw[c1];exact mJ (by decide)) | (rw[c2];exact mJ (by decide)) | exact mJ (by decide))
  | (rw[c1];exact mJ (by decide))
  | (rw[c2];exact mJ (by decide))
  | exact mJ (by decide)
def CA (K : FG9) (l1 l2 : Addr) : It :=
  ⟨λi H => ∃ xs ys x y, bL K H l1 xs /\ bL K H l2 ys /\ xs[i]? = some x /\ ys[i]? = some y,
   λi H v H' => ∃ p x y, v = .ref p /\ H p = none /\ H' = upd H p (.tup [x, y]) /\ (∀ xs, bL K H l1 xs → xs[i]? = some x) /\ ∀ ys, bL K H l2 ys → ys[i]? = some y,
   λi H => ∃ xs ys, bL K H l1 xs /\ bL K H l2 ys /\ (xs.length ≤ i \/ ys.length ≤ i)⟩
def tnZ (z TI TO i1 i2 l1 l2:Addr) (i:Nat) (h:Heap):Prop:=IsZip h z TI TO .none/\IsPair h TI (.ref i1) (.ref i2)/\(∃a b,IsPair h TO a b)/\h.IsListIter i1 l1 i/\h.IsListIter i2 l2 i
theorem wz {P:Program} {w:World} {K:FG9} {elts:List Expr} {kk:Nat} {tpos:Pos} (z TI TO i1 i2 l1 l2:Addr) (hT:TI≠TO) (hi:i1≠i2):Turn P w K (.Tuple elts kk tpos) (CA K l1 l2) [z,TI,TO,i1,i2] z (tnZ z TI TO i1 i2 l1 l2) where
 mem:=by simp
 obj:=λi h st b hb=>by
  obtain ⟨hz,hTI,⟨a,c,hTO⟩,⟨o1,g1,c1,d1⟩,⟨o2,g2,c2,d2⟩⟩:=st;simp only[aA,be,or_false] at hb;rcases hb with rfl | rfl | rfl | rfl | rfl
  ·exact ⟨_,hz,λv q=>nomatch q⟩
  ·exact ⟨_,hTI,λv q=>nomatch q⟩
  ·exact ⟨_,hTO,λv q=>nomatch q⟩
  ·exact ⟨o1,g1,λv q=>by rw[d1] at q;cases q⟩
  ·exact ⟨o2,g2,λv q=>by rw[d2] at q;cases q⟩
 keep:=λi h h' st k=>by
  obtain ⟨hz,hTI,⟨a,c,hTO⟩,h1,h2⟩:=st;exact ⟨k z (by simp) _ hz,k TI (by simp) _ hTI,⟨a,c,k TO (by simp) _ hTO⟩,h1.at λo e=>k i1 (by simp) o e,h2.at λo e=>k i2 (by simp) o e⟩
 item:=by
  intro X hP hw hK hc i pins s σ H E I hf st hg;subst hP hw hK;obtain ⟨hz,hTI,⟨a,c,hTO⟩,h1,h2⟩:=st;obtain ⟨xs,ys,x,y,qx,qy,ex,ey⟩:=hg;obtain ⟨us,rx,px,_⟩:=I.list qx;obtain ⟨ws,ry,py,_⟩:=I.list qy;obtain ⟨u,eu,ru⟩:=rx.get ex;obtain ⟨v,ev,rv⟩:=ry.get ey;have D:=qr hz hTI hTO h1 h2 px.isList py.isList hT hi;refine wpAny_pyNext_zip_item D hz hTI hTO h1 h2 px.isList py.isList (x:=u) (y:=v) (by simpa using eu) (by simpa using ev) λh' a1 a2 a3 a4 a5 a6 hk=>?_
  refine ⟨_,rfl,wpAny_letOwnedTupleGo_zip a1 λh'' hz'' hs=>?_⟩;have hT0:H s.heap.objs.size=none:=I.hok.fresh (av _);have zne:s.heap.objs.size≠z:=vD (Heap.lt_size hz)
  have up:∀b o,b∉[z,TO,i1,i2]->s.heap.get? b=some o->h''.get? b=some o:=λb o hb e=>by
   simp only[aA,be,or_false,not_or] at hb;exact (hs.2 b hb.1).trans (hk b o hb.1 hb.2.1 hb.2.2.1 hb.2.2.2 e)
  have fx:∀b∈[z,TO,i1,i2],kH X pins H b:=λb hb=>hf b (by
   simp only[aA,be,or_false] at hb ⊢;rcases hb with rfl | rfl | rfl | rfl <;> simp)
  have nx:∀b o,H b=some o->b∉[z,TO,i1,i2]:=λb o e hb=>by
   have:=(fx b hb).1;rw[this] at e;cases e
  have nT:∀{b:Addr} {o:HO},H b=some o->b≠s.heap.objs.size:=λe q=>by rw[q,hT0] at e;cases e
  have tup:h''.get? s.heap.objs.size=some { cls:=.type "tuple",data:=.seq #[u,v] }:=(hs.2 _ zne).trans a5
  have I2:Inv X pins σ (upd H s.heap.objs.size (.tup [x,y])) { s with heap:=h'' }:=by
   refine I.step (g':=s.gens) (d':=s.drawn) (t':=s.toks) (ch:=[z,TO,i1,i2]) (λb hb=>?_) (λb o _ _ hb e _=>up b o hb e) (λb o _ _ hb e _=>⟨o.slots,up b o hb e⟩) (λb o hb e n=>?_)
    (λb o hb e=>⟨o,up b o hb e⟩) (λb q e=>by rw[aH (nT e)];exact e) (λb o q e=>by rw[aH (nT e)];exact e) (λb q e=>⟨#[],by rw[aH (nT e),e];simp⟩) (λm hm=>?_) (λb o e=>?_) I.bare
   ·obtain ⟨_,f1,_,f3,f4,f5⟩:=fx b hb;exact ⟨f3,f1,f4,f5⟩
   ·rw[aH (aU (Heap.lt_size e))];exact n
   ·obtain ⟨o,es,ep,ho,r⟩:=hm;exact ⟨o,es,ep,up _ o (λz=>(fx _ z).2.1 rfl) ho,r⟩
   ·by_cases hb:b=s.heap.objs.size
    ·subst hb;rw[ay] at e;cases e;exact ⟨mN rfl,[u,v],.cons ru (.cons rv .nil),⟨_,tup,rfl,_,rfl⟩⟩
    ·rw[aH hb] at e;refine (I.hok b o e).stay (λc v' hc q=>up c v' ?_ q) (λc q=>by rw[aH (nT q)];exact q) λc xs q=>by rw[aH (nT q)];exact q
     rcases hc with rfl | hc
     ·exact nx _ _ e
     ·exact nx _ _ hc
  refine ⟨.ref s.heap.objs.size,_,I2,rfl,⟨_,x,y,rfl,hT0,rfl,λxs' q=>by rw[I.list_inj q qx];exact ex,λys' q=>by rw[I.list_inj q qy];exact ey⟩,?_,λb hb=>?_⟩
  ·refine ⟨hz'',(hs.2 _ D.TIz).trans (hk _ _ D.TIz D.TITO D.TIi1 D.TIi2 hTI),⟨_,_,(hs.2 _ D.TOz).trans a2⟩,a3.at λo e=>(hs.2 _ D.i1z).trans e,a4.at λo e=>(hs.2 _ D.i2z).trans e⟩
  ·obtain ⟨o,e,_⟩:∃o,s.heap.get? b=some o/\True:=by
    obtain ⟨o1,g1,_⟩:=h1;obtain ⟨o2,g2,_⟩:=h2;simp only[aA,be,or_false] at hb;rcases hb with rfl | rfl | rfl | rfl | rfl
    ·exact ⟨_,hz,trivial⟩
    ·exact ⟨_,hTI,trivial⟩
    ·exact ⟨_,hTO,trivial⟩
    ·exact ⟨_,g1,trivial⟩
    ·exact ⟨_,g2,trivial⟩
   rw[aH (aU (Heap.lt_size e))];exact (hf b hb).1
 done:=by
  intro X hP hw hK hc i pins s σ H E I hf st hg;subst hP hw hK;obtain ⟨hz,hTI,⟨a,c,hTO⟩,h1,h2⟩:=st;obtain ⟨xs,ys,qx,qy,hend⟩:=hg;obtain ⟨us,rx,px,_⟩:=I.list qx;obtain ⟨ws,ry,py,_⟩:=I.list qy;have lx:=rx.length;have ly:=ry.length;have D:=qr hz hTI hTO h1 h2 px.isList py.isList hT hi
  refine wpAny_pyNext_zip_end (I.ok.hd hc) D hz hTI hTO h1 h2 px.isList py.isList (by
   rcases hend with q | q
   ·exact .inl (by simp;lia)
   ·exact .inr (by simp;lia)) λh' hk=>⟨rfl,?_⟩
  have up:∀b o,b∉[z,TO,i1,i2]->s.heap.get? b=some o->h'.get? b=some o:=λb o hb e=>by
   simp only[aA,be,or_false,not_or] at hb;exact hk b o hb.1 hb.2.1 hb.2.2.1 hb.2.2.2 e
  have fx:∀b∈[z,TO,i1,i2],kH X pins H b:=λb hb=>hf b (by
   simp only[aA,be,or_false] at hb ⊢;rcases hb with rfl | rfl | rfl | rfl <;> simp)
  have nx:∀b o,H b=some o->b∉[z,TO,i1,i2]:=λb o e hb=>by
   have:=(fx b hb).1;rw[this] at e;cases e
  refine I.step (g':=s.gens) (d':=s.drawn) (t':=s.toks) (ch:=[z,TO,i1,i2]) (λb hb=>?_) (λb o _ _ hb e _=>up b o hb e) (λb o _ _ hb e _=>⟨o.slots,up b o hb e⟩) (λb o hb e n=>n)
   (λb o hb e=>⟨o,up b o hb e⟩) (λb q e=>e) (λb o q e=>e) (λb q e=>⟨#[],by rw[e];simp⟩) (λm hm=>?_) (λb o e=>?_) I.bare
  ·obtain ⟨_,f1,_,f3,f4,f5⟩:=fx b hb;exact ⟨f3,f1,f4,f5⟩
  ·obtain ⟨o,es,ep,ho,r⟩:=hm;exact ⟨o,es,ep,up _ o (λz=>(fx _ z).2.1 rfl) ho,r⟩
  ·refine (I.hok b o e).stay (λc v' hc q=>up c v' ?_ q) (λc q=>q) λc xs q=>q
   rcases hc with rfl | hc
   ·exact nx _ _ e
   ·exact nx _ _ hc
 self:=λ_ _ _ _ _ st h=>wpAny_pyIter_zip st.1 h
section
variable {X:Cx}
def BP (K:FG9) (ta:TA):TI:=λσ H R=>ta σ H λvs H1=>∃l1 l2,vs=[.ref l1,.ref l2]/\(∃xs,bL K H1 l1 xs)/\(∃ys,bL K H1 l2 ys)/\R (CA K l1 l2) H1
theorem y8 {a b:Expr} {ta:TA} {p pos tpos:Pos} {elts:List Expr} {kk:Nat} (hg:Gl X "zip") (hm:X.mg "zip"=none) (ha:PA X [a,b] ta) (hs:starEach [a,b] X.env=[(false,eval a X.env),(false,eval b X.env)]:=by rfl) (hs2:starEach [b] X.env=[(false,eval b X.env)]:=by rfl) :
  PI X (.Tuple elts kk tpos) (.Call (.Name "zip" p) [a,b] [] pos) (BP X.K ta):=by
 intro pins s σ H R I h;refine Call_ (iH I hg hm boot_zip (PyProof.Rows.callWith_type1 (dJ (ha pos pins s σ H _ I h) λus s1 ⟨vs,H1,I1,r1,q1⟩=>?_) (by rw[hs,hs2]) (by rw[hs2];rfl)));obtain ⟨l1,l2,e,⟨xs,qx⟩,⟨ys,qy⟩,q⟩:=q1;subst e;obtain ⟨u,v,rfl,ru,rv⟩:=vals2 r1;cases ru;cases rv;obtain ⟨us,rx,px,_⟩:=I1.list qx;obtain ⟨ws,ry,py,_⟩:=I1.list qy;refine call_zip_2 px.isList py.isList λh' a1 a2 a3 a4 a5 a6 hk=>wpAny_pyIter_zip a1 ?_
 have I2:Inv X pins σ H1 { s1 with heap:=h' }:=I1.kept (t':=s1.toks) hk;refine ⟨_,[s1.heap.objs.size+4,s1.heap.objs.size+2,s1.heap.objs.size+3,s1.heap.objs.size,s1.heap.objs.size+1],_,_,H1,rfl,I2,wz (s1.heap.objs.size+4) (s1.heap.objs.size+2) (s1.heap.objs.size+3) s1.heap.objs.size (s1.heap.objs.size+1) l1 l2 (aU (gJ _)) (aU (gJ _)),⟨a1,a2,⟨_,_,a3⟩,a4,a5⟩,λb hb=>?_,q⟩
 have hb':s1.heap.objs.size<=b:=by
  simp only[aA,be,or_false] at hb;rcases hb with rfl | rfl | rfl | rfl | rfl <;> first | exact Nat.le_add_right _ _ | exact av _
 exact I1.fpOk hb' (I1.hok.fresh hb')
theorem tS (hc:X.calm=true):mi X (.builtin "all") (λxs H Q=>∃(p:Addr) (bs:List Bool),xs=[.ref p]/\bL X.K H p (bs.map V.bl)/\Q (.bl (bs.all id)) H):=by
 intro pins s σ H xs us Q I r h;obtain ⟨p,bs,rfl,hp,q⟩:=h;obtain ⟨u,rfl,ru⟩:=vals1 r;cases ru;obtain ⟨vs,rv,pl,hz⟩:=I.list hp
 have hb:PyProof.Rows.LSm.BoolsAre vs bs:=by
  clear q hp pl hz
  induction bs generalizing vs with
  | nil=>cases rv;exact .nil
  | cons b bs ih =>
   rw[gY] at rv;cases rv with
   | cons r1 r2=>cases r1;exact .cons b (ih _ r2)
 have hlt:p < s.heap.objs.size:=by obtain ⟨_,e,_⟩:=pl.isList;exact Heap.lt_size e
 refine call_all_walk (wpAny_pyIter_list pl.isList ?_)
 refine ⟨s.heap.objs.size,[s.heap.objs.size,p],[s.heap.objs.size],vs.toArray.size,_,_,λi=>(bs[i]?).getD true,rfl,Walks.list (A:=X.A.in1) (I.ok.hd hc) _ p (aU hlt) vs.toArray,
  ⟨⟨_,Heap.get?_push_size _ rfl,rfl,rfl⟩,pl.isList.push _⟩,λi v s' Q' E' hP hQ=>?_,λh' tk hk=>?_⟩
 ·obtain ⟨b,e,rfl⟩:=hb.get i v (by simpa using hP);simp only[e,Option.getD_some] at hQ;exact wpAny_truthy_bool hQ
 ·have e:((List.range vs.toArray.size).all λi=>(bs[i]?).getD true)=bs.all id:=by
   rw[ax,hb.length];exact PyProof.Rows.LSm.range_all bs
  rw[e];exact ⟨.bl _,H,I.kept (t':=tk) (PyProof.Rows.LSm.kept_iter hk),rfl,q⟩
theorem tR (hc:X.calm=true):mi X (.builtin "sum") (λxs H Q=>∃(p:Addr) (ns:List Int),xs=[.ref p]/\bL X.K H p (ns.map V.int)/\Q (.int ns.sum) H):=by
 intro pins s σ H xs us Q I r h;obtain ⟨p,ns,rfl,hp,q⟩:=h;obtain ⟨u,rfl,ru⟩:=vals1 r;cases ru;obtain ⟨vs,rv,pl,_⟩:=I.list hp;have hi:IntsAre vs ns:=intsAre_of rv;obtain ⟨xs,hx⟩:=hi.allInts.items;have hl':s.heap.IsList p (intItems xs):=hx ▸ pl.isList;refine sum_intListG (I.ok.hd hc) hl' λh' tk t' hk=>?_
 have e1:ns=xs.toList.map (·.1):=by
  rw[<- nums_intItems,<- hx];exact (show numsOf vs.toArray.toList=ns from hi.numsOf).symm
 have e2:preSum (numAt xs) xs.size=ns.sum:=by
  rw[preSum_eq,aJ (by simp),e1]
 rw[e2];exact ⟨.int _,H,I.kept (t':=tk) hk,⟨_,rfl⟩,q⟩
end
section
variable {K:FG9} {l1 l2:Addr} {xs ws:List V} {g:TG} {tf:TT} {te:TE} {Q:VK} {σ₀:St} {H:Hp}
theorem xN (Pv:Nat->List V->Hp->Prop) (hz:xs.length<=sizeLine) (hw:ws.length=xs.length) (h0:Pv 0 [] H) (hl:∀i ys H,i<=xs.length->Pv i ys H->bL K H l1 xs/\bL K H l2 ws)
  (hs:∀i x y ys H p,xs[i]?=some x->ws[i]?=some y->ys.length<=i->Pv i ys H->H p=none->lQ σ₀ g tf te (.ref p) (upd H p (.tup [x,y])) (λy H'=>Pv (i+1) (ys++[y]) H') (λH'=>Pv (i+1) ys H'))
  (hd:∀ys H,ys.length<=xs.length->Pv xs.length ys H->∀p,H p=none->Q (.ref p) (upd H p (.lst ys))):mh (CA K l1 l2) σ₀ g tf te Q H:=by
 refine ⟨λi m ys H=>m=xs.length - i/\i<=xs.length/\ys.length<=i/\Pv i ys H,⟨xs.length,by simp,bq _,bq _,h0⟩,?_⟩;rintro i m ys H ⟨rfl,hi,hy,p⟩;obtain ⟨q1,q2⟩:=hl i ys H hi p;by_cases hlt:i < xs.length
 ·refine .inr ⟨⟨xs,ws,xs[i],ws[i]'(by lia),q1,q2,by simp [hlt],by simp⟩,by lia,λy H'=>Pv (i+1) (ys++[y]) H',λH'=>Pv (i+1) ys H',λy H' p'=>⟨xs.length - (i+1),by lia,rfl,hlt,by rw[bx,dA];lia,p'⟩,λH' p'=>⟨xs.length - (i+1),by lia,rfl,hlt,by lia,p'⟩,λx H' y=>?_⟩;obtain ⟨r,x',y',rfl,hr,rfl,e1,e2⟩:=y;exact hs i x' y' ys _ r (e1 xs q1) (e2 ws q2) hy p hr
 ·have e:i=xs.length:=by lia
  subst e;exact .inl ⟨⟨xs,ws,q1,q2,.inl (av _)⟩,by lia,hd ys H hy p⟩
end
section
variable {X:Cx}
theorem oK (K:FG9) (n:Nat) {es:List Expr} {k:Nat} {pos:Pos} {t:yd} (h:Ck X es t) (hK:X.K=K:=by rfl) (hc:X.calm=true:=by rfl)
  (hn:(assignEach es X.env).length=n:=by rfl) (hst:(assignEach es X.env).findIdx? (·.1)=none:=by rfl):PG X (.Tuple es k pos) (AS K n t):=by subst hK;exact uu hc h hn hst
theorem oN (K:FG9) (hK:X.K=K):Cq X (Aw K):=by subst hK;exact cb
theorem pQ (K:FG9) (hK:X.K=K):Cq X (Ax K):=by subst hK;exact bH
end
theorem cA {X:Cx} {e e':Expr} {es:List Expr} {te:TE} {t:TA} (h:e=e') (ha:PE X e' te) (hr:PA X es t) (hs:∀l,starEach (e' :: l) X.env=(false,eval e' X.env) :: starEach l X.env:=by intro _;rfl):PA X (e :: es) (kK te t):=by subst h;exact aa ha hr (hs _)
section
variable {σ:St} {H:Hp} {D:Ends} {Q:VK}
theorem nN {l:Addr} {xs:List V} {y:V} (hl:H l=some (.lst xs)) (hz:xs.length < sizeLine) (h:Q .non (upd H l (.lst (xs++[y])))):u0 (.ref l) [y] H Q:=⟨l,xs,y,rfl,rfl,hl,hz,h⟩
theorem yK {K:FG9} {ta:TA} {R:It->Hp->Prop} (h:ta σ H λvs H1=>∃l1 l2,vs=[.ref l1,.ref l2]/\(∃xs,bL K H1 l1 xs)/\(∃ys,bL K H1 l2 ys)/\R (CA K l1 l2) H1):BP K ta σ H R:=h
theorem As {l b:Addr} {xs zs:List V} (h1:H l=some (.lst xs)) (h2:H b=some (.lst zs)) (hz:xs.length+zs.length<=sizeLine) (h:∀p H',az H H'->H p=none->H' p=some (.lst (xs++zs))->Q (.ref p) H'):BI (.ref l) (.ref b) H Q :=
 ⟨l,b,xs,zs,rfl,rfl,h1,h2,hz,λp hp=>h p _ (az.new hp) hp ay⟩
theorem kT {α:Type} {xs:List α} {i:Int} (h0:0<=i) (h1:i < xs.length):∃v,t5 xs i=some v/\v∈xs/\xs[i.toNat]?=some v:=by
 have hj:i.toNat < xs.length:=by lia
 refine ⟨xs[i.toNat],?_,bB hj,by simp [hj]⟩;have:=ke (xs:=xs) (j:=i.toNat) (v:=xs[i.toNat]) (by simp [hj]);rwa [Int.toNat_of_nonneg h0] at this
end
theorem dy {α β:Type} {F:α->β->Prop}:∀{l1:List α} {l2:List β} {y:β},Paired F l1 l2->y∈l2->∃x∈l1,F x y
 | _,_,_,.nil,h=>nomatch h
 | _,_,_,.cons r t,h=>by
  rcases aA.mp h with rfl | h
  ·exact ⟨_,bS,r⟩
  ·obtain ⟨x,hx,q⟩:=dy t h;exact ⟨x,aP _ hx,q⟩
theorem dm {α β:Type} {F:α->β->Prop} {l1:List α} {l2:List β} {i:Nat} {y:β} (h:Paired F l1 l2) (e:l2[i]?=some y):∃x,l1[i]?=some x/\F x y:=by
 have hl:=h.length;have hi:i < l2.length:=(aG.mp e).1;refine ⟨l1[i]'(by lia),by simp,?_⟩;have:=iD h (i:=i) (by lia) hi;have e2:l2[i]=y:=(aG.mp e).2;rwa [e2] at this
def p5 (n:Int×Int):Prop:=0 < n.2/\Int.gcd n.1 n.2=1/\Sz 8000 n.1/\Sz 8000 n.2
theorem take_snoc {α:Type} {l:List α} {i:Nat} {v:α} (h:l[i]?=some v):l.take (i+1)=l.take i++[v]:=by rw[List.take_add_one,h];rfl
theorem az.after {H H':Hp} {r:Addr} {o:HO} (s:az H H') (h:H r=Option.none):az H (upd H' r o):=λb u e=>by rw[aH (df e h)];exact s b u e
theorem bR.after {H H':Hp} {b r:Addr} {o:HO} (s:bR b H H') (h:H r=Option.none):bR b H (upd H' r o):=⟨λc u e n=>by rw[aH (df e h)];exact s.1 c u e n,λq hi=>(s.2 q hi).upd λz=>by obtain ⟨_,_,_,e⟩:=hi;rw[<- z,h] at e;cases e⟩
theorem bR.same {H H' H'':Hp} {b:Addr} (s:bR b H H') (e:az H' H''):bR b H H'':=s.trans e.upto
theorem vz {α:Type} {Pr:α->Prop} {l:List α} {a:α} (h:∀n∈l,Pr n) (ha:Pr a):∀n∈l++[a],Pr n:=λn hn=>by
 rcases aD.mp hn with hn | hn
 ·exact h n hn
 ·have e:n=a:=by simpa using hn
  rw[e];exact ha
section
variable {X:Cx} {pins:List (Addr×Obj)} {σ:St} {H:Hp} {s:Shared}
theorem Inv.moved {h':Heap} {ch:List Addr} {g':Array GenState} {d':Drawn} {t':Nat} (I:Inv X pins σ H s) (fx:∀b∈ch,kH X pins H b) (up:∀b o,b∉ch->s.heap.get? b=some o->h'.get? b=some o) (hg:AllBare g') :
  Inv X pins σ H { s with heap:=h',gens:=g',drawn:=d',toks:=t' }:=by
 have nx:∀b o,H b=some o->b∉ch:=λb o e hb=>by have:=(fx b hb).1;rw[this] at e;cases e
 refine I.step (ch:=ch) (λb hb=>?_) (λb o _ _ hb e _=>up b o hb e) (λb o _ _ hb e _=>⟨o.slots,up b o hb e⟩) (λb o hb e n=>n) (λb o hb e=>⟨o,up b o hb e⟩) (λb q e=>e) (λb o q e=>e) (λb q e=>⟨#[],by rw[e];simp⟩) (λm hm=>?_) (λb o e=>?_) hg
 ·obtain ⟨_,f1,_,f3,f4,f5⟩:=fx b hb;exact ⟨f3,f1,f4,f5⟩
 ·obtain ⟨o,es,ep,ho,r⟩:=hm;exact ⟨o,es,ep,up _ o (λz=>(fx _ z).2.1 rfl) ho,r⟩
 ·refine (I.hok b o e).stay (λc v' hc q=>up c v' ?_ q) (λc q=>q) λc xs q=>q
  rcases hc with rfl | hc
  ·exact nx _ _ e
  ·exact nx _ _ hc
theorem Inv.track {p:Addr} {o:HO} (I:Inv X pins σ H s) (fp:kH X pins H p) (new:fg X.prog X.w (upd H p o) s.heap p o):Inv X pins σ (upd H p o) s:=by
 have nt:∀{b:Addr} {u:HO},H b=some u->b≠p:=λe z=>by rw[z,fp.1] at e;cases e
 refine I.step (h':=s.heap) (g':=s.gens) (d':=s.drawn) (t':=s.toks) (ch:=[p]) (λb hb=>?_) (λb o _ _ _ e _=>e) (λb o _ _ _ e _=>⟨o.slots,e⟩) (λb o hb e n=>?_) (λb o _ e=>⟨o,e⟩) (λb q e=>by rw[aH (nt e)];exact e) (λb o q e=>by rw[aH (nt e)];exact e)
  (λb q e=>⟨#[],by rw[aH (nt e),e];simp⟩) (λm hm=>hm) (λb u e=>?_) I.bare
 ·have e:b=p:=by simpa using hb
  subst e;obtain ⟨_,f1,_,f3,f4,f5⟩:=fp;exact ⟨f3,f1,f4,f5⟩
 ·rw[aH λz=>hb (by simp [z])];exact n
 ·by_cases hb:b=p
  ·subst hb;rw[ay] at e;cases e;exact new
  ·rw[aH hb] at e;exact (I.hok b u e).stay (λc v _ q=>q) (λc q=>by rw[aH (nt q)];exact q) λc xs q=>by rw[aH (nt q)];exact q
end
end L2
namespace Nm
def nR:List Int->Int->Int
 | [],m=>m
 | b :: r,m=>nR r (m*(b / g m b))
theorem mZ {m b:Int} (hm:0 < m) (hb:0 < b):0 < m*(b / g m b):=ya hm (rY (t:=m) hb)
theorem rT {m b : Int} : b ∣ m * (b / g m b) := by
  have h1 := pO m b;refine ⟨lo m b, ?_⟩;have h2 : b / g m b * g m b = b := nV m b
  calc m * (b / g m b) = lo m b * g m b * (b / g m b) := by rw [h1]
    _ = lo m b * (b / g m b * g m b) := by rw [bX, dj (g m b)]
    _ = b * lo m b := by rw [h2, dj]
theorem tK:∀{bs:List Int} {m:Int},0 < m->(∀b∈bs,0 < b)->0 < nR bs m
 | [],_,hm,_=>hm
 | b :: r,m,hm,h=>tK (bs:=r) (mZ hm (h b bS)) λc hc=>h c (aP _ hc)
theorem tN:∀{bs:List Int} {m:Int},m∣nR bs m
 | [],_=>Int.dvd_refl _
 | b :: r,m=>Int.dvd_trans (Int.dvd_mul_right m _) (tN (bs:=r))
theorem tL:∀{bs:List Int} {m b:Int},b∈bs->b∣nR bs m
 | c :: r,m,b,h=>by
  rcases aA.mp h with rfl | h
  ·exact Int.dvd_trans rT (tN (bs:=r))
  ·exact tL (bs:=r) h
end Nm
namespace L2
open PySem PySem.Spec PyProof.Rows Nm
def zx (K:FG9) (H:Hp) (p:Addr) (ns:List (Int×Int)):Prop:=∃xs,H p=some (.lst xs)/\Paired (λn x=>tX K H x n) ns xs
def tu (K:FG9) (T:String):V->Hp->VK->Prop:=λx H Q=>vR K T x H Q\/∃a xs b,x=.ref a/\lO K H a xs/\PySem.W.kitOne K (.type "tuple") (.type T)=some b/\Q (.bl b) H
theorem qL:∀{bs:List Int} {m b:Int},nR (bs++[b]) m=nR bs m*(b / g (nR bs m) b)
 | [],_,_=>rfl
 | c :: r,m,b=>qL (bs:=r)
def mK (ns:List (Int×Int)) (B:Int):List Int:=ns.map λn=>n.1*(B / n.2)
def xS (ns:List (Int×Int)):Int:=nR (ns.map (·.2)) 1
theorem xR {ns:List (Int×Int)} {n:Int×Int} (h:n∈ns):n.2∣xS ns:=tL (aN.mpr ⟨n,h,rfl⟩)
theorem CQ {m b:Int} (hb:0 < b) {k:Nat} (h:Sz k b):Sz k (g m b):=h.le (by
 have h1:(g m b).natAbs=Int.gcd m b:=by unfold g;simp
 rw[h1];exact fm (by lia) (by have:=de (a:=m) (b:=b);exact bW.mpr this |> λz=>by simpa using z))
def vN (K:FG9):Sp:=λvs H Q _=>∃x n,vs=[x]/\tX K H x n/\p5 n/\∀H',az H H'->Q (.bl true) H'
inductive nH (K:FG9) (vs:List V) (H:Hp) (Q:VK) (E9:XK):Prop
 | mk (p:Addr) (ns:List (Int×Int)):vs=[.ref p,.int ns.length]->zx K H p ns->ns.length<=1000->(∀n∈ns,p5 n)->(∀H',az H H'->Q (.bl true) H')->nH K vs H Q E9
theorem oM {X:Cx} {a:Expr} {ta:TE} {pos:Pos} {c:Str} {T:String} {p p2:Pos} (hg:Gl X "isinstance") (hm:X.mg "isinstance"=none) (hb:bootBuiltins c=some (.type T)) (hmc:X.mg c=none) (ha:PE X a ta) (hgc:Gl X c:=by rfl) (hn:c≠"__name__":=by decide)
  (hd:(c == ("__debug__":Str))=false:=by decide) (he:starEach [a,.Name c p2] X.env=[(false,eval a X.env),(false,eval (.Name c p2) X.env)]:=by rfl)
  (hpl:(backTo pos (starEach [.Name c p2] X.env)).any (·.1)=false:=by rfl) (he2:starEach [.Name c p2] X.env=[(false,eval (.Name c p2) X.env)]:=by rfl):PE X (.Call (.Name "isinstance" p) [a,.Name c p2] [] pos) (Ct (tu X.K T) ta):=by
 intro pins s σ H Q I h;refine wpAny_Call_Name_kw (iH I hg hm PyProof.Rows.boot_isinstance ?_);have hA:PA X [a,.Name c p2] (kK ta (kK (tC (.ty T)) vI)):=aa ha (aa (vb hgc hmc hb rfl hn hd) ag he2) (by rw[he,he2])
 have hq:kK ta (kK (tC (.ty T)) vI) σ H (λvs H1=>∃x,vs=[x,.ty T]/\tu X.K T x H1 Q):=by
  show ta σ H λx H1=>∃x',[x,V.ty T]=[x',V.ty T]/\tu X.K T x' H1 Q
  have e:(λx H1=>∃x',[x,V.ty T]=[x',V.ty T]/\tu X.K T x' H1 Q)=λx H1=>tu X.K T x H1 Q:=by
   funext x H1;apply propext;constructor
   ·rintro ⟨x',e,q⟩;cases e;exact q
   ·intro q;exact ⟨x,rfl,q⟩
  rw[e];exact h
 refine PyProof.Rows.callWith_builtin1 (dJ (hA pos pins s σ H _ I hq) λus s1 ⟨vs,H1,I1,r1,x,e,q1⟩=>?_) (by rw[he,he2]) hpl;subst e;obtain ⟨u,w',rfl,ru,rt⟩:=vals2 r1;cases rt;rcases q1 with ⟨t,bb,ty,ek,q⟩ | ⟨ad,xs,bb,rfl,hs,ek,q⟩
 ·exact qM I1 ru ty ek λtk=>⟨.bl bb,H1,I1.tok tk,rfl,q⟩
 ·cases ru;obtain ⟨its,_,⟨o,g1,g2,_⟩,_⟩:=I1.tuple hs;exact bT PySem.W.kitx_tuple I1.kIn ⟨o,g1,g2⟩ ek (λz=>nomatch z) λtk=>⟨.bl bb,H1,I1.tok tk,rfl,q⟩
theorem AX {j:Nat} {x y:Int} (h1:Sz j x) (h2:Sz j y):Sz (j+1) (x+y):=by
 unfold Sz at *
 have:=jA x y;rw[eI]
 lia
theorem Af {H:Hp} {Q:VK} {l:Addr} {k:Nat} {x:V} (h:H l=some (.lst [x])) (hk:k<=1000) (q:∀p H',az H H'->H p=none->H' p=some (.lst (List.replicate k x))->Q (.ref p) H'):BH (.ref l) (.int k) H Q :=
 ⟨l,k,[x],rfl,rfl,h,by lia,by lia,bu (bF (by simp;lia)),λp hp=>q p _ (az.new hp) hp (by rw[ay];simp)⟩
theorem pz {α β:Type} {F:α->β->Prop} {x:α} {y:β} (h:F x y):∀m:Nat,Paired F (List.replicate m x) (List.replicate m y)
 | 0=>.nil
 | m+1=>.cons h (pz h m)
theorem fB {n a:Nat} (h:a < n):wm n (a:Int)=some a:=by
 unfold wm;rw[if_pos (by lia),if_pos (by lia),Int.toNat_natCast]
theorem wJ {j:Nat}:∀{l:List Int},(∀v∈l,Sz j v)->Sz (j+l.length) l.sum
 | [],_=>ik _
 | v :: r,h=>by
  rw[cg,b6];exact AX (j:=j+r.length) ((h v (.head _)).mono (by lia)) (wJ λu hu=>h u (.tail _ hu))
def yW (K:FG9):List V->Hp->VK->Prop:=λxs H Q=>∃p ys,xs=[.ref p]/\(bL K H p ys\/lO K H p ys)/\∀l,H l=none->Q (.ref l) (upd H l (.lst ys))
theorem ma {X:Cx} (K:FG9) (hK:X.K=K):mi X (.type "list") (yW K):=by subst hK;exact sA
theorem az.none {H H':Hp} {l:Addr} (s:az H H') (h:H' l=Option.none):H l=Option.none:=by
 cases e:H l with
 | none=>rfl
 | some o=>have:=s _ _ e;rw[h] at this;cases this
theorem wH {b:Int} (h:b.natAbs<=1000000):Sz 20 b:=aK h (by decide)
theorem bR.none {H H':Hp} {b l:Addr} (u:bR b H H') (B:fH H' b) (h:H' l=Option.none):H l=Option.none:=by
 cases e:H l with
 | none=>rfl
 | some o =>
  by_cases z:l=b
  ·obtain ⟨_,_,_,_,_,e2,_⟩:=B;rw[<- z,h] at e2;cases e2
  ·have:=u.1 l o e z;rw[h] at this;cases this
end L2
namespace Nm
def nm (q:Rat):Int×Int:=(q.num,(q.den:Int))
theorem jE (q:Rat):0 < (nm q).2:=by have:=q.den_pos;show 0 < (q.den:Int);lia
theorem rQ (q:Rat):Int.gcd (nm q).1 (nm q).2=1:=q.reduced
theorem AI {p q:Rat} (h:nm p=nm q):p=q:=by
 have h1:p.num=q.num:=congrArg Prod.fst h;have h2:(p.den:Int)=q.den:=congrArg Prod.snd h;exact Rat.ext h1 (by lia)
theorem lD (q : Rat) : (q.num : Rat) = q * (q.den : Rat) := by
  have h := Rat.num_divInt_den q;rw [Rat.divInt_eq_div] at h
  have hd : ((q.den : Int) : Rat) ≠ 0 := by
    intro z;have z := cZ.mp z;have := q.den_pos
    lia
  have e : ((q.den : Int) : Rat) = (q.den : Rat) := bA _
  calc (q.num : Rat) = (q.num : Rat) / ((q.den : Int) : Rat) * ((q.den : Int) : Rat) := (Rat.div_mul_cancel hd).symm
    _ = q * (q.den : Rat) := by rw [h, e]
theorem BK {a b:Int} {q:Rat} (hb:0 < b) (hg:Int.gcd a b=1) (e:q*(b:Rat)=(a:Rat)):(a,b)=nm q:=by
 have h1:a*(q.den:Int)=q.num*b:=by
  apply fk.mp;rw[aF,aF,<- e,lD,bA];grind
 obtain ⟨e1,e2⟩:=uniq hb (jE q) hg (rQ q) h1;exact Prod.ext e1 e2
theorem rR {t b:Int} {q:Rat} (hb:0 < b) (e:q*(b:Rat)=(t:Rat)):(lo t b,hi t b)=nm q:=by
 refine BK (rY hb) (pM (by lia)) ?_;have h:=pN t b;have hb':(b:Rat)≠0:=λz=>by have:=cZ.mp z;lia
 have h2:((lo t b:Int):Rat)*(b:Rat)=(t:Rat)*((hi t b:Int):Rat):=by rw[<- aF,h,aF]
 rw[<- e] at h2;have h3:(q*((hi t b:Int):Rat) - ((lo t b:Int):Rat))*(b:Rat)=0:=by grind
 rcases Rat.mul_eq_zero.mp h3 with h4 | h4
 ·grind
 ·exact absurd h4 hb'
def Fr (M V:Nat) (q:Rat):Prop:=∃z:Int,q*(M:Rat)=(z:Rat)/\z.natAbs<=V*M
theorem Fr.mono {M V V':Nat} {q:Rat} (h:Fr M V q) (l:V<=V'):Fr M V' q:=by obtain ⟨z,e,b⟩:=h;exact ⟨z,e,ah b (aL _ l)⟩
theorem Fr.scale {M V:Nat} {q:Rat} (h:Fr M V q) (k:Nat):Fr (M*k) V q:=by
 obtain ⟨z,e,b⟩:=h;refine ⟨z*k,?_,?_⟩
 ·rw[qd,aF,<- e,bA,A8]
 ·rw[cw,bZ,<- dr];exact aL _ b
theorem Fr.scaleL {M V:Nat} {q:Rat} (h:Fr M V q) (k:Nat):Fr (k*M) V q:=by rw[dS];exact h.scale k
theorem Fr.dvd {M N V:Nat} {q:Rat} (h:Fr M V q) (d:M∣N):Fr N V q:=by obtain ⟨k,rfl⟩:=d;exact h.scale k
theorem Fr.add {M V W:Nat} {p q:Rat} (h:Fr M V p) (h':Fr M W q):Fr M (V+W) (p+q):=by
 obtain ⟨z,e,b⟩:=h;obtain ⟨z',e',b'⟩:=h';refine ⟨z+z',by rw[kI,<- e,<- e',Rat.add_mul],?_⟩;rw[Nat.add_mul];have:=jA z z'
 lia
theorem Fr.mul {M N V W : Nat} {p q : Rat} (h : Fr M V p) (h' : Fr N W q) : Fr (M * N) (V * W) (p * q) := by
  obtain ⟨z, e, b⟩ := h;obtain ⟨z', e', b'⟩ := h';refine ⟨z * z', ?_, ?_⟩
  · rw [qd, aF, <- e, <- e']; grind
  · rw [cw]
    calc z.natAbs * z'.natAbs ≤ (V * M) * (W * N) := aY b b'
      _ = V * W * (M * N) := by rw [dr, Nat.mul_left_comm M, <- dr]
theorem Fr.zero {M V:Nat}:Fr M V 0:=⟨0,by simp,by simp⟩
theorem Fr.int {M V:Nat} {i:Int} (h:i.natAbs<=V):Fr M V (i:Rat):=⟨i*M,by rw[aF,bA],by rw[cw,bZ];exact aL _ h⟩
theorem Fr.den {M V:Nat} {q:Rat} (h:Fr M V q):(q.den:Int)∣(M:Int):=by
 obtain ⟨z,e,b⟩:=h
 have h1:q.num*(M:Int)=z*(q.den:Int):=by
  apply fk.mp;rw[aF,aF,<- e,lD,bA,bA];grind
 have h2:(q.den:Int)∣q.num*(M:Int):=⟨z,by rw[h1,dj]⟩;exact jX (by rw[gM];exact rQ q) h2
theorem Fr.den_le {M V:Nat} {q:Rat} (h:Fr M V q) (hM:0 < M):q.den<=M:=fm hM (oE.mp h.den)
theorem Fr.num_le {M V:Nat} {q:Rat} (h:Fr M V q) (hM:0 < M):q.num.natAbs<=V*M:=by
 have hd:=h.den;obtain ⟨z,e,b⟩:=h;obtain ⟨k,hk⟩:=oE.mp hd;have hk0:k≠0:=λz=>by rw[z,Nat.mul_zero] at hk;lia
 have h1:z=q.num*(k:Int):=by
  apply fk.mp;rw[aF,<- e,lD,bA,hk,qd];grind
 rw[h1] at b;exact ah (jF (by lia)) b
theorem Fr.own (q:Rat) {V:Nat} (h:q.num.natAbs<=V):Fr q.den V q:=⟨q.num,(lD q).symm,ah h (dc _ q.den_pos)⟩
theorem Fr.sz {M V k j:Nat} {q:Rat} (h:Fr M V q) (hM:0 < M) (h1:M<=2^k) (h2:V<=2^j):Sz (j+k+1) (nm q).1/\Sz (k+1) (nm q).2:=by
 constructor
 ·show q.num.natAbs < 2^(j+k+1)
  have h3:=h.num_le hM;have h4:V*M<=2^j*2^k:=aY h2 h1;rw[eI,cC];have:=ik (j+k);rw[cC] at this
  lia
 ·show (q.den:Int).natAbs < 2^(k+1)
  have h3:=h.den_le hM;rw[bZ,eI];have:=ik k
  lia
theorem Fr.sum {M V:Nat}:∀{l:List Rat},(∀x∈l,Fr M V x)->Fr M (l.length*V) l.sum
 | [],_=>by simp;exact Fr.zero
 | x :: r,h=>by
  rw[cg,b6,jx,Nat.add_comm];exact (h x (.head _)).add (Fr.sum λy hy=>h y (.tail _ hy))
def kG (xs ys:List Rat):Rat:=(List.zipWith (·*·) xs ys).sum
theorem Fr.dot {M N V W : Nat} {xs ys : List Rat} (h : ∀ x ∈ xs, Fr M V x) (h' : ∀ y ∈ ys, Fr N W y) : Fr (M * N) (xs.length * (V * W)) (kG xs ys) := by
  have q := Fr.sum (M := M * N) (V := V * W) (l := List.zipWith (· * ·) xs ys) λz hz => by
    obtain ⟨i, hi, e⟩ := eh hz;rw [kF] at e;rw [<- e];exact (h _ (bB _)).mul (h' _ (bB _))
  exact q.mono (aL _ (by rw [gV]; lia))
theorem m3 : ∀ {bs : List Int} {m M : Int}, 0 < m → m ∣ M → (∀ b ∈ bs, 0 < b /\ b ∣ M) → nR bs m ∣ M
  | [], _, _, _, h, _ => h
  | b :: r, m, M, hm, h, hb => by
    have b1 := hb b bS;refine m3 (bs := r) (mZ hm b1.1) ?_ λc hc => hb c (aP _ hc)
    have gp : 0 < g m b := pR (by lia);have e1 := pO m b;have e2 := nV m b;obtain ⟨u, hu⟩ := h;obtain ⟨v, hv⟩ := b1.2
    have h3 : lo m b * u = hi m b * v := by
      apply mm (show g m b ≠ 0 by lia)
      calc lo m b * u * g m b = lo m b * g m b * u := by rw [bX, dj u, <- bX]
        _ = m * u := by rw [e1]
        _ = M := hu.symm
        _ = b * v := hv
        _ = hi m b * g m b * v := by rw [e2]
        _ = hi m b * v * g m b := by rw [bX, dj (g m b), <- bX]
    have h4 : hi m b ∣ lo m b * u := ⟨v, h3⟩;have h5 : hi m b ∣ u := jX (by rw [gM]; exact pM (by lia)) h4;obtain ⟨w, hw⟩ := h5;refine ⟨w, ?_⟩;show M = m * hi m b * w
    rw [hu, hw, bX]
theorem si {a b:Int} {k:Nat} (hb:0 < b) (d:a∣b) (h:Sz k b):Sz k a:=h.le (fm (by lia) (bW.mpr d))
end Nm
namespace Nm
def Dr (W:Nat) (x:Rat):Prop:=x.num.natAbs<=W/\x.den<=W
def qF:List Nat->Nat
 | []=>1
 | a :: r=>a*qF r
theorem qD:∀{l:List Nat},(∀a∈l,0 < a)->0 < qF l
 | [],_=>Nat.one_pos
 | a :: r,h=>iL (h a (.head _)) (qD λb hb=>h b (.tail _ hb))
theorem qE:∀{l:List Nat} {a:Nat},a∈l->a∣qF l
 | b :: r,a,h=>by
  rcases aA.mp h with rfl | h
  ·exact Nat.dvd_mul_right ..
  ·exact Nat.dvd_trans (qE h) (Nat.dvd_mul_left ..)
theorem tx {k:Nat}:∀{l:List Nat},(∀a∈l,a<=2^k)->qF l<=2^(k*l.length)
 | [],_=>by simp [qF]
 | a :: r,h=>by
  rw[b6,Nat.mul_succ,cC,dS (2^(k*r.length))];exact aY (h a (.head _)) (tx λb hb=>h b (.tail _ hb))
def GF (M V:Nat) (rows:LR9):Prop:=∀xs∈rows,∀x∈xs,Fr M V x
end Nm
namespace L2
open PySem PySem.Spec PyProof.Rows Nm
theorem bR.sqt {K:FG9} {H H':Hp} {b a:Addr} {xs:List V} (u:bR b H H') (B:fH H b) (h:lO K H a xs):lO K H' a xs:=by
 rcases h with (h | ⟨o,h⟩) | h
 ·exact .inl (.inl (u.tup B h))
 ·exact .inl (.inr ⟨o,u.other (λz=>by obtain ⟨_,_,_,_,_,e,_⟩:=B;rw[z,e] at h;cases h) h⟩)
 ·exact .inr h
theorem wL {K:FG9} {H:Hp} {a l:Addr} {xs ys:List V} {o:HO} (h:lO K H a xs) (hl:H l=some (.lst ys)):lO K (upd H l o) a xs:=by
 rcases h with (h | ⟨o,h⟩) | h
 ·exact .inl (.inl (by rw[aH λz=>by rw[z,hl] at h;cases h];exact h))
 ·exact .inl (.inr ⟨o,by rw[aH λz=>by rw[z,hl] at h;cases h];exact h⟩)
 ·exact .inr h
def bK (K:FG9) (H:Hp) (q:Rat) (x:V):Prop:=tX K H x (nm q)
section
variable {K:FG9} {H H':Hp} {q:Rat} {x:V} {b l p:Addr} {qs:List Rat}
theorem bK.same (h:bK K H q x) (e:az H H'):bK K H' q x:=e.num h
theorem bK.upto (h:bK K H q x) (u:bR b H H') (B:fH H b):bK K H' q x:=by obtain ⟨p,e,s⟩:=h;exact ⟨p,e,u.sqt B s⟩
theorem bK.updL {ys:List V} {o:HO} (h:bK K H q x) (hl:H l=some (.lst ys)):bK K (upd H l o) q x:=by obtain ⟨p,e,s⟩:=h;exact ⟨p,e,wL s hl⟩
theorem bK.mk {r:Addr} {a c:Int} (h:H r=some (.tup [.int a,.int c])) (e:(a,c)=nm q):bK K H q (.ref r):=⟨r,rfl,by rw[<- e];exact lO.of h⟩
def dB (K:FG9) (H:Hp) (p:Addr) (qs:List Rat):Prop:=∃xs,H p=some (.lst xs)/\Paired (bK K H) qs xs
theorem dB.same (h:dB K H p qs) (e:az H H'):dB K H' p qs:=by obtain ⟨xs,g,r⟩:=h;exact ⟨xs,e _ _ g,Paired.imp' (λ_ _ z=>z.same e) r⟩
theorem dB.upto (h:dB K H p qs) (u:bR b H H') (B:fH H b) (n:p≠b):dB K H' p qs:=by obtain ⟨xs,g,r⟩:=h;exact ⟨xs,u.other n g,Paired.imp' (λ_ _ z=>z.upto u B) r⟩
theorem dB.updL {ys:List V} {o:HO} (h:dB K H p qs) (hl:H l=some (.lst ys)) (n:p≠l):dB K (upd H l o) p qs:=by obtain ⟨xs,g,r⟩:=h;exact ⟨xs,by rw[aH n];exact g,Paired.imp' (λ_ _ z=>z.updL hl) r⟩
theorem oe {α β γ:Type} {F:α->β->Prop} {f:γ->α}:∀{l:List γ} {l2:List β},Paired (λc x=>F (f c) x) l l2->Paired F (l.map f) l2
 | _,_,.nil=>.nil
 | _,_,.cons r t=>.cons r (oe t)
theorem dB.rowK (h:dB K H p qs):zx K H p (qs.map nm):=by obtain ⟨xs,g,r⟩:=h;exact ⟨xs,g,oe (F:=λn x=>tX K H x n) r⟩
def eL (K:FG9) (H0 H:Hp) (qs:List Rat) (x:V):Prop:=∃q,x=V.ref q/\H0 q=none/\dB K H q qs
def cY (K:FG9) (H0 H:Hp) (p:Addr) (rows:LR9):Prop:=∃xs,H p=some (.lst xs)/\Paired (eL K H0 H) rows xs/\V.ref p∉xs
theorem vc {H0:Hp} {K:FG9} {p:Addr} {rows:LR9} {ys:List V} (h:∃H2,H2 p=none/\Paired (eL K H0 H2) rows ys):V.ref p∉ys:=λhm=>by
 obtain ⟨H2,e,pr⟩:=h;obtain ⟨qs,_,q,z,_,xs,g,_⟩:=dy pr hm;cases z;rw[e] at g;cases g
variable {H0:Hp} {rows:LR9}
theorem eL.same (h:eL K H0 H qs x) (e:az H H'):eL K H0 H' qs x:=by obtain ⟨q,a,b,c⟩:=h;exact ⟨q,a,b,c.same e⟩
theorem eL.upto (h:eL K H0 H qs x) (u:bR b H H') (B:fH H b) (nb:H0 b≠none):eL K H0 H' qs x:=by obtain ⟨q,a,c,d⟩:=h;exact ⟨q,a,c,d.upto u B λz=>nb (by rw[<- z];exact c)⟩
theorem eL.weak (h:eL K H0 H qs x) {H1:Hp} (e:az H1 H0):eL K H1 H qs x:=by obtain ⟨q,a,b,c⟩:=h;exact ⟨q,a,e.none b,c⟩
theorem cY.same (h:cY K H0 H p rows) (e:az H H'):cY K H0 H' p rows:=by obtain ⟨xs,g,r,n⟩:=h;exact ⟨xs,e _ _ g,Paired.imp' (λ_ _ z=>z.same e) r,n⟩
theorem cY.upto (h:cY K H0 H p rows) (u:bR b H H') (B:fH H b) (n:p≠b) (nb:H0 b≠none):cY K H0 H' p rows:=by obtain ⟨xs,g,r,nn⟩:=h;exact ⟨xs,u.other n g,Paired.imp' (λ_ _ z=>z.upto u B nb) r,nn⟩
theorem cY.weak (h:cY K H0 H p rows) {H1:Hp} (e:az H1 H0):cY K H1 H p rows:=by obtain ⟨xs,g,r,n⟩:=h;exact ⟨xs,g,Paired.imp' (λ_ _ z=>z.weak e) r,n⟩
end
def BM:Kind Rat:=BN.via nm (λ_ _ e=>AI e) (λK H x q=>bK K H q x) id
def zN:Kind (List Rat):=CN BM
theorem dB.kind {K:FG9} {H:Hp} {p:Addr} {qs:List Rat} (h:dB K H p qs):zN.R K H (.ref p) qs:=by obtain ⟨xs,g,q⟩:=h;exact ⟨p,xs,rfl,bL.of g,q⟩
def p3 (x:Rat):Prop:=Sz 4000 (nm x).1/\Sz 4000 (nm x).2
def Fits (l:List Rat):Prop:=∃M V:Nat,0 < M/\M<=2^900/\V<=2^900/\∀x∈l,Fr M V x
theorem Fits.szn {l:List Rat} (h:Fits l) {x:Rat} (hx:x∈l):p3 x:=by
 obtain ⟨M,V,h0,h1,h2,h3⟩:=h;obtain ⟨a,b⟩:=(h3 x hx).sz h0 h1 h2;exact ⟨a.mono (by decide),b.mono (by decide)⟩
theorem Fits.ok {l:List Rat} (h:Fits l) {x:Rat} (hx:x∈l):p5 (nm x):=⟨jE x,rQ x,(h.szn hx).1.mono (by decide),(h.szn hx).2.mono (by decide)⟩
theorem uD {M V:Nat} {x:Rat} (h0:0 < M) (h1:M<=2^1800) (h2:V<=2^1810) (h:Fr M V x):p3 x:=by
 obtain ⟨a,b⟩:=h.sz h0 h1 h2;exact ⟨a.mono (by decide),b.mono (by decide)⟩
theorem z6 {x:Rat} (h:p3 x):p5 (nm x):=⟨jE x,rQ x,h.1.mono (by decide),h.2.mono (by decide)⟩
inductive nG (K:FG9) (f:Rat->Rat->Rat) (vs:List V) (H:Hp) (Q:VK) (E9:XK):Prop
 | mk (u v:V) (x y:Rat):vs=[u,v]->bK K H x u->bK K H y v->p3 x->p3 y->(∀r H',az H H'->bK K H' (f x y) (.ref r)->Q (.ref r) H')->nG K f vs H Q E9
section
variable {K:FG9} {vs:List V} {H:Hp} {Q:VK} {E:XK}
theorem xk {f:Rat->Rat->Rat} {F:Int->Int->Int->Int->Int} (hf:∀x y:Rat,(f x y)*(((nm x).2*(nm y).2:Int):Rat)=((F (nm x).1 (nm x).2 (nm y).1 (nm y).2:Int):Rat)) (h:nG K f vs H Q E):wU K F vs H Q E:=by
 obtain ⟨u,v,x,y,rfl,⟨p,rfl,hp⟩,⟨q,rfl,hq⟩,⟨s1,s2⟩,⟨s3,s4⟩,k⟩:=h;refine ⟨p,q,_,_,_,_,rfl,hp,hq,jE x,jE y,s1,s2,s3,s4,λr H' s g=>k r H' s (bK.mk g ?_)⟩;exact rR (ya (jE x) (jE y)) (hf x y)
theorem pJ (x:Rat):(((nm x).1:Int):Rat)=x*(((nm x).2:Int):Rat):=by
 show (x.num:Rat)=x*(((x.den:Nat):Int):Rat)
 rw[lD,bA]
theorem vA (h:nG K (λx y=>x+y) vs H Q E):wU K zT vs H Q E:=xk (λx y=>by
 unfold zT;rw[kI,aF,aF,aF,pJ,pJ];grind) h
theorem vd (h:nG K (λx y=>x*y) vs H Q E):wU K xH vs H Q E:=xk (λx y=>by
 unfold xH;rw[aF,aF,pJ,pJ];grind) h
end
def lP (M:Int) (ns:List (Int×Int)):Prop:=0 < M/\Sz 4400 M/\∀n∈ns,0 < n.2/\n.2∣M/\Sz 4400 n.1
theorem lP.bot {M:Int} {ns:List (Int×Int)} (h:lP M ns):0 < xS ns/\Sz 4400 (xS ns):=by
 have hb:∀b∈ns.map (·.2),0 < b/\b∣M:=λb hb=>by
  obtain ⟨n,hn,rfl⟩:=aN.mp hb;exact ⟨(h.2.2 n hn).1,(h.2.2 n hn).2.1⟩
 exact ⟨tK (by decide) λb q=>(hb b q).1,si h.1 (m3 (by decide) (xZ _) hb) h.2.1⟩
inductive wN (K:FG9) (vs:List V) (H:Hp) (Q:VK) (E9:XK):Prop
 | mk (p:Addr) (bs:List Int) (M:Int):vs=[.ref p]->bL K H p (bs.map V.int)->0 < M->Sz 4400 M->((∀b∈bs,0 < b/\b∣M))->Q (.int (nR bs 1)) H->wN K vs H Q E9
inductive wO (K:FG9) (vs:List V) (H:Hp) (Q:VK) (E9:XK):Prop
 | mk (p:Addr) (ns:List (Int×Int)) (M:Int):vs=[.ref p]->zx K H p ns->ns.length<=1000->lP M ns->(∀H',az H H'->Q (.int (xS ns)) H')->wO K vs H Q E9
inductive sS (K:FG9) (vs:List V) (H:Hp) (Q:VK) (E9:XK):Prop
 | mk (p:Addr) (ns:List (Int×Int)) (M:Int) (B:Int):vs=[.ref p,.int B]->zx K H p ns->ns.length<=1000->lP M ns->0 < B->Sz 4400 B->(∀r H',H r=none->az H H'->H' r=some (.lst ((mK ns B).map V.int))->Q (.ref r) H')->sS K vs H Q E9
theorem wC {M:Int} {ns:List (Int×Int)} {B t:Int} (h:lP M ns) (hB:0 < B) (sB:Sz 4400 B) (ht:t∈mK ns B):Sz 8800 t:=by
 obtain ⟨n,hn,rfl⟩:=aN.mp ht;have hp:=h.2.2 n hn
 have sq:Sz 4400 (B / n.2):=sB.le (by
  rw[A4 (by lia)];exact Nat.div_le_self ..)
 exact (hp.2.2.mul sq).mono (by lia)
theorem oS {x:Rat} {B:Int} (h:(nm x).2∣B):(((nm x).1*(B / (nm x).2):Int):Rat)=x*(B:Rat):=by
 obtain ⟨k,rfl⟩:=h;have hp:=jE x;rw[Int.mul_ediv_cancel_left _ (by lia),aF,aF,pJ];grind
inductive oY (K:FG9) (vs:List V) (H:Hp) (Q:VK) (E9:XK):Prop
 | mk (b:Addr) (w:Nat):vs=[.ref b,.int w]->fH H b->1<=w->w<=1000000->(∀r x H',Dr (max w 6) x->bK K H' x (.ref r)->fH H' b->bR b H H'->Q (.ref r) H')->oY K vs H Q E9
inductive sW (K:FG9) (vs:List V) (H:Hp) (Q:VK) (E9:XK):Prop
 | mk (b:Addr) (m w:Nat):vs=[.ref b,.int m,.int w]->fH H b->m<=1000->1<=w->w<=1000000->(∀r xs H',H r=none->dB K H' r xs->xs.length=m->(∀x∈xs,Dr (max w 6) x)->fH H' b->bR b H H'->Q (.ref r) H')->sW K vs H Q E9
inductive sT (K:FG9) (vs:List V) (H:Hp) (Q:VK) (E9:XK):Prop
 | mk (p q:Addr) (xs ys:List Rat):vs=[.ref p,.ref q]->dB K H p xs->dB K H q ys->ys.length=xs.length->xs.length<=1000->(∀x∈xs,p3 x)->(∀y∈ys,p3 y)->(∀r H',H r=none->az H H'->dB K H' r (List.zipWith (λx y=>x+y) xs ys)->Q (.ref r) H')->sT K vs H Q E9
inductive wQ (K:FG9) (vs:List V) (H:Hp) (Q:VK) (E9:XK):Prop
 | mk (u:V) (q:Addr) (c:Rat) (ys:List Rat):vs=[u,.ref q]->bK K H c u->p3 c->dB K H q ys->ys.length<=1000->(∀y∈ys,p3 y)->(∀r H',H r=none->az H H'->dB K H' r (ys.map λy=>c*y)->Q (.ref r) H')->wQ K vs H Q E9
inductive o6 (K:FG9) (vs:List V) (H:Hp) (Q:VK) (E9:XK):Prop
 | mk (p:Addr) (H0:Hp) (rows:LR9):vs=[.ref p]->cY K H0 H p rows->rows.length<=1000->(∀xs∈rows,xs.length<=1000)->(∀r H',H r=none->az H H'->cY K H H' r rows->Q (.ref r) H')->o6 K vs H Q E9
section
variable {K:FG9} {a:Addr} {xs:List V} {g:TG} {tf:TT} {te:TE} {Q:VK} {σ₀:St} {H:Hp} {α β:Type}
theorem fU {as:List α} {F:Hp->α->V->Prop} (G:Hp->β->V->Prop) (f:α->β) (hx:H a=some (.lst xs)) (pf:Paired (F H) as xs) (hl:as.length<=1000)
  (hF:∀{H H' c x},F H c x->az H H'->F H' c x) (hG:∀{H H' c x},G H c x->az H H'->G H' c x)
  (hs:∀(i:Nat) c x H' NY NN,as[i]?=some c->az H H'->F H' c x->(∀y H2,az H' H2->G H2 (f c) y->NY y H2)->lQ σ₀ g tf te x H' NY NN)
  (hd:∀ys H' p,H p=none->az H H'->H' p=some (.lst ys)->Paired (G H') (as.map f) ys->(∃H2,H2 p=none/\Paired (G H2) (as.map f) ys)->Q (.ref p) H'):mh (zV K a) σ₀ g tf te Q H:=by
 have lx:=pf.length;refine ir (K:=K) (xs:=xs) (λi ys H'=>az H H'/\Paired (G H') ((as.take i).map f) ys) (bu (bF (by lia))) ⟨az.refl _,.nil⟩ (λi ys H' _ ⟨s,_⟩=>bL.of (s _ _ hx)) ?_ ?_
 ·rintro i x ys H' hx' hlen ⟨s,pr⟩;obtain ⟨c,ec,hc⟩:=dm pf hx';refine hs i c x H' _ _ ec s (hF hc s) λy H2 s2 gy=>⟨s.trans s2,?_⟩
  rw[take_snoc ec,qf];exact cM (Paired.imp' (λ_ _ z=>hG z s2) pr) (.cons gy .nil)
 ·rintro ys H' hy ⟨s,pr⟩ p hp;rw[aJ (by lia)] at pr;exact hd ys _ p (s.none hp) (s.trans (az.new hp)) ay (Paired.imp' (λ_ _ z=>hG z (az.new hp)) pr) ⟨H',hp,pr⟩
theorem wa {n:Nat} (G:Hp->β->V->Prop) (f:Nat->β) (hl:n<=1000) (hG:∀{H H' c x},G H c x->az H H'->G H' c x)
  (hs:∀(i:Nat) H' NY NN,i < n->az H H'->(∀y H2,az H' H2->G H2 (f i) y->NY y H2)->lQ σ₀ g tf te (.int i) H' NY NN)
  (hd:∀ys H' p,H p=none->az H H'->H' p=some (.lst ys)->Paired (G H') ((List.range n).map f) ys->(∃H2,H2 p=none/\Paired (G H2) ((List.range n).map f) ys)->Q (.ref p) H'):mh (t6 0 n) σ₀ g tf te Q H:=by
 refine iI (λi ys H'=>az H H'/\Paired (G H') ((List.range i).map f) ys) (bu (bF (by lia))) ⟨az.refl _,.nil⟩ ?_ ?_
 ·rintro i ys H' hi hlen ⟨s,pr⟩;rw[oR];refine hs i H' _ _ hi s λy H2 s2 gy=>⟨s.trans s2,?_⟩
  rw[yh,qf];exact cM (Paired.imp' (λ_ _ z=>hG z s2) pr) (.cons gy .nil)
 ·rintro ys H' hy ⟨s,pr⟩ p hp;exact hd ys _ p (s.none hp) (s.trans (az.new hp)) ay (Paired.imp' (λ_ _ z=>hG z (az.new hp)) pr) ⟨H',hp,pr⟩
theorem wb {n:Nat} {b:Addr} (G:Hp->β->V->Prop) (C:β->Prop) (hB:fH H b) (hl:n<=1000) (hG:∀{H' H'' c x},G H' c x->bR b H' H''->fH H' b->G H'' c x)
  (hs:∀(i:Nat) H' NY NN,i < n->bR b H H'->fH H' b->(∀y c H2,bR b H' H2->fH H2 b->C c->G H2 c y->NY y H2)->lQ σ₀ g tf te (.int i) H' NY NN)
  (hd:∀ys cs H' p,H p=none->bR b H H'->fH H' b->H' p=some (.lst ys)->cs.length=n->(∀c∈cs,C c)->Paired (G H') cs ys->(∃H2,H2 p=none/\Paired (G H2) cs ys)->Q (.ref p) H'):mh (t6 0 n) σ₀ g tf te Q H:=by
 refine iI (λi ys H'=>bR b H H'/\fH H' b/\∃cs,cs.length=i/\(∀c∈cs,C c)/\Paired (G H') cs ys) (bu (bF (by lia))) ⟨(az.refl _).upto,hB,[],rfl,(λ_ z=>nomatch z),.nil⟩ ?_ ?_
 ·rintro i ys H' hi hlen ⟨u,B,cs,lc,hc,pr⟩;rw[oR];refine hs i H' _ _ hi u B λy c H2 u2 B2 cc gy=>⟨u.trans u2,B2,cs++[c],by simp [lc],vz hc cc,cM (Paired.imp' (λ_ _ z=>hG z u2 B) pr) (.cons gy .nil)⟩
 ·rintro ys H' hy ⟨u,B,cs,lc,hc,pr⟩ p hp;have s:az H' (upd H' p (.lst ys)):=az.new hp;exact hd ys cs _ p (u.none B hp) (u.same s) (B.same s) ay lc hc (Paired.imp' (λ_ _ z=>hG z s.upto B) pr) ⟨H',hp,pr⟩
end
section
variable {X:Cx}
theorem fS {n:Nat} {g:TG} {tb:TS} {D:Ends} {σ:St} {H:Hp} (Pv:Nat->St->Hp->Prop) (h0:Pv 0 σ H)
  (hs:∀(i:Nat) σ H,i < n->Pv i σ H->g (.int i) σ H λσ2 H2=>tb { D with nx:=Pv (i+1),ct:=Pv (i+1),bk:=D.nx } σ2 H2) (hd:∀σ H,Pv n σ H->D.nx σ H) :
  ∃W:Nat->Nat->St->Hp->Prop,(∃m,W 0 m σ H)/\∀i m σ H,W i m σ H →
   ((t6 0 n).stop i H/\D.nx σ H)\/((t6 0 n).go i H/\∃N:St->Hp->Prop,(∀σ' H',N σ' H'->∃m',m' < m/\W (i+1) m' σ' H')/\∀x H',(t6 0 n).yld i H x H'->g x σ H' λσ2 H2=>tb { D with nx:=N,ct:=N,bk:=D.nx } σ2 H2) :=
 lE (lo:=0) Pv h0 (λi σ H hi p=>by rw[oR];exact hs i σ H hi p) hd
theorem qS:mi X (.type "int") (λxs H Q=>∃b:Bool,xs=[.bl b]/\Q (.int (if b=true then 1 else 0)) H):=by
 intro pins s σ H xs us Q I r h;obtain ⟨b,rfl,q⟩:=h;obtain ⟨u,rfl,ru⟩:=vals1 r;cases ru;exact call_int_bool ⟨.int _,H,I.tok _,⟨_,rfl⟩,q⟩
theorem xg {st:Stmt}:PS X st (λ_ _ _=>False):=λ_ _ _ _ _ _ h=>h.elim
end
theorem xu {t b:Int} {W:Nat} (hb:0 < b) (h1:t.natAbs<=W) (h2:b.natAbs<=W):∃q:Rat,(lo t b,hi t b)=nm q/\Dr W q/\q*(b:Rat)=(t:Rat):=by
 have hb':(b:Rat)≠0:=λz=>by have:=cZ.mp z;lia
 have e:(t:Rat) / (b:Rat)*(b:Rat)=t:=Rat.div_mul_cancel hb';have h:=rR hb e;refine ⟨_,h,⟨?_,?_⟩,e⟩
 ·have:=congrArg Prod.fst h;have z:=lo_le (t:=t) (b:=b) (by lia);show ((nm ((t:Rat) / (b:Rat))).1).natAbs<=W
  rw[<- this];exact ah z h1
 ·have:=congrArg Prod.snd h;have z:=zR (t:=t) (b:=b) (by lia);have hd:(((t:Rat) / (b:Rat)).den:Int)=hi t b:=this.symm;have hp:=rY (t:=t) hb
  lia
theorem zf {K:FG9} {H:Hp} {qs:List Rat} {xs:List V} (h:Paired (bK K H) qs xs) {j:Nat} (hj:j < qs.length):∃v,t5 xs (j:Int)=some v/\bK K H (qs.getD j 0) v:=by
 have hl:=h.length;refine ⟨xs[j]'(by lia),ke (by simp),?_⟩;have:=iD h (i:=j) hj (by lia);rwa [ae,ai hj]
theorem qO {xs ys:List Rat} {i:Nat} (h1:i < xs.length) (h2:i < ys.length):kG (xs.take (i+1)) (ys.take (i+1))=kG (xs.take i) (ys.take i)+xs.getD i 0*ys.getD i 0:=by
 have e1:xs[i]?=some (xs.getD i 0):=by rw[ae,ai h1];rfl
 have e2:ys[i]?=some (ys.getD i 0):=by rw[ae,ai h2];rfl
 unfold kG;rw[take_snoc e1,take_snoc e2,List.zipWith_append (by simp;lia),List.sum_append];simp [Rat.add_zero]
theorem getD_mem {xs:List Rat} {i:Nat} (h:i < xs.length):xs.getD i 0∈xs:=by
 rw[ae,ai h];exact bB h
theorem vF {xs ys:List Rat} (h:ys.length=xs.length):List.zipWith (λx y=>x+y) xs ys=(List.range xs.length).map λi=>xs.getD i 0+ys.getD i 0:=by
 apply vE;intro i;rw[List.getElem?_zipWith,aB];by_cases hi:i < xs.length
 ·rw[dh hi,ai hi,ai (show i < ys.length by lia)];simp [ae,ai hi,ai (show i < ys.length by lia)]
 ·rw[bV (show (List.range xs.length).length<=i by simp;lia),bV (show xs.length<=i by lia)];rfl
theorem eL.updL {K:FG9} {H0 H:Hp} {qs:List Rat} {x:V} {l:Addr} {ys:List V} {o:HO} (h:eL K H0 H qs x) (hl:H l=some (.lst ys)) (nl:H0 l≠none):eL K H0 (upd H l o) qs x:=by obtain ⟨q,a,b,c⟩:=h;exact ⟨q,a,b,c.updL hl λz=>nl (by rw[<- z];exact b)⟩
theorem fH.at {H:Hp} {b:Addr} (B:fH H b):H b≠none:=by obtain ⟨_,_,_,_,_,e,_⟩:=B;rw[e];simp
theorem Inner.at {H:Hp} {b q:Addr} (B:fH H b) (i:Inner H b q):H q≠none:=by
 obtain ⟨q',i',xs,e⟩:=B.inner;rw[<- Inner.inj i' i,e];simp
theorem sx {i j:Int} (h1:-(2^64) < i) (h2:i < 2^64):jw i j:=.inl (.inl ⟨h1,h2⟩)
theorem zo {i j:Int} (h1:-(2^64) < j) (h2:j < 2^64):jw i j:=.inl (.inr ⟨h1,h2⟩)
def A0 (K : FG9) (l : Addr) : It :=
  ⟨λi H => ∃ xs x, bL K H l xs /\ xs[i]? = some x,
   λi H v H' => ∃ p x, v = .ref p /\ H p = none /\ H' = upd H p (.tup [.int i, x]) /\ ∀ xs, bL K H l xs → xs[i]? = some x,
   λi H => ∃ xs, bL K H l xs /\ xs.length ≤ i⟩
def tnE (e it l:Addr) (i:Nat) (h:Heap):Prop:=(∃old,IsEnum h e it i old)/\h.IsListIter it l i
theorem vH {P:Program} {w:World} {K:FG9} {elts:List Expr} {kk:Nat} {tpos:Pos} (e it l:Addr) (hei:e≠it):Turn P w K (.Tuple elts kk tpos) (A0 K l) [e,it] e (tnE e it l) where
 mem:=by simp
 obj:=λi h st b hb=>by
  obtain ⟨⟨old,he⟩,⟨o1,g1,c1,d1⟩⟩:=st;simp only[aA,be,or_false] at hb;rcases hb with rfl | rfl
  ·exact ⟨_,he,λv q=>nomatch q⟩
  ·exact ⟨o1,g1,λv q=>by rw[d1] at q;cases q⟩
 keep:=λi h h' st k=>by
  obtain ⟨⟨old,he⟩,h1⟩:=st;exact ⟨⟨old,k e (by simp) _ he⟩,h1.at λo q=>k it (by simp) o q⟩
 item:=by
  intro X hP hw hK hc i pins s σ H E I hf st hg;subst hP hw hK;obtain ⟨⟨old,he⟩,h1⟩:=st;obtain ⟨xs,x,qx,ex⟩:=hg;obtain ⟨us,rx,px,_⟩:=I.list qx;obtain ⟨u,eu,ru⟩:=rx.get ex;refine wpAny_pyNext_enum_item he h1 px.isList (x:=u) (by simpa using eu) hei λh' a1 a2 a3 a4 hk=>?_
  refine ⟨_,rfl,wpAny_letOwnedTupleGo_enum a1 λh'' he'' hs=>?_⟩;have hT0:H s.heap.objs.size=none:=I.hok.fresh (av _);have ene:s.heap.objs.size≠e:=vD (Heap.lt_size he)
  have up:∀b o,b∉[e,it]->s.heap.get? b=some o->h''.get? b=some o:=λb o hb q=>by
   simp only[aA,be,or_false,not_or] at hb;exact (hs.2 b hb.1).trans (hk b o hb.1 hb.2 q)
  have tup:h''.get? s.heap.objs.size=some { cls:=.type "tuple",data:=.seq #[.int i s.toks,u] }:=(hs.2 _ ene).trans a3;have I1:Inv X pins σ H { s with heap:=h'',toks:=s.toks+1 }:=I.moved (g':=s.gens) (d':=s.drawn) (t':=s.toks+1) (ch:=[e,it]) hf up I.bare;have fT:kH X pins H s.heap.objs.size:=I.fpOk (av _) hT0;have I2:=I1.track (o:=.tup [.int i,x]) fT ⟨mN rfl,[.int i s.toks,u],.cons ⟨_,rfl⟩ (.cons ru .nil),⟨_,tup,rfl,_,rfl⟩⟩;refine ⟨.ref s.heap.objs.size,_,I2,rfl,⟨_,x,rfl,hT0,rfl,λxs' q=>by rw[I.list_inj q qx];exact ex⟩,?_,λb hb=>?_⟩
  ·exact ⟨⟨_,by simpa using he''⟩,a2.at λo q=>(hs.2 _ hei.symm).trans q⟩
  ·rw[aH]
   ·exact (hf b hb).1
   ·obtain ⟨o1,g1,_⟩:=h1;simp only[aA,be,or_false] at hb;rcases hb with rfl | rfl
    ·exact ene.symm
    ·exact aU (Heap.lt_size g1)
 done:=by
  intro X hP hw hK hc i pins s σ H E I hf st hg;subst hP hw hK;obtain ⟨⟨old,he⟩,h1⟩:=st;obtain ⟨xs,qx,hend⟩:=hg;obtain ⟨us,rx,px,_⟩:=I.list qx;have lx:=rx.length;refine wpAny_pyNext_enum_end (I.ok.hd hc) he h1 px.isList (by simp;lia) λh' hk=>⟨rfl,?_⟩
  exact I.moved (g':=s.gens) (d':=s.drawn) (t':=s.toks) (ch:=[e,it]) hf (λb o hb q=>hk b o (λz=>hb (by simp [z])) q) I.bare
 self:=λ_ _ _ _ _ st h=>let ⟨⟨_,he⟩,_⟩:=st;wpAny_pyIter_enum he h
section
variable {X:Cx}
def xy (K:FG9) (ta:TA):TI:=λσ H R=>ta σ H λvs H1=>∃l,vs=[.ref l]/\(∃xs,bL K H1 l xs)/\R (A0 K l) H1
theorem oJ {a:Expr} {ta:TA} {p pos tpos:Pos} {elts:List Expr} {kk:Nat} (hg:Gl X "enumerate") (hm:X.mg "enumerate"=none) (ha:PA X [a] ta) (hs:starEach [a] X.env=[(false,eval a X.env)]:=by rfl) :
  PI X (.Tuple elts kk tpos) (.Call (.Name "enumerate" p) [a] [] pos) (xy X.K ta):=by
 intro pins s σ H R I h;refine Call_ (iH I hg hm boot_enumerate (PyProof.Rows.callWith_type1 (dJ (ha pos pins s σ H _ I h) λus s1 ⟨vs,H1,I1,r1,q1⟩=>?_) (by rw[hs];rfl) rfl));obtain ⟨l,e,⟨xs,qx⟩,q⟩:=q1;subst e;obtain ⟨u,rfl,ru⟩:=vals1 r1;cases ru;obtain ⟨us,rx,px,_⟩:=I1.list qx;refine call_enumerate_list px.isList λh' a1 a2 a3 hk=>wpAny_pyIter_enum a1 ?_
 have I2:Inv X pins σ H1 { s1 with heap:=h' }:=I1.kept (t':=s1.toks) hk;refine ⟨_,[s1.heap.objs.size+1,s1.heap.objs.size],_,_,H1,rfl,I2,vH (s1.heap.objs.size+1) s1.heap.objs.size l (Nat.succ_ne_self _),⟨⟨_,a1⟩,a2⟩,λb hb=>?_,q⟩
 have hb':s1.heap.objs.size<=b:=by
  simp only[aA,be,or_false] at hb;rcases hb with rfl | rfl <;> first | exact nu _ | exact av _
 exact I1.fpOk hb' (I1.hok.fresh hb')
end
theorem xa {K:FG9} {ta:TA} {R:It->Hp->Prop} {σ:St} {H:Hp} (h:ta σ H λvs H1=>∃l,vs=[.ref l]/\(∃xs,bL K H1 l xs)/\R (A0 K l) H1):xy K ta σ H R:=h
theorem xF {K:FG9} {l:Addr} {xs:List V} {g:TG} {tb:TS} {D:Ends} {σ:St} {H:Hp} (Pv:Nat->St->Hp->Prop) (h0:Pv 0 σ H) (hl:∀i σ H,i<=xs.length->Pv i σ H->bL K H l xs)
  (hs:∀i x σ H p,xs[i]?=some x->Pv i σ H->H p=none->g (.ref p) σ (upd H p (.tup [.int i,x])) λσ2 H2=>tb { D with nx:=Pv (i+1),ct:=Pv (i+1),bk:=D.nx } σ2 H2) (hd:∀σ H,Pv xs.length σ H->D.nx σ H) :
  ∃W:Nat->Nat->St->Hp->Prop,(∃m,W 0 m σ H)/\∀i m σ H,W i m σ H →
   ((A0 K l).stop i H/\D.nx σ H)\/((A0 K l).go i H/\∃N:St->Hp->Prop,(∀σ' H',N σ' H'->∃m',m' < m/\W (i+1) m' σ' H')/\∀x H',(A0 K l).yld i H x H'->g x σ H' λσ2 H2=>tb { D with nx:=N,ct:=N,bk:=D.nx } σ2 H2):=by
 refine ⟨λi m σ H=>m=xs.length - i/\i<=xs.length/\Pv i σ H,⟨xs.length,by simp,bq _,h0⟩,?_⟩;rintro i m σ H ⟨rfl,hi,p⟩;have q1:=hl i σ H hi p;by_cases hlt:i < xs.length
 ·refine .inr ⟨⟨xs,xs[i],q1,by simp [hlt]⟩,Pv (i+1),λσ' H' p'=>⟨xs.length - (i+1),by lia,rfl,hlt,p'⟩,λx H' y=>?_⟩;obtain ⟨r,x',rfl,hr,rfl,e1⟩:=y;exact hs i x' σ _ r (e1 xs q1) p hr
 ·have e:i=xs.length:=by lia
  subst e;exact .inl ⟨⟨xs,q1,av _⟩,hd σ H p⟩
theorem Aq {K:FG9} {ta:TE} {f:Str} {σ:St} {H:Hp} {Q:VK} (h:ta σ H λx H1=>∃a C dx fs v,x=.ref a/\H1 a=some (.ins C dx fs)/\ye K C/\fD K C f/\fs.lookup f=some v/\Q v H1):Br K ta f σ H Q:=h
theorem yF {K:FG9} {ta tv:TE} {f:Str} {D:Ends} {σ:St} {H:Hp} (h:tv σ H λy H1=>ta σ H1 λx H2=>∃a C dx fs,x=.ref a/\H2 a=some (.ins C dx fs)/\ye K C/\fD K C f/\fs.length < 1000 /\
 D.nx σ (upd H2 a (.ins C dx (bg f y fs)))):Bw K ta tv f D σ H:=h
theorem yJ {C:Addr} {sp:Sp} {E:XK} {t:TA} {σ:St} {H:Hp} {Q:VK} (h:t σ H λvs H1=>∀x dx,H1 x=none->H1 dx=none->dx≠x →
 sp (.ref x :: vs) (upd (upd H1 dx (.own x)) x (.ins C dx [])) (λv H2=>v=.non/\Q (.ref x) H2) E):zE C sp [] E t σ H Q:=by
 have e:(λvs (H1:Hp)=>∀x dx,H1 x=none->H1 dx=none->dx≠x->sp (.ref x :: (vs++[])) (upd (upd H1 dx (.own x)) x (.ins C dx [])) (λv H2=>v=.non/\Q (.ref x) H2) E)=λvs H1=>∀x dx,H1 x=none->H1 dx=none->dx≠x->sp (.ref x :: vs) (upd (upd H1 dx (.own x)) x (.ins C dx [])) (λv H2=>v=.non/\Q (.ref x) H2) E:=by
  funext vs H1;simp only[yk]
 show t σ H (λvs (H1:Hp)=>∀x dx,H1 x=none->H1 dx=none->dx≠x->sp (.ref x :: (vs++[])) (upd (upd H1 dx (.own x)) x (.ins C dx [])) (λv H2=>v=.non/\Q (.ref x) H2) E)
 rw[e];exact h
def sF (x:Addr) (H H':Hp):Prop:=∀b o,H b=some o->b≠x->H' b=some o
theorem sF.upd {x:Addr} {H:Hp} {o:HO}:sF x H (L2.upd H x o):=λb u h n=>by rw[aH n];exact h
def mf (H:Hp) (x:Addr):Prop:=∃C dx fs,H x=some (.ins C dx fs)
section
variable {K:FG9} {H H' H0:Hp} {q:Rat} {v:V} {x p:Addr} {qs:List Rat} {rows:LR9}
theorem bK.exc (h:bK K H q v) (e:sF x H H') (hx:mf H x):bK K H' q v:=by
 obtain ⟨C,dx,fs,hx⟩:=hx;obtain ⟨r,er,s⟩:=h;refine ⟨r,er,?_⟩;rcases s with (h | ⟨o,h⟩) | h
 ·exact .inl (.inl (e _ _ h λz=>by rw[z,hx] at h;cases h))
 ·exact .inl (.inr ⟨o,e _ _ h λz=>by rw[z,hx] at h;cases h⟩)
 ·exact .inr h
theorem dB.exc (h:dB K H p qs) (e:sF x H H') (hx:mf H x):dB K H' p qs:=by
 obtain ⟨xs,g,r⟩:=h;have hx':=hx;obtain ⟨C,dx,fs,hx⟩:=hx;exact ⟨xs,e _ _ g (λz=>by rw[z,hx] at g;cases g),Paired.imp' (λ_ _ z=>z.exc e hx') r⟩
theorem eL.exc (h:eL K H0 H qs v) (e:sF x H H') (hx:mf H x):eL K H0 H' qs v:=by obtain ⟨q,a,b,c⟩:=h;exact ⟨q,a,b,c.exc e hx⟩
theorem cY.exc (h:cY K H0 H p rows) (e:sF x H H') (hx:mf H x):cY K H0 H' p rows:=by
 obtain ⟨xs,g,r,n⟩:=h;have hx':=hx;obtain ⟨C,dx,fs,hx⟩:=hx;exact ⟨xs,e _ _ g (λz=>by rw[z,hx] at g;cases g),Paired.imp' (λ_ _ z=>z.exc e hx') r,n⟩
end
def sP (a b c:Addr) (n i o:Nat):List (Str×V):=bg "outs" (.int o) (bg "look" (.ref c) (bg "ins" (.int i) (bg "put" (.ref b) (bg "states" (.int n) (bg "move" (.ref a) [])))))
section
variable {a b c:Addr} {n i o:Nat}
theorem ui:(sP a b c n i o).lookup ("states":Str)=some (.int n):=by
 unfold sP;rw[br,if_neg (by decide +kernel),br,if_neg (by decide +kernel),br,if_neg (by decide +kernel),br,if_neg (by decide +kernel),br,if_pos rfl]
theorem wI:(sP a b c n i o).lookup ("move":Str)=some (.ref a):=by
 unfold sP;rw[br,if_neg (by decide +kernel),br,if_neg (by decide +kernel),br,if_neg (by decide +kernel),br,if_neg (by decide +kernel),br,if_neg (by decide +kernel),br,if_pos rfl]
end
theorem cz {k:Str} {v:V}:∀{l:List (Str×V)},(bg k v l).length<=l.length+1
 | []=>av _
 | (x,y) :: r=>by
  unfold bg
  split
  ·simp
  ·have:=cz (k:=k) (v:=v) (l:=r);simp only[b6]
   lia
structure xX (mv pt lk:LR9):Prop where
 n8:mv.length<=8
 i4:pt.length<=4
 o4:lk.length<=4
 mw:∀xs∈mv,xs.length=mv.length
 pw:∀xs∈pt,xs.length=mv.length
 lw:∀xs∈lk,xs.length=mv.length
def qY (mv pt lk:LR9):Prop:=∃M V:Nat,0 < M/\M<=2^800/\V<=2^400/\GF M V mv/\GF M V pt/\GF M V lk
def we (K:FG9) (H0 H:Hp) (C p:Addr) (mv pt lk:LR9):Prop:=∃dx a b c,H p=some (.ins C dx (sP a b c mv.length pt.length lk.length))/\H0 a=none/\H0 b=none/\H0 c=none/\cY K H0 H a mv/\cY K H0 H b pt/\cY K H0 H c lk
section
variable {K:FG9} {H H' H0 H1:Hp} {C p b:Addr} {mv pt lk:LR9}
theorem we.weak (h:we K H0 H C p mv pt lk) (e:az H1 H0):we K H1 H C p mv pt lk:=by obtain ⟨dx,a,b,c,g,n1,n2,n3,g1,g2,g3⟩:=h;exact ⟨dx,a,b,c,g,e.none n1,e.none n2,e.none n3,g1.weak e,g2.weak e,g3.weak e⟩
theorem qY.fits (h:qY mv pt lk) {l:List Rat} (hl:∀x∈l,(∃xs∈mv,x∈xs)\/(∃xs∈pt,x∈xs)\/(∃xs∈lk,x∈xs)\/x=0):Fits l:=by
 obtain ⟨M,V,h0,h1,h2,h3,h4,h5⟩:=h;refine ⟨M,V,h0,ah h1 (aj (by decide) (by decide)),ah h2 (aj (by decide) (by decide)),λx hx=>?_⟩;rcases hl x hx with ⟨xs,a,b⟩ | ⟨xs,a,b⟩ | ⟨xs,a,b⟩ | rfl
 ·exact h3 xs a x b
 ·exact h4 xs a x b
 ·exact h5 xs a x b
 ·exact Fr.zero
end
def vJ:Sp:=λvs H Q _=>∃i:Int,vs=[.int i]/\Q (.bl true) H
def vM (K:FG9):Sp:=λvs H Q _=>∃x n,vs=[x]/\tX K H x n/\p5 n/\∀H',az H H'->Q (.bl true) H'
inductive uT (vs:List V) (H:Hp) (Q:VK) (E9:XK):Prop
 | mk (p:Addr) (xs:List V) (a m:Int):vs=[.ref p,.int a,.int m]->H p=some (.lst xs)->(xs.length:Int)<=m->Q .non H->uT  vs H Q E9
inductive uX (K:FG9) (vs:List V) (H:Hp) (Q:VK) (E9:XK):Prop
 | mk (p:Addr) (H0:Hp) (rows:LR9) (w:Nat):vs=[.ref p,.int w]->cY K H0 H p rows->rows.length<=1000->w<=1000->((∀xs∈rows,xs.length=w/\∀x∈xs,p5 (nm x)))->(∀r H',H r=none->az H H'->cY K H H' r rows->Q (.ref r) H')->uX K vs H Q E9
def A7 (rows:LR9):Prop:=∀xs∈rows,∀x∈xs,p5 (nm x)
inductive uU (K:FG9) (C:Addr) (vs:List V) (H:Hp) (Q:VK) (E9:XK):Prop
 | mk (x dx p q r:Addr) (Hb H0 H1 H2:Hp) (mv pt lk:LR9):vs=[.ref x,.ref p,.ref q,.ref r]->Hb x=none->Hb dx=none->dx≠x->H=upd (upd Hb dx (.own x)) x (.ins C dx [])->cY K H0 Hb p mv->cY K H1 Hb q pt->cY K H2 Hb r lk->xX mv pt lk->A7 mv->A7 pt->A7 lk->(∀H',az Hb H'->we K Hb H' C x mv pt lk->Q .non H')->uU K C vs H Q E9
theorem qY.ok {mv pt lk:LR9} (h:qY mv pt lk):A7 mv/\A7 pt/\A7 lk :=
 ⟨λxs hx x hx'=>(h.fits (l:=xs) λy hy=>.inl ⟨xs,hx,hy⟩).ok hx',λxs hx x hx'=>(h.fits (l:=xs) λy hy=>.inr (.inl ⟨xs,hx,hy⟩)).ok hx',λxs hx x hx'=>(h.fits (l:=xs) λy hy=>.inr (.inr (.inl ⟨xs,hx,hy⟩))).ok hx'⟩
def dC (K:FG9) (A:Addr->Prop) (H:Hp) (n:Nat) (C:Rat->Prop) (x:V):Prop:=∃q qs,x=V.ref q/\A q/\dB K H q qs/\qs.length=n/\∀y∈qs,C y
section
variable {K:FG9} {A A':Addr->Prop} {H H' H0:Hp} {n:Nat} {C C':Rat->Prop} {x v:V} {q b l p:Addr} {xs zs:List V} {y:Rat} {o:HO}
theorem dC.same (h:dC K A H n C x) (e:az H H'):dC K A H' n C x:=by obtain ⟨q,qs,a,c,r,z⟩:=h;exact ⟨q,qs,a,c,r.same e,z⟩
theorem dC.upto (h:dC K A H n C x) (u:bR b H H') (B:fH H b) (nb:¬A b):dC K A H' n C x:=by obtain ⟨q,qs,a,c,r,z⟩:=h;exact ⟨q,qs,a,c,r.upto u B (λe=>nb (by rw[<- e];exact c)),z⟩
theorem dC.other (h:dC K A H n C x) (hl:H l=some (.lst zs)) (nl:¬A l):dC K A (upd H l o) n C x:=by obtain ⟨q,qs,a,c,r,z⟩:=h;exact ⟨q,qs,a,c,r.updL hl (λe=>nl (by rw[<- e];exact c)),z⟩
theorem dC.weak (h:dC K A H n C x) (w:∀q,A q->A' q) (wc:∀y,C y->C' y):dC K A' H n C' x:=by obtain ⟨q,qs,a,c,r,l,z⟩:=h;exact ⟨q,qs,a,w q c,r,l,λy hy=>wc y (z y hy)⟩
theorem pj {α β:Type} {F:α->β->Prop} {a:α} {b:β} (h:F a b):∀{l1:List α} {l2:List β} (j:Nat),Paired F l1 l2->Paired F (l1.set j a) (l2.set j b)
 | _,_,_,.nil=>.nil
 | _,_,0,.cons _ t=>.cons h t
 | _,_,j+1,.cons r t=>.cons r (pj h j t)
theorem dC.put (h:dC K A H n C x) (hq:H q=some (.lst zs)) (hv:bK K H y v) (hc:C y) (j:Nat):dC K A (upd H q (.lst (zs.set j v))) n C x:=by
 obtain ⟨q1,qs,rfl,a,⟨zs1,g1,pr⟩,l1,c1⟩:=h;by_cases e:q1=q
 ·subst e;rw[hq] at g1;cases g1;refine ⟨q1,qs.set j y,rfl,a,⟨_,ay,pj (hv.updL hq) j (Paired.imp' (λ_ _ z=>z.updL hq) pr)⟩,by rw[yj];exact l1,λz hz=>?_⟩;rcases gS hz with hz | rfl
  ·exact c1 z hz
  ·exact hc
 ·exact ⟨q1,qs,rfl,a,⟨zs1,by rw[aH e];exact g1,Paired.imp' (λ_ _ z=>z.updL hq) pr⟩,l1,c1⟩
theorem dC.at (h:dC K A H n C x):∃q zs qs,x=V.ref q/\A q/\H q=some (.lst zs)/\zs.length=n/\Paired (bK K H) qs zs/\qs.length=n/\∀y∈qs,C y:=by obtain ⟨q,qs,a,c,⟨zs,g,pr⟩,l,z⟩:=h;exact ⟨q,zs,qs,a,c,g,by rw[<- pr.length];exact l,pr,l,z⟩
end
theorem kR {W:Nat} {i:Int} (h:i.natAbs<=W) (hW:1<=W):Dr W (i:Rat):=⟨h,hW⟩
def Cr (K:FG9) (A:Addr->Prop) (H:Hp) (n:Nat) (C:Rat->Prop) (p:Addr) (m:Nat):Prop:=∃us,H p=some (.lst us)/\us.length=m/\¬A p/\∀x∈us,dC K A H n C x
structure uI (A:Addr->Prop) (m p l b q0:Addr):Prop where
 am:¬A m
 ap:¬A p
 al:¬A l
 ab:¬A b
 aq:¬A q0
 mb:m≠b
 pb:p≠b
 lb:l≠b
 mp:m≠p
 ml:m≠l
 mq:m≠q0
theorem vm {M:Nat} {z:Int} (h:z.natAbs<=2):Fr 1 2 (z:Rat):=Fr.int h
theorem rZ {M W:Nat} {a c:Rat} {z:Int} (hz:z.natAbs<=2) (ha:Fr M W a) (hc:Fr M W c):Fr M (3*W) (a+(z:Rat)*c):=by
 have h:=(vm (M:=M) hz).mul hc;rw[qZ] at h;exact (ha.add h).mono (by lia)
theorem rh {z:Int} (h:z.natAbs<=1000):p3 (z:Rat):=uD (M:=1) (V:=1000) (by decide) (t7) (ah (show 1000<=2^10 by decide) (aj (by decide) (by decide))) (Fr.int h)
theorem oV {M W:Nat} {c:Rat} {z:Int} (hz:z.natAbs<=2) (hc:Fr M W c) (h0:0 < M) (h1:M<=2^800) (hW:W<=2^140):p3 ((z:Rat)*c):=by
 have h:=(vm (M:=M) hz).mul hc;rw[qZ] at h;refine uD h0 (ah h1 (aj (by decide) (by decide))) (ah (Nat.mul_le_mul_left 2 hW) ?_) h;rw[show 2*2^140=2^141 by rw[eI,dS]];exact aj (by decide) (by decide)
def el (A:Addr->Prop) (b m:Addr) (H H':Hp):Prop:=∀c u,H c=some u->c≠b->¬A c->c≠m->H' c=some u
theorem el.same {A:Addr->Prop} {b m:Addr} {H H1 H2:Hp} (h:el A b m H H1) (s:az H1 H2):el A b m H H2:=λc u e n1 n2 n3=>s _ _ (h c u e n1 n2 n3)
theorem el.upto {A:Addr->Prop} {b m:Addr} {H H1 H2:Hp} (h:el A b m H H1) (s:bR b H1 H2):el A b m H H2:=λc u e n1 n2 n3=>s.1 _ _ (h c u e n1 n2 n3) n1
theorem el.upd {A:Addr->Prop} {b m q:Addr} {H H1:Hp} {o:HO} (h:el A b m H H1) (hq:A q\/q=m):el A b m H (L2.upd H1 q o):=λc u e n1 n2 n3=>by
 rw[aH]
 ·exact h c u e n1 n2 n3
 ·rintro rfl;rcases hq with hq | hq
  ·exact n2 hq
  ·exact n3 hq
theorem el.new {A:Addr->Prop} {b m r:Addr} {H H1:Hp} (h:el A b m H H1) (hA:∀q,H q=none->A q) (B:fH H1 b) (hm:H1 m≠none) (hr:H1 r=none):A r:=by
 by_cases z:A r
 ·exact z
 ·cases e:H r with
  | none=>exact hA r e
  | some u =>
   have:=h r u e (λy=>B.at (by rw[<- y];exact hr)) z (λy=>hm (by rw[<- y];exact hr));rw[hr] at this;cases this
structure vB (K:FG9) (A:Addr->Prop) (n:Nat) (C:Rat->Prop) (r p b q0:Addr) (us:List V) (H0 H:Hp):Prop where
 gr:H r=some (.lst us)
 ru:∀x∈us,dC K A H n C x
 rp:dC K A H n C (.ref p)
 bag:fH H b
 inn:Inner H b q0
 up:bR b H0 H
section
variable {K:FG9} {A:Addr->Prop} {n:Nat} {C:Rat->Prop} {r p b q0:Addr} {us:List V} {H0 H H':Hp} {y:Rat} {v:V}
theorem vB.same (h:vB K A n C r p b q0 us H0 H) (e:az H H'):vB K A n C r p b q0 us H0 H':=⟨e _ _ h.gr,λx hx=>(h.ru x hx).same e,h.rp.same e,h.bag.same e,(e.upto (p:=b)).2 _ h.inn,h.up.same e⟩
theorem vB.upto (h:vB K A n C r p b q0 us H0 H) (u:bR b H H') (B:fH H' b) (nb:¬A b) (rb:r≠b):vB K A n C r p b q0 us H0 H':=⟨u.other rb h.gr,λx hx=>(h.ru x hx).upto u h.bag nb,h.rp.upto u h.bag nb,B,u.2 _ h.inn,h.up.trans u⟩
theorem vB.put (h:vB K A n C r p b q0 us H0 H) (ap:A p) (nr:¬A r) (nb:¬A b) (nq:¬A q0) (hp:H0 p=none) (hv:bK K H y v) (hc:C y) (j:Nat):∃zs,H p=some (.lst zs)/\zs.length=n/\vB K A n C r p b q0 us H0 (upd H p (.lst (zs.set j v))):=by
 obtain ⟨q,zs,qs,e,a,g,l,_⟩:=h.rp.at;cases e;have ne:∀{z},¬A z->z≠p:=λh e=>h (by rw[e];exact ap)
 exact ⟨zs,g,l,by rw[aH (ne nr)];exact h.gr,λx hx=>(h.ru x hx).put g hv hc j,h.rp.put g hv hc j,h.bag.upd h.inn (ne nb).symm (ne nq).symm,h.inn.upd (ne nb).symm,h.up.after hp⟩
end
theorem o9 {K:FG9} {A:Addr->Prop} {H:Hp} {n:Nat} {C:Rat->Prop} {us:List V} (h:∀x∈us,dC K A H n C x):∃rows:LR9,Paired (λqs x=>∃q,x=V.ref q/\A q/\dB K H q qs) rows us/\rows.length=us.length/\∀qs∈rows,qs.length=n/\∀y∈qs,C y:=by
 induction us with
 | nil=>exact ⟨[],.nil,rfl,λ_ z=>nomatch z⟩
 | cons u us ih =>
  obtain ⟨rows,pr,l,hr⟩:=ih λx hx=>h x (.tail _ hx)
  obtain ⟨q,qs,e,a,r,l1,c⟩:=h u (.head _);refine ⟨qs :: rows,.cons ⟨q,e,a,r⟩ pr,by simp [l],λzs hz=>?_⟩;rcases aA.mp hz with rfl | hz
  ·exact ⟨l1,c⟩
  ·exact hr zs hz
theorem ur {K:FG9} {A:Addr->Prop} {H:Hp} {n:Nat} {C:Rat->Prop} {us:List V} {rows:LR9} (pr:Paired (λqs x=>∃q,x=V.ref q/\A q/\dB K H q qs) rows us) (h:∀qs∈rows,qs.length=n/\∀y∈qs,C y):∀x∈us,dC K A H n C x:=λx hx=>by
 obtain ⟨qs,hq,q,e,a,r⟩:=dy pr hx;exact ⟨q,qs,e,a,r,(h qs hq).1,(h qs hq).2⟩
theorem qN {n:Nat}:∀{rows:LR9},(∀xs∈rows,xs.length=n)->rows.flatten.length=rows.length*n
 | [],_=>by simp
 | xs :: rows,h=>by
  rw[jz,bx,h xs (.head _),qN λys hy=>h ys (.tail _ hy),b6,jx,Nat.add_comm]
theorem uY {c n:Nat} {rows:LR9} (h:∀qs∈rows,qs.length=n/\∀y∈qs,Dr (2^c) y):∃M:Nat,0 < M/\M<=2^(c*(rows.length*n))/\∀qs∈rows,∀y∈qs,Fr M (2^c) y:=by
 have fl:rows.flatten.length=rows.length*n:=qN λys hy=>(h ys hy).1
 have hm:∀a∈rows.flatten.map (·.den),0 < a/\a<=2^c:=λa ha=>by
  obtain ⟨y,hy,rfl⟩:=aN.mp ha;obtain ⟨qs,hq,hy⟩:=jR.mp hy;exact ⟨y.den_pos,((h qs hq).2 y hy).2⟩
 refine ⟨qF (rows.flatten.map (·.den)),qD λa ha=>(hm a ha).1,?_,λqs hq y hy=>?_⟩
 ·have:=tx (k:=c) (l:=rows.flatten.map (·.den)) λa ha=>(hm a ha).2
  rwa [ar,fl] at this
 ·exact (Fr.own y ((h qs hq).2 y hy).1).dvd (qE (aN.mpr ⟨y,jR.mpr ⟨qs,hq,hy⟩,rfl⟩))
theorem mC {K:FG9} {A:Addr->Prop} {H H0:Hp} {n m:Nat} {C:Rat->Prop} {p:Addr} (h:Cr K A H n C p m) (w:∀q,A q->H0 q=none):∃rows,cY K H0 H p rows/\rows.length=m/\∀qs∈rows,qs.length=n/\∀y∈qs,C y:=by
 obtain ⟨us,g,l,a,r⟩:=h;obtain ⟨rows,pr,lr,hr⟩:=o9 r;refine ⟨rows,⟨us,g,Paired.imp' (λ_ _ ⟨q,e,aq,rq⟩=>⟨q,e,w q aq,rq⟩) pr,λhm=>?_⟩,by rw[lr,l],hr⟩;obtain ⟨q,_,e,aq,_⟩:=r _ hm;cases e;exact a aq
theorem el.trans {A:Addr->Prop} {b m:Addr} {H H1 H2:Hp} (h:el A b m H H1) (h':el A b m H1 H2):el A b m H H2:=λc u e n1 n2 n3=>h' c u (h c u e n1 n2 n3) n1 n2 n3
theorem wX {K:FG9} {A:Addr->Prop} {H0 H:Hp} {n:Nat} {C:Rat->Prop} {us:List V} {rows:LR9} (pr:Paired (eL K H0 H) rows us) (h:∀qs∈rows,qs.length=n/\∀y∈qs,C y) (w:∀q,V.ref q∈us->H0 q=none->H q≠none->A q):∀x∈us,dC K A H n C x:=λx hx=>by
 obtain ⟨qs,hq,q,e,a,r⟩:=dy pr hx;subst e;exact ⟨q,qs,rfl,w q hx a (by obtain ⟨_,g,_⟩:=r;rw[g];simp),r,(h qs hq).1,(h qs hq).2⟩
def kq (K:FG9) (H0 H:Hp) (r:Addr) (mv pt lk:LR9):Prop:=∃m p l,H r=some (.tup [.ref m,.ref p,.ref l])/\H0 m=none/\H0 p=none/\H0 l=none/\cY K H0 H m mv/\cY K H0 H p pt/\cY K H0 H l lk
section
variable {K:FG9} {H H' H0 H1:Hp} {r b:Addr} {mv pt lk:LR9}
theorem kq.same (h:kq K H0 H r mv pt lk) (e:az H H'):kq K H0 H' r mv pt lk:=by obtain ⟨m,p,l,g,n1,n2,n3,g1,g2,g3⟩:=h;exact ⟨m,p,l,e _ _ g,n1,n2,n3,g1.same e,g2.same e,g3.same e⟩
theorem kq.upto (h:kq K H0 H r mv pt lk) (u:bR b H H') (B:fH H b) (nb:H0 b≠none):kq K H0 H' r mv pt lk:=by
 obtain ⟨m,p,l,g,n1,n2,n3,g1,g2,g3⟩:=h;exact ⟨m,p,l,u.tup B g,n1,n2,n3,g1.upto u B (λz=>nb (by rw[<- z];exact n1)) nb,g2.upto u B (λz=>nb (by rw[<- z];exact n2)) nb,g3.upto u B (λz=>nb (by rw[<- z];exact n3)) nb⟩
end
inductive oX (K:FG9) (C:Addr) (vs:List V) (H:Hp) (Q:VK) (E9:XK):Prop
 | mk (r:Addr) (H0:Hp) (mv pt lk:LR9):vs=[.ref r]->kq K H0 H r mv pt lk->xX mv pt lk->qY mv pt lk->(∀x H',H x=none->az H H'->we K H H' C x mv pt lk->Q (.ref x) H')->oX K C vs H Q E9
def p6 (k j:Nat) (l:List Rat):Prop:=∃M V:Nat,0 < M/\M<=2^k/\V<=2^j/\∀x∈l,Fr M V x
section
variable {k j k' j':Nat} {l xs ys:List Rat} {x y:Rat}
theorem p6.szn (h:p6 k j l) (hx:x∈l) (hk:k+j<=3950:=by decide):p3 x:=by
 obtain ⟨M,V,h0,h1,h2,h3⟩:=h;obtain ⟨a,b⟩:=(h3 x hx).sz h0 h1 h2;exact ⟨a.mono (by lia),b.mono (by lia)⟩
theorem p6.one (h:p6 k j l) (hx:x∈l):p6 k j [x]:=by
 obtain ⟨M,V,h0,h1,h2,h3⟩:=h;exact ⟨M,V,h0,h1,h2,λy hy=>by rw[t8.mp hy];exact h3 x hx⟩
theorem xJ (h:p6 k j xs) (h':p6 k' j' ys) (hl:xs.length<=1000) (i:Nat) (hk:(k+k')+(j+j')<=3930:=by decide):p3 (kG (xs.take i) (ys.take i)):=by
 obtain ⟨M,V,h0,h1,h2,h3⟩:=h;obtain ⟨N,W,k0,k1,k2,k3⟩:=h'
 have e:1000*(V*W)<=2^(10+(j+j')):=by
  rw[cC 2 10];exact aY (by decide) (ah (aY h2 k2) (by rw[<- cC];exact av _))
 obtain ⟨a,b⟩:=((Fr.dot (λx hx=>h3 x (kE hx)) (λy hy=>k3 y (kE hy))).mono (aL _ (show (xs.take i).length<=1000 by rw[wu];lia))).sz (iL h0 k0) (ah (aY h1 k1) (by rw[<- cC];exact av _)) e;exact ⟨a.mono (by lia),b.mono (by lia)⟩
theorem xo (hx:p6 k j [x]) (hy:p6 k' j' [y]) (hk:(k+k')+(j+j')<=3930:=by decide):p3 (x*y):=by
 obtain ⟨M,V,h0,h1,h2,h3⟩:=hx;obtain ⟨N,W,k0,k1,k2,k3⟩:=hy;obtain ⟨a,b⟩:=((h3 x (.head _)).mul (k3 y (.head _))).sz (iL h0 k0) (ah (aY h1 k1) (by rw[<- cC];exact av _)) (ah (aY h2 k2) (by rw[<- cC];exact av _));exact ⟨a.mono (by lia),b.mono (by lia)⟩
def A1 (xs ys:List Rat):Prop:=∃k j k' j':Nat,p6 k j xs/\p6 k' j' ys/\(k+k')+(j+j')<=3930
end
inductive uW (K:FG9) (vs:List V) (H:Hp) (Q:VK) (E9:XK):Prop
 | mk (p q:Addr) (xs ys:List Rat):vs=[.ref p,.ref q]->dB K H p xs->dB K H q ys->ys.length=xs.length->xs.length<=1000->A1 xs ys->(∀r H',az H H'->bK K H' (kG xs ys) (.ref r)->Q (.ref r) H')->uW K vs H Q E9
inductive uV (K:FG9) (vs:List V) (H:Hp) (Q:VK) (E9:XK):Prop
 | mk (p q:Addr) (H0:Hp) (rows:LR9) (ys:List Rat):vs=[.ref p,.ref q]->cY K H0 H p rows->dB K H q ys->rows.length<=1000->ys.length<=1000->((∀xs∈rows,xs.length=ys.length/\A1 xs ys))->(∀r H',H r=none->az H H'->dB K H' r (rows.map λxs=>kG xs ys)->Q (.ref r) H')->uV K vs H Q E9
section
variable {mv pt lk pus:LR9} {st:List Rat} {k:Nat}
end
end L2
namespace L2
def bQ:Nat->(Nat->Rat)->Rat
 | 0,_=>0
 | k+1,f=>bQ k f+f k
theorem cx {f g:Nat->Rat}:∀{k:Nat},(∀j,j < k->f j=g j)->bQ k f=bQ k g
 | 0,_=>rfl
 | k+1,h=>by
  show bQ k f+f k=bQ k g+g k
  rw[cx λj hj=>h j (by lia),h k (by lia)]
theorem mL {f g:Nat->Rat}:∀{k:Nat},bQ k (λj=>f j+g j)=bQ k f+bQ k g
 | 0=>by show (0:Rat)=0+0;grind
 | k+1=>by
  show bQ k (λj=>f j+g j)+_=(bQ k f+f k)+(bQ k g+g k)
  rw[mL];grind
theorem gN {f:Nat->Rat} {c:Rat}:∀{k:Nat},bQ k (λj=>c*f j)=c*bQ k f
 | 0=>by show (0:Rat)=c*0;grind
 | k+1=>by
  show bQ k (λj=>c*f j)+_=c*(bQ k f+f k)
  rw[gN];grind
theorem lh {f:Nat->Rat}:∀{k:Nat},(∀j,j < k->f j=0)->bQ k f=0
 | 0,_=>rfl
 | k+1,h=>by
  show bQ k f+f k=0
  rw[lh λj hj=>h j (by lia),h k (by lia)];grind
theorem oW {f:Nat->Rat} {i:Nat}:∀{k:Nat},i < k->(∀j,j < k->j≠i->f j=0)->bQ k f=f i
 | k+1,hi,h=>by
  show bQ k f+f k=f i
  by_cases e:i=k
  ·subst e;rw[lh λj hj=>h j (by lia) (by lia)];grind
  ·rw[oW (by lia) λj hj=>h j (by lia),h k (by lia) (λz=>e z.symm)];grind
theorem nE {f:Nat->Nat->Rat} {m:Nat}:∀{k:Nat},bQ k (λi=>bQ m (f i))=bQ m (λj=>bQ k λi=>f i j)
 | 0=>(lh λ_ _=>rfl).symm
 | k+1=>by
  show bQ k (λi=>bQ m (f i))+bQ m (f k)=bQ m (λj=>bQ k (λi=>f i j)+f k j)
  rw[nE,mL]
end L2
namespace L2
open Nm
def tZ (rows:LR9) (i c:Nat):Rat:=(rows.getD i []).getD c 0
section
variable {ls ls0:List (List Int)} {k t n P c:Nat} {b d:Int} {ps:List Nat}
theorem getD_in {α:Type} {l:List α} {i:Nat} {e:α} (h:i < l.length):l.getD i e∈l:=by
 rw[ae,ai h];exact bB h
theorem zU {x:Int} (h:(x:Rat)=0):x=0:=by
 have:(x:Rat)=((0:Int):Rat):=h;exact fk.mp this
end
def Tp (M W:Nat) (q:Rat):Prop:=∃z:Int,q*(M:Rat)=(z:Rat)/\z.natAbs<=W
theorem Tp.of {M V W:Nat} {q:Rat} (h:Fr M V q) (hW:V*M<=W):Tp M W q:=by obtain ⟨z,a,b⟩:=h;exact ⟨z,a,ah b hW⟩
theorem Tp.mono {M W W':Nat} {q:Rat} (h:Tp M W q) (hW:W<=W'):Tp M W' q:=by obtain ⟨z,a,b⟩:=h;exact ⟨z,a,ah b hW⟩
section
variable {rows:LR9} {n w i c:Nat} {xs:List Rat}
theorem wB {M W:Nat} {x:Rat} (h:Tp M W x):(nm x).2∣(M:Int):=by
 obtain ⟨z,e,b⟩:=h
 exact Fr.den (V:=z.natAbs) (M:=M) ⟨z,e,by
  rcases Nat.eq_zero_or_pos M with h | h
  ·subst h;have:(z:Rat)=0:=by rw[<- e];simp
   rw[zU this];simp
  ·exact dc _ h⟩
theorem z0 {M W:Nat} {x:Rat} (h:Tp M W x) (h0:0 < M) {B:Int} (hB:0 < B) (d1:(nm x).2∣B) (d2:B∣(M:Int)):∃t:Int,x*(B:Rat)=(t:Rat)/\t.natAbs<=W:=by
 obtain ⟨z,e,b⟩:=h;obtain ⟨s,es⟩:=d2;refine ⟨(nm x).1*(B / (nm x).2),(oS d1).symm,?_⟩
 have s0:0 < s:=by
  rcases Int.lt_trichotomy s 0 with h | h | h
  ·have:=Int.mul_neg_of_pos_of_neg hB h
   lia
  ·rw[h] at es;lia
  ·exact h
 have e2:(((nm x).1*(B / (nm x).2)*s:Int):Rat)=(z:Rat):=by
  rw[aF,oS d1,<- e,<- bA,es,aF];grind
 have e3:=fk.mp e2;have:((nm x).1*(B / (nm x).2)).natAbs*s.natAbs=z.natAbs:=by rw[<- cw,e3]
 have h1:1<=s.natAbs:=by lia
 have:=dc ((nm x).1*(B / (nm x).2)).natAbs h1
 lia
end
open PySem PySem.Spec PyProof.Rows
theorem Bc {zs:List Int} {c:Nat} (h:c < zs.length):t5 (zs.map V.int) (c:Int)=some (V.int (zs.getD c 0)):=ke (by rw[aB,ae,ai h];rfl)
section
variable {rows rs rs':LR9} {n P w a:Nat} {ps:List Nat}
end
theorem oU {M W:Nat} {x:Rat} (h:Tp M W x) (h0:0 < M) (h1:M<=2^3995) (h2:W<=2^3995):p3 x:=by
 refine ⟨?_,?_⟩
 ·obtain ⟨s,e,b⟩:=z0 h h0 (jE x) (Int.dvd_refl _) (wB h);have e2:(((nm x).1:Int):Rat)=(s:Rat):=by rw[<- e];exact lD x
  rw[fk.mp e2];exact aK (ah b h2) (kC (by decide) (by decide))
 ·have:=fm h0 (oE.mp (wB h));show ((x.den:Nat):Int).natAbs < _
  rw[bZ];exact aK (ah this h1) (kC (by decide) (by decide))
theorem Tp.mul {M W M' W':Nat} {x y:Rat} (h:Tp M W x) (h':Tp M' W' y):Tp (M*M') (W*W') (x*y):=by
 obtain ⟨z,e,b⟩:=h;obtain ⟨z',e',b'⟩:=h';refine ⟨z*z',?_,by rw[cw];exact aY b b'⟩;rw[aF,<- e,<- e',qd];grind
theorem Tp.zero {M W:Nat}:Tp M W 0:=⟨0,by simp,by simp⟩
theorem Tp.add {M W W':Nat} {x y:Rat} (h:Tp M W x) (h':Tp M W' y):Tp M (W+W') (x+y):=by
 obtain ⟨z,e,b⟩:=h;obtain ⟨z',e',b'⟩:=h';refine ⟨z+z',?_,ah (jA _ _) (Nat.add_le_add b b')⟩;rw[kI,<- e,<- e'];grind
theorem Tp.sum {M W:Nat} {f:Nat->Rat}:∀{k:Nat},(∀j,j < k->Tp M W (f j))->Tp M (k*W) (bQ k f)
 | 0,_=>Tp.zero
 | k+1,h=>by
  have:=(Tp.sum (k:=k) λj hj=>h j (by lia)).add (h k (by lia));exact this.mono (by rw[jx];exact av _)
theorem uO {M W:Nat} {xs:List Rat} (h:∀x∈xs,Tp M W x) (c:Nat):Tp M W (xs.getD c 0):=by
 by_cases hc:c < xs.length
 ·exact h _ (getD_in hc)
 ·rw[ae,bV (by lia)];exact Tp.zero
theorem Be {M W:Nat} {R:LR9} (h:∀xs∈R,∀x∈xs,Tp M W x) (i c:Nat):Tp M W (tZ R i c):=by
 unfold tZ;by_cases hi:i < R.length
 ·exact uO (h _ (getD_in hi)) c
 ·rw[ae (l:=R),bV (by lia)];exact Tp.zero
theorem pk {α β:Type} {F:α->β->Prop}:∀{l1:List α} {l2:List β},Paired F l1 l2->Paired F l1.reverse l2.reverse
 | _,_,.nil=>.nil
 | _,_,.cons a r=>by rw[nv,nv];exact cM (pk r) (.cons a .nil)
theorem nW {K:FG9} {l:Addr} {xs:List V} {g:TG} {tf:TT} {te:TE} {Q:VK} {σ₀:St} {H:Hp} (Pv:Nat->List V->Hp->Prop) (hz:xs.length<=sizeLine) (h0:Pv 0 [] H) (hl:∀i ys H,i<=xs.length->Pv i ys H->bL K H l xs)
  (hs:∀i x ys H p,xs[i]?=some x->ys.length<=i->Pv i ys H->H p=none->lQ σ₀ g tf te (.ref p) (upd H p (.tup [.int i,x])) (λy H'=>Pv (i+1) (ys++[y]) H') (λH'=>Pv (i+1) ys H'))
  (hd:∀ys H,ys.length<=xs.length->Pv xs.length ys H->∀p,H p=none->Q (.ref p) (upd H p (.lst ys))):mh (A0 K l) σ₀ g tf te Q H:=by
 refine ⟨λi m ys H=>m=xs.length - i/\i<=xs.length/\ys.length<=i/\Pv i ys H,⟨xs.length,by simp,bq _,bq _,h0⟩,?_⟩;rintro i m ys H ⟨rfl,hi,hy,p⟩;have q1:=hl i ys H hi p;by_cases hlt:i < xs.length
 ·refine .inr ⟨⟨xs,xs[i],q1,by simp [hlt]⟩,by lia,λy H'=>Pv (i+1) (ys++[y]) H',λH'=>Pv (i+1) ys H',λy H' p'=>⟨xs.length - (i+1),by lia,rfl,hlt,by rw[bx,dA];lia,p'⟩,λH' p'=>⟨xs.length - (i+1),by lia,rfl,hlt,by lia,p'⟩,λx H' y=>?_⟩;obtain ⟨r,x',rfl,hr,rfl,e1⟩:=y;exact hs i x' ys _ r (e1 xs q1) hy p hr
 ·have e:i=xs.length:=by lia
  subst e;exact .inl ⟨⟨xs,q1,av _⟩,by lia,hd ys H hy p⟩
section
variable {R rows:LR9} {ps:List Nat} {n a j:Nat}
theorem pS:∀{xs ys:List Rat},xs.length=ys.length->kG xs ys=bQ xs.length λc=>xs.getD c 0*ys.getD c 0:=by
 intro xs ys h
 have key:∀k,k<=xs.length->kG (xs.take k) (ys.take k)=bQ k λc=>xs.getD c 0*ys.getD c 0:=by
  intro k
  induction k with
  | zero=>intro _;rfl
  | succ k ih =>
   intro hk;rw[qO (by lia) (by lia),ih (by lia)];rfl
 have:=key xs.length (av _);rwa [aJ (av _),aJ (by lia)] at this
end
theorem zm {q:Rat} (h:q.den<=9):q.den∣2520:=by
 have:=q.den_pos;generalize q.den=d at h this;have:d=1\/d=2\/d=3\/d=4\/d=5\/d=6\/d=7\/d=8\/d=9:=by lia
 rcases this with rfl | rfl | rfl | rfl | rfl | rfl | rfl | rfl | rfl <;> decide
theorem xI {q:Rat} {M:Nat} (h:Dr 9 q) (hM:2520∣M):Fr M 9 q:=(Fr.own q h.1).dvd (Nat.dvd_trans (zm h.2) hM)
theorem xr {n:Nat}:((List.range n).map λ_=>(0:Rat))=List.replicate n 0:=by rw[List.map_const',cv]
def uL (rows:LR9) (ws:List Rat) (n j:Nat):List Rat:=(List.range n).map λc=>bQ j λi=>ws.getD i 0*tZ rows i c
def zY (rows:LR9) (ws:List Rat) (n:Nat):List Rat:=uL rows ws n ws.length
section
variable {rows:LR9} {ws xs row:List Rat} {n j:Nat}
theorem nD:(uL rows ws n j).length=n:=by unfold uL;rw[ar,cv]
theorem zz (h:j < j+1) {c:Nat} (hc:c < (uL rows ws n j).length):(uL rows ws n j)[c]=bQ j λi=>ws.getD i 0*tZ rows i c:=by
 simp only[uL,wx,List.getElem_range]
theorem ym:uL rows ws n 0=List.replicate n 0:=xr
theorem yn {w:Rat} (hx:rows[j]?=some xs) (hp:ws[j]?=some w) (hw:xs.length=n):List.zipWith (λx y=>x+y) (uL rows ws n j) (xs.map λy=>w*y)=uL rows ws n (j+1):=by
 apply List.ext_getElem (by rw[gV,nD,nD,ar];lia);intro c h1 h2;rw[nD] at h2;rw[kF,wx,zz (by lia),zz (by lia)];show _=bQ j _+_
 congr 1;have e1:ws.getD j 0=w:=by rw[ae,hp];rfl
 have e2:tZ rows j c=xs[c]'(by lia):=by
  unfold tZ;rw[ae (l:=rows),hx];show xs.getD c 0=_
  rw[ae,ai (by lia)];rfl
 dsimp only
 rw[e1,e2]
theorem yo {c:Nat} (hc:c < n):(zY rows ws n).getD c 0=bQ ws.length λi=>ws.getD i 0*tZ rows i c:=by
 unfold zY uL;rw[ae,aB,dh hc];rfl
end
section
variable {rows R:LR9} {due:List Rat} {ps:List Nat} {n:Nat}
theorem zk {xs ys:List Rat} {M V D B:Nat} (h:ys.length=xs.length) (hx:∀x∈xs,Fr M V x) (hy:∀y∈ys,Fr D B y):Fr (M*D) (xs.length*(V*B)) (kG xs ys):=by
 rw[pS h.symm]
 have key:∀j,j<=xs.length->Fr (M*D) (j*(V*B)) (bQ j λc=>xs.getD c 0*ys.getD c 0):=by
  intro j
  induction j with
  | zero=>intro _;exact Fr.zero
  | succ j ih =>
   intro hj;exact ((ih (by lia)).add ((hx _ (getD_in (by lia))).mul (hy _ (getD_in (by lia))))).mono (Nat.le_of_eq (jx j (V*B)).symm)
 exact key _ (av _)
end
section
variable {rows rows' R R':LR9} {n w W:Nat} {ps ps':List Nat}
end
section
variable {mv pt R R' S X Y:LR9} {n t m i c:Nat} {ps ps':List Nat} {a:Nat->Nat->Rat}
end
theorem qI {α:Type} {v:α}:∀{l:List α},l.Nodup->v∉l->∀j,(l.set j v).Nodup
 | [],_,_,_=>zX
 | a :: l,h,hn,0=>by
  rw[cD] at h;rw[List.set_cons_zero,cD];exact ⟨λz=>hn (.tail _ z),h.2⟩
 | a :: l,h,hn,j+1=>by
  rw[cD] at h;rw[List.set_cons_succ,cD];refine ⟨λz=>?_,qI h.2 (λz=>hn (.tail _ z)) j⟩;rcases gS z with z | z
  ·exact h.1 z
  ·exact hn (by rw[z];exact .head _)
structure fG (K:FG9) (A:Addr->Prop) (H:Hp) (n:Nat) (C:V->Rat->Prop) (m p l b q0:Addr) (us ws vs:List V):Prop where
 bag:fH H b
 inn:Inner H b q0
 gm:H m=some (.lst us)
 gp:H p=some (.lst ws)
 gl:H l=some (.lst vs)
 lm:us.length=n
 row:∀x∈us++vs++ws,dC K A H n (C x) x
 nd:(us++vs++ws).Nodup
section
variable {K:FG9} {A:Addr->Prop} {H H':Hp} {n:Nat} {C C':V->Rat->Prop} {m p l b q0 q:Addr} {us ws vs zs:List V} {y:Rat} {v:V}
theorem fG.same (h:fG K A H n C m p l b q0 us ws vs) (e:az H H'):fG K A H' n C m p l b q0 us ws vs :=
 ⟨h.bag.same e,(e.upto (p:=b)).2 _ h.inn,e _ _ h.gm,e _ _ h.gp,e _ _ h.gl,h.lm,λx hx=>(h.row x hx).same e,h.nd⟩
theorem fG.upto (h:fG K A H n C m p l b q0 us ws vs) (M:uI A m p l b q0) (u:bR b H H') (B':fH H' b):fG K A H' n C m p l b q0 us ws vs :=
 ⟨B',u.2 _ h.inn,u.other M.mb h.gm,u.other M.pb h.gp,u.other M.lb h.gl,h.lm,λx hx=>(h.row x hx).upto u h.bag M.ab,h.nd⟩
theorem fG.weak (h:fG K A H n C m p l b q0 us ws vs) (w:∀x∈us++vs++ws,∀y,C x y->C' x y):fG K A H n C' m p l b q0 us ws vs :=
 ⟨h.bag,h.inn,h.gm,h.gp,h.gl,h.lm,λx hx=>(h.row x hx).weak (λ_ z=>z) (w x hx),h.nd⟩
theorem fG.put (h:fG K A H n C m p l b q0 us ws vs) (M:uI A m p l b q0) (aq:A q) (hq:H q=some (.lst zs)) (hv:bK K H y v) (hc:C (.ref q) y) (j:Nat):fG K A (upd H q (.lst (zs.set j v))) n C m p l b q0 us ws vs:=by
 have ne:∀{z},¬A z->z≠q:=λh e=>h (by rw[e];exact aq)
 refine ⟨h.bag.upd h.inn (ne M.ab).symm (ne M.aq).symm,h.inn.upd (ne M.ab).symm,by rw[aH (ne M.am)];exact h.gm,by rw[aH (ne M.ap)];exact h.gp,by rw[aH (ne M.al)];exact h.gl,h.lm,λx hx=>?_,h.nd⟩;by_cases e:x=.ref q
 ·subst e;exact (h.row _ hx).put hq hv hc j
 ·obtain ⟨q1,qs,rfl,a1,r1,l1,c1⟩:=h.row x hx;exact ⟨q1,qs,rfl,a1,r1.updL hq (λz=>e (by rw[z])),l1,c1⟩
theorem fG.set (h:fG K A H n C m p l b q0 us ws vs) (M:uI A m p l b q0) (hx:dC K A H n (C v) v) (hn:v∉us++vs++ws) (j:Nat):fG K A (upd H m (.lst (us.set j v))) n C m p l b q0 (us.set j v) ws vs:=by
 have mem:∀x∈us.set j v++vs++ws,x=v\/x∈us++vs++ws:=λx hx=>by
  rcases aD.mp hx with hx | hx
  ·rcases aD.mp hx with hx | hx
   ·rcases gS hx with hx | hx
    ·exact .inr (by simp [hx])
    ·exact .inl hx
   ·exact .inr (by simp [hx])
  ·exact .inr (by simp [hx])
 refine ⟨h.bag.upd h.inn M.mb M.mq,h.inn.upd M.mb,ay,by rw[aH M.mp.symm];exact h.gp,by rw[aH M.ml.symm];exact h.gl,by rw[yj];exact h.lm,λx hx'=>?_,?_⟩
 ·rcases mem x hx' with rfl | hx'
  ·exact hx.other h.gm M.am
  ·exact (h.row x hx').other h.gm M.am
 ·have nd:=h.nd;rw[nA] at nd hn ⊢;obtain ⟨n1,n2,n3⟩:=dd.mp nd;refine dd.mpr ⟨?_,n2,λa ha c hc=>?_⟩
  ·rcases Nat.lt_or_ge j us.length with z | z
   ·exact qI n1 (λz'=>hn (aD.mpr (.inl z'))) j
   ·rw[List.set_eq_of_length_le z];exact n1
  ·rcases gS ha with ha | rfl
   ·exact n3 a ha c hc
   ·exact λz=>hn (aD.mpr (.inr (by rw[z];exact hc)))
end
theorem vn {M W:Nat} {x:Rat} (h0:0 < M) (h1:M<=2^800) (hW:W<=2^140) (h:Fr M W x):p3 x :=
 uD h0 (ah h1 (aj (by decide) (by decide))) (ah hW (aj (by decide) (by decide))) h
theorem yZ {t V c:Nat} (ht:t<=3) (hV:V<=2^20) (hc:c<=9):c*(9^t*V)<=2^140:=by
 have h1:9^t<=9^3:=aj (by decide) ht;have h2:c*(9^t*V)<=9*(9^3*2^20):=aY hc (aY h1 hV);exact ah h2 (ah (show 9*(9^3*2^20)<=2^40 by decide) (aj (by decide) (by decide)))
theorem pK {α:Type} {l:List α} {v:α} (h:l.Nodup) (hn:v∉l):(l++[v]).Nodup:=dd.mpr ⟨h,by simp,λa ha c hc=>by rw[t8.mp hc];exact λz=>hn (by rw[<- z];exact ha)⟩
section
variable {K:FG9} {a:Addr} {xs:List V} {g:TG} {tf:TT} {te:TE} {Q:VK} {σ₀:St} {H:Hp} {α β:Type}
theorem qQ {n:Nat} {b:Addr} (G:Hp->β->V->Prop) (C:β->Prop) (hB:fH H b) (hl:n<=1000) (hG:∀{H' H'' c x},G H' c x->bR b H' H''->fH H' b->G H'' c x)
  (hA:∀{H' c x},G H' c x->∃q,x=V.ref q/\H' q≠none)
  (hs:∀(i:Nat) H' NY NN,i < n->bR b H H'->fH H' b->(∀y c H2,bR b H' H2->fH H2 b->C c->G H2 c y->(∃q,y=V.ref q/\H' q=none)->NY y H2)->lQ σ₀ g tf te (.int i) H' NY NN)
  (hd:∀ys cs H' p,H p=none->bR b H H'->fH H' b->H' p=some (.lst ys)->cs.length=n->ys.Nodup->(∀c∈cs,C c)->Paired (G H') cs ys->(∃H2,H2 p=none/\Paired (G H2) cs ys)->Q (.ref p) H'):mh (t6 0 n) σ₀ g tf te Q H:=by
 refine iI (λi ys H'=>bR b H H'/\fH H' b/\∃cs,cs.length=i/\ys.Nodup/\(∀c∈cs,C c)/\Paired (G H') cs ys) (bu (bF (by lia))) ⟨(az.refl _).upto,hB,[],rfl,zX,(λ_ z=>nomatch z),.nil⟩ ?_ ?_
 ·rintro i ys H' hi hlen ⟨u,B,cs,lc,nd,hc,pr⟩;rw[oR];refine hs i H' _ _ hi u B λy c H2 u2 B2 cc gy ⟨q,ey,nq⟩=>⟨u.trans u2,B2,cs++[c],by simp [lc],pK nd (λz=>by obtain ⟨c',_,gc⟩:=dy pr z;obtain ⟨q',e',h'⟩:=hA gc;rw[ey] at e';cases e';exact h' nq),vz hc cc,cM (Paired.imp' (λ_ _ z=>hG z u2 B) pr) (.cons gy .nil)⟩
 ·rintro ys H' hy ⟨u,B,cs,lc,nd,hc,pr⟩ p hp;have s:az H' (upd H' p (.lst ys)):=az.new hp;exact hd ys cs _ p (u.none B hp) (u.same s) (B.same s) ay lc nd hc (Paired.imp' (λ_ _ z=>hG z s.upto B) pr) ⟨H',hp,pr⟩
end
structure uG (K:FG9) (A:Addr->Prop) (n:Nat) (C:Rat->Prop) (m p l b q0:Addr) (us ws vs:List V) (H0 H:Hp):Prop where
 mix:fG K A H n (λ_=>C) m p l b q0 us ws vs
 gp:H p=some (.lst ws)
 gl:H l=some (.lst vs)
 kp:el A b m H0 H
section
variable {K:FG9} {A:Addr->Prop} {n:Nat} {C:Rat->Prop} {m p l b q0 q:Addr} {us ws vs:List V} {H0 H H':Hp} {y:Rat} {v:V}
theorem uG.same (h:uG K A n C m p l b q0 us ws vs H0 H) (e:az H H'):uG K A n C m p l b q0 us ws vs H0 H':=⟨h.mix.same e,e _ _ h.gp,e _ _ h.gl,h.kp.same e⟩
theorem uG.upto (h:uG K A n C m p l b q0 us ws vs H0 H) (M:uI A m p l b q0) (u:bR b H H') (B:fH H' b):uG K A n C m p l b q0 us ws vs H0 H':=⟨h.mix.upto M u B,u.other M.pb h.gp,u.other M.lb h.gl,h.kp.upto u⟩
theorem uG.row (h:uG K A n C m p l b q0 us ws vs H0 H) {x:V} (hx:x∈ws\/x∈vs):dC K A H n C x:=h.mix.row x (by rcases hx with hx | hx <;> simp [hx])
theorem uG.put (h:uG K A n C m p l b q0 us ws vs H0 H) (M:uI A m p l b q0) (hx:V.ref q∈ws\/V.ref q∈vs) (hv:bK K H y v) (hc:C y) (j:Nat):∃zs,H q=some (.lst zs)/\zs.length=n/\uG K A n C m p l b q0 us ws vs H0 (upd H q (.lst (zs.set j v))):=by
 obtain ⟨q',zs,qs,e,a,g,lz,_⟩:=(h.row hx).at;cases e;have ne:∀{z},¬A z->z≠q:=λh e=>h (by rw[e];exact a)
 exact ⟨zs,g,lz,h.mix.put M a g hv hc j,by rw[aH (ne M.ap)];exact h.gp,by rw[aH (ne M.al)];exact h.gl,h.kp.upd (.inl a)⟩
end
inductive sU (K:FG9) (vs:List V) (H:Hp) (Q:VK) (E9:XK):Prop
 | mk (b:Addr) (n w:Nat) (way first:Int):vs=[.ref b,.int n,.int way,.int first,.int w]->fH H b->n<=8->1<=w->w<=1000000->(∀r us H',H r=none->H' r=some (.lst us)->us.length=n->us.Nodup->(∀x∈us,dC K (λq=>H q=none/\q≠r) H' n (Dr (max w 6)) x)->fH H' b->bR b H H'->Q (.ref r) H')->sU K vs H Q E9
def PtF (n i o w c:Nat) (mv pt lk:LR9):Prop:=∃M V1:Nat,0 < M/\GF M V1 mv/\GF M V1 pt/\GF M V1 lk/\((w<=9/\M=2520/\V1=9^3*9)\/(9 < w/\M<=2^(c*((n+i+o)*n))/\V1=9^3*2^c))
section
variable {rows fs ls:LR9} {n r M W Wv Wb k P:Nat} {Pm Y Z B E a:Nat->Nat->Rat} {d:Rat} {ps:List Nat} {rs:LR9}
end
section
variable {rows R R1 R2 mv pt:LR9} {n r M V1 W W' Wv Wb k P:Nat} {Pm Y Z B E a:Nat->Nat->Rat} {d:Rat} {ps ps1 ps2:List Nat} {rs:LR9}
theorem nF {f:Nat->Rat} {a:Nat}:∀{b:Nat},bQ (a+b) f=bQ a f+bQ b λt=>f (a+t)
 | 0=>by show bQ a f=bQ a f+0;grind
 | b+1=>by
  show bQ (a+b) f+f (a+b)=_+(bQ b _+f (a+b))
  rw[nF];grind
end
theorem wV:typeLookup (.type "list_reverseiterator") "__len__"=pure none:=by
 rw[typeLookup_type,builtinLookup_eq_fast]
 kernel_rfl
theorem yB:typeLookup (.type "list_reverseiterator") "__length_hint__"=pure (some (.builtin "list_reverseiterator.__length_hint__")):=by
 rw[typeLookup_type,builtinLookup_eq_fast]
 kernel_rfl
section
variable {prog:Program} {w:World} {A:Around} {E:Value->Shared->Prop} {s:Shared}
theorem yz {it l:Addr} {i:Int} {Q:Bool->Shared->Prop} (hit:s.heap.IsRevIter it l i) (q:Q false s):wpAny (model prog w) A (Builtin.List.listLengthHint (.ref it)) Q E s:=by
 unfold Builtin.List.listLengthHint;refine wpAny_bind (wpAny_specialOf hit.typeIs wV ?_);show wpAny _ A (specialOf (Value.ref it) (Str.ofString "__length_hint__") >>= _) Q E s
 refine wpAny_bind (wpAny_specialOf hit.typeIs yB ?_);generalize hid:("list_reverseiterator.__length_hint__":String)=id0
 dsimp only
 rw[show splitId id0=some ("list_reverseiterator","__length_hint__") from by subst hid;decide +kernel];subst hid;refine wpAny_bind (wpAny_isInstance (T:="list_reverseiterator") (b:=true) hit.typeIs (by rw[isSubtype_type];kernel_rfl) ?_);refine wpAny_ite_split (λz=>absurd z (by decide)) (λ_=>?_);refine wpAny_ite_split (λ_=>?_) (λz=>absurd (by decide +kernel) z);exact wpAny_ite_split (λz=>absurd z (by decide +kernel)) (λ_=>wpAny_pure q)
theorem yC {R:Result->Shared->Prop} {I l S:Addr} {items:Array Value} {res:Value} {c0:Nat} (hh:A.handled=none) (hit:s.heap.IsRevIter I l ((items.size:Int) - 1)) (hl:s.heap.IsList l items) (nI:l≠I) (nS:S≠I) (nL:S≠l) (hn:items.size<=sizeLine) (hS:s.heap.get? S=some { cls:=.type "list",data:=.seq #[] c0 })
  (hR:∀h' tk acc c,(∀b o,b≠S->b≠I->s.heap.get? b=some o->h'.get? b=some o)->h'.get? S=some { cls:=.type "list",data:=.seq acc c }->ItemsOf (λi v=>items[items.size - 1 - i]?=some v) acc items.size->R (.ok (.ret res)) { s with heap:=h',toks:=tk }) :
  wpAny (model prog w) A.in1 (Builtin.List.listExtendWith (.ref S) (.ref I) res) (λfin s2=>match fin with | .done f=>R (.ok f) s2 | .again c=>c.quiet=true/\codeAny (model prog w) A c R s2) (λe s2=>R (.error e) s2) s:=by
 have W:=(Walks.listRev (prog:=prog) (w:=w) (A:=A.in1) hh I l nI items).toS;unfold Builtin.List.listExtendWith;refine wpAny_bind (wpAny_typeOf hit.typeIs ?_);rw[if_neg (by simp [Builtin.List.listSameRef,nS])];refine wpAny_bind (wpAny_pyIter_revIter hit ?_);refine wpAny_bind (wpAny_holding (yz hit ?_));refine wpAny_ite_split (λz=>absurd z (by decide +kernel)) (λ_=>?_);have h0:s.heap.IsRevIter I l ((items.size:Int) - 1 - ((0:Nat):Int)):=by simpa using hit
 refine wpAny_pure ⟨plainId_quiet F.plain_extend_loop _,codeAny_extend_loopS W hn S (by simp [nS,nL]) res items.size 0 s #[] c0 rfl (bq _) ⟨bq _,h0,hl⟩ hS (ItemsOf.nil _) λs2 acc c hm h2 hi=>?_⟩;rw[Moved.eq_with hm];exact hR s2.heap s2.toks acc c (λb o n1 n2 e=>hm.heap b o (by simp [n1,n2]) e) h2 hi
theorem yA {Q : Value → Shared → Prop} {I l : Addr} {items : Array Value} (hh : A.handled = none) (hit : s.heap.IsRevIter I l ((items.size : Int) - 1)) (hl : s.heap.IsList l items) (nI : l ≠ I) (hn : items.size ≤ sizeLine)
    (hQ : ∀ h' tk acc c, (∀ b o, b ≠ I → s.heap.get? b = some o → h'.get? b = some o) → h'.get? s.heap.objs.size = some { cls := .type "list", data := .seq acc c } → ItemsOf (λi v => items[items.size - 1 - i]? = some v) acc items.size → Q (.ref s.heap.objs.size) { s with heap := h', toks := tk }) :
    wpAny (model prog w) A (call (.type "list") [.ref I]) Q E s := by
  refine callType_codes (Q₁ := λx s2 => x = .ref s.heap.objs.size /\ s2 = { s with heap := s.heap.push { cls := .type "list", data := .seq #[] } }) F.called_list (F.typeCall_list_1 _) F.entry_list_init (code_list_new _ ⟨rfl, rfl⟩) λx s2 hx => ?_
  obtain ⟨rfl, rfl⟩ := hx;have up : ∀ b o, s.heap.get? b = some o → (s.heap.push { cls := .type "list", data := .seq #[] }).get? b = some o := λb o e => Heap.get?_push_of_some _ e
  have hS : (s.heap.push { cls := .type "list", data := .seq #[] }).get? s.heap.objs.size = some { cls := .type "list", data := .seq #[] } := Heap.get?_push_size _ rfl
  have lI : I ≠ s.heap.objs.size := by
    obtain ⟨o, ho, _⟩ := hit;exact aU (Heap.lt_size ho)
  have lL : l ≠ s.heap.objs.size := by
    obtain ⟨o, ho, _⟩ := hl;exact aU (Heap.lt_size ho)
  refine ⟨⟨_, hS, rfl⟩, F.args_list_init_2 _ _, ?_⟩;show wpAny _ A.in1.in1 (do let old <- Builtin.List.listItems (.ref s.heap.objs.size); Builtin.List.listUpdate (.ref s.heap.objs.size) (λ_ => #[]); letGo old.toList.reverse; Builtin.List.listExtendWith (.ref s.heap.objs.size) (.ref I) .none) _ _ _
  refine wpAny_bind ?_;unfold Builtin.List.listItems;refine wpAny_bind (wpAny_seqItems hS rfl (wpAny_pure ?_));refine wpAny_bind (m := Builtin.List.listUpdate (.ref s.heap.objs.size) (λ_ => #[])) (wpAny_updateSeq hS rfl ?_);have h3 := Heap.get?_update_self (Obj.mapSeq (λ_ => (#[] : Array Value))) hS rfl;have o3 : ∀ b o, b ≠ s.heap.objs.size → (s.heap.push { cls := .type "list", data := .seq #[] }).get? b = some o → ((s.heap.push { cls := .type "list", data := .seq #[] }).update s.heap.objs.size (Obj.mapSeq (λ_ => (#[] : Array Value)))).get? b = some o := λb o nb e => (Heap.get?_update_other _ _ (Ne.symm nb)).trans e
  refine wpAny_bind (wpAny_letGo ?_);refine yC (A := A.in1) hh (hit.at λo e => o3 _ _ lI (up _ _ e)) (hl.at λo e => o3 _ _ lL (up _ _ e)) nI lI.symm lL.symm hn h3 λh' tk acc c hk h2 hi => ?_
  exact ⟨rfl, hQ h' tk acc c (λb o nb e => hk b o (aU (Heap.lt_size e)) nb (o3 _ _ (aU (Heap.lt_size e)) (up _ _ e))) h2 hi⟩
end
section
variable {X:Cx}
def sN (K:FG9) (ta:TA):TE:=λσ H Q=>ta σ H λvs H1=>∃l xs,vs=[.ref l]/\bL K H1 l xs/\xs.length<=1000/\∀L H',az H1 H'->H1 L=none->H' L=some (.lst xs.reverse)->Q (.ref L) H'
theorem sJ:∀{xs:List V} {us:List Value},bJ xs us->bJ xs.reverse us.reverse
 | _,_,.nil=>.nil
 | _,_,.cons h r=>by
  rw[nv,nv];exact bJ.append (sJ r) (.cons h .nil)
theorem uv (K:FG9) {e1:Expr} {ta:TA} {p p2 pos pos2:Pos} (hg:Gl X "list") (hm:X.mg "list"=none) (hg2:Gl X "reversed") (hm2:X.mg "reversed"=none) (ha:PA X [e1] ta) (hK:X.K=K:=by rfl) (hc:X.calm=true:=by rfl)
  (hs:starEach [e1] X.env=[(false,eval e1 X.env)]:=by rfl)
  (hs3:starEach [Expr.Call (.Name "reversed" p2) [e1] [] pos2] X.env=[(false,eval (.Call (.Name "reversed" p2) [e1] [] pos2) X.env)]:=by rfl) :
  PE X (.Call (.Name "list" p) [.Call (.Name "reversed" p2) [e1] [] pos2] [] pos) (sN K ta):=by
 subst hK;intro pins s σ H Q I h;refine wpAny_Call_Name_kw (iH I hg hm boot_list ?_);refine PyProof.Rows.callWith_type1 ?_ (by rw[hs3];rfl) rfl;rw[hs3];show wpAny _ _ (spliced ((false,eval (.Call (.Name "reversed" p2) [e1] [] pos2) X.env) :: [])) _ _ s
 refine Calls.spliced_cons ?_;refine Call_ (iH I hg2 hm2 boot_reversed (PyProof.Rows.callWith_type1 (dJ (ha pos2 pins s σ H _ I h) λus s1 ⟨vs,H1,I1,r1,q1⟩=>?_) hs rfl));obtain ⟨l,xs,e,hl,hn,q⟩:=q1;subst e;obtain ⟨u,rfl,ru⟩:=vals1 r1;cases ru;obtain ⟨its,rv,pl,hz⟩:=I1.list hl;have hlen:=rv.length;have pI:=pl.isList;refine call_reversed_list pI ?_;refine Calls.spliced_nil ?_;have kp:∀b o,s1.heap.get? b=some o->(s1.heap.push (revObj l ((its.toArray.size:Int) - 1))).get? b=some o:=λb o e=>Heap.get?_push_of_some _ e
 have nI:l≠s1.heap.objs.size:=by
  obtain ⟨o,ho,_⟩:=pI;exact aU (Heap.lt_size ho)
 refine yA (I.ok.hd hc) (I:=s1.heap.objs.size) (l:=l) (items:=its.toArray) ⟨_,Heap.get?_push_size _ rfl,rfl,rfl⟩ (pI.at λo e=>kp _ _ e) nI (by rw[ax];lia) λh' tk acc c hk hS hacc=>?_
 have sz:s1.heap.objs.size<=(s1.heap.push (revObj l ((its.toArray.size:Int) - 1))).objs.size:=by rw[Heap.size_push];exact nu _
 have nS:=I1.hok.fresh sz
 have ea:acc.toList=its.reverse:=by
  apply vE;intro j;rcases Nat.lt_or_ge j its.length with z | z
  ·have hj:j < acc.toList.length:=by rw[Array.length_toList,hacc.1,ax];exact z
   have:=hacc.2 j acc.toList[j] (by rw[<- Array.getElem?_toList];exact ai hj);rw[ai hj,List.getElem?_reverse z];simpa using this.symm
  ·rw[bV (by rw[Array.length_toList,hacc.1,ax];exact z),bV (by rw[sG];exact z)]
 have vs':bJ xs.reverse acc.toList:=by rw[ea];exact sJ rv
 have sl:xs.reverse.length<=sizeLine:=by rw[sG];exact hz
 refine ⟨.ref _,_,I1.laid (o:=.lst xs.reverse) (λb o e=>hk b o (aU (Heap.lt_size e)) (kp b o e)) sz ?_,rfl,q _ _ (az.new nS) nS ay⟩;exact ⟨sl,acc.toList,c,vs',by simpa using hS⟩
end
def xm (l:Addr):Hp:=λq=>if q=l then some (.lst []) else none
theorem off_ne {l:Addr}:xm l l≠none:=by unfold xm;rw[if_pos rfl];exact λz=>nomatch z
theorem xl {l q:Addr} (h:q≠l):xm l q=none:=by unfold xm;rw[if_neg h]
section
variable {X:Cx}
end
theorem xp (ws vs:List V) (M1 M2 M3:Nat):∃μ:V->Nat,(∀x∈ws,μ x=M2)/\(∀x∈vs,x∉ws->μ x=M3)/\(∀x,x∉ws->x∉vs->μ x=M1)/\∀x,μ x=M1\/μ x=M2\/μ x=M3:=by
 classical
 refine ⟨λx=>if x∈ws then M2 else if x∈vs then M3 else M1,λx h=>if_pos h,λx h h'=>?_,λx h h'=>?_,λx=>?_⟩
 ·show (if x∈ws then M2 else if x∈vs then M3 else M1)=M3
  rw[if_neg h',if_pos h]
 ·show (if x∈ws then M2 else if x∈vs then M3 else M1)=M1
  rw[if_neg h,if_neg h']
 ·show (if x∈ws then M2 else if x∈vs then M3 else M1)=M1\/(if x∈ws then M2 else if x∈vs then M3 else M1)=M2\/(if x∈ws then M2 else if x∈vs then M3 else M1)=M3
  by_cases h:x∈ws
  ·rw[if_pos h];exact .inr (.inl rfl)
  ·rw[if_neg h];by_cases h':x∈vs
   ·rw[if_pos h'];exact .inr (.inr rfl)
   ·rw[if_neg h'];exact .inl rfl
theorem fG.apart {K:FG9} {A:Addr->Prop} {H:Hp} {n:Nat} {C:V->Rat->Prop} {m p l b q0:Addr} {us ws vs:List V} (h:fG K A H n C m p l b q0 us ws vs):(∀x∈us,x∉ws/\x∉vs)/\∀x∈vs,x∉ws:=by
 obtain ⟨n1,n2,n3⟩:=dd.mp h.nd;obtain ⟨n4,n5,n6⟩:=dd.mp n1;exact ⟨λx hx=>⟨λz=>n3 x (aD.mpr (.inl hx)) x z rfl,λz=>n6 x hx x z rfl⟩,λx hx z=>n3 x (aD.mpr (.inr hx)) x z rfl⟩
theorem fG.fr3 {K:FG9} {A:Addr->Prop} {H:Hp} {n c:Nat} {m p l b q0:Addr} {us ws vs:List V} (h:fG K A H n (λ_=>Dr (2^c)) m p l b q0 us ws vs):∃M1 M2 M3,0 < M1/\0 < M2/\0 < M3/\M1<=2^(c*(n*n))/\M2<=2^(c*(ws.length*n))/\M3<=2^(c*(vs.length*n))/\(∀x∈us,dC K A H n (Fr M1 (2^c)) x)/\(∀x∈ws,dC K A H n (Fr M2 (2^c)) x)/\∀x∈vs,dC K A H n (Fr M3 (2^c)) x:=by
 have one:∀l:List V,(∀x∈l,x∈us++vs++ws)->∃M,0 < M/\M<=2^(c*(l.length*n))/\∀x∈l,dC K A H n (Fr M (2^c)) x:=λl hl=>by
  obtain ⟨ra,pa,la,ha⟩:=o9 λx hx=>h.row x (hl x hx)
  obtain ⟨M,m0,m1,m2⟩:=uY (c:=c) (n:=n) (rows:=ra) ha;exact ⟨M,m0,by rw[la] at m1;exact m1,ur pa λqs hq=>⟨(ha qs hq).1,m2 qs hq⟩⟩
 obtain ⟨M1,a1,a2,a3⟩:=one us λx hx=>by simp [hx]
 obtain ⟨M2,b1,b2,b3⟩:=one ws λx hx=>by simp [hx]
 obtain ⟨M3,c1,c2,c3⟩:=one vs λx hx=>by simp [hx]
 rw[h.lm] at a2;exact ⟨M1,M2,M3,a1,b1,c1,a2,b2,c2,a3,b3,c3⟩
inductive qB (K:FG9) (xs:List V) (H:Hp) (Q:VK) (E9:XK):Prop
 | mk (b m p l q0:Addr) (n V1:Nat) (μ:V->Nat) (A:Addr->Prop) (us ws vs:List V):xs=[.ref b,.ref m,.ref p,.ref l]->uI A m p l b q0->fG K A H n (λx=>Fr (μ x) V1) m p l b q0 us ws vs->n<=8->ws.length<=4->vs.length<=4->(∀x,0 < μ x)->(∀x,μ x<=2^800)->(∃M,∀x,x∉ws->x∉vs->μ x=M)->V1<=2^20->(∀q,H q=none->A q)->(∀r us' H',H' r=some (.tup [.ref m,.ref p,.ref l])->fG K A H' n (λx=>Fr (μ x) (9^3*V1)) m p l b q0 us' ws vs->el A b m H H'->Q (.ref r) H')->qB K xs H Q E9
def Cy (n i o w c:Nat) (mv pt lk:LR9):Prop:=∃M1 M2 M3 V1:Nat,0 < M1/\0 < M2/\0 < M3/\GF M1 V1 mv/\GF M2 V1 pt/\GF M3 V1 lk/\((w<=9/\M1=2520/\M2=2520/\M3=2520/\V1=9^3*9)\/(9 < w/\M1<=2^(c*(n*n))/\M2<=2^(c*(i*n))/\M3<=2^(c*(o*n))/\V1=9^3*2^c))
inductive qA (K:FG9) (vs:List V) (H:Hp) (Q:VK) (E9:XK):Prop
 | mk (b:Addr) (n i o w c:Nat):vs=[.ref b,.int n,.int i,.int o,.int w]->fH H b->n<=8->i<=4->o<=4->1<=w->w<=1000000->max w 6<=2^c->c<=20->c*((n+i+o)*n)<=800->(∀r mv pt lk H',kq K H H' r mv pt lk->mv.length=n->pt.length=i->lk.length=o->xX mv pt lk->Cy n i o w c mv pt lk->fH H' b->bR b H H'->Q (.ref r) H')->qA K vs H Q E9
theorem uB {M V:Nat} {l:LR9} (h:GF M V l) (k:Nat):GF (k*M) V l:=λxs hx x hx'=>(h xs hx x hx').scaleL k
theorem Cy.n {n i o w c:Nat} {mv pt lk:LR9} (h:Cy n i o w c mv pt lk):PtF n i o w c mv pt lk:=by
 obtain ⟨M1,M2,M3,V1,a1,a2,a3,f1,f2,f3,hc⟩:=h;rcases hc with ⟨w9,rfl,rfl,rfl,e⟩ | ⟨w9,e1,e2,e3,e⟩
 ·exact ⟨2520,V1,by decide,f1,f2,f3,.inl ⟨w9,rfl,e⟩⟩
 ·refine ⟨M1*M2*M3,V1,iL (iL a1 a2) a3,?_,?_,?_,.inr ⟨w9,?_,e⟩⟩
  ·have:=uB f1 (M2*M3);rwa [show M2*M3*M1=M1*M2*M3 by rw[dS (M2*M3),dr]] at this
  ·have:=uB f2 (M1*M3);rwa [show M1*M3*M2=M1*M2*M3 by rw[dr,dS M3,dr]] at this
  ·exact uB f3 (M1*M2)
  ·refine ah (aY (aY e1 e2) e3) ?_;rw[<- cC,<- cC,show c*((n+i+o)*n)=c*(n*n)+c*(i*n)+c*(o*n) by rw[Nat.add_mul,Nat.add_mul,Nat.mul_add,Nat.mul_add]];exact av _
open PySem.MeetsSeq
section
variable {rows ends:LR9} {row due:List Rat} {n:Nat}
theorem mul_pow {a b c d:Nat} (h:a<=2^c) (h':b<=2^d):a*b<=2^(c+d):=by
 rw[cC];exact aY h h'
end
def jY (a b:List Int):Int:=(List.zipWith (·*·) a b).sum
def pE (ls:List (List Int)) (v:List Int):List Int:=ls.map λl=>jY l v
def cX (b:Int):Nat->List Int->List Int
 | _,[]=>[]
 | 0,v :: r=>(v+b) :: r
 | p+1,v :: r=>v :: cX b p r
def cV (b:Int):Nat->List (List Int)->List (List Int)
 | _,[]=>[]
 | p,l :: r=>cX b p l :: cV b (p+1) r
def qg:Nat->List (List Int)->Int
 | _,[]=>0
 | p,l :: r=>l.getD p 0+qg (p+1) r
def dz (T:List (List Int)) (n:Nat):Nat->List (List Int)×Int
 | 0=>(List.replicate n (List.replicate n 0),1)
 | k+1=>((cV (dz T n k).2 0 (dz T n k).1).map (pE T),(-(qg 0 ((cV (dz T n k).2 0 (dz T n k).1).map (pE T)))).fdiv (k+1))
theorem eC {T C C':List (List Int)} {n k:Nat} {l l':Int} (h:dz T n k=(C,l)) (hC:(cV l 0 C).map (pE T)=C') (ht:-(qg 0 C')=((k+1:Nat):Int)*l'):dz T n (k+1)=(C',l'):=by
 have e:dz T n (k+1)=((cV (dz T n k).2 0 (dz T n k).1).map (pE T),(-(qg 0 ((cV (dz T n k).2 0 (dz T n k).1).map (pE T)))).fdiv (k+1)):=rfl;rw[e,h]
 dsimp only
 rw[hC,ht];have:((k+1:Nat):Int)*l'=((k:Int)+1)*l':=by push_cast;rfl
 rw[this,Int.mul_fdiv_cancel_left _ (by lia)]
theorem gB {α:Type} {a b:α} {s t:List α} (h:a=b) (h':s=t):a :: s=b :: t:=by rw[h,h']
theorem Ci (a:Int):dz [[a]] 1 1=([[a]],-((a))):=by
 refine eC (C:=List.replicate 1 (List.replicate 1 0)) (l:=1) rfl ?_ ?_
 ·simp only[cV,cX,pE,jY,List.map,List.zipWith,cg,dU,List.replicate]
  (repeat' apply gB) <;> grind
 ·simp only[qg,bO,bP];grind
theorem Cg (a b c d:Int):dz [[a,b],[c,d]] 2 1=([[-((d)) - (-((a)+(d))),-(-(c))],[-(-(b)),-((a)) - (-((a)+(d)))]],-((a)+(d))):=by
 refine eC (C:=List.replicate 2 (List.replicate 2 0)) (l:=1) rfl ?_ ?_
 ·simp only[cV,cX,pE,jY,List.map,List.zipWith,cg,dU,List.replicate]
  (repeat' apply gB) <;> grind
 ·simp only[qg,bO,bP];grind
theorem Cf (a b c d:Int):dz [[a,b],[c,d]] 2 2=([[-(((a*(d) - b*(c)))),0],[0,-(((a*(d) - b*(c))))]],((a*(d) - b*(c)))):=by
 refine eC (Cg a b c d) ?_ ?_
 ·simp only[cV,cX,pE,jY,List.map,List.zipWith,cg,dU,List.replicate]
  (repeat' apply gB) <;> grind
 ·simp only[qg,bO,bP];grind
theorem Ce (a b c d e f g h i:Int):dz [[a,b,c],[d,e,f],[g,h,i]] 3 1=([[a,d,g],[b,e,h],[c,f,i]],-((a)+(e)+(i))):=by
 refine eC (C:=List.replicate 3 (List.replicate 3 0)) (l:=1) rfl ?_ ?_
 ·simp only[cV,cX,pE,jY,List.map,List.zipWith,cg,dU,List.replicate]
  (repeat' apply gB) <;> grind
 ·simp only[qg,bO,bP];grind
theorem Cd (a b c d e f g h i:Int):dz [[a,b,c],[d,e,f],[g,h,i]] 3 2=([[((e*(i) - f*(h))) - (((a*(e) - b*(d))+(a*(i) - c*(g))+(e*(i) - f*(h)))),(-(d*(i) - f*(g))),((d*(h) - e*(g)))],[(-(b*(i) - c*(h))),((a*(i) - c*(g))) - (((a*(e) - b*(d))+(a*(i) - c*(g))+(e*(i) - f*(h)))),(-(a*(h) - b*(g)))],[((b*(f) - c*(e))),(-(a*(f) - c*(d))),((a*(e) - b*(d))) - (((a*(e) - b*(d))+(a*(i) - c*(g))+(e*(i) - f*(h))))]],((a*(e) - b*(d))+(a*(i) - c*(g))+(e*(i) - f*(h)))):=by
 refine eC (Ce a b c d e f g h i) ?_ ?_
 ·simp only[cV,cX,pE,jY,List.map,List.zipWith,cg,dU,List.replicate]
  (repeat' apply gB) <;> grind
 ·simp only[qg,bO,bP];grind
theorem Cc (a b c d e f g h i:Int):dz [[a,b,c],[d,e,f],[g,h,i]] 3 3=([[-(-((a*(e*(i) - f*(h)) - b*(d*(i) - f*(g))+c*(d*(h) - e*(g))))),0,0],[0,-(-((a*(e*(i) - f*(h)) - b*(d*(i) - f*(g))+c*(d*(h) - e*(g))))),0],[0,0,-(-((a*(e*(i) - f*(h)) - b*(d*(i) - f*(g))+c*(d*(h) - e*(g)))))]],-((a*(e*(i) - f*(h)) - b*(d*(i) - f*(g))+c*(d*(h) - e*(g))))):=by
 refine eC (Cd a b c d e f g h i) ?_ ?_
 ·simp only[cV,cX,pE,jY,List.map,List.zipWith,cg,dU,List.replicate]
  (repeat' apply gB) <;> grind
 ·simp only[qg,bO,bP];grind
theorem Cb (a b c d e f g h i j k l m n o p:Int):dz [[a,b,c,d],[e,f,g,h],[i,j,k,l],[m,n,o,p]] 4 1=([[a,e,i,m],[b,f,j,n],[c,g,k,o],[d,h,l,p]],-((a)+(f)+(k)+(p))):=by
 refine eC (C:=List.replicate 4 (List.replicate 4 0)) (l:=1) rfl ?_ ?_
 ·simp only[cV,cX,pE,jY,List.map,List.zipWith,cg,dU,List.replicate]
  (repeat' apply gB) <;> grind
 ·simp only[qg,bO,bP];grind
theorem Ca (a b c d e f g h i j k l m n o p:Int):dz [[a,b,c,d],[e,f,g,h],[i,j,k,l],[m,n,o,p]] 4 2=([[a*(a+(-((a)+(f)+(k)+(p))))+b*(e)+c*(i)+d*(m),e*(a+(-((a)+(f)+(k)+(p))))+f*(e)+g*(i)+h*(m),i*(a+(-((a)+(f)+(k)+(p))))+j*(e)+k*(i)+l*(m),m*(a+(-((a)+(f)+(k)+(p))))+n*(e)+o*(i)+p*(m)],[a*(b)+b*(f+(-((a)+(f)+(k)+(p))))+c*(j)+d*(n),e*(b)+f*(f+(-((a)+(f)+(k)+(p))))+g*(j)+h*(n),i*(b)+j*(f+(-((a)+(f)+(k)+(p))))+k*(j)+l*(n),m*(b)+n*(f+(-((a)+(f)+(k)+(p))))+o*(j)+p*(n)],[a*(c)+b*(g)+c*(k+(-((a)+(f)+(k)+(p))))+d*(o),e*(c)+f*(g)+g*(k+(-((a)+(f)+(k)+(p))))+h*(o),i*(c)+j*(g)+k*(k+(-((a)+(f)+(k)+(p))))+l*(o),m*(c)+n*(g)+o*(k+(-((a)+(f)+(k)+(p))))+p*(o)],[a*(d)+b*(h)+c*(l)+d*(p+(-((a)+(f)+(k)+(p)))),e*(d)+f*(h)+g*(l)+h*(p+(-((a)+(f)+(k)+(p)))),i*(d)+j*(h)+k*(l)+l*(p+(-((a)+(f)+(k)+(p)))),m*(d)+n*(h)+o*(l)+p*(p+(-((a)+(f)+(k)+(p))))]],((a*(f) - b*(e))+(a*(k) - c*(i))+(a*(p) - d*(m))+(f*(k) - g*(j))+(f*(p) - h*(n))+(k*(p) - l*(o)))):=by
 refine eC (Cb a b c d e f g h i j k l m n o p) ?_ ?_
 ·simp only[cV,cX,pE,jY,List.map,List.zipWith,cg,dU,List.replicate]
  (repeat' apply gB) <;> grind
 ·simp only[qg,bO,bP];grind
theorem BZ (a b c d e f g h i j k l m n o p:Int):dz [[a,b,c,d],[e,f,g,h],[i,j,k,l],[m,n,o,p]] 4 3=([[-((f*(k*(p) - l*(o)) - g*(j*(p) - l*(n))+h*(j*(o) - k*(n)))) - (-((a*(f*(k) - g*(j)) - b*(e*(k) - g*(i))+c*(e*(j) - f*(i)))+(a*(f*(p) - h*(n)) - b*(e*(p) - h*(m))+d*(e*(n) - f*(m)))+(a*(k*(p) - l*(o)) - c*(i*(p) - l*(m))+d*(i*(o) - k*(m)))+(f*(k*(p) - l*(o)) - g*(j*(p) - l*(n))+h*(j*(o) - k*(n))))),-(-(e*(k*(p) - l*(o)) - g*(i*(p) - l*(m))+h*(i*(o) - k*(m)))),-((e*(j*(p) - l*(n)) - f*(i*(p) - l*(m))+h*(i*(n) - j*(m)))),-(-(e*(j*(o) - k*(n)) - f*(i*(o) - k*(m))+g*(i*(n) - j*(m))))],[-(-(b*(k*(p) - l*(o)) - c*(j*(p) - l*(n))+d*(j*(o) - k*(n)))),-((a*(k*(p) - l*(o)) - c*(i*(p) - l*(m))+d*(i*(o) - k*(m)))) - (-((a*(f*(k) - g*(j)) - b*(e*(k) - g*(i))+c*(e*(j) - f*(i)))+(a*(f*(p) - h*(n)) - b*(e*(p) - h*(m))+d*(e*(n) - f*(m)))+(a*(k*(p) - l*(o)) - c*(i*(p) - l*(m))+d*(i*(o) - k*(m)))+(f*(k*(p) - l*(o)) - g*(j*(p) - l*(n))+h*(j*(o) - k*(n))))),-(-(a*(j*(p) - l*(n)) - b*(i*(p) - l*(m))+d*(i*(n) - j*(m)))),-((a*(j*(o) - k*(n)) - b*(i*(o) - k*(m))+c*(i*(n) - j*(m))))],[-((b*(g*(p) - h*(o)) - c*(f*(p) - h*(n))+d*(f*(o) - g*(n)))),-(-(a*(g*(p) - h*(o)) - c*(e*(p) - h*(m))+d*(e*(o) - g*(m)))),-((a*(f*(p) - h*(n)) - b*(e*(p) - h*(m))+d*(e*(n) - f*(m)))) - (-((a*(f*(k) - g*(j)) - b*(e*(k) - g*(i))+c*(e*(j) - f*(i)))+(a*(f*(p) - h*(n)) - b*(e*(p) - h*(m))+d*(e*(n) - f*(m)))+(a*(k*(p) - l*(o)) - c*(i*(p) - l*(m))+d*(i*(o) - k*(m)))+(f*(k*(p) - l*(o)) - g*(j*(p) - l*(n))+h*(j*(o) - k*(n))))),-(-(a*(f*(o) - g*(n)) - b*(e*(o) - g*(m))+c*(e*(n) - f*(m))))],[-(-(b*(g*(l) - h*(k)) - c*(f*(l) - h*(j))+d*(f*(k) - g*(j)))),-((a*(g*(l) - h*(k)) - c*(e*(l) - h*(i))+d*(e*(k) - g*(i)))),-(-(a*(f*(l) - h*(j)) - b*(e*(l) - h*(i))+d*(e*(j) - f*(i)))),-((a*(f*(k) - g*(j)) - b*(e*(k) - g*(i))+c*(e*(j) - f*(i)))) - (-((a*(f*(k) - g*(j)) - b*(e*(k) - g*(i))+c*(e*(j) - f*(i)))+(a*(f*(p) - h*(n)) - b*(e*(p) - h*(m))+d*(e*(n) - f*(m)))+(a*(k*(p) - l*(o)) - c*(i*(p) - l*(m))+d*(i*(o) - k*(m)))+(f*(k*(p) - l*(o)) - g*(j*(p) - l*(n))+h*(j*(o) - k*(n)))))]],-((a*(f*(k) - g*(j)) - b*(e*(k) - g*(i))+c*(e*(j) - f*(i)))+(a*(f*(p) - h*(n)) - b*(e*(p) - h*(m))+d*(e*(n) - f*(m)))+(a*(k*(p) - l*(o)) - c*(i*(p) - l*(m))+d*(i*(o) - k*(m)))+(f*(k*(p) - l*(o)) - g*(j*(p) - l*(n))+h*(j*(o) - k*(n))))):=by
 refine eC (Ca a b c d e f g h i j k l m n o p) ?_ ?_
 ·simp only[cV,cX,pE,jY,List.map,List.zipWith,cg,dU,List.replicate]
  (repeat' apply gB) <;> grind
 ·simp only[qg,bO,bP];grind
theorem BY (a b c d e f g h i j k l m n o p:Int):dz [[a,b,c,d],[e,f,g,h],[i,j,k,l],[m,n,o,p]] 4 4=([[-(((a*(f*(k*(p) - l*(o)) - g*(j*(p) - l*(n))+h*(j*(o) - k*(n))) - b*(e*(k*(p) - l*(o)) - g*(i*(p) - l*(m))+h*(i*(o) - k*(m)))+c*(e*(j*(p) - l*(n)) - f*(i*(p) - l*(m))+h*(i*(n) - j*(m))) - d*(e*(j*(o) - k*(n)) - f*(i*(o) - k*(m))+g*(i*(n) - j*(m)))))),0,0,0],[0,-(((a*(f*(k*(p) - l*(o)) - g*(j*(p) - l*(n))+h*(j*(o) - k*(n))) - b*(e*(k*(p) - l*(o)) - g*(i*(p) - l*(m))+h*(i*(o) - k*(m)))+c*(e*(j*(p) - l*(n)) - f*(i*(p) - l*(m))+h*(i*(n) - j*(m))) - d*(e*(j*(o) - k*(n)) - f*(i*(o) - k*(m))+g*(i*(n) - j*(m)))))),0,0],[0,0,-(((a*(f*(k*(p) - l*(o)) - g*(j*(p) - l*(n))+h*(j*(o) - k*(n))) - b*(e*(k*(p) - l*(o)) - g*(i*(p) - l*(m))+h*(i*(o) - k*(m)))+c*(e*(j*(p) - l*(n)) - f*(i*(p) - l*(m))+h*(i*(n) - j*(m))) - d*(e*(j*(o) - k*(n)) - f*(i*(o) - k*(m))+g*(i*(n) - j*(m)))))),0],[0,0,0,-(((a*(f*(k*(p) - l*(o)) - g*(j*(p) - l*(n))+h*(j*(o) - k*(n))) - b*(e*(k*(p) - l*(o)) - g*(i*(p) - l*(m))+h*(i*(o) - k*(m)))+c*(e*(j*(p) - l*(n)) - f*(i*(p) - l*(m))+h*(i*(n) - j*(m))) - d*(e*(j*(o) - k*(n)) - f*(i*(o) - k*(m))+g*(i*(n) - j*(m))))))]],((a*(f*(k*(p) - l*(o)) - g*(j*(p) - l*(n))+h*(j*(o) - k*(n))) - b*(e*(k*(p) - l*(o)) - g*(i*(p) - l*(m))+h*(i*(o) - k*(m)))+c*(e*(j*(p) - l*(n)) - f*(i*(p) - l*(m))+h*(i*(n) - j*(m))) - d*(e*(j*(o) - k*(n)) - f*(i*(o) - k*(m))+g*(i*(n) - j*(m)))))):=by
 refine eC (BZ a b c d e f g h i j k l m n o p) ?_ ?_
 ·simp only[cV,cX,pE,jY,List.map,List.zipWith,cg,dU,List.replicate]
  (repeat' apply gB) <;> grind
 ·simp only[qg,bO,bP];grind
section
variable {T:List (List Int)} {n:Nat}
theorem jQ {b : Int} : ∀ {p : Nat} {l : List Int}, (cX b p l).length = l.length
  | _, [] => by cases ‹Nat› <;> rfl
  | 0, _ :: _ => rfl
  | p + 1, _ :: r => congrArg (· + 1) (jQ (p := p) (l := r))
theorem mE {b:Int}:∀{p:Nat} {l:List Int} {i:Nat},i < l.length->(cX b p l).getD i 0=l.getD i 0+if i=p then b else 0
 | 0,v :: r,0,_=>by show v+b=v+_;rw[if_pos rfl]
 | 0,v :: r,i+1,_=>by show r.getD i 0=r.getD i 0+_;rw[if_neg (by lia),Int.add_zero]
 | p+1,v :: r,0,_=>by show v=v+_;rw[if_neg (by lia),Int.add_zero]
 | p+1,v :: r,i+1,h=>by
  show (cX b p r).getD i 0=r.getD i 0+_
  rw[mE (p:=p) (l:=r) (i:=i) (by simpa using h)];by_cases e:i=p
  ·rw[if_pos e,if_pos (by lia)]
  ·rw[if_neg e,if_neg (by lia)]
theorem fe {b : Int} : ∀ {p : Nat} {l : List (List Int)}, (cV b p l).length = l.length
  | _, [] => rfl
  | p, _ :: r => congrArg (· + 1) (fe (p := p + 1) (l := r))
theorem mY {b:Int}:∀{p:Nat} {l:List (List Int)} {j:Nat},(cV b p l)[j]?=(l[j]?).map (cX b (p+j))
 | _,[],_=>rfl
 | p,_ :: _,0=>rfl
 | p,_ :: r,j+1=>by
  show (cV b (p+1) r)[j]?=(r[j]?).map _
  rw[mY (p:=p+1) (l:=r) (j:=j),show p+1+j=p+(j+1) by lia]
theorem uN:∀{p:Nat} {l:List (List Int)},qg p l=((l.zipIdx p).map λx=>x.1.getD x.2 0).sum
 | _,[]=>rfl
 | p,x :: r=>by
  show x.getD p 0+qg (p+1) r=_
  rw[uN (p:=p+1) (l:=r)];rfl
theorem v8 {a b:List Int} (ha:a.length=n) (hb:b.length=n):((jY a b:Int):Rat)=bQ n λl=>((a.getD l 0:Int):Rat)*((b.getD l 0:Int):Rat):=by
 have key:∀{a b:List Int},a.length=b.length->((jY a b:Int):Rat)=kG (a.map λ(x:Int)=>(x:Rat)) (b.map λ(x:Int)=>(x:Rat)):=by
  intro a
  induction a with
  | nil=>intro b _;rfl
  | cons x a ih =>
   intro b h;cases b with
   | nil=>exact absurd h (by simp)
   | cons y b =>
    show ((x*y+jY a b:Int):Rat)=(x:Rat)*(y:Rat)+kG _ _
    rw[kI,aF,ih (by simpa using h)]
 rw[key (by rw[ha,hb]),pS (by rw[ar,ar,ha,hb]),ar,ha];refine cx λl _=>?_
 have g:∀c:List Int,(c.map λ(x:Int)=>(x:Rat)).getD l 0=((c.getD l 0:Int):Rat):=λc=>by
  rw[ae,aB,ae];cases c[l]? with
  | none=>rfl
  | some y=>rfl
 rw[g,g]
theorem rF {B:Rat} (h:B≠0):∀k:Nat,B^k≠0
 | 0=>by rw[Rat.pow_zero];decide
 | k+1=>λz=>by
  rw[Rat.pow_succ] at z;rcases Rat.mul_eq_zero.mp z with z | z
  ·exact rF h k z
  ·exact h z
theorem kQ (hT:T.length=n):∀k,(dz T n k).1.length=n/\∀l∈(dz T n k).1,l.length=n
 | 0=>⟨fo,λl hl=>by rw[gZ hl];exact fo⟩
 | k+1=>by
  refine ⟨?_,λl hl=>?_⟩
  ·show (List.map _ (cV _ 0 _)).length=n
   rw[ar,fe];exact (kQ hT k).1
  ·obtain ⟨c,_,rfl⟩:=aN.mp (show l∈List.map _ (cV _ 0 _) from hl);show (List.map _ T).length=n
   rw[ar,hT]
def A5 (T:List (List Int)) (n:Nat) (B:Rat) (k i j:Nat):Rat:=(((((dz T n k).1.getD j []).getD i 0:Int)):Rat) / B^k
def wq (T:List (List Int)) (n:Nat) (B:Rat) (k:Nat):Rat:=((dz T n k).2:Rat) / B^k
theorem xQ {B:Rat} (hB:B≠0) (hT:T.length=n) (hw:∀l∈T,l.length=n) {k i j:Nat} (hi:i < n) (hj:j < n):A5 T n B (k+1) i j=bQ n λl=>(((T.getD i []).getD l 0:Int):Rat) / B*(A5 T n B k l j+if l=j then wq T n B k else 0):=by
 obtain ⟨l1,l2⟩:=kQ hT k;have ej:=ai (show j < (dz T n k).1.length by lia);have ei:=ai (show i < T.length by lia);have lj:=l2 _ (bB (show j < (dz T n k).1.length by lia))
 have e1:(dz T n (k+1)).1.getD j []=pE T (cX (dz T n k).2 j ((dz T n k).1.getD j [])):=by
  show (List.map (pE T) (cV (dz T n k).2 0 (dz T n k).1)).getD j []=_
  rw[ae,aB,mY,ej,ae,ej,Nat.zero_add];rfl
 have e2:(pE T (cX (dz T n k).2 j ((dz T n k).1.getD j []))).getD i 0=jY (T.getD i []) (cX (dz T n k).2 j ((dz T n k).1.getD j [])):=by
  unfold pE;rw[ae (l:=List.map _ T),aB,ei,ae (l:=T),ei];rfl
 have gj:(dz T n k).1.getD j []=(dz T n k).1[j]:=by rw[ae,ej];rfl
 have gi:T.getD i []=T[i]:=by rw[ae,ei];rfl
 have wi:=hw _ (bB (show i < T.length by lia));unfold A5 wq;rw[e1,e2,v8 (n:=n) (by rw[gi];exact wi) (by rw[jQ,gj];exact lj),cB,vC,<- gN];refine cx λl hl=>?_
 rw[mE (by rw[gj,lj];exact hl),kI,Rat.pow_succ];have hk:B^k≠0:=rF hB k;by_cases e:l=j
 ·rw[if_pos e,if_pos e,cB,cB,cB,Rat.inv_mul_rev];grind
 ·rw[if_neg e,if_neg e,cB,cB,Rat.inv_mul_rev];have:((0:Int):Rat)=0:=rfl;grind
end
section
variable {n:Nat} {A:Nat->Nat->Rat} {M:Nat->Nat->Nat->Rat} {c:Nat->Rat} {y:Nat->Nat->Rat}
theorem xO (h0:∀i j,i < n->j < n->M 0 i j=0) (hs:∀k i j,i < n->j < n->M (k+1) i j=bQ n λl=>A i l*(M k l j+if l=j then c k else 0)) (hy:∀t i,i < n->y (t+1) i=bQ n λl=>A i l*y t l) (t:Nat):∀m i,i < n->bQ n (λj=>M m i j*y t j)=bQ m λs=>c (m - 1 - s)*y (t+s+1) i
 | 0,i,hi=>lh λj hj=>by rw[h0 i j hi hj,lN]
 | m+1,i,hi=>by
  have e1:bQ n (λj=>M (m+1) i j*y t j)=bQ n (λj=>bQ n λl=>A i l*(M m l j*y t j)+if l=j then c m*(A i l*y t l) else 0):=cx λj hj=>by
   rw[hs m i j hi hj,vC,<- gN];refine cx λl _=>?_
   by_cases e:l=j
   ·rw[if_pos e,if_pos e,e];grind
   ·rw[if_neg e,if_neg e];grind
  rw[e1,nE]
  have e2:bQ n (λl=>bQ n λj=>A i l*(M m l j*y t j)+if l=j then c m*(A i l*y t l) else 0)=bQ n (λl=>bQ m (λs=>c (m - 1 - s)*(A i l*y (t+s+1) l))+c m*(A i l*y t l)):=cx λl hl=>by
   rw[mL,gN,xO h0 hs hy t m l hl,oW (i:=l) hl λj _ ne=>if_neg λz=>ne z.symm,if_pos rfl,<- gN];congr 1;exact cx λs _=>by grind
  rw[e2,mL,gN,<- hy t i hi,nE]
  have e3:bQ m (λs=>bQ n λl=>c (m - 1 - s)*(A i l*y (t+s+1) l))=bQ m λs=>c (m+1 - 1 - (1+s))*y (t+(1+s)+1) i:=cx λs _=>by
   rw[gN,<- hy (t+s+1) i hi,show m+1 - 1 - (1+s)=m - 1 - s by lia,show t+(1+s)+1=t+s+1+1 by lia]
  rw[e3,show m+1=1+m by lia,nF (a:=1) (b:=m)];show _=(0+c (1+m - 1 - 0)*y (t+0+1) i)+_
  rw[show 1+m - 1 - 0=m by lia,Nat.add_zero,Rat.zero_add,Rat.add_comm]
theorem zp (h0:∀i j,i < n->j < n->M 0 i j=0) (hs:∀k i j,i < n->j < n->M (k+1) i j=bQ n λl=>A i l*(M k l j+if l=j then c k else 0)) (hy:∀t i,i < n->y (t+1) i=bQ n λl=>A i l*y t l) (hc:c 0=1) (hn:∀i j,i < n->j < n->M n i j=if i=j then -(c n) else 0) (t i:Nat) (hi:i < n):y (t+n) i=bQ n λs=>-(c (n - s))*y (t+s) i:=by
 have r:=xO h0 hs hy t n i hi;rw[oW (i:=i) hi λj hj ne=>by rw[hn i j hi hj,if_neg λz=>ne z.symm,lN],hn i i hi hi,if_pos rfl] at r;obtain ⟨p,rfl⟩:∃p,n=p+1:=⟨n - 1,by lia⟩;have r:-(c (p+1))*y t i=bQ p (λs=>c (p+1 - 1 - s)*y (t+s+1) i)+c (p+1 - 1 - p)*y (t+p+1) i:=r;rw[show p+1 - 1 - p=0 by lia,hc] at r
 have e:bQ (p+1) (λs=>-(c (p+1 - s))*y (t+s) i)=-(c (p+1))*y t i+-1*bQ p (λs=>c (p+1 - 1 - s)*y (t+s+1) i):=by
  rw[show p+1=1+p by lia,nF (a:=1) (b:=p),<- gN];show (0+-(c (1+p - 0))*y (t+0) i)+_=_
  rw[Rat.zero_add,Nat.sub_zero,Nat.add_zero];congr 1;exact cx λs _=>by rw[show 1+p - (1+s)=1+p - 1 - s by lia,show t+(1+s)=t+s+1 by lia];grind
 rw[e,r,show t+(p+1)=t+p+1 by lia];grind
end
def vK:Sp:=λvs H Q _=>∃b,vs=[.ref b]/\fH H b/\∀r (n i o w:Nat) H',H' r=some (.tup [.int n,.int i,.int o,.int w])->n<=5->i<=4->o<=4->(w=4\/w=9\/(w=1000/\n<=2))->(n=5->i<=2/\o<=2)->fH H' b->bR b H H'->Q (.ref r) H'
theorem BL {α:Type} {l:List α} (h:l.length=1):∃a,l=[a]:=by match l,h with | [a],_=>exact ⟨a,rfl⟩
theorem AL {α:Type} {l:List α} (h:l.length=2):∃a b,l=[a,b]:=by match l,h with | [a,b],_=>exact ⟨a,b,rfl⟩
theorem ze {α:Type} {l:List α} (h:l.length=3):∃a b c,l=[a,b,c]:=by match l,h with | [a,b,c],_=>exact ⟨a,b,c,rfl⟩
theorem xv {α:Type} {l:List α} (h:l.length=4):∃a b c d,l=[a,b,c,d]:=by match l,h with | [a,b,c,d],_=>exact ⟨a,b,c,d,rfl⟩
theorem xP {T:List (List Int)} {n:Nat} (n4:n<=4) (hT:T.length=n) (hw:∀l∈T,l.length=n) {i j:Nat} (hi:i < n) (hj:j < n):((dz T n n).1.getD j []).getD i 0=if i=j then -(dz T n n).2 else 0:=by
 have hn:n=1\/n=2\/n=3\/n=4:=by lia
 rcases hn with rfl | rfl | rfl | rfl
 ·obtain ⟨r,rfl⟩:=BL hT;obtain ⟨a,rfl⟩:=BL (hw r (by simp));rw[Ci];obtain rfl:i=0:=by lia
  obtain rfl:j=0:=by lia
  simp
 ·obtain ⟨r,s,rfl⟩:=AL hT;obtain ⟨a,b,rfl⟩:=AL (hw r (by simp));obtain ⟨c,d,rfl⟩:=AL (hw s (by simp));rw[Cf];rcases (show i=0\/i=1 by lia) with rfl | rfl <;> rcases (show j=0\/j=1 by lia) with rfl | rfl <;> rfl
 ·obtain ⟨r,s,t,rfl⟩:=ze hT;obtain ⟨a,b,c,rfl⟩:=ze (hw r (by simp));obtain ⟨d,e,f,rfl⟩:=ze (hw s (by simp));obtain ⟨g,h,k,rfl⟩:=ze (hw t (by simp));rw[Cc];rcases (show i=0\/i=1\/i=2 by lia) with rfl | rfl | rfl <;> rcases (show j=0\/j=1\/j=2 by lia) with rfl | rfl | rfl <;> rfl
 ·obtain ⟨r,s,t,u,rfl⟩:=xv hT;obtain ⟨a,b,c,d,rfl⟩:=xv (hw r (by simp));obtain ⟨e,f,g,h,rfl⟩:=xv (hw s (by simp));obtain ⟨k,l,m,o,rfl⟩:=xv (hw t (by simp));obtain ⟨p,q,v,w,rfl⟩:=xv (hw u (by simp));rw[BY];rcases (show i=0\/i=1\/i=2\/i=3 by lia) with rfl | rfl | rfl | rfl <;> rcases (show j=0\/j=1\/j=2\/j=3 by lia) with rfl | rfl | rfl | rfl <;> rfl
def RI (H:Hp) (zs:List Int) (x:V):Prop:=∃q,x=.ref q/\H q=some (.lst (zs.map V.int))
def GI (H:Hp) (p:Addr) (ls:List (List Int)):Prop:=∃xs,H p=some (.lst xs)/\Paired (RI H) ls xs
theorem RI.same {H H':Hp} {zs:List Int} {x:V} (h:RI H zs x) (s:az H H'):RI H' zs x:=by obtain ⟨q,e,g⟩:=h;exact ⟨q,e,s _ _ g⟩
theorem GI.same {H H':Hp} {p:Addr} {ls:List (List Int)} (h:GI H p ls) (s:az H H'):GI H' p ls:=by obtain ⟨xs,g,r⟩:=h;exact ⟨xs,s _ _ g,Paired.imp' (λ_ _ z=>RI.same z s) r⟩
theorem xh (K:FG9) {X:Cx} {a:Expr} {ta:TA} {p pos tpos:Pos} {elts:List Expr} {kk:Nat} (hg:Gl X "enumerate") (hm:X.mg "enumerate"=none) (ha:PA X [a] ta) (hK:X.K=K:=by rfl) (hs:starEach [a] X.env=[(false,eval a X.env)]:=by rfl) :
  PI X (.Tuple elts kk tpos) (.Call (.Name "enumerate" p) [a] [] pos) (xy K ta):=by subst hK;exact oJ hg hm ha hs
def wt (l:Addr) (H:Hp) (p:Addr) (ls:List (List Int)):Prop:=p≠l/\∃xs,H p=some (.lst xs)/\Paired (λzs x=>∃q,x=V.ref q/\q≠l/\H q=some (.lst (zs.map V.int))) ls xs
theorem wt.gi {l:Addr} {H:Hp} {p:Addr} {ls:List (List Int)} (h:wt l H p ls):GI H p ls:=by obtain ⟨_,xs,g,r⟩:=h;exact ⟨xs,g,Paired.imp' (λ_ _ ⟨q,e,_,g⟩=>⟨q,e,g⟩) r⟩
theorem wt.same {l:Addr} {H H':Hp} {p:Addr} {ls:List (List Int)} (h:wt l H p ls) (s:az H H'):wt l H' p ls:=by obtain ⟨n,xs,g,r⟩:=h;exact ⟨n,xs,s _ _ g,Paired.imp' (λ_ _ ⟨q,e,n,g⟩=>⟨q,e,n,s _ _ g⟩) r⟩
theorem wt.updL {l:Addr} {H:Hp} {p:Addr} {ls:List (List Int)} {o:HO} (h:wt l H p ls):wt l (upd H l o) p ls:=by obtain ⟨n,xs,g,r⟩:=h;exact ⟨n,xs,by rw[aH n];exact g,Paired.imp' (λ_ _ ⟨q,e,n,g⟩=>⟨q,e,n,by rw[aH n];exact g⟩) r⟩
theorem GI.away {l:Addr} {H H':Hp} {p:Addr} {ls:List (List Int)} (h:GI H p ls) (n:∀q,H q≠none->q≠l) (s:az H H'):wt l H' p ls:=by obtain ⟨xs,g,r⟩:=h;exact ⟨n p (by rw[g];exact λz=>nomatch z),xs,s _ _ g,Paired.imp' (λ_ _ ⟨q,e,g⟩=>⟨q,e,n q (by rw[g];exact λz=>nomatch z),s _ _ g⟩) r⟩
def Cw (H0 H:Hp) (zs:List Int) (x:V):Prop:=∃q,x=V.ref q/\H0 q=none/\H q=some (.lst (zs.map V.int))
theorem Cw.same {H0 H H':Hp} {zs:List Int} {x:V} (h:Cw H0 H zs x) (s:az H H'):Cw H0 H' zs x:=by obtain ⟨q,e,n,g⟩:=h;exact ⟨q,e,n,s _ _ g⟩
theorem vo {α:Type} {m:Nat}:∀{l:List (List α)},(∀xs∈l,xs.length<=m)->l.flatten.length<=l.length*m
 | [],_=>bq _
 | x :: r,h=>by
  have h1:=h x (.head _);have h2:=vo (l:=r) λy hy=>h y (.tail _ hy)
  show (x++r.flatten).length<=(r.length+1)*m
  rw[bx,jx]
  lia
theorem AU {α:Type} {l:List (List α)} (h:l.length<=8) (hw:∀xs∈l,xs.length<=8):l.flatten.length<=64:=ah (vo hw) (aL 8 h)
theorem pA:∀{bs:List Int} {ys:List V},Paired (λz y=>y=V.int z) bs ys->ys=bs.map V.int
 | _,_,.nil=>rfl
 | _,_,.cons h t=>by rw[h,pA t];rfl
inductive uS (K:FG9) (vs:List V) (H:Hp) (Q:VK) (E9:XK):Prop
 | mk (p q:Addr) (a b:List Int) (k j:Nat):vs=[.ref p,.ref q]->H p=some (.lst (a.map V.int))->H q=some (.lst (b.map V.int))->b.length=a.length->a.length<=100->(∀x∈a,Sz k x)->(∀x∈b,Sz j x)->k+j<=1000000->(∀H',az H H'->Q (.int (jY a b)) H')->uS K vs H Q E9
inductive wM (K:FG9) (vs:List V) (H:Hp) (Q:VK) (E9:XK):Prop
 | mk (p q:Addr) (ls:List (List Int)) (b:List Int) (k j:Nat):vs=[.ref p,.ref q]->GI H p ls->H q=some (.lst (b.map V.int))->(∀l∈ls,l.length=b.length)->ls.length<=100->b.length<=100->(∀l∈ls,∀x∈l,Sz k x)->(∀x∈b,Sz j x)->k+j<=1000000->(∀r H',H r=none->az H H'->H' r=some (.lst ((pE ls b).map V.int))->Q (.ref r) H')->wM K vs H Q E9
inductive sQ (K:FG9) (vs:List V) (H:Hp) (Q:VK) (E9:XK):Prop
 | mk (p:Addr) (ls:List (List Int)) (b:Int):vs=[.ref p,.int b]->GI H p ls->ls.length<=100->(∀l∈ls,l.length<=100)->(∀r H',H r=none->az H H'->GI H' r (cV b 0 ls)->Q (.ref r) H')->sQ K vs H Q E9
inductive sV (K:FG9) (vs:List V) (H:Hp) (Q:VK) (E9:XK):Prop
 | mk (p:Addr) (H0:Hp) (rows:LR9):vs=[.ref p]->cY K H0 H p rows->rows.flatten.length<=1000->(∀r H',H r=none->az H H'->dB K H' r rows.flatten->Q (.ref r) H')->sV K vs H Q E9
def dI (mv:LR9):Int:=xS (mv.flatten.map nm)
def cQ (mv:LR9):List (List Int):=mv.map λxs=>mK (xs.map nm) (dI mv)
inductive sR (K:FG9) (vs:List V) (H:Hp) (Q:VK) (E9:XK):Prop
 | mk (p:Addr) (H0:Hp) (rows:LR9) (M:Int):vs=[.ref p]->cY K H0 H p rows->rows.flatten.length<=1000->rows.length<=1000->(∀xs∈rows,xs.length<=1000)->lP M (rows.flatten.map nm)->(∀t r H',H' t=some (.tup [.ref r,.int (dI rows)])->az H H'->GI H' r (cQ rows)->Q (.ref t) H')->sR K vs H Q E9
def jK (mv:LR9) (n:Nat):List Rat:=((List.range n).map λk=>-(wq (cQ mv) n (dI mv:Rat) (k+1))).reverse
inductive uR (K:FG9) (C:Addr) (vs:List V) (H:Hp) (Q:VK) (E9:XK):Prop
 | mk (x:Addr) (H0:Hp) (mv pt lk:LR9) (M:Int):vs=[.ref x]->we K H0 H C x mv pt lk->xX mv pt lk->lP M (mv.flatten.map nm)->Sz 1000 M->(∀r H',H r=none->az H H'->dB K H' r (jK mv mv.length)->Q (.ref r) H')->uR K C vs H Q E9
theorem yu {k:Nat} {a:Int} {m:Nat} (h:Sz k a):Sz k (a.fdiv ((m:Int)+1)):=h.le (by
 rw[bh _ (by lia)];have h1:=Int.ediv_mul_le a (b:=(m:Int)+1) (by lia);have h2:=Int.lt_ediv_add_one_mul_self a (b:=(m:Int)+1) (by lia);generalize a / ((m:Int)+1)=q at h1 h2;rcases Int.lt_or_le q 0 with z | z
 ·have:q*((m:Int)+1)<=q*1:=yb (by lia) (by lia);rcases Int.lt_or_le a 0 with y | y
  ·have h3:(q+1)*((m:Int)+1)<=(q+1)*1:=yb (by lia) (by lia)
   lia
  ·have h3:(q+1)*((m:Int)+1)<=0:=t9 (by lia) (by lia)
   lia
 ·have:q*1<=q*((m:Int)+1):=Int.mul_le_mul_of_nonneg_left (by lia) z
  lia)
theorem wA {b:Nat}:∀{p:Nat} {l:List (List Int)},(∀c∈l,∀x∈c,Sz b x)->Sz (b+l.length) (qg p l)
 | _,[],_=>by show (0:Int).natAbs < 2^_;exact ik _
 | p,c :: r,h=>by
  have h1:Sz b (c.getD p 0):=by
   rw[ae];cases e:c[p]? with
   | none=>show (0:Int).natAbs < 2^_;exact ik _
   | some x=>exact h c (.head _) x (ao e)
  have h2:=wA (p:=p+1) (l:=r) λc' hc'=>h c' (.tail _ hc')
  show (c.getD p 0+qg (p+1) r).natAbs < 2^(b+(r.length+1))
  have h1:(c.getD p 0).natAbs < 2^b:=h1;have h2:(qg (p+1) r).natAbs < 2^(b+r.length):=h2;have h3:2^b<=2^(b+r.length):=aj (by decide) (by lia);have h4:2^(b+(r.length+1))=2*2^(b+r.length):=by rw[<- Nat.add_assoc,eI,dS]
  have:=jA (c.getD p 0) (qg (p+1) r)
  lia
theorem zl {k j : Nat} {a b : List Int} (ha : ∀ x ∈ a, Sz k x) (hb : ∀ x ∈ b, Sz j x) : Sz (k + j + min a.length b.length) (jY a b) := by
  have := wJ (l := List.zipWith (· * ·) a b) (j := k + j) λv hv => by
    obtain ⟨i, hi, rfl⟩ := eh hv;rw [kF];exact (ha _ (bB _)).mul (hb _ (bB _))
  rwa [gV] at this
theorem tW {k:Nat} {b:Int} (hb:Sz k b):∀{p:Nat} {l:List Int},(∀x∈l,Sz k x)->∀x∈cX b p l,Sz (k+1) x
 | _,[],_,x,h=>by cases ‹Nat› <;> exact nomatch h
 | 0,v :: r,hl,x,h=>by
  rcases aA.mp h with rfl | h
  ·have h1:v.natAbs < 2^k:=hl v (.head _);have h2:b.natAbs < 2^k:=hb;show (v+b).natAbs < 2^(k+1)
   rw[eI];have:=jA v b
   lia
  ·exact (hl x (.tail _ h)).mono (by lia)
 | p+1,v :: r,hl,x,h=>by
  rcases aA.mp h with rfl | h
  ·exact (hl _ (.head _)).mono (by lia)
  ·exact tW hb (p:=p) (l:=r) (λy hy=>hl y (.tail _ hy)) x h
theorem vq {T:List (List Int)} {n t k:Nat} (hT:T.length=n) (h1:∀c∈(dz T n k).1,∀x∈c,Sz (1+k*(t+17)) x) (h2:Sz (1+k*(t+17)) (dz T n k).2):∀c∈cV (dz T n k).2 0 (dz T n k).1,c.length=n/\∀x∈c,Sz (2+k*(t+17)) x:=λc hc=>by
 obtain ⟨j,hj,rfl⟩:=eh hc;have e:=mY (b:=(dz T n k).2) (p:=0) (l:=(dz T n k).1) (j:=j);rw[ai hj,ai (by rw[fe] at hj;exact hj)] at e;have e:=bG e;rw[e,jQ];have m:=bB (l:=(dz T n k).1) (n:=j) (by rw[fe] at hj;exact hj);exact ⟨(kQ hT k).2 _ m,λx hx=>(tW h2 (h1 _ m) x hx).mono (by lia)⟩
theorem xG {T:List (List Int)} {n t:Nat} (hT:T.length=n) (hw:∀l∈T,l.length=n) (n8:n<=8) (ht:∀l∈T,∀x∈l,Sz t x) (k:Nat):(∀c∈(dz T n k).1,∀x∈c,Sz (1+k*(t+17)) x)/\Sz (1+k*(t+17)) (dz T n k).2/\(∀c∈cV (dz T n k).2 0 (dz T n k).1,c.length=n/\∀x∈c,Sz (2+k*(t+17)) x):=by
 induction k with
 | zero =>
  have a1:∀c∈(dz T n 0).1,∀x∈c,Sz (1+0*(t+17)) x:=λc hc x hx=>by
   rw[gZ (show c∈List.replicate n (List.replicate n 0) from hc)] at hx;rw[gZ hx];show (0:Int).natAbs < 2^_
   exact ik _
  have a2:Sz (1+0*(t+17)) (dz T n 0).2:=by rw[Nat.zero_mul];show (1:Int).natAbs < 2^1;decide
  exact ⟨a1,a2,vq hT a1 a2⟩
 | succ k ih =>
  obtain ⟨_,_,i3⟩:=ih
  have a1':∀c∈(dz T n (k+1)).1,∀x∈c,Sz (10+t+k*(t+17)) x:=λc hc x hx=>by
   obtain ⟨d,hd,rfl⟩:=aN.mp (show c∈List.map (pE T) (cV (dz T n k).2 0 (dz T n k).1) from hc);obtain ⟨l,hl,rfl⟩:=aN.mp (show x∈T.map λl=>jY l d from hx);obtain ⟨ld,sd⟩:=i3 d hd;exact (zl (ht l hl) sd).mono (by rw[hw l hl,ld];lia)
  have e:(k+1)*(t+17)=k*(t+17)+(t+17):=jx ..;have a1:∀c∈(dz T n (k+1)).1,∀x∈c,Sz (1+(k+1)*(t+17)) x:=λc hc x hx=>(a1' c hc x hx).mono (by lia)
  have a2:Sz (1+(k+1)*(t+17)) (dz T n (k+1)).2:=by
   show Sz _ (Int.fdiv (-(qg 0 (dz T n (k+1)).1)) ((k:Int)+1))
   refine yu (Sz.neg ((wA a1').mono ?_));rw[(kQ hT (k+1)).1]
   lia
  exact ⟨a1,a2,vq hT a1 a2⟩
section
variable {mv:LR9} {M:Int} {n:Nat}
theorem oT:(cQ mv).length=mv.length:=ar ..
theorem ug (hw:∀xs∈mv,xs.length=n):∀l∈cQ mv,l.length=n:=λl hl=>by
 obtain ⟨xs,hx,rfl⟩:=aN.mp hl;unfold mK;rw[ar,ar,hw xs hx]
theorem vp {xs:List Rat} {x:Rat} (hx:xs∈mv) (h:x∈xs):nm x∈mv.flatten.map nm:=aN.mpr ⟨x,jR.mpr ⟨xs,hx,h⟩,rfl⟩
theorem uP (hM:lP M (mv.flatten.map nm)):∀l∈cQ mv,∀x∈l,Sz 8800 x:=λl hl x hx=>by
 obtain ⟨xs,hxs,rfl⟩:=aN.mp hl;obtain ⟨b1,s1⟩:=hM.bot
 have hM':lP M (xs.map nm):=⟨hM.1,hM.2.1,λn hn=>by
  obtain ⟨y,hy,rfl⟩:=aN.mp hn;exact hM.2.2 _ (vp hxs hy)⟩
 exact wC hM' b1 s1 hx
theorem zj {k:Nat} {b:Int} (hM:0 < M) (hd:b∣M) (h:Sz k M):Sz k b:=h.le (fm (by lia) (bW.mpr hd))
theorem zq {k:Nat} (hM:lP M (mv.flatten.map nm)) (sM:Sz k M):0 < dI mv/\Sz k (dI mv):=by
 have b1:=hM.bot.1;refine ⟨b1,zj hM.1 ?_ sM⟩
 exact m3 (by decide) (xZ _) λb hb=>by
  obtain ⟨n,hn,rfl⟩:=aN.mp hb;exact ⟨(hM.2.2 n hn).1,(hM.2.2 n hn).2.1⟩
theorem sL (hM:lP M (mv.flatten.map nm)) {i l:Nat}:((((cQ mv).getD i []).getD l 0:Int):Rat)=tZ mv i l*(dI mv:Rat):=by
 unfold tZ cQ;rw[ae (l:=List.map _ mv),aB,ae (l:=mv)];cases e:mv[i]? with
 | none =>
  show (((([]:List Int).getD l 0:Int)):Rat)=([]:List Rat).getD l 0*_
  rw[ae,ae];show ((0:Int):Rat)=0*_
  rw[lN];rfl
 | some xs =>
  show (((mK (xs.map nm) (dI mv)).getD l 0:Int):Rat)=xs.getD l 0*_
  unfold mK;rw[ae,aB,aB,ae];cases e2:xs[l]? with
  | none =>
   show ((0:Int):Rat)=0*_
   rw[lN];rfl
  | some x=>exact oS (xR (vp (ao e) (ao e2)))
theorem uh {B:Int} (h:Sz 1000 B):∀k:Nat,Sz (1000*k+1) (B^k)
 | 0=>by rw[Int.pow_zero];show (1:Int).natAbs < 2^1;decide
 | k+1=>by
  rw[Int.pow_succ];exact ((uh h k).mul h).mono (by lia)
theorem wy {B c:Int} {k:Nat} (hB:0 < B):(lo (-c) (B^k),hi (-c) (B^k))=nm (-((c:Rat) / (B:Rat)^k)):=by
 refine rR (Int.pow_pos hB) ?_;have hb:(B:Rat)≠0:=λz=>by have:=cZ.mp z;lia
 have hk:=rF hb k;rw[qe,yg,cB,Rat.neg_mul,A8,Rat.inv_mul_cancel _ hk,Rat.mul_one]
end
def kL (mv:LR9) (st:List Rat):Nat->List Rat
 | 0=>st
 | t+1=>mv.map λxs=>kG xs (kL mv st t)
section
variable {mv:LR9} {st:List Rat} {M:Int}
theorem jS (h:st.length=mv.length):∀t,(kL mv st t).length=mv.length
 | 0=>h
 | t+1=>ar ..
theorem sI {n:Nat}:(jK mv n).length=n:=by unfold jK;rw[sG,ar,cv]
theorem yq {n i:Nat} (hi:i < n):(jK mv n).getD i 0=-(wq (cQ mv) n (dI mv:Rat) (n - i)):=by
 unfold jK;rw[ae,List.getElem?_reverse (by rw[ar,cv];exact hi),ar,cv,aB,dh (by lia)];show -(wq _ _ _ (n - 1 - i+1))=_
 rw[show n - 1 - i+1=n - i by lia]
theorem yv (hw:∀xs∈mv,xs.length=mv.length) (hl:st.length=mv.length) {t i:Nat} (hi:i < mv.length):(kL mv st (t+1)).getD i 0=bQ mv.length λl=>tZ mv i l*(kL mv st t).getD l 0:=by
 show (mv.map λxs=>kG xs (kL mv st t)).getD i 0=_
 have e:=ai hi;have wi:=hw _ (bB hi);rw[ae,aB,e];show kG mv[i] (kL mv st t)=_
 rw[pS (by rw[wi,jS hl]),wi];refine cx λl _=>?_
 unfold tZ;rw[ae (l:=mv),e];rfl
theorem vg (n4:mv.length<=4) (hM:lP M (mv.flatten.map nm)) (hw:∀xs∈mv,xs.length=mv.length) (hl:st.length=mv.length) (t:Nat):zY ((List.range mv.length).map λi=>kL mv st (t+i)) (jK mv mv.length) mv.length=kL mv st (t+mv.length):=by
 have hB:(dI mv:Rat)≠0:=λz=>by have:=cZ.mp z;have:=hM.bot.1;unfold dI at *;lia
 have hT:=oT (mv:=mv);have hW:=ug (mv:=mv) hw
 have eA:∀i l,(((cQ mv).getD i []).getD l 0:Rat) / (dI mv:Rat)=tZ mv i l:=λi l=>by
  rw[sL hM,cB,A8,Rat.mul_inv_cancel _ hB,Rat.mul_one]
 apply List.ext_getElem (by rw[jS hl];exact nD);intro c h1 h2;rw[jS hl] at h2;have g1:(zY ((List.range mv.length).map λi=>kL mv st (t+i)) (jK mv mv.length) mv.length).getD c 0=(zY ((List.range mv.length).map λi=>kL mv st (t+i)) (jK mv mv.length) mv.length)[c]:=by rw[ae,ai h1];rfl
 have g2:(kL mv st (t+mv.length)).getD c 0=(kL mv st (t+mv.length))[c]'(by rw[jS hl];exact h2):=by rw[ae,ai (by rw[jS hl];exact h2)];rfl
 rw[<- g1,<- g2,yo h2,sI];have key:=zp (n:=mv.length) (A:=λi l=>(((cQ mv).getD i []).getD l 0:Rat) / (dI mv:Rat)) (M:=A5 (cQ mv) mv.length (dI mv:Rat)) (c:=wq (cQ mv) mv.length (dI mv:Rat)) (y:=λt i=>(kL mv st t).getD i 0) (λi j hi hj=>?_) (λk i j hi hj=>xQ hB hT hW hi hj) (λt i hi=>?_) ?_ (λi j hi hj=>?_) t c h2
 ·rw[key];refine cx λs hs=>?_
  rw[yq hs];congr 1;unfold tZ;rw[ae (l:=List.map _ _),aB,dh hs];rfl
 ·unfold A5
  have:((dz (cQ mv) mv.length 0).1.getD j []).getD i 0=0:=by
   show ((List.replicate mv.length (List.replicate mv.length (0:Int))).getD j []).getD i 0=0
   rw[ae (l:=List.replicate _ (List.replicate _ _)),iM,if_pos hj];show (List.replicate mv.length (0:Int)).getD i 0=0
   rw[ae,iM,if_pos hi];rfl
  rw[this];show (0:Rat) / _=0
  rw[cB,lN]
 ·show (kL mv st (t+1)).getD i 0=_
  rw[yv hw hl hi];exact cx λl _=>by rw[eA]
 ·unfold wq;show ((1:Int):Rat) / _=1
  rw[Rat.pow_zero,show ((1:Int):Rat)=1 from rfl,cB];grind
 ·unfold A5 wq;rw[xP n4 hT hW hi hj];by_cases e:i=j
  ·rw[if_pos e,if_pos e,yg,cB,cB,Rat.neg_mul]
  ·rw[if_neg e,if_neg e];show (0:Rat) / _=0
   rw[cB,lN]
end
def Cp (mv:LR9) (ws st:List Rat):Prop:=∃M W D B:Nat,0 < M/\0 < D/\1<=W/\1<=B/\(∀t,t<=2*mv.length+2->∀x∈kL mv st t,Tp M W x)/\(∀x∈ws,Tp D B x)/\M*D<=2^3990/\128*(W*B)<=2^3990/\∀t,t<=2*mv.length+2->∀xs∈mv,A1 xs (kL mv st t)
inductive o5 (K:FG9) (vs:List V) (H:Hp) (Q:VK) (E9:XK):Prop
 | mk (r w s:Addr) (H0:Hp) (mv pt lk:LR9) (ws st:List Rat):vs=[.ref r,.ref w,.ref s]->kq K H0 H r mv pt lk->xX mv pt lk->dB K H w ws->dB K H s st->ws.length=mv.length->st.length=mv.length->Cp mv ws st->(∀t,zY ((List.range mv.length).map λi=>kL mv st (t+i)) ws mv.length=kL mv st (t+mv.length))->(∀H',az H H'->Q (.bl true) H')->o5 K vs H Q E9
section
variable {mv:LR9} {st:List Rat} {M1 V1 E V0:Nat}
theorem wK (hw:∀xs∈mv,xs.length=mv.length) (hl:st.length=mv.length) (f:GF M1 V1 mv) (h0:∀x∈st,Fr E V0 x):∀t,∀x∈kL mv st t,Fr (M1^t*E) ((mv.length*V1)^t*V0) x
 | 0,x,hx=>by rw[Nat.pow_zero,Nat.pow_zero,qZ,qZ];exact h0 x hx
 | t+1,x,hx=>by
  obtain ⟨xs,hxs,rfl⟩:=aN.mp (show x∈mv.map λxs=>kG xs (kL mv st t) from hx);have:=zk (M:=M1) (V:=V1) (by rw[jS hl,hw xs hxs]) (f xs hxs) (wK hw hl f h0 t);rw[hw xs hxs] at this;rw[eI,eI,dS (M1^t),dS ((mv.length*V1)^t),dr,dr,dr];exact this
theorem z7 {N a c:Nat} (hw:∀xs∈mv,xs.length=mv.length) (hl:st.length=mv.length) (M0:0 < M1) (E0:0 < E) (f:GF M1 V1 mv) (h0:∀x∈st,Fr E V0 x) (ha:M1^N*E<=2^a) (hc:(mv.length*V1+1)^N*V0<=2^c):∃M,0 < M/\M<=2^a/\∀t,t<=N->∀x∈kL mv st t,Fr M (2^c) x:=by
 refine ⟨M1^N*E,iL (Nat.pow_pos M0) E0,ha,λt ht x hx=>?_⟩;refine ((wK hw hl f h0 t x hx).dvd (Nat.mul_dvd_mul_right (Nat.pow_dvd_pow _ ht) _)).mono (ah (aL _ ?_) hc);exact ah (cy (nu _) t) (aj (by lia) ht)
theorem wD {M:Int} {t:Nat} (hM:lP M (mv.flatten.map nm)) (hB:(dI mv).natAbs<=M1) (f:GF M1 V1 mv) (M0:0 < M1) (h:V1*M1 < 2^t):∀l∈cQ mv,∀x∈l,Sz t x:=λl hl x hx=>by
 obtain ⟨i,hi,rfl⟩:=eh hl;obtain ⟨j,hj,rfl⟩:=eh hx;have e:=sL hM (i:=i) (l:=j);have e1:(cQ mv).getD i []=(cQ mv)[i]:=by rw[ae,ai hi];rfl
 have e2:((cQ mv)[i]).getD j 0=(cQ mv)[i][j]:=by rw[ae,ai hj];rfl
 rw[e1,e2] at e
 have fq:Fr M1 V1 (tZ mv i j):=by
  unfold tZ;rw[ae (l:=mv)];cases ei:mv[i]? with
  | none=>show Fr M1 V1 (([]:List Rat).getD j 0);exact Fr.zero
  | some xs =>
   show Fr M1 V1 (xs.getD j 0)
   rw[ae];cases ej:xs[j]? with
   | none=>exact Fr.zero
   | some y=>exact f xs (ao ei) y (ao ej)
 obtain ⟨z,ez,bz⟩:=fq
 have m0:(M1:Rat)≠0:=λw=>by
  have:((M1:Int):Rat)=0:=by rw[bA];exact w
  have:=zU this
  lia
 have key:((cQ mv)[i][j]*(M1:Int))=z*dI mv:=by
  have:(((cQ mv)[i][j]*(M1:Int):Int):Rat)=((z*dI mv:Int):Rat):=by
   rw[aF,aF,e,bA,<- ez];grind
  exact fk.mp this
 have k2:=congrArg Int.natAbs key;rw[cw,cw,bZ] at k2;show ((cQ mv)[i][j]).natAbs < 2^t
 have k3:((cQ mv)[i][j]).natAbs*M1<=V1*M1*M1:=by rw[k2];exact aY bz hB
 exact aK (Nat.le_of_mul_le_mul_right k3 M0) h
theorem yp {n t d:Nat} {B:Int} (n8:n<=8) (b0:0 < B) (eB:B=dI mv) (hB:B.natAbs^n<=2^d) (hs:∀k,k<=n->Sz (1+k*(t+17)) (dz (cQ mv) n k).2):∃D,0 < D/\D<=2^d/\∀x∈jK mv n,Tp D (2^(1+n*(t+17)+d)) x:=by
 subst eB;refine ⟨(dI mv).natAbs^n,Nat.pow_pos (by lia),hB,λx hx=>?_⟩;obtain ⟨k,hk,rfl⟩:=aN.mp (List.mem_reverse.mp (show x∈((List.range n).map λk=>-(wq (cQ mv) n (dI mv:Rat) (k+1))).reverse from hx));have hk:=rd.mp hk;have hb:(dI mv:Rat)≠0:=λz=>by have:=cZ.mp z;lia
 have hp:=rF hb (k+1)
 have en:(((dI mv).natAbs^n:Nat):Rat)=(dI mv:Rat)^(k+1)*(dI mv:Rat)^(n - (k+1)):=by
  rw[<- bA,Int.natCast_pow,Int.natAbs_of_nonneg (by lia),<- qe,<- qe,<- aF,<- Int.pow_add,show k+1+(n - (k+1))=n by lia]
 refine ⟨-((dz (cQ mv) n (k+1)).2*dI mv^(n - (k+1))),?_,?_⟩
 ·rw[en,yg,aF,qe];unfold wq;rw[cB];have:((dI mv:Rat)^(k+1))⁻¹*(dI mv:Rat)^(k+1)=1:=Rat.inv_mul_cancel _ hp;grind
 ·rw[Int.natAbs_neg,cw,Int.natAbs_pow,cC];have h1:((dz (cQ mv) n (k+1)).2).natAbs < 2^(1+(k+1)*(t+17)):=hs (k+1) (by lia);have h2:(2:Nat)^(1+(k+1)*(t+17))<=2^(1+n*(t+17)):=aj (by decide) (Nat.add_le_add_left (aL _ (by lia)) _);have h3:(dI mv).natAbs^(n - (k+1))<=(dI mv).natAbs^n:=aj (by lia) (by lia);exact aY (by lia) (ah h3 hB)
end
def xY (mv:LR9):Prop:=∃M1 V1:Nat,0 < M1/\GF M1 V1 mv/\((mv.length<=4/\M1=2520/\V1=9^3*9)\/(mv.length<=2/\M1<=2^80/\V1=9^3*2^20))
theorem uZ {mv:LR9} {M1 V1:Nat} (M0:0 < M1) (f:GF M1 V1 mv) (m80:M1<=2^80) (v30:V1<=2^30):lP (M1:Int) (mv.flatten.map nm)/\Sz 1000 (M1:Int):=by
 refine ⟨⟨by lia,?_,λn hn=>?_⟩,?_⟩
 ·show ((M1:Nat):Int).natAbs < 2^4400
  rw[bZ];exact aK m80 (kC (by decide) (by decide))
 ·obtain ⟨x,hx,rfl⟩:=aN.mp hn;obtain ⟨xs,h1,h2⟩:=jR.mp hx;obtain ⟨a,_⟩:=(f xs h1 x h2).sz M0 m80 v30;exact ⟨jE x,(f xs h1 x h2).den,a.mono (by decide)⟩
 ·show ((M1:Nat):Int).natAbs < 2^1000
  rw[bZ];exact aK m80 (kC (by decide) (by decide))
theorem xY.nums {mv:LR9} (h:xY mv):∃M1 V1 N a c t d,0 < M1/\GF M1 V1 mv/\M1<=2^80/\V1<=2^30/\mv.length<=4/\N=2*mv.length+2/\M1^N<=2^a/\a<=480/\(mv.length*V1+1)^N<=2^c/\c<=186/\V1*M1 < 2^t/\M1^mv.length<=2^d/\d<=160/\1+mv.length*(t+17)<=260:=by
 obtain ⟨M1,V1,M0,f,hc⟩:=h;rcases hc with ⟨n4,rfl,rfl⟩ | ⟨n2,a,rfl⟩
 ·refine ⟨2520,9^3*9,_,12*(2*mv.length+2),15*(2*mv.length+2),25,12*mv.length,by decide,f,by decide,by decide,n4,rfl,?_,by lia,?_,by lia,by decide,?_,by lia,by lia⟩
  ·rw[nk];exact cy (by decide) _
  ·rw[nk];refine cy ?_ _;exact ah (bN (aL (9^3*9) n4)) (by decide)
  ·rw[nk];exact cy (by decide) _
 ·refine ⟨M1,9^3*2^20,_,80*(2*mv.length+2),31*(2*mv.length+2),111,80*mv.length,M0,f,a,by decide,by lia,rfl,?_,by lia,?_,by lia,?_,?_,by lia,by lia⟩
  ·rw[nk];exact cy a _
  ·rw[nk];refine cy ?_ _;exact ah (bN (aL (9^3*2^20) n2)) (by decide)
  ·exact aK (aY (show 9^3*2^20<=2^30 by decide) a) (by rw[<- cC];decide)
  ·rw[nk];exact cy a _
theorem xn {mv:LR9} (h:xY mv):∃M:Int,lP M (mv.flatten.map nm)/\Sz 1000 M:=by
 obtain ⟨M1,V1,_,_,_,_,_,M0,f,m80,v30,_⟩:=h.nums;exact ⟨_,uZ M0 f m80 v30⟩
theorem zr {mv:LR9} {M:Int} (hM:lP M (mv.flatten.map nm)):(dI mv).natAbs<=M.natAbs:=by
 have hd:dI mv∣M:=m3 (by decide) (xZ _) λb hb=>by
  obtain ⟨n,hn,rfl⟩:=aN.mp hb;exact ⟨(hM.2.2 n hn).1,(hM.2.2 n hn).2.1⟩
 exact fm (by have:=hM.1;lia) (bW.mpr hd)
theorem rV {mv:LR9} {st:List Rat} {E V0:Nat} (h:xY mv) (hw:∀xs∈mv,xs.length=mv.length) (hl:st.length=mv.length) (E0:0 < E) (E1:E<=2^20) (V1':V0<=2^10) (h0:∀x∈st,Fr E V0 x):Cp mv (jK mv mv.length) st:=by
 obtain ⟨M1,V1,N,a,c,t,d,M0,f,m80,v30,n4,eN,ha,a480,hc,c186,ht,hd,d160,h260⟩:=h.nums;obtain ⟨hM,_⟩:=uZ M0 f m80 v30;have bl:=zr hM;rw[bZ] at bl;obtain ⟨M,m0,m1,m2⟩:=z7 (N:=N) (a:=500) (c:=196) hw hl M0 E0 f h0 (ah (mul_pow ha E1) (aj (by decide) (by lia))) (ah (mul_pow hc V1') (aj (by decide) (by lia)));have hsz:=xG (oT (mv:=mv)) (ug (mv:=mv) hw) (by lia) (wD hM bl f M0 ht);obtain ⟨D,D0,D1,D2⟩:=yp (mv:=mv) (n:=mv.length) (t:=t) (d:=d) (by lia) hM.bot.1 rfl (ah (cy bl _) hd) λk _=>(hsz k).2.1
 refine ⟨M,2^(196+500),D,2^420,m0,D0,t7,t7,λu hu x hx=>Tp.of (m2 u (by lia) x hx) (mul_pow (av _) m1),λx hx=>(D2 x hx).mono (aj (by decide) (by lia)),ah (mul_pow m1 D1) (aj (by decide) (by lia)),?_,λu hu xs hx=>?_⟩
 ·exact ah (mul_pow (c:=7) (by decide) (mul_pow (av _) (av _))) (aj (by decide) (by decide))
 ·exact ⟨80,30,500,196,⟨M1,V1,M0,m80,v30,f xs hx⟩,⟨M,2^196,m0,m1,av _,m2 u (by lia)⟩,by decide⟩
theorem Bt {xs:List Rat} {f:Nat} (h:f=9\/(f=1000/\xs.length<=2)) (dx:∀x∈xs,Dr (max f 6) x):∃E V0,0 < E/\E<=2^20/\V0<=2^10/\∀x∈xs,Fr E V0 x:=by
 rcases h with rfl | ⟨rfl,l2⟩
 ·exact ⟨2520,9,by decide,by decide,by decide,λx hx=>xI (dx x hx) (Nat.dvd_refl _)⟩
 ·obtain ⟨M,m0,m1,m2⟩:=uY (c:=10) (n:=xs.length) (rows:=[xs]) λqs hq=>by
   rw[t8.mp hq];exact ⟨rfl,λy hy=>⟨ah (dx y hy).1 (by decide),ah (dx y hy).2 (by decide)⟩⟩
  exact ⟨M,2^10,m0,ah m1 (aj (by decide) (by rw[dA];lia)),av _,λx hx=>m2 xs (by simp) x hx⟩
theorem CJ {n i o w c:Nat} {mv pt lk:LR9} (h:Cy n i o w c mv pt lk) (lm:mv.length=n) (n4:n<=4) (hw:w<=9\/(n<=2/\c=20)) (hc:c*((n+i+o)*n)<=800) (c20:c<=20):xY mv/\qY mv pt lk:=by
 refine ⟨?_,?_⟩
 ·obtain ⟨M1,M2,M3,V1,a1,a2,a3,f1,f2,f3,hcs⟩:=h;rcases hcs with ⟨w9,rfl,rfl,rfl,e⟩ | ⟨w9,e1,e2,e3,e⟩
  ·exact ⟨2520,V1,by decide,f1,.inl ⟨by lia,rfl,e⟩⟩
  ·rcases hw with hw | ⟨hn,rfl⟩
   ·lia
   ·refine ⟨M1,V1,a1,f1,.inr ⟨by lia,ah e1 (aj (by decide) ?_),e⟩⟩;have:n*n<=2*2:=aY hn hn
    lia
 ·obtain ⟨M,V1,M0,f1,f2,f3,hcs⟩:=h.n
  have b:M<=2^800/\V1<=2^400:=by
   rcases hcs with ⟨_,rfl,rfl⟩ | ⟨_,e,rfl⟩
   ·exact ⟨ah (show 2520<=2^12 by decide) (aj (by decide) (by decide)),ah (show 9^3*9<=2^20 by decide) (aj (by decide) (by decide))⟩
   ·exact ⟨ah e (aj (by decide) hc),ah (mul_pow (c:=10) (by decide) (aj (by decide) c20)) (aj (by decide) (by decide))⟩
  exact ⟨M,V1,M0,b.1,b.2,f1,f2,f3⟩
end L2
open L2
local macro_rules | `(tactic| walk_at "hl") => `(tactic| first | (show _ ≤ sizeLine; with_unfolding_all decide) | (with_unfolding_all exact (by decide)))
local macro_rules | `(tactic| walk_at "sq") => `(tactic| first | with_reducible assumption | with_reducible exact lO.of (by assumption) | with_reducible exact bL.of (by assumption) | with_reducible exact lO.of ay | with_reducible exact bL.of ay | assumption)
local macro_rules | `(tactic| walk_at "sc") => `(tactic| first | (with_reducible show (0 : Int) < _; decide) | with_reducible exact zo (by decide) (by decide) | with_reducible exact sx (by decide) (by decide) | with_reducible exact cpow_of (by decide) (by decide) (by decide))
local macro_rules | `(tactic| walk_at "rd") => `(tactic| first
  | with_reducible refine Ad ?_
  | with_reducible refine yI ?_
  | with_reducible refine Au ?_
  | with_reducible refine xb ?_
  | ((with_reducible refine' Ab ?hx1 ?_); (case hx1 => with_unfolding_all rfl))
  | with_reducible refine CD ?_
  | with_reducible refine BD ?_
  | with_reducible refine BG ?_
  | with_reducible refine By ?_
  | with_reducible refine CF ?_
  | with_reducible refine Ar ?_
  | with_reducible refine Aj ?_
  | with_reducible refine rd_eqS ?_
  | with_reducible refine rd_neS ?_
  | with_reducible refine rd_eqB ?_
  | with_reducible refine rd_neB ?_
  | with_reducible refine yK ?_
  | with_reducible refine rd_listZip ?_
  | with_reducible refine Aq ?_
  | with_reducible refine yF ?_
  | with_reducible refine rd_meth ?_
  | with_reducible refine yJ ?_
  | with_reducible refine xa ?_
  | with_reducible refine yE ?_
  | with_reducible refine BA ?_
  | with_reducible refine Ae ?_
  | with_reducible refine rd_retN ?_
  | with_reducible refine An ?_
  | with_reducible refine Av ?_
  | with_reducible refine BC ?_
  | with_reducible refine Ah ?_
  | with_reducible refine yV ?_
  | with_reducible refine rd_orV ?_
  | with_reducible refine yH ?_
  | with_reducible refine Ao ?_
  | with_reducible refine Aa ?_
  | with_reducible refine zg ?_
  | with_reducible refine CP ?_
  | with_reducible refine BO ?_
  | with_reducible refine iteNF ?_
  | with_reducible refine Bx ?_
  | with_reducible refine Ai ?_
  | with_reducible refine yR ?_
  | with_reducible refine Ac ?_
  | with_reducible refine Ak ?_
  | with_reducible refine yT ?_
  | with_reducible refine BE ?_
  | with_reducible refine yQ ?_
  | with_reducible refine Ag ?_
  | with_reducible refine yU ?_
  | ((with_reducible refine' rd_aug ?hx1 ?_); (case hx1 => with_unfolding_all rfl))
  | with_reducible refine Am ?_
  | with_reducible refine yN ?_
  | with_reducible refine xc ?_
  | with_reducible refine yO ?_
  | with_reducible refine BB ?_
  | with_reducible refine vQ ?_
  | with_reducible refine yG ?_
  | with_reducible refine Ap ?_
  | with_reducible refine w5 ?_
  | with_reducible refine yL ?_
  | with_reducible refine wZ ?_
  | with_reducible refine wY ?_
  | ((with_reducible refine' yS ?hx1 ?_); (case hx1 => with_unfolding_all rfl))
  | with_reducible refine yD ?_
  | with_reducible refine BF ?_
  | with_reducible refine rd_bm0 ?_
  | with_reducible refine rd_brk ?_
  | ((with_reducible refine' yM ?hx1 ?hx2 ?_); (case hx1 => walk_at "sq"); (case hx2 => with_unfolding_all rfl))
  | with_reducible refine rd_cont ?_
  | ((with_reducible refine' fu ?hx1 ?_); (case hx1 => walk_at "sc"))
  | ((with_reducible refine' Al ?hx1 ?hx2 ?_); (case hx1 => walk_at "sq"); (case hx2 => with_unfolding_all rfl))
  | ((with_reducible refine' cR ?hx1 ?hx2 ?_); (case hx1 => walk_at "sq"); (case hx2 => with_unfolding_all rfl))
  | ((with_reducible refine' yP ?hx1 ?hx2 ?_); (case hx1 => walk_at "sq"); (case hx2 => with_unfolding_all rfl))
  | ((with_reducible refine' eF ?hx1 ?hx2 ?hx3 ?_); (case hx1 => with_reducible first | assumption | exact ay); (case hx2 => with_unfolding_all rfl); (case hx3 => with_unfolding_all rfl))
  | with_reducible refine ⟨_, rfl, ?_⟩
  | with_reducible refine ⟨_, _, rfl, ?_⟩)
local macro_rules | `(tactic| walk_at "w") => `(tactic| repeat walk_at "rd")
local macro_rules | `(tactic| walk_at "d") => `(tactic| exact ⟨rfl,rfl,rfl,by decide +kernel,rfl,by decide +kernel,by decide +kernel⟩)
namespace Lw
open PySem PySem.Spec PyProof.Rows L2 Nm
set_option maxHeartbeats 4000000
def top (i:Nat):Stmt:=PySem.Challenge.pw_helmsum_k83_whole_courses_keep_their_wis.main.body.getD i (.Pass ⟨0,0,0,0⟩)
abbrev fP:Stmt:=top 33
abbrev eV:Stmt:=top 34
abbrev dw:Stmt:=top 51
abbrev fN:Stmt:=top 35
abbrev dE:Stmt:=top 40
abbrev fM:Stmt:=top 41
abbrev eZ:Stmt:=top 48
abbrev fL:Stmt:=top 36
abbrev eY:Stmt:=top 43
abbrev eX:Stmt:=top 38
abbrev iq:Stmt:=top 44
abbrev dZ:Stmt:=top 49
abbrev dY:Stmt:=top 50
abbrev cI:Stmt:=top 8
abbrev ck:Stmt:=top 9
abbrev cT:Stmt:=top 14
abbrev nM:Stmt:=top 17
abbrev eT:Stmt:=top 15
abbrev dX:Stmt:=top 26
abbrev eR:Stmt:=top 27
abbrev fI:Stmt:=top 28
abbrev eQ:Stmt:=top 30
abbrev jL:Stmt:=top 11
abbrev fJ:Stmt:=top 31
abbrev eS:Stmt:=top 22
abbrev fK:Stmt:=top 7
abbrev eU:Stmt:=top 10
abbrev jM:Stmt:=top 13
abbrev dD:Stmt:=top 23
abbrev cm:Stmt:=inClass (top 24) 0
abbrev dG:Stmt:=top 52
abbrev e8:Stmt:=top 53
abbrev cJ:Stmt:=top 45
abbrev dF:Stmt:=top 46
abbrev fO:Stmt:=top 42
abbrev ip:Stmt:=top 54
abbrev d4:Stmt:=top 56
abbrev qC:Stmt:=top 57
set_option genInjectivity false in
set_option genSizeOf false in
structure Ads where
 ko:Addr
 j9:FuncData
 jo:Addr
 i5:FuncData
 ia:Addr
 hZ:FuncData
 km:Addr
 j7:FuncData
 gG:Addr
 gh:FuncData
 kl:Addr
 j6:FuncData
 js:Addr
 jc:FuncData
 ki:Addr
 j5:FuncData
 jr:Addr
 jb:FuncData
 jq:Addr
 ja:FuncData
 lK:Addr
 lG:FuncData
 ic:Addr
 h7:FuncData
 ib:Addr
 h6:FuncData
 ee:Addr
 d6:FuncData
 dQ:Addr
 dO:FuncData
 eH:Addr
 eG:FuncData
 sD:Addr
 so:FuncData
 jm:Addr
 iY:FuncData
 h9:Addr
 hX:FuncData
 ji:Addr
 iW:FuncData
 kf:Addr
 jZ:FuncData
 jh:Addr
 iV:FuncData
 nh:Addr
 m5:FuncData
 kg:Addr
 j3:FuncData
 jk:Addr
 iX:FuncData
 kh:Addr
 j4:FuncData
 jn:Addr
 iZ:FuncData
 ni:Addr
 m6:FuncData
 gF:Addr
 gg:FuncData
 dR:Addr
 dP:FuncData
 gI:Addr
 gA:FuncData
 jt:Addr
 jd:FuncData
 ef:Addr
 d7:FuncData
 gH:Addr
 gv:FuncData
 kn:Addr
 j8:FuncData
 lJ:Addr
 lF:FuncData
 ie:Addr
 h8:FuncData
 xW:Addr
 xM:FuncData
 t_MOST_STATES:Tok
 t_MOST_PUTS:Tok
 t_MOST_LOOKS:Tok
 a_System:Addr
structure Txt (K:W.Frag) (mg:Str->Option Value) (Z:Ads):Prop where
 oo:mg "_law_bag"=some (.ref Z.ko)
 pZ:Binds K Z.j9 ["_law_script"] []
 mI:jH K "_law_bag" "_law_bag" fP Z.ko Z.j9
 aO:mg "_law_take"=some (.ref Z.jo)
 aW:Binds K Z.i5 ["_law_bag_here","_law_many"] []
 aT:jH K "_law_take" "_law_take" eV Z.jo Z.i5
 lX:mg "_law_sizes"=some (.ref Z.ia)
 m8:Binds K Z.hZ ["_law_bag_here"] []
 kv:jH K "_law_sizes" "_law_sizes" dw Z.ia Z.hZ
 fc:mg "_law_low"=some (.ref Z.km)
 fW:Binds K Z.j7 ["_law_top","_law_bottom"] []
 eP:jH K "_law_low" "_law_low" fN Z.km Z.j7
 kO:mg "_law_number"=some (.ref Z.gG)
 md:Binds K Z.gh ["_law_bag_here","_law_wide"] []
 jI:jH K "_law_number" "_law_number" dE Z.gG Z.gh
 fb:mg "_law_row"=some (.ref Z.kl)
 fV:Binds K Z.j6 ["_law_bag_here","_law_many","_law_wide"] []
 eO:jH K "_law_row" "_law_row" fM Z.kl Z.j6
 mW:mg "_law_move"=some (.ref Z.js)
 oz:Binds K Z.jc ["_law_bag_here","_law_n","_law_way","_law_first","_law_wide"] []
 kZ:jH K "_law_move" "_law_move" eZ Z.js Z.jc
 gP:mg "_law_sum"=some (.ref Z.ki)
 iJ:Binds K Z.j5 ["_law_one","_law_other"] []
 fX:jH K "_law_sum" "_law_sum" fL Z.ki Z.j5
 jV:mg "_law_plus"=some (.ref Z.jr)
 kS:Binds K Z.jb ["_law_one","_law_other"] []
 ju:jH K "_law_plus" "_law_plus" eY Z.jr Z.jb
 fz:mg "_law_prod"=some (.ref Z.jq)
 gQ:Binds K Z.ja ["_law_one","_law_other"] []
 fj:jH K "_law_prod" "_law_prod" eX Z.jq Z.ja
 mB:mg "_law_by"=some (.ref Z.lK)
 nY:Binds K Z.lG ["_law_by_here","_law_row_here"] []
 lM:jH K "_law_by" "_law_by" iq Z.lK Z.lG
 lZ:mg "_law_mixed"=some (.ref Z.ic)
 ng:Binds K Z.h7 ["_law_bag_here","_law_move_here","_law_put","_law_look"] []
 ky:jH K "_law_mixed" "_law_mixed" dZ Z.ic Z.h7
 lY:mg "_law_parts"=some (.ref Z.ib)
 m9:Binds K Z.h6 ["_law_bag_here","_law_n","_law_ins","_law_outs","_law_wide"] []
 kx:jH K "_law_parts" "_law_parts" dY Z.ib Z.h6
 dN:mg "common_divisor"=some (.ref Z.ee)
 ed:Binds K Z.d6 ["one","other"] []
 dq:jH K "common_divisor" "common_divisor" cI Z.ee Z.d6
 iG:mg "common_multiple"=some (.ref Z.dQ)
 jf:Binds K Z.dO ["wholes"] []
 fE:jH K "common_multiple" "common_multiple" ck Z.dQ Z.dO
 jN:mg "common_bottom"=some (.ref Z.eH)
 kz:Binds K Z.eG ["row"] []
 gX:jH K "common_bottom" "common_bottom" cT Z.eH Z.eG
 vf:mg "flat"=some (.ref Z.sD)
 xU:Binds K Z.so ["lists"] []
 uJ:jH K "flat" "flat" nM Z.sD Z.so
 mU:mg "tops_over"=some (.ref Z.jm)
 ox:Binds K Z.iY ["row","bottom"] []
 kX:jH K "tops_over" "tops_over" eT Z.jm Z.iY
 lV:mg "whole_grid"=some (.ref Z.h9)
 m7:Binds K Z.hX ["grid"] []
 ks:jH K "whole_grid" "whole_grid" dX Z.h9 Z.hX
 mT:mg "whole_dot"=some (.ref Z.ji)
 ow:Binds K Z.iW ["one","other"] []
 kW:jH K "whole_dot" "whole_dot" eR Z.ji Z.iW
 oh:mg "whole_on"=some (.ref Z.kf)
 pW:Binds K Z.jZ ["lines","tops"] []
 mF:jH K "whole_on" "whole_on" fI Z.kf Z.jZ
 mS:mg "with_main"=some (.ref Z.jh)
 ou:Binds K Z.iV ["lines","by"] []
 kU:jH K "with_main" "with_main" eQ Z.jh Z.iV
 qJ:mg "lowest"=some (.ref Z.nh)
 tT:Binds K Z.m5 ["top","bottom"] []
 p7:jH K "lowest" "lowest" jL Z.nh Z.m5
 oi:mg "own_wish"=some (.ref Z.kg)
 pX:Binds K Z.j3 ["system"] []
 mG:jH K "own_wish" "own_wish" fJ Z.kg Z.j3
 hJ:mg "want_list"=some (.ref Z.jk)
 je:Binds K Z.iX ["thing","at","most"] []
 gR:jH K "want_list" "want_list" eS Z.jk Z.iX
 kN:mg "is_whole"=some (.ref Z.kh)
 mD:Binds K Z.j4 ["thing"] []
 ku:jH K "is_whole" "is_whole" fK Z.kh Z.j4
 mV:mg "is_number"=some (.ref Z.jn)
 oy:Binds K Z.iZ ["thing"] []
 kY:jH K "is_number" "is_number" eU Z.jn Z.iZ
 qK:mg "is_row"=some (.ref Z.ni)
 tU:Binds K Z.m6 ["thing","many"] []
 p8:jH K "is_row" "is_row" jM Z.ni Z.m6
 fy:mg "copied_rows"=some (.ref Z.gF)
 gD:Binds K Z.gg ["things","wide"] []
 eD:jH K "copied_rows" "copied_rows" dD Z.gF Z.gg
 jg:Binds K Z.dP ["self","move","put","look"] []
 jv:jH K "__init__" "System.__init__" cm Z.dR Z.dP
 fA:mg "_law_copied"=some (.ref Z.gI)
 gE:Binds K Z.gA ["_law_grid"] []
 eE:jH K "_law_copied" "_law_copied" dG Z.gI Z.gA
 mX:mg "_law_made"=some (.ref Z.jt)
 oA:Binds K Z.jd ["_law_parts_here"] []
 lg:jH K "_law_made" "_law_made" e8 Z.jt Z.jd
 iU:mg "_law_is_number"=some (.ref Z.ef)
 jP:Binds K Z.d7 ["_law_thing"] []
 fY:jH K "_law_is_number" "_law_is_number" cJ Z.ef Z.d7
 kP:mg "_law_is_row"=some (.ref Z.gH)
 me:Binds K Z.gv ["_law_thing","_law_many"] []
 jJ:jH K "_law_is_row" "_law_is_row" dF Z.gH Z.gv
 oj:mg "_law_dot"=some (.ref Z.kn)
 pY:Binds K Z.j8 ["_law_one","_law_other"] []
 mH:jH K "_law_dot" "_law_dot" fO Z.kn Z.j8
 pL:mg "_law_on"=some (.ref Z.lJ)
 qX:Binds K Z.lF ["_law_grid","_law_row_here"] []
 oa:jH K "_law_on" "_law_on" ip Z.lJ Z.lF
 jG:mg "_law_keeps"=some (.ref Z.ie)
 kd:Binds K Z.h8 ["_law_parts_here","_law_wish","_law_start"] []
 ij:jH K "_law_keeps" "_law_keeps" d4 Z.ie Z.h8
 zW:jH K "law" "law" qC Z.xW Z.xM
 abs:mg "abs"=none
 len:mg "len"=none
 min:mg "min"=none
 range:mg "range"=none
 int:mg "int"=none
 sum:mg "sum"=none
 zip:mg "zip"=none
 enumerate:mg "enumerate"=none
 list:mg "list"=none
 reversed:mg "reversed"=none
 isinstance:mg "isinstance"=none
 bool:mg "bool"=none
 tuple:mg "tuple"=none
 all:mg "all"=none
 mg_MOST_STATES:mg "MOST_STATES"=some (.int 8 Z.t_MOST_STATES)
 mg_MOST_PUTS:mg "MOST_PUTS"=some (.int 4 Z.t_MOST_PUTS)
 mg_MOST_LOOKS:mg "MOST_LOOKS"=some (.int 4 Z.t_MOST_LOOKS)
 mg_System:mg "System"=some (.ref Z.a_System)
 cl_System:ye K Z.a_System
 na_move:fD K Z.a_System "move"
 na_states:fD K Z.a_System "states"
 na_put:fD K Z.a_System "put"
 na_ins:fD K Z.a_System "ins"
 na_look:fD K Z.a_System "look"
 na_outs:fD K Z.a_System "outs"
 mk_System:Mk K Z.a_System Z.dR
section
variable {P:Program} {w:World} {K:W.Frag} {mg:Str->Option Value} {base:Heap} {Z:Ads}
theorem tj:bc ["_law_script"] ["_law_script"] (au fP):=by walk_at "d"
theorem tG (T:Txt K mg Z):cE P w K mg base iO 1 Z.ko Z.j9 ["_law_script"] (wR K):=by
 refine T.mI.ok tj (λvs H Q E h=>?_) (λcdv A outer s H vs Q E hr h=>?_)
 ·obtain ⟨a,ns,rfl,_⟩:=h;rfl
 ·obtain ⟨a,ns,rfl,hS,hlen,k⟩:=h;refine ⟨_,(aw (bf (iB (aa af (aa af (aa af (aa (cO ["_law_cell"] [] [] (cN (xi yx (pv 0) y4 (y0 af))) (λ_=>(aM (i:=0) (show List.Nodup (α:=PySem.Str) ["_law_cell"] by decide +kernel))) (λ_=>cS) (λ_=>(bD pU (by rfl) T.abs PyProof.Rows.boot_abs (aa (pv 0) ag)))) ag))))))),?_⟩;refine aR (σ:=[some (.ref a)]) rfl ?_;walk_at "w";refine ⟨a,_,rfl,hS,λl hl=>?_⟩;have hcl:(su (ns.map V.int) none (some 63)).length<=63:=ah (ot _ _ _) (by simpa using hlen);refine ⟨l,rfl,⟨_,bL.of ay⟩,?_⟩;refine ir (K:=K) (a:=l) (xs:=su (ns.map V.int) none (some 63)) (λi ys H'=>H'=upd H l (.lst (su (ns.map V.int) none (some 63)))/\∃cs:List Int,ys=cs.map V.int/\∀x∈cs,0<=x) (ah hcl (by decide)) ⟨rfl,[],rfl,λ_ z=>nomatch z⟩ (λi ys H' _ ⟨e,_⟩=>by subst e;exact bL.of ay) ?_ ?_
  ·rintro i x ys H' hx hi ⟨rfl,cs,rfl,hcs⟩
   obtain ⟨z,rfl⟩:∃z,x=V.int z:=by
    have hm:x∈ns.map V.int:=List.mem_of_mem_drop (kE (ao hx));obtain ⟨z,_,e⟩:=aN.mp hm;exact ⟨z,e.symm⟩
   walk_at "w";refine ⟨rfl,cs++[if z < 0 then -z else z],by simp,λx hx=>?_⟩;rcases aD.mp hx with hx | hx
   ·exact hcs x hx
   ·have e:x=if z < 0 then -z else z:=by simpa using hx
    subst e
    split <;> lia
  ·rintro ys H' hy ⟨rfl,cs,rfl,hcs⟩ p hp;walk_at "w";refine ⟨by show 4<=sizeLine;decide,λb hb=>?_⟩;have n1:b≠p:=λz=>by rw[z,ay] at hb;cases hb
   have hb1:(upd H l (.lst (su (ns.map V.int) none (some 63)))) b=none:=by rw[aH n1] at hb;exact hb
   have s1:az H (upd H l (.lst (su (ns.map V.int) none (some 63)))):=az.new hl;refine k b _ (s1.free hb1) ⟨p,0,1234567891,0,cs,ay,by rw[aH n1.symm];exact ay,by decide,by decide,by lia,hcs⟩ ((s1.trans (az.new hp)).trans (az.new hb))
theorem dv:bc ["_law_bag_here","_law_many","_law_more","_law_cell","_law_value","_law_first","_law_second"] ["_law_bag_here","_law_many"] (au eV):=by walk_at "d"
theorem bo (T:Txt K mg Z):cE P w K mg base iO 1 Z.jo Z.i5 ["_law_bag_here","_law_many"] yw:=by
 refine T.aT.ok dv (λvs H Q E h=>?_) (λcdv A outer s H vs Q E hr h=>?_)
 ·obtain ⟨p,n,rfl,_⟩:=h;rfl
 ·obtain ⟨p,n,rfl,⟨q,a,b,c,cs,hp,hq,ha,hc,hcl,hcs⟩,hn,hn2,k⟩:=h;have nqp:q≠p:=wd hp hq
  refine ⟨_,(d5 (cL (aQ et (bw bH (pv 0) af) af (ba _)) (ak (aV (i:=2) dv.nd rfl (Or.inl rfl) af)
   (d5 (cL (aQ lT (bw bH (pv 0) af) (bD bI (by rfl) T.len bM (aa (bw bH (pv 0) af) ag)) (ba _)) (ak (aV (i:=3) dv.nd rfl (Or.inl rfl) (bw bH (bw bH (pv 0) af) (bw bH (pv 0) af)))
   (ak (yY (pv 0) af xC af AR set_list)
   (ak (cL (aQ qH (pv 3) af (ba _)) (aw (fR (pv 3) (gW (pv 0) af set_list))) bC)
   (aw (aV (i:=2) dv.nd rfl (Or.inl rfl) (bp dn (bp jD (pv 3) af) af)))))) bC)
   (aw (fR (bp jD (bp dn (bp di (bw bH (pv 0) af) af) (pv 2)) af) (gW (pv 0) af set_list))))) bC)
   (ak (cL (aQ pC (bw bH (pv 0) af) af (ba _)) (ak (aV (i:=4) dv.nd rfl (Or.inl rfl) (bp jD (bw bH (pv 0) af) (pv 1)))
   (ak (fR (bp fv (bw bH (pv 0) af) (pv 1)) (gW (pv 0) af set_list))
   (aw (bf (pv 4))))) bC)
   (ak (aV (i:=5) dv.nd rfl (Or.inl rfl) (bp jD (bp di (bw bH (pv 0) af) af) af))
   (ak (aV (i:=6) dv.nd rfl (Or.inl rfl) (bp jD (bp di (pv 5) af) af))
   (ak (cL (aQ pC (pv 1) af (ba _)) (aw (bf (bp jD (bp dn (bp di (pv 6) af) (pv 5)) (pv 1)))) bC)
   (aw (bf (bp jD (bp fv (pv 6) af) (pv 1))))))))),?_⟩
  refine aR (σ:=[some (.ref p),some (.int n),none,none,none,none,none]) rfl ?_;refine ⟨λσ' H'=>∃(x y:Option V) (a' b' c':Int),σ'=[some (.ref p),some (.int n),x,y,none,none,none]/\H' p=some (.lst [.int a',.int b',.int c',.ref q])/\0<=a'/\0<=c'/\c'<=cs.length/\bR p H H',?_,?_⟩
  ·walk_at "w";refine fF (λh0=>?_) (λh0=>?_)
   ·walk_at "w";refine ⟨λσ' H'=>∃(m:Int) (y:Option V) (a' c':Int),σ'=[some (.ref p),some (.int n),some (.int m),y,none,none,none]/\H' p=some (.lst [.int a',.int b,.int c',.ref q])/\0<=a'/\0<=c'/\c'<=cs.length/\bR p H H',?_,?_⟩
    ·walk_at "w";refine ⟨_,_,rfl,.inl (bL.of hq),?_⟩;walk_at "w";refine fF (λh1=>?_) (λh1=>?_)
     ·have h1':c < cs.length:=by simpa using of_decide_eq_true h1
      obtain ⟨z,hz⟩:∃z,cs[c.toNat]?=some z:=⟨_,ai (by lia)⟩;have hz0:0<=z:=hcs z (ao hz);walk_at "w";refine cR (bL.of hq) (v:=.int z) ?_ ?_
      ·have:=ke (xs:=cs.map V.int) (j:=c.toNat) (v:=.int z) (by rw[aB,hz];rfl);rwa [Int.toNat_of_nonneg hc] at this
      walk_at "w";refine fF (λh2=>?_) (λh2=>?_)
      ·walk_at "w";exact ⟨_,_,z,c+1,rfl,ay,hz0,by lia,by lia,(bR.set hp).trans (bR.set ay)⟩
      ·walk_at "w";exact ⟨_,_,a,c+1,rfl,ay,ha,by lia,by lia,bR.set hp⟩
     ·walk_at "w";exact ⟨_,_,a,c,rfl,hp,ha,hc,hcl,bR.refl _⟩
    ·rintro σ' H' ⟨m,y,a',c',rfl,hp',ha',hc',hcl',u'⟩;walk_at "w";exact ⟨_,_,a',_,c',rfl,ay,ha',hc',hcl',u'.trans (bR.set hp')⟩
   ·walk_at "w";exact ⟨_,_,a,b,c,rfl,hp,ha,hc,hcl,bR.refl _⟩
  ·rintro σ' H' ⟨x,y,a',b',c',rfl,hp',ha',hc',hcl',u'⟩;have hq':H' q=some (.lst (cs.map V.int)):=u'.1 q _ hq nqp
   have sn:Sz 8999 n:=by
    show n.natAbs < 2^8999
    exact aE (show n.natAbs < 2^64 by lia) (aj (by decide) (by decide))
   walk_at "w";refine fF (λh0=>?_) (λh0=>?_)
   ·walk_at "w";refine fu (show (0:Int) < n from hn) ?_;walk_at "w";refine fu (show kB _ _ from ⟨by lia,sn⟩) ?_;walk_at "w";refine k _ _ (il _ (by lia)) (eJ _ hn) ⟨q,_,b',c',cs,ay,by rw[aH nqp];exact hq',?_,hc',hcl',hcs⟩ (u'.trans (bR.set hp'));rw[bh _ (by lia)];exact Int.ediv_nonneg ha' (by lia)
   ·walk_at "w";refine fF (λh1=>?_) (λh1=>?_)
    ·walk_at "w";refine fu (show (0:Int) < n from hn) ?_;exact k _ _ (il _ (by lia)) (eJ _ hn) ⟨q,a',b',c',cs,hp',hq',ha',hc',hcl',hcs⟩ u'
    ·walk_at "w";refine fu (show kB _ _ from ⟨by decide,by show (3:Nat) < 2^8999;exact aE (show 3 < 2^2 by decide) (aj (by decide) (by decide))⟩) ?_;walk_at "w";refine fu (show (0:Int) < n from hn) ?_;exact k _ _ (il _ (by lia)) (eJ _ hn) ⟨q,a',b',c',cs,hp',hq',ha',hc',hcl',hcs⟩ u'
theorem qp:∃x1 x2 x3 x4 x5 x6 x7 x8 x9 x10 x11 x12 x13 x14 x15 x16:Expr,x1=(Expr.Constant (Const.int 0) 0 ⟨239,16,239,17⟩)/\x2=(Expr.Constant (Const.int 1) 0 ⟨239,19,239,20⟩)/\x3=(Expr.Constant (Const.int 1) 0 ⟨239,22,239,23⟩)/\x4=(Expr.Constant (Const.int 1) 0 ⟨239,25,239,26⟩)/\x5=(Expr.Constant (Const.int 2) 0 ⟨239,28,239,29⟩)/\x6=(Expr.Constant (Const.int 2) 0 ⟨239,31,239,32⟩)/\x7=(Expr.Constant (Const.int 3) 0 ⟨239,34,239,35⟩)/\x8=(Expr.Constant (Const.int 4) 0 ⟨239,37,239,38⟩)/\x9=(Expr.Constant (Const.int 0) 0 ⟨240,17,240,18⟩)/\x10=(Expr.Constant (Const.int 1) 0 ⟨240,20,240,21⟩)/\x11=(Expr.Constant (Const.int 1) 0 ⟨240,23,240,24⟩)/\x12=(Expr.Constant (Const.int 1) 0 ⟨240,26,240,27⟩)/\x13=(Expr.Constant (Const.int 2) 0 ⟨240,29,240,30⟩)/\x14=(Expr.Constant (Const.int 2) 0 ⟨240,32,240,33⟩)/\x15=(Expr.Constant (Const.int 3) 0 ⟨240,35,240,36⟩)/\x16=(Expr.Constant (Const.int 4) 0 ⟨240,38,240,39⟩)/\aS dw=[ (Stmt.Assign (targets:=[(Expr.Name "_law_n" ⟨236,4,236,10⟩)]) (value:=(Expr.Call (func:=(Expr.Name "_law_take" ⟨236,13,236,22⟩)) (args:=[ (Expr.Name "_law_bag_here" ⟨236,23,236,36⟩),(Expr.Constant (Const.int 5) 0 ⟨236,38,236,39⟩)]) (keywords:=[]) (pos:=⟨236,13,236,40⟩))) (pos:=⟨236,4,236,40⟩)),(Stmt.If (test:=(Expr.Compare (left:=(Expr.Call (func:=(Expr.Name "_law_take" ⟨237,7,237,16⟩)) (args:=[ (Expr.Name "_law_bag_here" ⟨237,17,237,30⟩),(Expr.Constant (Const.int 8) 0 ⟨237,32,237,33⟩)]) (keywords:=[]) (pos:=⟨237,7,237,34⟩))) (ops:=[PySem.CmpOp.Eq]) (comparators:=[(Expr.Constant (Const.int 7) 0 ⟨237,38,237,39⟩)]) (pos:=⟨237,7,237,39⟩))) (body:=[ (Stmt.Assign (targets:=[(Expr.Name "_law_n" ⟨238,8,238,14⟩)]) (value:=(Expr.Constant (Const.int 5) 0 ⟨238,17,238,18⟩)) (pos:=⟨238,8,238,18⟩))]) (orelse:=[]) (pos:=⟨237,4,238,18⟩)),(Stmt.Assign (targets:=[(Expr.Name "_law_ins" ⟨239,4,239,12⟩)]) (value:=(Expr.Subscript (value:=(Expr.List (elts:=[x1,x2,x3,x4,x5,x6,x7,x8]) (pos:=⟨239,15,239,39⟩))) (slice:=(Expr.Call (func:=(Expr.Name "_law_take" ⟨239,40,239,49⟩)) (args:=[ (Expr.Name "_law_bag_here" ⟨239,50,239,63⟩),(Expr.Constant (Const.int 8) 0 ⟨239,65,239,66⟩)]) (keywords:=[]) (pos:=⟨239,40,239,67⟩))) (pos:=⟨239,15,239,68⟩))) (pos:=⟨239,4,239,68⟩)),(Stmt.Assign (targets:=[(Expr.Name "_law_outs" ⟨240,4,240,13⟩)]) (value:=(Expr.Subscript (value:=(Expr.List (elts:=[x9,x10,x11,x12,x13,x14,x15,x16]) (pos:=⟨240,16,240,40⟩))) (slice:=(Expr.Call (func:=(Expr.Name "_law_take" ⟨240,41,240,50⟩)) (args:=[ (Expr.Name "_law_bag_here" ⟨240,51,240,64⟩),(Expr.Constant (Const.int 8) 0 ⟨240,66,240,67⟩)]) (keywords:=[]) (pos:=⟨240,41,240,68⟩))) (pos:=⟨240,16,240,69⟩))) (pos:=⟨240,4,240,69⟩)),(Stmt.If (test:=(Expr.Compare (left:=(Expr.Name "_law_n" ⟨241,7,241,13⟩)) (ops:=[PySem.CmpOp.Eq]) (comparators:=[(Expr.Constant (Const.int 5) 0 ⟨241,17,241,18⟩)]) (pos:=⟨241,7,241,18⟩))) (body:=[ (Stmt.Assign (targets:=[ (Expr.Tuple (elts:=[(Expr.Name "_law_ins" ⟨242,8,242,16⟩),(Expr.Name "_law_outs" ⟨242,18,242,27⟩)]) (k:=0) (pos:=⟨242,8,242,27⟩))]) (value:=(Expr.Tuple (elts:=[ (Expr.Call (func:=(Expr.Name "min" ⟨242,31,242,34⟩)) (args:=[ (Expr.Name "_law_ins" ⟨242,35,242,43⟩),(Expr.Constant (Const.int 2) 0 ⟨242,45,242,46⟩)]) (keywords:=[]) (pos:=⟨242,31,242,47⟩)),(Expr.Call (func:=(Expr.Name "min" ⟨242,49,242,52⟩)) (args:=[ (Expr.Name "_law_outs" ⟨242,53,242,62⟩),(Expr.Constant (Const.int 2) 0 ⟨242,64,242,65⟩)]) (keywords:=[]) (pos:=⟨242,49,242,66⟩))]) (k:=0) (pos:=⟨242,30,242,67⟩))) (pos:=⟨242,8,242,67⟩))]) (orelse:=[]) (pos:=⟨241,4,242,67⟩)),(Stmt.Assign (targets:=[(Expr.Name "_law_wide" ⟨243,4,243,13⟩)]) (value:=(Expr.Subscript (value:=(Expr.List (elts:=[ (Expr.Constant (Const.int 4) 0 ⟨243,17,243,18⟩),(Expr.Constant (Const.int 4) 0 ⟨243,20,243,21⟩),(Expr.Constant (Const.int 9) 0 ⟨243,23,243,24⟩),(Expr.Constant (Const.int 1000) 0 ⟨243,26,243,30⟩)]) (pos:=⟨243,16,243,31⟩))) (slice:=(Expr.Call (func:=(Expr.Name "_law_take" ⟨243,32,243,41⟩)) (args:=[ (Expr.Name "_law_bag_here" ⟨243,42,243,55⟩),(Expr.Constant (Const.int 4) 0 ⟨243,57,243,58⟩)]) (keywords:=[]) (pos:=⟨243,32,243,59⟩))) (pos:=⟨243,16,243,60⟩))) (pos:=⟨243,4,243,60⟩)),(Stmt.If (test:=(Expr.Compare (left:=(Expr.Name "_law_wide" ⟨244,7,244,16⟩)) (ops:=[PySem.CmpOp.Gt]) (comparators:=[(Expr.Constant (Const.int 9) 0 ⟨244,19,244,20⟩)]) (pos:=⟨244,7,244,20⟩))) (body:=[ (Stmt.Assign (targets:=[(Expr.Name "_law_n" ⟨245,8,245,14⟩)]) (value:=(Expr.Call (func:=(Expr.Name "min" ⟨245,17,245,20⟩)) (args:=[ (Expr.Name "_law_n" ⟨245,21,245,27⟩),(Expr.Constant (Const.int 2) 0 ⟨245,29,245,30⟩)]) (keywords:=[]) (pos:=⟨245,17,245,31⟩))) (pos:=⟨245,8,245,31⟩))]) (orelse:=[]) (pos:=⟨244,4,245,31⟩)),(Stmt.Return (value:=(some (Expr.Tuple (elts:=[ (Expr.Name "_law_n" ⟨246,12,246,18⟩),(Expr.Name "_law_ins" ⟨246,20,246,28⟩),(Expr.Name "_law_outs" ⟨246,30,246,39⟩),(Expr.Name "_law_wide" ⟨246,41,246,50⟩)]) (k:=0) (pos:=⟨246,11,246,51⟩)))) (pos:=⟨246,4,246,51⟩))]:=⟨_,_,_,_,_,_,_,_,_,_,_,_,_,_,_,_,rfl,rfl,rfl,rfl,rfl,rfl,rfl,rfl,rfl,rfl,rfl,rfl,rfl,rfl,rfl,rfl,by with_unfolding_all rfl⟩
theorem cG:bc ["_law_bag_here","_law_n","_law_ins","_law_outs","_law_wide"] ["_law_bag_here"] (au dw):=by walk_at "d"
theorem qk (T:Txt K mg Z):cE P w K mg base iO 2 Z.ia Z.hZ ["_law_bag_here"] vK:=by
 refine T.kv.ok cG (λvs H Q E h=>?_) (λcdv A outer s H vs Q E hr h=>?_)
 ·obtain ⟨b,rfl,_⟩:=h;rfl
 ·obtain ⟨b,rfl,hB,k⟩:=h;obtain ⟨x1,x2,x3,x4,x5,x6,x7,x8,x9,x10,x11,x12,x13,x14,x15,x16,hx1,hx2,hx3,hx4,hx5,hx6,hx7,hx8,hx9,hx10,hx11,hx12,hx13,hx14,hx15,hx16,hbd⟩:=qp;rw[hbd]
  refine ⟨_,(ak (aV (i:=1) cG.nd rfl (Or.inl rfl) (dk (bo T) hr T.aO T.aT.kp T.aW (aa (pv 0) (aa af ag))))
   (d5 (cL (aQ et (dk (bo T) hr T.aO T.aT.kp T.aW (aa (pv 0) (aa af ag))) af (ba _)) (aw (aV (i:=1) cG.nd rfl (Or.inl rfl) af)) bC)
   (ak (aV (i:=2) cG.nd rfl (Or.inl rfl) (bw bH (iB (cA hx1 af (cA hx2 af (cA hx3 af (cA hx4 af (cA hx5 af (cA hx6 af (cA hx7 af (cA hx8 af ag))))))))) (dk (bo T) hr T.aO T.aT.kp T.aW (aa (pv 0) (aa af ag)))))
   (ak (aV (i:=3) cG.nd rfl (Or.inl rfl) (bw bH (iB (cA hx9 af (cA hx10 af (cA hx11 af (cA hx12 af (cA hx13 af (cA hx14 af (cA hx15 af (cA hx16 af ag))))))))) (dk (bo T) hr T.aO T.aT.kp T.aW (aa (pv 0) (aa af ag)))))
   (d5 (cL (aQ et (pv 1) af (ba _)) (aw (xf (i:=2) (j:=3) rfl cG.nd rfl rfl (by decide) rfl rfl (aa (bD (lH rfl) (by rfl) T.min PyProof.Rows.boot_min (aa (pv 2) (aa af ag))) (aa (bD (lH rfl) (by rfl) T.min PyProof.Rows.boot_min (aa (pv 3) (aa af ag))) ag)) rfl)) bC)
   (ak (aV (i:=4) cG.nd rfl (Or.inl rfl) (bw bH (iB (aa af (aa af (aa af (aa af ag))))) (dk (bo T) hr T.aO T.aT.kp T.aW (aa (pv 0) (aa af ag)))))
   (d5 (cL (aQ pC (pv 4) af (ba _)) (aw (aV (i:=1) cG.nd rfl (Or.inl rfl) (bD (lH rfl) (by rfl) T.min PyProof.Rows.boot_min (aa (pv 1) (aa af ag))))) bC)
   (aw (bf (dH (aa (pv 1) (aa (pv 2) (aa (pv 3) (aa (pv 4) ag)))))))))))))),?_⟩
  refine aR (σ:=[some (.ref b),none,none,none,none]) rfl ?_;walk_at "w";refine ⟨b,5,rfl,hB,by decide,by decide,λn H1 n0 n1 B1 u1=>?_⟩;obtain ⟨n,rfl⟩:=oF n0;walk_at "w";refine ⟨λσ' H'=>(∃n:Nat,σ'=[some (.ref b),some (.int n),none,none,none]/\n<=5)/\fH H' b/\bR b H H',?_,?_⟩
  ·walk_at "w";refine ⟨b,8,rfl,B1,by decide,by decide,λv H2 v0 v1 B2 u2=>?_⟩;walk_at "w";refine fF (λ_=>?_) (λ_=>?_)
   ·walk_at "w";exact ⟨⟨5,rfl,by decide⟩,B2,u1.trans u2⟩
   ·walk_at "w";exact ⟨⟨n,rfl,by lia⟩,B2,u1.trans u2⟩
  clear n0 n1 u1 B1;rintro σ' H1 ⟨⟨n,rfl,n5⟩,B1,u1⟩;walk_at "w";refine fZ λl0 H2 s2 n2 g2=>?_
  walk_at "w";refine ⟨b,8,rfl,B1.same s2,by decide,by decide,λv H3 v0 v1 B3 u3=>?_⟩;have g3:=u3.other (λz=>B1.at (by rw[<- z];exact n2)) g2;obtain ⟨x,ex,mx,_⟩:=kT (xs:=[V.int 0,V.int 1,V.int 1,V.int 1,V.int 2,V.int 2,V.int 3,V.int 4]) v0 (by simpa using v1)
  obtain ⟨i,rfl,hi⟩:∃z:Nat,x=.int z/\z<=4:=by
   simp only[aA,be,or_false] at mx;rcases mx with rfl | rfl | rfl | rfl | rfl | rfl | rfl | rfl
   ·exact ⟨0,rfl,by decide⟩
   ·exact ⟨1,rfl,by decide⟩
   ·exact ⟨1,rfl,by decide⟩
   ·exact ⟨1,rfl,by decide⟩
   ·exact ⟨2,rfl,by decide⟩
   ·exact ⟨2,rfl,by decide⟩
   ·exact ⟨3,rfl,by decide⟩
   ·exact ⟨4,rfl,by decide⟩
  walk_at "w";refine cR (bL.of g3) ex ?_;clear ex mx g3 g2;walk_at "w";refine fZ λl1 H4 s4 n4 g4=>?_
  walk_at "w";refine ⟨b,8,rfl,B3.same s4,by decide,by decide,λt H5 t0 t1 B5 u5=>?_⟩;have g5:=u5.other (λz=>B3.at (by rw[<- z];exact n4)) g4;obtain ⟨x,ex,mx,_⟩:=kT (xs:=[V.int 0,V.int 1,V.int 1,V.int 1,V.int 2,V.int 2,V.int 3,V.int 4]) t0 (by simpa using t1)
  obtain ⟨o,rfl,ho⟩:∃z:Nat,x=.int z/\z<=4:=by
   simp only[aA,be,or_false] at mx;rcases mx with rfl | rfl | rfl | rfl | rfl | rfl | rfl | rfl
   ·exact ⟨0,rfl,by decide⟩
   ·exact ⟨1,rfl,by decide⟩
   ·exact ⟨1,rfl,by decide⟩
   ·exact ⟨1,rfl,by decide⟩
   ·exact ⟨2,rfl,by decide⟩
   ·exact ⟨2,rfl,by decide⟩
   ·exact ⟨3,rfl,by decide⟩
   ·exact ⟨4,rfl,by decide⟩
  walk_at "w";refine cR (bL.of g5) ex ?_;clear ex mx g5 g4;have u15:=(((u1.same s2).trans u3).same s4).trans u5;walk_at "w";refine ⟨λσ' H'=>(∃i o:Nat,σ'=[some (.ref b),some (.int n),some (.int i),some (.int o),none]/\i<=4/\o<=4/\(n=5->i<=2/\o<=2))/\fH H' b/\bR b H H',?_,?_⟩
  ·walk_at "w";refine fF (λh0=>?_) (λh0=>?_)
   ·walk_at "w";refine ⟨⟨min i 2,min o 2,?_,by lia,by lia,λ_=>⟨by lia,by lia⟩⟩,B5,u15⟩;have e1:(if (2:Int) < (i:Int) then (2:Int) else (i:Int))=((min i 2:Nat):Int):=by split <;> lia
    have e2:(if (2:Int) < (o:Int) then (2:Int) else (o:Int))=((min o 2:Nat):Int):=by split <;> lia
    rw[<- e1,<- e2];rfl
   ·walk_at "w";exact ⟨⟨i,o,rfl,hi,ho,λz=>absurd (decide_eq_true (show (n:Int)=5 by lia)) h0⟩,B5,u15⟩
  clear hi ho u15 B5 u5 u3 u1;rintro σ' H5 ⟨⟨i,o,rfl,hi,ho,h5⟩,B5,u5⟩;walk_at "w";refine fZ λl2 H6 s6 n6 g6=>?_
  walk_at "w";refine ⟨b,4,rfl,B5.same s6,by decide,by decide,λv H7 v0 v1 B7 u7=>?_⟩;have g7:=u7.other (λz=>B5.at (by rw[<- z];exact n6)) g6;obtain ⟨x,ex,mx,_⟩:=kT (xs:=[V.int 4,V.int 4,V.int 9,V.int 1000]) v0 (by simpa using v1)
  obtain ⟨w,rfl,hw⟩:∃w:Nat,x=.int w/\(w=4\/w=9\/w=1000):=by
   simp only[aA,be,or_false] at mx;rcases mx with rfl | rfl | rfl | rfl
   ·exact ⟨4,rfl,.inl rfl⟩
   ·exact ⟨4,rfl,.inl rfl⟩
   ·exact ⟨9,rfl,.inr (.inl rfl)⟩
   ·exact ⟨1000,rfl,.inr (.inr rfl)⟩
  walk_at "w";refine cR (bL.of g7) ex ?_;have u07:=(u5.same s6).trans u7;walk_at "w";refine ⟨λσ' H'=>(∃n:Nat,σ'=[some (.ref b),some (.int n),some (.int i),some (.int o),some (.int w)]/\n<=5/\(w=4\/w=9\/(w=1000/\n<=2))/\(n=5->i<=2/\o<=2))/\fH H' b/\bR b H H',?_,?_⟩
  ·walk_at "w";refine fF (λh0=>?_) (λh0=>?_)
   ·walk_at "w";refine ⟨⟨min n 2,?_,by lia,by lia,λz=>by lia⟩,B7,u07⟩;have e1:(if (2:Int) < (n:Int) then (2:Int) else (n:Int))=((min n 2:Nat):Int):=by split <;> lia
    rw[<- e1];rfl
   ·walk_at "w";refine ⟨⟨n,rfl,n5,?_,h5⟩,B7,u07⟩;rcases hw with z | z | z
    ·exact .inl z
    ·exact .inr (.inl z)
    ·exact absurd (decide_eq_true (show (9:Int) < (w:Int) by lia)) h0
  ·clear h5 n5;rintro σ' H8 ⟨⟨n',rfl,n5,hwn,h5⟩,B8,u8⟩;walk_at "w";refine bY λr H9 s9 g9=>?_
   exact k r n' i o w H9 g9 n5 hi ho hwn h5 (B8.same s9) (u8.same s9)
theorem iP:bc ["_law_top","_law_bottom","_law_one","_law_other"] ["_law_top","_law_bottom"] (au fN):=by walk_at "d"
theorem gO (T:Txt K mg Z):cE P w K mg base iO 1 Z.km Z.j7 ["_law_top","_law_bottom"] z8:=by
 refine T.eP.ok iP (λvs H Q E h=>?_) (λcdv A outer s H vs Q E hr h=>?_)
 ·obtain ⟨t,b,rfl,_⟩:=h;rfl
 ·obtain ⟨t,b,rfl,hb,hs,k⟩:=h
  refine ⟨_,(ak (aV (i:=2) iP.nd rfl (Or.inl rfl) (bD pU (by rfl) T.abs PyProof.Rows.boot_abs (aa (pv 0) ag)))
   (ak (aV (i:=3) iP.nd rfl (Or.inl rfl) (pv 1))
   (ak (tw PassesOwn.never (aQ qG (pv 2) af (ba _))
    (aw (xf (i:=2) (j:=3) rfl iP.nd rfl rfl (by decide) rfl rfl (aa (bp jD (pv 3) (pv 2)) (aa (pv 2) ag)) rfl)))
   (aw (bf (dH (aa (bp fv (pv 0) (pv 3)) (aa (bp fv (pv 1) (pv 3)) ag)))))))),?_⟩
  refine aR (σ:=[some (.int t),some (.int b),none,none]) rfl ?_;walk_at "w"
  refine uM (λσ' H'=>∃(u v:Int),σ'=[some (.int t),some (.int b),some (.int u),some (.int v)]/\H'=H/\0<=u/\0 < v/\Int.gcd u v=Int.gcd t b) (λσ' _=>match σ' with | [_,_,some (.int u),_]=>u.natAbs | _=>0) ⟨_,b,rfl,rfl,by split <;> lia,hb,by
   split
   ·rw[Int.neg_gcd]
   ·rfl⟩ ?_
  rintro σ' H' ⟨u,v,rfl,rfl,hu,hv,hg⟩;walk_at "w";refine fF (λh=>?_) (λh=>?_)
  ·have hu0:u≠0:=λz=>by subst z;simp at h
   walk_at "w";refine fu (show (0:Int) < u by lia) ?_;walk_at "w";have h1:=il v hu0;have h2:=eJ v (show 0 < u by lia);exact ⟨⟨v % u,u,rfl,rfl,h1,by lia,by rw[gM,xE,gM];exact hg⟩,by show (v % u).natAbs < u.natAbs;lia⟩
  ·have hu0:u=0:=by
    by_cases z:u=0
    ·exact z
    ·exfalso;apply h;simp [z]
   subst hu0
   have e:v=g t b:=by
    unfold g;rw[<- hg,Int.gcd_zero_left]
    lia
   have hgs:Sz 8999 v:=hs.le (by
    rw[e];have h1:(g t b).natAbs=Int.gcd t b:=by unfold g;simp
    rw[h1];exact fm (by lia) (by have:=de (a:=t) (b:=b);exact bW.mpr this |> λz=>by simpa using z))
   walk_at "w";refine fu (show kB _ _ from ⟨by lia,hgs⟩) ?_;walk_at "w";refine fu (show kB _ _ from ⟨by lia,hgs⟩) ?_;walk_at "w";refine bY λr H' s' h'=>?_
   rw[bh _ (by lia),bh _ (by lia),e] at h';exact k r H' s' h'
theorem kM:bc ["_law_bag_here","_law_wide","_law_way"] ["_law_bag_here","_law_wide"] (au dE):=by walk_at "d"
theorem pF (T:Txt K mg Z):cE P w K mg base iO 2 Z.gG Z.gh ["_law_bag_here","_law_wide"] (oY K):=by
 refine T.jI.ok kM (λvs H Q E h=>?_) (λcdv A outer s H vs Q E hr h=>?_)
 ·obtain ⟨b,w,rfl,_⟩:=h;rfl
 ·obtain ⟨b,w,rfl,hB,w0,w1,k⟩:=h
  refine ⟨_,(ak (aV (i:=2) kM.nd rfl (Or.inl rfl) (dk (bo T) hr T.aO T.aT.kp T.aW (aa (pv 0) (aa af ag))))
   (ak (cL (aQ lT (pv 2) af (ba _)) (aw (bf (dH (aa af (aa af ag))))) bC)
   (ak (cL (aQ lT (pv 2) af (ba _)) (aw (bf (dH (aa (bp pB (dk (bo T) hr T.aO T.aT.kp T.aW (aa (pv 0) (aa af ag))) af) (aa af ag))))) bC)
   (ak (cL (aQ et (pv 2) af (ba _)) (aw (bf (dk (gO T) hr T.fc T.eP.kp T.fW (aa (bp pB (dk (bo T) hr T.aO T.aT.kp T.aW (aa (pv 0) (aa af ag))) af) (aa (bp dn af (dk (bo T) hr T.aO T.aT.kp T.aW (aa (pv 0) (aa af ag)))) ag))))) bC)
   (aw (bf (dk (gO T) hr T.fc T.eP.kp T.fW (aa (bp pB (dk (bo T) hr T.aO T.aT.kp T.aW (aa (pv 0) (aa (bp dn (bp di af (pv 1)) af) ag))) (pv 1)) (aa (bp dn af (dk (bo T) hr T.aO T.aT.kp T.aW (aa (pv 0) (aa (pv 1) ag)))) ag))))))))),?_⟩
  refine aR (σ:=[some (.ref b),some (.int w),none]) rfl ?_;walk_at "w";refine ⟨b,8,rfl,hB,by decide,by decide,λv H1 v0 v1 B1 u1=>?_⟩;walk_at "w";refine fF (λh0=>?_) (λh0=>?_)
  ·walk_at "w";refine bY λr H2 s2 g2=>?_
   exact k r 0 _ ⟨bq _,by show 1<=_;lia⟩ (bK.mk g2 rfl) (B1.same s2) (u1.same s2)
  walk_at "w";refine fF (λh1=>?_) (λh1=>?_)
  ·walk_at "w";refine ⟨b,7,rfl,B1,by decide,by decide,λa H2 a0 a1 B2 u2=>?_⟩;walk_at "w";refine bY λr H3 s3 g3=>?_
   exact k r ((a - 3:Int):Rat) _ ⟨by show (a - 3).natAbs<=_;lia,by show 1<=_;lia⟩ (bK.mk g3 rfl) (B2.same s3) ((u1.trans u2).same s3)
  walk_at "w";refine fF (λh2=>?_) (λh2=>?_)
  ·walk_at "w";refine ⟨b,13,rfl,B1,by decide,by decide,λa H2 a0 a1 B2 u2=>?_⟩;walk_at "w";refine ⟨b,6,rfl,B2,by decide,by decide,λc H3 c0 c1 B3 u3=>?_⟩;walk_at "w";refine ⟨_,_,rfl,by lia,(wH (by lia)).mono (by decide),λr H4 s4 g4=>?_⟩;obtain ⟨q,e,d,_⟩:=xu (t:=a - 6) (b:=1+c) (W:=max w 6) (by lia) (by lia) (by lia);exact k r q _ d (bK.mk g4 e) (B3.same s4) (((u1.trans u2).trans u3).same s4)
  walk_at "w";refine ⟨b,_,rfl,B1,by lia,by lia,λa H2 a0 a1 B2 u2=>?_⟩;walk_at "w";refine ⟨b,_,rfl,B2,by lia,by lia,λc H3 c0 c1 B3 u3=>?_⟩;walk_at "w";refine ⟨_,_,rfl,by lia,(wH (by lia)).mono (by decide),λr H4 s4 g4=>?_⟩;obtain ⟨q,e,d,_⟩:=xu (t:=a - w) (b:=1+c) (W:=max w 6) (by lia) (by lia) (by lia);exact k r q _ d (bK.mk g4 e) (B3.same s4) (((u1.trans u2).trans u3).same s4)
theorem td:bc ["_law_bag_here","_law_many","_law_wide"] ["_law_bag_here","_law_many","_law_wide"] (au fM):=by walk_at "d"
theorem iT (T:Txt K mg Z):cE P w K mg base iO 3 Z.kl Z.j6 ["_law_bag_here","_law_many","_law_wide"] (sW K):=by
 refine T.eO.ok td (λvs H Q E h=>?_) (λcdv A outer s H vs Q E hr h=>?_)
 ·obtain ⟨b,m,w,rfl,_⟩:=h;rfl
 ·obtain ⟨b,m,w,rfl,hB,hm,w0,w1,k⟩:=h;refine ⟨_,(aw (bf (cO ["_law_k"] ["_law_bag_here","_law_wide"] [0,2] (cu rfl T.range (aa (pv 1) ag)) (λ_=>(aM (i:=0) (show List.Nodup (α:=PySem.Str) ["_law_k","_law_bag_here","_law_wide"] by decide +kernel))) (λ_=>cS) (λ_=>(dk (pF T) hr T.kO T.jI.kp T.md (aa (pv 1) (aa (pv 2) ag))))))),?_⟩;refine aR (σ:=[some (.ref b),some (.int m),some (.int w)]) rfl ?_;walk_at "w";refine ⟨by lia,by lia,?_⟩;refine wb (n:=m) (bK K) (Dr (max w 6)) hB hm (λa u B=>a.upto u B) ?_ ?_
  ·rintro i H' NY NN hi u B k1;walk_at "w";exact ⟨b,w,rfl,B,w0,w1,λr x H2 hx h2 B2 u2=>k1 _ x _ u2 B2 hx h2⟩
  ·rintro ys cs H' p hp u B g lc hc pr nx;exact k p cs H' hp ⟨ys,g,pr⟩ lc hc B u
theorem ft:bc ["_law_bag_here","_law_n","_law_way","_law_first","_law_wide","_law_move_here","_law_i","_law_row_here","_law_j"] ["_law_bag_here","_law_n","_law_way","_law_first","_law_wide"] (au eZ):=by walk_at "d"
theorem rO (T : Txt K mg Z) : cE P w K mg base iO 4 Z.js Z.jc ["_law_bag_here", "_law_n", "_law_way", "_law_first", "_law_wide"] (sU K) := by
  have kr := iT (P := P) (w := w) (base := base) T;have fh := bo (P := P) (w := w) (base := base) T;refine T.kZ.ok ft (λvs H Q E h => ?_) (λcdv A outer s H vs Q E hr h => ?_)
  · obtain ⟨b, n, w, way, first, rfl, _⟩ := h;rfl
  · obtain ⟨b, n, w, way, first, rfl, hB, n8, w0, w1, k⟩ := h
    refine ⟨_, (ak (aV (i := 5) ft.nd rfl (Or.inl rfl) (iB ag))
      (ak (dW PassesOwn.never rfl (cu rfl T.range (aa (pv 1) ag)) (aM (i := 6) ft.nd)
        (ak (aV (i := 7) ft.nd rfl (Or.inl rfl) (dk kr hr T.fb T.eO.kp T.fV (aa (pv 0) (aa (pv 1) (aa (pv 4) ag)))))
      (ak (dW PassesOwn.never rfl (cu rfl T.range (aa (pv 1) ag)) (aM (i := 8) ft.nd)
        (d5 (cL (PW.pt (fQ (aQ et (pv 2) af (ba _)) (g8 (aQ pC (dk fh hr T.aO T.aT.kp T.aW (aa (pv 0) (aa af ag))) af (ba _))))) (aw (fR (dH (aa af (aa af ag))) (gW (pv 7) (pv 8) set_list))) bC)
      (d5 (cL (PW.pt (fQ (aQ et (pv 2) af (ba _)) (g8 (aQ lT (bp dn (pv 6) af) (pv 1) (ba _))))) (aw (fR (dH (aa (lC qS (by rfl) T.int PyProof.Rows.boot_int (aa (lB et (pv 8) (bp dn (pv 6) af) (ba _)) ag)) (aa af ag))) (gW (pv 7) (pv 8) set_list))) bC)
      (d5 (cL (PW.pt (lS (PW.pt (fQ (aQ et (pv 2) af (ba _)) (fQ (aQ qH (pv 6) (pv 3) (ba _)) (g8 (aQ lT (pv 8) (pv 3) (ba _)))))) (jB (PW.pt (fQ (aQ et (pv 2) af (ba _)) (fQ (aQ lT (pv 6) (pv 3) (ba _)) (g8 (aQ qH (pv 8) (pv 3) (ba _))))))))) (aw (fR (dH (aa af (aa af ag))) (gW (pv 7) (pv 8) set_list))) bC)
      (aw (cL (aQ et (pv 2) af (ba _)) (aw (fR (dH (aa (bp di (bw bH (iB (aa af (aa af (aa (pe mn af) (aa af ag))))) (bp jD (pv 3) af)) (lC qS (by rfl) T.int PyProof.Rows.boot_int (aa (lB et (pv 6) (pv 8) (ba _)) ag))) (aa af ag))) (gW (pv 7) (pv 8) set_list))) bC))))))
      (aw (jT (va iK nC nB nQ (pv 5) (aa (pv 7) ag)))))))
      (aw (bf (pv 5))))), ?_⟩
    refine aR (σ := [some (.ref b), some (.int n), some (.int way), some (.int first), some (.int w), none, none, none, none]) rfl ?_;have W1 : 1 ≤ max w 6 := by lia
    walk_at "w";refine fZ λr H1 s1 n1 g1 => ?_
    have rb : r ≠ b := λz => hB.at (by rw [<- z]; exact n1)
    obtain ⟨q0, I0, xs0, gq0⟩ := hB.inner;have I1 : Inner H1 b q0 := (s1.upto (p := b)).2 _ I0;obtain ⟨A, eA⟩ : ∃ A : Addr → Prop, A = λq => H q = none /\ q ≠ r := ⟨_, rfl⟩
    have nb : ¬ A b := by rw [eA]; exact λz => hB.at z.1
    have nr : ¬ A r := by rw [eA]; exact λz => z.2 rfl
    have nq : ¬ A q0 := by rw [eA]; exact λz => by have z1 := z.1; rw [gq0] at z1; cases z1
    have rq : r ≠ q0 := λz => by rw [<- z, n1] at gq0; cases gq0
    walk_at "w";refine ⟨by lia, by lia, ?_⟩;refine fS (n := n) (λi σ' H' => ∃ (x1 x2 x3 : Option V) (us : List V), σ' = [some (.ref b), some (.int n), some (.int way), some (.int first), some (.int w), some (.ref r), x1, x2, x3] /\ H' r = some (.lst us) /\ us.length = i /\ us.Nodup /\ (∀ x ∈ us, dC K A H' n (Dr (max w 6)) x) /\ fH H' b /\ Inner H' b q0 /\ bR b H H') ⟨none, none, none, [], rfl, g1, rfl, zX, (λ_ z => nomatch z), hB.same s1, I1, s1.upto⟩ ?_ ?_
    · rintro i σ' H' hi ⟨x1, x2, x3, us, rfl, gu, lu, nd, ru, B', I', u'⟩;walk_at "w";refine ⟨b, n, w, rfl, B', by lia, w0, w1, λp xs Ha np Ra la da Ba ua => ?_⟩;have hp0 : H p = none := u'.none B' np
      have pn : V.ref p ∉ us := λz => by
        obtain ⟨q', _, _, e', _, g', _⟩ := (ru _ z).at;cases e';rw [np] at g';cases g'
      have ap' : H p = none /\ p ≠ r := ⟨hp0, λz => by rw [z, gu] at np; cases np⟩;have ap : A p := by rw [eA]; exact ap'
      have X0 : vB K A n (Dr (max w 6)) r p b q0 us H Ha := ⟨ua.other rb gu, λx hx => (ru x hx).upto ua B' nb, ⟨p, xs, rfl, ap, Ra, la, da⟩, Ba, ua.2 _ I', u'.trans ua⟩;clear ru Ra gu;walk_at "w";refine ⟨by lia, by lia, ?_⟩;refine fS (n := n) (λj σ' H' => (∃ x3, σ' = [some (.ref b), some (.int n), some (.int way), some (.int first), some (.int w), some (.ref r), some (.int i), some (.ref p), x3]) /\ vB K A n (Dr (max w 6)) r p b q0 us H H') ⟨⟨_, rfl⟩, X0⟩ ?_ ?_
      · rintro j σ' Hj hj ⟨⟨x3, rfl⟩, X⟩;walk_at "w";refine ⟨λσ' H' => σ' = [some (.ref b), some (.int n), some (.int way), some (.int first), some (.int w), some (.ref r), some (.int i), some (.ref p), some (.int j)] /\ vB K A n (Dr (max w 6)) r p b q0 us H H', ?_, ?_⟩
        · walk_at "w";refine fF (λ_ => ?_) (λ_ => ?_)
          · walk_at "w";refine ⟨b, 3, rfl, X.bag, by decide, by decide, λd Hd d0 d1 Bd ud => ?_⟩;replace X := X.upto ud Bd nb rb
            repeat' (first | walk_at "rd" | refine fF (λ_ => ?_) (λ_ => ?_))
            all_goals first
              | exact ⟨rfl, X⟩
              | (refine bY λt Hb sb gb => ?_
                 walk_at "w";obtain ⟨zs, gz, lz, Xz⟩ := (X.same sb).put ap nr nb nq hp0 (bK.mk (q := 0) gb rfl) (kR (i := 0) (bq _) W1) j;refine eF gz (fB (by lia)) rfl ?_;exact ⟨rfl, Xz⟩)
          · walk_at "w";exact ⟨rfl, X⟩
        clear X;rintro σ' Hj ⟨rfl, X⟩;refine ⟨λσ' H' => σ' = [some (.ref b), some (.int n), some (.int way), some (.int first), some (.int w), some (.ref r), some (.int i), some (.ref p), some (.int j)] /\ vB K A n (Dr (max w 6)) r p b q0 us H H', ?_, ?_⟩
        · repeat' (first | walk_at "rd" | refine fF (λ_ => ?_) (λ_ => ?_))
          all_goals first
            | exact ⟨rfl, X⟩
            | (refine bY λt Hb sb gb => ?_
               walk_at "w";obtain ⟨zs, gz, lz, Xz⟩ := (X.same sb).put ap nr nb nq hp0 (bK.mk (q := ((if decide ((j : Int) = (i : Int) + 1) = true then (1 : Int) else 0 : Int) : Rat)) gb rfl) (kR (by split <;> lia) W1) j;refine eF gz (fB (by lia)) rfl ?_;exact ⟨rfl, Xz⟩)
        clear X;rintro σ' Hj ⟨rfl, X⟩;refine ⟨λσ' H' => σ' = [some (.ref b), some (.int n), some (.int way), some (.int first), some (.int w), some (.ref r), some (.int i), some (.ref p), some (.int j)] /\ vB K A n (Dr (max w 6)) r p b q0 us H H', ?_, ?_⟩
        · repeat' (first | walk_at "rd" | refine fF (λ_ => ?_) (λ_ => ?_))
          all_goals first
            | exact ⟨rfl, X⟩
            | (refine bY λt Hb sb gb => ?_
               walk_at "w";obtain ⟨zs, gz, lz, Xz⟩ := (X.same sb).put ap nr nb nq hp0 (bK.mk (q := 0) gb rfl) (kR (i := 0) (bq _) W1) j;refine eF gz (fB (by lia)) rfl ?_;exact ⟨rfl, Xz⟩)
        clear X;rintro σ' Hj ⟨rfl, X⟩;walk_at "w";refine fF (λ_ => ?_) (λ_ => ?_)
        · walk_at "w";refine fZ λl0 Hc sc nc gc => ?_
          walk_at "w";obtain ⟨x, ex, mx, _⟩ := kT (xs := [V.int 2, V.int 1, V.int (-1), V.int 0]) (i := first % 4) (il _ (by decide)) (by have := eJ first (show (0 : Int) < 4 by decide); simpa using this)
          obtain ⟨z, rfl, hz⟩ : ∃ z : Int, x = .int z /\ z.natAbs ≤ 2 := by
            simp only [aA, be, or_false] at mx;rcases mx with rfl | rfl | rfl | rfl
            · exact ⟨2, rfl, by decide⟩
            · exact ⟨1, rfl, by decide⟩
            · exact ⟨-1, rfl, by decide⟩
            · exact ⟨0, rfl, by decide⟩
          refine cR (bL.of gc) ex ?_;walk_at "w";refine fu (sx (by lia) (by lia)) ?_;walk_at "w";refine bY λt Hb sb gb => ?_
          walk_at "w";obtain ⟨zs, gz, lz, Xz⟩ := ((X.same sc).same sb).put ap nr nb nq hp0 (bK.mk (q := ((z * (if decide ((i : Int) = (j : Int)) = true then (1 : Int) else 0) : Int) : Rat)) gb rfl) (kR (by split <;> lia) W1) j;refine eF gz (fB (by lia)) rfl ?_;exact ⟨⟨_, rfl⟩, Xz⟩
        · walk_at "w";exact ⟨⟨_, rfl⟩, X⟩
      · rintro σ' Hj ⟨⟨x3, rfl⟩, X⟩;walk_at "w";refine ⟨.inl ⟨rfl, _, bL.of X.gr⟩, ?_⟩;walk_at "w";refine nN X.gr (bF (by lia)) ?_;refine ⟨_, _, _, us ++ [.ref p], rfl, ay, by simp [lu], pK nd pn, λx hx => ?_, X.bag.upd X.inn rb rq, X.inn.upd rb, X.up.after n1⟩;rcases aD.mp hx with hx | hx
        · exact (X.ru x hx).other X.gr nr
        · have e : x = V.ref p := by simpa using hx
          rw [e]; exact X.rp.other X.gr nr
    · rintro σ' H' ⟨x1, x2, x3, us, rfl, gu, lu, nd, ru, B', I', u'⟩;walk_at "w";exact k r us H' n1 gu lu nd (by rw [eA] at ru; exact ru) B' u'
theorem sZ:bc ["_law_one","_law_other"] ["_law_one","_law_other"] (au fL):=by walk_at "d"
theorem iS (T:Txt K mg Z):cE P w K mg base iO 2 Z.ki Z.j5 ["_law_one","_law_other"] (nG K (λx y=>x+y)):=by
 refine T.fX.ok sZ (λvs H Q E h=>?_) (λcdv A outer s H vs Q E hr h=>?_)
 ·obtain ⟨p,q,a,b,c,d,rfl,hp,hq,hb,hd,sa,sb,sc,sd,k⟩:=vA h;rfl
 ·obtain ⟨p,q,a,b,c,d,rfl,hp,hq,hb,hd,sa,sb,sc,sd,k⟩:=vA h;refine ⟨_,(aw (bf (dk (gO T) hr T.fc T.eP.kp T.fW (aa (bp dn (bp di (bw cb (pv 0) af) (bw cb (pv 1) af)) (bp di (bw cb (pv 1) af) (bw cb (pv 0) af))) (aa (bp di (bw cb (pv 0) af) (bw cb (pv 1) af)) ag))))),?_⟩;refine aR (σ:=[some (.ref p),some (.ref q)]) rfl ?_;have hbd:0 < b*d:=ya hb hd;have sbd:Sz 8999 (b*d):=(sb.mul sd).mono (by decide);walk_at "w";refine fu (show jw _ _ from .inr ⟨_,_,sa,sd,by decide⟩) ?_;walk_at "w";refine fu (show jw _ _ from .inr ⟨_,_,sc,sb,by decide⟩) ?_;walk_at "w";refine fu (show jw _ _ from .inr ⟨_,_,sb,sd,by decide⟩) ?_;walk_at "w";walk_at "w";refine ⟨_,_,rfl,hbd,sbd,k⟩
theorem rD:bc ["_law_one","_law_other"] ["_law_one","_law_other"] (au eY):=by walk_at "d"
theorem mQ (T:Txt K mg Z):cE P w K mg base iO 3 Z.jr Z.jb ["_law_one","_law_other"] (sT K):=by
 refine T.ju.ok rD (λvs H Q E h=>?_) (λcdv A outer s H vs Q E hr h=>?_)
 ·obtain ⟨p,q,xs,ys,rfl,_⟩:=h;rfl
 ·obtain ⟨p,q,xs,ys,rfl,hp,hq,hl,hz,h1,h2,kk⟩:=h;refine ⟨_,(aw (bf (cO ["_law_k"] ["_law_one","_law_other"] [0,1] (cu rfl T.range (aa (bD bI (by rfl) T.len bM (aa (pv 0) ag)) ag)) (λ_=>(aM (i:=0) (show List.Nodup (α:=PySem.Str) ["_law_k","_law_one","_law_other"] by decide +kernel))) (λ_=>cS) (λ_=>(dk (iS T) hr T.gP T.fX.kp T.iJ (aa (bw (pQ K (by rfl)) (pv 1) (pv 0)) (aa (bw (pQ K (by rfl)) (pv 2) (pv 0)) ag))))))),?_⟩;refine aR (σ:=[some (.ref p),some (.ref q)]) rfl ?_;obtain ⟨us,gu,qu⟩:=id hp;obtain ⟨ws,gw,qw⟩:=id hq;have lu:=qu.length;walk_at "w";refine ⟨_,_,rfl,.inl (bL.of gu),?_⟩;walk_at "w";refine ⟨by lia,by lia,?_⟩;refine wa (n:=us.length) (bK K) (λi=>xs.getD i 0+ys.getD i 0) (by lia) (λa b=>a.same b) ?_ ?_
  ·rintro i H' NY NN hi s k1;have ix:i < xs.length:=by lia
   have iy:i < ys.length:=by lia
   obtain ⟨vx,ex,nx⟩:=zf (Paired.imp' (λ_ _ z=>z.same s) qu) ix;obtain ⟨vy,ey,ny⟩:=zf (Paired.imp' (λ_ _ z=>z.same s) qw) iy;walk_at "w";refine cR (bL.of (s _ _ gu)) ex ?_;walk_at "w";refine cR (bL.of (s _ _ gw)) ey ?_;walk_at "w";exact ⟨_,_,_,_,rfl,nx,ny,h1 _ (getD_mem ix),h2 _ (getD_mem iy),λr3 H3 s3 n3=>k1 _ _ s3 n3⟩
  ·rintro ys' H' l hl' s g pr nx;exact kk l H' hl' s ⟨ys',g,by rw[vF (by lia)];rw[<- lu] at pr;exact pr⟩
theorem rC:bc ["_law_one","_law_other"] ["_law_one","_law_other"] (au eX):=by walk_at "d"
theorem hE (T:Txt K mg Z):cE P w K mg base iO 2 Z.jq Z.ja ["_law_one","_law_other"] (nG K (λx y=>x*y)):=by
 refine T.fj.ok rC (λvs H Q E h=>?_) (λcdv A outer s H vs Q E hr h=>?_)
 ·obtain ⟨p,q,a,b,c,d,rfl,hp,hq,hb,hd,sa,sb,sc,sd,k⟩:=vd h;rfl
 ·obtain ⟨p,q,a,b,c,d,rfl,hp,hq,hb,hd,sa,sb,sc,sd,k⟩:=vd h;refine ⟨_,(aw (bf (dk (gO T) hr T.fc T.eP.kp T.fW (aa (bp di (bw cb (pv 0) af) (bw cb (pv 1) af)) (aa (bp di (bw cb (pv 0) af) (bw cb (pv 1) af)) ag))))),?_⟩;refine aR (σ:=[some (.ref p),some (.ref q)]) rfl ?_;have hbd:0 < b*d:=ya hb hd;have sbd:Sz 8999 (b*d):=(sb.mul sd).mono (by decide);walk_at "w";refine fu (show jw _ _ from .inr ⟨_,_,sa,sc,by decide⟩) ?_;walk_at "w";refine fu (show jw _ _ from .inr ⟨_,_,sb,sd,by decide⟩) ?_;walk_at "w";walk_at "w";refine ⟨_,_,rfl,hbd,sbd,k⟩
theorem uo:bc ["_law_by_here","_law_row_here"] ["_law_by_here","_law_row_here"] (au iq):=by walk_at "d"
theorem pH (T:Txt K mg Z):cE P w K mg base iO 3 Z.lK Z.lG ["_law_by_here","_law_row_here"] (wQ K):=by
 refine T.lM.ok uo (λvs H Q E h=>?_) (λcdv A outer s H vs Q E hr h=>?_)
 ·obtain ⟨u,q,c,ys,rfl,_⟩:=h;rfl
 ·obtain ⟨u,q,c,ys,rfl,hc,sc,hq,hz,h2,kk⟩:=h;refine ⟨_,(aw (bf (cO ["_law_one"] ["_law_by_here"] [0] (cN (pv 1)) (λ_=>(aM (i:=0) (show List.Nodup (α:=PySem.Str) ["_law_one","_law_by_here"] by decide +kernel))) (λ_=>cS) (λ_=>(dk (hE T) hr T.fz T.fj.kp T.gQ (aa (pv 1) (aa (pv 0) ag))))))),?_⟩;refine aR (σ:=[some u,some (.ref q)]) rfl ?_;obtain ⟨us,gu,qu⟩:=id hq;walk_at "w";refine ⟨⟨_,bL.of gu⟩,?_⟩;refine fU (K:=K) (F:=bK K) (bK K) (λy=>c*y) gu qu hz (λa b=>a.same b) (λa b=>a.same b) ?_ ?_
  ·rintro i y x H' NY NN en s hx k;walk_at "w";exact ⟨_,_,_,_,rfl,hc.same s,hx,sc,h2 y (ao en),λr H2 s2 h2'=>k _ _ s2 h2'⟩
  ·rintro ys' H' r hr s g pr nx;exact kk r H' hr s ⟨ys',g,pr⟩
theorem b8:bc ["_law_bag_here","_law_move_here","_law_put","_law_look","_law_n","_law_turn","_law_i","_law_j","_law_by_here","_law_less_here","_law_row_here"] ["_law_bag_here","_law_move_here","_law_put","_law_look"] (au dZ):=by walk_at "d"
theorem qo (T:Txt K mg Z):cE P w K mg base iO 4 Z.ic Z.h7 ["_law_bag_here","_law_move_here","_law_put","_law_look"] (qB K):=by
 refine T.ky.ok b8 (λvs H Q E h=>?_) (λcdv A outer s H vs Q E hr h=>?_)
 ·obtain ⟨b,m,p,l,q0,n,WV,μ,A,us,ws,vs,rfl,_⟩:=h;rfl
 ·obtain ⟨b,m,p,l,q0,n,WV,μ,A,us,ws,vs,rfl,MA,X,n8,i4,o4,M0,M1,⟨M,eM⟩,V1,hA,k⟩:=h
  refine ⟨_,(ak (aV (i:=4) b8.nd rfl (Or.inl rfl) (bD bI (by rfl) T.len bM (aa (pv 1) ag)))
   (ak (cL (PW.pt (lS (aQ lT (pv 4) af (ba _)) (jB (aQ et (dk (bo T) hr T.aO T.aT.kp T.aW (aa (pv 0) (aa af ag))) af (ba _))))) (aw (bf (dH (aa (pv 1) (aa (pv 2) (aa (pv 3) ag)))))) bC)
   (ak (dW PassesOwn.never rfl (cu rfl T.range (aa (bp dn af (dk (bo T) hr T.aO T.aT.kp T.aW (aa (pv 0) (aa af ag)))) ag)) (aM (i:=5) b8.nd)
    (ak (aV (i:=6) b8.nd rfl (Or.inl rfl) (dk (bo T) hr T.aO T.aT.kp T.aW (aa (pv 0) (aa (pv 4) ag))))
   (ak (aV (i:=7) b8.nd rfl (Or.inl rfl) (bp jD (bp dn (bp dn (pv 6) af) (dk (bo T) hr T.aO T.aT.kp T.aW (aa (pv 0) (aa (bp pB (pv 4) af) ag)))) (pv 4)))
   (ak (aV (i:=8) b8.nd rfl (Or.inl rfl) (dH (aa (bw bH (iB (aa af (aa (pe mn af) (aa af (aa (pe mn af) ag))))) (dk (bo T) hr T.aO T.aT.kp T.aW (aa (pv 0) (aa af ag)))) (aa af ag))))
   (ak (aV (i:=9) b8.nd rfl (Or.inl rfl) (dH (aa (bp pB af (bw cb (pv 8) af)) (aa af ag))))
   (ak (fR (dk (mQ T) hr T.jV T.ju.kp T.kS (aa (bw bH (pv 1) (pv 6)) (aa (dk (pH T) hr T.mB T.lM.kp T.nY (aa (pv 8) (aa (bw bH (pv 1) (pv 7)) ag))) ag))) (gW (pv 1) (pv 6) set_list))
   (ak (dW PassesOwn.never rfl (cN (bp AF (pv 1) (pv 3))) (aM (i:=10) b8.nd)
    (aw (fR (dk (iS T) hr T.gP T.fX.kp T.iJ (aa (bw bH (pv 10) (pv 7)) (aa (dk (hE T) hr T.fz T.fj.kp T.gQ (aa (pv 9) (aa (bw bH (pv 10) (pv 6)) ag))) ag))) (gW (pv 10) (pv 7) set_list))))
   (aw (dW PassesOwn.never rfl (cN (pv 2)) (aM (i:=10) b8.nd)
    (aw (fR (dk (iS T) hr T.gP T.fX.kp T.iJ (aa (bw bH (pv 10) (pv 6)) (aa (dk (hE T) hr T.fz T.fj.kp T.gQ (aa (pv 8) (aa (bw bH (pv 10) (pv 7)) ag))) ag))) (gW (pv 10) (pv 6) set_list))))))))))))
   (aw (bf (dH (aa (pv 1) (aa (pv 2) (aa (pv 3) ag))))))))),?_⟩
  refine aR (σ:=[some (.ref b),some (.ref m),some (.ref p),some (.ref l),none,none,none,none,none,none,none]) rfl ?_;have done:∀r us' H' t,t<=3->H' r=some (.tup [.ref m,.ref p,.ref l])->fG K A H' n (λx=>Fr (μ x) (9^t*WV)) m p l b q0 us' ws vs->el A b m H H'->Q (.ref r) H':=λr us' H' t ht g x kp=>k r us' H' g (x.weak λ_ _ y h=>h.mono (aL _ (aj (by decide) ht))) kp
  have X0:fG K A H n (λx=>Fr (μ x) (9^0*WV)) m p l b q0 us ws vs:=X.weak λ_ _ y h=>h.mono (by simp)
  clear X k;have gu:=X0.gm;have lu:=X0.lm;walk_at "w";refine ⟨_,_,rfl,.inl (bL.of gu),?_⟩;rw[lu];clear gu lu;have kp0:el A b m H H:=λ_ _ h _ _ _=>h
  walk_at "w";refine fF (λh0=>?_) (λh0=>?_)
  ·walk_at "w";refine bY λr H' s' g'=>?_
   exact done r us H' 0 (by decide) g' (X0.same s') (kp0.same s')
  have n2:2<=n:=by
   rcases Nat.lt_or_ge n 2 with z | z
   ·exact absurd (decide_eq_true (show (n:Int) < 2 by lia)) h0
   ·exact z
  walk_at "w";refine ⟨b,2,rfl,X0.bag,by decide,by decide,λv H1 v0 v1 B1 u1=>?_⟩;have X1:=X0.upto MA u1 B1;have kp1:=kp0.upto u1;walk_at "w";refine fF (λh1=>?_) (λh1=>?_)
  ·walk_at "w";refine bY λr H' s' g'=>?_
   exact done r us H' 0 (by decide) g' (X1.same s') (kp1.same s')
  walk_at "w";refine ⟨b,3,rfl,B1,by decide,by decide,λc H2 c0 c1 B2 u2=>?_⟩;have X2:=X1.upto MA u2 B2;have kp2:=kp1.upto u2;clear X0 X1 kp0 kp1 u1 u2 B1;walk_at "w";refine ⟨by lia,by lia,?_⟩;refine fS (n:=(1+c).toNat) (λt σ' H'=>∃(x1 x2 x3 x4 x5 x6:Option V) (us:List V),σ'=[some (.ref b),some (.ref m),some (.ref p),some (.ref l),some (.int n),x1,x2,x3,x4,x5,x6]/\fG K A H' n (λx=>Fr (μ x) (9^t*WV)) m p l b q0 us ws vs/\el A b m H H') ⟨none,none,none,none,none,none,us,rfl,X2,kp2⟩ ?_ ?_
  ·rintro t σ' H' ht ⟨x1,x2,x3,x4,x5,x6,us,rfl,X,kp⟩;have t3:t<=2:=by lia
   walk_at "w";refine ⟨b,n,rfl,X.bag,by lia,by lia,λii Ha i0 i1 Ba ua=>?_⟩;obtain ⟨ii,rfl⟩:=oF i0;have Xa:=X.upto MA ua Ba;have kpa:=kp.upto ua;walk_at "w";refine ⟨b,_,rfl,Ba,by lia,by lia,λd Hb d0 d1 Bb ub=>?_⟩;have Xb:=Xa.upto MA ub Bb;have kpb:=kpa.upto ub;walk_at "w";refine fu (show (0:Int) < n by lia) ?_;have j0:=il ((ii:Int)+1+d) (show (n:Int)≠0 by lia);have j1:=eJ ((ii:Int)+1+d) (show (0:Int) < n by lia);generalize ((ii:Int)+1+d) % (n:Int)=jj at j0 j1 ⊢;obtain ⟨jj,rfl⟩:=oF j0;walk_at "w";refine fZ λl0 Hc sc nc gc=>?_
   walk_at "w";refine ⟨b,4,rfl,Bb.same sc,by decide,by decide,λv' Hd v0' v1' Bd ud=>?_⟩;have gd:=ud.other (λz=>Bb.at (by rw[<- z];exact nc)) gc;obtain ⟨x,ex,mx,_⟩:=kT (xs:=[V.int 1,V.int (-1),V.int 2,V.int (-2)]) v0' (by simpa using v1')
   obtain ⟨z,rfl,hz⟩:∃z:Int,x=.int z/\z.natAbs<=2:=by
    simp only[aA,be,or_false] at mx;rcases mx with rfl | rfl | rfl | rfl
    ·exact ⟨1,rfl,by decide⟩
    ·exact ⟨-1,rfl,by decide⟩
    ·exact ⟨2,rfl,by decide⟩
    ·exact ⟨-2,rfl,by decide⟩
   have Xd:=(Xb.same sc).upto MA ud Bd;have kpd:=(kpb.same sc).upto ud;walk_at "w";refine cR (bL.of gd) ex ?_;walk_at "w";refine bY λbt He se ge=>?_
   walk_at "w";refine bY λlt Hf sf gf=>?_
   have Xf:=(Xd.same se).same sf;have kpf:=(kpd.same se).same sf;have nb:bK K Hf ((z:Int):Rat) (.ref bt):=bK.mk (sf _ _ ge) rfl;have nl:bK K Hf ((0 - z:Int):Rat) (.ref lt):=bK.mk gf rfl;clear X Xa Xb Xd kp kpa kpb kpd ua ub ud sc gc gd ex mx ge gf se sf Ba Bb Bd nc;have gu:=Xf.gm;have lu:=Xf.lm
   have ru:∀x∈us,dC K A Hf n (Fr M (9^t*WV)) x:=λx hx=>by
    have:=Xf.row x (by simp [hx]);rwa [eM x (Xf.apart.1 x hx).1 (Xf.apart.1 x hx).2] at this
   have hM:0 < M/\M<=2^800:=by
    have hx:us[ii]'(by lia)∈us:=bB _;have:=eM _ (Xf.apart.1 _ hx).1 (Xf.apart.1 _ hx).2;rw[<- this];exact ⟨M0 _,M1 _⟩
   have e1:us[ii]?=some (us[ii]'(by lia)):=by simp
   have e2:us[jj]?=some (us[jj]'(by lia)):=by simp
   obtain ⟨q1,z1,qs1,w1,a1,g1,k1,p1,l1,c1⟩:=(ru _ (ao e1)).at;obtain ⟨q2,z2,qs2,w2,a2,g2,k2,p2,l2,c2⟩:=(ru _ (ao e2)).at;rw[w1] at e1;rw[w2] at e2;generalize eW:9^t*WV=W at *
   have W9:9*W<=2^140:=by rw[<- eW];exact yZ (by lia) V1 (by decide)
   have sz9M:∀{x:Rat} {U:Nat},U<=9*W->Fr M U x->p3 x:=λhU h=>vn hM.1 hM.2 (ah hU W9) h
   have sz9:∀{x:Rat} {U:Nat} {v:V},U<=9*W->Fr (μ v) U x->p3 x:=λhU h=>vn (M0 _) (M1 _) (ah hU W9) h
   walk_at "w";refine cR (bL.of gu) (ke e1) ?_;walk_at "w";refine cR (bL.of gu) (ke e2) ?_;walk_at "w";refine ⟨_,q2,_,qs2,rfl,nb,rh (by lia),⟨z2,g2,p2⟩,by lia,λy hy=>sz9M (by lia) (c2 y hy),λr1 Hg n1 sg R1=>?_⟩;walk_at "w";refine ⟨q1,r1,qs1,_,rfl,⟨z1,sg _ _ g1,Paired.imp' (λ_ _ y=>y.same sg) p1⟩,R1,by rw[ar,l1,l2],by lia,λy hy=>sz9M (by lia) (c1 y hy),λy hy=>?_,λr2 Hh n2' sh R2=>?_⟩
   ·obtain ⟨y',hy',rfl⟩:=aN.mp hy;exact oV hz (c2 y' hy') hM.1 hM.2 (by lia)
   have sfh:=sg.trans sh
   have new:V.ref r2∉us++vs++ws:=λz=>by
    obtain ⟨q',_,_,e',_,g',_⟩:=((Xf.same sg).row _ z).at;cases e';rw[n2'] at g';cases g'
   have Xh:=(Xf.same sfh).weak (C':=λx y=>(x∈ws->Fr (μ x) W y)/\Fr (μ x) (3*W) y) λx _ y h=>⟨λ_=>h,h.mono (by lia)⟩
   have kph:=kpf.same sfh;have guh:=sfh _ _ gu;have ar2:A r2:=(kpf.same sg).new hA (Xf.same sg).bag (by rw[sg _ _ gu];simp) n2'
   have rp2:dC K A Hh n (λy=>(V.ref r2∈ws->Fr (μ (.ref r2)) W y)/\Fr (μ (.ref r2)) (3*W) y) (.ref r2):=by
    rw[eM (.ref r2) (λz=>new (aD.mpr (.inr z))) (λz=>new (aD.mpr (.inl (aD.mpr (.inr z)))))];refine ⟨r2,_,rfl,ar2,R2,by rw[gV,ar];lia,λy hy=>⟨λz=>absurd (aD.mpr (.inr z)) new,?_⟩⟩;obtain ⟨j',hj',e⟩:=eh hy;rw[kF,wx] at e;rw[<- e];exact rZ hz (c1 _ (bB _)) (c2 _ (bB _))
   walk_at "w";refine eF guh (fB (by lia)) rfl ?_;have Xi:=Xh.set MA rp2 new ii;have kpi:=kph.upd (o:=.lst (us.set ii (.ref r2))) (q:=m) (.inr rfl);have nli:bK K (upd Hh m (.lst (us.set ii (.ref r2)))) ((0 - z:Int):Rat) (.ref lt):=(nl.same sfh).updL guh;have nbi:bK K (upd Hh m (.lst (us.set ii (.ref r2)))) ((z:Int):Rat) (.ref bt):=(nb.same sfh).updL guh;generalize upd Hh m (.lst (us.set ii (.ref r2)))=Hi at Xi kpi nli nbi ⊢;generalize us.set ii (.ref r2)=um at Xi;clear nb nl Xf kpf gu ru e1 e2 g1 p1 g2 p2 R1 R2 Xh kph guh rp2 sg sh sfh new;have gm:=Xi.gm;have lm:=Xi.lm;have gl:=Xi.gl;have nd:=Xi.nd;obtain ⟨nd1,nd2,nd3⟩:=dd.mp nd;walk_at "w";refine As gm gl (bu (bF (by lia))) λcl Hj sj nj gj=>?_
   have kpj:=kpi.same sj
   have rows:∀x∈um++vs,∀q,x=V.ref q->q≠cl:=λx hx q e y=>by
    obtain ⟨q',zs,_,e',_,g',_⟩:=(Xi.row x (aD.mpr (.inl hx))).at;rw[e] at e';cases e';rw[y,nj] at g';cases g'
   have Xj:=(Xi.same sj).weak (C':=λx y=>(x∈ws->Fr (μ x) W y)/\(x∈(um++vs).drop 0->Fr (μ x) (3*W) y)/\Fr (μ x) (9*W) y) λx _ y h=>⟨h.1,λ_=>h.2,h.2.mono (by lia)⟩
   have lj:bK K Hj ((0 - z:Int):Rat) (.ref lt):=nli.same sj;have bj:bK K Hj ((z:Int):Rat) (.ref bt):=nbi.same sj;clear Xi kpi nli nbi;refine ⟨_,rfl,⟨_,bL.of gj⟩,?_⟩;refine jO (K:=K) (a:=cl) (xs:=um++vs) (λs σ' H'=>∃x6:Option V,σ'=[some (.ref b),some (.ref m),some (.ref p),some (.ref l),some (.int n),some (.int t),some (.int ii),some (.int jj),some (.ref bt),some (.ref lt),x6]/\fG K A H' n (λx y=>(x∈ws->Fr (μ x) W y)/\(x∈(um++vs).drop s->Fr (μ x) (3*W) y)/\Fr (μ x) (9*W) y) m p l b q0 um ws vs/\el A b m H H'/\H' cl=some (.lst (um++vs))/\bK K H' ((0 - z:Int):Rat) (.ref lt)/\bK K H' ((z:Int):Rat) (.ref bt)) ⟨_,rfl,Xj,kpj,gj,lj,bj⟩ (λs σ' H' _ ⟨_,_,_,_,e,_⟩=>bL.of e) ?_ ?_
   ·rintro s x σ' Hk hx ⟨y6,rfl,Xk,kpk,gk,lk,bk⟩;have hs:s < (um++vs).length:=(aG.mp hx).1;have mx:=ao hx
    have xd:x∈(um++vs).drop s:=by
     rw[cF hs,(aG.mp hx).2];exact .head _
    have xd2:x∉(um++vs).drop (s+1):=λz=>by
     have:=nd1.sublist (List.drop_sublist s _);rw[cF hs,cD,(aG.mp hx).2] at this;exact this.1 z
    have xw:x∉ws:=λz=>nd3 x mx x z rfl
    have rx:=Xk.row x (aD.mpr (.inl mx));obtain ⟨q,zs,qs,rfl,aq,gq,lq,pq,lq2,cq⟩:=rx.at;have qcl:=rows _ mx q rfl;obtain ⟨vj,ej,nj'⟩:=zf pq (j:=jj) (by lia);obtain ⟨vi,ei,ni'⟩:=zf pq (j:=ii) (by lia);have cj:=(cq _ (getD_mem (xs:=qs) (i:=jj) (by lia))).2.1 xd;have ci:=(cq _ (getD_mem (xs:=qs) (i:=ii) (by lia))).2.1 xd;walk_at "w";refine cR (bL.of gq) ej ?_;walk_at "w";refine cR (bL.of gq) ei ?_;walk_at "w";refine ⟨_,_,_,_,rfl,lk,ni',rh (by lia),sz9 (by lia) ci,λr3 Hl sl n3=>?_⟩;walk_at "w";refine ⟨_,_,_,_,rfl,nj'.same sl,n3,sz9 (by lia) cj,oV (by lia) ci (M0 _) (M1 _) (by lia),λr4 Hm sm n4=>?_⟩;have slm:=sl.trans sm;walk_at "w";refine eF (slm _ _ gq) (fB (by lia)) rfl ?_;refine ⟨_,rfl,?_,(kpk.same slm).upd (.inl aq),by rw[aH qcl.symm];exact slm _ _ gk,(lk.same slm).updL (slm _ _ gq),(bk.same slm).updL (slm _ _ gq)⟩;refine ((Xk.same slm).weak λx' _ y h=>⟨h.1,λz=>h.2.1 ?_,h.2.2⟩).put MA aq (slm _ _ gq) n4 ⟨λz=>absurd z xw,λz=>absurd z xd2,?_⟩ jj
    ·rw[cF hs];exact .tail _ z
    ·exact (rZ (by lia) cj ci).mono (by lia)
   ·rintro σ' Hk ⟨y6,rfl,Xk,kpk,gk,lk,bk⟩;have gp:=Xk.gp;have Xk2:=Xk.weak (C':=λx y=>(x∈ws.drop 0->Fr (μ x) W y)/\Fr (μ x) (9*W) y) λx _ y h=>⟨λz=>h.1 (by simpa using z),h.2.2⟩
    clear Xk;walk_at "w";refine ⟨⟨_,bL.of gp⟩,?_⟩;refine jO (K:=K) (a:=p) (xs:=ws) (λs σ' H'=>∃x6:Option V,σ'=[some (.ref b),some (.ref m),some (.ref p),some (.ref l),some (.int n),some (.int t),some (.int ii),some (.int jj),some (.ref bt),some (.ref lt),x6]/\fG K A H' n (λx y=>(x∈ws.drop s->Fr (μ x) W y)/\Fr (μ x) (9*W) y) m p l b q0 um ws vs/\el A b m H H'/\bK K H' ((z:Int):Rat) (.ref bt)) ⟨_,rfl,Xk2,kpk,bk⟩ (λs σ' H' _ ⟨_,_,X,_⟩=>bL.of X.gp) ?_ ?_
    ·rintro s x σ' Hl hx ⟨w6,rfl,Xl,kpl,bl⟩;have hs:s < ws.length:=(aG.mp hx).1;have mx:=ao hx
     have xd:x∈ws.drop s:=by
      rw[cF hs,(aG.mp hx).2];exact .head _
     have xd2:x∉ws.drop (s+1):=λz=>by
      have:=nd2.sublist (List.drop_sublist s _);rw[cF hs,cD,(aG.mp hx).2] at this;exact this.1 z
     have rx:=Xl.row x (aD.mpr (.inr mx));obtain ⟨q,zs,qs,rfl,aq,gq,lq,pq,lq2,cq⟩:=rx.at;obtain ⟨vj,ej,nj'⟩:=zf pq (j:=jj) (by lia);obtain ⟨vi,ei,ni'⟩:=zf pq (j:=ii) (by lia);have cj:=(cq _ (getD_mem (xs:=qs) (i:=jj) (by lia))).1 xd;have ci:=(cq _ (getD_mem (xs:=qs) (i:=ii) (by lia))).1 xd;walk_at "w";refine cR (bL.of gq) ei ?_;walk_at "w";refine cR (bL.of gq) ej ?_;walk_at "w";refine ⟨_,_,_,_,rfl,bl,nj',rh (by lia),sz9 (by lia) cj,λr3 Hm sm n3=>?_⟩;walk_at "w";refine ⟨_,_,_,_,rfl,ni'.same sm,n3,sz9 (by lia) ci,oV (by lia) cj (M0 _) (M1 _) (by lia),λr4 Hn sn n4=>?_⟩;have smn:=sm.trans sn;walk_at "w";refine eF (smn _ _ gq) (fB (by lia)) rfl ?_;refine ⟨_,rfl,?_,(kpl.same smn).upd (.inl aq),(bl.same smn).updL (smn _ _ gq)⟩;refine ((Xl.same smn).weak λx' _ y h=>⟨λz=>h.1 ?_,h.2⟩).put MA aq (smn _ _ gq) n4 ⟨λz=>absurd z xd2,?_⟩ ii
     ·rw[cF hs];exact .tail _ z
     ·exact (rZ (by lia) ci cj).mono (by lia)
    ·rintro σ' Hl ⟨w6,rfl,Xl,kpl,bl⟩;refine ⟨_,_,_,_,_,_,um,rfl,Xl.weak λ_ _ y h=>h.2.mono ?_,kpl⟩;rw[<- eW,eI,dS (9^t) 9,dr];exact av _
  ·rintro σ' H' ⟨x1,x2,x3,x4,x5,x6,us',rfl,X,kp⟩;walk_at "w";refine bY λr H2' s' g'=>?_
   exact done r us' H2' _ (by lia) g' (X.same s') (kp.same s')
theorem b7:bc ["_law_bag_here","_law_n","_law_ins","_law_outs","_law_wide","_law_way","_law_first","_law_move_here","_law_put","_law_look","_law_k","_law_row_here"] ["_law_bag_here","_law_n","_law_ins","_law_outs","_law_wide"] (au dY):=by walk_at "d"
theorem ql (T : Txt K mg Z) : cE P w K mg base iO 5 Z.ib Z.h6 ["_law_bag_here", "_law_n", "_law_ins", "_law_outs", "_law_wide"] (qA K) := by
  have fh := bo (P := P) (w := w) (base := base) T;have tY := rO (P := P) (w := w) (base := base) T;have kr := iT (P := P) (w := w) (base := base) T;have sE := qo (P := P) (w := w) (base := base) T;refine T.kx.ok b7 (λvs H Q E h => ?_) (λcdv A outer s H vs Q E hr h => ?_)
  · obtain ⟨b, n, i, o, w, c, rfl, _⟩ := h;rfl
  · obtain ⟨b, n, i, o, w, c, rfl, hB, n8, i4, o4, w0, w1, hc, hc20, hcM, k⟩ := h
    refine ⟨_, (ak (aV (i := 5) b7.nd rfl (Or.inl rfl) (dk fh hr T.aO T.aT.kp T.aW (aa (pv 0) (aa af ag))))
      (ak (aV (i := 6) b7.nd rfl (Or.inl rfl) (dk fh hr T.aO T.aT.kp T.aW (aa (pv 0) (aa (bp dn (pv 1) af) ag))))
      (ak (aV (i := 7) b7.nd rfl (Or.inl rfl) (dk tY hr T.mW T.kZ.kp T.oz (aa (pv 0) (aa (pv 1) (aa (pv 5) (aa (pv 6) (aa (pv 4) ag)))))))
      (ak (oI 8 ["_law_k"] ["_law_bag_here", "_law_n", "_law_wide"] [0, 1, 4] b7.nd rfl rfl (cu rfl T.range (aa (pv 2) ag)) (λ_ => (aM (i := 0) (show List.Nodup (α := PySem.Str) ["_law_k", "_law_bag_here", "_law_n", "_law_wide"] by decide +kernel))) (λ_ => cS) (λ_ => (dk kr hr T.fb T.eO.kp T.fV (aa (pv 1) (aa (pv 2) (aa (pv 3) ag))))))
      (ak (oI 9 ["_law_k"] ["_law_bag_here", "_law_n", "_law_wide"] [0, 1, 4] b7.nd rfl rfl (cu rfl T.range (aa (pv 3) ag)) (λ_ => (aM (i := 0) (show List.Nodup (α := PySem.Str) ["_law_k", "_law_bag_here", "_law_n", "_law_wide"] by decide +kernel))) (λ_ => cS) (λ_ => (dk kr hr T.fb T.eO.kp T.fV (aa (pv 1) (aa (pv 2) (aa (pv 3) ag))))))
      (ak (dW PassesOwn.never rfl (cu rfl T.range (aa (pv 1) ag)) (aM (i := 10) b7.nd)
        (ak (dW PassesOwn.never rfl (cN (pv 8)) (aM (i := 11) b7.nd)
        (aw (cL (PW.pt (lS (PW.pt (fQ (aQ et (pv 5) af (ba _)) (g8 (aQ qH (pv 10) (pv 6) (ba _))))) (jB (PW.pt (fQ (aQ et (pv 5) af (ba _)) (fQ (aQ lT (bp dn (pv 10) af) (pv 1) (ba _)) (g8 (aQ et (dk fh hr T.aO T.aT.kp T.aW (aa (pv 0) (aa af ag))) af (ba _))))))))) (aw (fR (dH (aa af (aa af ag))) (gW (pv 11) (pv 10) set_list))) bC)))
      (aw (dW PassesOwn.never rfl (cN (pv 9)) (aM (i := 11) b7.nd)
        (aw (cL (PW.pt (lS (PW.pt (fQ (aQ et (pv 5) af (ba _)) (g8 (aQ qH (pv 10) (pv 6) (ba _))))) (jB (PW.pt (fQ (aQ et (pv 5) af (ba _)) (fQ (aQ pC (pv 10) af (ba _)) (g8 (aQ et (dk fh hr T.aO T.aT.kp T.aW (aa (pv 0) (aa af ag))) af (ba _))))))))) (aw (fR (dH (aa af (aa af ag))) (gW (pv 11) (pv 10) set_list))) bC))))))
      (aw (bf (dk sE hr T.lZ T.ky.kp T.ng (aa (pv 0) (aa (pv 7) (aa (pv 8) (aa (pv 9) ag))))))))))))), ?_⟩
    refine aR (σ := [some (.ref b), some (.int n), some (.int i), some (.int o), some (.int w), none, none, none, none, none, none, none]) rfl ?_;have W1 : 1 ≤ max w 6 := by lia
    obtain ⟨q0, I0, xs0, gq0⟩ := hB.inner;walk_at "w";refine ⟨b, 6, rfl, hB, by decide, by decide, λway H1 a0 a1 B1 u1 => ?_⟩;walk_at "w";refine ⟨b, _, rfl, B1, by lia, by lia, λfirst H2 f0 f1 B2 u2 => ?_⟩;have u02 := u1.trans u2;walk_at "w";refine ⟨b, n, w, way, first, rfl, B2, n8, w0, w1, λm us H3 nm0 gm lm ndm rm B3 u3 => ?_⟩;have u03 := u02.trans u3;walk_at "w";refine ⟨by lia, by lia, ?_⟩;refine qQ (n := i) (b := b) (eL K H3) (λxs => xs.length = n /\ ∀ x ∈ xs, Dr (max w 6) x) B3 (by lia) (λa u B => a.upto u B B3.at) (λ⟨q, e, _, _, g, _⟩ => ⟨q, e, by rw [g]; exact λz => nomatch z⟩) ?_ ?_
    · rintro s H' NY NN hi u B k1;walk_at "w";exact ⟨b, n, w, rfl, B, by lia, w0, w1, λr xs H2 nr R lx dx B2 u2 => k1 _ xs _ u2 B2 ⟨lx, dx⟩ ⟨r, rfl, u.none B nr, R⟩ ⟨r, rfl, nr⟩⟩
    rintro ws puts H4 p np u4 B4 gp lp ndp hp pr4 nx4;have u04 := u03.trans u4;walk_at "w";refine ⟨by lia, by lia, ?_⟩;refine qQ (n := o) (b := b) (eL K H4) (λxs => xs.length = n /\ ∀ x ∈ xs, Dr (max w 6) x) B4 (by lia) (λa u B => a.upto u B B4.at) (λ⟨q, e, _, _, g, _⟩ => ⟨q, e, by rw [g]; exact λz => nomatch z⟩) ?_ ?_
    · rintro s H' NY NN hi u B k1;walk_at "w";exact ⟨b, n, w, rfl, B, by lia, w0, w1, λr xs H2 nr R lx dx B2 u2 => k1 _ xs _ u2 B2 ⟨lx, dx⟩ ⟨r, rfl, u.none B nr, R⟩ ⟨r, rfl, nr⟩⟩
    rintro vs looks H5 l nl u5 B5 gl ll ndl hl pr5 nx5;have u05 := u04.trans u5;have hm0 : H m = none := u02.none B2 nm0;have hp0 : H p = none := u03.none B3 np;have hl0 : H l = none := u04.none B4 nl;have mb : m ≠ b := λz => B2.at (by rw [<- z]; exact nm0)
    have pb : p ≠ b := λz => B3.at (by rw [<- z]; exact np)
    have lb : l ≠ b := λz => B4.at (by rw [<- z]; exact nl)
    have gm4 := u4.other mb gm;have gm5 := u5.other mb gm4;have gp5 := u5.other pb gp;have mp : m ≠ p := λz => by rw [z, np] at gm; cases gm
    have ml : m ≠ l := λz => by rw [z, nl] at gm4; cases gm4
    have pl : p ≠ l := λz => by rw [z, nl] at gp; cases gp
    have mq : m ≠ q0 := λz => Inner.at B2 (u02.2 _ I0) (by rw [<- z]; exact nm0)
    obtain ⟨A, eA⟩ : ∃ A : Addr → Prop, A = λq => H q = none /\ q ≠ m /\ q ≠ p /\ q ≠ l := ⟨_, rfl⟩
    have mkA : ∀ {q}, H q = none → q ≠ m → q ≠ p → q ≠ l → A q := λh1 h2 h3 h4 => by rw [eA]; exact ⟨h1, h2, h3, h4⟩
    have unA : ∀ {q}, A q → H q = none /\ q ≠ m /\ q ≠ p /\ q ≠ l := λh => by rw [eA] at h; exact h
    have MA : uI A m p l b q0 := ⟨λz => (unA z).2.1 rfl, λz => (unA z).2.2.1 rfl, λz => (unA z).2.2.2 rfl, λz => hB.at (unA z).1, (λz => by have z1 := (unA z).1; rw [gq0] at z1; cases z1), mb, pb, lb, mp, ml, mq⟩;clear eA;have lws : ws.length = i := by rw [<- pr4.length]; exact lp
    have lvs : vs.length = o := by rw [<- pr5.length]; exact ll
    have alM : ∀ q, V.ref q ∈ us → H3 q ≠ none /\ q ≠ b /\ H4 q ≠ none := λq hq => by
      obtain ⟨q', qs, e, ⟨a1, a2⟩, r, z⟩ := rm _ hq;cases e;have qb : q ≠ b := λy => B2.at (by rw [<- y]; exact a1)
      obtain ⟨xq, gq, _⟩ := id r;obtain ⟨xq4, gq4, _⟩ := r.upto u4 B3 qb;exact ⟨(by rw [gq]; exact λz => nomatch z), qb, (by rw [gq4]; exact λz => nomatch z)⟩
    have alP : ∀ q, V.ref q ∈ ws → H3 q = none /\ H4 q ≠ none := λq hq => by
      obtain ⟨_, _, q', e, a, _, g, _⟩ := dy pr4 hq;cases e;exact ⟨a, by rw [g]; exact λz => nomatch z⟩
    have alL : ∀ q, V.ref q ∈ vs → H4 q = none := λq hq => by
      obtain ⟨_, _, q', e, a, _⟩ := dy pr5 hq;cases e;exact a
    have isR : ∀ x, x ∈ us \/ x ∈ ws \/ x ∈ vs → ∃ q, x = V.ref q := λx hx => by
      rcases hx with hx | hx | hx
      · obtain ⟨q, _, e, _⟩ := rm x hx; exact ⟨q, e⟩
      · obtain ⟨_, _, q, e, _⟩ := dy pr4 hx; exact ⟨q, e⟩
      · obtain ⟨_, _, q, e, _⟩ := dy pr5 hx; exact ⟨q, e⟩
    have nd : (us ++ vs ++ ws).Nodup := by
      refine dd.mpr ⟨dd.mpr ⟨ndm, ndl, λx hx y hy e => ?_⟩, ndp, λx hx y hy e => ?_⟩
      · subst e;obtain ⟨q, rfl⟩ := isR x (.inl hx);exact (alM q hx).2.2 (alL q hy)
      · subst e;obtain ⟨q, rfl⟩ := isR x (.inr (.inl hy));rcases aD.mp hx with hx | hx
        · exact (alM q hx).1 (alP q hy).1
        · exact (alP q hy).2 (alL q hx)
    have X5 : uG K A n (Dr (max w 6)) m p l b q0 us ws vs H H5 := by
      refine ⟨⟨B5, u05.2 _ I0, gm5, gp5, gl, lm, λx hx => ?_, nd⟩, gp5, gl, λc u e n1 _ _ => u05.1 c u e n1⟩;rcases aD.mp hx with hx | hx
      · rcases aD.mp hx with hx | hx
        · obtain ⟨q, qs, e, ⟨a1, a2⟩, r, z⟩ := rm x hx;obtain ⟨xq, gq, _⟩ := id r;have qb : q ≠ b := λy => B2.at (by rw [<- y]; exact a1)
          have r4 := r.upto u4 B3 qb;obtain ⟨xq4, gq4, _⟩ := id r4;exact ⟨q, qs, e, mkA (u02.none B2 a1) a2 (λy => by rw [y, np] at gq; cases gq) (λy => by rw [y, nl] at gq4; cases gq4), r4.upto u5 B4 qb, z⟩
        · refine wX (A := A) pr5 hl (λq hq a b' => ?_) x hx;exact mkA (u04.none B4 a) (λy => by rw [y, gm4] at a; cases a) (λy => by rw [y, gp] at a; cases a) (λy => vc nx5 (by rw [<- y]; exact hq))
      · refine dC.upto (wX (A := A) pr4 hp (λq hq a b' => ?_) x hx) u5 B4 MA.ab;exact mkA (u03.none B3 a) (λy => by rw [y, gm] at a; cases a) (λy => vc nx4 (by rw [<- y]; exact hq)) (λy => b' (by rw [y]; exact nl))
    clear alM alP alL isR rm pr4 pr5 nx4 nx5 gm gm4 gm5 gp gp5 gl hp hl;walk_at "w";refine ⟨by lia, by lia, ?_⟩;refine fS (n := n) (λkk σ' H' => (∃ x1 x2, σ' = [some (.ref b), some (.int n), some (.int i), some (.int o), some (.int w), some (.int way), some (.int first), some (.ref m), some (.ref p), some (.ref l), x1, x2]) /\ uG K A n (Dr (max w 6)) m p l b q0 us ws vs H H') ⟨⟨_, _, rfl⟩, X5⟩ ?_ ?_
    · rintro kk σ' Hj hk ⟨⟨x1, x2, rfl⟩, X⟩;walk_at "w";refine ⟨⟨_, bL.of X.gp⟩, ?_⟩;refine jO (K := K) (a := p) (xs := ws) (λs σ' H' => (∃ x2, σ' = [some (.ref b), some (.int n), some (.int i), some (.int o), some (.int w), some (.int way), some (.int first), some (.ref m), some (.ref p), some (.ref l), some (.int kk), x2]) /\ uG K A n (Dr (max w 6)) m p l b q0 us ws vs H H') ⟨⟨_, rfl⟩, X⟩ (λs σ' H' _ ⟨_, e⟩ => bL.of e.gp) ?_ ?_
      · rintro s x σ' Hk hx ⟨⟨y2, rfl⟩, X⟩;have mx := ao hx;obtain ⟨q, _, rfl, _⟩ := X.row (.inl mx)
        repeat' (first | walk_at "rd" | refine fF (λ_ => ?_) (λ_ => ?_))
        all_goals first
          | exact ⟨⟨_, rfl⟩, X⟩
          | (refine bY λt Hb sb gb => ?_
             walk_at "w";obtain ⟨zs, gz, lz, Xz⟩ := (X.same sb).put MA (.inl mx) (bK.mk (q := 0) gb rfl) (kR (i := 0) (bq _) W1) kk;refine eF gz (fB (by lia)) rfl ?_;exact ⟨⟨_, rfl⟩, Xz⟩)
          | (refine ⟨b, 2, rfl, X.mix.bag, by decide, by decide, λd Hd d0 d1 Bd ud => ?_⟩
             replace X := X.upto MA ud Bd
             repeat' (first | walk_at "rd" | refine fF (λ_ => ?_) (λ_ => ?_))
             all_goals first
               | exact ⟨⟨_, rfl⟩, X⟩
               | (refine bY λt Hb sb gb => ?_
                  walk_at "w";obtain ⟨zs, gz, lz, Xz⟩ := (X.same sb).put MA (.inl mx) (bK.mk (q := 0) gb rfl) (kR (i := 0) (bq _) W1) kk;refine eF gz (fB (by lia)) rfl ?_;exact ⟨⟨_, rfl⟩, Xz⟩))
      · rintro σ' Hk ⟨⟨y2, rfl⟩, X⟩;walk_at "w";refine ⟨⟨_, bL.of X.gl⟩, ?_⟩;refine jO (K := K) (a := l) (xs := vs) (λs σ' H' => (∃ x2, σ' = [some (.ref b), some (.int n), some (.int i), some (.int o), some (.int w), some (.int way), some (.int first), some (.ref m), some (.ref p), some (.ref l), some (.int kk), x2]) /\ uG K A n (Dr (max w 6)) m p l b q0 us ws vs H H') ⟨⟨_, rfl⟩, X⟩ (λs σ' H' _ ⟨_, e⟩ => bL.of e.gl) ?_ ?_
        · rintro s x σ' Hk hx ⟨⟨y2, rfl⟩, X⟩;have mx := ao hx;obtain ⟨q, _, rfl, _⟩ := X.row (.inr mx)
          repeat' (first | walk_at "rd" | refine fF (λ_ => ?_) (λ_ => ?_))
          all_goals first
            | exact ⟨⟨_, rfl⟩, X⟩
            | (refine bY λt Hb sb gb => ?_
               walk_at "w";obtain ⟨zs, gz, lz, Xz⟩ := (X.same sb).put MA (.inr mx) (bK.mk (q := 0) gb rfl) (kR (i := 0) (bq _) W1) kk;refine eF gz (fB (by lia)) rfl ?_;exact ⟨⟨_, rfl⟩, Xz⟩)
            | (refine ⟨b, 2, rfl, X.mix.bag, by decide, by decide, λd Hd d0 d1 Bd ud => ?_⟩
               replace X := X.upto MA ud Bd
               repeat' (first | walk_at "rd" | refine fF (λ_ => ?_) (λ_ => ?_))
               all_goals first
                 | exact ⟨⟨_, rfl⟩, X⟩
                 | (refine bY λt Hb sb gb => ?_
                    walk_at "w";obtain ⟨zs, gz, lz, Xz⟩ := (X.same sb).put MA (.inr mx) (bK.mk (q := 0) gb rfl) (kR (i := 0) (bq _) W1) kk;refine eF gz (fB (by lia)) rfl ?_;exact ⟨⟨_, rfl⟩, Xz⟩))
        · rintro σ' Hk ⟨⟨y2, rfl⟩, X⟩;exact ⟨⟨_, _, rfl⟩, X⟩
    · rintro σ' Hj ⟨⟨x1, x2, rfl⟩, X⟩
      obtain ⟨M1, M2, M3, V0, a1, a2, a3, V2, hcs, R1, R2, R3⟩ : ∃ M1 M2 M3 V0 : Nat, (0 < M1 /\ M1 ≤ 2 ^ 800) /\ (0 < M2 /\ M2 ≤ 2 ^ 800) /\ (0 < M3 /\ M3 ≤ 2 ^ 800) /\ V0 ≤ 2 ^ 20 /\ ((w ≤ 9 /\ M1 = 2520 /\ M2 = 2520 /\ M3 = 2520 /\ V0 = 9) \/ (9 < w /\ M1 ≤ 2 ^ (c * (n * n)) /\ M2 ≤ 2 ^ (c * (i * n)) /\ M3 ≤ 2 ^ (c * (o * n)) /\ V0 = 2 ^ c)) /\ (∀ x ∈ us, dC K A Hj n (Fr M1 V0) x) /\ (∀ x ∈ ws, dC K A Hj n (Fr M2 V0) x) /\ ∀ x ∈ vs, dC K A Hj n (Fr M3 V0) x := by
        by_cases w9 : w ≤ 9
        · have XM := X.mix.weak (C' := λ_ => Fr 2520 9) λ_ _ y h => xI ⟨ah h.1 (by lia), ah h.2 (by lia)⟩ (Nat.dvd_refl _)
          have z : 0 < 2520 /\ 2520 ≤ 2 ^ 800 := ⟨by decide, ah (show 2520 ≤ 2 ^ 12 by decide) (aj (by decide) (by decide))⟩;exact ⟨2520, 2520, 2520, 9, z, z, z, by decide, .inl ⟨w9, rfl, rfl, rfl, rfl⟩, λx hx => XM.row x (by simp [hx]), λx hx => XM.row x (by simp [hx]), λx hx => XM.row x (by simp [hx])⟩
        · obtain ⟨M1, M2, M3, a1, a2, a3, b1, b2, b3, R1, R2, R3⟩ := (X.mix.weak (C' := λ_ => Dr (2 ^ c)) λ_ _ y h => ⟨ah h.1 hc, ah h.2 hc⟩).fr3;rw [lws] at b2;rw [lvs] at b3;have up : ∀ {M k : Nat}, M ≤ 2 ^ (c * k) → k ≤ (n + i + o) * n → M ≤ 2 ^ 800 := λh hk => ah h (aj (by decide) (ah (Nat.mul_le_mul_left _ hk) hcM))
          exact ⟨M1, M2, M3, 2 ^ c, ⟨a1, up b1 (aL _ (by lia))⟩, ⟨a2, up b2 (aL _ (by lia))⟩, ⟨a3, up b3 (aL _ (by lia))⟩, aj (by decide) hc20, .inr ⟨by lia, b1, b2, b3, rfl⟩, R1, R2, R3⟩
      obtain ⟨μ, e2, e3, e1, e4⟩ := xp ws vs M1 M2 M3;obtain ⟨ap1, ap2⟩ := X.mix.apart
      have XM : fG K A Hj n (λx => Fr (μ x) V0) m p l b q0 us ws vs := by
        refine ⟨X.mix.bag, X.mix.inn, X.mix.gm, X.mix.gp, X.mix.gl, X.mix.lm, λx hx => ?_, X.mix.nd⟩;rcases aD.mp hx with hx | hx
        · rcases aD.mp hx with hx | hx
          · rw [e1 x (ap1 x hx).1 (ap1 x hx).2]; exact R1 x hx
          · rw [e3 x hx (ap2 x hx)]; exact R3 x hx
        · rw [e2 x hx]; exact R2 x hx
      have p1 : ∀ x, 0 < μ x := λx => by
        rcases e4 x with e | e | e
        · rw [e]; exact a1.1
        · rw [e]; exact a2.1
        · rw [e]; exact a3.1
      have p2 : ∀ x, μ x ≤ 2 ^ 800 := λx => by
        rcases e4 x with e | e | e
        · rw [e]; exact a1.2
        · rw [e]; exact a2.2
        · rw [e]; exact a3.2
      have gmj := X.mix.gm;walk_at "w";refine ⟨b, m, p, l, q0, n, V0, μ, A, us, ws, vs, rfl, MA, XM, n8, by lia, by lia, p1, p2, ⟨M1, e1⟩, V2, λq hq => ?_, λr us' H' g Y kp => ?_⟩
      · refine mkA ?_ (λz => by rw [z, gmj] at hq; cases hq) (λz => by rw [z, X.gp] at hq; cases hq) (λz => by rw [z, X.gl] at hq; cases hq);cases e : H q with
        | none => rfl
        | some u =>
          have := X.kp q u e (λz => X.mix.bag.at (by rw [<- z]; exact hq)) (λz => by have := (unA z).1; rw [e] at this; cases this) (λz => by rw [z, hm0] at e; cases e);rw [hq] at this; cases this
      · obtain ⟨yp1, yp2⟩ := Y.apart;obtain ⟨mv, Gm, lmv, hmv⟩ := mC (H0 := H) (n := n) (C := Fr M1 (9 ^ 3 * V0)) (m := n) ⟨us', Y.gm, Y.lm, MA.am, λx hx => by have := Y.row x (by simp [hx]); rwa [e1 x (yp1 x hx).1 (yp1 x hx).2] at this⟩ λq h => (unA h).1
        obtain ⟨pt, Gp, lpt, hpt⟩ := mC (H0 := H) (n := n) (C := Fr M2 (9 ^ 3 * V0)) (m := i) ⟨ws, Y.gp, lws, MA.ap, λx hx => by have := Y.row x (by simp [hx]); rwa [e2 x hx] at this⟩ λq h => (unA h).1
        obtain ⟨lk, Gl, llk, hlk⟩ := mC (H0 := H) (n := n) (C := Fr M3 (9 ^ 3 * V0)) (m := o) ⟨vs, Y.gl, lvs, MA.al, λx hx => by have := Y.row x (by simp [hx]); rwa [e3 x hx (yp2 x hx)] at this⟩ λq h => (unA h).1
        refine k r mv pt lk H' ⟨m, p, l, g, hm0, hp0, hl0, Gm, Gp, Gl⟩ lmv lpt llk ⟨by lia, by lia, by lia, λxs hx => by rw [(hmv xs hx).1, lmv], λxs hx => by rw [(hpt xs hx).1, lmv], λxs hx => by rw [(hlk xs hx).1, lmv]⟩ ⟨M1, M2, M3, 9 ^ 3 * V0, a1.1, a2.1, a3.1, λxs hx => (hmv xs hx).2, λxs hx => (hpt xs hx).2, λxs hx => (hlk xs hx).2, ?_⟩ Y.bag ⟨λc' u e n1 => (X.kp.trans kp) c' u e n1 (λz => by have := (unA z).1; rw [e] at this; cases this) (λz => by rw [z, hm0] at e; cases e), λq h => by rw [<- Inner.inj I0 h]; exact Y.inn⟩;rcases hcs with ⟨b1, b2, b3, b4, b5⟩ | ⟨b1, b2, b3, b4, b5⟩
        · exact .inl ⟨b1, b2, b3, b4, by rw [b5]⟩
        · exact .inr ⟨b1, b2, b3, b4, by rw [b5]⟩
theorem dM:bc ["one","other","rest"] ["one","other"] (au cI):=by walk_at "d"
theorem fw (T:Txt K mg Z):cE P w K mg base iO 1 Z.ee Z.d6 ["one","other"] Bu:=by
 refine T.dq.ok dM (λvs H Q E h=>?_) (λcdv A outer s H vs Q E hr h=>?_)
 ·obtain ⟨a,b,rfl,_⟩:=h;rfl
 ·obtain ⟨a,b,rfl,k⟩:=h
  refine ⟨_,(ak (tw PassesOwn.never (aQ qG (pv 1) af (ba _))
    (ak (aV (i:=2) dM.nd rfl (Or.inl rfl) (bp zb (pv 0) (pv 1)))
   (ak (aV (i:=0) dM.nd rfl (Or.inl rfl) (pv 1))
   (aw (aV (i:=1) dM.nd rfl (Or.inl rfl) (pv 2))))))
   (aw (bf (bD pU (by rfl) T.abs PyProof.Rows.boot_abs (aa (pv 0) ag))))),?_⟩
  refine aR (σ:=[some (.int a),some (.int b),none]) rfl ?_;walk_at "w";refine uM (λσ' H'=>∃(u v:Int) (r:Option V),σ'=[some (.int u),some (.int v),r]/\H'=H/\Int.gcd u v=Int.gcd a b) (λσ' _=>match σ' with | [_,some (.int v),_]=>v.natAbs | _=>0) ⟨a,b,none,rfl,rfl,rfl⟩ ?_;rintro σ' H' ⟨u,v,r,rfl,rfl,hg⟩;walk_at "w";refine fF (λh=>?_) (λh=>?_)
  ·have hv:v≠0:=λz=>by subst z;simp at h
   walk_at "w";refine fu (show v≠0 from hv) ?_;walk_at "w";exact ⟨⟨v,u.fmod v,_,rfl,rfl,(xD u v).trans hg⟩,zi u v hv⟩
  ·have hv:v=0:=by
    by_cases z:v=0
    ·exact z
    ·exfalso;apply h;simp [z]
   subst hv;walk_at "w"
   have e:(if u < 0 then -u else u)=g a b:=by
    unfold g;rw[<- hg,Int.gcd_zero_right]
    split <;> lia
   rw[e];exact k
theorem du:bc ["wholes","multiple","whole"] ["wholes"] (au ck):=by walk_at "d"
theorem my (T:Txt K mg Z):cE P w K mg base iO 2 Z.dQ Z.dO ["wholes"] (wN K):=by
 refine T.fE.ok du (λvs H Q E h=>?_) (λcdv A outer s H vs Q E hr h=>?_)
 ·obtain ⟨p,bs,M,rfl,_⟩:=h;rfl
 ·obtain ⟨p,bs,M,rfl,hp,hM,sM,hb,q⟩:=h
  refine ⟨_,(ak (aV (i:=1) du.nd rfl (Or.inl rfl) af)
   (ak (dW PassesOwn.never rfl (cN (pv 0)) (aM (i:=2) du.nd)
    (aw (aV (i:=1) du.nd rfl (Or.inl rfl) (bp di (pv 1) (bp fv (pv 2) (dk (fw T) hr T.dN T.dq.kp T.ed (aa (pv 1) (aa (pv 2) ag))))))))
   (aw (bf (pv 1))))),?_⟩
  refine aR (σ:=[some (.ref p),none,none]) rfl ?_;walk_at "w";refine ⟨⟨_,hp⟩,?_⟩;refine jO (K:=K) (a:=p) (xs:=bs.map V.int) (λi σ' H'=>H'=H/\∃x,σ'=[some (.ref p),some (.int (nR (bs.take i) 1)),x]) ⟨rfl,none,rfl⟩ (λi σ' H' _ ⟨e,_⟩=>by subst e;exact hp) ?_ ?_
  ·rintro i x σ' H' hx ⟨rfl,y,rfl⟩;rw[aB] at hx
   obtain ⟨b,eb,rfl⟩:∃b,bs[i]?=some b/\x=.int b:=by
    cases e:bs[i]? with
    | none=>rw[e] at hx;cases hx
    | some b=>rw[e] at hx;cases hx;exact ⟨b,rfl,rfl⟩
   have b1:=hb b (ao eb);have sb:Sz 4400 b:=si hM b1.2 sM;have ht:∀c∈bs.take i,0 < c/\c∣M:=λc hc=>hb c (kE hc)
   have msz:Sz 4400 (nR (bs.take i) 1):=si hM (m3 (by decide) (xZ _) ht) sM;generalize hm:nR (bs.take i) 1=m at msz ⊢;have gp:0 < g m b:=pR (by lia);walk_at "w";refine ⟨m,b,rfl,?_⟩;walk_at "w";refine fu (show kB _ _ from ⟨by lia,(CQ b1.1 sb).mono (by decide)⟩) ?_;rw[bh _ (by lia)];walk_at "w";refine fu (show jw _ _ from .inr ⟨_,_,msz,sb.hi (t:=m) (by lia),by decide⟩) ?_;walk_at "w";exact ⟨rfl,_,by rw[take_snoc eb,qL,hm];rfl⟩
  ·rintro σ' H' ⟨rfl,y,rfl⟩;walk_at "w";rw[aJ (by simp)];exact q
theorem nK:bc ["row"] ["row"] (au cT):=by walk_at "d"
theorem nP (T:Txt K mg Z):cE P w K mg base iO 3 Z.eH Z.eG ["row"] (wO K):=by
 refine T.gX.ok nK (λvs H Q E h=>?_) (λcdv A outer s H vs Q E hr h=>?_)
 ·obtain ⟨p,ns,M,rfl,_⟩:=h;rfl
 ·obtain ⟨p,ns,M,rfl,hp,hl,hz,q⟩:=h;refine ⟨_,(aw (bf (dk (my T) hr T.iG T.fE.kp T.jf (aa (cO ["value"] [] [] (cN (pv 0)) (λ_=>(aM (i:=0) (show List.Nodup (α:=PySem.Str) ["value"] by decide +kernel))) (λ_=>cS) (λ_=>(bw (oN K (by rfl)) (pv 0) af))) ag)))),?_⟩;refine aR (σ:=[some (.ref p)]) rfl ?_;obtain ⟨xs,gx,qx⟩:=id hp;have lx:=qx.length;walk_at "w";refine ⟨⟨_,bL.of gx⟩,?_⟩;refine ir (K:=K) (xs:=xs) (λi ys H'=>H'=H/\ys=((ns.take i).map (·.2)).map V.int) (bu (bF (by lia))) ⟨rfl,rfl⟩ (λi ys H' _ ⟨e,_⟩=>by subst e;exact bL.of gx) ?_ ?_
  ·rintro i x ys H' hx hlen ⟨rfl,rfl⟩;obtain ⟨n,en,r,rfl,hr1⟩:=dm qx hx;walk_at "w";exact ⟨rfl,by rw[take_snoc en];simp⟩
  ·rintro ys H' hy ⟨rfl,rfl⟩ l hl';walk_at "w";refine ⟨l,ns.map (·.2),M,rfl,bL.of (by rw[ay,aJ (by lia)]),hz.1,hz.2.1,λb hb=>?_,?_⟩
   ·obtain ⟨n,hn,rfl⟩:=aN.mp hb;exact ⟨(hz.2.2 n hn).1,(hz.2.2 n hn).2.1⟩
   ·exact q _ (az.new hl')
theorem rB:bc ["lists","joined","each"] ["lists"] (au nM):=by walk_at "d"
theorem zc (T:Txt K mg Z):cE P w K mg base iO 1 Z.sD Z.so ["lists"] (sV K):=by
 refine T.uJ.ok rB (λvs H Q E h=>?_) (λcdv A outer s H vs Q E hr h=>?_)
 ·obtain ⟨p,H0,rows,rfl,_⟩:=h;rfl
 ·obtain ⟨p,H0,rows,rfl,G,hl,k⟩:=h
  refine ⟨_,(ak (aV (i:=1) rB.nd rfl (Or.inl rfl) (iB ag))
   (ak (dW PassesOwn.never rfl (cN (pv 0)) (aM (i:=2) rB.nd)
    (aw (jT (va iK PySem.F.slot_list_extend PySem.F.type_list_extend vY (pv 1) (aa (pv 2) ag)))))
   (aw (bf (pv 1))))),?_⟩
  refine aR (σ:=[some (.ref p),none,none]) rfl ?_;obtain ⟨xs,gx,qx,_⟩:=id G;have lx:=qx.length;walk_at "w";refine fZ λj H1 s1 n1 g1=>?_
  walk_at "w";refine ⟨⟨_,bL.of (s1 _ _ gx)⟩,?_⟩;refine jO (K:=K) (a:=p) (xs:=xs) (λi σ' H'=>az H H'/\∃(us:List V) (x:Option V),σ'=[some (.ref p),some (.ref j),x]/\H' j=some (.lst us)/\Paired (bK K H') (rows.take i).flatten us) ⟨s1,[],none,rfl,g1,.nil⟩ (λi σ' H' _ ⟨s,_⟩=>bL.of (s _ _ gx)) ?_ ?_
  ·rintro i x σ' H' hx ⟨s,us,y,rfl,gj,pr⟩;obtain ⟨qs,eq,q,rfl,_,Rq⟩:=dm qx hx;obtain ⟨zs,gz,qz⟩:=Rq.same s;have lz:=qz.length;have lu:=pr.length;have tl:(rows.take (i+1)).flatten=(rows.take i).flatten++qs:=by rw[take_snoc eq,List.flatten_append];simp
   have bl:(rows.take i).flatten.length+qs.length<=1000:=by
    have e:rows.flatten=(rows.take (i+1)).flatten++(rows.drop (i+1)).flatten:=by rw[<- List.flatten_append,List.take_append_drop]
    rw[e,tl,bx,bx] at hl
    lia
   walk_at "w";refine ⟨.inl ⟨rfl,_,bL.of gj⟩,?_⟩;walk_at "w";refine ⟨j,q,us,zs,rfl,rfl,gj,gz,bu (bF (by lia)),?_⟩;refine ⟨s.after n1,_,_,rfl,ay,?_⟩;rw[tl];exact cM (Paired.imp' (λ_ _ z=>bK.updL z gj) pr) (Paired.imp' (λ_ _ z=>bK.updL z gj) qz)
  ·rintro σ' H' ⟨s,us,y,rfl,gj,pr⟩;rw[aJ (by lia)] at pr;walk_at "w";exact k j H' n1 s ⟨us,gj,pr⟩
theorem rz:bc ["row","bottom"] ["row","bottom"] (au eT):=by walk_at "d"
theorem rM (T:Txt K mg Z):cE P w K mg base iO 1 Z.jm Z.iY ["row","bottom"] (sS K):=by
 refine T.kX.ok rz (λvs H Q E h=>?_) (λcdv A outer s H vs Q E hr h=>?_)
 ·obtain ⟨p,ns,M,B,rfl,_⟩:=h;rfl
 ·obtain ⟨p,ns,M,B,rfl,hp,hl,hz,hB,sB,q⟩:=h;refine ⟨_,(aw (bf (cO ["value"] ["bottom"] [1] (cN (pv 0)) (λ_=>(aM (i:=0) (show List.Nodup (α:=PySem.Str) ["value","bottom"] by decide +kernel))) (λ_=>cS) (λ_=>(bp di (bw (oN K (by rfl)) (pv 0) af) (bp fv (pv 1) (bw (oN K (by rfl)) (pv 0) af))))))),?_⟩;refine aR (σ:=[some (.ref p),some (.int B)]) rfl ?_;obtain ⟨xs,gx,qx⟩:=id hp;have lx:=qx.length;walk_at "w";refine ⟨⟨_,bL.of gx⟩,?_⟩;refine ir (K:=K) (xs:=xs) (λi ys H'=>H'=H/\ys=(mK (ns.take i) B).map V.int) (bu (bF (by lia))) ⟨rfl,rfl⟩ (λi ys H' _ ⟨e,_⟩=>by subst e;exact bL.of gx) ?_ ?_
  ·rintro i x ys H' hx hlen ⟨rfl,rfl⟩;obtain ⟨n,en,r,rfl,hr1⟩:=dm qx hx;have nz:=hz.2.2 n (ao en);have sn:Sz 4400 n.2:=si hz.1 nz.2.1 hz.2.1;walk_at "w";refine fu (show kB _ _ from ⟨by lia,sn.mono (by decide)⟩) ?_;rw[bh _ (by lia)]
   have sq:Sz 4400 (B / n.2):=sB.le (by
    rw[A4 (by lia)];exact Nat.div_le_self ..)
   walk_at "w";refine fu (show jw _ _ from .inr ⟨_,_,nz.2.2,sq,by decide⟩) ?_;exact ⟨rfl,by rw[take_snoc en];simp [mK]⟩
  ·rintro ys H' hy ⟨rfl,rfl⟩ l hl';exact q l _ hl' (az.new hl') (by rw[ay,aJ (by lia)])
theorem lR:bc ["grid","bottom"] ["grid"] (au dX):=by walk_at "d"
theorem qj (T:Txt K mg Z):cE P w K mg base iO 4 Z.h9 Z.hX ["grid"] (sR K):=by
 refine T.ks.ok lR (λvs H Q E h=>?_) (λcdv A outer s H vs Q E hr h=>?_)
 ·obtain ⟨p,H0,rows,M,rfl,_⟩:=h;rfl
 ·obtain ⟨p,H0,rows,M,rfl,G,hl,r1000,w1000,hM,k⟩:=h
  refine ⟨_,(ak (aV (i:=1) lR.nd rfl (Or.inr rfl) (dk (nP T) hr T.jN T.gX.kp T.kz (aa (dk (zc T) hr T.vf T.uJ.kp T.xU (aa (pv 0) ag)) ag)))
   (aw (bf (dH (aa (cO ["row"] ["bottom"] [1] (cN (pv 0)) (λ_=>(aM (i:=0) (show List.Nodup (α:=PySem.Str) ["row","bottom"] by decide +kernel))) (λ_=>cS) (λ_=>(dk (rM T) hr T.mU T.kX.kp T.ox (aa (pv 0) (aa (pv 1) ag))))) (aa (pv 1) ag)))))),?_⟩
  refine aR (σ:=[some (.ref p),none]) rfl ?_;have hM':=hM;obtain ⟨b1,s1⟩:=hM.bot;obtain ⟨xs,gx,qx,_⟩:=id G;have lx:=qx.length;walk_at "w";refine ⟨p,H0,rows,rfl,G,hl,λr1 H1 n1 t1 R1=>?_⟩;walk_at "w";refine ⟨r1,rows.flatten.map nm,M,rfl,R1.rowK,by rw[ar];exact hl,hM,λH2 t2=>?_⟩;have t02:=t1.trans t2;have g2:=t02 _ _ gx;walk_at "w";refine ⟨⟨_,bL.of g2⟩,?_⟩;refine fU (K:=K) (as:=rows) (F:=eL K H0) RI (λxs=>mK (xs.map nm) (dI rows)) g2 (Paired.imp' (λ_ _ z=>eL.same z t02) qx) r1000 (λh s=>h.same s) (λh s=>h.same s) ?_ ?_
  ·rintro i c x H' NY NN ec s' ⟨u,rfl,_,Ru⟩ k1;have mc:=ao ec;walk_at "w";refine ⟨u,c.map nm,M,dI rows,rfl,Ru.rowK,by rw[ar];exact w1000 c mc,⟨hM.1,hM.2.1,λn hn=>hM.2.2 n ?_⟩,b1,s1,λr3 H3 n3 t3 g3=>k1 _ _ t3 ⟨r3,rfl,g3⟩⟩;obtain ⟨y,hy,rfl⟩:=aN.mp hn;exact aN.mpr ⟨y,jR.mpr ⟨c,mc,hy⟩,rfl⟩
  rintro ys H3 l hl3 s3 g3 pr _;walk_at "w";refine bY λt4 H4 s4 g4=>?_
  exact k t4 l H4 g4 ((t02.trans s3).trans s4) (GI.same ⟨ys,g3,pr⟩ s4)
theorem rl:bc ["one","other"] ["one","other"] (au eR):=by walk_at "d"
theorem rL (T : Txt K mg Z) : cE P w K mg base iO 1 Z.ji Z.iW ["one", "other"] (uS K) := by
  refine T.kW.ok rl (λvs H Q E h => ?_) (λcdv A outer s H vs Q E hr h => ?_)
  · obtain ⟨p, q, a, b, k, j, rfl, _⟩ := h;rfl
  · obtain ⟨p, q, a, b, k, j, rfl, ga, gb, hl, h100, sa, sb, kj, kk⟩ := h;refine ⟨_, (aw (bf (bD (tR rfl) (by rfl) T.sum PyProof.Rows.boot_sum (aa (cO ["mine", "yours"] [] [] (y8 rfl T.zip (aa (pv 0) (aa (pv 1) ag))) (λ_ => (oK K 2 (cU (aM (i := 0) (show List.Nodup (α := PySem.Str) ["mine", "yours"] by decide +kernel)) (cU (aM (i := 1) (show List.Nodup (α := PySem.Str) ["mine", "yours"] by decide +kernel)) lA)))) (λ_ => cS) (λ_ => (bp di (pv 0) (pv 1)))) ag)))), ?_⟩;refine aR (σ := [some (.ref p), some (.ref q)]) rfl ?_;walk_at "w";refine ⟨⟨_, bL.of ga⟩, ⟨_, bL.of gb⟩, ?_⟩;refine xN (K := K) (xs := a.map V.int) (ws := b.map V.int) (λi ys H' => az H H' /\ ys = ((List.zipWith (· * ·) a b).take i).map V.int) (bu (bF (by rw [ar]; lia))) (by rw [ar, ar]; lia) ⟨az.refl _, rfl⟩ (λi ys H' _ ⟨s, _⟩ => ⟨bL.of (s _ _ ga), bL.of (s _ _ gb)⟩) ?_ ?_
    · rintro i x y ys H' r hx hy hlen ⟨s', rfl⟩ hr;rw [aB] at hx hy;obtain ⟨u, eu, rfl⟩ := oQ.mp hx;obtain ⟨v, ev, rfl⟩ := oQ.mp hy;have sr : az H' (upd H' r (.tup [.int u, .int v])) := az.new hr;have gr : (upd H' r (.tup [.int u, .int v])) r = some (.tup [.int u, .int v]) := ay;generalize upd H' r (.tup [.int u, .int v]) = H2 at sr gr ⊢;walk_at "w";refine fu (show jw _ _ from .inr ⟨_, _, sa u (ao eu), sb v (ao ev), kj⟩) ?_;have ez : (List.zipWith (· * ·) a b)[i]? = some (u * v) := by rw [List.getElem?_zipWith, eu, ev]
      exact ⟨s'.trans sr, by rw [take_snoc ez]; simp⟩
    rintro ys H' hy ⟨s', rfl⟩ l hl';walk_at "w";refine ⟨l, List.zipWith (· * ·) a b, rfl, bL.of (by rw [ay, aJ (by rw [gV, ar]; lia)]), ?_⟩;exact kk _ (s'.trans (az.new hl'))
theorem sX:bc ["lines","tops"] ["lines","tops"] (au fI):=by walk_at "d"
theorem tz (T:Txt K mg Z):cE P w K mg base iO 2 Z.kf Z.jZ ["lines","tops"] (wM K):=by
 refine T.mF.ok sX (λvs H Q E h=>?_) (λcdv A outer s H vs Q E hr h=>?_)
 ·obtain ⟨p,q,ls,b,k,j,rfl,_⟩:=h;rfl
 ·obtain ⟨p,q,ls,b,k,j,rfl,G,gb,hw,l100,b100,sk,sj,kj,kk⟩:=h;refine ⟨_,(aw (bf (cO ["line"] ["tops"] [1] (cN (pv 0)) (λ_=>(aM (i:=0) (show List.Nodup (α:=PySem.Str) ["line","tops"] by decide +kernel))) (λ_=>cS) (λ_=>(dk (rL T) hr T.mT T.kW.kp T.ow (aa (pv 0) (aa (pv 1) ag))))))),?_⟩;refine aR (σ:=[some (.ref p),some (.ref q)]) rfl ?_;obtain ⟨xs,gx,qx⟩:=id G;have lx:=qx.length;walk_at "w";refine ⟨⟨_,bL.of gx⟩,?_⟩;refine fU (K:=K) (as:=ls) (F:=RI) (λ_ z y=>y=V.int z) (λl=>jY l b) gx qx (by lia) (λh s=>h.same s) (λh _=>h) ?_ ?_
  ·rintro i c x H' NY NN ec s' ⟨u,rfl,gu⟩ k1;have mc:=ao ec;walk_at "w";exact ⟨u,q,c,b,k,j,rfl,gu,s' _ _ gb,(hw c mc).symm,by rw[hw c mc];lia,sk c mc,sj,kj,λH2 s2=>k1 _ _ s2 rfl⟩
  rintro ys H2 l hl s2 g2 pr _;have ey:ys=(pE ls b).map V.int:=pA pr;refine kk l _ hl s2 (by rw[g2,ey])
theorem rk:bc ["lines","by"] ["lines","by"] (au eQ):=by walk_at "d"
theorem rK (T:Txt K mg Z):cE P w K mg base iO 1 Z.jh Z.iV ["lines","by"] (sQ K):=by
 refine T.kU.ok rk (λvs H Q E h=>?_) (λcdv A outer s H vs Q E hr h=>?_)
 ·obtain ⟨p,ls,b,rfl,_⟩:=h;rfl
 ·obtain ⟨p,ls,b,rfl,G,l100,w100,kk⟩:=h;refine ⟨_,(aw (bf (cO ["place","line"] ["by"] [1] (oJ rfl T.enumerate (aa (pv 0) ag)) (λ_=>(oK K 2 (cU (aM (i:=0) (show List.Nodup (α:=PySem.Str) ["place","line","by"] by decide +kernel) rfl (Or.inr rfl) (Or.inl rfl)) (cU (aM (i:=1) (show List.Nodup (α:=PySem.Str) ["place","line","by"] by decide +kernel)) lA)))) (λ_=>cS) (λ_=>(cO ["at","value"] ["place","by"] [0,2] (xh K rfl T.enumerate (aa (pv 1) ag)) (λ_=>(oK K 2 (cU (aM (i:=0) (show List.Nodup (α:=PySem.Str) ["at","value","place","by"] by decide +kernel)) (cU (aM (i:=1) (show List.Nodup (α:=PySem.Str) ["at","value","place","by"] by decide +kernel)) lA)))) (λ_=>cS) (λ_=>(xj (aQ et (pv 0) (pv 2) (ba _)) (bp dn (pv 1) (pv 3)) (pv 1)))))))),?_⟩;refine aR (σ:=[some (.ref p),some (.int b)]) rfl ?_;obtain ⟨xs,gx,qx⟩:=id G;have lx:=qx.length;walk_at "w";refine ⟨⟨_,bL.of gx⟩,?_⟩;refine nW (K:=K) (xs:=xs) (λi ys H'=>az H H'/\Paired (RI H') ((cV b 0 ls).take i) ys) (bu (bF (by lia))) ⟨az.refl _,.nil⟩ (λi ys H' _ ⟨s,_⟩=>bL.of (s _ _ gx)) ?_ ?_
  ·rintro i v ys H' r hx hlen ⟨s',pr⟩ hr;obtain ⟨c,ec,u,rfl,gu⟩:=dm qx hx;have mc:=ao ec;have sr:az H' (upd H' r (.tup [.int i,.ref u])):=az.new hr;have gr:(upd H' r (.tup [.int i,.ref u])) r=some (.tup [.int i,.ref u]):=ay;generalize upd H' r (.tup [.int i,.ref u])=H2 at sr gr ⊢;have s2:=s'.trans sr;have gu2:=s2 _ _ gu;walk_at "w";refine ⟨⟨_,bL.of gu2⟩,?_⟩;refine nW (K:=K) (xs:=c.map V.int) (λj ys H'=>az H2 H'/\ys=((cX b i c).take j).map V.int) (bu (bF (by rw[ar];have:=w100 c mc;lia))) ⟨az.refl _,rfl⟩ (λi ys H' _ ⟨s,_⟩=>bL.of (s _ _ gu2)) ?_ ?_
   ·rintro j w ys3 H3 r3 hw hl3 ⟨s3,rfl⟩ hr3;rw[aB] at hw;obtain ⟨z,ez,rfl⟩:=oQ.mp hw;have jl:=(aG.mp ez).1;have sr3:az H3 (upd H3 r3 (.tup [.int j,.int z])):=az.new hr3;have gr3:(upd H3 r3 (.tup [.int j,.int z])) r3=some (.tup [.int j,.int z]):=ay;generalize upd H3 r3 (.tup [.int j,.int z])=H4 at sr3 gr3 ⊢
    have ea:(cX b i c)[j]?=some (z+if j=i then b else 0):=by
     have h1:=mE (b:=b) (p:=i) (l:=c) (i:=j) jl;have h2:c.getD j 0=z:=by rw[ae,ez];rfl
     rw[h2,ae] at h1;rw[<- h1,ai (by rw[jQ];exact jl)];rfl
    walk_at "w";refine fF (λh0=>?_) (λh0=>?_)
    ·have h0:=of_decide_eq_true h0;walk_at "w";refine ⟨s3.trans sr3,?_⟩;rw[take_snoc ea,if_pos (by lia)];simp
    ·have h0:¬(j:Int)=(i:Int):=λz=>h0 (decide_eq_true z)
     walk_at "w";refine ⟨s3.trans sr3,?_⟩;rw[take_snoc ea,if_neg (by lia),Int.add_zero];simp
   rintro ys3 H3 hy3 ⟨s3,rfl⟩ l3 hl3;have sn:az H3 (upd H3 l3 (.lst (((cX b i c).take (c.map V.int).length).map V.int))):=az.new hl3;have gn:(upd H3 l3 (.lst (((cX b i c).take (c.map V.int).length).map V.int))) l3=some (.lst (((cX b i c).take (c.map V.int).length).map V.int)):=ay;have gn:(upd H3 l3 (.lst (((cX b i c).take (c.map V.int).length).map V.int))) l3=some (.lst ((cX b i c).map V.int)):=by rw[gn,aJ (by rw[ar,jQ];lia)]
   generalize upd H3 l3 (.lst (((cX b i c).take (c.map V.int).length).map V.int))=H5 at sn gn ⊢;have s25:=s3.trans sn;refine ⟨s2.trans s25,?_⟩;have em:(cV b 0 ls)[i]?=some (cX b i c):=by rw[mY,ec,Nat.zero_add];rfl
   rw[take_snoc em];exact cM (Paired.imp' (λ_ _ z=>RI.same z (sr.trans s25)) pr) (.cons ⟨l3,rfl,gn⟩ .nil)
  rintro ys H' hy ⟨s',pr⟩ l hl';rw[aJ (by rw[fe];lia)] at pr;exact kk l _ (s'.none hl') (s'.trans (az.new hl')) ⟨_,ay,Paired.imp' (λ_ _ z=>RI.same z (az.new hl')) pr⟩
theorem nJ:bc ["top","bottom","divisor"] ["top","bottom"] (au jL):=by walk_at "d"
theorem vV (T:Txt K mg Z):cE P w K mg base iO 2 Z.nh Z.m5 ["top","bottom"] vL:=by
 refine T.p7.ok nJ (λvs H Q E h=>?_) (λcdv A outer s H vs Q E hr h=>?_)
 ·obtain ⟨t,b,rfl,_⟩:=h;rfl
 ·obtain ⟨t,b,rfl,hb,hs,k⟩:=h
  refine ⟨_,(ak (aV (i:=2) nJ.nd rfl (Or.inl rfl) (dk (fw T) hr T.dN T.dq.kp T.ed (aa (pv 0) (aa (pv 1) ag))))
   (ak (cL (aQ lT (pv 1) af (ba _)) (aw (aV (i:=2) nJ.nd rfl (Or.inl rfl) (pe mn (pv 2)))) bC)
   (aw (bf (dH (aa (bp fv (pv 0) (pv 2)) (aa (bp fv (pv 1) (pv 2)) ag))))))),?_⟩
  refine aR (σ:=[some (.int t),some (.int b),none]) rfl ?_;walk_at "w";refine ⟨t,b,rfl,?_⟩;have hg:=pR (t:=t) hb
  have hgs:Sz 8999 (g t b):=hs.le (by
   have h1:(g t b).natAbs=Int.gcd t b:=by unfold g;simp
   rw[h1];exact fm (by lia) (by have:=de (a:=t) (b:=b);exact bW.mpr this |> λz=>by simpa using z))
  have hgn:g (-t) (-b)=g t b:=by unfold g;rw[Int.gcd_neg,Int.neg_gcd]
  walk_at "w";refine fF (λh=>?_) (λh=>?_)
  ·have hb0:b < 0:=of_decide_eq_true h;walk_at "w";refine fu (show kB _ _ from ⟨by lia,hgs.neg⟩) ?_;walk_at "w";refine fu (show kB _ _ from ⟨by lia,hgs.neg⟩) ?_;walk_at "w";refine bY λr H' s' h'=>?_
   have e1:t.fdiv (-g t b)=lo (-t) (-b):=by
    unfold Nm.lo;rw[hgn,<- bh _ (by lia),<- Int.neg_fdiv_neg (-t),Int.neg_neg]
   have e2:b.fdiv (-g t b)=hi (-t) (-b):=by
    unfold Nm.hi;rw[hgn,<- bh _ (by lia),<- Int.neg_fdiv_neg (-b),Int.neg_neg]
   exact k r H' s' (by rw[if_pos hb0,if_pos hb0,<- e1,<- e2];exact h')
  ·have hb0:¬b < 0:=λz=>h (decide_eq_true z)
   walk_at "w";refine fu (show kB _ _ from ⟨by lia,hgs⟩) ?_;walk_at "w";refine fu (show kB _ _ from ⟨by lia,hgs⟩) ?_;walk_at "w";refine bY λr H' s' h'=>?_
   rw[bh _ (by lia),bh _ (by lia)] at h';exact k r H' s' (by rw[if_neg hb0,if_neg hb0];exact h')
theorem b9:bc ["system","many","move","columns","last","bottom","wish","turn"] ["system"] (au fJ):=by walk_at "d"
theorem tE (T:Txt K mg Z):cE P w K mg base iO 5 Z.kg Z.j3 ["system"] (uR K Z.a_System):=by
 refine T.mG.ok b9 (λvs H Q E h=>?_) (λcdv A outer s H vs Q E hr h=>?_)
 ·obtain ⟨x,H0,mv,pt,lk,M,rfl,_⟩:=h;rfl
 ·obtain ⟨x,H0,mv,pt,lk,M,rfl,S,D,hM,sM,k⟩:=h
  refine ⟨_,(ak (aV (i:=1) b9.nd rfl (Or.inr rfl) (mr (pv 0) rfl))
   (ak (aV (i:=2) b9.nd rfl (Or.inr rfl) (dk (qj T) hr T.lV T.ks.kp T.m7 (aa (mr (pv 0) rfl) ag)))
   (ak (oI 3 ["turn"] ["many"] [1] b9.nd rfl rfl (cu rfl T.range (aa (pv 1) ag)) (λ_=>(aM (i:=0) (show List.Nodup (α:=PySem.Str) ["turn","many"] by decide +kernel))) (λ_=>cS) (λ_=>(cO ["place"] [] [] (cu rfl T.range (aa (pv 1) ag)) (λ_=>(aM (i:=0) (show List.Nodup (α:=PySem.Str) ["place"] by decide +kernel))) (λ_=>cS) (λ_=>af))))
   (ak (aV (i:=4) b9.nd rfl (Or.inl rfl) af)
   (ak (aV (i:=5) b9.nd rfl (Or.inl rfl) af)
   (ak (aV (i:=6) b9.nd rfl (Or.inl rfl) (iB ag))
   (ak (dW PassesOwn.never rfl (vT rfl T.range (aa af (aa (bp dn (pv 1) af) ag))) (aM (i:=7) b9.nd)
    (ak (oI 3 ["column"] ["move"] [2] b9.nd rfl rfl (cN (dk (rK T) hr T.mS T.kU.kp T.ou (aa (pv 3) (aa (pv 4) ag)))) (λ_=>(aM (i:=0) (show List.Nodup (α:=PySem.Str) ["column","move"] by decide +kernel))) (λ_=>cS) (λ_=>(dk (tz T) hr T.oh T.mF.kp T.pW (aa (bw (oN K (by rfl)) (pv 1) af) (aa (pv 0) ag)))))
   (ak (aV (i:=4) b9.nd rfl (Or.inl rfl) (bp fv (pe mn (bD (tR rfl) (by rfl) T.sum PyProof.Rows.boot_sum (aa (cO ["place","column"] [] [] (oJ rfl T.enumerate (aa (pv 3) ag)) (λ_=>(oK K 2 (cU (aM (i:=0) (show List.Nodup (α:=PySem.Str) ["place","column"] by decide +kernel)) (cU (aM (i:=1) (show List.Nodup (α:=PySem.Str) ["place","column"] by decide +kernel)) lA)))) (λ_=>cS) (λ_=>(bw (pQ K (by rfl)) (pv 1) (pv 0)))) ag))) (pv 7)))
   (ak (aV (i:=5) b9.nd rfl (Or.inl rfl) (bp di (pv 5) (bw cb (pv 2) af)))
   (aw (jT (va iK nC nB nQ (pv 6) (aa (dk (vV T) hr T.qJ T.p7.kp T.tT (aa (pe mn (pv 4)) (aa (pv 5) ag))) ag))))))))
   (aw (bf (uv K rfl T.list rfl T.reversed (aa (pv 6) ag))))))))))),?_⟩
  refine aR (σ:=[some (.ref x),none,none,none,none,none,none,none]) rfl ?_;obtain ⟨dx,am,ap,al,gx,_,_,_,Gm,_,_⟩:=id S;have d1:=D.n8;obtain ⟨b0,sB⟩:=zq hM sM;have hT:=oT (mv:=mv);have hw:=ug (mv:=mv) D.mw;have hsz:=xG hT hw d1 (uP hM);have hwd:=kQ (n:=mv.length) hT;have fl:mv.flatten.length<=64:=AU d1 λxs hx=>by rw[D.mw xs hx];exact d1
  walk_at "w";refine ⟨x,Z.a_System,dx,_,_,rfl,gx,T.cl_System,T.na_states,ui,?_⟩;walk_at "w";refine ⟨x,Z.a_System,dx,_,_,rfl,gx,T.cl_System,T.na_move,wI,?_⟩;walk_at "w";refine ⟨am,H0,mv,M,rfl,Gm,by lia,by lia,λxs hx=>by rw[D.mw xs hx];lia,hM,λt tp H1 g1 s1 G1=>?_⟩;walk_at "w";refine ⟨by lia,by lia,?_⟩;refine iI (n:=mv.length) (λi ys H'=>az H1 H'/\Paired (RI H') (List.replicate i (List.replicate mv.length 0)) ys) (bu (bF (by lia))) ⟨az.refl _,.nil⟩ ?_ ?_
  ·rintro i ys H' hi hlen ⟨s',pr⟩;walk_at "w";refine ⟨by lia,by lia,?_⟩;refine iI (n:=mv.length) (λi ys H2=>az H' H2/\ys=(List.replicate i (0:Int)).map V.int) (bu (bF (by lia))) ⟨az.refl _,rfl⟩ ?_ ?_
   ·rintro i2 ys2 H2 hi2 hl2 ⟨s2,rfl⟩;walk_at "w";exact ⟨s2,by rw[kD];simp⟩
   rintro ys2 H2 hy2 ⟨s2,rfl⟩ l2 hl2;have sn:az H2 (upd H2 l2 (.lst ((List.replicate mv.length (0:Int)).map V.int))):=az.new hl2;refine ⟨s'.trans (s2.trans sn),?_⟩;rw[kD];exact cM (Paired.imp' (λ_ _ z=>RI.same z (s2.trans sn)) pr) (.cons ⟨l2,rfl,ay⟩ .nil)
  rintro ys H2 hy ⟨s2,pr⟩ cp hcp;have sn:az H2 (upd H2 cp (.lst ys)):=az.new hcp;have gc:(upd H2 cp (.lst ys)) cp=some (.lst ys):=ay;generalize upd H2 cp (.lst ys)=H3 at sn gc ⊢;have s13:=s2.trans sn;have Gc:GI H3 cp (dz (cQ mv) mv.length 0).1:=⟨ys,gc,Paired.imp' (λ_ _ z=>RI.same z sn) pr⟩;walk_at "w";refine fZ λwl H4 s4 n4 g4=>?_
  have Gc4:=Gc.same s4;have ncp:∀q,H3 q≠none->q≠wl:=λq h z=>h (by rw[z];exact n4)
  have Gw:wt wl H4 cp (dz (cQ mv) mv.length 0).1:=Gc.away ncp s4;have g14:=(s13.trans s4) _ _ g1;have G14:=G1.same (s13.trans s4);clear Gc4;walk_at "w";refine ⟨⟨by lia,by lia,by lia,by lia⟩,?_⟩;refine lE (lo:=1) (n:=(((mv.length:Int)+1) - 1).toNat) (λi σ' H'=>az H3 H'/\∃cp us y,σ'=[some (.ref x),some (.int mv.length),some (.ref t),some (.ref cp),some (.int (dz (cQ mv) mv.length i).2),some (.int (dI mv^i)),some (.ref wl),y]/\wt wl H' cp (dz (cQ mv) mv.length i).1/\H' wl=some (.lst us)/\Paired (bK K H') ((List.range i).map λk=>-(wq (cQ mv) mv.length (dI mv:Rat) (k+1))) us) ⟨s4,cp,[],none,by rw[Int.pow_zero];rfl,Gw,g4,.nil⟩ ?_ ?_
  ·rintro i σ' H5 hi ⟨s5,cp5,us,y,rfl,G5,gw5,pr5⟩;have i8:i < mv.length:=by lia
   have g5:=(s13.trans s5) _ _ g1;have GT5:=G1.same (s13.trans s5);obtain ⟨z1,z2,z3⟩:=hsz i;obtain ⟨w1,w2⟩:=hwd i;have lu:=pr5.length;rw[ar,cv] at lu;rw[show ((1:Int)+(i:Int))=((i+1:Nat):Int) by lia];have b78:i*(8800+17)<=8*(8800+17):=aL _ (by lia);walk_at "w";refine ⟨cp5,_,_,rfl,G5.gi,by lia,λl hl=>by rw[w2 l hl];lia,λmp H6 nm6 s6 G6=>?_⟩;obtain ⟨ms,gm6,qm6⟩:=id G6;have lm6:=qm6.length;rw[fe,w1] at lm6;have gw6:=s6 _ _ gw5;have g6:=s6 _ _ g5;walk_at "w";refine ⟨⟨_,bL.of gm6⟩,?_⟩;refine fU (K:=K) (as:=cV (dz (cQ mv) mv.length i).2 0 (dz (cQ mv) mv.length i).1) (F:=RI) (Cw H6) (pE (cQ mv)) gm6 qm6 (by rw[fe];lia) (λh s=>h.same s) (λh s=>h.same s) ?_ ?_
   ·rintro j c v H' NY NN ec s' ⟨u,rfl,gu⟩ k1;have mc:=ao ec;obtain ⟨lc,sc⟩:=z3 c mc;have g':=s' _ _ g6;walk_at "w";exact ⟨tp,u,cQ mv,c,8800,_,rfl,(GT5.same s6).same s',gu,λl hl=>by rw[hw l hl,lc],by lia,by lia,uP hM,sc,by lia,λr H2 nr s2 gr=>k1 _ _ s2 ⟨r,rfl,s'.none nr,gr⟩⟩
   rintro ys7 H7 cp7 n7 s7 g7 pr7 _;have gw7:=s7 _ _ gw6;have s57:=s6.trans s7;have c7:cp7≠wl:=λz=>by rw[<- z,n7] at gw6;cases gw6
   have G7:wt wl H7 cp7 (dz (cQ mv) mv.length (i+1)).1:=⟨c7,ys7,g7,Paired.imp' (λ_ _ ⟨q,e,n,g⟩=>⟨q,e,(λz=>by rw[<- z,n] at gw6;cases gw6),g⟩) pr7⟩;have ly7:=pr7.length;rw[ar,fe,w1] at ly7;obtain ⟨zz1,zz2,_⟩:=hsz (i+1);obtain ⟨ww1,ww2⟩:=hwd (i+1);walk_at "w";refine ⟨⟨_,bL.of g7⟩,?_⟩;refine nW (K:=K) (xs:=ys7) (λj ys H'=>az H7 H'/\ys=List.map V.int (List.take j (((dz (cQ mv) mv.length (i+1)).1.zipIdx 0).map λx=>x.1.getD x.2 0))) (bu (bF (by lia))) ⟨az.refl _,rfl⟩ (λi ys H' _ ⟨s,_⟩=>bL.of (s _ _ g7)) ?_ ?_
   ·rintro j v ys8 H8 r8 hv hl8 ⟨s8,rfl⟩ hr8;have jl:=(aG.mp hv).1;obtain ⟨c,ec,q,rfl,_,gq⟩:=dm pr7 hv;have ec:(dz (cQ mv) mv.length (i+1)).1[j]?=some c:=ec;have lc:=ww2 c (ao ec);have sr:az H8 (upd H8 r8 (.tup [.int j,.ref q])):=az.new hr8;have gr:(upd H8 r8 (.tup [.int j,.ref q])) r8=some (.tup [.int j,.ref q]):=ay;generalize upd H8 r8 (.tup [.int j,.ref q])=H9 at sr gr ⊢;have s79:=s8.trans sr;walk_at "w";refine cR (bL.of (s79 _ _ gq)) (Bc (c:=j) (by lia)) ?_;refine ⟨s79,?_⟩
    have ez:(((dz (cQ mv) mv.length (i+1)).1.zipIdx 0).map λx=>x.1.getD x.2 0)[j]?=some (c.getD j 0):=by
     rw[aB,List.getElem?_zipIdx,ec,Nat.zero_add];rfl
    rw[take_snoc ez];simp
   rintro ys8 H8 hy8 ⟨s8,rfl⟩ l8 hl8;have sn8:az H8 (upd H8 l8 (.lst (List.map V.int (List.take ys7.length (((dz (cQ mv) mv.length (i+1)).1.zipIdx 0).map λx=>x.1.getD x.2 0))))):=az.new hl8;have gn8:(upd H8 l8 (.lst (List.map V.int (List.take ys7.length (((dz (cQ mv) mv.length (i+1)).1.zipIdx 0).map λx=>x.1.getD x.2 0))))) l8=some (.lst (List.map V.int (((dz (cQ mv) mv.length (i+1)).1.zipIdx 0).map λx=>x.1.getD x.2 0))):=by rw[ay,aJ (by rw[ar,List.length_zipIdx];lia)]
   generalize upd H8 l8 (.lst (List.map V.int (List.take ys7.length (((dz (cQ mv) mv.length (i+1)).1.zipIdx 0).map λx=>x.1.getD x.2 0))))=H9 at sn8 gn8 ⊢;have s79:=s8.trans sn8;have s59:=s57.trans s79;walk_at "w";refine ⟨l8,_,rfl,bL.of gn8,?_⟩;rw[<- uN];walk_at "w";refine fu (show kB _ _ from ⟨by lia,?_⟩) ?_
   ·show ((i+1:Nat):Int).natAbs < 2^8999
    rw[bZ];exact aE (show i+1 < 2^4 by lia) (aj (by decide) (by decide))
   have g9:=s59 _ _ g5;have e9:(-(qg 0 (dz (cQ mv) mv.length (i+1)).1)).fdiv ((i+1:Nat):Int)=(dz (cQ mv) mv.length (i+1)).2:=rfl;rw[e9];walk_at "w";refine fu (show jw _ _ from .inr ⟨_,_,uh sB i,sB,by lia⟩) ?_;rw[<- Int.pow_succ,show Nat.succ i=i+1 from rfl];have gw9:=s79 _ _ gw7;have sp9:=uh sB (i+1);have p9:0 < dI mv^(i+1):=Int.pow_pos b0;walk_at "w";refine ⟨.inl ⟨rfl,_,bL.of gw9⟩,?_⟩;walk_at "w";refine ⟨_,_,rfl,by lia,sp9.mono (by lia),λra Ha sa ga=>?_⟩;rw[if_neg (by lia),if_neg (by lia)] at ga;have na:bK K Ha (-(wq (cQ mv) mv.length (dI mv:Rat) (i+1))) (.ref ra):=bK.mk ga (wy b0);have gwa:=sa _ _ gw9;walk_at "w";refine nN gwa (bF (by lia)) ?_;refine ⟨(s5.trans (s59.trans sa)).after n4,cp7,_,_,rfl,(G7.same (s79.trans sa)).updL,ay,?_⟩;rw[yh,qf];exact cM (Paired.imp' (λ_ _ z=>bK.updL (bK.same z (s59.trans sa)) gwa) pr5) (.cons (na.updL gwa) .nil)
  rintro σ' H5 ⟨s5,cp5,us,y,rfl,G5,gw5,pr5⟩;rw[show (((mv.length:Int)+1) - 1).toNat=mv.length by lia] at pr5;have lu:=pr5.length;rw[ar,cv] at lu;walk_at "w";unfold sN;walk_at "w";refine ⟨wl,us,rfl,bL.of gw5,by lia,λL H6 s6 nL gL=>?_⟩;have s06:=(s1.trans s13).trans (s5.trans s6);exact k L H6 ((s1.trans (s13.trans s5)).none nL) s06 ⟨us.reverse,gL,pk (Paired.imp' (λ_ _ z=>bK.same z s6) pr5)⟩
theorem rn:bc ["thing","at","most"] ["thing","at","most"] (au eS):=by walk_at "d"
theorem jU (T:Txt K mg Z):cE P w K mg base iO 1 Z.jk Z.iX ["thing","at","most"] uT:=by
 refine T.gR.ok rn (λvs H Q E h=>?_) (λcdv A outer s H vs Q E hr h=>?_)
 ·obtain ⟨p,xs,a,m,rfl,_⟩:=h;rfl
 ·obtain ⟨p,xs,a,m,rfl,gx,hm,k⟩:=h
  refine ⟨_,(ak (cL (jC (iz (ph rfl T.isinstance PyProof.Rows.boot_list T.list (pv 0)))) (aw xg) bC)
   (aw (cL (aQ pC (bD bI (by rfl) T.len bM (aa (pv 0) ag)) (pv 2) (ba _)) (aw xg) bC))),?_⟩
  refine aR (σ:=[some (.ref p),some (.int a),some (.int m)]) rfl ?_;walk_at "w";refine ⟨_,_,.lst gx,rfl,?_⟩;walk_at "w";refine ⟨_,_,rfl,.inl (bL.of gx),?_⟩;walk_at "w";rw[decide_eq_false (show ¬m < (xs.length:Int) by lia)];walk_at "w";exact k
theorem sY:bc ["thing"] ["thing"] (au fK):=by walk_at "d"
theorem og (T:Txt K mg Z):cE P w K mg base iO 1 Z.kh Z.j4 ["thing"] vJ:=by
 refine T.ku.ok sY (λvs H Q E h=>?_) (λcdv A outer s H vs Q E hr h=>?_)
 ·obtain ⟨i,rfl,_⟩:=h;rfl
 ·obtain ⟨i,rfl,k⟩:=h;refine ⟨_,(aw (bf (rJ (ph rfl T.isinstance PyProof.Rows.boot_int T.int (pv 0)) (rG (AA (ph rfl T.isinstance PyProof.Rows.boot_bool T.bool (pv 0))))))),?_⟩;refine aR (σ:=[some (.int i)]) rfl ?_;walk_at "w";refine ⟨_,_,.int i,rfl,?_⟩;walk_at "w";refine ⟨_,_,.int i,rfl,?_⟩;walk_at "w";exact k
theorem rA:bc ["thing"] ["thing"] (au eU):=by walk_at "d"
theorem rN (T:Txt K mg Z):cE P w K mg base iO 2 Z.jn Z.iZ ["thing"] (vM K):=by
 refine T.kY.ok rA (λvs H Q E h=>?_) (λcdv A outer s H vs Q E hr h=>?_)
 ·obtain ⟨x,n,rfl,_⟩:=h;rfl
 ·obtain ⟨x,n,rfl,⟨p,rfl,hp⟩,hn,k⟩:=h
  refine ⟨_,(ak (cL (PW.pt (lS (jC (iz (oM rfl T.isinstance PyProof.Rows.boot_tuple T.tuple (pv 0)))) (jB (aQ qG (bD bI (by rfl) T.len bM (aa (pv 0) ag)) af (ba _))))) (aw (bf mP)) bC)
   (ak (cL (PW.pt (lS (jC (iz (dk (og T) hr T.kN T.ku.kp T.mD (aa (bw cb (pv 0) af) ag)))) (jB (jC (iz (dk (og T) hr T.kN T.ku.kp T.mD (aa (bw cb (pv 0) af) ag))))))) (aw (bf mP)) bC)
   (aw (bf (rJ (lB qH (bw cb (pv 0) af) af (ba _)) (rG (lB et (dk (fw T) hr T.dN T.dq.kp T.ed (aa (bw cb (pv 0) af) (aa (bw cb (pv 0) af) ag))) af (ba _)))))))),?_⟩
  refine aR (σ:=[some (.ref p)]) rfl ?_;obtain ⟨hb,hg,s1,s2⟩:=hn;walk_at "w";refine .inr ⟨p,_,_,rfl,hp,rfl,?_⟩;walk_at "w";refine ⟨_,_,rfl,.inr hp,?_⟩;walk_at "w"
  try refine zg ?_
  walk_at "w";refine ⟨n.1,rfl,?_⟩;walk_at "w";refine ⟨n.2,rfl,?_⟩;walk_at "w";rw[decide_eq_true (show (1:Int)<=n.2 by lia)];walk_at "w";refine ⟨n.1,n.2,rfl,?_⟩;walk_at "w";have e:g n.1 n.2=1:=by unfold g;rw[hg];rfl
  rw[e,decide_eq_true rfl];exact k _ (az.refl _)
theorem vP:bc ["thing","many"] ["thing","many"] (au jM):=by walk_at "d"
theorem vW (T:Txt K mg Z):cE P w K mg base iO 3 Z.ni Z.m6 ["thing","many"] (nH K):=by
 refine T.p8.ok vP (λvs H Q E h=>?_) (λcdv A outer s H vs Q E hr h=>?_)
 ·obtain ⟨p,ns,rfl,_⟩:=h;rfl
 ·obtain ⟨p,ns,rfl,hp,hl,hn,k⟩:=h
  refine ⟨_,(ak (cL (PW.pt (lS (jC (iz (ph rfl T.isinstance PyProof.Rows.boot_list T.list (pv 0)))) (jB (aQ qG (bD bI (by rfl) T.len bM (aa (pv 0) ag)) (pv 1) (ba _))))) (aw (bf mP)) bC)
   (aw (bf (bD (tS rfl) (by rfl) T.all PyProof.Rows.boot_all (aa (cO ["value"] [] [] (cN (pv 0)) (λ_=>(aM (i:=0) (show List.Nodup (α:=PySem.Str) ["value"] by decide +kernel))) (λ_=>cS) (λ_=>(dk (rN T) hr T.mV T.kY.kp T.oy (aa (pv 0) ag)))) ag))))),?_⟩
  refine aR (σ:=[some (.ref p),some (.int ns.length)]) rfl ?_;obtain ⟨xs,gx,qx⟩:=id hp;have lx:=qx.length;walk_at "w";refine ⟨_,_,.lst gx,rfl,?_⟩;walk_at "w";refine ⟨_,_,rfl,.inl (bL.of gx),?_⟩;walk_at "w";rw[show ((xs.length:Nat):Int)=(ns.length:Nat) by rw[lx],decide_eq_true rfl];walk_at "w";refine ⟨⟨_,bL.of gx⟩,?_⟩;refine ir (K:=K) (xs:=xs) (λi ys H'=>az H H'/\ys=List.replicate i (.bl true)) (bu (bF (by lia))) ⟨az.refl _,rfl⟩ (λi ys H' _ ⟨s,_⟩=>bL.of (s _ _ gx)) ?_ ?_
  ·rintro i x ys H' hx hlen ⟨s,rfl⟩;obtain ⟨n,en,z⟩:=dm qx hx;walk_at "w";exact ⟨x,n,rfl,s.num z,hn n (ao en),λH2 s2=>⟨s.trans s2,by rw[kD]⟩⟩
  ·rintro ys H' hy ⟨s,rfl⟩ l hl';walk_at "w";refine ⟨l,List.replicate xs.length true,rfl,bL.of (by rw[ay];simp),?_⟩;have e4:(List.replicate xs.length true).all id=true:=by simp
   rw[e4];exact k _ (s.trans (az.new hl'))
theorem iw:bc ["things","wide","place","thing"] ["things","wide"] (au dD):=by walk_at "d"
theorem iE (T:Txt K mg Z):cE P w K mg base iO 4 Z.gF Z.gg ["things","wide"] (uX K):=by
 refine T.eD.ok iw (λvs H Q E h=>?_) (λcdv A outer s H vs Q E hr h=>?_)
 ·obtain ⟨p,H0,rows,w,rfl,_⟩:=h;rfl
 ·obtain ⟨p,H0,rows,w,rfl,hp,hl,hw,hn,k⟩:=h
  refine ⟨_,(ak (dW PassesOwn.never rfl (oJ rfl T.enumerate (aa (pv 0) ag)) (uu rfl (cU (aM (i:=2) iw.nd) (cU (aM (i:=3) iw.nd) lA)))
    (aw (cL (jC (iz (dk (vW T) hr T.qK T.p8.kp T.tU (aa (pv 3) (aa (pv 1) ag))))) (aw xg) bC)))
   (aw (bf (cO ["row"] [] [] (cN (pv 0)) (λ_=>(aM (i:=0) (show List.Nodup (α:=PySem.Str) ["row"] by decide +kernel))) (λ_=>cS) (λ_=>(lC (ma K (by rfl)) (by rfl) T.list PyProof.Rows.boot_list (aa (pv 0) ag))))))),?_⟩
  refine aR (σ:=[some (.ref p),some (.int w),none,none]) rfl ?_;obtain ⟨xs,gx,qx,_⟩:=id hp;walk_at "w";refine ⟨⟨_,bL.of gx⟩,?_⟩;refine xF (K:=K) (l:=p) (xs:=xs) (λi σ' H'=>az H H'/\∃x y,σ'=[some (.ref p),some (.int w),x,y]) ⟨az.refl _,none,none,rfl⟩ (λi σ' H' _ ⟨s,_⟩=>bL.of (s _ _ gx)) ?_ ?_
  ·rintro i x σ' H' t hx ⟨s,x1,y1,rfl⟩ ht;obtain ⟨qs,eq,q,rfl,_,Rq⟩:=dm qx hx;have hm:=ao eq;have st:az H' (upd H' t (.tup [.int i,.ref q])):=az.new ht;have gt:(upd H' t (.tup [.int i,.ref q])) t=some (.tup [.int i,.ref q]):=ay;have s2:=s.trans st;generalize upd H' t (.tup [.int i,.ref q])=H2 at st gt s2 ⊢;have lq:(qs.map nm).length=w:=by rw[ar];exact (hn qs hm).1
   walk_at "w";refine ⟨q,_,by rw[lq],(Rq.same s2).rowK,by rw[lq];exact hw,λn hn'=>?_,λH3 s3=>?_⟩
   ·obtain ⟨y,hy,rfl⟩:=aN.mp hn';exact (hn qs hm).2 y hy
   walk_at "w";exact ⟨s2.trans s3,_,_,rfl⟩
  ·rintro σ' H' ⟨s,x1,y1,rfl⟩;walk_at "w";refine ⟨⟨_,bL.of (s _ _ gx)⟩,?_⟩;refine fU (K:=K) (F:=eL K H0) (eL K H) id (s _ _ gx) (Paired.imp' (λ_ _ z=>z.same s) qx) hl (λa b=>a.same b) (λa b=>a.same b) ?_ ?_
   ·rintro i ns x H2 NY NN en s2 ⟨u,rfl,_,zs,gz,qz⟩ k1;walk_at "w";refine ⟨u,zs,rfl,.inl (bL.of gz),λl1 hl1=>?_⟩;exact k1 _ _ (az.new hl1) ⟨l1,rfl,s.none (s2.none hl1),zs,ay,Paired.imp' (λ_ _ z=>z.same (az.new hl1)) qz⟩
   ·rintro ys' H2 r hr s2 g pr nx;rw[List.map_id] at pr nx;exact k r H2 (s.none hr) (s.trans s2) ⟨ys',g,pr,vc nx⟩
theorem mo:bc ["self","move","put","look"] ["self","move","put","look"] (au cm):=by walk_at "d"
theorem mz (T:Txt K mg Z):cE P w K mg base iO 5 Z.dR Z.dP ["self","move","put","look"] (uU K Z.a_System):=by
 refine T.jv.ok mo (λvs H Q E h=>?_) (λcdv A outer s H vs Q E hr h=>?_)
 ·obtain ⟨x,dx,p,q,r,Hb,H0,H1,H2,mv,pt,lk,rfl,_⟩:=h;rfl
 ·obtain ⟨x,dx,p,q,r,Hb,H0,H1,H2,mv,pt,lk,rfl,nx,ndx,nex,rfl,gp,gq,gr,D,om,op,ol,k⟩:=h
  refine ⟨_,(ak (jT (dk (jU T) hr T.hJ T.gR.kp T.je (aa (pv 1) (aa af (aa (rH (v:=.int 8) rfl T.mg_MOST_STATES ⟨_,rfl⟩) ag)))))
   (ak (nO (pv 0) (dk (iE T) hr T.fy T.eD.kp T.gD (aa (pv 1) (aa (bD bI (by rfl) T.len bM (aa (pv 1) ag)) ag))) rfl)
   (ak (nO (pv 0) (bD bI (by rfl) T.len bM (aa (mr (pv 0) rfl) ag)) rfl)
   (ak (jT (dk (jU T) hr T.hJ T.gR.kp T.je (aa (pv 2) (aa af (aa (rH (v:=.int 4) rfl T.mg_MOST_PUTS ⟨_,rfl⟩) ag)))))
   (ak (nO (pv 0) (dk (iE T) hr T.fy T.eD.kp T.gD (aa (pv 2) (aa (mr (pv 0) rfl) ag))) rfl)
   (ak (nO (pv 0) (bD bI (by rfl) T.len bM (aa (mr (pv 0) rfl) ag)) rfl)
   (ak (jT (dk (jU T) hr T.hJ T.gR.kp T.je (aa (pv 3) (aa af (aa (rH (v:=.int 4) rfl T.mg_MOST_LOOKS ⟨_,rfl⟩) ag)))))
   (ak (nO (pv 0) (dk (iE T) hr T.fy T.eD.kp T.gD (aa (pv 3) (aa (mr (pv 0) rfl) ag))) rfl)
   (aw (nO (pv 0) (bD bI (by rfl) T.len bM (aa (mr (pv 0) rfl) ag)) rfl)))))))))),?_⟩
  refine aR (σ:=[some (.ref x),some (.ref p),some (.ref q),some (.ref r)]) rfl ?_
  have s0:az Hb (upd (upd Hb dx (.own x)) x (.ins Z.a_System dx [])):=λb o e=>by
   rw[aH (df e nx),aH (df e ndx)];exact e
  have hx:(upd (upd Hb dx (.own x)) x (.ins Z.a_System dx [])) x=some (.ins Z.a_System dx []):=ay;have back:∀{b},(upd (upd Hb dx (.own x)) x (.ins Z.a_System dx [])) b=none->Hb b=none:=λh=>s0.none h
  generalize upd (upd Hb dx (.own x)) x (.ins Z.a_System dx [])=Ha at s0 hx back ⊢;obtain ⟨xs,gx,qx,_⟩:=id gp;obtain ⟨ys,gy,qy,_⟩:=id gq;obtain ⟨zs,gz,qz,_⟩:=id gr;have lx:=qx.length;have ly:=qy.length;have lz:=qz.length;have d1:=D.n8;have d2:=D.i4;have d3:=D.o4;walk_at "w";refine ⟨p,xs,0,8,rfl,s0 _ _ gx,by lia,?_⟩;walk_at "w";refine ⟨_,_,rfl,.inl (bL.of (s0 _ _ gx)),?_⟩;walk_at "w";refine ⟨p,H0,mv,mv.length,by rw[lx],gp.same s0,by lia,by lia,λws hw=>⟨D.mw ws hw,om ws hw⟩,λa H3 na s3 Ga=>?_⟩;have hx3:=s3 _ _ hx;walk_at "w";refine ⟨x,Z.a_System,dx,_,rfl,hx3,T.cl_System,T.na_move,(by show 0 < 1000;decide),?_⟩;have e3:sF x H3 (upd H3 x (.ins Z.a_System dx (bg "move" (.ref a) []))):=sF.upd;have i3:mf H3 x:=⟨_,_,_,hx3⟩;have hx4:(upd H3 x (.ins Z.a_System dx (bg "move" (.ref a) []))) x=some (.ins Z.a_System dx (bg "move" (.ref a) [])):=ay;have Ga4:=Ga.exc e3 i3;have k4:az Hb (upd H3 x (.ins Z.a_System dx (bg "move" (.ref a) []))):=(s0.trans s3).after nx;generalize upd H3 x (.ins Z.a_System dx (bg "move" (.ref a) []))=H4 at e3 hx4 Ga4 k4 ⊢;walk_at "w";refine ⟨x,Z.a_System,dx,_,_,rfl,hx4,T.cl_System,T.na_move,(by rw[br,if_pos rfl]),?_⟩;obtain ⟨as,ga,qa,_⟩:=id Ga4;have la:=qa.length;walk_at "w";refine ⟨_,_,rfl,.inl (bL.of ga),?_⟩;walk_at "w";refine ⟨x,Z.a_System,dx,_,rfl,hx4,T.cl_System,T.na_states,aK cz (by show 1 < 1000;decide),?_⟩;rw[show ((as.length:Nat):Int)=((mv.length:Nat):Int) by rw[la]];have e4:sF x H4 (upd H4 x (.ins Z.a_System dx (bg "states" (.int mv.length) (bg "move" (.ref a) [])))):=sF.upd;have i4:mf H4 x:=⟨_,_,_,hx4⟩;have hx5:(upd H4 x (.ins Z.a_System dx (bg "states" (.int mv.length) (bg "move" (.ref a) [])))) x=some (.ins Z.a_System dx (bg "states" (.int mv.length) (bg "move" (.ref a) []))):=ay;have Ga5:=Ga4.exc e4 i4;have k5:az Hb (upd H4 x (.ins Z.a_System dx (bg "states" (.int mv.length) (bg "move" (.ref a) [])))):=k4.after nx;generalize upd H4 x (.ins Z.a_System dx (bg "states" (.int mv.length) (bg "move" (.ref a) [])))=H5 at e4 hx5 Ga5 k5 ⊢;clear e3 e4 i3 i4 hx4 Ga4 ga qa;walk_at "w";refine ⟨q,ys,1,4,rfl,k5 _ _ gy,by lia,?_⟩;walk_at "w";refine ⟨x,Z.a_System,dx,_,_,rfl,hx5,T.cl_System,T.na_states,(by rw[br,if_pos rfl]),?_⟩;walk_at "w";refine ⟨q,H1,pt,mv.length,rfl,gq.same k5,by lia,by lia,λws hw=>⟨D.pw ws hw,op ws hw⟩,λb H6 nb s6 Gb=>?_⟩;have hx6:=s6 _ _ hx5;have i6:mf H6 x:=⟨_,_,_,hx6⟩;walk_at "w";refine ⟨x,Z.a_System,dx,_,rfl,hx6,T.cl_System,T.na_put,aK cz (aK (bN cz) (by show 2 < 1000;decide)),?_⟩;have e6:sF x H6 (upd H6 x (.ins Z.a_System dx (bg "put" (.ref b) (bg "states" (.int mv.length) (bg "move" (.ref a) []))))):=sF.upd;have hx7:(upd H6 x (.ins Z.a_System dx (bg "put" (.ref b) (bg "states" (.int mv.length) (bg "move" (.ref a) []))))) x=some (.ins Z.a_System dx (bg "put" (.ref b) (bg "states" (.int mv.length) (bg "move" (.ref a) [])))):=ay;have Ga7:=(Ga5.same s6).exc e6 i6;have Gb7:=(Gb.weak k5).exc e6 i6;have k7:az Hb (upd H6 x (.ins Z.a_System dx (bg "put" (.ref b) (bg "states" (.int mv.length) (bg "move" (.ref a) []))))):=(k5.trans s6).after nx;generalize upd H6 x (.ins Z.a_System dx (bg "put" (.ref b) (bg "states" (.int mv.length) (bg "move" (.ref a) []))))=H7 at e6 hx7 Ga7 Gb7 k7 ⊢;obtain ⟨bs,gb,qb,_⟩:=id Gb7;have lb:=qb.length;walk_at "w";refine ⟨x,Z.a_System,dx,_,_,rfl,hx7,T.cl_System,T.na_put,(by rw[br,if_pos rfl]),?_⟩;walk_at "w";refine ⟨_,_,rfl,.inl (bL.of gb),?_⟩;walk_at "w";refine ⟨x,Z.a_System,dx,_,rfl,hx7,T.cl_System,T.na_ins,aK cz (aK (bN (ah cz (bN cz))) (by show 3 < 1000;decide)),?_⟩;rw[show ((bs.length:Nat):Int)=((pt.length:Nat):Int) by rw[lb]];have i7:mf H7 x:=⟨_,_,_,hx7⟩;have e7:sF x H7 (upd H7 x (.ins Z.a_System dx (bg "ins" (.int pt.length) (bg "put" (.ref b) (bg "states" (.int mv.length) (bg "move" (.ref a) [])))))):=sF.upd;have hx8:(upd H7 x (.ins Z.a_System dx (bg "ins" (.int pt.length) (bg "put" (.ref b) (bg "states" (.int mv.length) (bg "move" (.ref a) [])))))) x=some (.ins Z.a_System dx (bg "ins" (.int pt.length) (bg "put" (.ref b) (bg "states" (.int mv.length) (bg "move" (.ref a) []))))):=ay;have Ga8:=Ga7.exc e7 i7;have Gb8:=Gb7.exc e7 i7;have k8:az Hb (upd H7 x (.ins Z.a_System dx (bg "ins" (.int pt.length) (bg "put" (.ref b) (bg "states" (.int mv.length) (bg "move" (.ref a) [])))))):=k7.after nx;generalize upd H7 x (.ins Z.a_System dx (bg "ins" (.int pt.length) (bg "put" (.ref b) (bg "states" (.int mv.length) (bg "move" (.ref a) [])))))=H8 at e7 hx8 Ga8 Gb8 k8 ⊢;clear e6 e7 i6 i7 hx7 Ga7 Gb7 gb qb;walk_at "w";refine ⟨r,zs,2,4,rfl,k8 _ _ gz,by lia,?_⟩;walk_at "w";refine ⟨x,Z.a_System,dx,_,_,rfl,hx8,T.cl_System,T.na_states,(by rw[br,if_neg (by decide +kernel),br,if_neg (by decide +kernel),br,if_pos rfl]),?_⟩;walk_at "w";refine ⟨r,H2,lk,mv.length,rfl,gr.same k8,by lia,by lia,λws hw=>⟨D.lw ws hw,ol ws hw⟩,λc H9 nc s9 Gc=>?_⟩;have hx9:=s9 _ _ hx8;have i9:mf H9 x:=⟨_,_,_,hx9⟩;walk_at "w";refine ⟨x,Z.a_System,dx,_,rfl,hx9,T.cl_System,T.na_look,aK cz (aK (bN (ah cz (bN (ah cz (bN cz))))) (by show 4 < 1000;decide)),?_⟩;have e9:sF x H9 (upd H9 x (.ins Z.a_System dx (bg "look" (.ref c) (bg "ins" (.int pt.length) (bg "put" (.ref b) (bg "states" (.int mv.length) (bg "move" (.ref a) []))))))):=sF.upd;have hxA:(upd H9 x (.ins Z.a_System dx (bg "look" (.ref c) (bg "ins" (.int pt.length) (bg "put" (.ref b) (bg "states" (.int mv.length) (bg "move" (.ref a) []))))))) x=some (.ins Z.a_System dx (bg "look" (.ref c) (bg "ins" (.int pt.length) (bg "put" (.ref b) (bg "states" (.int mv.length) (bg "move" (.ref a) [])))))):=ay;have GaA:=(Ga8.same s9).exc e9 i9;have GbA:=(Gb8.same s9).exc e9 i9;have GcA:=(Gc.weak k8).exc e9 i9;have kA:az Hb (upd H9 x (.ins Z.a_System dx (bg "look" (.ref c) (bg "ins" (.int pt.length) (bg "put" (.ref b) (bg "states" (.int mv.length) (bg "move" (.ref a) []))))))):=(k8.trans s9).after nx;generalize upd H9 x (.ins Z.a_System dx (bg "look" (.ref c) (bg "ins" (.int pt.length) (bg "put" (.ref b) (bg "states" (.int mv.length) (bg "move" (.ref a) []))))))=HA at e9 hxA GaA GbA GcA kA ⊢;obtain ⟨cs,gc,qc,_⟩:=id GcA;have lc:=qc.length;walk_at "w";refine ⟨x,Z.a_System,dx,_,_,rfl,hxA,T.cl_System,T.na_look,(by rw[br,if_pos rfl]),?_⟩;walk_at "w";refine ⟨_,_,rfl,.inl (bL.of gc),?_⟩;walk_at "w";refine ⟨x,Z.a_System,dx,_,rfl,hxA,T.cl_System,T.na_outs,aK cz (aK (bN (ah cz (bN (ah cz (bN (ah cz (bN cz))))))) (by show 5 < 1000;decide)),?_⟩;rw[show ((cs.length:Nat):Int)=((lk.length:Nat):Int) by rw[lc]];have iA:mf HA x:=⟨_,_,_,hxA⟩;exact k _ (kA.after nx) ⟨dx,a,b,c,ay,back na,k5.none nb,k8.none nc,(GaA.exc sF.upd iA).weak s0,GbA.exc sF.upd iA,GcA.exc sF.upd iA⟩
theorem o8:bc ["_law_grid"] ["_law_grid"] (au dG):=by walk_at "d"
theorem iF (T:Txt K mg Z):cE P w K mg base iO 1 Z.gI Z.gA ["_law_grid"] (o6 K):=by
 refine T.eE.ok o8 (λvs H Q E h=>?_) (λcdv A outer s H vs Q E hr h=>?_)
 ·obtain ⟨p,H0,rows,rfl,_⟩:=h;rfl
 ·obtain ⟨p,H0,rows,rfl,hp,hl,hm,k⟩:=h;refine ⟨_,(aw (bf (cO ["_law_row_here"] [] [] (cN (pv 0)) (λ_=>(aM (i:=0) (show List.Nodup (α:=PySem.Str) ["_law_row_here"] by decide +kernel))) (λ_=>cS) (λ_=>(lC (ma K (by rfl)) (by rfl) T.list PyProof.Rows.boot_list (aa (pv 0) ag)))))),?_⟩;refine aR (σ:=[some (.ref p)]) rfl ?_;obtain ⟨xs,gx,qx,_⟩:=id hp;walk_at "w";refine ⟨⟨_,bL.of gx⟩,?_⟩;refine fU (K:=K) (F:=eL K H0) (eL K H) id gx qx hl (λa b=>a.same b) (λa b=>a.same b) ?_ ?_
  ·rintro i ns x H' NY NN en s ⟨u,rfl,_,zs,gz,qz⟩ k1;walk_at "w";refine ⟨u,zs,rfl,.inl (bL.of gz),λl1 hl1=>?_⟩;exact k1 _ _ (az.new hl1) ⟨l1,rfl,s.none hl1,zs,ay,Paired.imp' (λ_ _ z=>z.same (az.new hl1)) qz⟩
  ·rintro ys' H' r hr s g pr nx;rw[List.map_id] at pr nx;exact k r H' hr s ⟨ys',g,pr,vc nx⟩
theorem rE:bc ["_law_parts_here"] ["_law_parts_here"] (au e8):=by walk_at "d"
theorem rP (T:Txt K mg Z):cE P w K mg base iO 7 Z.jt Z.jd ["_law_parts_here"] (oX K Z.a_System):=by
 refine T.lg.ok rE (λvs H Q E h=>?_) (λcdv A outer s H vs Q E hr h=>?_)
 ·obtain ⟨r,H0,mv,pt,lk,rfl,_⟩:=h;rfl
 ·obtain ⟨r,H0,mv,pt,lk,rfl,PQ,D,F,k⟩:=h;refine ⟨_,(aw (bf (y9 T.mk_System (mz T) (hr.mono (by decide)) rfl T.mg_System T.jg .nil zL (aa (dk (iF T) hr T.fA T.eE.kp T.gE (aa (bw cb (pv 0) af) ag)) (aa (dk (iF T) hr T.fA T.eE.kp T.gE (aa (bw cb (pv 0) af) ag)) (aa (dk (iF T) hr T.fA T.eE.kp T.gE (aa (bw cb (pv 0) af) ag)) ag)))))),?_⟩;refine aR (σ:=[some (.ref r)]) rfl ?_;obtain ⟨m,p,l,g,n1,n2,n3,Gm,Gp,Gl⟩:=id PQ;have d1:=D.n8;have d2:=D.i4;have d3:=D.o4;walk_at "w";refine ⟨m,H0,mv,rfl,Gm,by lia,λxs hx=>by rw[D.mw xs hx];lia,λa H1 na s1 Ga=>?_⟩;have g1:=s1 _ _ g;walk_at "w";refine ⟨p,H0,pt,rfl,Gp.same s1,by lia,λxs hx=>by rw[D.pw xs hx];lia,λb H2 nb s2 Gb=>?_⟩;have s12:=s1.trans s2;have g2:=s12 _ _ g;walk_at "w";refine ⟨l,H0,lk,rfl,Gl.same s12,by lia,λxs hx=>by rw[D.lw xs hx];lia,λc H3 nc s3 Gc=>?_⟩;have s13:=s12.trans s3;walk_at "w";intro x dx nx ndx nex;exact ⟨x,dx,a,b,c,H3,H,H1,H2,mv,pt,lk,rfl,nx,ndx,nex,rfl,(Ga.same s2).same s3,Gb.same s3,Gc,D,F.ok.1,F.ok.2.1,F.ok.2.2,λH' s' S'=>⟨rfl,k x H' (s13.none nx) (s13.trans s') (S'.weak s13)⟩⟩
theorem iQ:bc ["_law_thing","_law_part"] ["_law_thing"] (au cJ):=by walk_at "d"
theorem mR (T:Txt K mg Z):cE P w K mg base iO 2 Z.ef Z.d7 ["_law_thing"] (vN K):=by
 refine T.fY.ok iQ (λvs H Q E h=>?_) (λcdv A outer s H vs Q E hr h=>?_)
 ·obtain ⟨x,n,rfl,_⟩:=h;rfl
 ·obtain ⟨x,n,rfl,⟨p,rfl,hp⟩,hn,k⟩:=h
  refine ⟨_,(ak (cL (PW.pt (lS (jC (iz (oM rfl T.isinstance PyProof.Rows.boot_tuple T.tuple (pv 0)))) (jB (aQ qG (bD bI (by rfl) T.len bM (aa (pv 0) ag)) af (ba _))))) (aw (bf mP)) bC)
   (ak (dW PassesOwn.never rfl (Ay (pv 0)) (aM (i:=1) iQ.nd)
    (aw (cL (PW.pt (lS (jC (iz (oM rfl T.isinstance PyProof.Rows.boot_int T.int (pv 1)))) (jB (iz (oM rfl T.isinstance PyProof.Rows.boot_bool T.bool (pv 1)))))) (aw (bf mP)) bC)))
   (aw (bf (rJ (lB pC (bw cb (pv 0) af) af (ba _)) (rG (lB (AE (BR hr)) (dk (gO T) hr T.fc T.eP.kp T.fW (aa (bw cb (pv 0) af) (aa (bw cb (pv 0) af) ag))) (pv 0) (ba _)))))))),?_⟩
  refine aR (σ:=[some (.ref p),none]) rfl ?_;obtain ⟨hb,hg,_,hs⟩:=hn;walk_at "w";refine .inr ⟨p,_,_,rfl,hp,rfl,?_⟩;walk_at "w";refine ⟨_,_,rfl,.inr hp,?_⟩;walk_at "w"
  try refine zg ?_
  walk_at "w";refine ⟨⟨_,hp⟩,?_⟩;refine zh (K:=K) (a:=p) (xs:=[.int n.1,.int n.2]) (λi σ' H'=>H'=H/\∃x,σ'=[some (.ref p),x]) ⟨rfl,none,rfl⟩ (λi σ' H' _ ⟨e,_⟩=>by subst e;exact hp) ?_ ?_
  ·rintro i x σ' H' hx ⟨rfl,y,rfl⟩
   obtain ⟨z,rfl⟩:∃z,x=V.int z:=by
    have hm:x∈[V.int n.1,V.int n.2]:=ao hx;simp only[aA,be,or_false] at hm;rcases hm with e | e
    ·exact ⟨_,e⟩
    ·exact ⟨_,e⟩
   walk_at "w";refine .inl ⟨_,_,.int z,rfl,?_⟩;walk_at "w";refine .inl ⟨_,_,.int z,rfl,?_⟩;walk_at "w";exact ⟨rfl,_,rfl⟩
  ·rintro σ' H' ⟨rfl,x,rfl⟩;walk_at "w";rw[decide_eq_true hb];walk_at "w";refine ⟨n.1,n.2,rfl,hb,hs.mono (by decide),λr H' s1 h'=>?_⟩;obtain ⟨e1,e2⟩:=AK hb hg;walk_at "w";refine ⟨_,_,BN,(lo n.1 n.2,hi n.1 n.2),n,by decide,⟨r,rfl,lO.of h'⟩,⟨p,rfl,s1.sqt hp⟩,?_⟩;rw[e1,e2,decide_eq_true rfl];exact k _ s1
theorem o7:bc ["_law_thing","_law_many"] ["_law_thing","_law_many"] (au dF):=by walk_at "d"
theorem pG (T:Txt K mg Z):cE P w K mg base iO 3 Z.gH Z.gv ["_law_thing","_law_many"] (nH K):=by
 refine T.jJ.ok o7 (λvs H Q E h=>?_) (λcdv A outer s H vs Q E hr h=>?_)
 ·obtain ⟨p,ns,rfl,_⟩:=h;rfl
 ·obtain ⟨p,ns,rfl,hp,hl,hn,k⟩:=h
  refine ⟨_,(ak (cL (PW.pt (lS (jC (iz (ph rfl T.isinstance PyProof.Rows.boot_list T.list (pv 0)))) (jB (aQ qG (bD bI (by rfl) T.len bM (aa (pv 0) ag)) (pv 1) (ba _))))) (aw (bf mP)) bC)
   (aw (bf (bD (tS rfl) (by rfl) T.all PyProof.Rows.boot_all (aa (cO ["_law_one"] [] [] (cN (pv 0)) (λ_=>(aM (i:=0) (show List.Nodup (α:=PySem.Str) ["_law_one"] by decide +kernel))) (λ_=>cS) (λ_=>(dk (mR T) hr T.iU T.fY.kp T.jP (aa (pv 0) ag)))) ag))))),?_⟩
  refine aR (σ:=[some (.ref p),some (.int ns.length)]) rfl ?_;obtain ⟨xs,gx,qx⟩:=id hp;have lx:=qx.length;walk_at "w";refine ⟨_,_,.lst gx,rfl,?_⟩;walk_at "w";refine ⟨_,_,rfl,.inl (bL.of gx),?_⟩;walk_at "w";rw[show ((xs.length:Nat):Int)=(ns.length:Nat) by rw[lx],decide_eq_true rfl];walk_at "w";refine ⟨⟨_,bL.of gx⟩,?_⟩;refine ir (K:=K) (xs:=xs) (λi ys H'=>az H H'/\ys=List.replicate i (.bl true)) (bu (bF (by lia))) ⟨az.refl _,rfl⟩ (λi ys H' _ ⟨s,_⟩=>bL.of (s _ _ gx)) ?_ ?_
  ·rintro i x ys H' hx hlen ⟨s,rfl⟩;obtain ⟨n,en,z⟩:=dm qx hx;walk_at "w";exact ⟨x,n,rfl,s.num z,hn n (ao en),λH2 s2=>⟨s.trans s2,by rw[kD]⟩⟩
  ·rintro ys H' hy ⟨s,rfl⟩ l hl';walk_at "w";refine ⟨l,List.replicate xs.length true,rfl,bL.of (by rw[ay];simp),?_⟩;have e4:(List.replicate xs.length true).all id=true:=by simp
   rw[e4];exact k _ (s.trans (az.new hl'))
theorem iR:bc ["_law_one","_law_other","_law_total","_law_k"] ["_law_one","_law_other"] (au fO):=by walk_at "d"
theorem tF (T:Txt K mg Z):cE P w K mg base iO 3 Z.kn Z.j8 ["_law_one","_law_other"] (uW K):=by
 refine T.mH.ok iR (λvs H Q E h=>?_) (λcdv A outer s H vs Q E hr h=>?_)
 ·obtain ⟨p,q,xs,ys,rfl,_⟩:=h;rfl
 ·obtain ⟨p,q,xs,ys,rfl,hp,hq,hl,hz,⟨k1,j1,k2,j2,h1,h2,hkj⟩,kk⟩:=h
  refine ⟨_,(ak (aV (i:=2) iR.nd rfl (Or.inl rfl) (dH (aa af (aa af ag))))
   (ak (dW PassesOwn.never rfl (cu rfl T.range (aa (bD bI (by rfl) T.len bM (aa (pv 0) ag)) ag)) (aM (i:=3) iR.nd)
    (aw (aV (i:=2) iR.nd rfl (Or.inl rfl) (dk (iS T) hr T.gP T.fX.kp T.iJ (aa (pv 2) (aa (dk (hE T) hr T.fz T.fj.kp T.gQ (aa (bw bH (pv 0) (pv 3)) (aa (bw bH (pv 1) (pv 3)) ag))) ag))))))
   (aw (bf (pv 2))))),?_⟩
  refine aR (σ:=[some (.ref p),some (.ref q),none,none]) rfl ?_;obtain ⟨us,gu,qu⟩:=id hp;obtain ⟨ws,gw,qw⟩:=id hq;have lu:=qu.length;have lw:=qw.length;walk_at "w";refine bY λr0 H0 s0 g0=>?_
  walk_at "w";refine ⟨_,_,rfl,.inl (bL.of (s0 _ _ gu)),?_⟩;walk_at "w";refine ⟨by lia,by lia,?_⟩;refine fS (n:=us.length) (λi σ' H'=>az H H'/\∃(r:V) (v:Option V),σ'=[some (.ref p),some (.ref q),some r,v]/\bK K H' (kG (xs.take i) (ys.take i)) r) ⟨s0,_,none,rfl,bK.mk g0 rfl⟩ ?_ ?_
  ·rintro i σ' H' hi ⟨s,r,v,rfl,hr⟩;have ix:i < xs.length:=by lia
   have iy:i < ys.length:=by lia
   obtain ⟨vx,ex,nx⟩:=zf (Paired.imp' (λ_ _ z=>z.same s) qu) ix;obtain ⟨vy,ey,ny⟩:=zf (Paired.imp' (λ_ _ z=>z.same s) qw) iy;walk_at "w";refine cR (bL.of (s _ _ gu)) ex ?_;walk_at "w";refine cR (bL.of (s _ _ gw)) ey ?_;walk_at "w";refine ⟨_,_,_,_,rfl,nx,ny,h1.szn (getD_mem ix) (by lia),h2.szn (getD_mem iy) (by lia),λr3 H3 s3 n3=>?_⟩;walk_at "w";refine ⟨_,_,_,_,rfl,hr.same s3,n3,xJ h1 h2 hz i hkj,xo (h1.one (getD_mem ix)) (h2.one (getD_mem iy)) hkj,λr4 H4 s4 n4=>?_⟩;walk_at "w";exact ⟨(s.trans s3).trans s4,_,_,rfl,by rw[qO ix iy];exact n4⟩
  ·rintro σ' H' ⟨s,r,v,rfl,hr⟩;rw[aJ (by lia),aJ (by lia)] at hr;obtain ⟨t,rfl,ht⟩:=hr;walk_at "w";exact kk _ H' s ⟨t,rfl,ht⟩
theorem uk:bc ["_law_grid","_law_row_here"] ["_law_grid","_law_row_here"] (au ip):=by walk_at "d"
theorem uw (T:Txt K mg Z):cE P w K mg base iO 4 Z.lJ Z.lF ["_law_grid","_law_row_here"] (uV K):=by
 refine T.oa.ok uk (λvs H Q E h=>?_) (λcdv A outer s H vs Q E hr h=>?_)
 ·obtain ⟨p,q,H0,rows,ys,rfl,_⟩:=h;rfl
 ·obtain ⟨p,q,H0,rows,ys,rfl,hp,hq,hz,hl,hr1,kk⟩:=h;refine ⟨_,(aw (bf (cO ["_law_one"] ["_law_row_here"] [1] (cN (pv 0)) (λ_=>(aM (i:=0) (show List.Nodup (α:=PySem.Str) ["_law_one","_law_row_here"] by decide +kernel))) (λ_=>cS) (λ_=>(dk (tF T) hr T.oj T.mH.kp T.pY (aa (pv 0) (aa (pv 1) ag))))))),?_⟩;refine aR (σ:=[some (.ref p),some (.ref q)]) rfl ?_;obtain ⟨xs,gx,qx,_⟩:=id hp;walk_at "w";refine ⟨⟨_,bL.of gx⟩,?_⟩;refine fU (K:=K) (F:=eL K H0) (bK K) (λxs=>kG xs ys) gx qx hz (λa b=>a.same b) (λa b=>a.same b) ?_ ?_
  ·rintro i ns x H' NY NN en s ⟨u,rfl,_,hu⟩ k;obtain ⟨e1,e2⟩:=hr1 ns (ao en);walk_at "w";exact ⟨u,q,ns,ys,rfl,hu,hq.same s,e1.symm,by lia,e2,λr H2 s2 h2'=>k _ _ s2 h2'⟩
  ·rintro ys' H' r hr s g pr nx;exact kk r H' hr s ⟨ys',g,pr⟩
theorem cH:bc ["_law_parts_here","_law_wish","_law_start","_law_n","_law_states","_law_k","_law_total","_law_i"] ["_law_parts_here","_law_wish","_law_start"] (au d4):=by walk_at "d"
theorem lU (T:Txt K mg Z):cE P w K mg base iO 5 Z.ie Z.h8 ["_law_parts_here","_law_wish","_law_start"] (o5 K):=by
 refine T.ij.ok cH (λvs H Q E h=>?_) (λcdv A outer s H vs Q E hr h=>?_)
 ·obtain ⟨r,w,s,H0,mv,pt,lk,ws,st,rfl,_⟩:=h;rfl
 ·obtain ⟨r,w,s,H0,mv,pt,lk,ws,st,rfl,P0,D,Rw,Rs,lw,ls,KS,eq,k⟩:=h
  refine ⟨_,(ak (aV (i:=3) cH.nd rfl (Or.inl rfl) (bD bI (by rfl) T.len bM (aa (bw cb (pv 0) af) ag)))
   (ak (aV (i:=4) cH.nd rfl (Or.inl rfl) (iB (aa (pv 2) ag)))
   (ak (dW PassesOwn.never rfl (cu rfl T.range (aa (bp dn (bp di af (pv 3)) af) ag)) (aM (i:=5) cH.nd)
    (aw (jT (va iK nC nB nQ (pv 4) (aa (dk (uw T) hr T.pL T.oa.kp T.qX (aa (bw cb (pv 0) af) (aa (bw bH (pv 4) (pe mn af)) ag))) ag)))))
   (ak (dW PassesOwn.never rfl (cu rfl T.range (aa (bp dn (pv 3) af) ag)) (aM (i:=5) cH.nd)
    (ak (aV (i:=6) cH.nd rfl (Or.inl rfl) (bp AB (iB (aa (dH (aa af (aa af ag))) ag)) (pv 3)))
   (ak (dW PassesOwn.never rfl (cu rfl T.range (aa (pv 3) ag)) (aM (i:=7) cH.nd)
    (aw (aV (i:=6) cH.nd rfl (Or.inl rfl) (dk (mQ T) hr T.jV T.ju.kp T.kS (aa (pv 6) (aa (dk (pH T) hr T.mB T.lM.kp T.nY (aa (bw bH (pv 1) (pv 7)) (aa (bw bH (pv 4) (bp dn (pv 5) (pv 7))) ag))) ag))))))
   (aw (cL (aQ (AD (BR hr)) (pv 6) (bw bH (pv 4) (bp dn (pv 5) (pv 3))) (ba _)) (aw (bf mP)) bC)))))
   (aw (bf mP)))))),?_⟩
  refine aR (σ:=[some (.ref r),some (.ref w),some (.ref s),none,none,none,none,none]) rfl ?_;obtain ⟨M,W,Dd,Bb,M0,D0,W1,B1,tM,tD,b1,b2,fit⟩:=KS;obtain ⟨m,p0,l0,gr,n1,n2,n3,Gm,_,_⟩:=id P0;obtain ⟨gs,gm,qm,_⟩:=id Gm;have lm:=qm.length;have d8:=D.n8;have sl8:=jS ls;have WB:W<=W*Bb:=dc _ B1;have BW:Bb<=W*Bb:=jy _ W1;have MD:M<=M*Dd:=dc _ D0;have DM:Dd<=M*Dd:=jy _ M0;have p39:(2:Nat)^3990<=2^3995:=aj (by decide) (by decide);have szr:∀t,t<=2*mv.length+2->∀x∈kL mv st t,p3 x:=λt ht x hx=>oU (tM t ht x hx) M0 (by lia) (by lia)
  have szw:∀x∈ws,p3 x:=λx hx=>oU (tD x hx) D0 (by lia) (by lia)
  have szp:∀w∈ws,∀t,t<=2*mv.length+2->∀x∈kL mv st t,p3 (w*x):=λw hw t ht x hx=>by
   rw[vC];exact oU ((tM t ht x hx).mul (tD w hw)) (iL M0 D0) (by lia) (by lia)
  have szt:∀u,u<=mv.length+2->∀j,j<=mv.length->∀x∈uL ((List.range mv.length).map λi=>kL mv st (u+i)) ws mv.length j,p3 x:=λu hu j hj x hx=>by
   obtain ⟨c,_,rfl⟩:=aN.mp hx
   have t:=Tp.sum (k:=j) (M:=M*Dd) (W:=W*Bb) (f:=λi=>ws.getD i 0*tZ ((List.range mv.length).map λi=>kL mv st (u+i)) i c) λi _=>by
    rw[vC];refine (Be (λxs hx=>?_) i c).mul (uO tD i);obtain ⟨i2,hi2,rfl⟩:=aN.mp hx;exact tM _ (by have:=rd.mp hi2;lia)
   have:j*(W*Bb)<=128*(W*Bb):=aL _ (by lia);exact oU t (iL M0 D0) (by lia) (by lia)
  walk_at "w";refine ⟨_,_,rfl,.inl (bL.of gm),?_⟩;rw[<- lm];walk_at "w";refine fZ λsl H1 s1 nsl g1=>?_
  have ssl:s≠sl:=λz=>by obtain ⟨_,g,_⟩:=Rs;rw[z,nsl] at g;cases g
  walk_at "w"
  try refine fu (sx (by decide) (by decide)) ?_
  walk_at "w";refine ⟨by lia,by lia,?_⟩;refine lE (lo:=0) (n:=(2*(mv.length:Int)+2).toNat) (λi σ' H'=>az H H'/\∃us y,σ'=[some (.ref r),some (.ref w),some (.ref s),some (.int mv.length),some (.ref sl),y,none,none]/\H' sl=some (.lst us)/\Paired (eL K (xm sl) H') ((List.range (i+1)).map (kL mv st)) us) ⟨s1,[.ref s],none,rfl,g1,.cons ⟨s,rfl,xl ssl,Rs.same s1⟩ .nil⟩ ?_ ?_
  ·rintro i σ' H2 hi ⟨s2,us,y,rfl,g2,pr2⟩;have lu:=pr2.length;rw[ar,cv] at lu;have gr2:=s2 _ _ gr
   obtain ⟨zs,q,rfl,qsl,Rq⟩:∃zs q,us=zs++[V.ref q]/\q≠sl/\dB K H2 q (kL mv st i):=by
    have ev:=ai (show i < us.length by lia);obtain ⟨R2,e2,q,e3,e4,e5⟩:=dm pr2 ev;rw[aB,dh (by lia)] at e2;cases e2;rw[e3] at ev;refine ⟨us.take i,q,?_,(λz=>off_ne (l:=sl) (by have e4':=e4;rw[z] at e4';exact e4')),e5⟩;rw[<- take_snoc ev,aJ (by lia)]
   walk_at "w";refine ⟨.inl ⟨rfl,_,bL.of g2⟩,?_⟩;walk_at "w";refine cR (bL.of g2) (xV _ _) ?_;walk_at "w";refine ⟨m,q,H0,mv,kL mv st i,rfl,Gm.same s2,Rq,by lia,by rw[sl8];lia,λxs hx=>⟨by rw[D.mw xs hx,sl8],fit i (by lia) xs hx⟩,λr3 H3 n3 s3 R3=>?_⟩;have g3:=s3 _ _ g2;have r3l:r3≠sl:=λz=>by rw[z,g2] at n3;cases n3
   walk_at "w";refine nN g3 (bF (by lia)) ?_;refine ⟨(s2.trans s3).after nsl,_,_,rfl,ay,?_⟩;rw[yh,qf];exact cM (Paired.imp' (λ_ _ z=>eL.updL (eL.same z s3) g3 off_ne) pr2) (.cons (eL.updL ⟨r3,rfl,xl r3l,R3⟩ g3 off_ne) .nil)
  rintro σ' H2 ⟨s2,us,y,rfl,g2,pr2⟩;rw[show (2*(mv.length:Int)+2).toNat=2*mv.length+2 by lia] at pr2;have lu:=pr2.length;rw[ar,cv] at lu
  have at_:∀j,j<=2*mv.length+2->∃q,t5 us (j:Int)=some (.ref q)/\dB K H2 q (kL mv st j):=λj hj=>by
   have ev:=ai (show j < us.length by lia);obtain ⟨R2,e2,q,e3,e4,e5⟩:=dm pr2 ev;rw[aB,dh (by lia)] at e2;cases e2;rw[e3] at ev;exact ⟨q,ke ev,e5⟩
  obtain ⟨wv,gwv,qwv⟩:=Rw.same s2;have lwv:=qwv.length;walk_at "w";refine ⟨by lia,by lia,?_⟩;refine lE (lo:=0) (n:=((mv.length:Int)+2).toNat) (λi σ' H'=>az H2 H'/\∃y1 y2 y3,σ'=[some (.ref r),some (.ref w),some (.ref s),some (.int mv.length),some (.ref sl),y1,y2,y3]) ⟨az.refl _,_,_,_,rfl⟩ ?_ ?_
  ·rintro u σ' H3 hu ⟨s3,y1,y2,y3,rfl⟩;have u8:u<=mv.length+1:=by lia
   rw[oR];walk_at "w";refine bY λt4 H4 s4 g4=>?_
   walk_at "w";refine fZ λl5 H5 s5 n5 g5=>?_
   walk_at "w";refine Af g5 (by lia) λtot H6 s6 n6 g6=>?_
   have s46:=s5.trans s6;have s26:=s3.trans (s4.trans s46)
   have Rt:dB K H6 tot (uL ((List.range mv.length).map λi=>kL mv st (u+i)) ws mv.length 0):=by
    rw[ym];exact ⟨_,g6,pz (bK.mk (q:=0) (s46 _ _ g4) rfl) mv.length⟩
   walk_at "w";refine ⟨by lia,by lia,?_⟩;refine fS (n:=mv.length) (λi σ' H'=>az H2 H'/\∃tot y3,σ'=[some (.ref r),some (.ref w),some (.ref s),some (.int mv.length),some (.ref sl),some (.int u),some (.ref tot),y3]/\dB K H' tot (uL ((List.range mv.length).map λi=>kL mv st (u+i)) ws mv.length i)) ⟨s26,tot,_,rfl,Rt⟩ ?_ ?_
   ·rintro i σ' H7 hi ⟨s7,tot7,y7,rfl,R7⟩;obtain ⟨vx,ex,nx⟩:=zf (Paired.imp' (λ_ _ z=>bK.same z s7) qwv) (show i < ws.length by lia);have mw:ws.getD i 0∈ws:=getD_in (by lia);obtain ⟨q,eq7,Rq⟩:=at_ (u+i) (by lia);walk_at "w";refine cR (bL.of (s7 _ _ gwv)) ex ?_;walk_at "w";rw[show ((u:Int)+(i:Int))=((u+i:Nat):Int) by lia];refine cR (bL.of (s7 _ _ g2)) eq7 ?_;walk_at "w";refine ⟨_,q,_,_,rfl,nx,szw _ mw,Rq.same s7,by rw[sl8];lia,szr _ (by lia),λr8 H8 n8 s8 R8=>?_⟩;walk_at "w";refine ⟨tot7,r8,_,_,rfl,R7.same s8,R8,by rw[ar,nD,sl8],by rw[nD];lia,szt u (by lia) i (by lia),λy hy=>?_,λr9 H9 n9 s9 R9=>?_⟩
    ·obtain ⟨y',hy',rfl⟩:=aN.mp hy;exact szp _ mw _ (by lia) y' hy'
    walk_at "w";refine ⟨(s7.trans s8).trans s9,r9,_,rfl,?_⟩;have e1:((List.range mv.length).map λi=>kL mv st (u+i))[i]?=some (kL mv st (u+i)):=by rw[aB,dh hi];rfl
    have e2:ws[i]?=some (ws.getD i 0):=by rw[ae,ai (show i < ws.length by lia)];rfl
    rw[<- yn e1 e2 (sl8 _)];exact R9
   rintro σ' H7 ⟨s7,tot7,y7,rfl,R7⟩
   have e7:uL ((List.range mv.length).map λi=>kL mv st (u+i)) ws mv.length mv.length=kL mv st (u+mv.length):=by
    have:=eq u;unfold zY at this;rwa [lw] at this
   rw[e7] at R7;obtain ⟨q,eq7,Rq⟩:=at_ (u+mv.length) (by lia);walk_at "w";rw[show ((u:Int)+(mv.length:Int))=((u+mv.length:Nat):Int) by lia];refine cR (bL.of (s7 _ _ g2)) eq7 ?_;walk_at "w";refine ⟨_,_,zN,_,_,by decide,R7.kind,(Rq.same s7).kind,?_⟩;rw[decide_eq_true rfl];walk_at "w";exact ⟨s7,_,_,_,rfl⟩
  rintro σ' H3 ⟨s3,y1,y2,y3,rfl⟩;walk_at "w";exact k _ (s2.trans s3)
theorem iu:bc ["_law_script","_law_bag_here","_law_n","_law_ins","_law_outs","_law_wide","_law_parts_here","_law_wish","_law_far"] ["_law_script"] (au qC):=by walk_at "d"
theorem AH (T:Txt K mg Z):cE P w K mg base iO 8 Z.xW Z.xM ["_law_script"] (oZ K):=by
 refine T.zW.ok iu (λvs H Q E h=>?_) (λcdv A outer s H vs Q E hr h=>?_)
 ·obtain ⟨a0,ns,rfl,_⟩:=h;rfl
 ·obtain ⟨a0,ns,rfl,hS,hlen,k⟩:=h
  refine ⟨_,(ak (aV (i:=1) iu.nd rfl (Or.inl rfl) (dk (tG T) hr T.oo T.mI.kp T.pZ (aa (pv 0) ag)))
   (ak (fR (dk (qk T) hr T.lX T.kv.kp T.m8 (aa (pv 1) ag)) (uu rfl (cU (aM (i:=2) iu.nd) (cU (aM (i:=3) iu.nd) (cU (aM (i:=4) iu.nd) (cU (aM (i:=5) iu.nd) lA))))))
   (ak (aV (i:=2) iu.nd rfl (Or.inl rfl) (bD (lH rfl) (by rfl) T.min PyProof.Rows.boot_min (aa (pv 2) (aa af ag))))
   (ak (aV (i:=6) iu.nd rfl (Or.inl rfl) (dk (ql T) hr T.lY T.kx.kp T.m9 (aa (pv 1) (aa (pv 2) (aa (pv 3) (aa (pv 4) (aa (pv 5) ag)))))))
   (ak (aV (i:=7) iu.nd rfl (Or.inl rfl) (dk (tE T) hr T.oi T.mG.kp T.pX (aa (dk (rP T) hr T.mX T.lg.kp T.oA (aa (pv 6) ag)) ag)))
   (ak (cL (jC (iz (dk (pG T) hr T.kP T.jJ.kp T.me (aa (pv 7) (aa (pv 2) ag))))) (aw (bf mP)) bC)
   (ak (aV (i:=8) iu.nd rfl (Or.inl rfl) af)
   (d5 (cL (PW.pt (fQ (aQ lT (pv 2) af (ba _)) (g8 (aQ et (dk (bo T) hr T.aO T.aT.kp T.aW (aa (pv 1) (aa af ag))) af (ba _))))) (aw (aV (i:=8) iu.nd rfl (Or.inl rfl) af)) bC)
   (aw (bf (rJ (dk (lU T) hr T.jG T.ij.kp T.kd (aa (pv 6) (aa (pv 7) (aa (dk (iT T) hr T.fb T.eO.kp T.fV (aa (pv 1) (aa (pv 2) (aa (pv 8) ag)))) ag)))) (rG (dk (lU T) hr T.jG T.ij.kp T.kd (aa (pv 6) (aa (pv 7) (aa (dk (iT T) hr T.fb T.eO.kp T.fV (aa (pv 1) (aa (pv 2) (aa af ag)))) ag)))))))))))))))),?_⟩
  refine aR (σ:=[some (.ref a0),none,none,none,none,none,none,none,none]) rfl ?_;walk_at "w";refine ⟨a0,ns,rfl,hS,hlen,λb H0 hb0 B0 s0=>?_⟩;walk_at "w";refine ⟨b,rfl,B0,λt1 n i o w H1 g1 n5 i4 o4 hw hn B1 u1=>?_⟩;walk_at "w"
  obtain ⟨n2,en,n4,nn⟩:∃n2:Nat,(if (4:Int) < (n:Int) then (4:Int) else (n:Int))=(n2:Int)/\n2<=4/\n2<=n:=by
   by_cases h:(4:Int) < n
   ·exact ⟨4,by rw[if_pos h];rfl,by lia,by lia⟩
   ·exact ⟨n,by rw[if_neg h],by lia,by lia⟩
  rw[en]
  obtain ⟨c,c20,wc,hc2,cn⟩:∃c,c<=20/\max w 6<=2^c/\(w<=9\/(n2<=2/\c=20))/\c*((n2+i+o)*n2)<=800:=by
   have a1:(n2+i+o)*n2<=12*4:=aY (by lia) n4;rcases hw with rfl | rfl | ⟨rfl,h2⟩
   ·exact ⟨4,by decide,by decide,.inl (by decide),by lia⟩
   ·exact ⟨4,by decide,by decide,.inl (by decide),by lia⟩
   ·have a2:(n2+i+o)*n2<=10*2:=aY (by lia) (by lia);exact ⟨20,by decide,by decide,.inr ⟨by lia,rfl⟩,by lia⟩
  refine ⟨b,n2,i,o,w,c,rfl,B1,by lia,i4,o4,by lia,by lia,wc,c20,cn,λr mv pt lk H2 P2 lm lp ll D PG B2 u2=>?_⟩;obtain ⟨mv83,SF⟩:=CJ PG lm n4 hc2 cn c20;clear PG;obtain ⟨Mz,hM,sM⟩:=xn mv83;walk_at "w";refine ⟨r,H1,mv,pt,lk,rfl,P2,D,SF,λx H3 nx s3 S3=>?_⟩;walk_at "w";refine ⟨x,H2,mv,pt,lk,Mz,rfl,S3,D,hM,sM,λwr H4 nw s4 R4=>?_⟩;have wrb:wr≠b:=λz=>(B2.same s3).at (by rw[<- z];exact nw)
  have lW:(jK mv mv.length).length=mv.length:=sI
  have szx:∀y∈jK mv mv.length,p3 y:=λy hy=>by
   obtain ⟨M,W,Dd,Bb,M0,D0,W1,B1',tM,tD,b1,b2,_⟩:=rV (st:=List.replicate mv.length 0) (E:=1) (V0:=1) mv83 D.mw fo (by decide) (by decide) (by decide) λx hx=>by rw[gZ hx];exact Fr.zero
   have p39:(2:Nat)^3990<=2^3995:=aj (by decide) (by decide);have BW:Bb<=W*Bb:=jy _ W1;have DM:Dd<=M*Dd:=jy _ M0;exact oU (tD y hy) D0 (by lia) (by lia)
  walk_at "w";refine ⟨wr,(jK mv mv.length).map nm,by rw[ar,lW,lm],R4.rowK,by rw[ar];lia,λy hy=>by obtain ⟨y',hy',rfl⟩:=aN.mp hy;exact z6 (szx y' hy'),λH5 s5=>?_⟩;have s25:=(s3.trans s4).trans s5;have B5:=B2.same s25;have P5:=P2.same s25;have R5:=R4.same s5;walk_at "w";refine ⟨λσ' H'=>∃f:Nat,σ'=[some (.ref a0),some (.ref b),some (.int n2),some (.int i),some (.int o),some (.int w),some (.ref r),some (.ref wr),some (.int f)]/\(f=9\/(f=1000/\n2<=2))/\fH H' b/\bR b H5 H',?_,?_⟩
  ·walk_at "w";refine fF (λh0=>?_) (λh0=>?_)
   ·have h0:=of_decide_eq_true h0;walk_at "w";refine ⟨b,8,rfl,B5,by decide,by decide,λv H6 v0 v1 B6 u6=>?_⟩;walk_at "w";refine fF (λh1=>?_) (λh1=>?_)
    ·walk_at "w";exact ⟨.inr ⟨rfl,by lia⟩,B6,u6⟩
    ·walk_at "w";exact ⟨.inl rfl,B6,u6⟩
   ·walk_at "w";exact ⟨.inl rfl,B5,bR.refl _⟩
  rintro σ' H6 ⟨f,rfl,hf,B6,u6⟩;walk_at "w";refine ⟨b,n2,f,rfl,B6,by lia,by lia,by lia,λsr xs H7 nsr R7 lx dx B7 u7=>?_⟩;have u57:=u6.trans u7;have P7:=P5.upto u57 B5 B1.at;have W7:=R5.upto u57 B5 wrb;obtain ⟨E,V0,E0,E1,E2,E3⟩:=Bt (by rcases hf with h | ⟨h,h'⟩;exact .inl h;exact .inr ⟨h,by lia⟩) dx;walk_at "w";refine ⟨r,wr,sr,H1,mv,pt,lk,_,xs,rfl,P7,D,W7,R7,lW,by lia,rV mv83 D.mw (by lia) E0 E1 E2 E3,vg (by lia) hM D.mw (by lia),λH8 s8=>?_⟩;walk_at "w";refine ⟨b,n2,9,rfl,B7.same s8,by lia,by lia,by lia,λsr2 xs2 H9 nsr2 R9 lx2 dx2 B9 u9=>?_⟩;obtain ⟨E',V0',E0',E1',E2',E3'⟩:=Bt (f:=9) (.inl rfl) dx2;walk_at "w";refine ⟨r,wr,sr2,H1,mv,pt,lk,_,xs2,rfl,(P7.same s8).upto u9 (B7.same s8) B1.at,D,(W7.same s8).upto u9 (B7.same s8) wrb,R9,lW,by lia,rV mv83 D.mw (by lia) E0' E1' E2' E3',vg (by lia) hM D.mw (by lia),λHa sa=>?_⟩;exact k _
end
theorem wk {P:List Value->Prop} (h:∀x0,P [x0]):∀us:List Value,us.length=1->P us
 | [x0],_=>h x0
theorem ln2 {P:List Value->Prop} (h:∀x0 x1,P [x0,x1]):∀us:List Value,us.length=2->P us
 | [x0,x1],_=>h x0 x1
theorem CK {P:List Value->Prop} (h:∀x0 x1 x2,P [x0,x1,x2]):∀us:List Value,us.length=3->P us
 | [x0,x1,x2],_=>h x0 x1 x2
theorem ln4 {P:List Value->Prop} (h:∀x0 x1 x2 x3,P [x0,x1,x2,x3]):∀us:List Value,us.length=4->P us
 | [x0,x1,x2,x3],_=>h x0 x1 x2 x3
theorem ln5 {P:List Value->Prop} (h:∀x0 x1 x2 x3 x4,P [x0,x1,x2,x3,x4]):∀us:List Value,us.length=5->P us
 | [x0,x1,x2,x3,x4],_=>h x0 x1 x2 x3 x4
theorem all_mk {l:W.OpenLaw} {w:World} {K:W.Frag} {h:Heap} {mg:Str->Option Value} {fa:Addr}
  {f0 f1 f2 f3 f4 f5 f6 f7 f8 f9 f10 f11 f12 f13 f14 f15 f16 f17 f18 f19 f20 f21 f22 f23 f24 f25 f26 f27 f28 f29 f30 f31 f32 f33 f34 f35 f36 f37:Addr} {od0 od1 od2 od3 od4 od5 od6 od7 od8 od9 od10 od11 od12 od13 od14 od15 od16 od17 od18 od19 od20 od21 od22 od23 od24 od25 od26 od27 od28 od29 od30 od31 od32 od33 od34 od35 od36 od37 an0 an1 an2 an3 an4 an5 an6 an7 an8 an9 an10 an11 an12 an13 an14 an15 an16 an17 an18 an19 an20 an21 an22 an23 an24 an25 an26 an27 an28 an29 an30 an31 an32 an33 an34 an35 an36 an37:Option Addr} {sl0 sl1 sl2 sl3 sl4 sl5 sl6 sl7 sl8 sl9 sl10 sl11 sl12 sl13 sl14 sl15 sl16 sl17 sl18 sl19 sl20 sl21 sl22 sl23 sl24 sl25 sl26 sl27 sl28 sl29 sl30 sl31 sl32 sl33 sl34 sl35 sl36 sl37:Array (Option Value)} {oc0 oc1 oc2 oc3 oc4 oc5 oc6 oc7 oc8 oc9 oc10 oc11 oc12 oc13 oc14 oc15 oc16 oc17 oc18 oc19 oc20 oc21 oc22 oc23 oc24 oc25 oc26 oc27 oc28 oc29 oc30 oc31 oc32 oc33 oc34 oc35 oc36 oc37 kV0 kV1 kV2 kV3 kV4 kV5 kV6 kV7 kV8 kV9 kV10 kV11 kV12 kV13 kV14 kV15 kV16 kV17 kV18 kV19 kV20 kV21 kV22 kV23 kV24 kV25 kV26 kV27 kV28 kV29 kV30 kV31 kV32 kV33 kV34 kV35 kV36 kV37 dc0 dc1 dc2 dc3 dc4 dc5 dc6 dc7 dc8 dc9 dc10 dc11 dc12 dc13 dc14 dc15 dc16 dc17 dc18 dc19 dc20 dc21 dc22 dc23 dc24 dc25 dc26 dc27 dc28 dc29 dc30 dc31 dc32 dc33 dc34 dc35 dc36 dc37 pm0 pm1 pm2 pm3 pm4 pm5 pm6 pm7 pm8 pm9 pm10 pm11 pm12 pm13 pm14 pm15 pm16 pm17 pm18 pm19 pm20 pm21 pm22 pm23 pm24 pm25 pm26 pm27 pm28 pm29 pm30 pm31 pm32 pm33 pm34 pm35 pm36 pm37 cd0 cd1 cd2 cd3 cd4 cd5 cd6 cd7 cd8 cd9 cd10 cd11 cd12 cd13 cd14 cd15 cd16 cd17 cd18 cd19 cd20 cd21 cd22 cd23 cd24 cd25 cd26 cd27 cd28 cd29 cd30 cd31 cd32 cd33 cd34 cd35 cd36 cd37 ct0 ct1 ct2 ct3 ct4 ct5 ct6 ct7 ct8 ct9 ct10 ct11 ct12 ct13 ct14 ct15 ct16 ct17 ct18 ct19 ct20 ct21 ct22 ct23 ct24 ct25 ct26 ct27 ct28 ct29 ct30 ct31 ct32 ct33 ct34 ct35 ct36 ct37:Value}
  (X:K.In h) (G:h.Ns mainGlobals mg) (hfa:mg "law"=some (.ref fa))
  {C:Addr} (aC:W.nsIn K mainGlobals "System"=some (some (.ref C)))
  (a0:W.nsIn K mainGlobals "_law_bag"=some (some (.ref f0))) (l0:K.lookup f0=some ⟨oc0,od0,.func (W.fnOf "_law_bag" "_law_bag" (aX fP) (aS fP) (au fP) .none kV0 dc0 pm0 an0 cd0 ct0),sl0⟩) (c0:W.codeIn K cd0 "_law_bag"=true) (k0:W.keepIn K (.ref f0)=true)
  (a1:W.nsIn K mainGlobals "_law_take"=some (some (.ref f1))) (l1:K.lookup f1=some ⟨oc1,od1,.func (W.fnOf "_law_take" "_law_take" (aX eV) (aS eV) (au eV) .none kV1 dc1 pm1 an1 cd1 ct1),sl1⟩) (c1:W.codeIn K cd1 "_law_take"=true) (k1:W.keepIn K (.ref f1)=true)
  (a2:W.nsIn K mainGlobals "_law_sizes"=some (some (.ref f2))) (l2:K.lookup f2=some ⟨oc2,od2,.func (W.fnOf "_law_sizes" "_law_sizes" (aX dw) (aS dw) (au dw) .none kV2 dc2 pm2 an2 cd2 ct2),sl2⟩) (c2:W.codeIn K cd2 "_law_sizes"=true) (k2:W.keepIn K (.ref f2)=true)
  (a3:W.nsIn K mainGlobals "_law_low"=some (some (.ref f3))) (l3:K.lookup f3=some ⟨oc3,od3,.func (W.fnOf "_law_low" "_law_low" (aX fN) (aS fN) (au fN) .none kV3 dc3 pm3 an3 cd3 ct3),sl3⟩) (c3:W.codeIn K cd3 "_law_low"=true) (k3:W.keepIn K (.ref f3)=true)
  (a4:W.nsIn K mainGlobals "_law_number"=some (some (.ref f4))) (l4:K.lookup f4=some ⟨oc4,od4,.func (W.fnOf "_law_number" "_law_number" (aX dE) (aS dE) (au dE) .none kV4 dc4 pm4 an4 cd4 ct4),sl4⟩) (c4:W.codeIn K cd4 "_law_number"=true) (k4:W.keepIn K (.ref f4)=true)
  (a5:W.nsIn K mainGlobals "_law_row"=some (some (.ref f5))) (l5:K.lookup f5=some ⟨oc5,od5,.func (W.fnOf "_law_row" "_law_row" (aX fM) (aS fM) (au fM) .none kV5 dc5 pm5 an5 cd5 ct5),sl5⟩) (c5:W.codeIn K cd5 "_law_row"=true) (k5:W.keepIn K (.ref f5)=true)
  (a6:W.nsIn K mainGlobals "_law_move"=some (some (.ref f6))) (l6:K.lookup f6=some ⟨oc6,od6,.func (W.fnOf "_law_move" "_law_move" (aX eZ) (aS eZ) (au eZ) .none kV6 dc6 pm6 an6 cd6 ct6),sl6⟩) (c6:W.codeIn K cd6 "_law_move"=true) (k6:W.keepIn K (.ref f6)=true)
  (a7:W.nsIn K mainGlobals "_law_sum"=some (some (.ref f7))) (l7:K.lookup f7=some ⟨oc7,od7,.func (W.fnOf "_law_sum" "_law_sum" (aX fL) (aS fL) (au fL) .none kV7 dc7 pm7 an7 cd7 ct7),sl7⟩) (c7:W.codeIn K cd7 "_law_sum"=true) (k7:W.keepIn K (.ref f7)=true)
  (a8:W.nsIn K mainGlobals "_law_plus"=some (some (.ref f8))) (l8:K.lookup f8=some ⟨oc8,od8,.func (W.fnOf "_law_plus" "_law_plus" (aX eY) (aS eY) (au eY) .none kV8 dc8 pm8 an8 cd8 ct8),sl8⟩) (c8:W.codeIn K cd8 "_law_plus"=true) (k8:W.keepIn K (.ref f8)=true)
  (a9:W.nsIn K mainGlobals "_law_prod"=some (some (.ref f9))) (l9:K.lookup f9=some ⟨oc9,od9,.func (W.fnOf "_law_prod" "_law_prod" (aX eX) (aS eX) (au eX) .none kV9 dc9 pm9 an9 cd9 ct9),sl9⟩) (c9:W.codeIn K cd9 "_law_prod"=true) (k9:W.keepIn K (.ref f9)=true)
  (a10:W.nsIn K mainGlobals "_law_by"=some (some (.ref f10))) (l10:K.lookup f10=some ⟨oc10,od10,.func (W.fnOf "_law_by" "_law_by" (aX iq) (aS iq) (au iq) .none kV10 dc10 pm10 an10 cd10 ct10),sl10⟩) (c10:W.codeIn K cd10 "_law_by"=true) (k10:W.keepIn K (.ref f10)=true)
  (a11:W.nsIn K mainGlobals "_law_mixed"=some (some (.ref f11))) (l11:K.lookup f11=some ⟨oc11,od11,.func (W.fnOf "_law_mixed" "_law_mixed" (aX dZ) (aS dZ) (au dZ) .none kV11 dc11 pm11 an11 cd11 ct11),sl11⟩) (c11:W.codeIn K cd11 "_law_mixed"=true) (k11:W.keepIn K (.ref f11)=true)
  (a12:W.nsIn K mainGlobals "_law_parts"=some (some (.ref f12))) (l12:K.lookup f12=some ⟨oc12,od12,.func (W.fnOf "_law_parts" "_law_parts" (aX dY) (aS dY) (au dY) .none kV12 dc12 pm12 an12 cd12 ct12),sl12⟩) (c12:W.codeIn K cd12 "_law_parts"=true) (k12:W.keepIn K (.ref f12)=true)
  (a13:W.nsIn K mainGlobals "common_divisor"=some (some (.ref f13))) (l13:K.lookup f13=some ⟨oc13,od13,.func (W.fnOf "common_divisor" "common_divisor" (aX cI) (aS cI) (au cI) .none kV13 dc13 pm13 an13 cd13 ct13),sl13⟩) (c13:W.codeIn K cd13 "common_divisor"=true) (k13:W.keepIn K (.ref f13)=true)
  (a14:W.nsIn K mainGlobals "common_multiple"=some (some (.ref f14))) (l14:K.lookup f14=some ⟨oc14,od14,.func (W.fnOf "common_multiple" "common_multiple" (aX ck) (aS ck) (au ck) .none kV14 dc14 pm14 an14 cd14 ct14),sl14⟩) (c14:W.codeIn K cd14 "common_multiple"=true) (k14:W.keepIn K (.ref f14)=true)
  (a15:W.nsIn K mainGlobals "common_bottom"=some (some (.ref f15))) (l15:K.lookup f15=some ⟨oc15,od15,.func (W.fnOf "common_bottom" "common_bottom" (aX cT) (aS cT) (au cT) .none kV15 dc15 pm15 an15 cd15 ct15),sl15⟩) (c15:W.codeIn K cd15 "common_bottom"=true) (k15:W.keepIn K (.ref f15)=true)
  (a16:W.nsIn K mainGlobals "flat"=some (some (.ref f16))) (l16:K.lookup f16=some ⟨oc16,od16,.func (W.fnOf "flat" "flat" (aX nM) (aS nM) (au nM) .none kV16 dc16 pm16 an16 cd16 ct16),sl16⟩) (c16:W.codeIn K cd16 "flat"=true) (k16:W.keepIn K (.ref f16)=true)
  (a17:W.nsIn K mainGlobals "tops_over"=some (some (.ref f17))) (l17:K.lookup f17=some ⟨oc17,od17,.func (W.fnOf "tops_over" "tops_over" (aX eT) (aS eT) (au eT) .none kV17 dc17 pm17 an17 cd17 ct17),sl17⟩) (c17:W.codeIn K cd17 "tops_over"=true) (k17:W.keepIn K (.ref f17)=true)
  (a18:W.nsIn K mainGlobals "whole_grid"=some (some (.ref f18))) (l18:K.lookup f18=some ⟨oc18,od18,.func (W.fnOf "whole_grid" "whole_grid" (aX dX) (aS dX) (au dX) .none kV18 dc18 pm18 an18 cd18 ct18),sl18⟩) (c18:W.codeIn K cd18 "whole_grid"=true) (k18:W.keepIn K (.ref f18)=true)
  (a19:W.nsIn K mainGlobals "whole_dot"=some (some (.ref f19))) (l19:K.lookup f19=some ⟨oc19,od19,.func (W.fnOf "whole_dot" "whole_dot" (aX eR) (aS eR) (au eR) .none kV19 dc19 pm19 an19 cd19 ct19),sl19⟩) (c19:W.codeIn K cd19 "whole_dot"=true) (k19:W.keepIn K (.ref f19)=true)
  (a20:W.nsIn K mainGlobals "whole_on"=some (some (.ref f20))) (l20:K.lookup f20=some ⟨oc20,od20,.func (W.fnOf "whole_on" "whole_on" (aX fI) (aS fI) (au fI) .none kV20 dc20 pm20 an20 cd20 ct20),sl20⟩) (c20:W.codeIn K cd20 "whole_on"=true) (k20:W.keepIn K (.ref f20)=true)
  (a21:W.nsIn K mainGlobals "with_main"=some (some (.ref f21))) (l21:K.lookup f21=some ⟨oc21,od21,.func (W.fnOf "with_main" "with_main" (aX eQ) (aS eQ) (au eQ) .none kV21 dc21 pm21 an21 cd21 ct21),sl21⟩) (c21:W.codeIn K cd21 "with_main"=true) (k21:W.keepIn K (.ref f21)=true)
  (a22:W.nsIn K mainGlobals "lowest"=some (some (.ref f22))) (l22:K.lookup f22=some ⟨oc22,od22,.func (W.fnOf "lowest" "lowest" (aX jL) (aS jL) (au jL) .none kV22 dc22 pm22 an22 cd22 ct22),sl22⟩) (c22:W.codeIn K cd22 "lowest"=true) (k22:W.keepIn K (.ref f22)=true)
  (a23:W.nsIn K mainGlobals "own_wish"=some (some (.ref f23))) (l23:K.lookup f23=some ⟨oc23,od23,.func (W.fnOf "own_wish" "own_wish" (aX fJ) (aS fJ) (au fJ) .none kV23 dc23 pm23 an23 cd23 ct23),sl23⟩) (c23:W.codeIn K cd23 "own_wish"=true) (k23:W.keepIn K (.ref f23)=true)
  (a24:W.nsIn K mainGlobals "want_list"=some (some (.ref f24))) (l24:K.lookup f24=some ⟨oc24,od24,.func (W.fnOf "want_list" "want_list" (aX eS) (aS eS) (au eS) .none kV24 dc24 pm24 an24 cd24 ct24),sl24⟩) (c24:W.codeIn K cd24 "want_list"=true) (k24:W.keepIn K (.ref f24)=true)
  (a25:W.nsIn K mainGlobals "is_whole"=some (some (.ref f25))) (l25:K.lookup f25=some ⟨oc25,od25,.func (W.fnOf "is_whole" "is_whole" (aX fK) (aS fK) (au fK) .none kV25 dc25 pm25 an25 cd25 ct25),sl25⟩) (c25:W.codeIn K cd25 "is_whole"=true) (k25:W.keepIn K (.ref f25)=true)
  (a26:W.nsIn K mainGlobals "is_number"=some (some (.ref f26))) (l26:K.lookup f26=some ⟨oc26,od26,.func (W.fnOf "is_number" "is_number" (aX eU) (aS eU) (au eU) .none kV26 dc26 pm26 an26 cd26 ct26),sl26⟩) (c26:W.codeIn K cd26 "is_number"=true) (k26:W.keepIn K (.ref f26)=true)
  (a27:W.nsIn K mainGlobals "is_row"=some (some (.ref f27))) (l27:K.lookup f27=some ⟨oc27,od27,.func (W.fnOf "is_row" "is_row" (aX jM) (aS jM) (au jM) .none kV27 dc27 pm27 an27 cd27 ct27),sl27⟩) (c27:W.codeIn K cd27 "is_row"=true) (k27:W.keepIn K (.ref f27)=true)
  (a28:W.nsIn K mainGlobals "copied_rows"=some (some (.ref f28))) (l28:K.lookup f28=some ⟨oc28,od28,.func (W.fnOf "copied_rows" "copied_rows" (aX dD) (aS dD) (au dD) .none kV28 dc28 pm28 an28 cd28 ct28),sl28⟩) (c28:W.codeIn K cd28 "copied_rows"=true) (k28:W.keepIn K (.ref f28)=true)
  (a29:W.findIn K (.ref C) "__init__"=some (some (.ref f29))) (i29:W.isFn K (.ref f29)=true) (l29:K.lookup f29=some ⟨oc29,od29,.func (W.fnOf "__init__" "System.__init__" (aX cm) (aS cm) (au cm) .none kV29 dc29 pm29 an29 cd29 ct29),sl29⟩) (c29:W.codeIn K cd29 "System.__init__"=true) (k29:W.keepIn K (.ref f29)=true)
  (a30:W.nsIn K mainGlobals "_law_copied"=some (some (.ref f30))) (l30:K.lookup f30=some ⟨oc30,od30,.func (W.fnOf "_law_copied" "_law_copied" (aX dG) (aS dG) (au dG) .none kV30 dc30 pm30 an30 cd30 ct30),sl30⟩) (c30:W.codeIn K cd30 "_law_copied"=true) (k30:W.keepIn K (.ref f30)=true)
  (a31:W.nsIn K mainGlobals "_law_made"=some (some (.ref f31))) (l31:K.lookup f31=some ⟨oc31,od31,.func (W.fnOf "_law_made" "_law_made" (aX e8) (aS e8) (au e8) .none kV31 dc31 pm31 an31 cd31 ct31),sl31⟩) (c31:W.codeIn K cd31 "_law_made"=true) (k31:W.keepIn K (.ref f31)=true)
  (a32:W.nsIn K mainGlobals "_law_is_number"=some (some (.ref f32))) (l32:K.lookup f32=some ⟨oc32,od32,.func (W.fnOf "_law_is_number" "_law_is_number" (aX cJ) (aS cJ) (au cJ) .none kV32 dc32 pm32 an32 cd32 ct32),sl32⟩) (c32:W.codeIn K cd32 "_law_is_number"=true) (k32:W.keepIn K (.ref f32)=true)
  (a33:W.nsIn K mainGlobals "_law_is_row"=some (some (.ref f33))) (l33:K.lookup f33=some ⟨oc33,od33,.func (W.fnOf "_law_is_row" "_law_is_row" (aX dF) (aS dF) (au dF) .none kV33 dc33 pm33 an33 cd33 ct33),sl33⟩) (c33:W.codeIn K cd33 "_law_is_row"=true) (k33:W.keepIn K (.ref f33)=true)
  (a34:W.nsIn K mainGlobals "_law_dot"=some (some (.ref f34))) (l34:K.lookup f34=some ⟨oc34,od34,.func (W.fnOf "_law_dot" "_law_dot" (aX fO) (aS fO) (au fO) .none kV34 dc34 pm34 an34 cd34 ct34),sl34⟩) (c34:W.codeIn K cd34 "_law_dot"=true) (k34:W.keepIn K (.ref f34)=true)
  (a35:W.nsIn K mainGlobals "_law_on"=some (some (.ref f35))) (l35:K.lookup f35=some ⟨oc35,od35,.func (W.fnOf "_law_on" "_law_on" (aX ip) (aS ip) (au ip) .none kV35 dc35 pm35 an35 cd35 ct35),sl35⟩) (c35:W.codeIn K cd35 "_law_on"=true) (k35:W.keepIn K (.ref f35)=true)
  (a36:W.nsIn K mainGlobals "_law_keeps"=some (some (.ref f36))) (l36:K.lookup f36=some ⟨oc36,od36,.func (W.fnOf "_law_keeps" "_law_keeps" (aX d4) (aS d4) (au d4) .none kV36 dc36 pm36 an36 cd36 ct36),sl36⟩) (c36:W.codeIn K cd36 "_law_keeps"=true) (k36:W.keepIn K (.ref f36)=true)
  (a37:W.nsIn K mainGlobals "law"=some (some (.ref f37))) (l37:K.lookup f37=some ⟨oc37,od37,.func (W.fnOf "law" "law" (aX qC) (aS qC) (au qC) .none kV37 dc37 pm37 an37 cd37 ct37),sl37⟩) (c37:W.codeIn K cd37 "law"=true) (k37:W.keepIn K (.ref f37)=true)
  {it0:Tok} (ci0:W.nsIn K mainGlobals "MOST_STATES"=some (some (.int 8 it0)))
  {it1:Tok} (ci1:W.nsIn K mainGlobals "MOST_PUTS"=some (some (.int 4 it1)))
  {it2:Tok} (ci2:W.nsIn K mainGlobals "MOST_LOOKS"=some (some (.int 4 it2)))
  (pg:W.plainGet K C Str.empty=true) (hd:W.hasDictIn K C=true) (po:W.plainOver K C=true) (sa:W.findIn K (.ref C) "__setattr__"=some (some (.builtin "object.__setattr__"))) (mk:W.makesIn K C=true) (kc:W.keepIn K (.ref C)=true)
  (n_move:W.findIn K (.ref C) "move"=some none)
  (n_states:W.findIn K (.ref C) "states"=some none)
  (n_put:W.findIn K (.ref C) "put"=some none)
  (n_ins:W.findIn K (.ref C) "ins"=some none)
  (n_look:W.findIn K (.ref C) "look"=some none)
  (n_outs:W.findIn K (.ref C) "outs"=some none)
  (z_abs:W.nsIn K mainGlobals "abs"=some none)
  (z_len:W.nsIn K mainGlobals "len"=some none)
  (z_min:W.nsIn K mainGlobals "min"=some none)
  (z_range:W.nsIn K mainGlobals "range"=some none)
  (z_int:W.nsIn K mainGlobals "int"=some none)
  (z_sum:W.nsIn K mainGlobals "sum"=some none)
  (z_zip:W.nsIn K mainGlobals "zip"=some none)
  (z_enumerate:W.nsIn K mainGlobals "enumerate"=some none)
  (z_list:W.nsIn K mainGlobals "list"=some none)
  (z_reversed:W.nsIn K mainGlobals "reversed"=some none)
  (z_isinstance:W.nsIn K mainGlobals "isinstance"=some none)
  (z_bool:W.nsIn K mainGlobals "bool"=some none)
  (z_tuple:W.nsIn K mainGlobals "tuple"=some none)
  (z_all:W.nsIn K mainGlobals "all"=some none)
  : ∃fd:FuncData,(∀(s:Shared) (v:Value),BindsTo s fd ⟨[v],[]⟩ [("_law_script",v)])/\∀base:Heap,K.In base->base.Ns mainGlobals mg->cE l.prog w K mg base iO 8 fa fd ["_law_script"] (oZ K):=by
 have e:=hfa.symm.trans (W.mg_of X G a37);cases e;have F0:=bE (st:=fP) l0 c0 k0;have F1:=bE (st:=eV) l1 c1 k1;have F2:=bE (st:=dw) l2 c2 k2;have F3:=bE (st:=fN) l3 c3 k3;have F4:=bE (st:=dE) l4 c4 k4;have F5:=bE (st:=fM) l5 c5 k5;have F6:=bE (st:=eZ) l6 c6 k6;have F7:=bE (st:=fL) l7 c7 k7;have F8:=bE (st:=eY) l8 c8 k8;have F9:=bE (st:=eX) l9 c9 k9;have F10:=bE (st:=iq) l10 c10 k10;have F11:=bE (st:=dZ) l11 c11 k11;have F12:=bE (st:=dY) l12 c12 k12;have F13:=bE (st:=cI) l13 c13 k13;have F14:=bE (st:=ck) l14 c14 k14;have F15:=bE (st:=cT) l15 c15 k15;have F16:=bE (st:=nM) l16 c16 k16;have F17:=bE (st:=eT) l17 c17 k17;have F18:=bE (st:=dX) l18 c18 k18;have F19:=bE (st:=eR) l19 c19 k19;have F20:=bE (st:=fI) l20 c20 k20;have F21:=bE (st:=eQ) l21 c21 k21;have F22:=bE (st:=jL) l22 c22 k22;have F23:=bE (st:=fJ) l23 c23 k23;have F24:=bE (st:=eS) l24 c24 k24;have F25:=bE (st:=fK) l25 c25 k25;have F26:=bE (st:=eU) l26 c26 k26;have F27:=bE (st:=jM) l27 c27 k27;have F28:=bE (st:=dD) l28 c28 k28;have F29:=bE (st:=cm) l29 c29 k29;have F30:=bE (st:=dG) l30 c30 k30;have F31:=bE (st:=e8) l31 c31 k31;have F32:=bE (st:=cJ) l32 c32 k32;have F33:=bE (st:=dF) l33 c33 k33;have F34:=bE (st:=fO) l34 c34 k34;have F35:=bE (st:=ip) l35 c35 k35;have F36:=bE (st:=d4) l36 c36 k36;have F37:=bE (st:=qC) l37 c37 k37
 have T:Txt K mg { ko:=f0,j9:=_,jo:=f1,i5:=_,ia:=f2,hZ:=_,km:=f3,j7:=_,gG:=f4,gh:=_,kl:=f5,j6:=_,js:=f6,jc:=_,ki:=f7,j5:=_,jr:=f8,jb:=_,jq:=f9,ja:=_,lK:=f10,lG:=_,ic:=f11,h7:=_,ib:=f12,h6:=_,ee:=f13,d6:=_,dQ:=f14,dO:=_,eH:=f15,eG:=_,sD:=f16,so:=_,jm:=f17,iY:=_,h9:=f18,hX:=_,ji:=f19,iW:=_,kf:=f20,jZ:=_,jh:=f21,iV:=_,nh:=f22,m5:=_,kg:=f23,j3:=_,jk:=f24,iX:=_,kh:=f25,j4:=_,jn:=f26,iZ:=_,ni:=f27,m6:=_,gF:=f28,gg:=_,dR:=f29,dP:=_,gI:=f30,gA:=_,jt:=f31,jd:=_,ef:=f32,d7:=_,gH:=f33,gv:=_,kn:=f34,j8:=_,lJ:=f35,lF:=_,ie:=f36,h8:=_,xW:=fa,xM:=_,t_MOST_STATES:=it0,t_MOST_PUTS:=it1,t_MOST_LOOKS:=it2,a_System:=C }:={
  oo:=W.mg_of X G a0
  pZ:=F0.binds (ps:=["_law_script"]) λ_ _ _ _ _ _=>by refine wk ?_;intros;rfl
  mI:=F0
  aO:=W.mg_of X G a1
  aW:=F1.binds (ps:=["_law_bag_here","_law_many"]) λ_ _ _ _ _ _=>by refine ln2 ?_;intros;rfl
  aT:=F1
  lX:=W.mg_of X G a2
  m8:=F2.binds (ps:=["_law_bag_here"]) λ_ _ _ _ _ _=>by refine wk ?_;intros;rfl
  kv:=F2
  fc:=W.mg_of X G a3
  fW:=F3.binds (ps:=["_law_top","_law_bottom"]) λ_ _ _ _ _ _=>by refine ln2 ?_;intros;rfl
  eP:=F3
  kO:=W.mg_of X G a4
  md:=F4.binds (ps:=["_law_bag_here","_law_wide"]) λ_ _ _ _ _ _=>by refine ln2 ?_;intros;rfl
  jI:=F4
  fb:=W.mg_of X G a5
  fV:=F5.binds (ps:=["_law_bag_here","_law_many","_law_wide"]) λ_ _ _ _ _ _=>by refine CK ?_;intros;rfl
  eO:=F5
  mW:=W.mg_of X G a6
  oz:=F6.binds (ps:=["_law_bag_here","_law_n","_law_way","_law_first","_law_wide"]) λ_ _ _ _ _ _=>by refine ln5 ?_;intros;rfl
  kZ:=F6
  gP:=W.mg_of X G a7
  iJ:=F7.binds (ps:=["_law_one","_law_other"]) λ_ _ _ _ _ _=>by refine ln2 ?_;intros;rfl
  fX:=F7
  jV:=W.mg_of X G a8
  kS:=F8.binds (ps:=["_law_one","_law_other"]) λ_ _ _ _ _ _=>by refine ln2 ?_;intros;rfl
  ju:=F8
  fz:=W.mg_of X G a9
  gQ:=F9.binds (ps:=["_law_one","_law_other"]) λ_ _ _ _ _ _=>by refine ln2 ?_;intros;rfl
  fj:=F9
  mB:=W.mg_of X G a10
  nY:=F10.binds (ps:=["_law_by_here","_law_row_here"]) λ_ _ _ _ _ _=>by refine ln2 ?_;intros;rfl
  lM:=F10
  lZ:=W.mg_of X G a11
  ng:=F11.binds (ps:=["_law_bag_here","_law_move_here","_law_put","_law_look"]) λ_ _ _ _ _ _=>by refine ln4 ?_;intros;rfl
  ky:=F11
  lY:=W.mg_of X G a12
  m9:=F12.binds (ps:=["_law_bag_here","_law_n","_law_ins","_law_outs","_law_wide"]) λ_ _ _ _ _ _=>by refine ln5 ?_;intros;rfl
  kx:=F12
  dN:=W.mg_of X G a13
  ed:=F13.binds (ps:=["one","other"]) λ_ _ _ _ _ _=>by refine ln2 ?_;intros;rfl
  dq:=F13
  iG:=W.mg_of X G a14
  jf:=F14.binds (ps:=["wholes"]) λ_ _ _ _ _ _=>by refine wk ?_;intros;rfl
  fE:=F14
  jN:=W.mg_of X G a15
  kz:=F15.binds (ps:=["row"]) λ_ _ _ _ _ _=>by refine wk ?_;intros;rfl
  gX:=F15
  vf:=W.mg_of X G a16
  xU:=F16.binds (ps:=["lists"]) λ_ _ _ _ _ _=>by refine wk ?_;intros;rfl
  uJ:=F16
  mU:=W.mg_of X G a17
  ox:=F17.binds (ps:=["row","bottom"]) λ_ _ _ _ _ _=>by refine ln2 ?_;intros;rfl
  kX:=F17
  lV:=W.mg_of X G a18
  m7:=F18.binds (ps:=["grid"]) λ_ _ _ _ _ _=>by refine wk ?_;intros;rfl
  ks:=F18
  mT:=W.mg_of X G a19
  ow:=F19.binds (ps:=["one","other"]) λ_ _ _ _ _ _=>by refine ln2 ?_;intros;rfl
  kW:=F19
  oh:=W.mg_of X G a20
  pW:=F20.binds (ps:=["lines","tops"]) λ_ _ _ _ _ _=>by refine ln2 ?_;intros;rfl
  mF:=F20
  mS:=W.mg_of X G a21
  ou:=F21.binds (ps:=["lines","by"]) λ_ _ _ _ _ _=>by refine ln2 ?_;intros;rfl
  kU:=F21
  qJ:=W.mg_of X G a22
  tT:=F22.binds (ps:=["top","bottom"]) λ_ _ _ _ _ _=>by refine ln2 ?_;intros;rfl
  p7:=F22
  oi:=W.mg_of X G a23
  pX:=F23.binds (ps:=["system"]) λ_ _ _ _ _ _=>by refine wk ?_;intros;rfl
  mG:=F23
  hJ:=W.mg_of X G a24
  je:=F24.binds (ps:=["thing","at","most"]) λ_ _ _ _ _ _=>by refine CK ?_;intros;rfl
  gR:=F24
  kN:=W.mg_of X G a25
  mD:=F25.binds (ps:=["thing"]) λ_ _ _ _ _ _=>by refine wk ?_;intros;rfl
  ku:=F25
  mV:=W.mg_of X G a26
  oy:=F26.binds (ps:=["thing"]) λ_ _ _ _ _ _=>by refine wk ?_;intros;rfl
  kY:=F26
  qK:=W.mg_of X G a27
  tU:=F27.binds (ps:=["thing","many"]) λ_ _ _ _ _ _=>by refine ln2 ?_;intros;rfl
  p8:=F27
  fy:=W.mg_of X G a28
  gD:=F28.binds (ps:=["things","wide"]) λ_ _ _ _ _ _=>by refine ln2 ?_;intros;rfl
  eD:=F28
  jg:=F29.binds (ps:=["self","move","put","look"]) λ_ _ _ _ _ _=>by refine ln4 ?_;intros;rfl
  jv:=F29
  fA:=W.mg_of X G a30
  gE:=F30.binds (ps:=["_law_grid"]) λ_ _ _ _ _ _=>by refine wk ?_;intros;rfl
  eE:=F30
  mX:=W.mg_of X G a31
  oA:=F31.binds (ps:=["_law_parts_here"]) λ_ _ _ _ _ _=>by refine wk ?_;intros;rfl
  lg:=F31
  iU:=W.mg_of X G a32
  jP:=F32.binds (ps:=["_law_thing"]) λ_ _ _ _ _ _=>by refine wk ?_;intros;rfl
  fY:=F32
  kP:=W.mg_of X G a33
  me:=F33.binds (ps:=["_law_thing","_law_many"]) λ_ _ _ _ _ _=>by refine ln2 ?_;intros;rfl
  jJ:=F33
  oj:=W.mg_of X G a34
  pY:=F34.binds (ps:=["_law_one","_law_other"]) λ_ _ _ _ _ _=>by refine ln2 ?_;intros;rfl
  mH:=F34
  pL:=W.mg_of X G a35
  qX:=F35.binds (ps:=["_law_grid","_law_row_here"]) λ_ _ _ _ _ _=>by refine ln2 ?_;intros;rfl
  oa:=F35
  jG:=W.mg_of X G a36
  kd:=F36.binds (ps:=["_law_parts_here","_law_wish","_law_start"]) λ_ _ _ _ _ _=>by refine CK ?_;intros;rfl
  ij:=F36
  zW:=F37
  abs:=W.mg_none_of X G z_abs
  len:=W.mg_none_of X G z_len
  min:=W.mg_none_of X G z_min
  range:=W.mg_none_of X G z_range
  int:=W.mg_none_of X G z_int
  sum:=W.mg_none_of X G z_sum
  zip:=W.mg_none_of X G z_zip
  enumerate:=W.mg_none_of X G z_enumerate
  list:=W.mg_none_of X G z_list
  reversed:=W.mg_none_of X G z_reversed
  isinstance:=W.mg_none_of X G z_isinstance
  bool:=W.mg_none_of X G z_bool
  tuple:=W.mg_none_of X G z_tuple
  all:=W.mg_none_of X G z_all
  mg_MOST_STATES:=W.mg_of X G ci0
  mg_MOST_PUTS:=W.mg_of X G ci1
  mg_MOST_LOOKS:=W.mg_of X G ci2
  mg_System:=W.mg_of X G aC
  cl_System:=⟨pg,hd,po,sa⟩
  na_move:=n_move
  na_states:=n_states
  na_put:=n_put
  na_ins:=n_ins
  na_look:=n_look
  na_outs:=n_outs
  mk_System:=⟨mk,a29,i29,kc⟩ }
 exact ⟨_,λs v=>.of_eq rfl,λbase _ _=>AH T⟩
theorem walk {l:W.OpenLaw} {q:Program} {loose:List Str} {XP:(Str->Option Value)->Heap->Prop} {YP:World->Heap->Prop} {d:DefRec} {K:Params->W.Frag} (hn:l.most=some 63) (hdf:d.params.defaults=[])
  (hY:∀(w:World) (h:Heap),YP w h->(K w.params).In h)
  (F:∀(w:World) (mg:Str->Option Value) (fa:Addr) (h:Heap),(K w.params).In h->h.Ns mainGlobals mg->mg d.name=some (.ref fa) →
   ∃fd:FuncData,(∀(s:Shared) (u:Value),BindsTo s fd ⟨[u],[]⟩ [("_law_script",u)])/\∀base:Heap,(K w.params).In base->base.Ns mainGlobals mg->cE l.prog w (K w.params) mg base iO 8 fa fd ["_law_script"] (oZ (K w.params))) :
  W.WalkO q loose XP YP l.row.toRowW d [] (λf vs=>PySem.call f vs) :=
 L2.yr (n:=63) (k:=8) (x:="_law_script") (CX:=λ_=>iO) (sp:=λw=>oZ (K w.params)) hn (by decide) hdf ⟨rfl,by decide,by decide⟩ hY F (λ_ _ a ns hl _ hS=>⟨a,ns,rfl,hS,hl,λ_=>rfl⟩) λ_ _ _ _ _ z=>z
end Lw
namespace PySem.W.Fast
def tw12200354128822913541:=()
def tw4392704069491124355:=()
def tw177320040234215019:=()
def tw13503468414468993920:=()
def tw4638642658198140881:=()
def tw15342860214562427680:=()
def tw11942050441386903937:=()
def tw8166640466409840766:=()
def tw11070651325059874920:=()
def tw17569430046408065446:=()
def tw3631367217789316571:=()
def tw9231700925173544038:=()
def tw12662080236769062902:=()
def tw11815098450142828283:=()
def tw9331279567041408061:=()
def tw7696348747936064964:=()
def tw13244720304641497988:=()
def tw13753182181975707511:=()
def tw6436432635079681504:=()
def tw3264803192873830401:=()
def tw16911626906650681467:=()
def tw6124745530844088396:=()
def tw17280043275605039100:=()
def tw6183941746315939678:=()
def tw17311644295612143232:=()
def tw9663564578263259962:=()
def tw17392167982387368444:=()
def tw2002920448837508066:=()
def tw9570996645599981040:=()
def tw1204761759016170943:=()
def tw8265038160003939700:=()
def tw10469157444969609654:=()
def tw6096667318062839543:=()
def tw14434992926223873043:=()
def tw15260935793082184511:=()
def tw7764187120884488837:=()
def tw16285150631312315481:=()
def tw6067706100998683945:=()
def tw6932516190457929183:=()
def tw6267028939670144447:=()
def tw354105690810238584:=()
def tw4655362867022999966:=()
def tw3523061626925284674:=()
def tw11821876126905721840:=()
def tw13278597744911773880:=()
def tw1070680049656622457:=()
def tw17906670275648989077:=()
def tw7600129168999401635:=()
def tw1903096227232369397:=()
def tw12134338538972495262:=()
def tw16097473555556437713:=()
def tw5558305332456364899:=()
def tw5126232559537032948:=()
def tw7801342732538781740:=()
def tw9611241472305186081:=()
def tw3556767786608125219:=()
def tw16910066362657079846:=()
def tw6344594160220896750:=()
def tw18393666410443701626:=()
def tw4576331281999504734:=()
def tw12786105414113782908:=()
def tw8841666080673435214:=()
def tw11645215626729412263:=()
def tw16514032887970387173:=()
def tw17911176235625252276:=()
def tw7484574837309732882:=()
def tw1728436385619364068:=()
def tw11139613836584090302:=()
def tw5585884259052937465:=()
def tw16431040676611896704:=()
def tw17779622412783889232:=()
def tw11439247279425718640:=()
def tw5347133413176500272:=()
def tw15108285132019414666:=()
def tw17328829695443782089:=()
def tw1033540342115206537:=()
def tw18191216954634809099:=()
def tw8406824395950377449:=()
def tw15883840452212486404:=()
def tw4761127540123163620:=()
def tw12708300478186170893:=()
def tw17739223805907475358:=()
def tw1902223140242621985:=()
def tw13075122755865826563:=()
def tw17830228941561239066:=()
def tw13805981504440187501:=()
def tw9933243235797019619:=()
def tw10392514697547475703:=()
def tw18214316839591573832:=()
def tw3527308719042201926:=()
def tw681028196500906092:=()
def tw667399687004679440:=()
def tw4896054845480308575:=()
def tw1796507988899064732:=()
def tw4125687609437551713:=()
def tw1960811249269322050:=()
def tw1877018778728057710:=()
def tw977827883043007700:=()
def tw17481708803820389064:=()
def tw14493990899921018736:=()
def tw14218288471742674078:=()
def tw3396909593811620309:=()
def tw9043290518255986179:=()
def tw7839833944394763044:=()
def tw15042853706491533877:=()
def tw6067561539566176874:=()
def tw8022646260769731179:=()
def tw14240632713640024497:=()
def tw1172997203720434169:=()
def tw16875688460772453615:=()
def tw12192807149617943082:=()
def tw15544204380028904161:=()
def tw9324417065299069845:=()
def tw6779702351774417515:=()
def tw17228114965680313392:=()
def tw2555025812914096694:=()
def tw4260009469500891277:=()
def tw9640717852179416759:=()
def tw3490553621668108064:=()
def tw13774363219927243294:=()
def tw16403144072584726315:=()
def tw18338390704159624129:=()
def tw14680457566083931252:=()
def tw10657180010286301506:=()
def tw10095603198324000628:=()
def tw984963579398777162:=()
def tw1114953601428157922:=()
def tw17703672839846893014:=()
def tw17726174034006297000:=()
def tw15831348022147773539:=()
def tw15682698922278977070:=()
def tw13586123501791954418:=()
def tw14908990039608943922:=()
def tw14986383258383383353:=()
def tw9392011927247949162:=()
def tw4430379510773716547:=()
def tw7668075157052066961:=()
def tw5400935369309080708:=()
def tw6275559136656998260:=()
def tw10960195980388345266:=()
def tw4518483265863473488:=()
def tw10799779350199413442:=()
def tw3145919139468960912:=()
def tw11922669795128344632:=()
def tw2937270427742215449:=()
def tw4879693765979310069:=()
def tw4510725567325957889:=()
def tw1262865769570839537:=()
def tw866486702091212320:=()
def tw13262513988843448616:=()
def tw9562906881664868739:=()
def tw16211233701738646150:=()
def tw2259449365752429853:=()
def tw18330593955918749639:=()
def tw11847932315751259537:=()
def tw10135048799720536836:=()
def tw136977864600215634:=()
def tw15314017454782941152:=()
def tw7338297632449710571:=()
def tw15175311366326627357:=()
def tw8034314071686518380:=()
def tw14966956899418356116:=()
def tw4731737088536769867:=()
def tw12181556149679004989:=()
def tw11845009397927633872:=()
def tw18117686721647817160:=()
def tw3691818827762743903:=()
def tw16352357772460802865:=()
def tw12596610902795054110:=()
def tw17606825526985286853:=()
def tw16394771443858412144:=()
def tw11184802226162105893:=()
def tw9060239481808904136:=()
def tw1552763062707017715:=()
def tw16324780433250275486:=()
def tw18312774321126696584:=()
def tw7814501679825234967:=()
def tw12888166759539926665:=()
def tw17416734596816214824:=()
def tw16835729969167527791:=()
def tw2048635645990186691:=()
def tw11697269775520939780:=()
def tw13904176772367622771:=()
def tw8654476314074631172:=()
def tw16129472450002224422:=()
def tw10686850706149441965:=()
def tw6836905717070126457:=()
def tw5346557288459011992:=()
def tw4162170743214912598:=()
def tw6009468600730195554:=()
def tw10089604177345202308:=()
def tw5767994633211560144:=()
def tw5346930276199184786:=()
def tw5618266757909633183:=()
def tw7993425581720134118:=()
def tw8481976863673485848:=()
def tw7027307827448987947:=()
def tw14938676079959032718:=()
def tw17041705431324023659:=()
def tw13332125513966255233:=()
def tw5259463349212557717:=()
def tw6320131790251403730:=()
def tw16104372934872422663:=()
def tw17410066434164140645:=()
def tw18154623981183460318:=()
def tw7600749256147739564:=()
def tw8303763866461742546:=()
def tw13217808953649218158:=()
def tw8090328825144786648:=()
def tw9314462104758249074:=()
def tw8135899643947821507:=()
def tw2020723581077083931:=()
def tw17612066104151709933:=()
def tw17470326228495479556:=()
def tw8483923026695904729:=()
def tw6188453064498712848:=()
def tw12502344727895495825:=()
def tw11267853603155367167:=()
def tw16649614267818459149:=()
def tw2772194556136370343:=()
def tw7428399317789653318:=()
def tw13671191226513959006:=()
def tw794164738002289345:=()
def tw12477079282247073761:=()
def tw1079260964863402149:=()
def tw10118025588408974335:=()
def tw10156662566143612426:=()
def tw3774169332941998575:=()
def tw7012589919294296:=()
def tw14885272087572597448:=()
def tw2254226030525096304:=()
def tw1892811240663780691:=()
def tw15688875039304847787:=()
def tw3921846263455771934:=()
def tw5750342059122195461:=()
def tw16734178085884089229:=()
def tw5573044592693222519:=()
def tw14461051844157156071:=()
def tw5953030703828407221:=()
def tw2349429155885498544:=()
def tw3965217855077562353:=()
def tw8801266879726648537:=()
def tw16854425559983767304:=()
def tw15992323472898940638:=()
def tw4323045974108180184:=()
def tw1448483826227379045:=()
def tw748456730990930808:=()
def tw2581267319628543651:=()
def tw8130407721774779953:=()
def tw8717918695649937:=()
def tw18155705625404405264:=()
def tw17215817214629185129:=()
def tw2234480030701672581:=()
def tw15029133619332666817:=()
def tw2508671011714299163:=()
def tw4279910555392500027:=()
def tw15220575900848702229:=()
def tw10166420835042738777:=()
def tw17123997677675586796:=()
def tw7992651177903842152:=()
def tw5278602731344926445:=()
def tw123855319157096533:=()
def tw15496063533418352237:=()
def tw18223712649711307356:=()
def tw1899403198596134995:=()
def tw9752446184468488412:=()
def tw7204376232476237253:=()
def tw7585910184384371294:=()
def tw15803970123823843853:=()
def tw4756148275087657584:=()
def tw5285918969027348503:=()
def tw11825790662103560102:=()
def tw13380769780650066818:=()
def tw6782016784129531131:=()
def tw4365185875329558381:=()
def tw1603757642862636104:=()
def tw9854948453795501482:=()
def tw12966671794480801544:=()
def tw10281295546428637230:=()
def tw11620958038842070341:=()
def tw1932064450894251126:=()
def tw2425141967137055743:=()
def tw10057720319028520686:=()
def tw9904099602734308349:=()
def tw7449285330933273818:=()
def tw13101692852483972114:=()
def tw10162311582257310169:=()
def tw5731916953969668840:=()
def tw17180038443309366221:=()
def tw8781881935470929417:=()
def tw12515838081234428737:=()
def tw14962399975790011147:=()
def tw14433295759557098628:=()
def tw12509850910687752209:=()
def tw3428569067849679429:=()
def tw3268260936161924985:=()
def tw4903470503907019099:=()
def tw2230521918466261161:=()
def tw13876671881849721822:=()
def tw7561890493608464913:=()
def tw15881550505844495900:=()
def tw95508455640275078:=()
def tw5914575701615088984:=()
def tw16544411496509424115:=()
def tw2760740980985882858:=()
def tw8558372325257331823:=()
def tw4845183331559089424:=()
def tw4578221852125591772:=()
def tw11383322063664254916:=()
def tw8111893823448571209:=()
def tw3516454728396397118:=()
def tw15062552715649767602:=()
def tw3978893951890871153:=()
def tw3072826131352089375:=()
def tw5123215607791611684:=()
def tw13745097788880572123:=()
def tw474767262643302033:=()
def tw12336718625701151216:=()
def tw10170476505176465867:=()
def tw14143746182618639139:=()
def tw5904332388752242698:=()
def tw14536296049862698617:=()
def tw16270222053263291698:=()
def tw13519771398919115926:=()
def tw3518532248940676258:=()
def tw4510391270712867768:=()
def tw12739678275652192058:=()
def tw10755391278337478733:=()
def tw6872519840063744334:=()
def tw17940513065800876099:=()
def tw2261479349296285902:=()
def tw14308258534287624772:=()
def tw9411956141624775972:=()
def tw18392992618302391818:=()
def tw14167694377774469095:=()
def tw11942897696392034006:=()
def tw515931679930976449:=()
def tw16128438628897884851:=()
def tw15625704521081388567:=()
def tw6798641185838378880:=()
def tw1743213836396283453:=()
def tw13770354186657687442:=()
def tw6764396556645962552:=()
def tw10628051480020849859:=()
def tw13241791142385100151:=()
def tw10623352700932887869:=()
def tw5361800378082935760:=()
def tw15515775410844086069:=()
def tw16925548611966497606:=()
theorem te12200354128822913541:True:=trivial
end PySem.W.Fast
open PySem PySem.W PyProof.Rows
set_option maxRecDepth 100000 in
set_option maxHeartbeats 0 in
theorem PySem.Challenge.cw_helmsum_k83_whole_courses_keep_their_wis_holds : PySem.Challenge.rw_helmsum_k83_whole_courses_keep_their_wis.Holds := by
 w_on;o_law;k_head;(case hw=>w_witness2)
 k_fill
 refine Lw.walk (l:=PySem.Challenge.rw_helmsum_k83_whole_courses_keep_their_wis) rfl rfl (λw h Y=>PySem.W.kIn_of Y) ?F
 case F =>
  intro w mg fa h KX G hmg;refine' Lw.all_mk KX G hmg ?aC ?a0 ?l0 ?c0 ?k0 ?a1 ?l1 ?c1 ?k1 ?a2 ?l2 ?c2 ?k2 ?a3 ?l3 ?c3 ?k3 ?a4 ?l4 ?c4 ?k4 ?a5 ?l5 ?c5 ?k5 ?a6 ?l6 ?c6 ?k6 ?a7 ?l7 ?c7 ?k7 ?a8 ?l8 ?c8 ?k8 ?a9 ?l9 ?c9 ?k9 ?a10 ?l10 ?c10 ?k10 ?a11 ?l11 ?c11 ?k11 ?a12 ?l12 ?c12 ?k12 ?a13 ?l13 ?c13 ?k13 ?a14 ?l14 ?c14 ?k14 ?a15 ?l15 ?c15 ?k15 ?a16 ?l16 ?c16 ?k16 ?a17 ?l17 ?c17 ?k17 ?a18 ?l18 ?c18 ?k18 ?a19 ?l19 ?c19 ?k19 ?a20 ?l20 ?c20 ?k20 ?a21 ?l21 ?c21 ?k21 ?a22 ?l22 ?c22 ?k22 ?a23 ?l23 ?c23 ?k23 ?a24 ?l24 ?c24 ?k24 ?a25 ?l25 ?c25 ?k25 ?a26 ?l26 ?c26 ?k26 ?a27 ?l27 ?c27 ?k27 ?a28 ?l28 ?c28 ?k28 ?a29 ?i29 ?l29 ?c29 ?k29 ?a30 ?l30 ?c30 ?k30 ?a31 ?l31 ?c31 ?k31 ?a32 ?l32 ?c32 ?k32 ?a33 ?l33 ?c33 ?k33 ?a34 ?l34 ?c34 ?k34 ?a35 ?l35 ?c35 ?k35 ?a36 ?l36 ?c36 ?k36 ?a37 ?l37 ?c37 ?k37 ?ci0 ?ci1 ?ci2 ?pg ?hd ?po ?sa ?mk ?kc ?n_move ?n_states ?n_put ?n_ins ?n_look ?n_outs ?z_abs ?z_len ?z_min ?z_range ?z_int ?z_sum ?z_zip ?z_enumerate ?z_list ?z_reversed ?z_isinstance ?z_bool ?z_tuple ?z_all
  all_goals try k_is